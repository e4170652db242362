import PyProof.Rows.All
import Wide.All
import OpenK.AllK
import Wide.FinOn
import HandS.ForMost
import HandS.ForExc
import HandS.ExcInit
import HandS.ExcField
import HandS.IsInst
import HandS.ClsMeth
import HandS.ForSpec
import KE.GoesMore
import HandS.Style
import HandS.TupAny
import HandS.Zip
import HandS.MakeKwOnly
import KE.DataCmp
import HandS.CallSlots
import HandS.More
import HandS.Proxy
import PyProof.NeData
import HandS.Lambda
import KE.GoesZip
import PyProof.ToksMono
import HandS.Comp
import HandS.Replace
import HandS.ReplaceLit
import HandS.Call
import KE.GoesEnum
import PyProof.EnumMake
import HandS.WideBits
import HandS.Text
import HandS.Codes
import KE.IntTextLaws
import HandS.FStr
import HandS.Star
import HandS.StrMore
import HandS.RaiseMore
import PyProof.ReprLen
import PyProof.Rows.ReprOcc
import PyProof.FitsReplace
import PyProof.StrBlock2
import HandS.EndTab
import HandS.ExcIs
import PySem.Challenge.RW_beatflows_k73_terms_as_texts
set_option Elab.async false
set_option maxRecDepth 100000

/-! Own rules over the hand layer, for all laws of this program: calls by keywords alone, a base's __init__ by its class's name, several except clauses with names, repr of data. -/
namespace Bf
open PySem PySem.Spec PyProof.Rows L2

/-! ### f(k = v, ..) -/
section
variable {X : Cx} {CX : CXT} {k : Nat} {f : Addr} {fd : FuncData} {ps ks : List Str} {sp : Sp} {E : XK} {x : Str} {p pos : Pos} {kws : List Keyword} {tk : TA}
  {g : List Value → List Value → List Value} {gV : List V → List V → List V}
def tKw (sp : Sp) (gV : List V → List V → List V) (E : XK) (tk : TA) : TE := fun σ H Q => tk σ H fun zs H2 => sp (gV [] zs) H2 Q E
theorem pe_kw (F : FnOk X.prog X.w X.K X.mg X.base CX k f fd ps sp) (hr : Room k X.A) (hg : Gl X x) (hm : X.mg x = some (.ref f))
    (hk : PySem.W.keepIn X.K (.ref f) = true) (hb : KBinds X.K fd ps ks g gV) (hx : Passes CX X E) (hkw : PK X kws tk)
    (h1 : (backToKw pos (keywordEach kws X.env)).all (·.1.isSome) = true := by rfl)
    (h2 : (backToKw pos (keywordEach kws X.env)).filterMap (·.1) = ks := by rfl)
    (h3 : (x == ("__debug__" : Str)) = false := by decide)
    (h4 : ((backTo pos (starEach [] X.env)).any (·.1) || (backToKw pos (keywordEach kws X.env)).any (·.1.isNone)) = false := by rfl) :
    PE X (.Call (.Name x p) [] kws pos) (tKw sp gV E tk) := ⟨fun pins s σ H Q I h => by
  refine wpAny_Call_Name_kw (ld_glob I hg hm (PySem.W.callWith_KW0 (h₀ := X.base) I.ok.mod.kin hk h1 (thn (hkw.run pos pins s σ H _ I h) ?_) h4) h3)
  intro ws s2 q
  obtain ⟨zs, H2, I2, rz, q2⟩ := q
  refine ⟨I2.kIn, ?_⟩
  rw [h2]
  exact run_fnk (us := []) (vs := []) F hr hb hx I2 .nil rz q2⟩
end

/-! ### C.m(e, ..), C a class of the text, m a def of it -/
section
variable {X : Cx} {CX : CXT} {k : Nat} {f C : Addr} {fd : FuncData} {ps : List Str} {sp : Sp} {E : XK} {x m : Str} {p1 p2 pos : Pos} {e : Expr} {es : List Expr} {t : TA} {mc : Value}
theorem pe_clsFn {pl : Sem Bool} (F : FnOk X.prog X.w X.K X.mg X.base CX k f fd ps sp) (hr : Room k X.A) (hg : Gl X x) (hm : X.mg x = some (.ref C))
    (rd : ClX.CRead X.K C mc) (va : PySem.W.findCls X.K (.ref C) mc m = some (.val (.ref f))) (hk : PySem.W.keepIn X.K (.ref f) = true) (hb : Binds X.K fd ps []) (hx : Passes CX X E) (ha : PA X (e :: es) t)
    (hc : eval (.Call (.Attribute (.Name x p1) m p2) (e :: es) [] pos) X.env = (do
      let ov ← eval (.Name x p1) X.env
      standAt p2.atName
      let (g, first) ← holding [ov] (getMethod ov m pl)
      callWith pos g first (backTo pos (starEach (e :: es) X.env)) (backToKw pos (keywordEach [] X.env))) := by rfl)
    (hdb : (x == ("__debug__" : Str)) = false := by decide)
    (he : starEach (e :: es) X.env = (false, eval e X.env) :: starEach es X.env := by rfl) (hpl : (backTo pos (starEach es X.env)).any (·.1) = false := by rfl) :
    PE X (.Call (.Attribute (.Name x p1) m p2) (e :: es) [] pos) (tCall sp [] E t) := ⟨fun pins s σ H Q I h => by
  refine PySem.W.methodCall_KW (ld_glob I hg hm ?_ hdb) hc
  refine PySem.W.method_cls I.kIn rd.ga (PySem.W.cls_value I.kIn rd.rd va rfl ?_)
  have I' := I.tok (X := X) (s.toks + 1)
  exact PySem.W.callWith_K (h₀ := X.base) I.ok.mod.kin hk (thn (ha.run pos pins _ σ H _ I' h) fun us s1 ⟨vs, H1, I1, r, q⟩ => ⟨I1.kIn, run_fn F hr hb .nil hx I1 r q⟩) he hpl⟩
end

/-! ### try: body, several clauses «except C as n: suite»; what follows them is never reached -/
structure Arm where
  c : Value
  i : Nat
  ts : Addr → Value → Option Addr → TS
/-- behind a suite the clause's name is gone -/
def Gone (i : Nat) (D : Ends) : Ends where
  nx := fun σ H => D.nx (σ.set i none) H
  rt := D.rt
  bk := fun σ H => D.bk (σ.set i none) H
  ct := fun σ H => D.ct (σ.set i none) H
def wArms (K : PySem.W.Frag) (D : Ends) : List Arm → WX
  | [] => fun _ _ _ _ => False
  | m :: r => fun cls d σ H => ∃ b, PySem.W.exmOne K cls m.c = some b ∧ (b = true → ∀ a, H a = none → m.ts a cls d (Gone m.i D) (σ.set m.i (some (.ref a))) H) ∧ (b = false → wArms K D r cls d σ H)
inductive Arms (X : Cx) : List ExceptHandler → List Arm → Prop
  | nil {hds : List ExceptHandler} : Arms X hds []
  | cons {x n : Str} {c : Value} {i : Nat} {ts : Addr → Value → Option Addr → TS} {b0 : Stmt} {suite : List Stmt} {np pos' : Pos} {hds : List ExceptHandler} {l : List Arm}
      (hc : Names X x c) (hi : X.N[i]? = some n) (hl : X.env.kindOf n = some .local)
      (hsu : ∀ (a : Addr) (oe : Obj) (cls : Value) (d : Option Addr) (pn : List (Addr × Obj)), Zc cls d oe → (∃ vs, oe.data = .fields vs) → PSs (X.suite a ((a, oe) :: pn)) (b0 :: suite) (ts a cls d))
      (r : Arms X hds l) : Arms X (.ExceptHandler (some (.Name x np)) (some n) (b0 :: suite) pos' :: hds) (⟨c, i, ts⟩ :: l)

section
variable {X : Cx} {pins : List (Addr × Obj)} {σ : L2.St} {H : Hp} {sI s' : Shared} {B : Heap} {a : Addr} {cls : Value} {d : Option Addr} {D : Ends}
/-- an exception noted and landed meets the clauses -/
theorem arms_go (hs : X.stack = X.env :: X.outer) (hf : X.env.frame = some X.env.locals) (hN : X.N.Nodup) (J : L2.Inv X pins σ H sI) (na : H a = none)
    (nb : ∀ b o, sI.heap.get? b = some o → b ∉ frs X.stack → B.get? b = some o) (os : s'.os = sI.os) (ag : AllBare s'.gens) (up : sI.heap.UpToSlots s'.heap)
    (fl : HandSPX.FlyingZ B (X.env :: X.outer) a (Zc cls d) s'.heap) {hds : List ExceptHandler} {l : List Arm} (hh : Arms X hds l) (w : wArms X.K D l cls d σ H) :
    wpAny (model X.prog X.w) X.A (handleBy (.ref a) X.env hds) (SP X pins D) X.xe s' := by
  induction hh with
  | nil => exact w.elim
  | @cons x n c i ts b0 suite np pos' hds' l' hc hi hl hsu r ih =>
    obtain ⟨b, hb, yes, no⟩ := w
    -- what stands in the heap of the exception, wherever it has landed
    have site : ∀ {h : Heap}, HandSPX.FlyingZ B (X.env :: X.outer) a (Zc cls d) h → sI.heap.UpToSlots h →
        ∃ oe vs, h.get? a = some oe ∧ Zc cls d oe ∧ oe.data = .fields vs ∧ L2.Inv (X.suite a ((a, oe) :: (X.pn ++ pins))) [] σ H { s' with heap := h } := fun {h} z u => by
      obtain ⟨oe, vs, e1, e2, e3⟩ := z.there
      have nofr : a ∉ frs (X.env :: X.outer) := fun hm => by
        obtain ⟨_, o', e', hnf⟩ := z.2.2.1.mem hm
        rw [e1] at e'
        cases e'
        exact hnf _ e3
      refine ⟨oe, vs, e1, e2, e3, (J.landed (s' := { s' with heap := h }) nb z.1 u os ag).suite e1 e3 na (fun z => nofr (List.mem_filterMap.mpr ⟨X.env, List.mem_cons_self, by rw [hf, z]⟩)) fun hm => nofr ?_⟩
      obtain ⟨e, he, q⟩ := List.mem_filterMap.mp hm
      exact List.mem_filterMap.mpr ⟨e, List.mem_cons_of_mem _ he, q⟩
    obtain ⟨oe, vs, e1, e2, e3, S⟩ := site fl up
    refine wpAny_handleBy_cons (codeAny_handlers_test ?_) (fun q => nomatch q)
    have ty : PySem.W.Looks (model X.prog X.w) s'.heap (typeOf (.ref a)) cls := fun A Q E s k q => wpAny_typeOf_ref (k _ _ e1) (by rw [e2.1]; exact q)
    have mt := PySem.W.exm_one (M := model X.prog X.w) S.kIn ty hb
    have nm : ∀ {Q : Value → Shared → Prop} {E : Value → Shared → Prop}, Q c s' → wpAny (model X.prog X.w) (X.A.mark (some (.ref a))) (eval (.Name x np) X.env) Q E s' := fun {Q E} q =>
      hc.2.2.elim (fun hm => ld_glob (X := X.suite a ((a, oe) :: (X.pn ++ pins))) S hc.1 hm q hc.2.1) fun hm => ld_blt (X := X.suite a ((a, oe) :: (X.pn ++ pins))) S hc.1 hm.1 hm.2.1 q hm.2.2 hc.2.1
    refine nm (mt.here ?_)
    cases b with
    | false => exact ih (no rfl)
    | true =>
      refine codeAny_handlers_suite_as (HandSPX.lands_againZ fl fun h4 fl4 up4 => ?_)
      obtain ⟨oe4, vs4, g1, g2, g3, S4⟩ := site fl4 (up.trans up4)
      refine store_ok (X := X.suite a ((a, oe4) :: (X.pn ++ pins))) (v := .ref a) S4 hN hi (.inl hl) rfl (fun s5 S5 => ?_) (.inr hl)
      refine wpAny_mono ((hsu a oe4 cls d (X.pn ++ pins) g2 ⟨_, g3⟩).run [] s5 _ H _ S5 (yes rfl a na)) (fun f s6 sp => ?_) (fun _ _ z => z.elim)
      have fin : ∀ {σ6 : L2.St} {H6 : Hp} {R : Shared → Prop}, L2.Inv (X.suite a ((a, oe4) :: (X.pn ++ pins))) [] σ6 H6 s6 → (∀ s7, L2.Inv X pins (σ6.set i none) H6 s7 → R s7) →
          wpAny (model X.prog X.w) X.A (do bindName X.env n .none; unbindBehindTheSuite X.env n pos') (fun _ s7 => R s7) X.xe s6 := fun {_ _ _} S6 q => gone_ok (S6.unsuite J.ok) hN hi hl q
      cases f with
      | next => exact let ⟨_, _, S6, q6⟩ := sp; fin S6 fun _ J7 => ⟨_, _, J7, q6⟩
      | brk => exact let ⟨_, _, S6, q6⟩ := sp; fin S6 fun _ J7 => ⟨_, _, J7, q6⟩
      | cont => exact let ⟨_, _, S6, q6⟩ := sp; fin S6 fun _ J7 => ⟨_, _, J7, q6⟩
      | ret u => exact let ⟨_, _, _, S6, r6, q6⟩ := sp; fin S6 fun _ J7 => ⟨_, _, _, J7, r6, q6⟩
end
section
variable {X : Cx} {body : List Stmt} {h0 : ExceptHandler} {hds : List ExceptHandler} {l : List Arm} {pos : Pos} {tb : WX → TS}
theorem ps_arms (hs : X.stack = X.env :: X.outer) (hf : X.env.frame = some X.env.locals) (hN : X.N.Nodup)
    (hb : ∀ (W : WX) (pn : List (Addr × Obj)) (xe : Value → Shared → Prop), Takes (X.tr pn xe) W → PassesOwn (model X.prog X.w) X.A X.env xe → PSs (X.tr pn xe) body (tb W))
    (hh : Arms X (h0 :: hds) l) : PS X (.Try body (h0 :: hds) [] [] pos) (fun D σ H => tb (wArms X.K D l) D σ H) := ⟨fun pins s σ H D I h => by
  have fr : X.A.frames = some (X.env :: X.outer) := I.ok.frames.trans (by rw [hs])
  refine wpAny_Try_except (wpAny_mono ((hb (wArms X.K D l) (X.pn ++ pins) (fun e t1 => wpAny (model X.prog X.w) X.A (noteFrame e X.env) (fun _ t2 => wpAny (model X.prog X.w) X.A (setFlight e none)
    (fun _ t3 => wpAny (model X.prog X.w) X.A (handleBy e X.env (h0 :: hds)) (SP X pins D) X.xe t3) X.xe t2) X.xe t1) (fun u s' q => ?_) PassesOwn.looking).run [] s σ H D (I.toTry _) h) (fun f s1 q => ?_) fun _ _ z => z)
  · obtain ⟨a, B, sI, pins', σ', H', cls, d, rfl, J, nb, up, sky, na, os, ag, w⟩ := q
    refine Sky.land Zc.steady fr hf (show Sky B (X.env :: X.outer) a (Zc cls d) X.env.locals s'.heap from by rw [← hs]; exact sky) fun h3 fl up3 => ?_
    exact arms_go (s' := { s' with heap := h3 }) hs hf hN (J.ofTry I.ok) na nb os ag (up.trans up3) fl hh w
  · cases f with
    | next => exact let ⟨_, _, J, z⟩ := q; wpAny_execs_nil ⟨_, _, J.ofTry I.ok, z⟩
    | brk => exact let ⟨_, _, J, z⟩ := q; ⟨_, _, J.ofTry I.ok, z⟩
    | cont => exact let ⟨_, _, J, z⟩ := q; ⟨_, _, J.ofTry I.ok, z⟩
    | ret u => exact let ⟨_, _, _, J, r, z⟩ := q; ⟨_, _, _, J.ofTry I.ok, r, z⟩⟩
end
end Bf

/-! Own rules: defs that call repr. A repr asks that none is under way around it (Around.guards); the promise FnG is given under that. -/
namespace Bf
open PySem PySem.Spec PyProof.Rows L2

/-! ### promises where no repr is under way -/
structure FnG (P : Program) (w : World) (K : PySem.W.Frag) (mg : Str → Option Value) (base : Heap) (CX : CXT) (k : Nat) (f : Addr) (fd : FuncData) (ps : List Str) (sp : Sp) : Prop where
  len : ∀ vs H Q E, sp vs H Q E → vs.length = ps.length
  go : ∀ (A : Around) (outer : List Env) (s : Shared) (H : Hp) (args : Args) (us : List Value) (vs : List V) (Q : VK) (E : XK), A.guards = some [] → Room k A →
    Env0 P w K mg base A outer s H → BindsTo s fd args (ps.zip us) → Vals vs us → sp vs H Q E → codeAny (model P w) A (.call (.ref f) args) (CR CX outer P w H s Q E) s

section
variable {P : Program} {w : World} {K : PySem.W.Frag} {mg : Str → Option Value} {base : Heap} {CX : CXT}
theorem Fun.okG {x qual : Str} {st : Stmt} {f : Addr} {fd : FuncData} {N ps : List Str} {k : Nat} {sp : Sp} (F : Fun K x qual st f fd) (S : FnScope N ps (defScope st))
    (len : ∀ vs H Q E, sp vs H Q E → vs.length = ps.length)
    (hbody : ∀ (cdv : Value) (A : Around) (outer : List Env) (s : Shared) (H : Hp) (vs : List V) (Q : VK) (E : XK), A.guards = some [] → Room k (A.deeper (envOfC qual (defScope st) s.heap.objs.size f cdv)) → sp vs H Q E →
      ∃ t, PSs (cxOf CX P w K mg base N qual (defScope st) f cdv A outer s H E) (defBody st) t ∧ t { nx := fun _ H' => Q .non H', rt := Q } (start N vs) H) :
    FnG P w K mg base CX (k + 1) f fd ps sp := by
  obtain ⟨oc, od, kV, doc, pm, an, cdv, ct, osl, rfl, lk, hcd⟩ := F.ex
  refine ⟨len, fun A outer s H args us vs Q E hA hr e0 hb r hsp => ?_⟩
  have bk : ∀ b o, base.get? b = some o → s.heap.get? b = some o := fun b o e => (e0.bs b o e).1
  have KX := e0.mod.kin.keeps bk
  refine codeAny_call_function hr.depth (KX _ _ lk) rfl S.co S.gen rfl (PySem.W.codeRec_of KX hcd) (hb _ _ _ _ (wpAny_newFunctionEnv_cells S.kind (fun y hy => ?_) fun env he s1 x => ?_))
  · rcases S.par y.1 (List.of_mem_zip (show (y.1, y.2) ∈ _ from hy)).1 with q | q
    · exact .inl q
    · exact .inr ⟨q, PySem.W.cellsFrom_some _ _ _ (.inl q)⟩
  · cases he
    obtain ⟨t, ht, hq⟩ := hbody cdv A outer s H vs Q E hA (hr.deeper _) hsp
    refine ⟨(e0.mod.nolimit.keeps bk).keeps x.toInCall.keep, codeAny_func (wpAny_mono (ht.run [] s1 _ H _ (inv_start S hr.hd e0 (len _ _ _ _ hsp) r x) hq) (fun fl s' z => ?_) fun _ _ z => z)⟩
    cases fl with
    | next => exact let ⟨_, H', J, q⟩ := z; ⟨.non, H', J.os, J.bare, J.base, J.hok, rfl, q⟩
    | ret u => exact let ⟨v, _, H', J, rv, q⟩ := z; ⟨v, H', J.os, J.bare, J.base, J.hok, rv, q⟩
    | brk => exact let ⟨_, _, _, q⟩ := z; q.elim
    | cont => exact let ⟨_, _, _, q⟩ := z; q.elim
end
section
variable {X : Cx} {CX : CXT} {k : Nat} {f : Addr} {fd : FuncData} {ps : List Str} {sp : Sp} {E : XK} {x : Str} {p pos : Pos} {e : Expr} {es : List Expr} {t : TA}
theorem pe_callG (F : FnG X.prog X.w X.K X.mg X.base CX k f fd ps sp) (hA : X.A.guards = some []) (hr : Room k X.A) (hg : Gl X x) (hm : X.mg x = some (.ref f)) (hk : PySem.W.keepIn X.K (.ref f) = true)
    (hb : Binds X.K fd ps []) (hx : Passes CX X E) (ha : PA X (e :: es) t) (hdb : (x == ("__debug__" : Str)) = false := by decide)
    (he : starEach (e :: es) X.env = (false, eval e X.env) :: starEach es X.env := by rfl) (hpl : (backTo pos (starEach es X.env)).any (·.1) = false := by rfl) :
    PE X (.Call (.Name x p) (e :: es) [] pos) (tCall sp [] E t) := ⟨fun pins s σ H Q I h => by
  refine wpAny_Call_Name_kw (ld_glob I hg hm (PySem.W.callWith_K (h₀ := X.base) I.ok.mod.kin hk (thn (ha.run pos pins s σ H _ I h) fun us s1 ⟨vs, H1, I1, r, q⟩ => ⟨I1.kIn, ?_⟩) he hpl) hdb)
  have q : sp (vs ++ []) H1 Q E := q
  rw [List.append_nil] at q
  have hl : us.length = ps.length := r.length.symm.trans (F.len _ _ _ _ q)
  have bd : BindsTo s1 fd ⟨us, []⟩ (ps.zip us) := by
    have z := hb s1 us I1.kIn (by rw [List.append_nil]; exact hl)
    rw [List.append_nil] at z
    exact z
  refine wpAny_call (codeAny_mono (F.go X.A X.stack s1 H1 ⟨us, []⟩ us vs Q E hA hr I1.env0 bd r q) fun r s' hq => ?_)
  cases r with
  | error e => exact hx pins σ H1 s1 e s' I1 hq
  | ok fl =>
    cases fl with
    | ret u => exact I1.after hq
    | next => exact hq.elim
    | brk => exact hq.elim
    | cont => exact hq.elim⟩
end

/-! ### data as repr shows it -/
mutual
/-- x stands for the data d; every list, tuple and dict in it is tracked, at an address of which P holds; b: there may be an empty dict in it, then no list is the module table -/
inductive Sh (H : Hp) (P : Addr → Prop) (b : Bool) : V → PyData → Prop
  | non : Sh H P b .non .none
  | bl (c : Bool) : Sh H P b (.bl c) (.bool c)
  | int (i : Int) : Sh H P b (.int i) (.int i)
  | str (z : Str) : Sh H P b (.str z) (.str z)
  | lst {a : Addr} {xs : List V} {ds : List PyData} (h : H a = some (.lst xs)) (p : P a) (q : b = true → a ≠ sysModules) (r : ShAll H P b xs ds) : Sh H P b (.ref a) (.list ds)
  | tup {a : Addr} {xs : List V} {ds : List PyData} (h : H a = some (.tup xs)) (p : P a) (r : ShAll H P b xs ds) : Sh H P b (.ref a) (.tuple ds)
  | emp {a : Addr} (hb : b = true) (h : H a = some (.dK [])) (p : P a) : Sh H P b (.ref a) (.dict [])
inductive ShAll (H : Hp) (P : Addr → Prop) (b : Bool) : List V → List PyData → Prop
  | nil : ShAll H P b [] []
  | cons {v : V} {vs : List V} {d : PyData} {ds : List PyData} (h : Sh H P b v d) (r : ShAll H P b vs ds) : ShAll H P b (v :: vs) (d :: ds)
end

section
variable {X : Cx} {pins : List (Addr × Obj)} {σ : L2.St} {H : Hp} {s : Shared} {P : Addr → Prop} {b : Bool}
mutual
theorem Sh.reads (I : L2.Inv X pins σ H s) : ∀ (d : PyData) (v : V) (u : Value), Sh H P b v d → RelV v u → ∃ as, Reads s.heap u d as ∧ (b = true → ∀ a ∈ as, a ≠ sysModules)
  | .none, _, _, h, r => by
    cases h; cases r
    exact ⟨_, .none, fun _ _ z => nomatch z⟩
  | .bool c, _, _, h, r => by
    cases h; cases r
    exact ⟨_, .bool c, fun _ _ z => nomatch z⟩
  | .int i, _, _, h, r => by
    cases h; obtain ⟨t, rfl⟩ := r
    exact ⟨_, .int i t, fun _ _ z => nomatch z⟩
  | .str x, _, _, h, r => by
    cases h; obtain ⟨t, rfl⟩ := r
    exact ⟨_, .str x t, fun _ _ z => nomatch z⟩
  | .list ds, _, _, h, r => by
    cases h with
    | lst h p q ha =>
      cases r
      obtain ⟨_, its, n, rv, e⟩ := I.hok _ _ h
      obtain ⟨as, hr, hp⟩ := Sh.readsAll I ds _ its ha rv
      exact ⟨_, .list e rfl rfl hr, fun hb a z => (List.mem_cons.mp z).elim (fun y => y ▸ q hb) (hp hb a)⟩
  | .tuple ds, _, _, h, r => by
    cases h with
    | tup h p ha =>
      cases r
      obtain ⟨_, its, rv, o, e1, e2, n, e3⟩ := I.hok _ _ h
      obtain ⟨as, hr, hp⟩ := Sh.readsAll I ds _ its ha rv
      exact ⟨_, .tuple e1 e2 e3 hr, hp⟩
  | .dict _, _, _, h, r => by
    cases h with
    | emp hb h p =>
      cases r
      obtain ⟨_, sm, vs, kv, o, es, ep, e1, e2, e3, _, e4, _⟩ := I.hok _ _ h
      cases kv
      have en : es.toList = [] := by
        cases q : es.toList with
        | nil => rfl
        | cons x r => rw [q] at e4; cases e4
      refine ⟨_, .dict e1 e2.1 e3 (kvs := []) (as := []) (bs := []) (by rw [en]; exact .nil) (by rw [en]; exact .nil), fun _ a z => ?_⟩
      rcases List.mem_cons.mp z with e | e
      · exact e ▸ beq_eq_false_iff_ne.mp sm
      · cases e
theorem Sh.readsAll (I : L2.Inv X pins σ H s) : ∀ (ds : List PyData) (vs : List V) (us : List Value), ShAll H P b vs ds → Vals vs us → ∃ as, ReadsAll s.heap us ds as ∧ (b = true → ∀ a ∈ as, a ≠ sysModules)
  | [], _, _, h, r => by
    cases h; cases r
    exact ⟨_, .nil, fun _ _ z => nomatch z⟩
  | d :: ds, _, _, h, r => by
    cases h with
    | cons h1 h2 =>
      cases r with
      | cons r1 r2 =>
        obtain ⟨as, q1, p1⟩ := Sh.reads I d _ _ h1 r1
        obtain ⟨bs, q2, p2⟩ := Sh.readsAll I ds _ _ h2 r2
        exact ⟨_, .cons q1 q2, fun hb a z => (List.mem_append.mp z).elim (p1 hb a) (p2 hb a)⟩
end
end
mutual
theorem Sh.nodict {H : Hp} {P : Addr → Prop} : ∀ (d : PyData) (v : V), Sh H P false v d → d.hasDict = false
  | .none, _, _ => by simp only [PyData.hasDict]
  | .bool _, _, _ => by simp only [PyData.hasDict]
  | .int _, _, _ => by simp only [PyData.hasDict]
  | .str _, _, _ => by simp only [PyData.hasDict]
  | .list ds, _, h => by
    cases h with
    | lst _ _ _ r => simp only [PyData.hasDict]; exact ShAll.nodict ds _ r
  | .tuple ds, _, h => by
    cases h with
    | tup _ _ r => simp only [PyData.hasDict]; exact ShAll.nodict ds _ r
  | .dict _, _, h => by
    cases h with
    | emp hb _ _ => cases hb
theorem ShAll.nodict {H : Hp} {P : Addr → Prop} : ∀ (ds : List PyData) (vs : List V), ShAll H P false vs ds → PyData.hasDictAll ds = false
  | [], _, _ => by simp only [PyData.hasDictAll]
  | d :: ds, _, h => by
    cases h with
    | cons h r =>
      simp only [PyData.hasDictAll, Sh.nodict d _ h, ShAll.nodict ds _ r, Bool.or_self]
end
section
variable {X : Cx}
/-- repr(x) -/
def rRepr : List V → Hp → VK → Prop := fun xs H Q => ∃ (x : V) (P : Addr → Prop) (b : Bool) (d : PyData), xs = [x] ∧ Sh H P b x d ∧ d.showable = true ∧ d.depth ≤ 60 ∧ d.shown.length ≤ sizeLine ∧ Q (.str d.shown) H
theorem call_repr (hA : X.A.guards = some []) (hu : X.A.units + 64 < cLine) : CallR X (.builtin "repr") rRepr := by
  intro pins s σ H xs us Q I r h
  obtain ⟨x, P, b, d, rfl, hs, sw, dp, sz, q⟩ := h
  obtain ⟨u, rfl, rx⟩ := vals1 r
  obtain ⟨as, rd, hp⟩ := Sh.reads I d x u hs rx
  have nodict : d.hasDict = true → sysModules ∉ as := fun hd z => by
    cases b with
    | false => rw [Sh.nodict d x hs] at hd; cases hd
    | true => exact hp rfl _ z rfl
  have fin : ∀ (t : Tok) (tk : Nat), EP X pins σ Q (.str d.shown t) { s with toks := tk } := fun t tk => ⟨.str d.shown, H, I.tok tk, ⟨t, rfl⟩, q⟩
  have finH : ∀ h' t tk, (∀ b o, s.heap.get? b = some o → h'.get? b = some o) → EP X pins σ Q (.str d.shown t) { s with heap := h', toks := tk } := fun h' t tk k => ⟨.str d.shown, H, I.kept k, ⟨t, rfl⟩, q⟩
  have big : ∀ {a : Addr}, u = .ref a → wpAny (model X.prog X.w) X.A (call (.builtin "repr") [u]) (EP X pins σ Q) X.xe s := fun {a} e => by
    subst e
    exact repr_of_reads' rd sw nodict hA (by omega) (fun _ _ z => z) finH sz
  cases rd with
  | none => exact PySem.P.repr_of_none (by have z := fin s.toks (s.toks + 1); simp only [PyData.shown] at z; exact z)
  | bool c => exact PySem.P.repr_of_bool (by have z := fin s.toks (s.toks + 1); simp only [PyData.shown] at z; exact z)
  | int i t => exact PySem.P.repr_of_int (by simpa [PyData.showable] using sw) (by have z := fin s.toks (s.toks + 1); simp only [PyData.shown] at z; exact z)
  | str z t => exact PySem.P.repr_of_str (by have z := fin s.toks (s.toks + 1); simp only [PyData.shown] at z; exact z) (by simp only [PyData.shown] at sz; exact sz)
  | list _ _ _ _ => exact big rfl
  | tuple _ _ _ _ => exact big rfl
  | dict _ _ _ _ _ => exact big rfl
/-- a list of written items, not the module table -/
def tLstN (t : TA) : TE := fun σ H Q => t σ H fun xs H1 => xs.length ≤ 1000 ∧ ∀ p, H1 p = none → p ≠ sysModules → Q (.ref p) (upd H1 p (.lst xs))
theorem pe_lstN {es : List Expr} {pos : Pos} {t : TA} (h : PA X es t) : PE X (.List es pos) (tLstN t) := ⟨fun pins s σ H Q I hq => by
  refine wpAny_List_spliced (thn (h.run pos pins s σ H _ I hq) fun us s1 z => ?_)
  obtain ⟨xs, H1, I1, r, sz, q⟩ := z
  have le : xs.length ≤ sizeLine := Nat.le_trans sz (by decide)
  refine ⟨r.length ▸ le, .ref s1.heap.objs.size, upd H1 s1.heap.objs.size (.lst xs), I1.laid (t' := s1.toks) (fun _ _ e => Heap.get?_push_of_some _ e) (Nat.le_refl _) ⟨le, us, 0, r, Heap.get?_push_size _ rfl⟩, rfl, ?_⟩
  exact q _ (I1.hok.fresh (Nat.le_refl _)) (Nat.ne_of_gt I1.big)⟩
end

/-! ### the law's end -/
section
open PySem.W
variable {l : PySem.W.OpenLaw} {n k : Nat} {q : Program} {loose : List Str} {XP : (Str → Option Value) → Heap → Prop} {YP : World → Heap → Prop} {d : DefRec} {K : Params → PySem.W.Frag} {sp : PySem.W.Frag → Sp} {x : Str}
theorem walkG (hn : l.most = some n) (hn2 : n ≤ 1000) (hdf : d.params.defaults = []) (hr : Room k callerA) (hY : ∀ (w : World) (h : Heap), YP w h → (K w.params).In h)
    (F : ∀ (w : World) (mg : Str → Option Value) (fa : Addr) (h : Heap), (K w.params).In h → h.Ns mainGlobals mg → mg d.name = some (.ref fa) →
      ∃ fd : FuncData, (∀ (s : Shared) (u : Value), BindsTo s fd ⟨[u], []⟩ [(x, u)]) ∧ ∀ base : Heap, (K w.params).In base → base.Ns mainGlobals mg → FnG l.prog w (K w.params) mg base CX0 k fa fd [x] (sp (K w.params)))
    (hsp : ∀ (K : PySem.W.Frag) (H : Hp) (a : Addr) (ns : List Int), ns.length ≤ n → SqL K H a (ns.map V.int) → (∀ b, H b = none ∨ b = a) → sp K [.ref a] H (fun v _ => v = .bl true) fun _ _ _ => False) :
    WalkO q loose XP YP l.row.toRowW d [] (fun f vs => PySem.call f vs) := by
  refine Att.attach_call hn hdf fun w s0 s1 mg mb fa o pm cd doc a vs ns G Y _ _ _ hmg ha hi hl hg => ?_
  have KX := hY w _ Y
  obtain ⟨fd, bind, go⟩ := F w mg fa _ KX G.T.g hmg
  have hle : ns.length ≤ sizeLine := Nat.le_trans hl (Nat.le_trans hn2 (by decide))
  have rv := vals_ints hi
  -- the abstract heap: the script, locked, unless it is the module's own
  have mid : ∀ H : Hp, SqL (K w.params) H a (ns.map V.int) → HOk l.prog w H s1.heap → (∀ b, H b = none ∨ (b = a ∧ (K w.params).lookup a = none ∧ ∃ o xs, H a = some (.frz o (.lst xs)))) →
      codeAny (model l.prog w) callerA (.call (.ref fa) ⟨[.ref a], []⟩) (fun r s' => r = .ok (.ret (.bool true)) ∧ OldK s1.heap s'.heap ∧ s'.os = s1.os ∧ AllBare s'.gens) s1 := fun H hS ok hA => by
    have nsK : ∀ {b : Addr} {m : Str → Option Value}, s1.heap.Ns b m → (hidT s1.heap H).Ns b m := fun {b m} z => by
      obtain ⟨o, es, ep, e, dd, r⟩ := z
      refine ⟨o, es, ep, hidT_get e ((hA b).resolve_right fun y => ?_), dd, r⟩
      rw [y.1, ha] at e
      cases e
      cases dd
    have kin : (K w.params).In (hidT s1.heap H) := fun b o e => hidT_get (KX b o e) ((hA b).resolve_right fun y => by
      rw [y.1, y.2.1] at e
      cases e)
    have md : Mod (K w.params) mg (hidT s1.heap H) := ⟨kin, nsK G.T.g, ⟨mb, nsK G.T.b, G.T.builtins⟩, let ⟨mc, h1, h2⟩ := G.T.nolimit; ⟨mc, nsK h1, h2⟩⟩
    refine codeAny_mono ((go _ kin (nsK G.T.g)).go callerA [] s1 H ⟨[.ref a], []⟩ [.ref a] [.ref a] _ _ rfl hr
      ⟨rfl, md, fun _ _ e => of_hidT e, Nat.le_of_eq (hidT_size _ _), trivial, (fun _ z => nomatch z), ok, .of_eq hg⟩ (bind s1 (.ref a)) (.cons rfl .nil) (hsp _ H a ns hl hS fun b => (hA b).imp_right (·.1))) fun r s' h => ?_
    cases r with
    | error e => exact h.elim
    | ok fl =>
      cases fl with
      | next => exact h.elim
      | brk => exact h.elim
      | cont => exact h.elim
      | ret u =>
        obtain ⟨v, H', os, bare, un, ok', rv', e⟩ := h
        cases (show v = .bl true from e)
        cases (show u = .bool true from rv')
        refine ⟨rfl, OldK.of_keep fun b o e => ?_, os, bare⟩
        rcases hA b with z | ⟨rfl, _, ob, xs, z⟩
        · exact un.keep b o e z (fun y => nomatch y) (fun y => nomatch y)
        · have e1 := (ok _ _ z).1
          rw [e] at e1
          cases e1
          exact (ok' _ _ (un.frzs _ _ _ z)).1
  cases hk : (K w.params).lookup a with
  | some o =>
    have e := KX a o hk
    rw [ha] at e
    cases e
    exact mid (fun _ => none) (.inr ⟨_, vs.toArray, _, hk, rfl, rfl, rfl, by rw [List.size_toArray, hi.length]; exact hle, by simpa using rv⟩) (fun _ _ z => nomatch z) fun _ => .inl rfl
  | none =>
    have at_ : ∀ b, b = a → (fun c => if c = a then some (HO.frz { cls := .type "list", data := .seq vs.toArray } (.lst (ns.map V.int))) else none) b = some (HO.frz { cls := .type "list", data := .seq vs.toArray } (.lst (ns.map V.int))) := fun b e => if_pos e
    refine mid (fun c => if c = a then some (.frz { cls := .type "list", data := .seq vs.toArray } (.lst (ns.map V.int))) else none) (.inl (.inr ⟨_, at_ a rfl⟩)) (fun b u z => ?_) fun b => ?_
    · by_cases hb : b = a
      · cases (at_ b hb).symm.trans z
        cases hb
        exact ⟨ha, by rw [List.length_map]; exact hle, vs, _, rv, ha⟩
      · cases (if_neg hb).symm.trans z
    · by_cases hb : b = a
      · exact .inr ⟨hb, hk, _, _, at_ a rfl⟩
      · exact .inl (if_neg hb)
end
end Bf

/-! Own rule: enumerate over a tuple. -/
namespace Bf
open PySem PySem.Spec PyProof.Rows L2

/-- the tuple's cells behind enumerate(t) -/
theorem enum_new_tup (t : Addr) (items : Array Value) (n : Nat) (dct : Option Addr) (sl : Array (Option Value)) :
    Meets (Builtin.«enumerate.__new__» ⟨[.type "enumerate", .ref t], []⟩) (fun _ R s => s.heap.get? t = some { cls := .type "tuple", dict := dct, data := .seq items n, slots := sl } ∧
      R (.ok (.ret (.ref (s.heap.push { cls := .type "tuple_iterator", data := .fields #[.ref t, .int 0 0] }).objs.size)))
        { s with heap := (s.heap.push { cls := .type "tuple_iterator", data := .fields #[.ref t, .int 0 0] }).push { cls := .type "enumerate", data := .fields #[.none, .bool false, .ref s.heap.objs.size, rawInt 0, .none, .none] } }) :=
  .of_wp fun prog w A R s h => by
    obtain ⟨hp, g, d, tk, os⟩ := s
    obtain ⟨ht, h⟩ := h
    have sub := sub_enumerate
    have it : ∀ {A' : Around} {E : Value → Shared → Prop} {Q : Value → Shared → Prop}, Q (.ref hp.objs.size) ⟨hp.push { cls := .type "tuple_iterator", data := .fields #[.ref t, .int 0 0] }, g, d, tk, os⟩ →
        wpAny (model prog w) A' (pyIter (.ref t)) Q E ⟨hp, g, d, tk, os⟩ := fun q => wpAny_pyIter_tuple (s := ⟨hp, g, d, tk, os⟩) ⟨_, ht, rfl, n, rfl⟩ q
    wp_walk using it
    refine wpAny_stack_any fun st => wpAny_pure ?_
    split
    · rename_i c _ _ _ _ _
      cases (c == Value.type "enumerate") <;> (wp_walk using it; exact ⟨_, rfl, h⟩)
    · wp_walk using it
      exact ⟨_, rfl, h⟩

section
variable {prog : Program} {w : World} {A : Around} {E : Value → Shared → Prop} {s : Shared}
theorem enum_tup {t : Addr} {items : Array Value} {Q : Value → Shared → Prop} (T : s.heap.IsTuple t items)
    (h : ∀ h' : Heap, IsEnum h' (s.heap.objs.size + 1) s.heap.objs.size 0 .none → h'.IsTupleIter s.heap.objs.size t 0 → (∀ b o, s.heap.get? b = some o → h'.get? b = some o) → Q (.ref (s.heap.objs.size + 1)) { s with heap := h' }) :
    wpAny (model prog w) A (call (.type "enumerate") [.ref t]) Q E s := by
  obtain ⟨⟨c, dct, dt, sl⟩, e1, e2, n, e3⟩ := T
  cases (show c = .type "tuple" from e2)
  cases (show dt = .seq items n from e3)
  refine callType_new F.called_enumerate (by decide) (F.typeCall_enumerate_1 _) (F.newCall_enumerate_1 _) (fun obj => F.args_object_init_2 obj _) F.entry_enumerate_new (enum_new_tup t items n dct sl) ⟨e1, ?_⟩
  have sz : (s.heap.push { cls := .type "tuple_iterator", data := .fields #[.ref t, .int 0 0] }).objs.size = s.heap.objs.size + 1 := Heap.size_push ..
  have en := Heap.get?_push_size (s.heap.push { cls := .type "tuple_iterator", data := .fields #[.ref t, .int 0 0] })
    (o := { cls := .type "enumerate", data := .fields #[.none, .bool false, .ref s.heap.objs.size, rawInt 0, .none, .none] }) rfl
  rw [sz] at en
  show _ ∧ _
  rw [sz]
  exact ⟨⟨_, en, rfl⟩, h _ en ⟨_, Heap.get?_push_of_some _ (Heap.get?_push_size _ rfl), rfl, rfl⟩ fun b o x => Heap.get?_push_of_some _ (Heap.get?_push_of_some _ x)⟩
end

/-- the tuple at a, each item in a new pair -/
def Iet (K : PySem.W.Frag) (a : Addr) : It where
  go i H := ∃ (xs : List V) (x : V), SqT K H a xs ∧ xs[i]? = some x
  yld i H v H' := ∃ T x, v = .ref T ∧ H T = none ∧ H' = upd H T (.tup [.int (i : Nat), x]) ∧ ∀ xs, SqT K H a xs → xs[i]? = some x
  stop i H := ∃ xs : List V, SqT K H a xs ∧ i = xs.length
theorem turn_iet {P : Program} {w : World} {K : PySem.W.Frag} {elts : List Expr} {kk : Nat} {tpos : Pos} (a e it : Addr) :
    Turn P w K (.Tuple elts kk tpos) (Iet K a) [e, it] e (fun i h => (∃ old, IsEnum h e it ((i : Nat) : Int) old) ∧ h.IsTupleIter it a i ∧ e ≠ it) where
  mem := List.mem_cons_self
  obj i h st b hb := by
    obtain ⟨⟨old, he⟩, ⟨o, ho, hc, hd⟩, _⟩ := st
    rcases List.mem_cons.mp hb with z | z
    · cases z
      exact ⟨_, he, fun v q => nomatch q⟩
    · have z := List.mem_singleton.mp z
      exact ⟨o, z ▸ ho, fun v q => by rw [hd] at q; cases q⟩
  keep i h h' st k := by
    obtain ⟨⟨old, he⟩, hi, ne⟩ := st
    exact ⟨⟨old, k e (by simp) _ he⟩, hi.at fun o q => k it (by simp) o q, ne⟩
  item := by
    rintro X rfl rfl rfl hc i pins s σ H E I hf ⟨⟨old, he⟩, hit, ne⟩ ⟨xs, x, hq, hx⟩
    obtain ⟨its, rv, p, hz⟩ := I.tuple hq
    obtain ⟨u, hu, ru⟩ := rv.get hx
    have p' : s.heap.IsTuple a its.toArray := p
    obtain ⟨oa, hoa, hca, na, hda⟩ := id p'
    have nia : a ≠ it := fun z => by
      obtain ⟨o, ho, hc', hd'⟩ := hit
      rw [← z, hoa] at ho
      cases ho
      rw [hda] at hd'
      cases hd'
    have nea : e ≠ a := fun z => by
      have he2 : s.heap.get? e = _ := he
      rw [z, hoa] at he2
      cases he2
      cases hda
    have hel : e < s.heap.objs.size := Heap.lt_size he
    have hil : it < s.heap.objs.size := let ⟨_, q, _⟩ := hit; Heap.lt_size q
    refine wpAny_pyNext_enum_itemD (D := Draws.tuple (A := X.A.in1) (show X.A.in1.handled = none from I.ok.hd hc) it a nia its.toArray) he ⟨hit, p'⟩ (by have := (List.getElem?_eq_some_iff.mp hu).1; simpa using this) ne (by simp [ne, nea]) fun y h' tk hy ho hit' hT hsz hk => ?_
    have ey : y = u := by
      have z : its[i]? = some y := by simpa using hy
      rw [hu] at z
      exact (Option.some.inj z).symm
    subst ey
    refine ⟨_, rfl, wpAny_letOwnedTupleGo_enum (s := { s with heap := h', toks := tk + 1 }) ho fun h2 he2 sb => ?_⟩
    have hT2 : h2.get? s.heap.objs.size = some { cls := .type "tuple", data := .seq #[.int i tk, y] } := (sb.2 _ (Nat.ne_of_gt hel)).trans hT
    have low : ∀ b, b ∈ [e, it] → b < s.heap.objs.size := fun b hb => (List.mem_cons.mp hb).elim (fun z => z ▸ hel) fun z => List.mem_singleton.mp z ▸ hil
    have I1 : L2.Inv X pins σ (upd H s.heap.objs.size (.tup [.int (i : Nat), x])) { s with heap := h2, toks := tk + 1 } :=
      I.turnedNew (ch := [e, it]) (fun b ob hb q => (sb.2 b (fun z => hb (by simp [z]))).trans (hk b ob (fun z => hb (by simp [z])) (fun z => hb (by simp [z])) q)) hf (Nat.le_refl _)
        ⟨by show 2 ≤ sizeLine; decide, [.int i tk, y], .cons ⟨_, rfl⟩ (.cons ru .nil), ⟨_, hT2, rfl, _, rfl⟩⟩
    refine ⟨.ref s.heap.objs.size, _, I1, rfl, ⟨_, x, rfl, I.hok.fresh (Nat.le_refl _), rfl, fun ys hy => by rw [I.tuple_inj hy hq]; exact hx⟩, ⟨⟨y, ?_⟩, hit'.1.at fun o q => (sb.2 it (Ne.symm ne)).trans q, ne⟩, fun b hb => ?_⟩
    · rw [show ((i + 1 : Nat) : Int) = (i : Int) + 1 from by omega]
      exact he2
    · rw [upd_ne (Nat.ne_of_lt (low b hb))]
      exact (hf b hb).1
  done := by
    rintro X rfl rfl rfl hc i pins s σ H E I hf ⟨⟨old, he⟩, hit, ne⟩ ⟨xs, hq, rfl⟩
    obtain ⟨its, rv, p, hz⟩ := I.tuple hq
    have p' : s.heap.IsTuple a its.toArray := p
    obtain ⟨oa, hoa, hca, na, hda⟩ := id p'
    have nia : a ≠ it := fun z => by
      obtain ⟨o, ho, hc', hd'⟩ := hit
      rw [← z, hoa] at ho
      cases ho
      rw [hda] at hd'
      cases hd'
    obtain ⟨f0, f1, f2, f3, f4, f5⟩ := hf it (by simp)
    refine wpAny_pyNext_enum_endD (D := Draws.tuple (A := X.A.in1) (show X.A.in1.handled = none from I.ok.hd hc) it a nia its.toArray) he ⟨by rw [List.size_toArray, ← rv.length]; exact hit, p'⟩ fun h' eb => ⟨rfl, I.turned (t' := s.toks) (fun b o hb q => eb b o hb q) f0 f1 f3 f4 f5⟩
  self A i s Q E st h := let ⟨⟨_, he⟩, _⟩ := st; wpAny_pyIter_enum he h
def iEnumT (K : PySem.W.Frag) (ta : TA) : TI := fun σ H R => ta σ H fun vs H1 => ∃ a xs, vs = [.ref a] ∧ SqT K H1 a xs ∧ R (Iet K a) H1
theorem pi_enumT {X : Cx} {e : Expr} {ta : TA} {p pos tpos : Pos} {elts : List Expr} {kk : Nat} (hg : Gl X "enumerate") (hm : X.mg "enumerate" = none) (ha : PA X [e] ta)
    (hs : starEach [e] X.env = [(false, eval e X.env)] := by rfl) : PI X (.Tuple elts kk tpos) (.Call (.Name "enumerate" p) [e] [] pos) (iEnumT X.K ta) := ⟨fun pins s σ H R I h => by
  refine Call_ (ld_blt I hg hm boot_enumerate (PyProof.Rows.callWith_type1 (thn (ha.run pos pins s σ H _ I h) fun us s1 z => ?_) hs rfl))
  obtain ⟨vs, H1, I1, r1, a, xs, rfl, hq, q⟩ := z
  cases r1 with
  | cons r rr =>
    cases rr
    cases r
    obtain ⟨its, rv, p', hz⟩ := I1.tuple hq
    refine enum_tup (show s1.heap.IsTuple a its.toArray from p') fun h' he hit hk => wpAny_pyIter_enum he ?_
    refine ⟨s1.heap.objs.size + 1, [s1.heap.objs.size + 1, s1.heap.objs.size], _, _, H1, rfl, I1.kept (t' := s1.toks) hk, turn_iet a (s1.heap.objs.size + 1) s1.heap.objs.size, ⟨⟨.none, he⟩, hit, Nat.succ_ne_self _⟩, fun b hb => ?_, q⟩
    have le : s1.heap.objs.size ≤ b := (List.mem_cons.mp hb).elim (fun z => z ▸ Nat.le_succ _) fun z => List.mem_singleton.mp z ▸ Nat.le_refl _
    have I2 : L2.Inv X pins σ H1 { s1 with heap := h' } := I1.kept (t' := s1.toks) hk
    exact I1.fpOk le (I1.hok.fresh le)⟩
/-- the loop's reading -/
theorem for_iet {K : PySem.W.Frag} {a : Addr} {xs : List V} {g : TG} {tb : TS} {D : Ends} {σ : L2.St} {H : Hp} (Pv : Nat → L2.St → Hp → Prop) (h0 : Pv 0 σ H) (hl : ∀ i σ H, i ≤ xs.length → Pv i σ H → SqT K H a xs)
    (hs : ∀ i x σ H T, xs[i]? = some x → Pv i σ H → H T = none → g (.ref T) σ (upd H T (.tup [.int (i : Nat), x])) fun σ2 H2 => tb { D with nx := Pv (i + 1), ct := Pv (i + 1), bk := D.nx } σ2 H2) (hd : ∀ σ H, Pv xs.length σ H → D.nx σ H) :
    ∃ W : Nat → Nat → L2.St → Hp → Prop, (∃ m, W 0 m σ H) ∧ ∀ i m σ H, W i m σ H →
      ((Iet K a).stop i H ∧ D.nx σ H) ∨ ((Iet K a).go i H ∧ ∃ N : L2.St → Hp → Prop, (∀ σ' H', N σ' H' → ∃ m', m' < m ∧ W (i + 1) m' σ' H') ∧ ∀ x H', (Iet K a).yld i H x H' → g x σ H' fun σ2 H2 => tb { D with nx := N, ct := N, bk := D.nx } σ2 H2) := by
  refine ⟨fun i m σ H => m = xs.length - i ∧ i ≤ xs.length ∧ Pv i σ H, ⟨xs.length, by simp, Nat.zero_le _, h0⟩, ?_⟩
  rintro i m σ H ⟨rfl, hi, p⟩
  have q := hl i σ H hi p
  rcases Nat.lt_or_ge i xs.length with lt | ge
  · refine .inr ⟨⟨xs, xs[i], q, List.getElem?_eq_getElem lt⟩, Pv (i + 1), fun σ' H' p' => ⟨xs.length - (i + 1), by omega, rfl, lt, p'⟩, ?_⟩
    rintro x H' ⟨T, y, rfl, nT, rfl, hy⟩
    exact hs i y σ H T (hy xs q) p nT
  · have e : i = xs.length := Nat.le_antisymm hi ge
    exact .inl ⟨⟨xs, q, e⟩, hd σ H (e ▸ p)⟩
end Bf

/-! Own rules: x not in t, t a tuple of texts, x any thing; xs < ys of lists; comprehensions over enumerate and zip. -/
namespace Bf
open PySem PySem.Spec PyProof.Rows L2

theorem dict_eq_declines_str (l : Addr) (dt : Data) (dd : Option Addr) (sl : Array (Option Value)) (b : Str) (u : Tok) :
    Meets (Builtin.«dict.__eq__» ⟨[.ref l, .str b u], []⟩) (fun _ R s => s.heap.get? l = some { cls := .type "dict", dict := dd, data := dt, slots := sl } ∧ R (.ok (.ret .notImplemented)) s) :=
  .of_wp fun prog w A R s h => by
    obtain ⟨hp, g, d, tk, os⟩ := s
    obtain ⟨hl, h⟩ := h
    have f1 := F.sub_str_dict
    wp_walk using wpAny_loadPart' hl
    exact ⟨_, rfl, h⟩
theorem str_eq_declines_dict (b : Str) (u : Tok) (l : Addr) (es : Array DictEntry) (n : Nat) (dd : Option Addr) (sl : Array (Option Value)) :
    Meets (Builtin.«str.__eq__» ⟨[.str b u, .ref l], []⟩) (fun _ R s => s.heap.get? l = some { cls := .type "dict", dict := dd, data := .dict es n, slots := sl } ∧ R (.ok (.ret .notImplemented)) s) :=
  .of_wp fun prog w A R s h => by
    obtain ⟨hp, g, d, tk, os⟩ := s
    obtain ⟨hl, h⟩ := h
    wp_walk using wpAny_loadPart' hl, wpAny_load hl
    exact ⟨_, rfl, h⟩
theorem eqAt_str_dict {A : Around} {s : Shared} {l : Addr} {o : Obj} {es : Array DictEntry} {n : Nat} (b : Str) (u : Tok) (ho : s.heap.get? l = some o) (hc : o.cls = .type "dict") (hd : o.data = .dict es n) (hu : A.units < cLine) :
    SeqAt.EqAt A s (.str b u) (.ref l) false := fun prog w E Q h => by
  obtain ⟨cls, dd, data, sl⟩ := o
  simp only at hc hd
  subst hc hd
  unfold eqBool
  refine wpAny_holding ?_
  refine wpAny_ite_split (fun hab => absurd (eq_of_beq hab) nofun) (fun _ => ?_)
  refine wpAny_bind (SeqAt.rc_eq_decline_or (k := false) (typeIs_str s b u) ⟨_, ho, rfl⟩ (by decide) F.sub_dict_str F.slot_str_eq F.slot_dict_eq_refl
    (fun _ hq => call_meets F.slot_str_eq (typeIs_str s b u) F.entry_str_eq (F.args_str_eq_2 _ _) (str_eq_declines_dict b u l es n dd sl) ⟨ho, hq⟩)
    (fun _ hq => call_meets F.slot_dict_eq_refl ⟨_, ho, rfl⟩ F.entry_dict_eq (F.args_dict_eq_2 _ _) (dict_eq_declines_str l _ dd sl b u) ⟨ho, hq⟩)
    (fun _ hq => wpAny_of_eq (rfl : isSame (.str b u) (.ref l) = pure false) hq) (.inr hu) (wpAny_truthy_bool h))

/-- a thing that is compared with texts -/
inductive Odd (H : Hp) : V → Prop
  | non : Odd H .non
  | bl (b : Bool) : Odd H (.bl b)
  | int (i : Int) : Odd H (.int i)
  | str (z : Str) : Odd H (.str z)
  | lst {a : Addr} {xs : List V} (h : H a = some (.lst xs)) : Odd H (.ref a)
  | tup {a : Addr} {xs : List V} (h : H a = some (.tup xs)) : Odd H (.ref a)
  | emp {a : Addr} (h : H a = some (.dK [])) : Odd H (.ref a)
section
variable {X : Cx}
theorem eqAt_odd {pins : List (Addr × Obj)} {σ : L2.St} {H : Hp} {s : Shared} {x : V} {v : Value} {z : Str} {t : Tok} {A : Around} (hu : A.units < cLine) (I : L2.Inv X pins σ H s) (h : Odd H x) (r : RelV x v) :
    SeqAt.EqAt A s (.str z t) v (eqV (.str z) x) := by
  have fl : flatV x = true → SeqAt.EqAt A s (.str z t) v (eqV (.str z) x) := fun f => eqAt_V (y := .str z) ⟨t, rfl⟩ r rfl f
  cases h with
  | non => exact fl rfl
  | bl b => exact fl rfl
  | int i => exact fl rfl
  | str z => exact fl rfl
  | lst h =>
    cases r
    obtain ⟨_, its, n, rv, e⟩ := I.hok _ _ h
    exact SeqAt.EqAt.str_list z t (items := its.toArray) ⟨_, e, rfl, _, rfl⟩ hu
  | tup h =>
    cases r
    obtain ⟨_, its, rv, o, e1, e2, n, e3⟩ := I.hok _ _ h
    exact SeqAt.EqAt.str_tuple z t ⟨o, e1, e2, n, e3⟩ hu
  | emp h =>
    cases r
    obtain ⟨_, sm, vs, kv, o, es, ep, e1, e2, e3, _, e4, _⟩ := I.hok _ _ h
    exact eqAt_str_dict z t e1 e2.1 e3 hu
def rNotInW (K : PySem.W.Frag) : R2 := fun x y H Q => ∃ (p : Addr) (ws : List Str), y = .ref p ∧ SqT K H p (ws.map V.str) ∧ Odd H x ∧ Q (.bl (!inV x (ws.map V.str))) H
theorem op_notInW (hu : X.A.units + 64 < cLine) : OpR X (compareOp .NotIn) (rNotInW X.K) := by
  intro pins s σ H x y v u Q I rx ry h
  obtain ⟨p, ws, rfl, hq, od, q⟩ := h
  cases ry
  obtain ⟨its, r, pl, hz⟩ := I.tuple hq
  have fs : (ws.map V.str).all flatV = true := by
    rw [List.all_map, List.all_eq_true]
    intro z _
    rfl
  have each : ∀ {vs : List V} {us : List Value}, Vals vs us → (∀ y ∈ vs, ∃ z, y = V.str z) → ∀ w ∈ us, SeqAt.EqAt X.A.in1 s w v (eqU x w) := by
    intro vs us r
    induction r with
    | nil => exact fun _ _ m => nomatch m
    | cons r1 r2 ih =>
      intro hv w m
      rcases List.mem_cons.mp m with rfl | m
      · obtain ⟨z, rfl⟩ := hv _ List.mem_cons_self
        obtain ⟨t, rfl⟩ := r1
        exact eqAt_odd (by show X.A.units + 1 < cLine; omega) I od rx
      · exact ih (fun y my => hv y (List.mem_cons_of_mem _ my)) w m
  refine SeqAt.notIn_tupleAt (eqU x) pl (fun w hw => each r (fun y my => by obtain ⟨z, _, rfl⟩ := List.mem_map.mp my; exact ⟨z, rfl⟩) w (by simpa using hw)) ⟨.bl _, H, I, rfl, ?_⟩
  rw [show its.toArray.any (eqU x) = its.any (eqU x) by simp, any_eqU r fs]
  exact q
/-- xs < ys, lists of whole numbers -/
theorem alike_ints : ∀ ns ms : List Int, PySem.W.alikeAll (ns.map PyData.int) (ms.map PyData.int) = true
  | [], [] => by simp only [List.map_nil, PySem.W.alikeAll]
  | [], _ :: _ => by simp only [List.map_nil, PySem.W.alikeAll]
  | _ :: _, [] => by simp only [List.map_nil, List.map_cons, PySem.W.alikeAll]
  | a :: ns, b :: ms => by simp only [List.map_cons, PySem.W.alikeAll, PySem.W.alike, alike_ints ns ms, Bool.and_self]
theorem dpI {K : PySem.W.Frag} {H : Hp} : ∀ is : List Int, DpAll K H (is.map V.int) (is.map PyData.int)
  | [] => .nil
  | i :: r => .cons (.int i) (dpI r)
theorem depth_ints : ∀ ns : List Int, PyData.depthAll (ns.map PyData.int) = 0
  | [] => by simp only [List.map_nil, PyData.depthAll]
  | n :: r => by simp only [List.map_cons, PyData.depthAll, PyData.depth, depth_ints r]; decide
def ltI (ns ms : List Int) : Bool := PySem.W.dataLt (.list (ns.map PyData.int)) (.list (ms.map PyData.int))
def rLtI (K : PySem.W.Frag) : R2 := fun x y H Q => ∃ (a b : Addr) (ns ms : List Int), x = .ref a ∧ y = .ref b ∧ SqL K H a (ns.map V.int) ∧ SqL K H b (ms.map V.int) ∧ Q (.bl (ltI ns ms)) H
theorem op_ltI (hu : X.A.units + 64 < cLine) : OpR X (compareOp .Lt) (rLtI X.K) := by
  intro pins s σ H x y v u Q I rx ry h
  obtain ⟨a, b, ns, ms, rfl, rfl, ha, hb, q⟩ := h
  obtain ⟨as, r1⟩ := Dp.reads I (.list (ns.map PyData.int)) (.ref a) v (.lst ha (dpI ns)) rx
  obtain ⟨bs, r2⟩ := Dp.reads I (.list (ms.map PyData.int)) (.ref b) u (.lst hb (dpI ms)) ry
  refine PySem.W.lt_data r1 r2 (by simp only [PySem.W.alike]; exact alike_ints ns ms) (fun z => nomatch z) ?_ ⟨.bl (ltI ns ms), H, I, rfl, q⟩
  have d1 : PyData.depth (.list (ns.map PyData.int)) = 1 := by simp only [PyData.depth, depth_ints]
  have : min (PyData.depth (.list (ns.map PyData.int))) (PyData.depth (.list (ms.map PyData.int))) ≤ 1 := by rw [d1]; exact Nat.min_le_left _ _
  omega
end

/-! ### comprehensions over enumerate(list) and zip(list, list) -/
theorem lc_ite {K : PySem.W.Frag} {a : Addr} {xs : List V} {g : TG} {tt : TT} {te : TE} {vs : List Nat} {σ : L2.St} {H1 : Hp} {D : Addr} {Qd : Hp → Prop} (Pv : Nat → Hp → Prop) (h0 : Pv 0 (upd H1 D (.lst []))) (hl : ∀ i H, i ≤ xs.length → Pv i H → SqL K H a xs)
    (hs : ∀ i x H T, xs[i]? = some x → Pv i H → H T = none → g (.ref T) (wipe σ vs) (upd H T (.tup [.int (i : Nat), x])) fun σ2 H2 => wipe σ2 vs = wipe σ vs ∧ tt σ2 H2 fun b H3 =>
      if b = true then te σ2 H3 fun y H4 => ∃ acc, H4 D = some (.lst acc) ∧ acc.length < sizeLine ∧ Pv (i + 1) (upd H4 D (.lst (acc ++ [y]))) else Pv (i + 1) H3) (hd : ∀ H, Pv xs.length H → Qd H) :
    ∃ W : Nat → Nat → Hp → Prop, (∃ m, W 0 m (upd H1 D (.lst []))) ∧ ∀ i m H, W i m H →
      ((Ite K a).stop i H ∧ Qd H) ∨ ((Ite K a).go i H ∧ ∃ Nx : Hp → Prop, (∀ H', Nx H' → ∃ m', m' < m ∧ W (i + 1) m' H') ∧ ∀ x H', (Ite K a).yld i H x H' → g x (wipe σ vs) H' fun σ2 H2 => wipe σ2 vs = wipe σ vs ∧ tt σ2 H2 fun b H3 =>
        if b = true then te σ2 H3 fun y H4 => ∃ acc, H4 D = some (.lst acc) ∧ acc.length < sizeLine ∧ Nx (upd H4 D (.lst (acc ++ [y]))) else Nx H3) := by
  refine ⟨fun i m H => m = xs.length - i ∧ i ≤ xs.length ∧ Pv i H, ⟨xs.length, by simp, Nat.zero_le _, h0⟩, ?_⟩
  rintro i m H ⟨rfl, hi, p⟩
  have q := hl i H hi p
  by_cases hlt : i < xs.length
  · refine .inr ⟨⟨xs, xs[i], q, by simp [hlt]⟩, Pv (i + 1), fun H' p' => ⟨xs.length - (i + 1), by omega, rfl, hlt, p'⟩, fun x H' y => ?_⟩
    obtain ⟨T, z, rfl, nT, rfl, hy⟩ := y
    exact hs i z H T (hy xs q) p nT
  · have e : i = xs.length := by omega
    subst e
    exact .inl ⟨⟨xs, q, Nat.le_refl _⟩, hd H p⟩
theorem lc_itz {K : PySem.W.Frag} {a b : Addr} {xs ys : List V} {g : TG} {tt : TT} {te : TE} {vs : List Nat} {σ : L2.St} {H1 : Hp} {D : Addr} {Qd : Hp → Prop} (hxy : xs.length = ys.length) (Pv : Nat → Hp → Prop) (h0 : Pv 0 (upd H1 D (.lst [])))
    (hl : ∀ i H, i ≤ xs.length → Pv i H → SqL K H a xs ∧ SqL K H b ys)
    (hs : ∀ i x y H T, xs[i]? = some x → ys[i]? = some y → Pv i H → H T = none → g (.ref T) (wipe σ vs) (upd H T (.tup [x, y])) fun σ2 H2 => wipe σ2 vs = wipe σ vs ∧ tt σ2 H2 fun b H3 =>
      if b = true then te σ2 H3 fun y H4 => ∃ acc, H4 D = some (.lst acc) ∧ acc.length < sizeLine ∧ Pv (i + 1) (upd H4 D (.lst (acc ++ [y]))) else Pv (i + 1) H3) (hd : ∀ H, Pv xs.length H → Qd H) :
    ∃ W : Nat → Nat → Hp → Prop, (∃ m, W 0 m (upd H1 D (.lst []))) ∧ ∀ i m H, W i m H →
      ((Itz K a b).stop i H ∧ Qd H) ∨ ((Itz K a b).go i H ∧ ∃ Nx : Hp → Prop, (∀ H', Nx H' → ∃ m', m' < m ∧ W (i + 1) m' H') ∧ ∀ x H', (Itz K a b).yld i H x H' → g x (wipe σ vs) H' fun σ2 H2 => wipe σ2 vs = wipe σ vs ∧ tt σ2 H2 fun b H3 =>
        if b = true then te σ2 H3 fun y H4 => ∃ acc, H4 D = some (.lst acc) ∧ acc.length < sizeLine ∧ Nx (upd H4 D (.lst (acc ++ [y]))) else Nx H3) := by
  refine ⟨fun i m H => m = xs.length - i ∧ i ≤ xs.length ∧ Pv i H, ⟨xs.length, by simp, Nat.zero_le _, h0⟩, ?_⟩
  rintro i m H ⟨rfl, hi, p⟩
  obtain ⟨q1, q2⟩ := hl i H hi p
  by_cases hlt : i < xs.length
  · have h2 : i < ys.length := by omega
    refine .inr ⟨⟨xs, ys, xs[i], ys[i], q1, q2, List.getElem?_eq_getElem hlt, List.getElem?_eq_getElem h2⟩, Pv (i + 1), fun H' p' => ⟨xs.length - (i + 1), by omega, rfl, hlt, p'⟩, fun x H' y => ?_⟩
    obtain ⟨T, z, z2, rfl, nT, rfl, hy, hy2⟩ := y
    exact hs i z z2 H T (hy xs q1) (hy2 ys q2) p nT
  · have e : i = xs.length := by omega
    subst e
    exact .inl ⟨⟨xs, ys, q1, q2, .inl (Nat.le_refl _)⟩, hd H p⟩
end Bf

/-! Own rules: f(e, .., k = v, ..) within a try's body. -/
namespace Bf
open PySem PySem.Spec PyProof.Rows L2
def tCallNS (n m : Nat) (sp : Sp) (gV : List V → List V → List V) (E : L2.St → XK) (t tk : TA) : TE := fun σ H Q => t σ H fun vs H1 => tk σ H1 fun zs H2 => vs.length = n ∧ zs.length = m ∧ sp (gV vs zs) H2 Q (E σ)
section
variable {X : Cx} {CX : CXT} {k n : Nat} {f : Addr} {fd : FuncData} {ps ks : List Str} {sp : Sp} {E : L2.St → XK} {x : Str} {p pos : Pos} {e : Expr} {es : List Expr} {kws : List Keyword} {t tk : TA} {g : List Value → List Value → List Value} {gV : List V → List V → List V}
theorem pe_callNS (F : FnOk X.prog X.w X.K X.mg X.base CX k f fd ps sp) (hr : Room k X.A) (hg : Gl X x) (hm : X.mg x = some (.ref f)) (hk : PySem.W.keepIn X.K (.ref f) = true) (hb : KBn X.K fd ps n ks g gV) (hx : ∀ σ, PassesAt CX X σ (E σ))
    (ha : PA X (e :: es) t) (hkw : PK X kws tk) (hall : (backToKw pos (keywordEach kws X.env)).all (·.1.isSome) = true := by rfl) (hks : (backToKw pos (keywordEach kws X.env)).filterMap (·.1) = ks := by rfl)
    (hdb : (x == ("__debug__" : Str)) = false := by decide) (he : starEach (e :: es) X.env = (false, eval e X.env) :: starEach es X.env := by rfl)
    (hpl : ((backTo pos (starEach (e :: es) X.env)).any (·.1) || (backToKw pos (keywordEach kws X.env)).any (·.1.isNone)) = false := by rfl) :
    PE X (.Call (.Name x p) (e :: es) kws pos) (tCallNS n ks.length sp gV E t tk) := by
  refine ⟨fun pins s σ H Q I h => ?_⟩
  refine wpAny_Call_Name_kw (ld_glob I hg hm ?_ hdb)
  refine PySem.W.callWith_KW (h₀ := X.base) I.ok.mod.kin hk hall (thn (ha.run pos pins s σ H _ I h) fun us s1 ⟨vs, H1, I1, r, q⟩ => ?_) hpl he
  refine thn (hkw.run pos pins s1 σ H1 _ I1 q) fun ws s2 ⟨zs, H2, I2, rz, l1, l2, q2⟩ => ⟨I2.kIn, ?_⟩
  rw [hks]
  have r2 := hb.rel r rz
  refine wpAny_call (codeAny_mono (F.run X.A X.stack s2 H2 ⟨us, ks.zip ws⟩ (g us ws) (gV vs zs) Q (E σ) hr I2.env0 (hb.to s2 us ws I2.kIn (r.length.symm.trans l1) (rz.length.symm.trans l2)) r2 q2) fun r s' hq => ?_)
  cases r with
  | error e => exact hx σ pins H2 s2 e s' I2 hq
  | ok fl =>
    cases fl with
    | ret u => exact I2.after hq
    | next => exact False.elim hq
    | brk => exact False.elim hq
    | cont => exact False.elim hq
end
end Bf
namespace Bf
open PySem PySem.Spec PyProof.Rows L2
/-! ### new lists, not the module table -/
section
variable {X : Cx}
def rCatN : R2 := fun x y H Q => ∃ (l b : Addr) (xs zs : List V), x = .ref l ∧ y = .ref b ∧ H l = some (.lst xs) ∧ H b = some (.lst zs) ∧ xs.length + zs.length ≤ sizeLine ∧ ∀ p, H p = none → p ≠ sysModules → Q (.ref p) (upd H p (.lst (xs ++ zs)))
theorem op_catN : OpR X (binaryOp .Add) rCatN := by
  intro pins s σ H x y v u Q I rx ry h
  obtain ⟨l, b, xs, zs, rfl, rfl, hH, hB, hz, q⟩ := h
  cases rx
  cases ry
  obtain ⟨z, its, n, r, hl, e⟩ := I.lstM hH
  obtain ⟨z2, its2, n2, r2, hl2, e2⟩ := I.lstM hB
  refine PySem.P.add_list e e2 ?_ (by rw [List.size_toArray, List.size_toArray]; omega)
  have ea : its.toArray ++ its2.toArray = (its ++ its2).toArray := by simp
  rw [ea]
  exact ⟨.ref _, _, I.lnew (t' := s.toks) (r.append r2) (by rw [List.length_append]; omega), rfl, q _ I.fresh (Nat.ne_of_gt I.big)⟩
def rSlN (K : PySem.W.Frag) : V → Option Int → Option Int → Hp → VK → Prop := fun x lo hi H Q => ∃ (a : Addr) (xs : List V), x = .ref a ∧ SqL K H a xs ∧ ∀ p, H p = none → p ≠ sysModules → Q (.ref p) (upd H p (.lst (cutV xs lo hi)))
theorem sl_listN : SlR X (rSlN X.K) := by
  intro pins s σ H x v vl vu lo hi sl Q I rx hs pl pu h
  obtain ⟨a, xs, rfl, hx, q⟩ := h
  cases rx
  obtain ⟨its, r, ht, hz⟩ := I.list hx
  have hlen := r.length
  refine ⟨"list", _, slot_list_getitem.lookup, ht.isList.typeIs, ?_⟩
  refine wpAny_getItem_list_slice ht.isList hs pl pu .none (by simp) ?_ (by rw [List.size_toArray] <;> omega)
  rw [slicePick_cut, ← hlen]
  refine ⟨.ref s.heap.objs.size, _, I.laid (t' := s.toks) (o := .lst (cutV xs lo hi)) (fun b ob q => Heap.get?_push_of_some _ q) (Nat.le_refl _) ?_, rfl, q _ (I.hok.fresh (Nat.le_refl _)) (Nat.ne_of_gt I.big)⟩
  exact ⟨Nat.le_trans (cutV_length xs lo hi) hz, _, 0, (r.drop (HT.sIx xs.length 0 lo)).take (HT.sIx xs.length xs.length hi - HT.sIx xs.length 0 lo), Heap.get?_push_size _ rfl⟩
def rRepN : R2 := fun x y H Q => ∃ (l : Addr) (k : Int) (xs : List V), x = .ref l ∧ y = .int k ∧ H l = some (.lst xs) ∧ -(2 ^ 63) ≤ k ∧ k < 2 ^ 63 ∧ xs.length * k.toNat ≤ sizeLine ∧
  ∀ p, H p = none → p ≠ sysModules → Q (.ref p) (upd H p (.lst (List.replicate k.toNat xs).flatten))
theorem op_repN : OpR X (binaryOp .Mult) rRepN := by
  intro pins s σ H x y v u Q I rx ry h
  obtain ⟨l, k, xs, rfl, rfl, hH, h1, h2, hz, q⟩ := h
  cases rx
  obtain ⟨t, rfl⟩ := ry
  obtain ⟨z, its, n, r, hl, e⟩ := I.lstM hH
  have hlen : its.toArray.size * k.toNat ≤ sizeLine := by rw [List.size_toArray, ← hl]; exact hz
  have hcap : ¬ its.toArray.size * k.toNat > (2 ^ 63 - 1) / 8 := by
    have : (sizeLine : Nat) ≤ (2 ^ 63 - 1) / 8 := by decide
    omega
  have hfit : ¬ (!Builtin.List.listFitsIndex k) = true := by
    rw [fitsIndex_both h1 h2]
    exact Bool.false_ne_true
  have hlong : ¬ Builtin.List.listTooLong (its.toArray.size * k.toNat) = true := by
    rw [notLongL hlen]
    exact Bool.false_ne_true
  have hnew : List.foldl (fun x1 x2 => x1 ++ x2) #[] (List.replicate (if its.toArray.isEmpty = true then 0 else k.toNat) its.toArray) = (List.replicate k.toNat its).flatten.toArray := by
    have f0 : ∀ m : Nat, List.foldl (fun x1 x2 => x1 ++ x2) #[] (List.replicate m its.toArray) = (List.replicate m its).flatten.toArray := fun m => by
      have := foldl_rep its m []
      rw [List.nil_append] at this
      exact this
    rw [f0]
    cases its with
    | nil => simp
    | cons a r' => rw [if_neg (by simp)]
  refine wpAny_binaryOp_repeat_ref (T := "list") (U := "int") (by decide) ⟨_, e, rfl⟩ (fun s' => typeIs_int s' k t) noFill_list_mul F.fills_int_mul F.slot_int_rmul repeat_list F.slot_int_index.lookup
    (call_meets F.slot_int_rmul (typeIs_int s k t) F.entry_int_rmul (F.args_int_rmul_2 _ _) (int___rmul___int_list k t l its.toArray n)
      ⟨e, rfl, ⟨_, e, rfl⟩, call_meets F.slot_list_mul ⟨_, e, rfl⟩ F.entry_list_mul (F.args_list_mul_2 _ _) (AutoListH.list___mul___list_int_3 l its.toArray n k t hfit hcap hlong) ⟨e, ?_⟩⟩)
  rw [hnew]
  exact ⟨.ref _, _, I.lnew (t' := s.toks) (r.rep k.toNat) (by rw [PyProof.Rows.lm_len_rep_flat, Nat.mul_comm]; exact hz), rfl, q _ I.fresh (Nat.ne_of_gt I.big)⟩
end
end Bf

/-! Own rules: dicts of the module by their tables; xs.extend(t); comprehensions over zip of tuples. -/
namespace Bf
open PySem PySem.Spec PyProof.Rows L2
/-- the rows of a written dict -/
inductive Rows : List DictEntry → List (Str × V) → Prop
  | nil : Rows [] []
  | cons {e : DictEntry} {k : Str} {t : Tok} {v : V} {es : List DictEntry} {tb : List (Str × V)} (hk : e.key = .str k t) (r : RelV v e.val) (rs : Rows es tb) : Rows (e :: es) ((k, v) :: tb)
def lk {α : Type} (z : Str) : List (Str × α) → Option α
  | [] => none
  | (k, v) :: r => if (k == z) = true then some v else lk z r
theorem rows_find (z : Str) : ∀ {es : List DictEntry} {tb : List (Str × V)}, Rows es tb → (lk z tb = none ∧ es.find? (fun x => x.key.isStr z) = none ∧ (es.any fun x => x.refKey) = false) ∨ ∃ v e, lk z tb = some v ∧ es.find? (fun x => x.key.isStr z) = some e ∧ RelV v e.val
  | _, _, .nil => .inl ⟨rfl, rfl, rfl⟩
  | _, _, .cons (e := e) (k := k) (t := t) hk r rs => by
    have hs : e.key.isStr z = (k == z) := by rw [hk]; rfl
    have hr : e.refKey = false := by unfold DictEntry.refKey; rw [hk]
    by_cases h : (k == z) = true
    · refine .inr ⟨_, e, by unfold lk; rw [if_pos h], ?_, r⟩
      rw [List.find?_cons_of_pos (by rw [hs]; exact h)]
    · rcases rows_find z rs with ⟨a, b, c⟩ | ⟨v, e', a, b, c⟩
      · exact .inl ⟨by unfold lk; rw [if_neg h]; exact a, by rw [List.find?_cons_of_neg (by rw [hs]; exact h)]; exact b, by rw [List.any_cons, hr, c]; rfl⟩
      · exact .inr ⟨v, e', by unfold lk; rw [if_neg h]; exact a, by rw [List.find?_cons_of_neg (by rw [hs]; exact h)]; exact b, c⟩
/-- a written dict and its table -/
structure Dct (K : PySem.W.Frag) (w : World) (a : Addr) (tb : List (Str × V)) : Prop where
  ex : ∃ es n, KDict K w a es n ∧ Rows es.toList tb
theorem Dct.get {K : PySem.W.Frag} {w : World} {a : Addr} {tb : List (Str × V)} (D : Dct K w a tb) (z : Str) : (lk z tb = none → PySem.W.nsIn K a z = some none) ∧ ∀ v, lk z tb = some v → ∃ u, PySem.W.nsIn K a z = some (some u) ∧ RelV v u := by
  obtain ⟨es, n, kd, rs⟩ := D.ex
  have un : PySem.W.nsIn K a z = (match es.toList.find? (fun x => x.key.isStr z) with | some e => some (some e.val) | none => if (es.toList.any fun x => x.refKey) = true then none else some none) := by
    unfold PySem.W.nsIn
    rw [kd.at_]
    rfl
  rcases rows_find z rs with ⟨h1, h2, h3⟩ | ⟨v, e, h1, h2, h3⟩
  · refine ⟨fun _ => ?_, fun v h => by rw [h1] at h; cases h⟩
    rw [un, h2, h3]
    rfl
  · refine ⟨(fun h => by rw [h1] at h; cases h), fun v' h => ?_⟩
    rw [h1] at h
    cases h
    exact ⟨e.val, by rw [un, h2], h3⟩
section
variable {X : Cx} {a : Addr} {tb : List (Str × V)}
theorem op_in_dct (D : Dct X.K X.w a tb) : OpR X (compareOp .In) (fun x y H Q => ∃ z : Str, x = .str z ∧ y = .ref a ∧ Q (.bl (lk z tb).isSome) H) := by
  obtain ⟨es, n, kd, rs⟩ := id D.ex
  intro pins s σ H x y v u Q I rx ry h
  obtain ⟨z, rfl, rfl, q⟩ := h
  cases e : lk z tb with
  | none =>
    rw [e] at q
    exact op_in_kd kd pins s σ H _ _ v u Q I rx ry ⟨z, none, rfl, rfl, (D.get z).1 e, q⟩
  | some w =>
    rw [e] at q
    obtain ⟨u', h1, h2⟩ := (D.get z).2 w e
    exact op_in_kd kd pins s σ H _ _ v u Q I rx ry ⟨z, some u', rfl, rfl, h1, q⟩
theorem op_notIn_dct (D : Dct X.K X.w a tb) : OpR X (compareOp .NotIn) (fun x y H Q => ∃ z : Str, x = .str z ∧ y = .ref a ∧ Q (.bl (!(lk z tb).isSome)) H) := by
  obtain ⟨es, n, kd, rs⟩ := id D.ex
  intro pins s σ H x y v u Q I rx ry h
  obtain ⟨z, rfl, rfl, q⟩ := h
  cases e : lk z tb with
  | none =>
    rw [e] at q
    exact op_notIn_kd kd pins s σ H _ _ v u Q I rx ry ⟨z, none, rfl, rfl, (D.get z).1 e, q⟩
  | some w =>
    rw [e] at q
    obtain ⟨u', h1, h2⟩ := (D.get z).2 w e
    exact op_notIn_kd kd pins s σ H _ _ v u Q I rx ry ⟨z, some u', rfl, rfl, h1, q⟩
theorem op_item_dct (D : Dct X.K X.w a tb) : OpR X getItem (fun x y H Q => ∃ (z : Str) (v : V), x = .ref a ∧ y = .str z ∧ lk z tb = some v ∧ Q v H) := by
  obtain ⟨es, n, kd, rs⟩ := id D.ex
  intro pins s σ H x y v u Q I rx ry h
  obtain ⟨z, v', rfl, rfl, e, q⟩ := h
  obtain ⟨u', h1, h2⟩ := (D.get z).2 v' e
  exact op_item_kd kd pins s σ H _ _ v u Q I rx ry ⟨z, u', v', rfl, rfl, h1, h2, q⟩
theorem extend_tup (l : Addr) (items : Array Value) (n : Nat) (b : Addr) (items2 : Array Value) (n2 : Nat) (dd : Option Addr) (sl : Array (Option Value)) (hs0 : ¬(!items.isEmpty && Builtin.List.listTooLong (items.size + items2.size)) = true) (hs1 : items.size ≤ sizeLine) (hs2 : items.size + items2.size ≤ sizeLine + 1) :
    Meets (Builtin.«list.extend» ⟨[.ref l, .ref b], []⟩) (fun _ R s => s.heap.get? l = some { cls := .type "list", data := .seq items n } ∧ s.heap.get? b = some { cls := .type "tuple", dict := dd, data := .seq items2 n2, slots := sl } ∧
      R (.ok (.ret Value.none)) { s with heap := s.heap.update l (Obj.mapSeq fun x => x ++ items2), toks := s.toks }) :=
  .of_wp fun prog w A R s h => by
    obtain ⟨hp, g, d, tk, os⟩ := s
    obtain ⟨hl, hb, h⟩ := h
    have f1 := AutoSeq1.idx_int
    have f2 := AutoSeq1.sub_tuple_tuple
    have f3 := AutoSeq1.sub_list_list
    have f4 := AutoSeq1.sub_tuple_list
    have f5 := AutoSeq1.sub_list_tuple
    have hz' : (items ++ items2).size ≤ sizeLine + 1 := by rw [Array.size_append]; exact hs2
    wp_walk using (wpAny_updateSeq hl rfl (hz := hs1) (_hz' := hz')), wpAny_loadPart' hl, wpAny_loadPart' hb
    exact ⟨_, rfl, h⟩
/-- d[key] -/
theorem ix_dct (D : Dct X.K X.w a tb) : IxR X (fun x y H Q => ∃ (z : Str) (v : V), x = .ref a ∧ y = .str z ∧ lk z tb = some v ∧ Q v H) := by
  obtain ⟨es, n, kd, rs⟩ := id D.ex
  intro value slice pins s σ H x y v u Q I rx ry h hs
  obtain ⟨z, v', rfl, rfl, e, q⟩ := h
  obtain ⟨u', h1, h2⟩ := (D.get z).2 v' e
  cases rx
  obtain ⟨t, rfl⟩ := ry
  refine tail_any (kd_type kd I) PySem.F.slot_dict_getitem.lookup ?_ hs
  exact wpAny_getItem_of (PySem.strKind_is X.prog X.w z t) (PySem.W.mapOf_K (prog := X.prog) I.kIn kd.at_ kd.lit) (PySem.W.find_K kd.at_ h1) ⟨v', H, I.tok _, h2, q⟩
/-- xs.extend(t), t a tuple -/
def rExtT : V → List V → Hp → VK → Prop := fun x vs H Q => ∃ (l b : Addr) (xs zs : List V), x = .ref l ∧ vs = [.ref b] ∧ H l = some (.lst xs) ∧ H b = some (.tup zs) ∧ xs.length + zs.length ≤ sizeLine ∧ Q .non (upd H l (.lst (xs ++ zs)))
theorem mt_extT : MtM X "list.extend" rExtT := by
  intro pins s σ H x vs v us Q I rx rv h
  obtain ⟨l, b, xs, zs, rfl, rfl, hH, hB, hz, q⟩ := h
  cases rx
  obtain ⟨u, rfl, ru⟩ := rv.one
  cases ru
  obtain ⟨z, its, n, r, hl, e⟩ := I.lstM hH
  obtain ⟨_, its2, r2, ⟨cls, dd, data, sl⟩, e2, c2, n2, d2⟩ := I.hok _ _ hB
  simp only at c2 d2
  subst c2 d2
  have hl2 := r2.length
  have hsz : its.toArray.size + its2.toArray.size ≤ sizeLine := by rw [List.size_toArray, List.size_toArray]; omega
  have hlong : ¬ (!its.toArray.isEmpty && Builtin.List.listTooLong (its.toArray.size + its2.toArray.size)) = true := by
    rw [notLongL hsz, Bool.and_false]
    exact Bool.false_ne_true
  refine call_meets F.slot_list_extend ⟨_, e, rfl⟩ F.entry_list_extend (F.args_list_extend_2 _ _)
    (extend_tup l its.toArray n b its2.toArray n2 dd sl hlong (by rw [List.size_toArray]; omega) (by omega)) ⟨e, e2, ?_⟩
  refine ⟨.non, _, I.lset (its' := its ++ its2) hH e (by simp) (r.append r2) ?_, rfl, q⟩
  rw [List.length_append]
  omega
end
/-- comprehensions over zip of two tuples of one length -/
theorem lc_itzT {K : PySem.W.Frag} {a b : Addr} {xs ys : List V} {g : TG} {tt : TT} {te : TE} {vs : List Nat} {σ : L2.St} {H1 : Hp} {D : Addr} {Qd : Hp → Prop} (hxy : xs.length = ys.length) (Pv : Nat → Hp → Prop) (h0 : Pv 0 (upd H1 D (.lst [])))
    (hl : ∀ i H, i ≤ xs.length → Pv i H → SqT K H a xs ∧ SqT K H b ys)
    (hs : ∀ i x y H T, xs[i]? = some x → ys[i]? = some y → Pv i H → H T = none → g (.ref T) (wipe σ vs) (upd H T (.tup [x, y])) fun σ2 H2 => wipe σ2 vs = wipe σ vs ∧ tt σ2 H2 fun b H3 =>
      if b = true then te σ2 H3 fun y H4 => ∃ acc, H4 D = some (.lst acc) ∧ acc.length < sizeLine ∧ Pv (i + 1) (upd H4 D (.lst (acc ++ [y]))) else Pv (i + 1) H3) (hd : ∀ H, Pv xs.length H → Qd H) :
    ∃ W : Nat → Nat → Hp → Prop, (∃ m, W 0 m (upd H1 D (.lst []))) ∧ ∀ i m H, W i m H →
      ((RZ.ItzT K a b).stop i H ∧ Qd H) ∨ ((RZ.ItzT K a b).go i H ∧ ∃ Nx : Hp → Prop, (∀ H', Nx H' → ∃ m', m' < m ∧ W (i + 1) m' H') ∧ ∀ x H', (RZ.ItzT K a b).yld i H x H' → g x (wipe σ vs) H' fun σ2 H2 => wipe σ2 vs = wipe σ vs ∧ tt σ2 H2 fun b H3 =>
        if b = true then te σ2 H3 fun y H4 => ∃ acc, H4 D = some (.lst acc) ∧ acc.length < sizeLine ∧ Nx (upd H4 D (.lst (acc ++ [y]))) else Nx H3) := by
  refine ⟨fun i m H => m = xs.length - i ∧ i ≤ xs.length ∧ Pv i H, ⟨xs.length, by simp, Nat.zero_le _, h0⟩, ?_⟩
  rintro i m H ⟨rfl, hi, p⟩
  obtain ⟨q1, q2⟩ := hl i H hi p
  by_cases hlt : i < xs.length
  · have h2 : i < ys.length := by omega
    refine .inr ⟨⟨xs, ys, xs[i], ys[i], q1, q2, List.getElem?_eq_getElem hlt, List.getElem?_eq_getElem h2⟩, Pv (i + 1), fun H' p' => ⟨xs.length - (i + 1), by omega, rfl, hlt, p'⟩, fun x H' y => ?_⟩
    obtain ⟨T, z, z2, rfl, nT, rfl, hy, hy2⟩ := y
    exact hs i z z2 H T (hy xs q1) (hy2 ys q2) p nT
  · have e : i = xs.length := by omega
    subst e
    exact .inl ⟨⟨xs, ys, q1, q2, .inl (Nat.le_refl _)⟩, hd H p⟩
end Bf

/-! Own rules: a list or a tuple held against an empty one; any thing held against a text; list(t) and lists that are no module table. -/
namespace Bf
open PySem PySem.Spec PyProof.Rows L2
section
variable {X : Cx}
theorem isEmpty_size {xs : List V} {its : List Value} (h : xs.length = its.length) : xs.isEmpty = (its.toArray.size == ([] : List Value).toArray.size) := by
  rw [List.size_toArray, ← h]
  cases xs <;> rfl
/-- xs == [] -/
def rEqNil (K : PySem.W.Frag) : R2 := fun x y H Q => ∃ (a b : Addr) (xs : List V), x = .ref a ∧ y = .ref b ∧ SqL K H a xs ∧ SqL K H b [] ∧ Q (.bl xs.isEmpty) H
theorem op_eqNil (hu : X.A.units + 64 < cLine) : OpR X (compareOp .Eq) (rEqNil X.K) := by
  intro pins s σ H x y v u Q I rx ry h
  obtain ⟨a, b, xs, rfl, rfl, hx, hy, q⟩ := h
  cases rx
  cases ry
  obtain ⟨its, r, pl, hz⟩ := I.list hx
  obtain ⟨its2, r2, pl2, hz2⟩ := I.list hy
  cases r2
  have u0 : X.A.units < cLine := by omega
  cases r with
  | nil => exact SeqAt.eq_listAt (e := fun _ => true) pl.isList pl2.isList rfl u0 (fun j h1 _ => absurd h1 (by simp)) ⟨.bl true, H, I, rfl, q⟩
  | cons _ _ => exact SeqAt.eq_list_lengthsAt pl.isList pl2.isList (by simp) u0 ⟨.bl false, H, I, rfl, q⟩
/-- xs != [] -/
def rNeNil (K : PySem.W.Frag) : R2 := fun x y H Q => ∃ (a b : Addr) (xs : List V), x = .ref a ∧ y = .ref b ∧ SqL K H a xs ∧ SqL K H b [] ∧ Q (.bl (!xs.isEmpty)) H
theorem op_neNil (hu : X.A.units + 64 < cLine) : OpR X (compareOp .NotEq) (rNeNil X.K) := by
  intro pins s σ H x y v u Q I rx ry h
  obtain ⟨a, b, xs, rfl, rfl, hx, hy, q⟩ := h
  cases rx
  cases ry
  obtain ⟨its, r, pl, hz⟩ := I.list hx
  obtain ⟨its2, r2, pl2, hz2⟩ := I.list hy
  cases r2
  have u0 : X.A.units < cLine := by omega
  cases r with
  | nil => exact SeqAt.RcNeAt.lists (e := fun _ => true) pl.isList pl2.isList rfl u0 (fun j h1 _ => absurd h1 (by simp)) _ _ _ _ ⟨.bl false, H, I, rfl, q⟩
  | cons _ _ => exact SeqAt.RcNeAt.lists_lengths pl.isList pl2.isList (by simp) u0 _ _ _ _ ⟨.bl true, H, I, rfl, q⟩
/-- t == () -/
def rEqNilT (K : PySem.W.Frag) : R2 := fun x y H Q => ∃ (a b : Addr) (xs : List V), x = .ref a ∧ y = .ref b ∧ SqT K H a xs ∧ SqT K H b [] ∧ Q (.bl xs.isEmpty) H
theorem op_eqNilT (hu : X.A.units + 64 < cLine) : OpR X (compareOp .Eq) (rEqNilT X.K) := by
  intro pins s σ H x y v u Q I rx ry h
  obtain ⟨a, b, xs, rfl, rfl, hx, hy, q⟩ := h
  cases rx
  cases ry
  obtain ⟨its, r, pl, hz⟩ := I.tuple hx
  obtain ⟨its2, r2, pl2, hz2⟩ := I.tuple hy
  cases r2
  have u0 : X.A.units < cLine := by omega
  have e : xs.isEmpty = ((List.range (min its.toArray.size ([] : List Value).toArray.size)).all (fun _ => true) && its.toArray.size == ([] : List Value).toArray.size) := by
    rw [isEmpty_size r.length]
    simp
  rw [e] at q
  exact SeqAt.eq_tupleAt (e := fun _ => true) pl pl2 u0 (fun j _ h2 => absurd h2 (by simp)) ⟨.bl _, H, I, rfl, q⟩
theorem rc_dict_str {A : Around} {s : Shared} {l : Addr} {o : Obj} {es : Array DictEntry} {n : Nat} (b : Str) (u : Tok) (ho : s.heap.get? l = some o) (hc : o.cls = .type "dict") (hd : o.data = .dict es n) (hu : A.units < cLine) :
    SeqAt.RcAt A s (.ref l) (.str b u) false := fun prog w E Q h => by
  obtain ⟨cls, dd, data, sl⟩ := o
  simp only at hc hd
  subst hc hd
  exact SeqAt.rc_eq_decline_or (k := false) ⟨_, ho, rfl⟩ (typeIs_str s b u) (by decide) F.sub_str_dict F.slot_dict_eq F.slot_str_eq_refl
    (fun _ hq => call_meets F.slot_dict_eq ⟨_, ho, rfl⟩ F.entry_dict_eq (F.args_dict_eq_2 _ _) (dict_eq_declines_str l _ dd sl b u) ⟨ho, hq⟩)
    (fun _ hq => call_meets F.slot_str_eq_refl (typeIs_str s b u) F.entry_str_eq (F.args_str_eq_2 _ _) (str_eq_declines_dict b u l es n dd sl) ⟨ho, hq⟩)
    (fun _ hq => wpAny_of_eq (rfl : isSame (.ref l) (.str b u) = pure false) hq) (.inr hu) h
/-- x == "…", x any thing -/
def rEqS : R2 := fun x y H Q => ∃ z : Str, y = .str z ∧ Odd H x ∧ Q (.bl (decide (x = .str z))) H
theorem op_eqS (hu : X.A.units + 64 < cLine) : OpR X (compareOp .Eq) rEqS := by
  intro pins s σ H x y v u Q I rx ry h
  obtain ⟨z, rfl, od, q⟩ := h
  have u0 : X.A.units < cLine := by omega
  cases od with
  | non => exact op_eq pins s σ H _ _ v u Q I rx ry ⟨rfl, q⟩
  | bl b => exact op_eq pins s σ H _ _ v u Q I rx ry ⟨rfl, q⟩
  | int i => exact op_eq pins s σ H _ _ v u Q I rx ry ⟨rfl, q⟩
  | str y => exact op_eq pins s σ H _ _ v u Q I rx ry ⟨rfl, q⟩
  | lst h =>
    cases rx
    obtain ⟨t, rfl⟩ := ry
    obtain ⟨_, its, n, rv, e⟩ := I.hok _ _ h
    exact SeqAt.RcAt.list_str z t (items := its.toArray) ⟨_, e, rfl, _, rfl⟩ u0 _ _ _ _ ⟨.bl false, H, I, rfl, q⟩
  | tup h =>
    cases rx
    obtain ⟨t, rfl⟩ := ry
    obtain ⟨_, its, rv, o, e1, e2, n, e3⟩ := I.hok _ _ h
    exact SeqAt.RcAt.tuple_str z t ⟨o, e1, e2, n, e3⟩ u0 _ _ _ _ ⟨.bl false, H, I, rfl, q⟩
  | emp h =>
    cases rx
    obtain ⟨t, rfl⟩ := ry
    obtain ⟨_, sm, vs, kv, o, es, ep, e1, e2, e3, _, e4, _⟩ := I.hok _ _ h
    exact rc_dict_str z t e1 e2.1 e3 u0 _ _ _ _ ⟨.bl false, H, I, rfl, q⟩
/-- list(x): a new list, not the module table -/
def rListN (K : PySem.W.Frag) : List V → Hp → VK → Prop := fun xs H Q => ∃ p ys, xs = [.ref p] ∧ (SqL K H p ys ∨ SqT K H p ys) ∧ ∀ l, H l = none → l ≠ sysModules → Q (.ref l) (upd H l (.lst ys))
theorem call_listN : CallR X (.type "list") (rListN X.K) := by
  intro pins s σ H xs us Q I rv w
  obtain ⟨p, ys, rfl, seq, ask⟩ := w
  obtain ⟨u, rfl, ru⟩ := vals1 rv
  cases ru
  obtain ⟨its, rel, small, o, at_, n, dat, cl⟩ : ∃ (its : List Value), Vals ys its ∧ ys.length ≤ sizeLine ∧ ∃ (o : Obj), s.heap.get? p = some o ∧ ∃ n, o.data = .seq its.toArray n ∧ (o.cls = .type "list" ∨ o.cls = .type "tuple") := by
    rcases seq with seq | seq
    · obtain ⟨its, rel, pl, small⟩ := I.list seq
      obtain ⟨o, at_, cl, n, dat⟩ := pl.isList
      exact ⟨its, rel, small, o, at_, n, dat, .inl cl⟩
    · obtain ⟨its, rel, ⟨o, at_, cl, n, dat⟩, small⟩ := I.tuple seq
      exact ⟨its, rel, small, o, at_, n, dat, .inr cl⟩
  have len := rel.length
  have fits : its.toArray.size ≤ sizeLine := by rw [List.size_toArray]; omega
  have done : ∀ (G : Heap) (m : Nat), (∀ b z, s.heap.get? b = some z → G.get? b = some z) → G.get? s.heap.objs.size = some { cls := .type "list", dict := none, data := .seq its.toArray m, slots := #[] } → EP X pins σ Q (.ref s.heap.objs.size) { s with heap := G } := fun G m kp e =>
    ⟨.ref s.heap.objs.size, _, I.laid (t' := s.toks) (o := .lst ys) kp (Nat.le_refl _) ⟨small, its, m, rel, e⟩, rfl, ask _ (I.hok.fresh (Nat.le_refl _)) (Nat.ne_of_gt I.big)⟩
  rcases cl with cl | cl
  · exact call_list_seq p (.inl rfl) at_ cl dat done (by omega)
  · exact call_list_seq p (.inr rfl) at_ cl dat done (by omega)
end
end Bf

namespace Bf
open PySem PySem.Spec PyProof.Rows L2
section
variable {X : Cx}
/-- repr(x), x a list of any address -/
def rReprL : List V → Hp → VK → Prop := fun xs H Q => ∃ (a : Addr) (ys : List V) (P : Addr → Prop) (b : Bool) (ds : List PyData), xs = [.ref a] ∧ H a = some (.lst ys) ∧ ShAll H P b ys ds ∧ (PyData.list ds).showable = true ∧ (PyData.list ds).depth ≤ 60 ∧ (PyData.list ds).shown.length ≤ sizeLine ∧ Q (.str (PyData.list ds).shown) H
theorem call_reprL (hA : X.A.guards = some []) (hu : X.A.units + 64 < cLine) : CallR X (.builtin "repr") rReprL := by
  intro pins s σ H xs us Q I r h
  obtain ⟨a, ys, P, b, ds, rfl, ha, hs, sw, dp, sz, q⟩ := h
  obtain ⟨u, rfl, rx⟩ := vals1 r
  cases rx
  obtain ⟨_, its, n, rv, e⟩ := I.hok _ _ ha
  obtain ⟨as, rd, hp⟩ := Sh.readsAll I ds ys its hs rv
  have nodict : PyData.hasDictAll ds = true → sysModules ∉ as := fun hd z => by
    cases b with
    | false => rw [ShAll.nodict ds ys hs] at hd; cases hd
    | true => exact hp rfl _ z rfl
  have sz' : (listText (PyData.shownAll ds)).length ≤ sizeLine := by simpa only [PyData.shown] using sz
  have sw' : PyData.showableAll ds = true := by simpa only [PyData.showable] using sw
  obtain ⟨bs, hb, hk⟩ := ReprAllK.of_readsAll (prog := X.prog) (w := X.w) rd sw' nodict (fun t ht => Nat.le_trans (listText_mem_le ht) sz')
  have whole : Reads s.heap (.ref a) (.list ds) (a :: as) := .list e rfl rfl (by simpa using rd)
  have hna : a ∉ bs := not_mem_of_deeper whole (by simp only [PyData.depth]; omega) hb
  simp only [PyData.depth] at dp
  have fin : ∀ h' u tk, (∀ b o, s.heap.get? b = some o → h'.get? b = some o) → EP X pins σ Q (.str (PyData.list ds).shown u) { s with heap := h', toks := tk } := fun h' u tk k => ⟨.str (PyData.list ds).shown, H, I.kept k, ⟨u, rfl⟩, q⟩
  simp only [PyData.shown] at fin
  refine call_repr_slot (by omega) ⟨_, e, rfl⟩ F.slot_list_repr.toG ?_
  cases its with
  | nil =>
    cases rd
    simp only [PyData.shownAll, listText_nil] at fin
    exact call_list_repr_empty ⟨_, e, rfl⟩ e rfl ⟨_, _, rfl, fin s.heap _ _ fun _ _ e => e⟩
  | cons x l =>
    exact call_list_reprK e rfl rfl hna (by simpa using hk.length_eq) (fun i y e => hk.item i y (by simpa using e)) hA (fun b _ => Clear.nil b) (by show X.A.units + 1 + _ < cLine; omega) (fun _ _ e => e) (fun h' u tk hk => ⟨_, _, rfl, fin h' u tk hk⟩) sz'
end
end Bf

/-! Own rules: a lambda of one thing, that takes nothing of its maker's names, as a value; its call by a local name. -/
namespace Bf
open PySem PySem.Spec PyProof.Rows L2 LamX
/-- a lambda's object at f, its code's at c' -/
def LamO (f c' : Addr) (q : Str) (params : Arguments) (body : Expr) (scope : Scope) : HO := .ext fun h => ∃ pm ctv, h.get? f = some (PySem.W.kla_obj "<lambda>" q params body scope [] pm c' ctv)
theorem lamO_ok {P : Program} {w : World} {H : Hp} {h : Heap} {f c' : Addr} {q : Str} {params : Arguments} {body : Expr} {scope : Scope} {pm ctv : Value} (e : h.get? f = some (PySem.W.kla_obj "<lambda>" q params body scope [] pm c' ctv)) :
    ObjOk P w H h f (LamO f c' q params body scope) := ⟨⟨pm, ctv, e⟩, ⟨_, e⟩, fun h1 h2 z st => by
  obtain ⟨pm, ctv, e⟩ := z
  exact ⟨pm, ctv, st _ e⟩⟩
def tLamV (T : List (Addr × Str)) (q : Str) (params : Arguments) (body : Expr) (scope : Scope) : TE := fun σ H Q => Tabs T H ∧ ∀ f c' H1, ExtN H H1 → Tabs T H1 → H1 f = none → H1 c' = some (CodeO c' q) → Q (.ref f) (upd H1 f (LamO f c' q params body scope))
section
variable {X : Cx}
theorem pe_lam {T : List (Addr × Str)} {c P : Addr} {params : Arguments} {body : Expr} {scope : Scope} {pos : Pos} (TB : TabB X.base X.mg c P) (hcode : X.env.code = .ref c) (hm : (P, X.env.qual ++ "<lambda>") ∈ T)
    (hu : ∀ p ∈ T, p.1 = P → p.2 = X.env.qual ++ "<lambda>") (hdef : defaultsOf params X.env = ([], [])) (hfree : ∀ y ∈ scope.names, y.2 ≠ .free) (hclo : cloFrom X.env.cells scope.names [] = []) :
    PE X (.Lambda params body scope pos) (tLamV T (X.env.qual ++ "<lambda>") params body scope) := ⟨fun pins s σ H Q I hq => by
  obtain ⟨hT, hq⟩ := hq
  obtain ⟨ps, tabP, tri, known⟩ := hT _ hm
  have hcl : closureFor scope X.env = pure [] := by
    rw [← hclo]
    exact closure_ok fun y hy e => absurd e (hfree y hy)
  have bt : s.heap.BuiltinsAt X.mg P := TB.bm.keeps I.bk
  have atP : s.heap.get? P = some { cls := .none, data := .fields ps } := I.hok P _ tabP
  refine PySem.W.kla_eval hdef ?_
  cases among : codeAmong pos ps.toList with
  | some cv =>
    obtain ⟨c', rfl, co⟩ := known pos cv among
    refine PySem.W.kla_makeFunctionHit hcl I.ok.glob (I.mod.glob.keeps I.bk) hcode (TB.code.keeps I.bk) atP tri among bt fun ctv h' tk grow big => ?_
    have J : L2.Inv X pins σ H { s with heap := h', toks := tk } := I.kept grow
    have own : (h'.push (PySem.W.kla_obj "<lambda>" (X.env.qual ++ "<lambda>") params body scope [] ((X.mg "__name__").getD .none) c' ctv)).get? h'.objs.size = some (PySem.W.kla_obj "<lambda>" (X.env.qual ++ "<lambda>") params body scope [] ((X.mg "__name__").getD .none) c' ctv) := Heap.get?_push_size _ rfl
    have K := J.laid (t' := tk) (fun b u e => Heap.get?_push_of_some _ e) (Nat.le_refl _) (lamO_ok own)
    exact ⟨.ref h'.objs.size, _, K, rfl, hq _ _ H (ExtN.refl H) hT (J.hok.fresh (Nat.le_refl _)) co⟩
  | none =>
    refine PySem.W.kla_makeFunction hcl I.ok.glob (I.mod.glob.keeps I.bk) hcode (TB.code.keeps I.bk) atP tri among TB.gP bt fun c' ctv h' tk grow big lt rec_ tab => ?_
    obtain ⟨c2, oc, vs, t, e2, hoc, hd, hv⟩ := rec_
    cases e2
    have fr : H c' = none := I.hok.fresh big
    have nPc : P ≠ c' := ne_of_none tabP fr
    have J := inv_table (t' := tk) I tabP (fun b o hb e => grow b o hb e) tab big ⟨oc, vs, t, hoc, hd, hv⟩
    have E1 : ExtN H (upd (upd H P (.tbl (ps ++ #[rawInt pos.line, rawInt pos.col, .ref c']))) c' (CodeO c' (X.env.qual ++ "<lambda>"))) := fun b o e n => by
      have nb : b ≠ P := fun z => n ps (Option.some.inj (e.symm.trans (by rw [z]; exact tabP)))
      rw [upd_ne (ne_of_none e fr), upd_ne nb]
      exact e
    have T1 : Tabs T (upd (upd H P (.tbl (ps ++ #[rawInt pos.line, rawInt pos.col, .ref c']))) c' (CodeO c' (X.env.qual ++ "<lambda>"))) := fun p hp => by
      by_cases hb : p.1 = P
      · rw [hu p hp hb, hb]
        have eL : (ps ++ #[rawInt pos.line, rawInt pos.col, .ref c']).toList = ps.toList ++ [rawInt pos.line, rawInt pos.col, .ref c'] := by rw [Array.toList_append]
        refine ⟨_, by rw [upd_ne nPc, upd_same], by rw [eL]; exact PySem.TriplesOk_snoc _ _ _ _ tri, fun p' cv hcv => ?_⟩
        rw [eL] at hcv
        rcases among_app _ tri hcv with z | z
        · obtain ⟨c0, e1, e2⟩ := known p' cv z
          exact ⟨c0, e1, E1 _ _ e2 codeO_ne⟩
        · exact ⟨c', z, upd_same⟩
      · obtain ⟨qs, a1, a2, a3⟩ := hT p hp
        refine ⟨qs, by rw [upd_ne (ne_of_none a1 fr), upd_ne hb]; exact a1, a2, fun p' cv hcv => ?_⟩
        obtain ⟨c0, e1, e2⟩ := a3 p' cv hcv
        exact ⟨c0, e1, E1 _ _ e2 codeO_ne⟩
    have own : (h'.push (PySem.W.kla_obj "<lambda>" (X.env.qual ++ "<lambda>") params body scope [] ((X.mg "__name__").getD .none) c' ctv)).get? h'.objs.size = some (PySem.W.kla_obj "<lambda>" (X.env.qual ++ "<lambda>") params body scope [] ((X.mg "__name__").getD .none) c' ctv) := Heap.get?_push_size _ rfl
    have K := J.laid (t' := tk) (fun b u e => Heap.get?_push_of_some _ e) (Nat.le_refl _) (lamO_ok own)
    exact ⟨.ref h'.objs.size, _, K, rfl, hq _ _ _ E1 T1 (J.hok.fresh (Nat.le_refl _)) upd_same⟩⟩
end
/-- what a lambda of one thing promises -/
structure LamOk (P : Program) (w : World) (K : PySem.W.Frag) (mg : Str → Option Value) (base : Heap) (CX : CXT) (k : Nat) (q : Str) (params : Arguments) (body : Expr) (scope : Scope) (sp : Sp) : Prop where
  go : ∀ (A : Around) (outer : List Env) (s : Shared) (H : Hp) (f c' : Addr) (u : Value) (v : V) (Q : VK) (E : XK), Room k A → Env0 P w K mg base A outer s H → (∃ pm ctv, s.heap.get? f = some (PySem.W.kla_obj "<lambda>" q params body scope [] pm c' ctv)) →
    s.heap.CodeRec (.ref c') q → RelV v u → sp [v] H Q E → codeAny (model P w) A (.call (.ref f) ⟨[u], []⟩) (CR CX outer P w H s Q E) s
section
variable {P : Program} {w : World} {K : PySem.W.Frag} {mg : Str → Option Value} {base : Heap} {CX : CXT}
theorem lamOk_of {k : Nat} {q x : Str} {params : Arguments} {body : Expr} {scope : Scope} {sp : Sp} (S : FnScope [x] [x] scope)
    (hbind : ∀ (pm cv ctv u : Value), bindArgs (PySem.W.kla_fn "<lambda>" q params body scope [] pm cv ctv) ⟨[u], []⟩ = pure [(x, u)])
    (hbody : ∀ (f : Addr) (cdv : Value) (A : Around) (outer : List Env) (s : Shared) (H : Hp) (v : V) (Q : VK) (E : XK), Room k (A.deeper (envOfC q scope s.heap.objs.size f cdv)) → sp [v] H Q E →
      ∃ t, PE (cxOf CX P w K mg base [x] q scope f cdv A outer s H E) body t ∧ t (L2.start [x] [v]) H Q) : LamOk P w K mg base CX (k + 1) q params body scope sp where
  go := by
    intro A outer s H f c' u v Q E hr e0 hf hcd rv hsp
    obtain ⟨pm, ctv, hf⟩ := hf
    have lim : s.heap.NoLimit := e0.mod.nolimit.keeps fun b o e => (e0.bs b o e).1
    refine PySem.W.kla_callFunE hr.depth hf rfl S.co S.gen rfl hcd ?_
    rw [hbind]
    refine wpAny_pure (wpAny_newFunctionEnv_cells S.kind (fun y hy => ?_) fun env he s1 z => ?_)
    · rcases S.par y.1 (List.of_mem_zip (show (y.1, y.2) ∈ [x].zip [u] from hy)).1 with h | h
      · exact .inl h
      · exact .inr ⟨h, PySem.W.cellsFrom_some _ _ _ (.inl h)⟩
    · cases he
      obtain ⟨t, ht, hq⟩ := hbody f (.ref c') A outer s H v Q E (hr.deeper _) hsp
      refine ⟨lim.keeps z.toInCall.keep, PySem.W.kla_codeExpr (wpAny_mono (ht.run [] s1 _ H _ (inv_start (ps := [x]) (us := [u]) (vs := [v]) S hr.hd e0 rfl (.cons rv .nil) z) hq) (fun r s' h => ?_) fun _ _ h => h)⟩
      obtain ⟨y, H', J, ry, qy⟩ := h
      exact ⟨y, H', J.os, J.bare, J.base, J.hok, ry, qy⟩
end
section
variable {X : Cx} {CX : CXT} {k i : Nat} {q a : Str} {params : Arguments} {body : Expr} {scope : Scope} {sp : Sp} {E : L2.St → XK} {p1 p2 : Pos} {e : Expr} {te : TE}
def tCallL (i : Nat) (q : Str) (params : Arguments) (body : Expr) (scope : Scope) (sp : Sp) (E : L2.St → XK) (te : TE) : TE := fun σ H Q => ∃ f c', σ[i]? = some (some (.ref f)) ∧ H f = some (LamO f c' q params body scope) ∧
  te σ H fun v H1 => H1 f = some (LamO f c' q params body scope) ∧ H1 c' = some (CodeO c' q) ∧ sp [v] H1 Q (E σ)
theorem pe_callL (L : LamOk X.prog X.w X.K X.mg X.base CX k q params body scope sp) (hr : Room k X.A) (hN : X.N[i]? = some a) (hv : Vis X.env.scope a) (hx : ∀ σ, PassesAt CX X σ (E σ)) (he : PE X e te)
    (hd : (a == ("__debug__" : Str)) = false := by decide) (hcd : (a == ("__classdict__" : Str)) = false := by decide) (hs : starEach [e] X.env = (false, eval e X.env) :: starEach [] X.env := by rfl) :
    PE X (.Call (.Name a p1) [e] [] p2) (tCallL i q params body scope sp E te) := ⟨fun pins s σ H Q I hq => by
  obtain ⟨f, c', hσ, hF, hq⟩ := hq
  refine wpAny_Call_Name_kw (thn ((pe_var (pos := p1) (i := i) hN hv hd hcd).run pins s σ H (fun v H1 => v = .ref f ∧ H1 = H) I ⟨.ref f, hσ, rfl, rfl⟩) fun u s1 ⟨v, H1, I1, r1, q1⟩ => ?_)
  obtain ⟨rfl, rfl⟩ := q1
  obtain rfl : u = Value.ref f := r1
  obtain ⟨⟨pm, ctv, at1⟩, _, _⟩ := I1.hok f _ hF
  refine PySem.W.callWith_F ⟨_, _, _, _, at1⟩ ?_ hs rfl
  rw [hs]
  show wpAny _ _ (spliced ((false, eval e X.env) :: backTo p2 (starEach [] X.env))) _ _ s1
  refine Calls.spliced_cons (thn (he.run pins s1 σ _ _ I1 hq) fun u2 s2 ⟨v2, H2, I2, r2, q2⟩ => Calls.spliced_nil ?_)
  obtain ⟨hF2, hC2, q2⟩ := q2
  obtain ⟨⟨pm2, ctv2, at2⟩, _, _⟩ := I2.hok f _ hF2
  obtain ⟨⟨oc, vs, t, hoc, hdc, hvc⟩, _, _⟩ := I2.hok c' _ hC2
  refine ⟨⟨_, _, _, _, at2⟩, wpAny_call (codeAny_mono (L.go X.A X.stack s2 H2 f c' u2 v2 Q (E σ) hr I2.env0 ⟨pm2, ctv2, at2⟩ ⟨c', oc, vs, t, rfl, hoc, hdc, hvc⟩ r2 q2) fun r s' h => ?_)⟩
  cases r with
  | error e => exact hx σ pins H2 s2 e s' I2 h
  | ok fl =>
    cases fl with
    | ret u => exact I2.after h
    | next => exact h.elim
    | brk => exact h.elim
    | cont => exact h.elim⟩
end
end Bf

/-! Own rules: a comprehension over zip of a tuple and a list. -/
namespace Bf
open PySem PySem.Spec PyProof.Rows L2
/-- zip(t, l): the tuple at a, the list at b, their things in new pairs -/
def ItM (K : PySem.W.Frag) (a b : Addr) : It where
  go := fun i H => ∃ xs ys x y, SqT K H a xs ∧ SqL K H b ys ∧ xs[i]? = some x ∧ ys[i]? = some y
  yld := fun i H v H' => ∃ T x y, v = .ref T ∧ H T = none ∧ H' = upd H T (.tup [x, y]) ∧ (∀ xs, SqT K H a xs → xs[i]? = some x) ∧ ∀ ys, SqL K H b ys → ys[i]? = some y
  stop := fun i H => ∃ xs ys, SqT K H a xs ∧ SqL K H b ys ∧ xs.length = i ∧ ys.length = i
/-- where the five objects of a zip stand -/
def zcells (n : Nat) : List Nat := [n + 4, n + 2, n + 3, n, n + 1]
theorem zcells_mem {n c : Nat} (h : c ∈ zcells n) : n ≤ c ∧ c ≤ n + 4 := by
  simp only [zcells, List.mem_cons, List.not_mem_nil, or_false] at h
  omega
def zst (n a b : Nat) (i : Nat) (h : Heap) : Prop :=
  IsZip h (n + 4) (n + 2) (n + 3) .none ∧ IsTupOf2 h (n + 2) (.ref n) (.ref (n + 1)) ∧ (∃ u v, IsTupOf2 h (n + 3) u v) ∧ h.IsTupleIter n a i ∧ h.IsListIter (n + 1) b i
theorem zsep {n a b : Nat} (ha : a < n) (hb : b < n) : ZipSep2 (n + 4) (n + 2) (n + 3) n (n + 1) [n, a] [n + 1, b] := by
  constructor <;> first
    | exact List.mem_cons_self
    | (intro e; simp only [List.mem_cons, List.not_mem_nil, or_false] at e; exact absurd (show (_ : Nat) = _ ∨ (_ : Nat) = _ from e) (by omega))
    | (intro e; exact absurd (show (_ : Nat) = _ from e) (by omega))
theorem zst_keep {n a b : Nat} {i : Nat} {h h' : Heap} (st : zst n a b i h) (k : ∀ c ∈ zcells n, ∀ o, h.get? c = some o → h'.get? c = some o) : zst n a b i h' := by
  obtain ⟨s1, s2, ⟨u, v, s3⟩, s4, s5⟩ := st
  exact ⟨k _ (by simp [zcells]) _ s1, k _ (by simp [zcells]) _ s2, ⟨u, v, k _ (by simp [zcells]) _ s3⟩, s4.at fun o e => k _ (by simp [zcells]) o e, s5.at fun o e => k _ (by simp [zcells]) o e⟩
theorem zst_obj {n a b : Nat} {i : Nat} {h : Heap} (st : zst n a b i h) : ∀ c ∈ zcells n, ∃ o, h.get? c = some o ∧ ∀ v, o.data ≠ .cell v := by
  obtain ⟨s1, s2, ⟨u, v, s3⟩, ⟨o4, e4, _, d4⟩, ⟨o5, e5, _, d5⟩⟩ := st
  intro c hc
  simp only [zcells, List.mem_cons, List.not_mem_nil, or_false] at hc
  rcases hc with rfl | rfl | rfl | rfl | rfl
  · exact ⟨_, s1, nofun⟩
  · exact ⟨_, s2, nofun⟩
  · exact ⟨_, s3, nofun⟩
  · exact ⟨o4, e4, fun v e => by rw [d4] at e; cases e⟩
  · exact ⟨o5, e5, fun v e => by rw [d5] at e; cases e⟩
theorem turnM {P : Program} {w : World} {K : PySem.W.Frag} {elts : List Expr} {kk : Nat} {tpos : Pos} {a b n : Nat} (ha : a < n) (hb : b < n) : Turn P w K (.Tuple elts kk tpos) (ItM K a b) (zcells n) (n + 4) (zst n a b) where
  mem := by simp [zcells]
  obj := fun i h st => zst_obj st
  keep := fun i h h' st k => zst_keep st k
  item := by
    intro X eP ew eK hc i pins s σ H E I hf st hg
    subst eP ew eK
    obtain ⟨xs, ys, x, y, qx, qy, ix, iy⟩ := hg
    obtain ⟨us, ru, pu, _⟩ := I.tuple qx
    obtain ⟨ws, rw', pw, _⟩ := I.list qy
    have S := zsep ha hb
    have D1 := Draws.tuple (prog := X.prog) (w := X.w) (A := X.A.in1) (I.ok.hd hc) n a (Nat.ne_of_lt ha) us.toArray
    have D2 := Draws.list (prog := X.prog) (w := X.w) (A := X.A.in1) (I.ok.hd hc) (n + 1) b (Nat.ne_of_lt (Nat.lt_succ_of_lt hb)) ws.toArray
    obtain ⟨s1, s2, ⟨u0, v0, s3⟩, s4, s5⟩ := st
    obtain ⟨u, eu, hu⟩ := ru.get ix
    obtain ⟨v, ev, hv⟩ := rw'.get iy
    have l1 : i < us.toArray.size := by simpa using (List.getElem?_eq_some_iff.mp eu).1
    have l2 : i < ws.toArray.size := by simpa using (List.getElem?_eq_some_iff.mp ev).1
    refine wpAny_pyNext_zipD2_item S D1 D2 s1 s2 s3 ⟨s4, pu⟩ ⟨s5, pw.isList⟩ l1 l2 fun u' v' h' tk hu' hv' z1 z2 z3 z4 z5 z6 z7 => ?_
    have eu' : u' = u := by
      have h : us.toArray[i]? = some u' := hu'
      rw [List.getElem?_toArray, eu] at h
      exact (Option.some.inj h).symm
    have ev' : v' = v := by
      have h : ws.toArray[i]? = some v' := hv'
      rw [List.getElem?_toArray, ev] at h
      exact (Option.some.inj h).symm
    subst eu' ev'
    have hn : n + 4 < s.heap.objs.size := Heap.lt_size s1
    have dif : ∀ p q : Nat, p ≠ q → n + p ≠ n + q := fun p q h e => h (Nat.add_left_cancel e)
    refine ⟨_, rfl, wpAny_letOwnedTupleGo_zip (s := { s with heap := h', toks := tk }) z1 fun h2 y1 sb => ?_⟩
    have far : s.heap.objs.size ≠ n + 4 := Nat.ne_of_gt hn
    have pair : h2.get? s.heap.objs.size = some { cls := .type "tuple", data := .seq #[u', v'] } := (sb.2 _ far).trans z5
    have keep : ∀ c o, c ∉ zcells n → s.heap.get? c = some o → h2.get? c = some o := fun c o hc e => by
      have nc : ∀ d, d ∈ zcells n → c ≠ d := fun d hd e => hc (e ▸ hd)
      exact (sb.2 c (nc _ (by simp [zcells]))).trans (z7 c o (nc _ (by simp [zcells])) (nc _ (by simp [zcells])) (nc _ (by simp [zcells])) (nc _ (by simp [zcells])) e)
    have laid : ObjOk X.prog X.w (upd H s.heap.objs.size (.tup [x, y])) h2 s.heap.objs.size (.tup [x, y]) := ⟨by show 2 ≤ sizeLine; decide, [u', v'], .cons hu (.cons hv .nil), ⟨_, pair, rfl, _, rfl⟩⟩
    have J : L2.Inv X pins σ (upd H s.heap.objs.size (.tup [x, y])) { s with heap := h2, toks := tk } := I.turnedNew (t' := tk) (ch := zcells n) (fun c o hb e => keep c o hb e) hf (Nat.le_refl _) laid
    refine ⟨.ref s.heap.objs.size, _, J, rfl, ⟨_, x, y, rfl, I.hok.fresh (Nat.le_refl _), rfl, fun l hl => by rw [I.tuple_inj hl qx]; exact ix, fun l hl => by rw [I.list_inj hl qy]; exact iy⟩, ⟨y1, ?_, ⟨u', v', ?_⟩, ?_, ?_⟩, fun c hc => ?_⟩
    · exact (sb.2 (n + 2) (dif 2 4 (by decide))).trans (z7 (n + 2) _ (dif 2 4 (by decide)) (dif 2 3 (by decide)) (dif 2 0 (by decide)) (dif 2 1 (by decide)) s2)
    · exact (sb.2 (n + 3) (dif 3 4 (by decide))).trans z2
    · exact z3.1.at fun o e => (sb.2 n (dif 0 4 (by decide))).trans e
    · exact z4.1.at fun o e => (sb.2 (n + 1) (dif 1 4 (by decide))).trans e
    · have := zcells_mem hc
      rw [upd_ne (Nat.ne_of_lt (Nat.lt_of_le_of_lt this.2 hn))]
      exact (hf c hc).1
  done := by
    intro X eP ew eK hc i pins s σ H E I hf st hg
    subst eP ew eK
    obtain ⟨xs, ys, qx, qy, lx, ly⟩ := hg
    obtain ⟨us, ru, pu, _⟩ := I.tuple qx
    obtain ⟨ws, rw', pw, _⟩ := I.list qy
    have D1 := Draws.tuple (prog := X.prog) (w := X.w) (A := X.A.in1) (I.ok.hd hc) n a (Nat.ne_of_lt ha) us.toArray
    have D2 := Draws.list (prog := X.prog) (w := X.w) (A := X.A.in1) (I.ok.hd hc) (n + 1) b (Nat.ne_of_lt (Nat.lt_succ_of_lt hb)) ws.toArray
    obtain ⟨s1, s2, ⟨u0, v0, s3⟩, s4, s5⟩ := st
    have e1 := ru.length
    have e2 := rw'.length
    refine wpAny_pyNext_zipD2_end (zsep ha hb) D1 D2 s1 s2 s3 ⟨s4, pu⟩ ⟨s5, pw.isList⟩ (by rw [List.size_toArray]; omega) (by rw [List.size_toArray]; omega) (.inl (by rw [List.size_toArray]; omega)) fun h' tk z7 => ⟨rfl, ?_⟩
    exact I.turnedL (t' := tk) (ch := zcells n) (fun (c : Nat) o hb e => z7 c o (fun q => hb (by simp [zcells, q])) (fun q => hb (by simp [zcells, q])) (fun q => hb (by simp [zcells, q])) (fun q => hb (by simp [zcells, q])) e) hf
  self := fun A i s Q E st h => wpAny_pyIter_zip st.1 h
/-- .. as what is walked -/
def iZipM (K : PySem.W.Frag) (ta : TA) : TI := fun σ H R => ta σ H fun vs H1 => ∃ a b xs ys, vs = [.ref a, .ref b] ∧ SqT K H1 a xs ∧ SqL K H1 b ys ∧ R (ItM K a b) H1
theorem pi_zipM {X : Cx} {e e2 : Expr} {ta : TA} {p pos tpos : Pos} {elts : List Expr} {kk : Nat} (hg : Gl X "zip") (hm : X.mg "zip" = none) (ha : PA X [e, e2] ta)
    (s2 : starEach [e, e2] X.env = (false, eval e X.env) :: starEach [e2] X.env := by rfl) (pl : (backTo pos (starEach [e2] X.env)).any (·.1) = false := by rfl) : PI X (.Tuple elts kk tpos) (.Call (.Name "zip" p) [e, e2] [] pos) (iZipM X.K ta) := by
  refine ⟨fun pins s σ H R I h => Call_ (ld_blt I hg hm PyProof.Rows.boot_zip (PyProof.Rows.callWith_type1 (thn (ha.run pos pins s σ H _ I h) fun us s1 ⟨vs, H1, J, r, q⟩ => ?_) s2 pl))⟩
  obtain ⟨a, b, xs, ys, ev, qx, qy, q⟩ := q
  subst ev
  cases r with
  | cons r0 r =>
  cases r with
  | cons r1 r =>
  cases r
  cases r0
  cases r1
  obtain ⟨us, _, pu, _⟩ := J.tuple qx
  obtain ⟨ws, _, pw, _⟩ := J.list qy
  have la : a < s1.heap.objs.size := by
    obtain ⟨o, ho, _⟩ := pu
    exact Heap.lt_size ho
  refine zip_begins2 (begins_tuple a us.toArray) (begins_list b ws.toArray) pu pw.isList fun h' z1 z2 z3 z4 z5 z6 k => wpAny_pyIter_zip z1 ?_
  have J2 : L2.Inv X pins σ H1 { s1 with heap := h' } := J.kept (t' := s1.toks) k
  refine ⟨s1.heap.objs.size + 4, zcells s1.heap.objs.size, zst s1.heap.objs.size a b, ItM X.K a b, H1, rfl, J2, turnM la pw.lt, ⟨z1, z2, ⟨_, _, z3⟩, ⟨_, z4, rfl, rfl⟩, ⟨_, z5, rfl, rfl⟩⟩, fun c hc => ?_, q⟩
  exact J.fpOk (zcells_mem hc).1 (J.hok.fresh (zcells_mem hc).1)
/-- a comprehension over zip of a tuple and a list of one length -/
theorem lc_zipM {K : PySem.W.Frag} {a b : Addr} {xs ys : List V} {g : TG} {tt : TT} {te : TE} {vs : List Nat} {σ : L2.St} {H1 : Hp} {D : Addr} {Qd : Hp → Prop} (hxy : xs.length = ys.length) (Pv : Nat → Hp → Prop) (h0 : Pv 0 (upd H1 D (.lst [])))
    (hl : ∀ i H, i ≤ xs.length → Pv i H → SqT K H a xs ∧ SqL K H b ys) (hs : ∀ i x y H T, xs[i]? = some x → ys[i]? = some y → Pv i H → H T = none → g (.ref T) (wipe σ vs) (upd H T (.tup [x, y])) fun σ2 H2 => wipe σ2 vs = wipe σ vs ∧ tt σ2 H2 fun ok H3 =>
      if ok = true then te σ2 H3 fun z H4 => ∃ acc, H4 D = some (.lst acc) ∧ acc.length < sizeLine ∧ Pv (i + 1) (upd H4 D (.lst (acc ++ [z]))) else Pv (i + 1) H3) (hd : ∀ H, Pv xs.length H → Qd H) :
    ∃ W : Nat → Nat → Hp → Prop, (∃ m, W 0 m (upd H1 D (.lst []))) ∧ ∀ i m H, W i m H → ((ItM K a b).stop i H ∧ Qd H) ∨ ((ItM K a b).go i H ∧ ∃ Nx : Hp → Prop, (∀ H', Nx H' → ∃ m', m' < m ∧ W (i + 1) m' H') ∧
      ∀ x H', (ItM K a b).yld i H x H' → g x (wipe σ vs) H' fun σ2 H2 => wipe σ2 vs = wipe σ vs ∧ tt σ2 H2 fun ok H3 => if ok = true then te σ2 H3 fun z H4 => ∃ acc, H4 D = some (.lst acc) ∧ acc.length < sizeLine ∧ Nx (upd H4 D (.lst (acc ++ [z]))) else Nx H3) := by
  refine ⟨fun i m H => m + i = xs.length ∧ Pv i H, ⟨xs.length, rfl, h0⟩, fun i m H w => ?_⟩
  obtain ⟨em, p⟩ := w
  have hi : i ≤ xs.length := by omega
  obtain ⟨q1, q2⟩ := hl i H hi p
  by_cases hlt : i < xs.length
  · have hlt2 : i < ys.length := by omega
    refine .inr ⟨⟨xs, ys, xs[i], ys[i], q1, q2, List.getElem?_eq_getElem hlt, List.getElem?_eq_getElem hlt2⟩, Pv (i + 1), fun H' p' => ⟨m - 1, by omega, by omega, p'⟩, fun v H' yv => ?_⟩
    obtain ⟨T, x, y, rfl, nT, rfl, hx, hy⟩ := yv
    exact hs i x y H T (hx xs q1) (hy ys q2) p nT
  · have : i = xs.length := by omega
    subst this
    exact .inl ⟨⟨xs, ys, q1, q2, rfl, hxy.symm⟩, hd H p⟩
end Bf

/-! Own: what runs, runs one way; two posts of one run hold together. -/
namespace Bf
open PySem
theorem Runs.one {M : Model} {Γ : Ctx} {p : Pos} {t : Sem Fin} {fs : List Frame} {s s' : Shared} {e : End} (h : Runs M Γ p t fs s e s') : ∀ {e2 s2}, Runs M Γ p t fs s e2 s2 → e2 = e ∧ s2 = s' := by
  induction h with
  | done => intro e2 s2 g; cases g; exact ⟨rfl, rfl⟩
  | raise => intro e2 s2 g; cases g; exact ⟨rfl, rfl⟩
  | again _ _ ih => intro e2 s2 g; cases g with | again _ g => exact ih g
  | rule _ ih => intro e2 s2 g; cases g with | rule g => exact ih g
  | «at» _ ih => intro e2 s2 g; cases g with | «at» g => exact ih g
  | load ho _ ih => intro e2 s2 g; cases g with | load ho' g => rw [ho] at ho'; cases ho'; exact ih g
  | update _ _ ih => intro e2 s2 g; cases g with | update _ g => exact ih g
  | loadIfAlive _ ih => intro e2 s2 g; cases g with | loadIfAlive g => exact ih g
  | point _ ih => intro e2 s2 g; cases g with | point g => exact ih g
  | alloc _ ih => intro e2 s2 g; cases g with | alloc g => exact ih g
  | fresh _ ih => intro e2 s2 g; cases g with | fresh g => exact ih g
  | ask _ ih => intro e2 s2 g; cases g with | ask g => exact ih g
  | choose _ _ ih => intro e2 s2 g; cases g with | choose _ g => exact ih g
  | os _ ih => intro e2 s2 g; cases g with | os g => exact ih g
  | handled _ ih => intro e2 s2 g; cases g with | handled g => exact ih g
  | genState ho _ ih => intro e2 s2 g; cases g with | genState ho' g => rw [ho] at ho'; cases ho'; exact ih g
  | stack _ ih => intro e2 s2 g; cases g with | stack g => exact ih g
  | thread _ ih => intro e2 s2 g; cases g with | thread g => exact ih g
  | newGen _ ih => intro e2 s2 g; cases g with | newGen g => exact ih g
  | call _ _ i1 i2 =>
    intro e2 s2 g
    cases g with
    | call g1 g2 => obtain ⟨a, b⟩ := i1 g1; cases a; subst b; exact i2 g2
    | callSusp g1 => exact nomatch (i1 g1).1
  | callSusp _ i1 =>
    intro e2 s2 g
    cases g with
    | call g1 g2 => exact nomatch (i1 g1).1
    | callSusp g1 => obtain ⟨a, b⟩ := i1 g1; cases a; subst b; exact ⟨rfl, rfl⟩
  | yield => intro e2 s2 g; cases g; exact ⟨rfl, rfl⟩
  | resumeFresh ho _ _ _ i1 i2 =>
    intro e2 s2 g
    cases g with
    | resumeFresh ho' g1 _ g2 => rw [ho] at ho'; cases ho'; obtain ⟨a, b⟩ := i1 g1; subst a b; exact i2 g2
    | resumeSuspended ho' => rw [ho] at ho'; cases ho'
    | resumeJustStarted _ n => exact absurd rfl n
    | resumeRunning ho' => rw [ho] at ho'; cases ho'
    | resumeFinished ho' => rw [ho] at ho'; cases ho'
  | resumeSuspended ho _ _ _ i1 i2 =>
    intro e2 s2 g
    cases g with
    | resumeFresh ho' => rw [ho] at ho'; cases ho'
    | resumeSuspended ho' g1 _ g2 => rw [ho] at ho'; cases ho'; obtain ⟨a, b⟩ := i1 g1; subst a b; exact i2 g2
    | resumeJustStarted ho' => rw [ho] at ho'; cases ho'
    | resumeThrowFresh ho' => rw [ho] at ho'; cases ho'
    | resumeRunning ho' => rw [ho] at ho'; cases ho'
    | resumeFinished ho' => rw [ho] at ho'; cases ho'
  | resumeJustStarted ho n _ ih =>
    intro e2 s2 g
    cases g with
    | resumeFresh => exact absurd rfl n
    | resumeSuspended ho' => rw [ho] at ho'; cases ho'
    | resumeJustStarted _ _ g => exact ih g
    | resumeRunning ho' => rw [ho] at ho'; cases ho'
    | resumeFinished ho' => rw [ho] at ho'; cases ho'
  | resumeThrowFresh ho _ ih =>
    intro e2 s2 g
    cases g with
    | resumeSuspended ho' => rw [ho] at ho'; cases ho'
    | resumeThrowFresh _ g => exact ih g
    | resumeRunning ho' => rw [ho] at ho'; cases ho'
    | resumeFinished ho' => rw [ho] at ho'; cases ho'
  | resumeRunning ho _ ih =>
    intro e2 s2 g
    cases g with
    | resumeFresh ho' => rw [ho] at ho'; cases ho'
    | resumeSuspended ho' => rw [ho] at ho'; cases ho'
    | resumeJustStarted ho' => rw [ho] at ho'; cases ho'
    | resumeThrowFresh ho' => rw [ho] at ho'; cases ho'
    | resumeRunning _ g => exact ih g
    | resumeFinished ho' => rw [ho] at ho'; cases ho'
  | resumeFinished ho _ ih =>
    intro e2 s2 g
    cases g with
    | resumeFresh ho' => rw [ho] at ho'; cases ho'
    | resumeSuspended ho' => rw [ho] at ho'; cases ho'
    | resumeJustStarted ho' => rw [ho] at ho'; cases ho'
    | resumeThrowFresh ho' => rw [ho] at ho'; cases ho'
    | resumeRunning ho' => rw [ho] at ho'; cases ho'
    | resumeFinished _ g => exact ih g
  | segRet _ _ i1 i2 =>
    intro e2 s2 g
    cases g with
    | segRet g1 g2 => obtain ⟨a, b⟩ := i1 g1; cases a; subst b; exact i2 g2
    | segSuspOut _ g1 => exact nomatch (i1 g1).1
    | segSuspGen _ g1 => exact nomatch (i1 g1).1
  | segGen _ _ i1 i2 =>
    intro e2 s2 g
    cases g with
    | segGen g1 g2 => obtain ⟨a, b⟩ := i1 g1; cases a; subst b; exact i2 g2
    | segSuspOut _ g1 => exact nomatch (i1 g1).1
    | segSuspGen _ g1 => exact nomatch (i1 g1).1
  | segSuspOut hs _ i1 =>
    intro e2 s2 g
    cases g with
    | segRet g1 g2 => exact nomatch (i1 g1).1
    | segGen g1 g2 => exact nomatch (i1 g1).1
    | segSuspOut _ g1 => obtain ⟨a, b⟩ := i1 g1; cases a; subst b; exact ⟨rfl, rfl⟩
    | segSuspGen hs' => rw [hs] at hs'; cases hs'
  | segSuspGen hs _ _ _ i1 i2 =>
    intro e2 s2 g
    cases g with
    | segRet g1 g2 => exact nomatch (i1 g1).1
    | segGen g1 g2 => exact nomatch (i1 g1).1
    | segSuspOut hs' => rw [hs] at hs'; cases hs'
    | segSuspGen hs' g1 _ g2 => rw [hs] at hs'; cases hs'; obtain ⟨a, b⟩ := i1 g1; cases a; subst b; exact i2 g2
theorem Wakes.one {M : Model} {Γ : Ctx} {p : Pos} {g : Nat} {r : Resume} {s s' s2 : Shared} {res res2 : GenResult} (h : Wakes M Γ p g r s res s') (k : Wakes M Γ p g r s res2 s2) : res2 = res ∧ s2 = s' := by
  unfold Wakes at h k
  cases hs : s.gens[g]? with
  | none => rw [hs] at h; exact h.elim
  | some x =>
    rw [hs] at h k
    cases x with
    | fresh c =>
      cases r with
      | throw x => exact ⟨k.1.trans h.1.symm, k.2.trans h.2.symm⟩
      | send v =>
        cases v with
        | none =>
          obtain ⟨e₁, s₁, hr, _, rfl, rfl⟩ := h
          obtain ⟨e₂, s₂, kr, _, rfl, rfl⟩ := k
          obtain ⟨a, b⟩ := Runs.one hr kr
          subst a b
          exact ⟨rfl, rfl⟩
        | _ => exact ⟨k.1.trans h.1.symm, k.2.trans h.2.symm⟩
    | suspended =>
      obtain ⟨e₁, s₁, hr, _, rfl, rfl⟩ := h
      obtain ⟨e₂, s₂, kr, _, rfl, rfl⟩ := k
      obtain ⟨a, b⟩ := Runs.one hr kr
      subst a b
      exact ⟨rfl, rfl⟩
    | running => exact ⟨k.1.trans h.1.symm, k.2.trans h.2.symm⟩
    | finished => exact ⟨k.1.trans h.1.symm, k.2.trans h.2.symm⟩
theorem wp_and {α : Type} (M : Model) (Γ : Ctx) (t : Sem α) : ∀ (Q Q' : α → Pos → Shared → Prop) (E E' : Value → Pos → Shared → Prop) (p : Pos) (s : Shared), Sem.wp M Γ t Q E p s → Sem.wp M Γ t Q' E' p s →
    Sem.wp M Γ t (fun a p' s' => Q a p' s' ∧ Q' a p' s') (fun e p' s' => E e p' s' ∧ E' e p' s') p s := by
  induction t with
  | pure a => intro Q Q' E E' p s h g; exact ⟨h, g⟩
  | raise e => intro Q Q' E E' p s h g; exact ⟨h, g⟩
  | unsupported _ => intro Q Q' E E' p s h g; exact h
  | finish _ => intro Q Q' E E' p s h g; exact h
  | rule _ k ih => intro Q Q' E E' p s h g; exact ih () Q Q' E E' p s h g
  | «at» p' k ih => intro Q Q' E E' p s h g; exact ih () Q Q' E E' p' s h g
  | load a _ k ih =>
    intro Q Q' E E' p s h g
    obtain ⟨o, ho, h⟩ := h
    obtain ⟨o', ho', g⟩ := g
    have e : o' = o := Option.some.inj (ho'.symm.trans ho)
    subst e
    exact ⟨o', ho, ih o' Q Q' E E' p s h g⟩
  | update a _ f k ih => intro Q Q' E E' p s h g; exact ⟨h.1, ih () Q Q' E E' p _ h.2 g.2⟩
  | loadIfAlive a k ih => intro Q Q' E E' p s h g; exact ih _ Q Q' E E' p s h g
  | point _ k ih => intro Q Q' E E' p s h g; exact ih () Q Q' E E' p s h g
  | register _ _ => intro Q Q' E E' p s h g; exact h
  | alloc o k ih => intro Q Q' E E' p s h g; exact ih _ Q Q' E E' p _ h g
  | fresh k ih => intro Q Q' E E' p s h g; exact ih _ Q Q' E E' p _ h g
  | ask k ih => intro Q Q' E E' p s h g; exact ih _ Q Q' E E' p s h g
  | choose src m k ih => intro Q Q' E E' p s h g; exact ⟨h.1, ih _ Q Q' E E' p _ h.2 g.2⟩
  | os q _ k ih => intro Q Q' E E' p s h g; exact ih _ Q Q' E E' p _ h g
  | call c hd _ _ k ih =>
    intro Q Q' E E' p s h g
    obtain ⟨r, s', hr, h⟩ := h
    obtain ⟨r', s2, gr, g⟩ := g
    obtain ⟨a, b⟩ := Runs.one hr gr
    cases a
    subst b
    exact ⟨_, _, hr, ih _ Q Q' E E' p _ h g⟩
  | handled own k ih => intro Q Q' E E' p s h g; exact ih _ Q Q' E E' p s h g
  | genState g' k ih =>
    intro Q Q' E E' p s h g
    obtain ⟨st, hs, h⟩ := h
    obtain ⟨st', hs', g⟩ := g
    have e : st' = st := Option.some.inj (hs'.symm.trans hs)
    subst e
    exact ⟨st', hs, ih _ Q Q' E E' p s h g⟩
  | newGen c k ih => intro Q Q' E E' p s h g; exact ih _ Q Q' E E' p _ h g
  | resume g' r _ k ih =>
    intro Q Q' E E' p s h g
    obtain ⟨res, s', hw, h⟩ := h
    obtain ⟨res', s2, gw, g⟩ := g
    obtain ⟨a, b⟩ := Wakes.one hw gw
    subst a b
    exact ⟨_, _, hw, ih _ Q Q' E E' p _ h g⟩
  | yield _ _ _ _ => intro Q Q' E E' p s h g; exact h
  | stack k ih => intro Q Q' E E' p s h g; exact ih _ Q Q' E E' p s h g
  | fork _ _ => intro Q Q' E E' p s h g; exact h
  | thread k ih => intro Q Q' E E' p s h g; exact ih _ Q Q' E E' p s h g
  | await _ _ _ _ _ => intro Q Q' E E' p s h g; exact h
/-- both posts of one run -/
theorem wpAny_and {α : Type} {M : Model} {A : Around} {s : Shared} {t : Sem α} {Q Q' : α → Shared → Prop} {E E' : Value → Shared → Prop} (h : wpAny M A t Q E s) (g : wpAny M A t Q' E' s) :
    wpAny M A t (fun a s' => Q a s' ∧ Q' a s') (fun e s' => E e s' ∧ E' e s') s := fun Γ p hΓ => wp_and M Γ t _ _ _ _ p s (h Γ p hΓ) (g Γ p hΓ)
end Bf

set_option linter.all false
/-! Own rules: [text.replace(new, new.replace(' ', '')) for new in [c, d] if new in text], the tokens carried. -/
namespace Bf
open PySem PySem.Spec PyProof.Rows L2
/-- replace that finds something makes a new text -/
theorem repl_new {prog : Program} {w : World} {A : Around} {E : Value → Shared → Prop} {s : Shared} {x y z : Str} {t u v : Tok} {Q : Value → Shared → Prop} (hu : u ≠ 0) (hv : v ≠ 0) (huv : u ≠ v) (hyz : (y == z) = false)
    (hb : x.length + (x.length + 1) * z.length ≤ 16777216) (hc : ((Builtin.Str.occurrences x y 0 x.length (x.length + 1)).isEmpty || (y.length == 0 && z.length == 0)) = false)
    (hq : Q (.str (Txt.replace x y z) s.toks) { s with toks := s.toks + 1 }) : wpAny (model prog w) A (call (.builtin "str.replace") [.str x t, .str y u, .str z v]) Q E s := by
  have room : Builtin.Str.tooLong (x.length + (Builtin.Str.occurrences x y 0 x.length (x.length + 1)).length * z.length) = false := by
    have n1 := StrLaws.occ_length_le x y 0 x.length (x.length + 1)
    have n2 := Nat.mul_le_mul_right z.length n1
    have n3 : (2 : Nat) ^ 24 = 16777216 := by decide
    unfold Builtin.Str.tooLong sizeLine
    exact decide_eq_false (by omega)
  refine call_gives F.slot_str_replace (typeIs_str _ _ _) F.entry_str_replace (F.args_str_replace_3 _ _ _) (gives_str_replace x y z t u v fun _ => ⟨by simp [hu, hv], by simp [huv], hyz, room⟩) ?_
  rw [hc]
  have e : Txt.replace x y z = Builtin.Str.glued z (Builtin.Str.partsBetween x (Builtin.Str.occurrences x y 0 x.length (x.length + 1)) y.length) := by
    unfold Txt.replace
    rw [hc]
    rfl
  rw [e] at hq
  exact ⟨PySem.fits_replaced y hb, hq⟩
/-- a text with a blank to close up -/
structure Gap (y : Str) : Prop where
  occ : ((Builtin.Str.occurrences y " " 0 y.length (y.length + 1)).isEmpty || ((" " : Str).length == 0 && ("" : Str).length == 0)) = false
  ne : (y == Txt.replace y " " "") = false
  sz : y.length ≤ 8
  sz2 : (Txt.replace y " " "").length ≤ 8
def occursIn (x y : Str) : Bool := !(Builtin.Str.occurrences x y 0 x.length 1).isEmpty
section
variable {X : Cx} {pins : List (Addr × Obj)} {σ : L2.St} {H : Hp} {s : Shared} {n t y : Str} {iT : Nat} {x : Str} {u : Tok} {m : Str → Option Value}
theorem raw_loc {pos : Pos} {Q : Value → Shared → Prop} {E : Value → Shared → Prop} {v : Value} (I : Inv X pins σ H s) (ln : X.env.scope.names.lookup n = some .local) (hn : s.heap.Ns X.env.locals m) (hm : m n = some v) (hd : (n == ("__debug__" : Str)) = false) (q : Q v s) :
    wpAny (model X.prog X.w) X.A (eval (.Name n pos) X.env) Q E s := wpAny_Name (wpAny_loadName_local I.ok.kind ln hn hm q) hd
theorem raw_test {p6 p7 p8 : Pos} (I : Inv X pins σ H s) (ln : X.env.scope.names.lookup n = some .local) (vt : Vis X.env.scope t) (hT : X.N[iT]? = some t) (hσ : σ[iT]? = some (some (.str x))) (hn : s.heap.Ns X.env.locals m) (hm : m n = some (.str y u))
    (dn : (n == ("__debug__" : Str)) = false) (dt : (t == ("__debug__" : Str)) = false) (ct : (t == ("__classdict__" : Str)) = false) {E : Value → Shared → Prop} :
    wpAny (model X.prog X.w) X.A (isTrue (.Compare (.Name n p6) [.In] [.Name t p7] p8) X.env (eval (.Compare (.Name n p6) [.In] [.Name t p7] p8) X.env)) (fun b s' => b = occursIn x y ∧ s' = s) E s := by
  refine wpAny_isTrue_Compare1 (raw_loc I ln hn hm dn ?_) (by with_unfolding_all rfl)
  refine raw_name hT vt I hσ (fun v r => ?_) dt ct
  obtain ⟨tx, rfl⟩ := r
  exact in_str (wpAny_truthy_bool ⟨rfl, rfl⟩)
theorem raw_elt {p1 p2 p3 apos apos2 pos2 pos3 c0 c1 : Pos} {j0 j1 : Nat} {E : Value → Shared → Prop} (I : Inv X pins σ H s) (ln : X.env.scope.names.lookup n = some .local) (vt : Vis X.env.scope t) (hT : X.N[iT]? = some t) (hσ : σ[iT]? = some (some (.str x)))
    (hn : s.heap.Ns X.env.locals m) (hm : m n = some (.str y u)) (u0 : u ≠ 0) (u1 : u < s.toks) (g : Gap y) (hx : x.length ≤ 100000) (hoc : occursIn x y = true)
    (dn : (n == ("__debug__" : Str)) = false) (dt : (t == ("__debug__" : Str)) = false) (ct : (t == ("__classdict__" : Str)) = false) (l1 : (apos.endLine == pos3.line) = true) (l2 : (apos2.endLine == pos2.line) = true) :
    wpAny (model X.prog X.w) X.A (eval (.Call (.Attribute (.Name t p1) "replace" apos) [.Name n p2, .Call (.Attribute (.Name n p3) "replace" apos2) [.Constant (.str " ") j0 c0, .Constant (.str "") j1 c1] [] pos2] [] pos3) X.env)
      (fun v s' => (∃ t', v = .str (Txt.replace x y (Txt.replace y " " "")) t') ∧ ∃ k, s' = { s with toks := k }) E s := by
  refine PySem.Call_method2 rfl rfl l1 (raw_name hT vt I hσ (fun v r => ?_) dt ct)
  obtain ⟨tx, rfl⟩ := r
  refine ⟨"str", _, F.plainAttrs_str, F.slot_str_replace, F.type_str_replace, typeIs_str _ _ _, (fun _ e => nomatch e), Calls.callWith_builtin rfl (Calls.evalArgs_plain (Calls.spliced_cons ?_))⟩
  refine raw_loc I ln hn hm dn (Calls.spliced_cons ?_)
  refine PySem.Call_method2 rfl rfl l2 (raw_loc I ln hn hm dn ?_)
  refine ⟨"str", _, F.plainAttrs_str, F.slot_str_replace, F.type_str_replace, typeIs_str _ _ _, (fun _ e => nomatch e), Calls.callWith_builtin rfl (Calls.evalArgs_plain (Calls.spliced_cons ?_))⟩
  refine Calls.Constant_str (Calls.spliced_cons (Calls.Constant_str (Calls.spliced_nil ?_)))
  have s0 := g.sz
  have k0 : @Ne Nat u 0 := u0
  have k1 : @LT.lt Nat _ u s.toks := u1
  have z0 : ("" : Str).length = 0 := rfl
  refine repl_new (by show @Ne Nat s.toks 0; omega) (by show @Ne Nat (s.toks + 1) 0; omega) (by show @Ne Nat s.toks (s.toks + 1); omega) (by decide) (by show y.length + (y.length + 1) * 0 ≤ 16777216; omega) g.occ ?_
  refine Calls.spliced_nil ?_
  have s2 := g.sz2
  have n1 : x.length + (x.length + 1) * (Txt.replace y " " "").length ≤ 16777216 := by
    have := Nat.mul_le_mul_left (x.length + 1) s2
    omega
  exact PySem.SC.replace u0 (by show @Ne Nat (s.toks + 1 + 1) 0; omega) (by show @Ne Nat u (s.toks + 1 + 1); omega) g.ne n1 fun t' k => ⟨⟨t', rfl⟩, k, rfl⟩
/-- a local is stored: the very value lies there -/
theorem raw_store {M : Model} {A : Around} {E : Value → Shared → Prop} {i : Nat} {v : V} {b : Value} (I : Inv X pins σ H s) (hN : X.N.Nodup) (hi : X.N[i]? = some n) (ln : X.env.scope.names.lookup n = some .local) (r : RelV v b) :
    wpAny M A (storeName X.env n b) (fun _ s' => L2.Inv X pins (σ.set i (some v)) H s' ∧ s.toks ≤ s'.toks ∧ ∃ m', s'.heap.Ns X.env.locals m' ∧ m' n = some b) E s := by
  obtain ⟨m, hn, _⟩ := id I.loc
  refine wpAny_mono (wpAny_and (E' := E) (store_ok (Q := fun _ s' => L2.Inv X pins (σ.set i (some v)) H s') I hN hi (.inl ln) r (fun _ J => J) (.inr ln))
    (wpAny_storeName_local (Q := fun _ s' => s.toks ≤ s'.toks ∧ ∃ m', s'.heap.Ns X.env.locals m' ∧ m' n = some b) ln hn (fun h' q _ => ⟨Nat.le_succ _, _, q, by simp⟩) (by rw [I.ok.kind]; rfl))) (fun _ _ q => ⟨q.1, q.2⟩) fun _ _ q => q.1
end
/-- what one of the new texts gives -/
def pk (x y : Str) : List V := if occursIn x y = true then [.str (Txt.replace x y (Txt.replace y " " ""))] else []
/-- .. of both -/
def tGaps (iT : Nat) (y0 y1 : Str) : TE := fun σ H Q => ∃ x, σ[iT]? = some (some (.str x)) ∧ x.length ≤ 100000 ∧ ∀ D, H D = none → Q (.ref D) (upd H D (.lst (pk x y0 ++ pk x y1)))
theorem pk_len (x y : Str) : (pk x y).length ≤ 1 := by
  unfold pk
  split
  · exact Nat.le_refl _
  · exact Nat.zero_le _
def pks (x : Str) (ys : List Str) : List V := ys.flatMap (pk x)
theorem pks_len (x : Str) : ∀ ys : List Str, (pks x ys).length ≤ ys.length
  | [] => Nat.le_refl _
  | y :: r => by
    unfold pks
    rw [List.flatMap_cons, List.length_append, List.length_cons]
    have := pk_len x y
    have := pks_len x r
    unfold pks at this
    omega
theorem pks_take {x y : Str} {ys : List Str} {i : Nat} (h : ys[i]? = some y) : pks x (ys.take (i + 1)) = pks x (ys.take i) ++ pk x y := by
  unfold pks
  rw [List.take_add_one, h, Option.toList_some, List.flatMap_append, List.flatMap_cons, List.flatMap_nil, List.append_nil]
theorem two_at {y0 y1 : Str} {ta : Nat} (g0 : Gap y0) (g1 : Gap y1) : ∀ i, i < 2 → ∃ y, [y0, y1][i]? = some y ∧ Gap y ∧ (#[Value.str y0 ta, .str y1 (ta + 1)] : Array Value)[i]? = some (.str y (ta + i))
  | 0, _ => ⟨y0, rfl, g0, rfl⟩
  | 1, _ => ⟨y1, rfl, g1, rfl⟩
  | k + 2, h => absurd h (by omega)
section
variable {X : Cx} {n t y0 y1 : Str} {iN iT : Nat} {scope : Scope} {p1 p2 p3 p4 p5 p6 p7 p8 apos apos2 pos2 pos3 c0 c1 c2 c3 pos : Pos} {j0 j1 j2 j3 : Nat}
theorem pet_gaps (hc : X.calm = true) (hN : X.N.Nodup) (ok : BlkOk X.N X.env.scope scope [(n, iN)]) (hi : X.N[iN]? = some n) (ht : X.N[iT]? = some t) (ln : (relS scope X.env.scope).names.lookup n = some .local) (vt : Vis (relS scope X.env.scope) t) (hne : iN ≠ iT)
    (g0 : Gap y0) (g1 : Gap y1) (dn : (n == ("__debug__" : Str)) = false := by decide) (dt : (t == ("__debug__" : Str)) = false := by decide) (ct : (t == ("__classdict__" : Str)) = false := by decide)
    (l1 : (apos.endLine == pos3.line) = true := by rfl) (l2 : (apos2.endLine == pos2.line) = true := by rfl) :
    PET X (.ListComp (.Call (.Attribute (.Name t p1) "replace" apos) [.Name n p2, .Call (.Attribute (.Name n p3) "replace" apos2) [.Constant (.str " ") j0 c0, .Constant (.str "") j1 c1] [] pos2] [] pos3)
      [⟨.Name n p4, .List [.Constant (.str y0) j2 c2, .Constant (.str y1) j3 c3] p5, [.Compare (.Name n p6) [.In] [.Name t p7] p8], 0⟩] scope pos) (tGaps iT y0 y1) := by
  intro pins s σ H Q h0 I hq
  obtain ⟨x, hx, lx, q⟩ := hq
  rw [eval_ListComp]
  have hfree : ∀ y ∈ scope.names, y.2 = .free → ∃ c, X.env.cells.lookup y.1 = some c := fun y hy e => (ok.free y hy e).elim (fun k => I.ok.has _ (.inl k)) fun k => I.ok.has _ (.inr k)
  refine wpAny_comprehension_free (use := none) rfl (fun _ => rfl) (closure_ok hfree) ok.kind (fun y hy e => by rw [ok.uniq y hy, e]) ?_
  -- the list of the two
  refine wpAny_List_spliced ?_
  show wpAny _ _ (spliced ((false, eval (.Constant (.str y0) j2 c2) X.env) :: backTo p5 (starEach [.Constant (.str y1) j3 c3] X.env))) _ _ s
  refine Calls.spliced_cons (Calls.Constant_str ?_)
  show wpAny _ _ (spliced ((false, eval (.Constant (.str y1) j3 c3) X.env) :: backTo p5 (starEach [] X.env))) _ _ _
  refine Calls.spliced_cons (Calls.Constant_str (Calls.spliced_nil ⟨(by decide : (2 : Nat) ≤ sizeLine), ?_⟩))
  show wpAny _ _ (pyIter (.ref s.heap.objs.size)) _ _ { s with toks := s.toks + 1 + 1, heap := s.heap.push { cls := .type "list", data := .seq #[.str y0 s.toks, .str y1 (s.toks + 1)] } }
  have hLn : H s.heap.objs.size = none := I.hok.fresh (Nat.le_refl _)
  have fL : FpOk X pins H s.heap.objs.size := I.fpOk (Nat.le_refl _) hLn
  have I1 : L2.Inv X pins σ H { s with toks := s.toks + 1 + 1, heap := s.heap.push { cls := .type "list", data := .seq #[.str y0 s.toks, .str y1 (s.toks + 1)] } } := I.kept (t' := s.toks + 1 + 1) fun b o e => Heap.get?_push_of_some _ e
  have eL : (s.heap.push { cls := .type "list", data := .seq #[.str y0 s.toks, .str y1 (s.toks + 1)] }).get? s.heap.objs.size = some { cls := .type "list", data := .seq #[.str y0 s.toks, .str y1 (s.toks + 1)] } := Heap.get?_push_size _ rfl
  generalize hL : s.heap.objs.size = L at *
  generalize hs1 : ({ s with toks := s.toks + 1 + 1, heap := s.heap.push { cls := .type "list", data := .seq #[.str y0 s.toks, .str y1 (s.toks + 1)] } } : Shared) = s1 at I1 ⊢
  have k1 : s1.toks = s.toks + 2 := by rw [← hs1]
  have eL : s1.heap.get? L = some { cls := .type "list", data := .seq #[.str y0 s.toks, .str y1 (s.toks + 1)] } := by rw [← hs1]; exact eL
  generalize hta : s.toks = ta at *
  have iL : s1.heap.IsList L #[.str y0 ta, .str y1 (ta + 1)] := ⟨_, eL, rfl, _, rfl⟩
  refine wpAny_pyIter_list iL ?_
  have hIn : H s1.heap.objs.size = none := I1.hok.fresh (Nat.le_refl _)
  have fI : FpOk X pins H s1.heap.objs.size := I1.fpOk (Nat.le_refl _) hIn
  have LI : L ≠ s1.heap.objs.size := Nat.ne_of_lt (Heap.lt_size eL)
  have I2 : L2.Inv X pins σ H { s1 with heap := s1.heap.push { cls := .type "list_iterator", data := .fields #[.ref L, .int 0 0] } } := I1.kept (t' := s1.toks) fun b o e => Heap.get?_push_of_some _ e
  have st2 : (s1.heap.push { cls := .type "list_iterator", data := .fields #[.ref L, .int 0 0] }).IsListIter s1.heap.objs.size L 0 := ⟨_, Heap.get?_push_size _ rfl, rfl, rfl⟩
  generalize hit : s1.heap.objs.size = it at *
  generalize hlo : ({ cls := .type "list", data := .seq #[.str y0 ta, .str y1 (ta + 1)] } : Obj) = lo at *
  have lod : lo.data = .seq #[.str y0 ta, .str y1 (ta + 1)] := by rw [← hlo]
  generalize hs2 : ({ s1 with heap := s1.heap.push { cls := .type "list_iterator", data := .fields #[.ref L, .int 0 0] } } : Shared) = s2 at I2 ⊢
  have h2 : s2.heap = s1.heap.push { cls := .type "list_iterator", data := .fields #[.ref L, .int 0 0] } := by rw [← hs2]
  have k2 : ta + 2 ≤ s2.toks := by rw [← hs2]; exact Nat.le_of_eq k1.symm
  rw [← h2] at st2
  have eL2 : s2.heap.get? L = some lo := by rw [h2]; exact Heap.get?_push_of_some _ eL
  refine wpAny_newObj_type (newEnv_comp ?_) (by show 0 ≤ sizeLine; decide)
  generalize hD : s2.heap.objs.size = D
  have dn0 : H D = none := I2.hok.fresh (Nat.le_of_eq hD)
  have q := q D dn0
  have DL : L ≠ D := by rw [← hD]; exact Nat.ne_of_lt (Heap.lt_size eL2)
  have DI : it ≠ D := by
    obtain ⟨o, e, _⟩ := id st2
    rw [← hD]; exact Nat.ne_of_lt (Heap.lt_size e)
  generalize hs3 : ({ s2 with heap := s2.heap.push { cls := .type "list", data := .seq ([] : List Value).toArray } } : Shared) = s3
  have h3 : s3.heap = s2.heap.push { cls := .type "list", data := .seq ([] : List Value).toArray } := by rw [← hs3]
  have k3 : ta + 2 ≤ s3.toks := by rw [← hs3]; exact k2
  have I3 : L2.Inv X pins σ (upd H D (.lst [])) s3 := by
    rw [← hs3]
    refine I2.laid (t' := s2.toks) (fun b o e => Heap.get?_push_of_some _ e) (Nat.le_of_eq hD) ⟨Nat.zero_le _, [], 0, .nil, ?_⟩
    rw [← hD]
    exact Heap.get?_push_size _ rfl
  have f3 : ∀ b ∈ [it, L], FpOk X pins (upd H D (.lst [])) b ∧ b < s3.heap.objs.size := fun b hb => by
    have hlt : b ≠ D ∧ b < s3.heap.objs.size ∧ FpOk X pins H b := by
      rcases List.mem_cons.mp hb with rfl | hb
      · obtain ⟨o, e, _⟩ := id st2
        exact ⟨DI, by rw [h3, Heap.size_push]; exact Nat.lt_succ_of_lt (Heap.lt_size e), fI⟩
      · have e : b = L := by simpa using hb
        subst e
        exact ⟨DL, by rw [h3, Heap.size_push]; exact Nat.lt_succ_of_lt (Heap.lt_size eL2), fL⟩
    refine ⟨⟨?_, hlt.2.2.2⟩, hlt.2.1⟩
    rw [upd_ne hlt.1]
    exact hlt.2.2.1
  have st3 : s3.heap.IsListIter it L 0 := st2.at fun o e => by rw [h3]; exact Heap.get?_push_of_some _ e
  have eL3 : s3.heap.get? L = some lo := by rw [h3]; exact Heap.get?_push_of_some _ eL2
  have I4 := block_start I3 ok hN f3
  show codeAny _ _ (.compStart _ 0 (.ref it) (.ref D) (compEnvC scope (cellsFrom (s3.heap.objs.size + 1) scope.names (cloFrom X.env.cells scope.names [])) s3.heap.objs.size X.env)) (compPost (model X.prog X.w) X.A X.xe none (EP X pins σ Q) (.ref D) s3.heap.objs.size) { s3 with heap := pushCells (s3.heap.push { cls := .type "dict", data := .dict #[] }) scope.names }
  generalize hce : compEnvC scope (cellsFrom (s3.heap.objs.size + 1) scope.names (cloFrom X.env.cells scope.names [])) s3.heap.objs.size X.env = ce at I4 ⊢
  have cL : ce.locals = s3.heap.objs.size := by subst hce; rfl
  have cS : ce.scope = relS scope X.env.scope := by subst hce; rfl
  rw [← cS] at ln vt
  generalize hs4 : ({ s3 with heap := pushCells (s3.heap.push { cls := .type "dict", data := .dict #[] }) scope.names } : Shared) = s4 at I4 ⊢
  have k4 : ta + 2 ≤ s4.toks := by rw [← hs4]; exact k3
  have kp4 : ∀ b o, s3.heap.get? b = some o → s4.heap.get? b = some o := fun b o e => by rw [← hs4]; exact pushCells_keeps _ _ _ _ (Heap.get?_push_of_some _ e)
  have st4 : s4.heap.IsListIter it L 0 := st3.at fun o e => kp4 _ _ e
  have eL4 : s4.heap.get? L = some lo := kp4 _ _ eL3
  have nI : ∀ xs, (upd H D (.lst xs)) it = none := fun xs => by rw [upd_ne DI]; exact hIn
  have nL : ∀ xs, (upd H D (.lst xs)) L = none := fun xs => by rw [upd_ne DL]; exact hLn
  have stat : ∀ {σ' : L2.St} {H' : Hp} {s' : Shared}, L2.Inv (X.blk s3 (upd H D (.lst [])) scope ce [it, L]) [] σ' H' s' → H' it = none → H' L = none → ∀ b ∈ [it, L], FpOk (X.blk s3 (upd H D (.lst [])) scope ce [it, L]) [] H' b := fun {σ' H' s'} J z1 z2 b hb =>
    ⟨by rcases List.mem_cons.mp hb with rfl | hb
        · exact z1
        · have e : b = L := by simpa using hb
          subst e
          exact z2, (J.ok.exf b hb).1, J.ok.exfs b hb, .inl hb, fun y c e => (J.ok.exf b hb).2 y c e, fun p hp => absurd (show p ∈ ([] : List (Addr × Obj)) ++ [] from hp) (by simp)⟩
  have list5 : ∀ {s' : Shared}, s'.heap.get? L = some lo → s'.heap.IsList L #[.str y0 ta, .str y1 (ta + 1)] := fun e => ⟨_, e, by rw [← hlo], _, lod⟩
  have loop : codeAny (model X.prog X.w) X.A (.compLoop (.ListComp (.Call (.Attribute (.Name t p1) "replace" apos) [.Name n p2, .Call (.Attribute (.Name n p3) "replace" apos2) [.Constant (.str " ") j0 c0, .Constant (.str "") j1 c1] [] pos2] [] pos3)
      [⟨.Name n p4, .List [.Constant (.str y0) j2 c2, .Constant (.str y1) j3 c3] p5, [.Compare (.Name n p6) [.In] [.Name t p7] p8], 0⟩] scope pos) 0 (.ref it) (.ref D) ce) (compPost (model X.prog X.w) X.A X.xe none (EP X pins σ Q) (.ref D) s3.heap.objs.size) s4 := by
    refine compLoop_any (fun c s' => ∃ i, i ≤ 2 ∧ c = 2 - i ∧ L2.Inv (X.blk s3 (upd H D (.lst [])) scope ce [it, L]) [] (wipe σ [iN]) (upd H D (.lst (pks x ([y0, y1].take i)))) s' ∧ s'.heap.IsListIter it L i ∧ s'.heap.get? L = some lo ∧ ta + 2 ≤ s'.toks)
      ?_ 2 ⟨0, by omega, by omega, I4, st4, eL4, k4⟩
    rintro c s5 ⟨i, i2, rfl, I5, st5, e5, k5⟩
    have sta := stat I5 (nI _) (nL _)
    by_cases hi2 : i = 2
    · subst hi2
      obtain ⟨f0, f1, f2, f3', f4, f5⟩ := sta it (by simp)
      refine wpAny_pyNext_list_end (I5.ok.hd hc) st5 (list5 e5) rfl fun h' eb => ?_
      have I6 : L2.Inv (X.blk s3 (upd H D (.lst [])) scope ce [it, L]) [] (wipe σ [iN]) (upd H D (.lst (pks x ([y0, y1].take 2)))) { s5 with heap := h' } := I5.turned (t' := s5.toks) (fun b o hb e => eb b o hb e) f0 f1 f3' f4 f5
      have I7 : L2.Inv X pins σ (upd H D (.lst (pks x ([y0, y1].take 2)))) { s5 with heap := h' } :=
        I3.call' (ch := [it, L]) I6.os I6.base I6.hok I6.bare fun b hb => ⟨(f3 b hb).1.2.2.2.1, (f3 b hb).1.2.1, (f3 b hb).1.2.2.2.2.1, (f3 b hb).1.2.2.2.2.2⟩
      have nC : (upd H D (.lst (pks x ([y0, y1].take 2)))) s3.heap.objs.size = none := by
        have z : (upd H D (.lst (pks x ([y0, y1].take 2)))) ce.locals = none := I6.free
        rw [cL] at z
        exact z
      obtain ⟨m, hm, _⟩ := I6.loc
      have hm : h'.Ns ce.locals m := hm
      rw [cL] at hm
      obtain ⟨a0, a1, a2, a3, a4, a5⟩ := I3.fpOk (Nat.le_refl s3.heap.objs.size) nC
      have eq : pks x ([y0, y1].take 2) = pk x y0 ++ pk x y1 := by
        show pks x [y0, y1] = _
        unfold pks
        simp
      refine ⟨m, hm, fun h2 sb => ⟨.ref D, _, I7.turned (t' := s5.toks) (fun b o hb e => (sb.2 b hb).trans e) a0 a1 a3 a4 a5, rfl, ?_⟩⟩
      rw [eq]
      exact q
    · have lt : i < 2 := by omega
      obtain ⟨y, hy, gy, hu⟩ := two_at (ta := ta) g0 g1 i lt
      obtain ⟨f0, f1, f2, f3', f4, f5⟩ := sta it (by simp)
      refine wpAny_pyNext_list_item st5 (list5 e5) hu fun h' st' sb => ?_
      have e6 : h'.get? L = some lo := (sb.2 L LI).trans e5
      have I6 : L2.Inv (X.blk s3 (upd H D (.lst [])) scope ce [it, L]) [] (wipe σ [iN]) (upd H D (.lst (pks x ([y0, y1].take i)))) { s5 with heap := h' } := I5.turned (t' := s5.toks) (fun b o hb e => (sb.2 b hb).trans e) f0 f1 f3' f4 f5
      obtain ⟨oi, ei, ci, di⟩ := id st'
      have I6 := I6.pinned (stat I6 (nI _) (nL _)) fun b hb => by
        rcases List.mem_cons.mp hb with rfl | hb
        · exact ⟨oi, ei, fun v z => by rw [di] at z; cases z⟩
        · have e : b = L := by simpa using hb
          subst e
          exact ⟨lo, e6, fun v z => by rw [lod] at z; cases z⟩
      refine go_of (s := { s5 with heap := h' }) ei ci di (by decide) ?_
      refine wpAny_assign_Name (wpAny_mono (raw_store (i := iN) (v := .str y) I6 hN hi ln ⟨_, rfl⟩) (fun _ s7 r7 => ?_) fun _ _ z => z)
      obtain ⟨I7, k7, m7, n7, v7⟩ := r7
      have k7 : ta + 2 ≤ s7.toks := Nat.le_trans k5 k7
      have hxB : ((wipe σ [iN]).set iN (some (.str y)))[iT]? = some (some (.str x)) := by
        rw [List.getElem?_set_ne hne]
        unfold wipe wipe
        rw [List.getElem?_set_ne hne]
        exact hx
      have fin : ∀ {s' : Shared} {xs : List V}, L2.Inv (X.blk s3 (upd H D (.lst [])) scope ce [it, L]) ([] ++ pinsAt [it, L] h') ((wipe σ [iN]).set iN (some (.str y))) (upd H D (.lst xs)) s' → ta + 2 ≤ s'.toks → xs = pks x ([y0, y1].take (i + 1)) →
          ∃ mm, mm < 2 - i ∧ ∃ i, i ≤ 2 ∧ mm = 2 - i ∧ L2.Inv (X.blk s3 (upd H D (.lst [])) scope ce [it, L]) [] (wipe σ [iN]) (upd H D (.lst (pks x ([y0, y1].take i)))) s' ∧ s'.heap.IsListIter it L i ∧ s'.heap.get? L = some lo ∧ ta + 2 ≤ s'.toks := fun {s' xs} J kk ex => by
        subst ex
        have pin : ∀ b ∈ [it, L], ∀ o, h'.get? b = some o → s'.heap.get? b = some o := fun b hb o e => (J.pin (b, o) (List.mem_append_right _ (List.mem_append_right _ (mem_pinsAt hb e)))).1
        refine ⟨2 - (i + 1), by omega, i + 1, by omega, rfl, (J.unpinned (pins := [])).weak (by rw [List.length_set]) (fun j v e => ?_), st'.at fun o e => pin it (by simp) o e, pin L (by simp) lo e6, kk⟩
        obtain ⟨_, z⟩ := wipe_some e
        have : iN ≠ j := fun z' => z (by simp [z'])
        rw [List.getElem?_set_ne this]
        exact e
      refine wpAny_tests_one (wpAny_mono (raw_test I7 ln vt ht hxB n7 v7 dn dt ct) (fun b s8 r8 => ?_) fun _ _ z => z)
      obtain ⟨eb, es⟩ := r8
      subst es
      cases hb : occursIn x y with
      | false =>
        rw [hb] at eb
        subst eb
        simp only [Bool.false_eq_true, if_false]
        refine fin I7 k7 ?_
        rw [pks_take hy]
        unfold pk
        rw [hb]
        simp
      | true =>
        rw [hb] at eb
        subst eb
        simp only [if_true]
        refine wpAny_mono (PySem.wpAny_toks (raw_elt I7 ln vt ht hxB n7 v7 ?_ ?_ gy lx hb dn dt ct l1 l2)) (fun v s9 r9 => ?_) fun _ _ z => z.2
        · show @Ne Nat (ta + i) 0
          omega
        · show @LT.lt Nat _ (ta + i) s8.toks
          omega
        · obtain ⟨k9, ⟨t', rfl⟩, k, rfl⟩ := r9
          refine wpAny_mono (PySem.wpAny_toks (app_ok (X := X.blk s3 (upd H D (.lst [])) scope ce [it, L]) (y := .str (Txt.replace x y (Txt.replace y " " ""))) (Q := fun _ s' => L2.Inv (X.blk s3 (upd H D (.lst [])) scope ce [it, L]) ([] ++ pinsAt [it, L] h') ((wipe σ [iN]).set iN (some (.str y))) (upd H D (.lst (pks x ([y0, y1].take i) ++ [.str (Txt.replace x y (Txt.replace y " " ""))]))) s') (I7.tok k) upd_same ?_ ⟨t', rfl⟩ fun s' J => ?_)) (fun _ s' r => fin r.2 (Nat.le_trans (Nat.le_trans k7 k9) r.1) ?_) fun _ _ z => z.2
          · have a := pks_len x ([y0, y1].take i)
            have b : ([y0, y1].take i).length ≤ 2 := by rw [List.length_take]; exact Nat.min_le_right _ _
            exact Nat.lt_of_le_of_lt (Nat.le_trans a b) (by decide)
          · rw [upd_upd] at J
            exact J
          · rw [pks_take hy]
            unfold pk
            rw [hb]
            rfl
  exact codeAny_compStart_list loop (wpAny_pyIter_listiter st4 loop)
end
end Bf

set_option linter.all false
/-! Own rules: behind a written text a token is out. -/
namespace Bf
open PySem PySem.Spec PyProof.Rows L2 CwR
def PE1 (X : Cx) (e : Expr) (t : TE) : Prop := ∀ (pins : List (Addr × Obj)) (s : Shared) (σ : L2.St) (H : Hp) (Q : VK), Inv X pins σ H s → t σ H Q → wpAny (model X.prog X.w) X.A (eval e X.env) (fun v s' => 1 ≤ s'.toks ∧ EP X pins σ Q v s') X.xe s
def PA1 (X : Cx) (es : List Expr) (t : TA) : Prop := ∀ (pos : Pos) (pins : List (Addr × Obj)) (s : Shared) (σ : L2.St) (H : Hp) (Q : List V → Hp → Prop), Inv X pins σ H s → t σ H Q → wpAny (model X.prog X.w) X.A (spliced (backTo pos (starEach es X.env))) (fun us s' => 1 ≤ s'.toks ∧ AP X pins σ Q us s') X.xe s
def PS1 (X : Cx) (st : Stmt) (t : TS) : Prop := ∀ (pins : List (Addr × Obj)) (s : Shared) (σ : L2.St) (H : Hp) (D : Ends), Inv X pins σ H s → t D σ H → wpAny (model X.prog X.w) X.A (exec st X.env) (fun f s' => 1 ≤ s'.toks ∧ SP X pins D f s') X.xe s
section
variable {X : Cx} {e f : Expr} {te tf : TE} {es : List Expr} {ta : TA} {pos : Pos}
theorem pe1_str {c : Str} {j : Nat} : PE1 X (.Constant (.str c) j pos) (tC (.str c)) := fun pins s σ H Q I h => Calls.Constant_str ⟨Nat.le_add_left 1 s.toks, .str c, H, I.tok _, ⟨_, rfl⟩, h⟩
theorem pe1_op {op : Operator} {r : R2} (ho : OpR X (binaryOp op) r) (ha : PE X e te) (hb : PE1 X f tf) : PE1 X (.BinOp e op f pos) (tOp r te tf) := by
  intro pins s σ H Q I h
  refine wpAny_BinOp (thn (ha.run pins s σ H _ I h) fun v s1 ⟨x, H1, I1, r1, q1⟩ => thn (hb pins s1 σ H1 _ I1 q1) fun u s2 ⟨k2, y, H2, I2, r2, q2⟩ => ?_)
  exact wpAny_mono (PySem.wpAny_toks (ho pins s2 σ H2 x y v u Q I2 r1 r2 q2)) (fun _ s3 z => ⟨Nat.le_trans k2 z.1, z.2⟩) fun _ _ z => z.2
theorem pe1_opL {op : Operator} {r : R2} (ho : OpR X (binaryOp op) r) (ha : PE1 X e te) (hb : PE X f tf) : PE1 X (.BinOp e op f pos) (tOp r te tf) := by
  intro pins s σ H Q I h
  refine wpAny_BinOp (thn (ha pins s σ H _ I h) fun v s1 ⟨k1, x, H1, I1, r1, q1⟩ => wpAny_mono (PySem.wpAny_toks (hb.run pins s1 σ H1 _ I1 q1)) (fun u s2 z => ?_) fun _ _ z => z.2)
  obtain ⟨k2, y, H2, I2, r2, q2⟩ := z
  exact wpAny_mono (PySem.wpAny_toks (ho pins s2 σ H2 x y v u Q I2 r1 r2 q2)) (fun _ s3 z => ⟨Nat.le_trans (Nat.le_trans k1 k2) z.1, z.2⟩) fun _ _ z => z.2
theorem pa1_head (ha : PE1 X e te) (hr : PA X es ta) (hs : starEach (e :: es) X.env = (false, eval e X.env) :: starEach es X.env := by rfl) : PA1 X (e :: es) (tCons te ta) := by
  intro pos pins s σ H Q I h
  rw [hs]
  show wpAny _ _ (spliced ((false, eval e X.env) :: backTo pos (starEach es X.env))) _ _ s
  refine Calls.spliced_cons (thn (ha pins s σ H _ I h) fun v s1 ⟨k1, x, H1, I1, r1, q1⟩ => ?_)
  refine wpAny_mono (PySem.wpAny_toks (hr.run pos pins s1 σ H1 _ I1 q1)) (fun us s2 z => ?_) fun _ _ z => z.2
  obtain ⟨k2, xs, H2, I2, r2, q2⟩ := z
  exact ⟨Nat.le_trans k1 k2, x :: xs, H2, I2, .cons r1 r2, q2⟩
theorem pe1_lst (h : PA1 X es ta) : PE1 X (.List es pos) (tLst ta) := by
  intro pins s σ H Q I hq
  refine wpAny_List_spliced (thn (h pos pins s σ H _ I hq) fun us s1 ⟨k1, xs, H1, I1, r, z, q⟩ => ⟨by rw [← r.length]; exact z, k1, ?_⟩)
  have new : H1 s1.heap.objs.size = none := I1.hok.fresh (Nat.le_refl _)
  refine ⟨.ref s1.heap.objs.size, upd H1 s1.heap.objs.size (.lst xs), ?_, rfl, q _ new⟩
  exact I1.laid (t' := s1.toks) (fun b u e => Heap.get?_push_of_some _ e) (Nat.le_refl _) ⟨z, us, 0, r, Heap.get?_push_size _ rfl⟩
theorem ps1_set {i : Nat} {x : Str} {pos' : Pos} (hN : X.N.Nodup) (hi : X.N[i]? = some x) (hx : Loc X.env.scope x) (he : PE1 X e te) (hs : swapsWith e (some (.Name x pos')) pos.line X.env = pure false := by rfl)
    (hf : X.fn x = true ∨ X.env.scope.names.lookup x = some .local := by first | exact .inl rfl | exact .inr rfl | assumption) : PS1 X (.Assign [.Name x pos'] e pos) (tAsg te (gName i)) := by
  intro pins s σ H D I h
  refine wpAny_Assign_Name (thn (he pins s σ H _ I h) fun v s1 ⟨k1, y, H1, I1, r1, q1⟩ => ?_) hs
  refine wpAny_mono (PySem.wpAny_toks (store_ok (Q := fun _ s2 => Inv X pins (σ.set i (some y)) H1 s2) I1 hN hi hx r1 (fun _ I2 => I2) hf)) (fun _ s2 z => ?_) fun _ _ z => z.2
  exact ⟨Nat.le_trans k1 z.1, _, H1, z.2, q1⟩
theorem pst_set {i : Nat} {x : Str} {pos' : Pos} (hN : X.N.Nodup) (hi : X.N[i]? = some x) (hx : Loc X.env.scope x) (he : PET X e te) (hs : swapsWith e (some (.Name x pos')) pos.line X.env = pure false := by rfl)
    (hf : X.fn x = true ∨ X.env.scope.names.lookup x = some .local := by first | exact .inl rfl | exact .inr rfl | assumption) : PST X (.Assign [.Name x pos'] e pos) (tAsg te (gName i)) := by
  intro pins s σ H D h0 I h
  exact wpAny_Assign_Name (thn (he pins s σ H _ h0 I h) fun v s1 ⟨y, H1, I1, r1, q1⟩ => store_ok I1 hN hi hx r1 (fun s2 I2 => ⟨_, H1, I2, q1⟩) hf) hs
theorem pss1_cons {st : Stmt} {rest : List Stmt} {t u : TS} (h1 : PS1 X st t) (h2 : PSsT X rest u) : PSs X (st :: rest) (tSeq t u) := by
  refine ⟨fun pins s σ H D I h => ?_⟩
  refine wpAny_execs_cons (thn (h1 pins s σ H { D with nx := u D } I h) fun f s1 q => ?_)
  obtain ⟨k, q⟩ := q
  cases f with
  | next =>
    obtain ⟨σ', H', I', q⟩ := q
    exact h2 pins s1 σ' H' D k I' q
  | ret v => exact q
  | brk => exact q
  | cont => exact q
end
end Bf

set_option linter.all false
/-! Own rules: a comprehension over enumerate of a text. -/
namespace Bf
open PySem PySem.Spec PyProof.Rows L2
/-- enumerate(text): each place and its sign, in a new pair -/
def Ien (x : Str) : It where
  go := fun i _ => i < x.cps.size
  yld := fun i H v H' => ∃ T c, v = .ref T ∧ H T = none ∧ H' = upd H T (.tup [.int (i : Nat), .str ⟨#[c]⟩]) ∧ x.cps[i]? = some c
  stop := fun i _ => i = x.cps.size
def est (x : Str) (t : Tok) (e it : Addr) (i : Nat) (h : Heap) : Prop := (∃ old, IsEnum h e it ((i : Nat) : Int) old) ∧ h.IsStrIter it (strIterType x) x t i ∧ e ≠ it
theorem turnEn {P : Program} {w : World} {K : PySem.W.Frag} {elts : List Expr} {kk : Nat} {tpos : Pos} (x : Str) (t : Tok) (e it : Addr) : Turn P w K (.Tuple elts kk tpos) (Ien x) [e, it] e (est x t e it) where
  mem := by simp
  obj := fun i h st b hb => by
    obtain ⟨⟨old, he⟩, ⟨o, ho, hc, hd⟩, _⟩ := st
    rcases List.mem_cons.mp hb with z | z
    · rw [z]; exact ⟨_, he, fun v q => nomatch q⟩
    · rw [List.mem_singleton.mp z]; exact ⟨o, ho, fun v q => by rw [hd] at q; cases q⟩
  keep := fun i h h' st k => by
    obtain ⟨⟨old, he⟩, ⟨o, ho, r⟩, hne⟩ := st
    exact ⟨⟨old, k e (by simp) _ he⟩, ⟨o, k it (by simp) o ho, r⟩, hne⟩
  item := by
    intro X eP ew eK hc i pins s σ H E I hf st hg
    subst eP ew eK
    obtain ⟨⟨old, he⟩, hit, hne⟩ := st
    have D := Draws.text (prog := X.prog) (w := X.w) (A := X.A.in1) (I.ok.hd hc) it x t
    have le : e < s.heap.objs.size := Heap.lt_size he
    have li : it < s.heap.objs.size := by
      obtain ⟨_, q, _⟩ := hit
      exact Heap.lt_size q
    refine wpAny_pyNext_enum_itemC D he hit hg hne (by simpa using hne) fun u h' tk hu ho st' hT _ hk => ?_
    obtain ⟨c, v, hcx, rfl⟩ := hu
    refine ⟨_, rfl, wpAny_letOwnedTupleGo_enum (s := { s with heap := h', toks := tk + 1 }) ho fun h2 he2 sb => ?_⟩
    have pair : h2.get? s.heap.objs.size = some { cls := .type "tuple", data := .seq #[.int i tk, .str ⟨#[c]⟩ v] } := (sb.2 _ (Nat.ne_of_gt le)).trans hT
    have laid : ObjOk X.prog X.w (upd H s.heap.objs.size (.tup [.int (i : Nat), .str ⟨#[c]⟩])) h2 s.heap.objs.size (.tup [.int (i : Nat), .str ⟨#[c]⟩]) :=
      ⟨by show 2 ≤ sizeLine; decide, [.int i tk, .str ⟨#[c]⟩ v], .cons ⟨tk, rfl⟩ (.cons ⟨v, rfl⟩ .nil), ⟨_, pair, rfl, _, rfl⟩⟩
    have J : L2.Inv X pins σ (upd H s.heap.objs.size (.tup [.int (i : Nat), .str ⟨#[c]⟩])) { s with heap := h2, toks := tk + 1 } :=
      I.turnedNew (t' := tk + 1) (ch := [e, it]) (fun b ob hb q => (sb.2 b fun z => hb (by simp [z])).trans (hk b ob (fun z => hb (by simp [z])) (fun z => hb (by simp [z])) q)) hf (Nat.le_refl _) laid
    refine ⟨.ref s.heap.objs.size, _, J, rfl, ⟨_, c, rfl, I.hok.fresh (Nat.le_refl _), rfl, hcx⟩, ⟨⟨.str ⟨#[c]⟩ v, ?_⟩, ?_, hne⟩, fun b hb => ?_⟩
    · have e1 : ((i + 1 : Nat) : Int) = (i : Int) + 1 := by omega
      rw [e1]
      exact he2
    · obtain ⟨o, q, r⟩ := st'
      exact ⟨o, (sb.2 it (Ne.symm hne)).trans q, r⟩
    · have lb : b < s.heap.objs.size := by
        rcases List.mem_cons.mp hb with z | z
        · rw [z]; exact le
        · rw [List.mem_singleton.mp z]; exact li
      rw [upd_ne (Nat.ne_of_lt lb)]
      exact (hf b hb).1
  done := by
    intro X eP ew eK hc i pins s σ H E I hf st hg
    subst eP ew eK
    obtain ⟨⟨old, he⟩, hit, hne⟩ := st
    obtain ⟨f0, f1, f2, f3, f4, f5⟩ := hf it (by simp)
    have D := Draws.text (prog := X.prog) (w := X.w) (A := X.A.in1) (I.ok.hd hc) it x t
    have hg : i = x.cps.size := hg
    rw [hg] at he hit
    exact wpAny_pyNext_enum_endD D he hit fun h' eb => ⟨rfl, I.turned (t' := s.toks) (fun b o hb q => eb b o hb q) f0 f1 f3 f4 f5⟩
  self := fun A i s Q E st h => by
    obtain ⟨⟨_, he⟩, _⟩ := st
    exact wpAny_pyIter_enum he h
def iEnumS (ta : TA) : TI := fun σ H R => ta σ H fun vs H1 => ∃ x, vs = [.str x] ∧ R (Ien x) H1
theorem pi_enumS {X : Cx} {e : Expr} {ta : TA} {p pos tpos : Pos} {elts : List Expr} {kk : Nat} (hg : Gl X "enumerate") (hm : X.mg "enumerate" = none) (ha : PA X [e] ta) (hs : starEach [e] X.env = [(false, eval e X.env)] := by rfl) :
    PI X (.Tuple elts kk tpos) (.Call (.Name "enumerate" p) [e] [] pos) (iEnumS ta) := by
  refine ⟨fun pins s σ H R I h => Call_ (ld_blt I hg hm boot_enumerate (PyProof.Rows.callWith_type1 (thn (ha.run pos pins s σ H _ I h) fun us s1 ⟨vs, H1, J, r, q⟩ => ?_) hs rfl))⟩
  obtain ⟨x, ev, q⟩ := q
  subst ev
  cases r with
  | cons r rr =>
  cases rr
  obtain ⟨t, rfl⟩ := r
  refine call_enumerate_str fun h' he hit _ hk => wpAny_pyIter_enum he ?_
  have J2 : L2.Inv X pins σ H1 { s1 with heap := h' } := J.kept (t' := s1.toks) hk
  refine ⟨s1.heap.objs.size + 1, [s1.heap.objs.size + 1, s1.heap.objs.size], _, _, H1, rfl, J2, turnEn x t (s1.heap.objs.size + 1) s1.heap.objs.size, ⟨⟨.none, he⟩, hit, Nat.succ_ne_self _⟩, fun b hb => ?_, q⟩
  have le : s1.heap.objs.size ≤ b := by
    rcases List.mem_cons.mp hb with z | z
    · rw [z]; exact Nat.le_add_right _ _
    · rw [List.mem_singleton.mp z]; exact Nat.le_refl _
  exact J.fpOk le (J.hok.fresh le)
/-- its turns in a comprehension -/
theorem lc_en {x : Str} {g : TG} {tt : TT} {te : TE} {vs : List Nat} {σ : L2.St} {H1 : Hp} {D : Addr} {Qd : Hp → Prop} (Pv : Nat → Hp → Prop) (h0 : Pv 0 (upd H1 D (.lst [])))
    (hs : ∀ i c H T, x.cps[i]? = some c → Pv i H → H T = none → g (.ref T) (wipe σ vs) (upd H T (.tup [.int (i : Nat), .str ⟨#[c]⟩])) fun σ2 H2 => wipe σ2 vs = wipe σ vs ∧ tt σ2 H2 fun b H3 =>
      if b = true then te σ2 H3 fun y H4 => ∃ acc, H4 D = some (.lst acc) ∧ acc.length < sizeLine ∧ Pv (i + 1) (upd H4 D (.lst (acc ++ [y]))) else Pv (i + 1) H3) (hd : ∀ H, Pv x.cps.size H → Qd H) :
    ∃ W : Nat → Nat → Hp → Prop, (∃ m, W 0 m (upd H1 D (.lst []))) ∧ ∀ i m H, W i m H →
      ((Ien x).stop i H ∧ Qd H) ∨ ((Ien x).go i H ∧ ∃ Nx : Hp → Prop, (∀ H', Nx H' → ∃ m', m' < m ∧ W (i + 1) m' H') ∧ ∀ v H', (Ien x).yld i H v H' → g v (wipe σ vs) H' fun σ2 H2 => wipe σ2 vs = wipe σ vs ∧ tt σ2 H2 fun b H3 =>
        if b = true then te σ2 H3 fun y H4 => ∃ acc, H4 D = some (.lst acc) ∧ acc.length < sizeLine ∧ Nx (upd H4 D (.lst (acc ++ [y]))) else Nx H3) := by
  refine ⟨fun i m H => m = x.cps.size - i ∧ i ≤ x.cps.size ∧ Pv i H, ⟨x.cps.size, by simp, Nat.zero_le _, h0⟩, fun i m H hw => ?_⟩
  obtain ⟨rfl, hi, p⟩ := hw
  by_cases lt : i < x.cps.size
  · refine .inr ⟨lt, Pv (i + 1), fun H' p' => ⟨x.cps.size - (i + 1), by omega, rfl, lt, p'⟩, fun v H' y => ?_⟩
    obtain ⟨T, c, rfl, nT, rfl, hc⟩ := y
    exact hs i c H T hc p nT
  · have e : i = x.cps.size := by omega
    subst e
    exact .inl ⟨rfl, hd H p⟩
end Bf

namespace Bf
open PySem PySem.Spec PyProof.Rows L2

/-! ### things by their types -/
inductive Kn (K : PySem.W.Frag) (H : Hp) : V → String → Prop
  | non : Kn K H .non "NoneType"
  | bl (b : Bool) : Kn K H (.bl b) "bool"
  | int (i : Int) : Kn K H (.int i) "int"
  | str (z : Str) : Kn K H (.str z) "str"
  | lst {a : Addr} (h : TyX K H (.ref a) (.type "list")) : Kn K H (.ref a) "list"
  | tup {a : Addr} (h : TyX K H (.ref a) (.type "tuple")) : Kn K H (.ref a) "tuple"
  | dic {a : Addr} (h : TyX K H (.ref a) (.type "dict")) : Kn K H (.ref a) "dict"
theorem Kn.ty {K : PySem.W.Frag} {H : Hp} {x : V} {n : String} (h : Kn K H x n) : TyX K H x (.type n) := by
  cases h with
  | non => exact .base .non
  | bl b => exact .base (.bl b)
  | int i => exact .base (.int i)
  | str z => exact .base (.str z)
  | lst h => exact h
  | tup h => exact h
  | dic h => exact h
def wholeB (x : V) (lo hi : Int) : Bool := match x with
  | .int i => decide (lo ≤ i) && decide (i ≤ hi)
  | _ => false
theorem wholeB_int {x : V} {lo hi : Int} (h : wholeB x lo hi = true) : ∃ i, x = .int i ∧ lo ≤ i ∧ i ≤ hi := by
  cases x with
  | int i =>
    have z : (decide (lo ≤ i) && decide (i ≤ hi)) = true := h
    obtain ⟨a, b⟩ := Bool.and_eq_true_iff.mp z
    exact ⟨i, rfl, of_decide_eq_true a, of_decide_eq_true b⟩
  | _ => cases h
theorem wholeB_of {i lo hi : Int} (a : lo ≤ i) (b : i ≤ hi) : wholeB (.int i) lo hi = true := by
  show (decide (lo ≤ i) && decide (i ≤ hi)) = true
  rw [decide_eq_true a, decide_eq_true b]; rfl

/-- a def of the text as its callers need it -/
structure Df (K : PySem.W.Frag) (mg : Str → Option Value) (x : Str) (f : Addr) (fd : FuncData) (ps : List Str) : Prop where
  at_ : mg x = some (.ref f)
  kp : PySem.W.keepIn K (.ref f) = true
  bd : Binds K fd ps []
abbrev CXL (P : Program) (w : World) : CXT := L2.CX P w

namespace K7
def top (i : Nat) : Stmt := PySem.Challenge.pw_beatflows_k73_terms_as_texts.main.body.getD i (.Pass ⟨0, 0, 0, 0⟩)
abbrev sFE : Stmt := inClass (top 1) 0
abbrev sNK : Stmt := inClass (top 4) 0
abbrev sNT : Stmt := inClass (top 5) 0
abbrev sWhole : Stmt := top 8
abbrev sName : Stmt := top 10
abbrev sWidth : Stmt := top 11
abbrev sTruth : Stmt := top 12
abbrev sKind : Stmt := top 13
abbrev sIsWorth : Stmt := top 14
abbrev sGreat : Stmt := top 15
abbrev sWorthOf : Stmt := top 16
abbrev sAre : Stmt := top 17
abbrev sIsTerm : Stmt := top 22
abbrev sNodeName : Stmt := top 23
abbrev sIsCall : Stmt := top 24
abbrev sAreTerms : Stmt := top 25
abbrev sFormed : Stmt := top 26
abbrev sFits : Stmt := top 27
abbrev sWithin : Stmt := top 28
abbrev sCell : Stmt := top 47
abbrev sTake : Stmt := top 49
abbrev sLName : Stmt := top 50
abbrev sLKind : Stmt := top 51
abbrev sLWorth : Stmt := top 52
abbrev sNumber : Stmt := top 9
abbrev sLaw : Stmt := top 60

section
variable {P : Program} {w : World} {K : PySem.W.Frag} {mg : Str → Option Value} {base : Heap}

/-! ### is_whole and what stands on it -/
def numB (x : V) : Bool := match x with
  | .int _ => true
  | _ => false
def spNum (K : PySem.W.Frag) : Sp := fun vs H Q _ => ∃ (x : V) (n : String), vs = [x] ∧ Kn K H x n ∧ Q (.bl (numB x)) H
theorem scNum : FnScope ["thing"] ["thing"] (defScope sNumber) := ⟨rfl, rfl, rfl, by decide +kernel, rfl, by decide +kernel, by decide +kernel⟩
theorem ok_num {f : Addr} {fd : FuncData} (F : Fun K "is_number" "is_number" sNumber f fd) (mi : mg "isinstance" = none) (mt : mg "int" = none) (mb : mg "bool" = none) :
    FnOk P w K mg base CX0 1 f fd ["thing"] (spNum K) := by
  refine F.ok scNum (fun vs H Q E h => ?_) (fun cdv A outer s H vs Q E hr h => ?_)
  · obtain ⟨x, n, rfl, _⟩ := h
    rfl
  · obtain ⟨x, n, rfl, kn, q⟩ := h
    refine ⟨_, pss_one (ps_ret (pe_and (pe_callB call_isi (by rfl) mi (by decide +kernel) (pa_cons (pv 0) (pa_cons (pe_bltn (v := .ty "int") (by rfl) mt (by decide +kernel) rfl) pa_nil)))
      (pe_one (pe_not (pe_callB call_isi (by rfl) mi (by decide +kernel) (pa_cons (pv 0) (pa_cons (pe_bltn (v := .ty "bool") (by rfl) mb (by decide +kernel) rfl) pa_nil))))))), ?_⟩
    cases kn with
    | int i =>
      refine ⟨_, rfl, _, _, _, _, _, rfl, .ty "int", .base (.int i), kit_ty (by decide +kernel), _, rfl, iteT ?_⟩
      exact ⟨_, rfl, _, _, _, _, false, rfl, .ty "bool", .base (.int i), kit_ty (by decide +kernel), _, rfl, q⟩
    | bl b =>
      refine ⟨_, rfl, _, _, _, _, _, rfl, .ty "int", .base (.bl b), kit_ty (by decide +kernel), _, rfl, iteT ?_⟩
      exact ⟨_, rfl, _, _, _, _, true, rfl, .ty "bool", .base (.bl b), kit_ty (by decide +kernel), _, rfl, q⟩
    | non => exact ⟨_, rfl, _, _, _, _, _, rfl, .ty "int", .base .non, kit_ty (by decide +kernel), _, rfl, iteF q⟩
    | str z => exact ⟨_, rfl, _, _, _, _, _, rfl, .ty "int", .base (.str z), kit_ty (by decide +kernel), _, rfl, iteF q⟩
    | lst t => exact ⟨_, rfl, _, _, _, _, _, rfl, .ty "int", t, kit_ty (by decide +kernel), _, rfl, iteF q⟩
    | tup t => exact ⟨_, rfl, _, _, _, _, _, rfl, .ty "int", t, kit_ty (by decide +kernel), _, rfl, iteF q⟩
    | dic t => exact ⟨_, rfl, _, _, _, _, _, rfl, .ty "int", t, kit_ty (by decide +kernel), _, rfl, iteF q⟩
def spWhole (K : PySem.W.Frag) : Sp := fun vs H Q _ => ∃ (x : V) (n : String) (lo hi : Int), vs = [x, .int lo, .int hi] ∧ Kn K H x n ∧ Q (.bl (wholeB x lo hi)) H
theorem scWhole : FnScope ["thing", "low", "high"] ["thing", "low", "high"] (defScope sWhole) := ⟨rfl, rfl, rfl, by decide +kernel, rfl, by decide +kernel, by decide +kernel⟩
theorem ok_whole {f fn : Addr} {fd fdn : FuncData} (F : Fun K "is_whole" "is_whole" sWhole f fd) (Dn : Df K mg "is_number" fn fdn ["thing"]) (Gn : FnOk P w K mg base CX0 1 fn fdn ["thing"] (spNum K)) :
    FnOk P w K mg base CX0 2 f fd ["thing", "low", "high"] (spWhole K) := by
  refine F.ok scWhole (fun vs H Q E h => ?_) (fun cdv A outer s H vs Q E hr h => ?_)
  · obtain ⟨x, n, lo, hi, rfl, _⟩ := h
    rfl
  · obtain ⟨x, n, lo, hi, rfl, kn, q⟩ := h
    refine ⟨_, pss_one (ps_ret (pe_and (pe_call Gn hr (by rfl) Dn.at_ Dn.kp Dn.bd .nil pass0 (pa_cons (pv 0) pa_nil))
        (pe_one (pe_chain op_le op_le (pv 1) (pv 0) (pv 2))))), ?_⟩
    refine ⟨_, rfl, x, n, rfl, kn, _, rfl, ?_⟩
    cases x with
    | int i =>
      refine iteT ⟨_, rfl, _, rfl, _, _, rfl, rfl, _, rfl, ite2 (fun h1 => ?_) (fun h1 => ?_)⟩
      · refine ⟨_, rfl, _, _, rfl, rfl, ?_⟩
        have e : wholeB (.int i) lo hi = decide (i ≤ hi) := by
          show (decide (lo ≤ i) && decide (i ≤ hi)) = _
          rw [h1]; rfl
        rw [e] at q; exact q
      · have e : wholeB (.int i) lo hi = false := by
          show (decide (lo ≤ i) && decide (i ≤ hi)) = _
          rw [Bool.eq_false_iff.mpr h1]; rfl
        rw [e] at q; exact q
    | _ => exact iteF q

/-- a def of one thing that asks is_whole between two written bounds -/
def spOne (K : PySem.W.Frag) (lo hi : Int) : Sp := fun vs H Q _ => ∃ (x : V) (n : String), vs = [x] ∧ Kn K H x n ∧ Q (.bl (wholeB x lo hi)) H
theorem scWidth : FnScope ["thing"] ["thing"] (defScope sWidth) := ⟨rfl, rfl, rfl, by decide +kernel, rfl, by decide +kernel, by decide +kernel⟩
theorem ok_width {f fw : Addr} {fd fdw : FuncData} (F : Fun K "is_width" "is_width" sWidth f fd) (D : Df K mg "is_whole" fw fdw ["thing", "low", "high"])
    (G : FnOk P w K mg base CX0 2 fw fdw ["thing", "low", "high"] (spWhole K)) : FnOk P w K mg base CX0 3 f fd ["thing"] (spOne K 1 8) := by
  refine F.ok scWidth (fun vs H Q E h => ?_) (fun cdv A outer s H vs Q E hr h => ?_)
  · obtain ⟨x, n, rfl, _⟩ := h
    rfl
  · obtain ⟨x, n, rfl, kn, q⟩ := h
    exact ⟨_, pss_one (ps_ret (pe_call G hr (by rfl) D.at_ D.kp D.bd .nil pass0 (pa_cons (pv 0) (pa_cons pe_int (pa_cons pe_int pa_nil))))), _, rfl, _, n, 1, 8, rfl, kn, q⟩
theorem scTruth : FnScope ["thing"] ["thing"] (defScope sTruth) := ⟨rfl, rfl, rfl, by decide +kernel, rfl, by decide +kernel, by decide +kernel⟩
theorem ok_truth {f fw : Addr} {fd fdw : FuncData} (F : Fun K "is_truth" "is_truth" sTruth f fd) (D : Df K mg "is_whole" fw fdw ["thing", "low", "high"])
    (G : FnOk P w K mg base CX0 2 fw fdw ["thing", "low", "high"] (spWhole K)) : FnOk P w K mg base CX0 3 f fd ["thing"] (spOne K 0 1) := by
  refine F.ok scTruth (fun vs H Q E h => ?_) (fun cdv A outer s H vs Q E hr h => ?_)
  · obtain ⟨x, n, rfl, _⟩ := h
    rfl
  · obtain ⟨x, n, rfl, kn, q⟩ := h
    exact ⟨_, pss_one (ps_ret (pe_call G hr (by rfl) D.at_ D.kp D.bd .nil pass0 (pa_cons (pv 0) (pa_cons pe_int (pa_cons pe_int pa_nil))))), _, rfl, _, n, 0, 1, rfl, kn, q⟩
def topW (z : Int) : Int := 2 ^ z.toNat - 1
def spGreat : Sp := fun vs H Q _ => ∃ z : Int, vs = [.int z] ∧ 0 ≤ z ∧ z ≤ 1000 ∧ Q (.int (topW z)) H
theorem scGreat : FnScope ["width"] ["width"] (defScope sGreat) := ⟨rfl, rfl, rfl, by decide +kernel, rfl, by decide +kernel, by decide +kernel⟩
theorem ok_great {f : Addr} {fd : FuncData} (F : Fun K "_greatest" "_greatest" sGreat f fd) : FnOk P w K mg base CX0 2 f fd ["width"] spGreat := by
  refine F.ok scGreat (fun vs H Q E h => ?_) (fun cdv A outer s H vs Q E hr h => ?_)
  · obtain ⟨x, rfl, _⟩ := h
    rfl
  · obtain ⟨z, rfl, h0, h1, q⟩ := h
    refine ⟨_, pss_one (ps_ret (pe_op op_sub (pe_op op_shl pe_int (pv 0)) pe_int)), ?_⟩
    refine ⟨_, rfl, _, _, rfl, rfl, ⟨h0, Int.le_trans h1 (by decide), by decide⟩, _, _, rfl, rfl, ?_⟩
    rw [Int.one_mul]
    exact q
def spWorthOf (K : PySem.W.Frag) : Sp := fun vs H Q _ => ∃ (x : V) (n : String) (z : Int), vs = [x, .int z] ∧ Kn K H x n ∧ 0 ≤ z ∧ z ≤ 1000 ∧ Q (.bl (wholeB x 0 (topW z))) H
theorem scWorthOf : FnScope ["thing", "width"] ["thing", "width"] (defScope sWorthOf) := ⟨rfl, rfl, rfl, by decide +kernel, rfl, by decide +kernel, by decide +kernel⟩
theorem ok_worthOf {f fw fg : Addr} {fd fdw fdg : FuncData} (F : Fun K "_is_worth_of_width" "_is_worth_of_width" sWorthOf f fd) (D : Df K mg "is_whole" fw fdw ["thing", "low", "high"])
    (G : FnOk P w K mg base CX0 2 fw fdw ["thing", "low", "high"] (spWhole K)) (Dg : Df K mg "_greatest" fg fdg ["width"]) (Gg : FnOk P w K mg base CX0 2 fg fdg ["width"] spGreat) :
    FnOk P w K mg base CX0 3 f fd ["thing", "width"] (spWorthOf K) := by
  refine F.ok scWorthOf (fun vs H Q E h => ?_) (fun cdv A outer s H vs Q E hr h => ?_)
  · obtain ⟨x, n, z, rfl, _⟩ := h
    rfl
  · obtain ⟨x, n, z, rfl, kn, h0, h1, q⟩ := h
    exact ⟨_, pss_one (ps_ret (pe_call G hr (by rfl) D.at_ D.kp D.bd .nil pass0 (pa_cons (pv 0) (pa_cons pe_int (pa_cons (pe_call Gg hr (by rfl) Dg.at_ Dg.kp Dg.bd .nil pass0 (pa_cons (pv 1) pa_nil)) pa_nil))))),
      _, rfl, _, rfl, z, rfl, h0, h1, _, n, 0, topW z, rfl, kn, q⟩
theorem same_new {H : Hp} {p : Addr} {o : HO} (h : H p = none) : Same H (upd H p o) := fun b u e => by
  rw [upd_ne (ne_of_none e h)]
  exact e
theorem kn_same {H H' : Hp} {x : V} {n : String} (e : Same H H') (h : Kn K H x n) : Kn K H' x n := by
  have T : ∀ {a : Addr} {t : Value}, TyX K H (.ref a) t → TyX K H' (.ref a) t := fun {a t} h => by
    cases h with
    | base h =>
      cases h with
      | lst q => exact .base (.lst (e _ _ q))
      | frz q => exact .base (.frz (e _ _ q))
      | tup q => exact .base (.tup (e _ _ q))
      | dK q => exact .base (.dK (e _ _ q))
      | dT q => exact .base (.dT (e _ _ q))
      | ins q cl ha hn ht hm => exact .base (.ins (e _ _ q) cl ha hn ht hm)
    | set q => exact .set (e _ _ q)
    | kList q c => exact .kList q c
    | kTuple q c => exact .kTuple q c
    | kDict q c => exact .kDict q c
    | fTuple q => exact .fTuple (e _ _ q)
    | fDict q => exact .fDict (e _ _ q)
  cases h with
  | non => exact .non
  | bl b => exact .bl b
  | int i => exact .int i
  | str z => exact .str z
  | lst h => exact .lst (T h)
  | tup h => exact .tup (T h)
  | dic h => exact .dic (T h)
end
end K7
end Bf

namespace Bf
open PySem PySem.Spec PyProof.Rows L2

/-! ### refusals of one field -/
structure ExT (K : PySem.W.Frag) (mg : Str → Option Value) (x : Str) (C fI : Addr) (fdI : FuncData) : Prop where
  gC : mg x = some (.ref C)
  ox : OexC K C
  iC : PySem.W.findIn K (.ref C) "__init__" = some (some (.ref fI))
  tI : PySem.W.typeIn K (.ref fI) = some (.type "function")
  nf : PySem.W.findIn K (.ref C) "found" = some none
  xf : XfC K C
  bd : Binds K fdI ["self", "found"] []
/-- self is an exception that is being made, without fields as yet -/
def spBase (K : PySem.W.Frag) : Sp := fun vs H Q _ => ∃ (a C : Addr) (v : V), vs = [.ref a, v] ∧ OexC K C ∧ H a = some (exo a C none) ∧ Q .non H
def spInit (K : PySem.W.Frag) (C : Addr) : Sp := fun vs H Q _ => ∃ (a : Addr) (v : V), vs = [.ref a, v] ∧ H a = some (exo a C none) ∧
  ∀ dx, H dx = none → dx ≠ a → Q .non (upd (upd H dx (exd dx [("found", v)])) a (exo a C (some dx)))
/-- the wish that a refusal with this field comes -/
def Refuses (C : Addr) (v : V) (H : Hp) (E : XK) : Prop := ∀ d H', Same H H' → H d = none → H' d = some (.xd [("found", v)]) → E (.ref C) (some d) H'
theorem same_raise {H1 : Hp} {a d : Addr} {o1 o2 o3 o4 : HO} (ha : H1 a = none) (hd : H1 d = none) : Same H1 (upd (del (upd (upd (upd H1 a o1) d o2) a o3) a) d o4) := fun b o e => by
  have nba : b ≠ a := ne_of_none e ha
  have nbd : b ≠ d := ne_of_none e hd
  rw [upd_ne nbd, del_ne nba, upd_ne nba, upd_ne nbd, upd_ne nba]
  exact e

namespace K7
section
variable {P : Program} {w : World} {K : PySem.W.Frag} {mg : Str → Option Value} {base : Heap}
theorem scFE : FnScope ["self", "text"] ["self", "text"] (defScope sFE) := ⟨rfl, rfl, rfl, by decide +kernel, rfl, by decide +kernel, by decide +kernel⟩
theorem ok_FE {f : Addr} {fd : FuncData} (F : Fun K "__init__" "FlowError.__init__" sFE f fd) (mV : mg "ValueError" = none)
    (vV : PySem.W.findCls K (.type "ValueError") (.type "type") "__init__" = some (.val (.builtin "ValueError.__init__"))) : FnOk P w K mg base CX0 2 f fd ["self", "text"] (spBase K) := by
  refine F.ok scFE (fun vs H Q E h => ?_) (fun cdv A outer s H vs Q E hr h => ?_)
  · obtain ⟨a, C, v, rfl, _⟩ := h
    rfl
  · obtain ⟨a, C, v, rfl, ox, ea, q⟩ := h
    exact ⟨_, pss_one (ps_expr (pe_veinit (by rfl) mV vV (pa_cons (pv 0) (pa_cons (pv 1) pa_nil)))), _, rfl, _, rfl, a, C, [v], rfl, by show 1 ≤ 1000; decide, ox, ea, q⟩
/-- what an __init__ needs of the base's class -/
structure BaseT (P : Program) (w : World) (K : PySem.W.Frag) (mg : Str → Option Value) (base : Heap) (mc : Value) (CF fF : Addr) (fdF : FuncData) : Prop where
  g : mg "FlowError" = some (.ref CF)
  rd : ClX.CRead K CF mc
  va : PySem.W.findCls K (.ref CF) mc "__init__" = some (.val (.ref fF))
  kp : PySem.W.keepIn K (.ref fF) = true
  bd : Binds K fdF ["self", "text"] []
  ok : FnOk P w K mg base CX0 2 fF fdF ["self", "text"] (spBase K)
theorem scNK : FnScope ["self", "found"] ["self", "found"] (defScope sNK) := ⟨rfl, rfl, rfl, by decide +kernel, rfl, by decide +kernel, by decide +kernel⟩
theorem ok_NK {f C CF fF : Addr} {fd fdF : FuncData} {mc : Value} (F : Fun K "__init__" "NoKind.__init__" sNK f fd) (B : BaseT P w K mg base mc CF fF fdF) (ox : OexC K C) (nf : PySem.W.findIn K (.ref C) "found" = some none) :
    FnOk P w K mg base CX0 3 f fd ["self", "found"] (spInit K C) := by
  refine F.ok scNK (fun vs H Q E h => ?_) (fun cdv A outer s H vs Q E hr h => ?_)
  · obtain ⟨a, v, rfl, _⟩ := h
    rfl
  · obtain ⟨a, v, rfl, ea, q⟩ := h
    exact ⟨_, pss_cons (ps_expr (pe_clsFn B.ok hr (by rfl) B.g B.rd B.va B.kp B.bd pass0 (pa_cons (pv 0) (pa_cons pe_str pa_nil)))) (pss_one (ps_ost (pv 0) (pv 1))),
      _, rfl, a, C, _, rfl, ox, ea, _, rfl, _, rfl, a, C, rfl, ox, nf, .inl ⟨ea, fun dx n ne => q dx n ne⟩⟩
theorem scNT : FnScope ["self", "found"] ["self", "found"] (defScope sNT) := ⟨rfl, rfl, rfl, by decide +kernel, rfl, by decide +kernel, by decide +kernel⟩
theorem ok_NT {f C CF fF : Addr} {fd fdF : FuncData} {mc : Value} (F : Fun K "__init__" "NoTerm.__init__" sNT f fd) (B : BaseT P w K mg base mc CF fF fdF) (ox : OexC K C) (nf : PySem.W.findIn K (.ref C) "found" = some none) :
    FnOk P w K mg base CX0 3 f fd ["self", "found"] (spInit K C) := by
  refine F.ok scNT (fun vs H Q E h => ?_) (fun cdv A outer s H vs Q E hr h => ?_)
  · obtain ⟨a, v, rfl, _⟩ := h
    rfl
  · obtain ⟨a, v, rfl, ea, q⟩ := h
    exact ⟨_, pss_cons (ps_expr (pe_clsFn B.ok hr (by rfl) B.g B.rd B.va B.kp B.bd pass0 (pa_cons (pv 0) (pa_cons pe_str pa_nil)))) (pss_one (ps_ost (pv 0) (pv 1))),
      _, rfl, a, C, _, rfl, ox, ea, _, rfl, _, rfl, a, C, rfl, ox, nf, .inl ⟨ea, fun dx n ne => q dx n ne⟩⟩
/-- what stands behind «raise C(v)», v already reckoned: the reading from the arguments on -/
theorem raise_reads {C : Addr} {v : V} {H : Hp} {E : XK} (q : Refuses C v H E) :
    ([v] : List V).length ≤ 1000 ∧ ∀ a, H a = none → spInit K C (.ref a :: ([v] ++ [])) (upd H a (exo a C none)) (fun z H2 => z = .non ∧ ∃ (d : Addr) (fs : List (Str × V)), H2 a = some (exo a C (some d)) ∧ H2 d = some (exd d fs) ∧ H d = none ∧
      E (.ref C) (some d) (upd (del H2 a) d (.xd fs))) fun _ _ _ => False := by
  refine ⟨by show 1 ≤ 1000; decide, fun a ha => ⟨a, v, rfl, upd_same, fun dx hdx ne => ⟨rfl, dx, [("found", v)], upd_same, ?_, ?_, ?_⟩⟩⟩
  · rw [upd_ne ne, upd_same]
  · rw [upd_ne ne] at hdx
    exact hdx
  · have hd : H dx = none := by
      rw [upd_ne ne] at hdx
      exact hdx
    exact q _ _ (same_raise ha hd) hd upd_same

end
end K7
end Bf

namespace Bf
open PySem PySem.Spec PyProof.Rows L2

/-- a loop over enumerate(list) -/
theorem for_ite {K : PySem.W.Frag} {a : Addr} {xs : List V} {g : TG} {tb : TS} {D : Ends} {σ : L2.St} {H : Hp} (Pv : Nat → L2.St → Hp → Prop) (h0 : Pv 0 σ H) (hl : ∀ i σ H, i ≤ xs.length → Pv i σ H → SqL K H a xs)
    (hs : ∀ i x σ H T, xs[i]? = some x → Pv i σ H → H T = none → g (.ref T) σ (upd H T (.tup [.int (i : Nat), x])) fun σ2 H2 => tb { D with nx := Pv (i + 1), ct := Pv (i + 1), bk := D.nx } σ2 H2) (hd : ∀ σ H, Pv xs.length σ H → D.nx σ H) :
    ∃ W : Nat → Nat → L2.St → Hp → Prop, (∃ m, W 0 m σ H) ∧ ∀ i m σ H, W i m σ H →
      ((Ite K a).stop i H ∧ D.nx σ H) ∨ ((Ite K a).go i H ∧ ∃ N : L2.St → Hp → Prop, (∀ σ' H', N σ' H' → ∃ m', m' < m ∧ W (i + 1) m' σ' H') ∧ ∀ x H', (Ite K a).yld i H x H' → g x σ H' fun σ2 H2 => tb { D with nx := N, ct := N, bk := D.nx } σ2 H2) := by
  refine ⟨fun i m σ H => m = xs.length - i ∧ i ≤ xs.length ∧ Pv i σ H, ⟨xs.length, by simp, Nat.zero_le _, h0⟩, ?_⟩
  rintro i m σ H ⟨rfl, hi, p⟩
  have q := hl i σ H hi p
  rcases Nat.lt_or_ge i xs.length with lt | ge
  · refine .inr ⟨⟨xs, xs[i], q, List.getElem?_eq_getElem lt⟩, Pv (i + 1), fun σ' H' p' => ⟨xs.length - (i + 1), by omega, rfl, lt, p'⟩, ?_⟩
    rintro x H' ⟨T, y, rfl, nT, rfl, hy⟩
    exact hs i y σ H T (hy xs q) p nT
  · exact .inl ⟨⟨xs, q, ge⟩, hd σ H (Nat.le_antisymm hi ge ▸ p)⟩

/-- the worth of bits, the lowest first -/
def valB : List Int → Int
  | [] => 0
  | b :: r => b + 2 * valB r
theorem valB_snoc : ∀ (l : List Int) (b : Int), valB (l ++ [b]) = valB l + b * 2 ^ l.length
  | [], b => by simp [valB]
  | a :: l, b => by
    show a + 2 * valB (l ++ [b]) = a + 2 * valB l + b * 2 ^ (l.length + 1)
    rw [valB_snoc l b, Int.pow_succ]
    have e : b * (2 ^ l.length * 2) = 2 * (b * 2 ^ l.length) := by rw [← Int.mul_assoc, Int.mul_comm]
    rw [e]
    omega
theorem same_trans_new {H H1 : Hp} {p : Addr} {o : HO} (s : Same H H1) (h : H1 p = none) : Same H (upd H1 p o) := fun b u e => by
  rw [upd_ne (ne_of_none (s _ _ e) h)]
  exact s _ _ e
theorem Same.sqT {K : PySem.W.Frag} {H H' : Hp} {a : Addr} {xs : List V} (e : Same H H') (h : SqT K H a xs) : SqT K H' a xs := by
  rcases h with (h | ⟨o, h⟩) | h
  · exact .inl (.inl (e _ _ h))
  · exact .inl (.inr ⟨o, e _ _ h⟩)
  · exact .inr h
/-- a list (k = true) or a tuple -/
def SqB (K : PySem.W.Frag) (k : Bool) (H : Hp) (a : Addr) (xs : List V) : Prop := if k = true then SqL K H a xs else SqT K H a xs
theorem SqB.same {K : PySem.W.Frag} {k : Bool} {H H' : Hp} {a : Addr} {xs : List V} (e : Same H H') (h : SqB K k H a xs) : SqB K k H' a xs := by
  cases k with
  | true => exact Same.seq e h
  | false => exact Same.sqT e h

theorem SqB.or {K : PySem.W.Frag} {k : Bool} {H : Hp} {a : Addr} {xs : List V} (h : SqB K k H a xs) : SqL K H a xs ∨ SqT K H a xs := by
  cases k with
  | true => exact .inl h
  | false => exact .inr h
theorem iteB {b : Bool} {A B : Prop} (e : b = true) (h : A) : if b = true then A else B := by
  rw [if_pos e]
  exact h
theorem iteN {b : Bool} {A B : Prop} (e : b = false) (h : B) : if b = true then A else B := by
  rw [if_neg (by rw [e]; exact Bool.false_ne_true)]
  exact h
theorem ix_at {K : PySem.W.Frag} {k : Bool} {H : Hp} {a : Addr} {xs : List V} {i : Nat} {v : V} {Q : VK} (s : SqB K k H a xs) (e : xs[i]? = some v) (q : Q v H) : rIx K (.ref a) (.int (i : Nat)) H Q := by
  cases k with
  | true => exact .inl ⟨a, xs, _, v, rfl, rfl, s, atI_nat e, q⟩
  | false => exact .inr (.inl ⟨a, xs, _, v, rfl, rfl, s, atI_nat e, q⟩)

theorem small20k {n : Nat} (h : n ≤ 20000) : n < sizeLine := Nat.lt_of_le_of_lt h (by decide)
/-! ### things as data -/
mutual
/-- x stands for the data d; its texts and lists are short -/
inductive Da (H : Hp) : V → PyData → Prop
  | non : Da H .non .none
  | bl (c : Bool) : Da H (.bl c) (.bool c)
  | int (i : Int) : Da H (.int i) (.int i)
  | str (z : Str) (h : z.length ≤ 20000) : Da H (.str z) (.str z)
  | lst {a : Addr} {xs : List V} {ds : List PyData} (h : H a = some (.lst xs)) (l : xs.length ≤ 20000) (r : DaAll H xs ds) : Da H (.ref a) (.list ds)
  | tup {a : Addr} {xs : List V} {ds : List PyData} (h : H a = some (.tup xs)) (l : xs.length ≤ 20000) (r : DaAll H xs ds) : Da H (.ref a) (.tuple ds)
  | emp {a : Addr} (h : H a = some (.dK [])) : Da H (.ref a) (.dict [])
inductive DaAll (H : Hp) : List V → List PyData → Prop
  | nil : DaAll H [] []
  | cons {v : V} {vs : List V} {d : PyData} {ds : List PyData} (h : Da H v d) (r : DaAll H vs ds) : DaAll H (v :: vs) (d :: ds)
end
mutual
theorem Da.same {H H' : Hp} (s : Same H H') : ∀ (d : PyData) (v : V), Da H v d → Da H' v d
  | .none, _, h => by cases h; exact .non
  | .bool _, _, h => by cases h; exact .bl _
  | .int _, _, h => by cases h; exact .int _
  | .str _, _, h => by
    cases h with
    | str _ h => exact .str _ h
  | .list ds, _, h => by
    cases h with
    | lst h l r => exact .lst (s _ _ h) l (DaAll.same s ds _ r)
  | .tuple ds, _, h => by
    cases h with
    | tup h l r => exact .tup (s _ _ h) l (DaAll.same s ds _ r)
  | .dict _, _, h => by
    cases h with
    | emp h => exact .emp (s _ _ h)
theorem DaAll.same {H H' : Hp} (s : Same H H') : ∀ (ds : List PyData) (vs : List V), DaAll H vs ds → DaAll H' vs ds
  | [], _, h => by cases h; exact .nil
  | d :: ds, _, h => by
    cases h with
    | cons h r => exact .cons (Da.same s d _ h) (DaAll.same s ds _ r)
end
theorem DaAll.len {H : Hp} : ∀ {vs : List V} {ds : List PyData}, DaAll H vs ds → vs.length = ds.length
  | _, _, .nil => rfl
  | _, _, .cons _ r => congrArg (· + 1) (DaAll.len r)
theorem DaAll.get {H : Hp} : ∀ {vs : List V} {ds : List PyData}, DaAll H vs ds → ∀ {i : Nat} {v : V}, vs[i]? = some v → ∃ d, ds[i]? = some d ∧ Da H v d
  | _, _, .cons h r, 0, _, e => by cases e; exact ⟨_, rfl, h⟩
  | _, _, .cons h r, i + 1, _, e => DaAll.get r (i := i) e
theorem DaAll.getD {H : Hp} : ∀ {vs : List V} {ds : List PyData}, DaAll H vs ds → ∀ {i : Nat} {d : PyData}, ds[i]? = some d → ∃ v, vs[i]? = some v ∧ Da H v d
  | _, _, .cons h r, 0, _, e => by cases e; exact ⟨_, rfl, h⟩
  | _, _, .cons h r, i + 1, _, e => DaAll.getD r (i := i) e
theorem DaAll.append {H : Hp} : ∀ {vs : List V} {ds : List PyData} {ws : List V} {es : List PyData}, DaAll H vs ds → DaAll H ws es → DaAll H (vs ++ ws) (ds ++ es)
  | _, _, _, _, .nil, r => r
  | _, _, _, _, .cons h t, r => .cons h (DaAll.append t r)
theorem DaAll.drop {H : Hp} : ∀ {vs : List V} {ds : List PyData} (n : Nat), DaAll H vs ds → DaAll H (vs.drop n) (ds.drop n)
  | _, _, 0, r => r
  | _, _, _ + 1, .nil => .nil
  | _, _, n + 1, .cons _ r => DaAll.drop n r
theorem DaAll.snoc {H : Hp} {v : V} {d : PyData} {vs : List V} {ds : List PyData} (r : DaAll H vs ds) (h : Da H v d) : DaAll H (vs ++ [v]) (ds ++ [d]) := r.append (.cons h .nil)
theorem DaAll.rev {H : Hp} : ∀ {vs : List V} {ds : List PyData}, DaAll H vs ds → DaAll H vs.reverse ds.reverse
  | _, _, .nil => .nil
  | _, _, .cons h r => by
    rw [List.reverse_cons, List.reverse_cons]
    exact (DaAll.rev r).snoc h
def tyD : PyData → String
  | .none => "NoneType"
  | .bool _ => "bool"
  | .int _ => "int"
  | .str _ => "str"
  | .list _ => "list"
  | .tuple _ => "tuple"
  | .dict _ => "dict"
theorem Da.kn {K : PySem.W.Frag} {H : Hp} {x : V} {d : PyData} (h : Da H x d) : Kn K H x (tyD d) := by
  cases h with
  | non => exact .non
  | bl c => exact .bl c
  | int i => exact .int i
  | str z _ => exact .str z
  | lst h _ _ => exact .lst (.base (.lst h))
  | tup h _ _ => exact .tup (.base (.tup h))
  | emp h => exact .dic (.base (.dK h))
theorem DaAll.kn {K : PySem.W.Frag} {H : Hp} : ∀ {vs : List V} {ds : List PyData}, DaAll H vs ds → ∀ y ∈ vs, ∃ m, Kn K H y m
  | _, _, .nil, _, m => nomatch m
  | _, _, .cons h r, y, m => (List.mem_cons.mp m).elim (fun e => ⟨_, e ▸ h.kn⟩) (DaAll.kn r y)
/-- is a whole number within, of data -/
def wholeD (d : PyData) (lo hi : Int) : Bool := match d with
  | .int i => decide (lo ≤ i) && decide (i ≤ hi)
  | _ => false
theorem Da.whole {H : Hp} {x : V} {d : PyData} (h : Da H x d) (lo hi : Int) : wholeB x lo hi = wholeD d lo hi := by
  cases h <;> rfl
/-- the built-in types, asked of data -/
theorem kit_of (n : String) (hn : ∀ m ∈ ["NoneType", "bool", "int", "str", "list", "tuple", "dict"], kitB m n = some (m == n || (m == "bool" && n == "int"))) (d : PyData) : kitB (tyD d) n = some (tyD d == n || (tyD d == "bool" && n == "int")) := by
  cases d <;> exact hn _ (by simp [tyD])
theorem kit_str (d : PyData) : kitB (tyD d) "str" = some (tyD d == "str") := by
  rw [kit_of "str" (by decide +kernel) d]
  cases d <;> rfl
theorem kit_tup (d : PyData) : kitB (tyD d) "tuple" = some (tyD d == "tuple") := by
  rw [kit_of "tuple" (by decide +kernel) d]
  cases d <;> rfl
theorem kit_list (d : PyData) : kitB (tyD d) "list" = some (tyD d == "list") := by
  rw [kit_of "list" (by decide +kernel) d]
  cases d <;> rfl
/-- comprehensions over a text -/
theorem lc_its {x : Str} {g : TG} {tt : TT} {te : TE} {vs : List Nat} {σ : L2.St} {H1 : Hp} {D : Addr} {Qd : Hp → Prop} (Pv : Nat → Hp → Prop) (h0 : Pv 0 (upd H1 D (.lst [])))
    (hs : ∀ i c H, x.cps[i]? = some c → Pv i H → g (.str ⟨#[c]⟩) (wipe σ vs) H fun σ2 H2 => wipe σ2 vs = wipe σ vs ∧ tt σ2 H2 fun b H3 =>
      if b = true then te σ2 H3 fun y H4 => ∃ acc, H4 D = some (.lst acc) ∧ acc.length < sizeLine ∧ Pv (i + 1) (upd H4 D (.lst (acc ++ [y]))) else Pv (i + 1) H3) (hd : ∀ H, Pv x.cps.size H → Qd H) :
    ∃ W : Nat → Nat → Hp → Prop, (∃ m, W 0 m (upd H1 D (.lst []))) ∧ ∀ i m H, W i m H →
      ((Its x).stop i H ∧ Qd H) ∨ ((Its x).go i H ∧ ∃ Nx : Hp → Prop, (∀ H', Nx H' → ∃ m', m' < m ∧ W (i + 1) m' H') ∧ ∀ v H', (Its x).yld i H v H' → g v (wipe σ vs) H' fun σ2 H2 => wipe σ2 vs = wipe σ vs ∧ tt σ2 H2 fun b H3 =>
        if b = true then te σ2 H3 fun y H4 => ∃ acc, H4 D = some (.lst acc) ∧ acc.length < sizeLine ∧ Nx (upd H4 D (.lst (acc ++ [y]))) else Nx H3) := by
  refine ⟨fun i m H => m = x.cps.size - i ∧ i ≤ x.cps.size ∧ Pv i H, ⟨x.cps.size, by simp, Nat.zero_le _, h0⟩, ?_⟩
  rintro i m H ⟨rfl, hi, p⟩
  by_cases hlt : i < x.cps.size
  · refine .inr ⟨hlt, Pv (i + 1), fun H' p' => ⟨x.cps.size - (i + 1), by omega, rfl, hlt, p'⟩, fun v H' y => ?_⟩
    obtain ⟨rfl, c, hc, rfl⟩ := y
    exact hs i c _ hc p
  · have e : i = x.cps.size := by omega
    subst e
    exact .inl ⟨Nat.le_refl _, hd H p⟩
end Bf

namespace Bf
open PySem PySem.Spec PyProof.Rows L2
def signB (c : Nat) : Bool := !decide (([c] : List Nat) < ("a" : Str).cps.toList) && !decide (("z" : Str).cps.toList < ([c] : List Nat))
def nameS (z : Str) : Bool := (decide (1 ≤ z.length) && decide (z.length ≤ 8)) && z.cps.toList.all signB
def nameD : PyData → Bool
  | .str z => nameS z
  | _ => false
namespace K7
section
variable {P : Program} {w : World} {K : PySem.W.Frag} {mg : Str → Option Value} {base : Heap}
/-! ### is_name -/
def spName : Sp := fun vs H Q _ => ∃ (x : V) (d : PyData), vs = [x] ∧ Da H x d ∧ ∀ H', Same H H' → Q (.bl (nameD d)) H'
theorem scName : FnScope ["thing", "sign"] ["thing"] (defScope sName) := ⟨rfl, rfl, rfl, by decide +kernel, rfl, by decide +kernel, by decide +kernel⟩
theorem ok_name {f : Addr} {fd : FuncData} (F : Fun K "is_name" "is_name" sName f fd) (mi : mg "isinstance" = none) (ms : mg "str" = none) (ml : mg "len" = none) (ma : mg "all" = none) : FnOk P w K mg base CX0 2 f fd ["thing"] spName := by
  refine F.ok scName (fun vs H Q E h => ?_) (fun cdv A outer s H vs Q E hr h => ?_)
  · obtain ⟨x, d, rfl, _⟩ := h
    rfl
  · obtain ⟨x, d, rfl, da, q⟩ := h
    refine ⟨_, pss_cons (ps_if (PW.pt (pw_or (pt_not (pt_val (pe_callB call_isi (by rfl) mi (by decide +kernel) (pa_cons (pv 0) (pa_cons (pe_bltn (v := .ty "str") (by rfl) ms (by decide +kernel) rfl) pa_nil)))))
        (pw_or1 (pt_not (pt_chain op_le op_le pe_int (pe_callB call_len_str (by rfl) ml PySem.boot_len (pa_cons (pv 0) pa_nil)) pe_int))))) (pss_one (ps_ret pe_bl)) pss_nil)
      (pss_one (ps_ret (pe_callB (cr_all rfl) (by rfl) ma (by decide +kernel) (pa_cons (pe_lc (own := [("sign", 1)]) (g := gName 1) (tt := tYes) rfl scName.nd (pi_str (pv 0)) (blkOk_by (N := ["thing", "sign"]) (sc := defScope sName) (by decide +kernel))
        (fun _ _ _ _ _ => pg_name (i := 1) scName.nd rfl (Or.inl rfl)) (fun _ _ _ _ _ => pts_nil) (fun _ _ _ _ _ => pe_chain op_le_str op_le_str pe_str (pv 1) pe_str)) pa_nil)))), ?_⟩
    refine ⟨_, rfl, x, .ty "str", _, _, _, rfl, .ty "str", da.kn.ty, kit_ty (kit_str d), _, rfl, ?_⟩
    cases da with
    | str z hz =>
      refine iteF ?_
      have lz : z.length = z.cps.size := rfl
      refine ⟨_, rfl, z, rfl, Nat.le_trans hz (by decide), _, _, rfl, rfl, _, rfl, ?_⟩
      by_cases h1 : 1 ≤ z.length
      · rw [decide_eq_true (show (1 : Int) ≤ (z.length : Int) by omega)]
        refine iteT ⟨_, _, rfl, rfl, _, rfl, ?_⟩
        by_cases h8 : z.length ≤ 8
        · rw [decide_eq_true (show (z.length : Int) ≤ 8 by omega)]
          refine iteF ⟨_, rfl, z, rfl, fun D hD => ?_⟩
          refine lc_its (x := z) (fun i H' => Same H H' ∧ H' D = some (.lst (((z.cps.toList.take i).map signB).map V.bl))) ⟨same_new hD, upd_same⟩ (fun i c H' hc pv => ?_) fun H' pv => ?_
          · have hi : i < z.cps.size := (Array.getElem?_eq_some_iff.mp hc).1
            have fin : ∀ b, b = signB c → ∃ acc, H' D = some (.lst acc) ∧ acc.length < sizeLine ∧ (Same H (upd H' D (.lst (acc ++ [.bl b]))) ∧ upd H' D (.lst (acc ++ [.bl b])) D = some (.lst (((z.cps.toList.take (i + 1)).map signB).map V.bl))) := fun b e => by
              refine ⟨_, pv.2, ?_, fun a o h => ?_, ?_⟩
              · rw [List.length_map, List.length_map, List.length_take]
                exact small20k (by omega)
              · rw [upd_ne (ne_of_none h hD)]; exact pv.1 _ _ h
              · have hc' : z.cps.toList[i]? = some c := by rw [Array.getElem?_toList]; exact hc
                rw [upd_same, List.take_add_one, hc', List.map_append, List.map_append, e]
                rfl
            refine ⟨rfl, _, rfl, _, _, rfl, rfl, _, rfl, ite2 (fun h => ⟨_, _, rfl, rfl, fin _ ?_⟩) (fun h => fin _ ?_)⟩
            · unfold signB
              rw [show (!decide (([c] : List Nat) < ("a" : Str).cps.toList)) = true from h, Bool.true_and]
            · unfold signB
              rw [show (!decide (([c] : List Nat) < ("a" : Str).cps.toList)) = false from Bool.eq_false_iff.mpr h, Bool.false_and]
          · have e : (z.cps.toList.take z.cps.size) = z.cps.toList := by rw [← Array.length_toList, List.take_length]
            rw [e] at pv
            refine ⟨D, _, rfl, SqL.of pv.2, ?_⟩
            have e2 : nameD (.str z) = (z.cps.toList.map signB).all id := by
              show ((decide (1 ≤ z.length) && decide (z.length ≤ 8)) && z.cps.toList.all signB) = _
              rw [decide_eq_true h1, decide_eq_true h8, List.all_map]
              rfl
            rw [← e2]
            exact q _ pv.1
        · rw [decide_eq_false (show ¬ (z.length : Int) ≤ 8 by omega)]
          have e2 : nameD (.str z) = false := by
            show ((decide (1 ≤ z.length) && decide (z.length ≤ 8)) && z.cps.toList.all signB) = _
            rw [decide_eq_false h8, Bool.and_false, Bool.false_and]
          exact iteT (by rw [e2] at q; exact q _ (Same.refl _))
      · rw [decide_eq_false (show ¬ (1 : Int) ≤ (z.length : Int) by omega)]
        have e2 : nameD (.str z) = false := by
          show ((decide (1 ≤ z.length) && decide (z.length ≤ 8)) && z.cps.toList.all signB) = _
          rw [decide_eq_false h1, Bool.false_and, Bool.false_and]
        exact iteF ⟨_, rfl, iteT (by rw [e2] at q; exact q _ (Same.refl _))⟩
    | _ => exact iteT (q _ (Same.refl _))
/-! ### is_kind -/
def kindD : PyData → Bool
  | .tuple [a, b] => wholeD a 2 4 && wholeD b 1 8
  | .int i => wholeD (.int i) 1 8
  | _ => false
def spKind : Sp := fun vs H Q _ => ∃ (x : V) (d : PyData), vs = [x] ∧ Da H x d ∧ Q (.bl (kindD d)) H
theorem scKind : FnScope ["thing"] ["thing"] (defScope sKind) := ⟨rfl, rfl, rfl, by decide +kernel, rfl, by decide +kernel, by decide +kernel⟩
theorem ok_kind {f fw fh : Addr} {fd fdw fdh : FuncData} (F : Fun K "is_kind" "is_kind" sKind f fd) (Dw : Df K mg "is_width" fw fdw ["thing"]) (Gw : FnOk P w K mg base CX0 3 fw fdw ["thing"] (spOne K 1 8))
    (Dh : Df K mg "is_whole" fh fdh ["thing", "low", "high"]) (Gh : FnOk P w K mg base CX0 2 fh fdh ["thing", "low", "high"] (spWhole K)) (mi : mg "isinstance" = none) (mt : mg "tuple" = none) (ml : mg "len" = none) : FnOk P w K mg base CX0 4 f fd ["thing"] spKind := by
  refine F.ok scKind (fun vs H Q E h => ?_) (fun cdv A outer s H vs Q E hr h => ?_)
  · obtain ⟨x, d, rfl, _⟩ := h
    rfl
  · obtain ⟨x, d, rfl, da, q⟩ := h
    have hr1 := hr.mono (by decide : 2 ≤ 3)
    refine ⟨_, pss_cons (ps_if (pt_not (pt_val (pe_callB call_isi (by rfl) mi (by decide +kernel) (pa_cons (pv 0) (pa_cons (pe_bltn (v := .ty "tuple") (by rfl) mt (by decide +kernel) rfl) pa_nil))))) (pss_one (ps_ret (pe_call Gw hr (by rfl) Dw.at_ Dw.kp Dw.bd .nil pass0 (pa_cons (pv 0) pa_nil)))) pss_nil)
      (pss_one (ps_ret (pe_and (pe_cmpR op_eq (pe_callB call_len_seq (by rfl) ml PySem.boot_len (pa_cons (pv 0) pa_nil)) pe_int (nomark _)) (pe_and (pe_call Gh hr1 (by rfl) Dh.at_ Dh.kp Dh.bd .nil pass0 (pa_cons (pe_ix ix_tup (pv 0) pe_int (fun _ _ => rfl)) (pa_cons pe_int (pa_cons pe_int pa_nil))))
        (pe_one (pe_call Gw hr (by rfl) Dw.at_ Dw.kp Dw.bd .nil pass0 (pa_cons (pe_ix ix_tup (pv 0) pe_int (fun _ _ => rfl)) pa_nil))))))), ?_⟩
    refine ⟨_, rfl, x, .ty "tuple", _, _, _, rfl, .ty "tuple", da.kn.ty, kit_ty (kit_tup d), _, rfl, ?_⟩
    have out : ∀ d, Da H x d → (tyD d == "tuple") = false → kindD d = wholeB x 1 8 := fun d da e => by
      cases da with
      | tup _ _ _ => cases e
      | int i => rfl
      | _ => rfl
    by_cases e : (tyD d == "tuple") = true
    · rw [e]
      refine iteF ?_
      cases da with
      | @tup a xs ds h l r =>
        refine ⟨_, rfl, a, xs, rfl, .inr (SqT.of h), rfl, ?_⟩
        by_cases e2 : xs.length = 2
        · match xs, e2, r with
          | [u, v], _, .cons (d := du) h1 (.cons (d := dv) h2 .nil) =>
            refine ⟨_, rfl, iteB (by rfl) ?_⟩
            refine ⟨_, rfl, a, _, 0, _, rfl, rfl, SqT.of h, rfl, u, _, 2, 4, rfl, h1.kn, ?_⟩
            have k : kindD (.tuple [du, dv]) = (wholeB u 2 4 && wholeB v 1 8) := by
              show (wholeD du 2 4 && wholeD dv 1 8) = _
              rw [h1.whole, h2.whole]
            rw [k] at q
            refine ⟨_, rfl, ite2 (fun w1 => ?_) (fun w1 => ?_)⟩
            · rw [w1, Bool.true_and] at q
              exact ⟨_, rfl, a, _, 1, _, rfl, rfl, SqT.of h, rfl, v, _, rfl, h2.kn, q⟩
            · rw [Bool.eq_false_iff.mpr w1, Bool.false_and] at q
              exact q
        · have nl : ¬ V.int ((xs.length : Nat) : Int) = V.int 2 := fun z => e2 (by have := V.int.inj z; omega)
          have k : kindD (.tuple ds) = false := by
            have ld := r.len
            match ds, ld with
            | [], _ => rfl
            | [_], _ => rfl
            | [_, _], ld => exact absurd ld e2
            | _ :: _ :: _ :: _, _ => rfl
          rw [k] at q
          exact ⟨_, rfl, iteN (decide_eq_false nl) q⟩
      | _ => cases e
    · have e' := Bool.eq_false_iff.mpr e
      rw [e']
      rw [out d da e'] at q
      exact iteT ⟨_, rfl, x, _, rfl, da.kn, q⟩
end
end K7
end Bf

namespace Bf
open PySem PySem.Spec PyProof.Rows L2
theorem split_short {a b y : Str} (m : y ∈ Txt.split a b) : y.length ≤ a.length := by
  unfold Txt.split at m
  split at m
  · rw [List.mem_singleton.mp m]; exact Nat.le_refl _
  · split at m
    · rw [List.mem_singleton.mp m]; exact Nat.le_refl _
    · unfold Builtin.Str.partsBetween at m
      obtain ⟨⟨i, j⟩, _, rfl⟩ := List.mem_map.mp m
      show (a.cps.extract i j).size ≤ a.cps.size
      rw [Array.size_extract]
      omega
def nodeS (z : Str) : Bool := decide ((Txt.split z ".").length ≤ 2) && (Txt.split z ".").all nameS
def nodeD : PyData → Bool
  | .str z => nodeS z
  | _ => false
theorem Da.str_inv {H : Hp} {v : V} {z : Str} (h : Da H v (.str z)) : v = .str z := by
  cases h; rfl
theorem Da.tup_inv {H : Hp} {v : V} {ds : List PyData} (h : Da H v (.tuple ds)) : ∃ a xs, v = .ref a ∧ H a = some (.tup xs) ∧ xs.length ≤ 20000 ∧ DaAll H xs ds := by
  cases h with
  | tup h l r => exact ⟨_, _, rfl, h, l, r⟩
namespace K7
section
variable {P : Program} {w : World} {K : PySem.W.Frag} {mg : Str → Option Value} {base : Heap}
/-! ### _are_worths_of_width -/
def goodB (z : Int) (xs : List V) : Bool := (xs.map fun y => wholeB y 0 (topW z)).all id
def spAre (K : PySem.W.Frag) : Sp := fun vs H Q _ => ∃ (a : Addr) (z : Int) (k : Bool) (xs : List V), vs = [.ref a, .int z] ∧ 0 ≤ z ∧ z ≤ 1000 ∧ SqB K k H a xs ∧ xs.length ≤ 20000 ∧ (∀ y ∈ xs, ∃ m, Kn K H y m) ∧ ∀ H', Same H H' → Q (.bl (goodB z xs)) H'
theorem scAre : FnScope ["things", "width", "thing"] ["things", "width"] (defScope sAre) := ⟨rfl, rfl, rfl, by decide +kernel, rfl, by decide +kernel, by decide +kernel⟩
theorem ok_are {f fo : Addr} {fd fdo : FuncData} (F : Fun K "_are_worths_of_width" "_are_worths_of_width" sAre f fd) (Do : Df K mg "_is_worth_of_width" fo fdo ["thing", "width"]) (Go : FnOk P w K mg base CX0 3 fo fdo ["thing", "width"] (spWorthOf K)) (ma : mg "all" = none) :
    FnOk P w K mg base CX0 4 f fd ["things", "width"] (spAre K) := by
  refine F.ok scAre (fun vs H Q E h => ?_) (fun cdv A outer s H vs Q E hr h => ?_)
  · obtain ⟨a, z, k, xs, rfl, _⟩ := h
    rfl
  · obtain ⟨a, z, k, xs, rfl, z0, z1, hS, hz, hk, q⟩ := h
    cases k with
    | true =>
      refine ⟨_, pss_one (ps_ret (pe_callB (cr_all rfl) (by rfl) ma (by decide +kernel) (pa_cons (pe_lc (own := [("thing", 2)]) (g := gName 2) (tt := tYes) rfl scAre.nd (pi_list (pv 0)) (blkOk_by (N := ["things", "width", "thing"]) (sc := defScope sAre) (by decide +kernel))
            (fun _ _ _ _ _ => pg_name (i := 2) scAre.nd rfl (Or.inl rfl)) (fun _ _ _ _ _ => pts_nil) (fun _ _ _ _ _ => pe_call Go hr (by rfl) Do.at_ Do.kp Do.bd .nil pass0 (pa_cons (pv 2) (pa_cons (pv 1) pa_nil)))) pa_nil))), ?_⟩
      have hS' : SqL K H a xs := hS
      refine ⟨_, rfl, a, rfl, ⟨xs, hS'⟩, fun D hD => lc_list (K := K) (a := a) (xs := xs) (fun i H' => Same H H' ∧ H' D = some (.lst ((xs.take i).map fun y => V.bl (wholeB y 0 (topW z))))) ⟨same_new hD, upd_same⟩
            (fun i H' _ pv => Same.seq pv.1 hS') (fun i y H' hy pv => ?_) fun H' pv => ?_⟩
      · obtain ⟨m, km⟩ := hk y (List.mem_of_getElem? hy)
        have hi := (List.getElem?_eq_some_iff.mp hy).1
        refine ⟨rfl, _, rfl, _, rfl, y, m, z, rfl, kn_same pv.1 km, z0, z1, _, pv.2, by rw [List.length_map, List.length_take]; exact Nat.lt_of_le_of_lt (Nat.le_trans (Nat.min_le_left _ _) (Nat.le_of_lt hi)) (small20k hz), fun b o e => ?_, ?_⟩
        · rw [upd_ne (ne_of_none e hD)]
          exact pv.1 _ _ e
        · rw [upd_same, List.take_add_one, hy, List.map_append]
          rfl
      · have pv2 : H' D = some (.lst ((xs.map fun y => wholeB y 0 (topW z)).map V.bl)) := by rw [pv.2, List.take_length, List.map_map]; rfl
        exact ⟨D, _, rfl, SqL.of pv2, q _ pv.1⟩
    | false =>
      refine ⟨_, pss_one (ps_ret (pe_callB (cr_all rfl) (by rfl) ma (by decide +kernel) (pa_cons (pe_lc (own := [("thing", 2)]) (g := gName 2) (tt := tYes) rfl scAre.nd (pi_tup (pv 0)) (blkOk_by (N := ["things", "width", "thing"]) (sc := defScope sAre) (by decide +kernel))
            (fun _ _ _ _ _ => pg_name (i := 2) scAre.nd rfl (Or.inl rfl)) (fun _ _ _ _ _ => pts_nil) (fun _ _ _ _ _ => pe_call Go hr (by rfl) Do.at_ Do.kp Do.bd .nil pass0 (pa_cons (pv 2) (pa_cons (pv 1) pa_nil)))) pa_nil))), ?_⟩
      have hS' : SqT K H a xs := hS
      refine ⟨_, rfl, a, rfl, ⟨xs, hS'⟩, fun D hD => lc_tup (K := K) (a := a) (xs := xs) (fun i H' => Same H H' ∧ H' D = some (.lst ((xs.take i).map fun y => V.bl (wholeB y 0 (topW z))))) ⟨same_new hD, upd_same⟩
            (fun i H' _ pv => Same.sqT pv.1 hS') (fun i y H' hy pv => ?_) fun H' pv => ?_⟩
      · obtain ⟨m, km⟩ := hk y (List.mem_of_getElem? hy)
        have hi := (List.getElem?_eq_some_iff.mp hy).1
        refine ⟨rfl, _, rfl, _, rfl, y, m, z, rfl, kn_same pv.1 km, z0, z1, _, pv.2, by rw [List.length_map, List.length_take]; exact Nat.lt_of_le_of_lt (Nat.le_trans (Nat.min_le_left _ _) (Nat.le_of_lt hi)) (small20k hz), fun b o e => ?_, ?_⟩
        · rw [upd_ne (ne_of_none e hD)]
          exact pv.1 _ _ e
        · rw [upd_same, List.take_add_one, hy, List.map_append]
          rfl
      · have pv2 : H' D = some (.lst ((xs.map fun y => wholeB y 0 (topW z)).map V.bl)) := by rw [pv.2, List.take_length, List.map_map]; rfl
        exact ⟨D, _, rfl, SqL.of pv2, q _ pv.1⟩


/-! ### is_worth, of a kind that is one -/
def worthD (d : PyData) : PyData → Bool
  | .int z => wholeD d 0 (topW z)
  | .tuple [.int m, .int z] => match d with
    | .tuple ds => decide ((ds.length : Int) = m) && ds.all fun e => wholeD e 0 (topW z)
    | _ => false
  | _ => false
theorem good_da {H : Hp} {z : Int} : ∀ {xs : List V} {ds : List PyData}, DaAll H xs ds → goodB z xs = ds.all fun e => wholeD e 0 (topW z)
  | _, _, .nil => rfl
  | _, _, .cons h r => by
    have ih := good_da (z := z) r
    unfold goodB at ih ⊢
    rw [List.map_cons, List.all_cons, List.all_cons, ih, h.whole]
    rfl
theorem kind_inv {d : PyData} (h : kindD d = true) : (∃ z, d = .int z ∧ 1 ≤ z ∧ z ≤ 8) ∨ ∃ m z, d = .tuple [.int m, .int z] ∧ 2 ≤ m ∧ m ≤ 4 ∧ 1 ≤ z ∧ z ≤ 8 := by
  unfold kindD at h
  split at h
  · rename_i a b
    obtain ⟨h1, h2⟩ := Bool.and_eq_true_iff.mp h
    cases a with
    | int m =>
      cases b with
      | int z =>
        have a1 : (decide (2 ≤ m) && decide (m ≤ 4)) = true := h1
        have a2 : (decide (1 ≤ z) && decide (z ≤ 8)) = true := h2
        obtain ⟨b1, b2⟩ := Bool.and_eq_true_iff.mp a1
        obtain ⟨b3, b4⟩ := Bool.and_eq_true_iff.mp a2
        exact .inr ⟨m, z, rfl, of_decide_eq_true b1, of_decide_eq_true b2, of_decide_eq_true b3, of_decide_eq_true b4⟩
      | _ => cases h2
    | _ => cases h1
  · rename_i z
    have a2 : (decide (1 ≤ z) && decide (z ≤ 8)) = true := h
    obtain ⟨b3, b4⟩ := Bool.and_eq_true_iff.mp a2
    exact .inl ⟨z, rfl, of_decide_eq_true b3, of_decide_eq_true b4⟩
  · cases h
def spIsWorth : Sp := fun vs H Q _ => ∃ (x k : V) (d e : PyData), vs = [x, k] ∧ Da H x d ∧ Da H k e ∧ kindD e = true ∧ ∀ H', Same H H' → Q (.bl (worthD d e)) H'
theorem scIsWorth : FnScope ["thing", "kind", "many", "width"] ["thing", "kind"] (defScope sIsWorth) := ⟨rfl, rfl, rfl, by decide +kernel, rfl, by decide +kernel, by decide +kernel⟩
theorem ok_isWorth {f fk fo fr : Addr} {fd fdk fdo fdr : FuncData} (F : Fun K "is_worth" "is_worth" sIsWorth f fd) (Dk : Df K mg "is_kind" fk fdk ["thing"]) (Gk : FnOk P w K mg base CX0 4 fk fdk ["thing"] spKind)
    (Do : Df K mg "_is_worth_of_width" fo fdo ["thing", "width"]) (Go : FnOk P w K mg base CX0 3 fo fdo ["thing", "width"] (spWorthOf K)) (Dr : Df K mg "_are_worths_of_width" fr fdr ["things", "width"]) (Gr : FnOk P w K mg base CX0 4 fr fdr ["things", "width"] (spAre K))
    (mi : mg "isinstance" = none) (mt : mg "tuple" = none) (ml : mg "len" = none) : FnOk P w K mg base CX0 5 f fd ["thing", "kind"] spIsWorth := by
  refine F.ok scIsWorth (fun vs H Q E h => ?_) (fun cdv A outer s H vs Q E hr h => ?_)
  · obtain ⟨x, k, d, e, rfl, _⟩ := h
    rfl
  · obtain ⟨x, k, d, e, rfl, da, db, hk, q⟩ := h
    have hr2 := hr.mono (by decide : 3 ≤ 4)
    refine ⟨_, pss_cons (ps_if (pt_not (pt_val (pe_call Gk hr (by rfl) Dk.at_ Dk.kp Dk.bd .nil pass0 (pa_cons (pv 1) pa_nil)))) (pss_one ps_never) pss_nil)
      (pss_cons (ps_if (pt_not (pt_val (pe_callB call_isi (by rfl) mi (by decide +kernel) (pa_cons (pv 1) (pa_cons (pe_bltn (v := .ty "tuple") (by rfl) mt (by decide +kernel) rfl) pa_nil))))) (pss_one (ps_ret (pe_call Go hr2 (by rfl) Do.at_ Do.kp Do.bd .nil pass0 (pa_cons (pv 0) (pa_cons (pv 1) pa_nil))))) pss_nil)
      (pss_cons (ps_asg (pv 1) (pg_tup rfl (pgs_cons (pg_name (i := 2) scIsWorth.nd rfl (Or.inl rfl)) (pgs_cons (pg_name (i := 3) scIsWorth.nd rfl (Or.inl rfl)) pgs_nil))))
      (pss_cons (ps_if (PW.pt (pw_or (pt_not (pt_val (pe_callB call_isi (by rfl) mi (by decide +kernel) (pa_cons (pv 0) (pa_cons (pe_bltn (v := .ty "tuple") (by rfl) mt (by decide +kernel) rfl) pa_nil)))))
          (pw_or1 (pt_cmpR op_ne (pe_callB call_len_seq (by rfl) ml PySem.boot_len (pa_cons (pv 0) pa_nil)) (pv 2) (nomark _))))) (pss_one (ps_ret pe_bl)) pss_nil)
      (pss_one (ps_ret (pe_call Gr hr (by rfl) Dr.at_ Dr.kp Dr.bd .nil pass0 (pa_cons (pv 0) (pa_cons (pv 3) pa_nil)))))))), ?_⟩
    refine ⟨_, rfl, k, e, rfl, db, _, rfl, iteN (by rw [hk]; rfl) ?_⟩
    refine ⟨_, rfl, k, .ty "tuple", _, _, _, rfl, .ty "tuple", db.kn.ty, kit_ty (kit_tup e), _, rfl, ?_⟩
    rcases kind_inv hk with ⟨z, rfl, z1, z8⟩ | ⟨m, z, rfl, m2, m4, z1, z8⟩
    · cases db
      refine iteT ⟨_, rfl, _, rfl, x, _, z, rfl, da.kn, by omega, by omega, ?_⟩
      rw [da.whole]
      exact q _ (Same.refl _)
    · obtain ⟨kb, ks, rfl, hkb, -, rk⟩ := db.tup_inv
      cases rk with
      | cons r1 rk =>
        cases rk with
        | cons r2 rk =>
          cases rk
          cases r1
          cases r2
          refine iteF ⟨_, rfl, kb, _, rfl, SqT.of hkb, rfl, _, _, rfl, _, _, rfl, rfl, ?_⟩
          refine ⟨_, rfl, x, .ty "tuple", _, _, _, rfl, .ty "tuple", da.kn.ty, kit_ty (kit_tup d), _, rfl, ?_⟩
          cases da with
          | @tup a xs ds h l r =>
            refine iteF ?_
            refine ⟨_, rfl, a, xs, rfl, .inr (SqT.of h), _, rfl, rfl, _, rfl, ?_⟩
            have w0 : worthD (.tuple ds) (.tuple [.int m, .int z]) = (decide ((ds.length : Int) = m) && ds.all fun e => wholeD e 0 (topW z)) := rfl
            by_cases e2 : (xs.length : Int) = m
            · refine iteN (by rw [e2, decide_eq_true rfl]; rfl) ?_
              refine ⟨_, rfl, _, rfl, a, z, false, xs, rfl, by omega, by omega, SqT.of h, l, r.kn, fun H' s' => ?_⟩
              rw [good_da r]
              rw [w0, ← r.len, decide_eq_true e2, Bool.true_and] at q
              exact q _ s'
            · have nl : ¬ V.int ((xs.length : Nat) : Int) = V.int m := fun z => e2 (V.int.inj z)
              refine iteB (by rw [decide_eq_false nl]; rfl) ?_
              rw [w0, ← r.len, decide_eq_false e2, Bool.false_and] at q
              exact q _ (Same.refl _)
          | _ => exact iteT (iteT (q _ (Same.refl _)))
/-! ### is_node_name -/
def spNode : Sp := fun vs H Q _ => ∃ (x : V) (d : PyData), vs = [x] ∧ Da H x d ∧ ∀ H', Same H H' → Q (.bl (nodeD d)) H'
theorem scNode : FnScope ["thing", "names", "name"] ["thing"] (defScope sNodeName) := ⟨rfl, rfl, rfl, by decide +kernel, rfl, by decide +kernel, by decide +kernel⟩
theorem ok_node {f fn : Addr} {fd fdn : FuncData} (F : Fun K "is_node_name" "is_node_name" sNodeName f fd) (Dn : Df K mg "is_name" fn fdn ["thing"]) (Gn : FnOk P w K mg base CX0 2 fn fdn ["thing"] spName) (mi : mg "isinstance" = none) (ms : mg "str" = none) (ml : mg "len" = none) (ma : mg "all" = none) :
    FnOk P w K mg base CX0 3 f fd ["thing"] spNode := by
  refine F.ok scNode (fun vs H Q E h => ?_) (fun cdv A outer s H vs Q E hr h => ?_)
  · obtain ⟨x, d, rfl, _⟩ := h
    rfl
  · obtain ⟨x, d, rfl, da, q⟩ := h
    refine ⟨_, pss_cons (ps_if (pt_not (pt_val (pe_callB call_isi (by rfl) mi (by decide +kernel) (pa_cons (pv 0) (pa_cons (pe_bltn (v := .ty "str") (by rfl) ms (by decide +kernel) rfl) pa_nil))))) (pss_one (ps_ret pe_bl)) pss_nil)
      (pss_cons (ps_set (i := 1) scNode.nd rfl (Or.inl rfl) (pe_split (pv 0) pe_str))
      (pss_one (ps_ret (pe_and (pe_cmpR op_le (pe_callB call_len_seq (by rfl) ml PySem.boot_len (pa_cons (pv 1) pa_nil)) pe_int (nomark _)) (pe_one (pe_callB (cr_all rfl) (by rfl) ma (by decide +kernel) (pa_cons (pe_lc (own := [("name", 2)]) (g := gName 2) (tt := tYes) rfl scNode.nd (pi_list (pv 1))
        (blkOk_by (N := ["thing", "names", "name"]) (sc := defScope sNodeName) (by decide +kernel)) (fun _ _ _ _ _ => pg_name (i := 2) scNode.nd rfl (Or.inl rfl)) (fun _ _ _ _ _ => pts_nil) (fun _ _ _ _ _ => pe_call Gn hr (by rfl) Dn.at_ Dn.kp Dn.bd .nil pass0 (pa_cons (pv 2) pa_nil))) pa_nil))))))), ?_⟩
    refine ⟨_, rfl, x, .ty "str", _, _, _, rfl, .ty "str", da.kn.ty, kit_ty (kit_str d), _, rfl, ?_⟩
    cases da with
    | str z hz =>
      refine iteF ⟨_, rfl, ⟨_, rfl⟩, z, ".", rfl, rfl, by decide +kernel, Nat.le_trans (Nat.add_le_add_right hz 2) (by decide), fun p hp => ?_⟩
      have s1 : Same H (upd H p (.lst ((Txt.split z ".").map V.str))) := same_new hp
      refine ⟨_, rfl, p, _, rfl, .inl (SqL.of upd_same), _, _, rfl, rfl, _, rfl, ?_⟩
      have nd : nodeD (.str z) = (decide ((Txt.split z ".").length ≤ 2) && (Txt.split z ".").all nameS) := rfl
      by_cases e : (Txt.split z ".").length ≤ 2
      · refine iteB (decide_eq_true (by rw [List.length_map]; omega)) ?_
        rw [nd, decide_eq_true e, Bool.true_and] at q
        refine ⟨_, rfl, p, rfl, ⟨_, SqL.of upd_same⟩, fun D hD => lc_list (K := K) (a := p) (xs := (Txt.split z ".").map V.str) (fun i H' => Same (upd H p (.lst ((Txt.split z ".").map V.str))) H' ∧ H' D = some (.lst ((((Txt.split z ".").take i).map nameS).map V.bl))) ⟨same_new hD, upd_same⟩
          (fun i H' _ pv => SqL.of (pv.1 _ _ upd_same)) (fun i y H' hy pv => ?_) fun H' pv => ?_⟩
        · rw [List.getElem?_map] at hy
          cases hj : (Txt.split z ".")[i]? with
          | none => rw [hj] at hy; cases hy
          | some b =>
            rw [hj] at hy
            cases hy
            have hi := (List.getElem?_eq_some_iff.mp hj).1
            have sh := split_short (List.mem_of_getElem? hj)
            refine ⟨rfl, _, rfl, .str b, .str b, rfl, .str b (Nat.le_trans sh hz), fun H'' s'' => ⟨_, s'' _ _ pv.2, ?_, fun c o h => ?_, ?_⟩⟩
            · rw [List.length_map, List.length_map, List.length_take]
              exact small20k (by omega)
            · rw [upd_ne (ne_of_none h hD)]; exact s'' _ _ (pv.1 _ _ h)
            · rw [upd_same, List.take_add_one, hj, List.map_append, List.map_append]
              rfl
        · rw [List.length_map, List.take_length] at pv
          refine ⟨D, _, rfl, SqL.of pv.2, ?_⟩
          have e2 : (Txt.split z ".").all nameS = ((Txt.split z ".").map nameS).all id := by rw [List.all_map]; rfl
          rw [e2] at q
          exact q _ (s1.trans pv.1)
      · refine iteN (decide_eq_false (by rw [List.length_map]; omega)) ?_
        rw [nd, decide_eq_false e, Bool.false_and] at q
        exact q _ s1
    | _ => exact iteT (q _ (Same.refl _))
end
end K7
end Bf

namespace Bf
open PySem PySem.Spec PyProof.Rows L2
/-- a table of tuples that are written in the program -/
inductive FTab (K : PySem.W.Frag) : List (Str × List V) → List (Str × V) → Prop
  | nil : FTab K [] []
  | cons {k : Str} {xs : List V} {a : Addr} {t : List (Str × List V)} {tb : List (Str × V)} (h : ∀ H, SqT K H a xs) (r : FTab K t tb) : FTab K ((k, xs) :: t) ((k, .ref a) :: tb)
theorem FTab.none {K : PySem.W.Frag} {z : Str} : ∀ {t : List (Str × List V)} {tb : List (Str × V)}, FTab K t tb → lk z t = none → lk z tb = none
  | _, _, .nil, _ => rfl
  | _, _, .cons (k := k) h r, e => by
    unfold lk at e ⊢
    by_cases c : (k == z) = true
    · rw [if_pos c] at e; cases e
    · rw [if_neg c] at e ⊢
      exact FTab.none r e
theorem FTab.some {K : PySem.W.Frag} {z : Str} {xs : List V} : ∀ {t : List (Str × List V)} {tb : List (Str × V)}, FTab K t tb → lk z t = some xs → ∃ a, lk z tb = some (.ref a) ∧ ∀ H, SqT K H a xs
  | _, _, .nil, e => by cases e
  | _, _, .cons (k := k) (a := a) h r, e => by
    unfold lk at e ⊢
    by_cases c : (k == z) = true
    · rw [if_pos c] at e ⊢
      cases e
      exact ⟨a, rfl, h⟩
    · rw [if_neg c] at e ⊢
      exact FTab.some r e
namespace K7
def FM : List (Str × List Str) := [("lit", ["kind", "worth"]), ("name", ["name"]), ("last", ["name"]), ("first", ["term", "term"]), ("not", ["term"]), ("and", ["term", "term"]), ("or", ["term", "term"]), ("xor", ["term", "term"]), ("add", ["term", "term"]), ("sub", ["term", "term"]),
  ("less", ["term", "term"]), ("same", ["term", "term"]), ("wide", ["width", "term"]), ("bit", ["bit", "term"]), ("pick", ["term", "term", "term"]), ("when", ["term", "name", "truth"]), ("merge", ["name", "term", "term"]), ("row", ["parts"]), ("at", ["place", "term"]), ("call", ["node", "args", "every"]),
  ("map", ["node", "rows", "every"]), ("fold", ["node", "term", "rows", "every"]), ("pairs", ["node", "term", "every"])]
def ST : List (Str × (Int × Int)) := [("parts", 2, 4), ("args", 0, 6), ("rows", 1, 4)]
def CL : List Str := ["call", "map", "fold", "pairs"]
def FMv : List (Str × List V) := FM.map fun p => (p.1, p.2.map V.str)
def STv : List (Str × List V) := ST.map fun p => (p.1, [.int p.2.1, .int p.2.2])
theorem lk_map {α β : Type} (f : α → β) (z : Str) : ∀ l : List (Str × α), lk z (l.map fun p => (p.1, f p.2)) = (lk z l).map f
  | [] => rfl
  | (k, v) :: r => by
    show lk z ((k, f v) :: r.map fun p => (p.1, f p.2)) = _
    unfold lk
    split
    · rfl
    · exact lk_map f z r
/-- the tables of the program -/
structure Tbs (K : PySem.W.Frag) (w : World) (mg : Str → Option Value) (aF aS aC : Addr) : Prop where
  gF : mg "FORMS" = some (.ref aF)
  gS : mg "SLOTS_OF_TERMS" = some (.ref aS)
  gC : mg "CALLS" = some (.ref aC)
  tF : ∃ tb, Dct K w aF tb ∧ FTab K FMv tb
  tS : ∃ tb, Dct K w aS tb ∧ FTab K STv tb
  sC : ∀ H, SqT K H aC (CL.map V.str)
section
variable {P : Program} {w : World} {K : PySem.W.Frag} {mg : Str → Option Value} {base : Heap} {aF aS aC : Addr}
/-! ### _fits -/
def rangeD (lo hi : Int) : PyData → Bool
  | .tuple ds => decide (lo ≤ (ds.length : Int)) && decide ((ds.length : Int) ≤ hi)
  | _ => false
def fitsD (slot : Str) (d : PyData) : Bool :=
  match lk slot ST with
  | some (lo, hi) => rangeD lo hi d
  | none =>
    if decide (V.str slot = V.str "kind") = true then kindD d else if decide (V.str slot = V.str "name") = true then nameD d else if decide (V.str slot = V.str "node") = true then nodeD d else
    if decide (V.str slot = V.str "every") = true then (match d with | .none => true | d => nameD d) else if decide (V.str slot = V.str "width") = true then wholeD d 1 8 else
    if decide (V.str slot = V.str "truth") = true then wholeD d 0 1 else if decide (V.str slot = V.str "bit") = true then wholeD d 0 7 else if decide (V.str slot = V.str "place") = true then wholeD d 0 3 else true
def spFits : Sp := fun vs H Q _ => ∃ (slot : Str) (x : V) (d : PyData), vs = [.str slot, x] ∧ Da H x d ∧ ∀ H', Same H H' → Q (.bl (fitsD slot d)) H'
theorem scFits : FnScope ["slot", "thing", "fewest", "most"] ["slot", "thing"] (defScope sFits) := ⟨rfl, rfl, rfl, by decide +kernel, rfl, by decide +kernel, by decide +kernel⟩
/-- the small defs that are called -/
structure Sml (P : Program) (w : World) (K : PySem.W.Frag) (mg : Str → Option Value) (base : Heap) (fh fw ft fn fk fd_ : Addr) (dh dw dt dn dk dd : FuncData) : Prop where
  Dh : Df K mg "is_whole" fh dh ["thing", "low", "high"]
  Gh : FnOk P w K mg base CX0 2 fh dh ["thing", "low", "high"] (spWhole K)
  Dw : Df K mg "is_width" fw dw ["thing"]
  Gw : FnOk P w K mg base CX0 3 fw dw ["thing"] (spOne K 1 8)
  Dt : Df K mg "is_truth" ft dt ["thing"]
  Gt : FnOk P w K mg base CX0 3 ft dt ["thing"] (spOne K 0 1)
  Dn : Df K mg "is_name" fn dn ["thing"]
  Gn : FnOk P w K mg base CX0 2 fn dn ["thing"] spName
  Dk : Df K mg "is_kind" fk dk ["thing"]
  Gk : FnOk P w K mg base CX0 4 fk dk ["thing"] spKind
  Dd : Df K mg "is_node_name" fd_ dd ["thing"]
  Gd : FnOk P w K mg base CX0 3 fd_ dd ["thing"] spNode
  mi : mg "isinstance" = none
  mt : mg "tuple" = none
  ms : mg "str" = none
  ml : mg "len" = none
  ma : mg "all" = none
  mz : mg "zip" = none
  mL : mg "list" = none
theorem ok_fits {f fh fw ft fn fk fd_ : Addr} {fd dh dw dt dn dk dd : FuncData} (F : Fun K "_fits" "_fits" sFits f fd) (T : Tbs K w mg aF aS aC) (S : Sml P w K mg base fh fw ft fn fk fd_ dh dw dt dn dk dd) : FnOk P w K mg base CX0 5 f fd ["slot", "thing"] spFits := by
  obtain ⟨tb, DS, FS⟩ := T.tS
  refine F.ok scFits (fun vs H Q E h => ?_) (fun cdv A outer s H vs Q E hr h => ?_)
  · obtain ⟨slot, x, d, rfl, _⟩ := h
    rfl
  · obtain ⟨slot, x, d, rfl, da, q⟩ := h
    have hr1 := hr.mono (by decide : 2 ≤ 4)
    have hr2 := hr.mono (by decide : 3 ≤ 4)
    refine ⟨_, pss_cons (ps_if (pt_cmpR (op_in_dct DS) (pv 0) (pe_glob (v := .ref aS) (by rfl) T.gS rfl) (by rfl))
        (pss_cons (ps_asg (pe_ix (ix_dct DS) (pe_glob (v := .ref aS) (by rfl) T.gS rfl) (pv 0) (fun _ _ => rfl)) (pg_tup rfl (pgs_cons (pg_name (i := 2) scFits.nd rfl (Or.inl rfl)) (pgs_cons (pg_name (i := 3) scFits.nd rfl (Or.inl rfl)) pgs_nil))))
        (pss_one (ps_ret (pe_and (pe_callB call_isi (by rfl) S.mi (by decide +kernel) (pa_cons (pv 1) (pa_cons (pe_bltn (v := .ty "tuple") (by rfl) S.mt (by decide +kernel) rfl) pa_nil))) (pe_one (pe_chain op_le op_le (pv 2) (pe_callB call_len_seq (by rfl) S.ml PySem.boot_len (pa_cons (pv 1) pa_nil)) (pv 3))))))) pss_nil)
      (pss_cons (ps_if (pt_cmpR op_eq (pv 0) pe_str (nomark _)) (pss_one (ps_ret (pe_call S.Gk hr (by rfl) S.Dk.at_ S.Dk.kp S.Dk.bd .nil pass0 (pa_cons (pv 1) pa_nil)))) pss_nil)
      (pss_cons (ps_if (pt_cmpR op_eq (pv 0) pe_str (nomark _)) (pss_one (ps_ret (pe_call S.Gn hr1 (by rfl) S.Dn.at_ S.Dn.kp S.Dn.bd .nil pass0 (pa_cons (pv 1) pa_nil)))) pss_nil)
      (pss_cons (ps_if (pt_cmpR op_eq (pv 0) pe_str (nomark _)) (pss_one (ps_ret (pe_call S.Gd hr2 (by rfl) S.Dd.at_ S.Dd.kp S.Dd.bd .nil pass0 (pa_cons (pv 1) pa_nil)))) pss_nil)
      (pss_cons (ps_if (pt_cmpR op_eq (pv 0) pe_str (nomark _)) (pss_one (ps_ret (pe_or (pe_cmpR op_isN (pv 1) pe_non (nomark _)) (pe_one (pe_call S.Gn hr1 (by rfl) S.Dn.at_ S.Dn.kp S.Dn.bd .nil pass0 (pa_cons (pv 1) pa_nil)))))) pss_nil)
      (pss_cons (ps_if (pt_cmpR op_eq (pv 0) pe_str (nomark _)) (pss_one (ps_ret (pe_call S.Gw hr2 (by rfl) S.Dw.at_ S.Dw.kp S.Dw.bd .nil pass0 (pa_cons (pv 1) pa_nil)))) pss_nil)
      (pss_cons (ps_if (pt_cmpR op_eq (pv 0) pe_str (nomark _)) (pss_one (ps_ret (pe_call S.Gt hr2 (by rfl) S.Dt.at_ S.Dt.kp S.Dt.bd .nil pass0 (pa_cons (pv 1) pa_nil)))) pss_nil)
      (pss_cons (ps_if (pt_cmpR op_eq (pv 0) pe_str (nomark _)) (pss_one (ps_ret (pe_call S.Gh hr1 (by rfl) S.Dh.at_ S.Dh.kp S.Dh.bd .nil pass0 (pa_cons (pv 1) (pa_cons pe_int (pa_cons pe_int pa_nil)))))) pss_nil)
      (pss_cons (ps_if (pt_cmpR op_eq (pv 0) pe_str (nomark _)) (pss_one (ps_ret (pe_call S.Gh hr1 (by rfl) S.Dh.at_ S.Dh.kp S.Dh.bd .nil pass0 (pa_cons (pv 1) (pa_cons pe_int (pa_cons pe_int pa_nil)))))) pss_nil)
      (pss_one (ps_ret pe_bl)))))))))), ?_⟩
    have q0 := q H (Same.refl H)
    unfold fitsD at q q0
    have eS : lk slot STv = (lk slot ST).map fun p => [.int p.1, .int p.2] := lk_map (fun p : Int × Int => [V.int p.1, V.int p.2]) slot ST
    cases e : lk slot ST with
    | some p =>
      obtain ⟨lo, hi⟩ := p
      rw [e] at eS q q0
      obtain ⟨a, la, sa⟩ := FS.some eS
      refine ⟨_, rfl, slot, rfl, rfl, _, rfl, iteB (by rw [la]; rfl) ?_⟩
      refine ⟨_, rfl, slot, .ref a, rfl, rfl, la, a, _, rfl, sa _, rfl, _, _, rfl, _, _, rfl, rfl, ?_⟩
      refine ⟨_, rfl, x, .ty "tuple", _, _, _, rfl, .ty "tuple", da.kn.ty, kit_ty (kit_tup d), _, rfl, ?_⟩
      cases da with
      | @tup b xs ds h l r =>
        refine iteT ?_
        have q1 : Q (.bl (decide (lo ≤ (ds.length : Int)) && decide ((ds.length : Int) ≤ hi))) H := q0
        rw [← r.len] at q1
        refine ⟨_, rfl, _, rfl, b, xs, rfl, .inr (SqT.of h), _, _, rfl, rfl, _, rfl, ite2 (fun h1 => ⟨_, rfl, _, _, rfl, rfl, ?_⟩) (fun h1 => ?_)⟩
        · rw [h1, Bool.true_and] at q1
          exact q1
        · rw [Bool.eq_false_iff.mpr h1, Bool.false_and] at q1
          exact q1
      | _ => exact iteF q0
    | none =>
      rw [e] at eS q q0
      refine ⟨_, rfl, slot, rfl, rfl, _, rfl, iteN (by rw [FS.none eS]; rfl) ?_⟩
      dsimp only at q q0
      refine ⟨_, rfl, rfl, _, rfl, ite2 (fun h => ?_) (fun h => ?_)⟩
      · rw [if_pos h] at q0
        exact ⟨_, rfl, x, d, rfl, da, q0⟩
      rw [if_neg h] at q q0
      refine ⟨_, rfl, rfl, _, rfl, ite2 (fun h => ?_) (fun h => ?_)⟩
      · rw [if_pos h] at q
        exact ⟨_, rfl, x, d, rfl, da, q⟩
      rw [if_neg h] at q q0
      refine ⟨_, rfl, rfl, _, rfl, ite2 (fun h => ?_) (fun h => ?_)⟩
      · rw [if_pos h] at q
        exact ⟨_, rfl, x, d, rfl, da, q⟩
      rw [if_neg h] at q q0
      refine ⟨_, rfl, rfl, _, rfl, ite2 (fun h => ?_) (fun h => ?_)⟩
      · rw [if_pos h] at q q0
        refine ⟨_, rfl, rfl, _, rfl, ?_⟩
        cases da with
        | non => exact iteT q0
        | bl c => exact iteF ⟨_, rfl, _, _, rfl, .bl c, q⟩
        | int i => exact iteF ⟨_, rfl, _, _, rfl, .int i, q⟩
        | str z hz => exact iteF ⟨_, rfl, _, _, rfl, .str z hz, q⟩
        | lst h l r => exact iteF ⟨_, rfl, _, _, rfl, .lst h l r, q⟩
        | tup h l r => exact iteF ⟨_, rfl, _, _, rfl, .tup h l r, q⟩
        | emp h => exact iteF ⟨_, rfl, _, _, rfl, .emp h, q⟩
      rw [if_neg h] at q q0
      refine ⟨_, rfl, rfl, _, rfl, ite2 (fun h => ?_) (fun h => ?_)⟩
      · rw [if_pos h, ← da.whole] at q0
        exact ⟨_, rfl, x, _, rfl, da.kn, q0⟩
      rw [if_neg h] at q q0
      refine ⟨_, rfl, rfl, _, rfl, ite2 (fun h => ?_) (fun h => ?_)⟩
      · rw [if_pos h, ← da.whole] at q0
        exact ⟨_, rfl, x, _, rfl, da.kn, q0⟩
      rw [if_neg h] at q q0
      refine ⟨_, rfl, rfl, _, rfl, ite2 (fun h => ?_) (fun h => ?_)⟩
      · rw [if_pos h, ← da.whole] at q0
        exact ⟨_, rfl, x, _, 0, 7, rfl, da.kn, q0⟩
      rw [if_neg h] at q q0
      refine ⟨_, rfl, rfl, _, rfl, ite2 (fun h => ?_) (fun h => ?_)⟩
      · rw [if_pos h, ← da.whole] at q0
        exact ⟨_, rfl, x, _, 0, 3, rfl, da.kn, q0⟩
      rw [if_neg h] at q0
      exact q0
end
end K7
end Bf

namespace Bf
open PySem PySem.Spec PyProof.Rows L2
theorem cut_from {xs : List V} {k : Nat} : cutV xs (some (k : Int)) none = xs.drop k := by
  unfold cutV
  rw [HT.sIx_none, HT.sIx_nat]
  by_cases h : k ≤ xs.length
  · rw [Nat.min_eq_left h]
    have e : xs.length - k = (xs.drop k).length := by rw [List.length_drop]
    rw [e, List.take_length]
  · rw [Nat.min_eq_right (by omega), Nat.sub_self, List.take_zero, List.drop_eq_nil_of_le (by omega)]
theorem not_whole {xs : List V} {k : Nat} (hk : 0 < k) (h : 0 < xs.length) : ¬ (HT.sIx xs.length 0 (some (k : Int)) = 0 ∧ HT.sIx xs.length xs.length none = xs.length) := by
  rw [HT.sIx_nat]
  omega
theorem zw_get {α β γ : Type} (f : α → β → γ) : ∀ {as : List α} {bs : List β} {i : Nat} {a : α} {b : β}, as[i]? = some a → bs[i]? = some b → (List.zipWith f as bs)[i]? = some (f a b) := by
  intro as bs i a b h1 h2
  rw [List.getElem?_zipWith, h1, h2]
namespace K7
def litD : List PyData → Bool
  | k :: x :: _ => worthD x k
  | _ => false
def formedD : PyData → Bool
  | .tuple (.str w :: rest) => match lk w FM with
    | some ss => decide (rest.length = ss.length) && (List.zipWith fitsD ss rest).all id && (!decide (V.str w = V.str "lit") || litD rest)
    | none => false
  | _ => false
def callS (c : Str) : Bool := inV (.str c) (CL.map V.str)
def oneD (slot : Str) (d : PyData) : List PyData := if decide (V.str slot = V.str "term") = true then [d] else match lk slot ST with
  | some _ => match d with
    | .tuple ds => ds
    | _ => []
  | none => []
def withinD : PyData → List PyData
  | .tuple (.str w :: rest) => match lk w FM with
    | some ss => (List.zipWith oneD ss rest).flatten
    | none => []
  | _ => []
/-- what is formed, taken apart -/
theorem formed_inv {d : PyData} (h : formedD d = true) : ∃ c rest ss, d = .tuple (.str c :: rest) ∧ lk c FM = some ss ∧ rest.length = ss.length ∧ (List.zipWith fitsD ss rest).all id = true ∧ (!decide (V.str c = V.str "lit") || litD rest) = true := by
  unfold formedD at h
  split at h
  · rename_i c rest
    cases e : lk c FM with
    | none => rw [e] at h; cases h
    | some ss =>
      rw [e] at h
      obtain ⟨h1, h3⟩ := Bool.and_eq_true_iff.mp h
      obtain ⟨h1, h2⟩ := Bool.and_eq_true_iff.mp h1
      exact ⟨c, rest, ss, rfl, e, of_decide_eq_true h1, h2, h3⟩
  · cases h
theorem formed_eq {c : Str} {rest : List PyData} {ss : List Str} (e : lk c FM = some ss) : formedD (.tuple (.str c :: rest)) = (decide (rest.length = ss.length) && (List.zipWith fitsD ss rest).all id && (!decide (V.str c = V.str "lit") || litD rest)) := by
  show (match lk c FM with | some ss => _ | none => false) = _
  rw [e]
theorem within_eq {c : Str} {rest : List PyData} {ss : List Str} (e : lk c FM = some ss) : withinD (.tuple (.str c :: rest)) = (List.zipWith oneD ss rest).flatten := by
  show (match lk c FM with | some ss => (List.zipWith oneD ss rest).flatten | none => []) = _
  rw [e]
theorem fm_len {c : Str} {ss : List Str} (e : lk c FM = some ss) : 1 ≤ ss.length ∧ ss.length ≤ 4 := by
  have all : ∀ p ∈ FM, 1 ≤ p.2.length ∧ p.2.length ≤ 4 := by decide +kernel
  have key : ∀ (l : List (Str × List Str)), lk c l = some ss → ∃ p ∈ l, p.2 = ss := by
    intro l
    induction l with
    | nil => intro h; cases h
    | cons p r ih =>
      obtain ⟨k, v⟩ := p
      intro h
      unfold lk at h
      split at h
      · cases h; exact ⟨_, List.mem_cons_self, rfl⟩
      · obtain ⟨p, m, e⟩ := ih h
        exact ⟨p, List.mem_cons_of_mem _ m, e⟩
  obtain ⟨p, m, rfl⟩ := key FM e
  exact all p m
section
variable {P : Program} {w : World} {K : PySem.W.Frag} {mg : Str → Option Value} {base : Heap} {aF aS aC : Addr}
def spFormed : Sp := fun vs H Q _ => ∃ (x : V) (d : PyData), vs = [x] ∧ Da H x d ∧ ∀ H', Same H H' → Q (.bl (formedD d)) H'
theorem scFormed : FnScope ["thing", "word", "slots", "slot", "held"] ["thing"] (defScope sFormed) := ⟨rfl, rfl, rfl, by decide +kernel, rfl, by decide +kernel, by decide +kernel⟩
theorem ok_formed {f fh fw ft fn fk fd_ ff fo : Addr} {fd dh dw dt dn dk dd df do_ : FuncData} (F : Fun K "_is_formed" "_is_formed" sFormed f fd) (T : Tbs K w mg aF aS aC) (S : Sml P w K mg base fh fw ft fn fk fd_ dh dw dt dn dk dd)
    (Df_ : Df K mg "_fits" ff df ["slot", "thing"]) (Gf : FnOk P w K mg base CX0 5 ff df ["slot", "thing"] spFits) (Do : Df K mg "is_worth" fo do_ ["thing", "kind"]) (Go : FnOk P w K mg base CX0 5 fo do_ ["thing", "kind"] spIsWorth) : FnOk P w K mg base CX0 6 f fd ["thing"] spFormed := by
  obtain ⟨tb, DF, FF⟩ := T.tF
  refine F.ok scFormed (fun vs H Q E h => ?_) (fun cdv A outer s H vs Q E hr h => ?_)
  · obtain ⟨x, d, rfl, _⟩ := h
    rfl
  · obtain ⟨x, d, rfl, da, q⟩ := h
    refine ⟨_, pss_cons (ps_if (PW.pt (pw_or (pt_not (pt_val (pe_callB call_isi (by rfl) S.mi (by decide +kernel) (pa_cons (pv 0) (pa_cons (pe_bltn (v := .ty "tuple") (by rfl) S.mt (by decide +kernel) rfl) pa_nil)))))
          (pw_or1 (pt_cmpR op_eq (pe_callB call_len_seq (by rfl) S.ml PySem.boot_len (pa_cons (pv 0) pa_nil)) pe_int (nomark _))))) (pss_one (ps_ret pe_bl)) pss_nil)
      (pss_cons (ps_set (i := 1) scFormed.nd rfl (Or.inl rfl) (pe_ix ix_tup (pv 0) pe_int (fun _ _ => rfl)))
      (pss_cons (ps_if (PW.pt (pw_or (pt_not (pt_val (pe_callB call_isi (by rfl) S.mi (by decide +kernel) (pa_cons (pv 1) (pa_cons (pe_bltn (v := .ty "str") (by rfl) S.ms (by decide +kernel) rfl) pa_nil)))))
          (pw_or1 (pt_cmpR (op_notIn_dct DF) (pv 1) (pe_glob (v := .ref aF) (by rfl) T.gF rfl) (by rfl))))) (pss_one (ps_ret pe_bl)) pss_nil)
      (pss_cons (ps_set (i := 2) scFormed.nd rfl (Or.inl rfl) (pe_ix (ix_dct DF) (pe_glob (v := .ref aF) (by rfl) T.gF rfl) (pv 1) (fun _ _ => rfl)))
      (pss_cons (ps_if (pt_cmpR op_ne (pe_callB call_len_seq (by rfl) S.ml PySem.boot_len (pa_cons (pv 0) pa_nil)) (pe_op op_add (pe_callB call_len_seq (by rfl) S.ml PySem.boot_len (pa_cons (pv 2) pa_nil)) pe_int) (nomark _)) (pss_one (ps_ret pe_bl)) pss_nil)
      (pss_cons (ps_if (pt_not (pt_val (pe_callB (cr_all rfl) (by rfl) S.ma (by decide +kernel) (pa_cons (pe_lc (own := [("slot", 3), ("held", 4)]) (g := gTup K 2 (gCons (gName 3) (gCons (gName 4) gNil))) (tt := tYes) rfl scFormed.nd (RZ.pi_zipA (by rfl) S.mz (pa_cons (pv 2) (pa_cons (pe_slice sl_tupA (pv 0) (po_some pe_int) po_none) pa_nil)))
          (blkOk_by (N := ["thing", "word", "slots", "slot", "held"]) (sc := defScope sFormed) (by decide +kernel)) (fun _ _ _ _ _ => pg_tup rfl (pgs_cons (pg_name (i := 3) scFormed.nd rfl (Or.inl rfl)) (pgs_cons (pg_name (i := 4) scFormed.nd rfl (Or.inl rfl)) pgs_nil))) (fun _ _ _ _ _ => pts_nil)
          (fun _ _ _ _ _ => pe_call Gf hr (by rfl) Df_.at_ Df_.kp Df_.bd .nil pass0 (pa_cons (pv 3) (pa_cons (pv 4) pa_nil)))) pa_nil)))) (pss_one (ps_ret pe_bl)) pss_nil)
      (pss_one (ps_ret (pe_or (pe_cmpR op_ne (pv 1) pe_str (nomark _)) (pe_one (pe_call Go hr (by rfl) Do.at_ Do.kp Do.bd .nil pass0 (pa_cons (pe_ix ix_tup (pv 0) pe_int (fun _ _ => rfl)) (pa_cons (pe_ix ix_tup (pv 0) pe_int (fun _ _ => rfl)) pa_nil)))))))))))), ?_⟩
    refine ⟨_, rfl, x, .ty "tuple", _, _, _, rfl, .ty "tuple", da.kn.ty, kit_ty (kit_tup d), _, rfl, ?_⟩
    have q0 := q H (Same.refl H)
    cases da with
    | @tup a xs ds h l r =>
      refine iteF ⟨_, rfl, a, xs, rfl, .inr (SqT.of h), rfl, _, rfl, ?_⟩
      cases r with
      | nil => exact iteB (by rfl) q0
      | @cons v vs d1 rest hv rv =>
        have nz : ¬ V.int (((v :: vs).length : Nat) : Int) = V.int 0 := fun z => by have := V.int.inj z; rw [List.length_cons] at this; omega
        refine iteN (decide_eq_false nz) ?_
        refine ⟨_, rfl, a, _, ((0 : Nat) : Int), v, rfl, rfl, SqT.of h, atI_nat rfl, ?_⟩
        refine ⟨_, rfl, v, .ty "str", _, _, _, rfl, .ty "str", hv.kn.ty, kit_ty (kit_str d1), _, rfl, ?_⟩
        cases hv with
        | str c hc =>
          refine iteF ⟨_, rfl, c, rfl, rfl, _, rfl, ?_⟩
          have eF : lk c FMv = (lk c FM).map fun p => p.map V.str := lk_map (fun p : List Str => p.map V.str) c FM
          cases e : lk c FM with
          | none =>
            rw [e] at eF
            refine iteB (by rw [FF.none eF]; rfl) ?_
            have e0 : formedD (.tuple (.str c :: rest)) = false := by
              show (match lk c FM with | some ss => _ | none => false) = _
              rw [e]
            rw [e0] at q0
            exact q0
          | some ss =>
            rw [e] at eF
            obtain ⟨b, lb, sb⟩ := FF.some eF
            rw [formed_eq e] at q q0
            refine iteN (by rw [lb]; rfl) ?_
            refine ⟨_, rfl, c, .ref b, rfl, rfl, lb, ?_⟩
            refine ⟨_, rfl, a, _, rfl, .inr (SqT.of h), _, rfl, b, _, rfl, .inr (sb _), _, _, rfl, rfl, rfl, _, rfl, ?_⟩
            have lv := rv.len
            by_cases hl : rest.length = ss.length
            · rw [decide_eq_true hl, Bool.true_and] at q q0
              refine iteN (by rw [decide_eq_true (show V.int (((V.str c :: vs).length : Nat) : Int) = V.int (((ss.map V.str).length : Nat) + 1) by rw [List.length_cons, List.length_map, lv, hl]; rfl)]; rfl) ?_
              refine ⟨_, rfl, _, rfl, 1, rfl, a, _, rfl, SqT.of h, (fun z => absurd z (not_whole (k := 1) (by decide) (by simp))), fun _ t ht => ?_⟩
              have ec : cutV (V.str c :: vs) (some (1 : Int)) none = vs := cut_from (k := 1)
              rw [ec]
              have s1 : Same H (upd H t (.tup vs)) := same_new ht
              have rv1 := rv.same s1
              refine ⟨b, t, ss.map V.str, vs, rfl, .inr ⟨sb _, SqT.of upd_same, fun D hD => ?_⟩⟩
              refine lc_itzT (K := K) (a := b) (b := t) (xs := ss.map V.str) (ys := vs) (by rw [List.length_map, lv, hl]) (fun i H' => Same (upd H t (.tup vs)) H' ∧ H' D = some (.lst (((List.zipWith fitsD ss rest).take i).map V.bl))) ⟨same_new hD, upd_same⟩
                (fun i H' _ pv => ⟨sb _, SqT.of (pv.1 _ _ upd_same)⟩) (fun i x y H' T' hx hy pv hT => ?_) fun H' pv => ?_
              · rw [List.getElem?_map] at hx
                cases hj : ss[i]? with
                | none => rw [hj] at hx; cases hx
                | some sl =>
                  rw [hj] at hx
                  cases hx
                  obtain ⟨dy, hdy, day⟩ := (rv1.same pv.1).get hy
                  have nTD : T' ≠ D := fun e => by rw [e, pv.2] at hT; cases hT
                  have sT : Same H' (upd H' T' (.tup [.str sl, y])) := same_new hT
                  refine ⟨T', _, rfl, SqT.of upd_same, rfl, _, _, rfl, _, _, rfl, rfl, rfl, _, rfl, _, rfl, sl, y, dy, rfl, day.same sT, fun H'' s'' => ⟨_, s'' _ _ ((upd_ne nTD.symm).trans pv.2), ?_, fun c o e => ?_, ?_⟩⟩
                  · rw [List.length_map, List.length_take]
                    have := (fm_len e).2
                    have := (List.getElem?_eq_some_iff.mp hj).1
                    exact small20k (by omega)
                  · rw [upd_ne (ne_of_none e hD)]
                    exact s'' _ _ (sT _ _ (pv.1 _ _ e))
                  · rw [upd_same, List.take_add_one, zw_get fitsD hj hdy, List.map_append]
                    rfl
              · have lz : (List.zipWith fitsD ss rest).length = ss.length := by rw [List.length_zipWith, hl, Nat.min_self]
                rw [List.length_map, ← lz, List.take_length] at pv
                have s2 : Same H H' := s1.trans pv.1
                refine ⟨D, _, rfl, SqL.of pv.2, _, rfl, ?_⟩
                by_cases hf : (List.zipWith fitsD ss rest).all id = true
                · rw [hf, Bool.true_and] at q q0
                  rw [hf]
                  refine iteF ⟨_, rfl, rfl, _, rfl, ite2 (fun h1 => ?_) (fun h1 => ?_)⟩
                  · rw [show (!decide (V.str c = V.str "lit")) = true from h1, Bool.true_or] at q
                    exact q _ s2
                  · have h1' : (!decide (V.str c = V.str "lit")) = false := Bool.eq_false_iff.mpr h1
                    rw [h1', Bool.false_or] at q
                    have cl : c = "lit" := by
                      have := of_decide_eq_true (show decide (V.str c = V.str "lit") = true by simpa using h1')
                      exact V.str.inj this
                    subst cl
                    have ess : ss = (["kind", "worth"] : List Str) := by
                      have e2 : lk "lit" FM = some (["kind", "worth"] : List Str) := by decide +kernel
                      rw [e2] at e
                      exact (Option.some.inj e).symm
                    subst ess
                    match rest, hl, rv, hf with
                    | [dk, dx], _, .cons (v := vk) hk (.cons (v := vx) hx .nil), hf =>
                      have fk : kindD dk = true := by
                        have := (List.all_eq_true.mp hf) (fitsD "kind" dk) List.mem_cons_self
                        have e3 : fitsD "kind" dk = kindD dk := rfl
                        rw [e3] at this
                        exact this
                      exact ⟨_, rfl, a, _, 2, _, rfl, rfl, SqT.of (s2 _ _ h), rfl, _, rfl, a, _, 1, _, rfl, rfl, SqT.of (s2 _ _ h), rfl, vx, vk, dx, dk, rfl, hx.same s2, hk.same s2, fk, fun H'' s'' => q _ (s2.trans s'')⟩
                · have hf' := Bool.eq_false_iff.mpr hf
                  rw [hf', Bool.false_and] at q
                  rw [hf']
                  exact iteT (q _ s2)
            · rw [decide_eq_false hl, Bool.false_and, Bool.false_and] at q0
              refine iteB (by rw [decide_eq_false (fun z => hl (by have := V.int.inj z; rw [List.length_cons, List.length_map] at this; omega))]; rfl) q0
        | _ => exact iteT q0
    | _ => exact iteT q0
end
end K7
end Bf

namespace Bf
open PySem PySem.Spec PyProof.Rows L2
namespace K7
mutual
def sz : PyData → Nat
  | .list ds => 1 + szA ds
  | .tuple ds => 1 + szA ds
  | .none => 1
  | .bool _ => 1
  | .int _ => 1
  | .str _ => 1
  | .dict _ => 1
def szA : List PyData → Nat
  | [] => 0
  | d :: r => sz d + szA r
end
theorem sz_tup (ds : List PyData) : sz (.tuple ds) = 1 + szA ds := by simp only [sz]
theorem sz_str (c : Str) : sz (.str c) = 1 := by simp only [sz]
theorem szA_nil : szA [] = 0 := by simp only [szA]
theorem szA_cons (d : PyData) (r : List PyData) : szA (d :: r) = sz d + szA r := by simp only [szA]
theorem sz_pos (d : PyData) : 1 ≤ sz d := by
  cases d <;> simp only [sz] <;> omega
theorem szA_app : ∀ a b : List PyData, szA (a ++ b) = szA a + szA b
  | [], b => by rw [List.nil_append, szA_nil, Nat.zero_add]
  | d :: r, b => by rw [List.cons_append, szA_cons, szA_cons, szA_app r b, Nat.add_assoc]
theorem szA_mem {e : PyData} : ∀ {l : List PyData}, e ∈ l → sz e ≤ szA l
  | d :: r, m => by
    rw [szA_cons]
    rcases List.mem_cons.mp m with rfl | m
    · omega
    · have := szA_mem m; omega
theorem szA_len : ∀ l : List PyData, l.length ≤ szA l
  | [] => by rw [szA_nil]; exact Nat.le_refl _
  | d :: r => by
    rw [szA_cons, List.length_cons]
    have := szA_len r
    have := sz_pos d
    omega
theorem szA_rev : ∀ l : List PyData, szA l.reverse = szA l
  | [] => rfl
  | d :: r => by rw [List.reverse_cons, szA_app, szA_cons, szA_cons, szA_nil, szA_rev r]; omega
theorem one_sz (s : Str) (d : PyData) : szA (oneD s d) ≤ sz d := by
  unfold oneD
  split
  · rw [szA_cons, szA_nil]; omega
  · split
    · split
      · rw [sz_tup]; omega
      · rw [szA_nil]; omega
    · rw [szA_nil]; omega
theorem ones_sz : ∀ (ss : List Str) (ds : List PyData), szA (List.zipWith oneD ss ds).flatten ≤ szA ds
  | [], ds => by rw [List.zipWith_nil_left, List.flatten_nil, szA_nil]; omega
  | _ :: _, [] => by rw [List.zipWith_nil_right, List.flatten_nil, szA_nil]; omega
  | s :: ss, d :: ds => by
    rw [List.zipWith_cons_cons, List.flatten_cons, szA_app, szA_cons]
    have := one_sz s d
    have := ones_sz ss ds
    omega
theorem within_sz (d : PyData) : szA (withinD d) < sz d := by
  unfold withinD
  split
  · rename_i c rest
    have h2 : sz (.tuple (.str c :: rest)) = 1 + (1 + szA rest) := by rw [sz_tup, szA_cons, sz_str]
    rw [h2]
    split
    · rename_i ss _
      have := ones_sz ss rest
      omega
    · rw [szA_nil]; omega
  · rw [szA_nil]; have := sz_pos d; omega
/-! ### terms -/
def callX : PyData → Bool
  | .tuple (.str c :: _) => callS c
  | _ => false
def termF : Nat → PyData → Bool
  | 0, _ => false
  | n + 1, d => (formedD d && !callX d) && (withinD d).all (termF n)
def termD (d : PyData) : Bool := termF (sz d) d
theorem all_congr' {α : Type} {f g : α → Bool} : ∀ {l : List α}, (∀ x ∈ l, f x = g x) → l.all f = l.all g
  | [], _ => rfl
  | a :: r, h => by rw [List.all_cons, List.all_cons, h a List.mem_cons_self, all_congr' fun x m => h x (List.mem_cons_of_mem _ m)]
theorem termF_eq : ∀ (n m : Nat) (d : PyData), sz d ≤ n → sz d ≤ m → termF n d = termF m d
  | 0, _, d, h, _ => absurd h (by have := sz_pos d; omega)
  | _, 0, d, _, h => absurd h (by have := sz_pos d; omega)
  | n + 1, m + 1, d, h1, h2 => by
    unfold termF
    have ws := within_sz d
    rw [all_congr' fun e me => termF_eq n m e (by have := szA_mem me; omega) (by have := szA_mem me; omega)]
theorem termD_eq (d : PyData) : termD d = ((formedD d && !callX d) && (withinD d).all termD) := by
  unfold termD
  obtain ⟨n, e⟩ : ∃ n, sz d = n + 1 := ⟨sz d - 1, by have := sz_pos d; omega⟩
  rw [e]
  show ((formedD d && !callX d) && (withinD d).all (termF n)) = _
  have ws := within_sz d
  rw [all_congr' fun x mx => termF_eq n (sz x) x (by have := szA_mem mx; omega) (Nat.le_refl _)]
def rightD (d : PyData) : Bool := formedD d && (withinD d).all termD
/-! ### parts, each ahead of those within it -/
def partF : Nat → PyData → List PyData
  | 0, _ => []
  | n + 1, d => d :: ((withinD d).map (partF n)).flatten
def partD (d : PyData) : List PyData := partF (sz d) d
theorem map_congr' {α β : Type} {f g : α → β} : ∀ {l : List α}, (∀ x ∈ l, f x = g x) → l.map f = l.map g
  | [], _ => rfl
  | a :: r, h => by rw [List.map_cons, List.map_cons, h a List.mem_cons_self, map_congr' fun x m => h x (List.mem_cons_of_mem _ m)]
theorem partF_eq : ∀ (n m : Nat) (d : PyData), sz d ≤ n → sz d ≤ m → partF n d = partF m d
  | 0, _, d, h, _ => absurd h (by have := sz_pos d; omega)
  | _, 0, d, _, h => absurd h (by have := sz_pos d; omega)
  | n + 1, m + 1, d, h1, h2 => by
    unfold partF
    have ws := within_sz d
    rw [map_congr' fun e me => partF_eq n m e (by have := szA_mem me; omega) (by have := szA_mem me; omega)]
theorem partD_eq (d : PyData) : partD d = d :: ((withinD d).map partD).flatten := by
  unfold partD
  obtain ⟨n, e⟩ : ∃ n, sz d = n + 1 := ⟨sz d - 1, by have := sz_pos d; omega⟩
  rw [e]
  show d :: ((withinD d).map (partF n)).flatten = _
  have ws := within_sz d
  rw [map_congr' fun x mx => partF_eq n (sz x) x (by have := szA_mem mx; omega) (Nat.le_refl _)]
def partsD (d : PyData) : List PyData := if callX d = true then ((withinD d).map partD).flatten else partD d
section
variable {P : Program} {w : World} {K : PySem.W.Frag} {mg : Str → Option Value} {base : Heap} {aF aS aC : Addr}
/-! ### _is_call -/
def spCall : Sp := fun vs H Q _ => ∃ (x : V) (c : Str) (rest : List PyData), vs = [x] ∧ Da H x (.tuple (.str c :: rest)) ∧ Q (.bl (callS c)) H
theorem scCall : FnScope ["right"] ["right"] (defScope sIsCall) := ⟨rfl, rfl, rfl, by decide +kernel, rfl, by decide +kernel, by decide +kernel⟩
theorem ok_call {f : Addr} {fd : FuncData} (F : Fun K "is_call" "is_call" sIsCall f fd) (T : Tbs K w mg aF aS aC) : FnOk P w K mg base CX0 2 f fd ["right"] spCall := by
  refine F.ok scCall (fun vs H Q E h => ?_) (fun cdv A outer s H vs Q E hr h => ?_)
  · obtain ⟨x, c, rest, rfl, _⟩ := h
    rfl
  · obtain ⟨x, c, rest, rfl, da, q⟩ := h
    refine ⟨_, pss_one (ps_ret (pe_cmpR op_in_seq (pe_ix ix_tup (pv 0) pe_int (fun _ _ => rfl)) (pe_glob (v := .ref aC) (by rfl) T.gC rfl) (by rfl))), ?_⟩
    obtain ⟨a, xs, rfl, h, l, r⟩ := da.tup_inv
    cases r with
    | cons h1 r1 =>
      cases h1
      exact ⟨_, rfl, a, _, ((0 : Nat) : Int), _, rfl, rfl, SqT.of h, atI_nat rfl, aC, _, rfl, .inr (T.sC _), rfl, by decide +kernel, q⟩
/-! ### _terms_within -/
def spWithin : Sp := fun vs H Q _ => ∃ (x : V) (d : PyData) (Hs : Hp), vs = [x] ∧ Same Hs H ∧ Da Hs x d ∧ formedD d = true ∧ ∀ p H' xs, Same H H' → H p = none → H' p = some (.lst xs) → DaAll Hs xs (withinD d) → Q (.ref p) H'
abbrev nWithin : List Str := ["right", "terms", "slot", "held"]
theorem scWithin : FnScope nWithin ["right"] (defScope sWithin) := ⟨rfl, rfl, rfl, by decide +kernel, rfl, by decide +kernel, by decide +kernel⟩
theorem range_inv {lo hi : Int} {d : PyData} (h : rangeD lo hi d = true) : ∃ ds, d = .tuple ds := by
  cases d with
  | tuple ds => exact ⟨ds, rfl⟩
  | _ => cases h
theorem ok_within {f : Addr} {fd : FuncData} (F : Fun K "terms_within" "terms_within" sWithin f fd) (T : Tbs K w mg aF aS aC) (mz : mg "zip" = none) : FnOk P w K mg base CX0 2 f fd ["right"] spWithin := by
  obtain ⟨tf, DF, FF⟩ := T.tF
  obtain ⟨ts, DS, FS⟩ := T.tS
  refine F.ok scWithin (fun vs H Q E h => ?_) (fun cdv A outer s H vs Q E hr h => ?_)
  · obtain ⟨x, d, Hs, rfl, _⟩ := h
    rfl
  · obtain ⟨x, d, Hs, rfl, sH, da, fo, q⟩ := h
    refine ⟨_, pss_cons (ps_set (i := 1) scWithin.nd rfl (Or.inl rfl) (pe_lst pa_nil))
      (pss_cons (ps_for PassesOwn.never rfl (RZ.pi_zipA (by rfl) mz (pa_cons (pe_ix (ix_dct DF) (pe_glob (v := .ref aF) (by rfl) T.gF rfl) (pe_ix ix_tup (pv 0) pe_int (fun _ _ => rfl)) (fun _ _ => rfl)) (pa_cons (pe_slice sl_tupA (pv 0) (po_some pe_int) po_none) pa_nil)))
          (pg_tup rfl (pgs_cons (pg_name (i := 2) scWithin.nd rfl (Or.inl rfl)) (pgs_cons (pg_name (i := 3) scWithin.nd rfl (Or.inl rfl)) pgs_nil)))
        (pss_one (ps_if (pt_cmpR op_eq (pv 2) pe_str (nomark _)) (pss_one (ps_expr (pe_bm PySem.F.plainAttrs_list PySem.F.slot_list_append PySem.F.type_list_append mt_append (pv 1) (pa_cons (pv 3) pa_nil))))
          (pss_one (ps_if (pt_cmpR (op_in_dct DS) (pv 2) (pe_glob (v := .ref aS) (by rfl) T.gS rfl) (by rfl)) (pss_one (ps_expr (pe_bm PySem.F.plainAttrs_list PySem.F.slot_list_extend PySem.F.type_list_extend mt_extT (pv 1) (pa_cons (pv 3) pa_nil)))) pss_nil)))))
      (pss_one (ps_ret (pv 1)))), ?_⟩
    obtain ⟨c, rest, ss, rfl, e, hl, hf, _⟩ := formed_inv fo
    obtain ⟨a, xs, rfl, hs, l, r⟩ := da.tup_inv
    rw [within_eq e] at q
    cases r with
    | @cons v vs d1 _ hv rv =>
      cases hv
      have eF : lk c FMv = (lk c FM).map fun p => p.map V.str := lk_map (fun p : List Str => p.map V.str) c FM
      rw [e] at eF
      obtain ⟨b, lb, sb⟩ := FF.some eF
      have lv := rv.len
      have l4 := fm_len e
      refine ⟨by show 0 ≤ sizeLine; decide, fun W hW => ?_⟩
      have sW : Same Hs (upd H W (.lst [])) := sH.trans (same_new hW)
      refine ⟨_, rfl, a, _, ((0 : Nat) : Int), _, rfl, rfl, SqT.of (sW _ _ hs), atI_nat rfl, c, .ref b, rfl, rfl, lb, ?_⟩
      refine ⟨_, rfl, 1, rfl, a, _, rfl, SqT.of (sW _ _ hs), (fun z => absurd z (not_whole (k := 1) (by decide) (by simp))), fun _ t ht => ?_⟩
      have ec : cutV (V.str c :: vs) (some (1 : Int)) none = vs := cut_from (k := 1)
      rw [ec]
      have st : Same (upd H W (.lst [])) (upd (upd H W (.lst [])) t (.tup vs)) := same_new ht
      have hWs : Hs W = none := by
        cases z : Hs W with
        | none => rfl
        | some o => rw [sH _ _ z] at hW; cases hW
      have zl : (ss.map V.str).length = vs.length := by rw [List.length_map, lv, hl]
      refine ⟨b, t, ss.map V.str, vs, rfl, .inr ⟨sb _, SqT.of upd_same, RZ.for_zipT (K := K) (a := b) (b := t) zl
        (fun i σ H' => ∃ u2 u3 xs', σ = [some (.ref a), some (.ref W), u2, u3] ∧ H' W = some (.lst xs') ∧ DaAll Hs xs' ((List.zipWith oneD ss rest).take i).flatten ∧ xs'.length ≤ 20001 * i ∧ Same H H' ∧ H' t = some (.tup vs))
        ⟨_, _, [], rfl, st _ _ upd_same, .nil, Nat.zero_le _, (same_new hW).trans st, upd_same⟩ (fun i σ H' pv => ?_) (fun i x y T' σ H' hx hy pv hT => ?_) fun σ H' pv => ?_⟩⟩
      · obtain ⟨u2, u3, xs', rfl, gW, _, _, _, gt⟩ := pv
        exact ⟨sb _, SqT.of gt⟩
      · obtain ⟨u2, u3, xs', rfl, gW, dx, lx, sx, gt⟩ := pv
        rw [List.getElem?_map] at hx
        cases hj : ss[i]? with
        | none => rw [hj] at hx; cases hx
        | some sl =>
          rw [hj] at hx
          cases hx
          obtain ⟨dy, hdy, day⟩ := rv.get hy
          have hi := (List.getElem?_eq_some_iff.mp hj).1
          have nTW : T' ≠ W := fun e => by rw [e, gW] at hT; cases hT
          have nTt : T' ≠ t := fun e => by rw [e, gt] at hT; cases hT
          have sT : Same H' (upd H' T' (.tup [.str sl, y])) := same_new hT
          have gW' := sT _ _ gW
          have gt' := sT _ _ gt
          have tk : ((List.zipWith oneD ss rest).take (i + 1)).flatten = ((List.zipWith oneD ss rest).take i).flatten ++ oneD sl dy := by
            rw [List.take_add_one, zw_get oneD hj hdy, List.flatten_append]
            show _ ++ [oneD sl dy].flatten = _
            rw [List.flatten_cons, List.flatten_nil, List.append_nil]
          have ntW : t ≠ W := fun e => by rw [e, gW] at gt; cases gt
          have sz1 : xs'.length < sizeLine ∧ xs'.length + 20000 ≤ sizeLine := by rw [sizeLine_eq]; omega
          have keep : ∀ ys, Same H (upd (upd H' T' (.tup [.str sl, y])) W (.lst ys)) := fun ys b o h => by
            have nb : b ≠ W := ne_of_none h hW
            rw [upd_ne nb]
            exact sT _ _ (sx _ _ h)
          refine ⟨T', _, rfl, SqT.of upd_same, rfl, _, _, rfl, _, _, rfl, rfl, ?_⟩
          refine ⟨_, rfl, rfl, _, rfl, ite2 (fun h1 => ?_) (fun h1 => ?_)⟩
          · have eo : oneD sl dy = [dy] := by unfold oneD; rw [if_pos h1]
            refine ⟨_, rfl, .inl ⟨rfl, _, SqL.of gW'⟩, _, rfl, W, _, _, rfl, rfl, gW', sz1.1, ?_⟩
            refine ⟨_, _, _, rfl, upd_same, ?_, ?_, keep _, ?_⟩
            · rw [tk, eo]; exact dx.snoc day
            · rw [List.length_append, List.length_singleton]; omega
            · rw [upd_ne ntW]; exact gt'
          · have eS : lk sl STv = (lk sl ST).map fun p => [.int p.1, .int p.2] := lk_map (fun p : Int × Int => [V.int p.1, V.int p.2]) sl ST
            cases e2 : lk sl ST with
            | none =>
              rw [e2] at eS
              have eo : oneD sl dy = [] := by unfold oneD; rw [if_neg h1, e2]
              refine ⟨_, rfl, sl, rfl, rfl, _, rfl, iteN (by rw [FS.none eS]; rfl) ?_⟩
              refine ⟨_, _, xs', rfl, gW', ?_, by omega, sx.trans sT, gt'⟩
              rw [tk, eo, List.append_nil]; exact dx
            | some pr =>
              obtain ⟨lo, hi2⟩ := pr
              rw [e2] at eS
              obtain ⟨as, las, _⟩ := FS.some eS
              have fy : fitsD sl dy = true := by
                have zg := zw_get fitsD hj hdy
                exact (List.all_eq_true.mp hf) _ (List.mem_of_getElem? zg)
              have ry : rangeD lo hi2 dy = true := by
                unfold fitsD at fy
                rw [e2] at fy
                exact fy
              obtain ⟨es, rfl⟩ := range_inv ry
              obtain ⟨ay, ys, rfl, hay, lys, rys⟩ := day.tup_inv
              have eo : oneD sl (.tuple es) = es := by unfold oneD; rw [if_neg h1, e2]
              refine ⟨_, rfl, sl, rfl, rfl, _, rfl, iteB (by rw [las]; rfl) ?_⟩
              refine ⟨_, rfl, .inl ⟨rfl, _, SqL.of gW'⟩, _, rfl, W, ay, _, ys, rfl, rfl, gW', sT _ _ (sx _ _ (sH _ _ hay)), by omega, ?_⟩
              refine ⟨_, _, _, rfl, upd_same, ?_, ?_, keep _, ?_⟩
              · rw [tk, eo]; exact dx.append rys
              · rw [List.length_append]; omega
              · rw [upd_ne ntW]; exact gt'
      · obtain ⟨u2, u3, xs', rfl, gW, dx, lx, sx, gt⟩ := pv
        have lz : (List.zipWith oneD ss rest).length = ss.length := by rw [List.length_zipWith, hl, Nat.min_self]
        rw [List.length_map, ← lz, List.take_length] at dx
        exact ⟨_, rfl, q W H' xs' sx hW gW dx⟩
end
end K7
end Bf

namespace Bf
open PySem PySem.Spec PyProof.Rows L2
theorem last_of {vs : List V} {ds : List PyData} {H : Hp} (r : DaAll H vs ds) (n : vs ≠ []) : ∃ v d ds', vs[vs.length - 1]? = some v ∧ ds = ds' ++ [d] ∧ Da H v d ∧ DaAll H vs.dropLast ds' := by
  have hl := r.len
  obtain ⟨v, ev⟩ : ∃ v, vs[vs.length - 1]? = some v := by
    cases vs with
    | nil => exact absurd rfl n
    | cons a t => exact ⟨_, List.getElem?_eq_getElem (by simp)⟩
  have nd : ds ≠ [] := fun e => by rw [e] at hl; exact n (List.eq_nil_of_length_eq_zero hl)
  obtain ⟨d, ed, da⟩ := r.get ev
  have el : ds = ds.dropLast ++ [ds.getLast nd] := (List.dropLast_concat_getLast nd).symm
  have eg : ds.getLast nd = d := by
    rw [hl] at ed
    rw [← List.getLast?_eq_getElem?, List.getLast?_eq_some_getLast nd] at ed
    exact Option.some.inj ed
  refine ⟨v, d, ds.dropLast, ev, by rw [← eg]; exact el, da, ?_⟩
  have key : ∀ {vs : List V} {ds : List PyData}, DaAll H vs ds → DaAll H vs.dropLast ds.dropLast := by
    intro vs ds r
    have := (r.rev.drop 1).rev
    rw [List.drop_one, List.drop_one, List.tail_reverse, List.tail_reverse, List.reverse_reverse, List.reverse_reverse] at this
    exact this
  exact key r
namespace K7
section
variable {P : Program} {w : World} {K : PySem.W.Frag} {mg : Str → Option Value} {base : Heap} {aF aS aC : Addr}
/-! ### _are_terms -/
def spAreTerms (K : PySem.W.Frag) : Sp := fun vs H Q _ => ∃ (a : Addr) (xs : List V) (ds : List PyData), vs = [.ref a] ∧ SqL K H a xs ∧ DaAll H xs ds ∧ szA ds ≤ 1000000 ∧ ∀ H', Same H H' → Q (.bl (ds.all termD)) H'
abbrev nAreTerms : List Str := ["things", "waiting", "thing"]
theorem scAreTerms : FnScope nAreTerms ["things"] (defScope sAreTerms) := ⟨rfl, rfl, rfl, by decide +kernel, rfl, by decide +kernel, by decide +kernel⟩
theorem ok_areTerms {f ff fc fw : Addr} {fd df dc dw : FuncData} (F : Fun K "_are_terms" "_are_terms" sAreTerms f fd) (Df_ : Df K mg "_is_formed" ff df ["thing"]) (Gf : FnOk P w K mg base CX0 6 ff df ["thing"] spFormed)
    (Dc : Df K mg "is_call" fc dc ["right"]) (Gc : FnOk P w K mg base CX0 2 fc dc ["right"] spCall) (Dw : Df K mg "terms_within" fw dw ["right"]) (Gw : FnOk P w K mg base CX0 2 fw dw ["right"] spWithin) (mL : mg "list" = none) :
    FnOk P w K mg base CX0 7 f fd ["things"] (spAreTerms K) := by
  refine F.ok scAreTerms (fun vs H Q E h => ?_) (fun cdv A outer s H vs Q E hr h => ?_)
  · obtain ⟨a, xs, ds, rfl, _⟩ := h
    rfl
  · obtain ⟨a, xs, ds, rfl, hS, r, hz, q⟩ := h
    have hr1 := hr.mono (by decide : 2 ≤ 6)
    refine ⟨_, pss_cons (ps_set (i := 1) scAreTerms.nd rfl (Or.inl rfl) (pe_callTy call_list_of (by rfl) mL (by decide +kernel) (pa_cons (pv 0) pa_nil)))
      (pss_cons (ps_while PassesOwn.never (pt_truth (pv 1) (by intro _; rfl))
        (pss_cons (ps_set (i := 2) scAreTerms.nd rfl (Or.inl rfl) (pe_bm0 PySem.F.plainAttrs_list PySem.F.slot_list_pop PySem.F.type_list_pop mt_pop (pv 1)))
        (pss_cons (ps_if (PW.pt (pw_or (pt_not (pt_val (pe_call Gf hr (by rfl) Df_.at_ Df_.kp Df_.bd .nil pass0 (pa_cons (pv 2) pa_nil)))) (pw_or1 (pt_val (pe_call Gc hr1 (by rfl) Dc.at_ Dc.kp Dc.bd .nil pass0 (pa_cons (pv 2) pa_nil)))))) (pss_one (ps_ret pe_bl)) pss_nil)
        (pss_one (ps_expr (pe_bm PySem.F.plainAttrs_list PySem.F.slot_list_extend PySem.F.type_list_extend mt_extend (pv 1) (pa_cons (pe_call Gw hr1 (by rfl) Dw.at_ Dw.kp Dw.bd .nil pass0 (pa_cons (pv 2) pa_nil)) pa_nil)))))))
      (pss_one (ps_ret pe_bl))), ?_⟩
    refine ⟨_, rfl, a, xs, rfl, .inl hS, fun W hW => ?_⟩
    dsimp only [gName, tSeq, tAsg]
    refine ⟨fun m σ H' => ∃ u xs' es, σ = [some (.ref a), some (.ref W), u] ∧ H' W = some (.lst xs') ∧ DaAll H xs' es ∧ Same H H' ∧ es.all termD = ds.all termD ∧ m = szA es ∧ m ≤ szA ds, ⟨_, _, xs, ds, rfl, upd_same, r, same_new hW, rfl, rfl, Nat.le_refl _⟩, fun m σ H' hw => ?_⟩
    obtain ⟨u, xs', es, rfl, gW, rx, sx, ea, rfl, le⟩ := hw
    have lx := rx.len
    have ls := szA_len es
    have keep : ∀ {G : Hp} (o : HO), Same H G → Same H (upd G W o) := fun {G} o s b o' h => by
      rw [upd_ne (ne_of_none h hW)]
      exact s _ _ h
    refine ⟨_, rfl, !xs'.isEmpty, .inl ⟨xs', SqL.of gW, rfl⟩, ?_⟩
    by_cases hx : xs' = []
    · subst hx
      have ee : es = [] := List.eq_nil_of_length_eq_zero (by rw [← lx]; rfl)
      refine iteF ?_
      rw [ee] at ea
      rw [← ea] at q
      exact q _ sx
    · have ne : xs' ≠ [] := hx
      refine iteB (by cases xs' with | nil => exact absurd rfl ne | cons _ _ => rfl) ?_
      obtain ⟨v, d, es', ev, rfl, da, rd⟩ := last_of rx ne
      rw [szA_app, szA_cons, szA_nil] at le ls
      have ea' : ((es'.all termD) && termD d) = ds.all termD := by
        rw [← ea, List.all_append, List.all_cons, List.all_nil, Bool.and_true]
      refine ⟨fun σ H2 => ∃ u xs2 es2, σ = [some (.ref a), some (.ref W), u] ∧ H2 W = some (.lst xs2) ∧ DaAll H xs2 es2 ∧ Same H H2 ∧ es2.all termD = ds.all termD ∧ szA es2 < szA (es' ++ [d]) ∧ szA es2 ≤ szA ds,
        fun σ2 H2 ⟨u, xs2, es2, e1, e2, e3, e4, e5, e6, e7⟩ => ⟨_, e6, u, xs2, es2, e1, e2, e3, e4, e5, rfl, e7⟩, ?_⟩
      refine ⟨_, rfl, .inl ⟨rfl, _, SqL.of gW⟩, W, xs', v, rfl, rfl, gW, ev, ?_⟩
      have s1 : Same H (upd H' W (.lst xs'.dropLast)) := keep _ sx
      refine ⟨_, rfl, v, d, rfl, Da.same s1 _ _ da, fun H2 s2 => ⟨_, rfl, ?_⟩⟩
      have te := termD_eq d
      by_cases hf : formedD d = true
      · rw [hf]
        refine iteF ?_
        obtain ⟨c, rest, ss, ed, el, _⟩ := formed_inv hf
        have s3 : Same H H2 := s1.trans s2
        refine ⟨_, rfl, v, c, rest, rfl, by rw [← ed]; exact Da.same s3 _ _ da, _, rfl, ?_⟩
        have cx : callX d = callS c := by rw [ed]; rfl
        by_cases hc : callS c = true
        · rw [hc]
          rw [te, hf, cx, hc] at ea'
          refine iteT ?_
          have e0 : ds.all termD = false := by rw [← ea']; simp
          rw [e0] at q
          exact q _ s3
        · have hc' := Bool.eq_false_iff.mpr hc
          rw [hc']
          rw [te, hf, cx, hc'] at ea'
          refine iteF ?_
          have gW2 : H2 W = some (.lst xs'.dropLast) := s2 _ _ upd_same
          refine ⟨_, rfl, .inl ⟨rfl, _, SqL.of gW2⟩, _, rfl, v, d, H, rfl, s3, da, hf, fun p H3 ys s4 hp gp ry => ?_⟩
          have ly := ry.len
          have lyz := szA_len (withinD d)
          have wz := within_sz d
          have ld := rd.len
          have lz' := szA_len es'
          refine ⟨W, p, _, ys, rfl, rfl, s4 _ _ gW2, gp, by rw [sizeLine_eq]; omega, ?_⟩
          refine ⟨_, _, es' ++ withinD d, rfl, upd_same, rd.append ry, keep _ (s3.trans s4), ?_, ?_, ?_⟩
          · rw [← ea', List.all_append]
            simp
          · rw [szA_app, szA_app, szA_cons, szA_nil]; omega
          · rw [szA_app]; omega
      · have hf' := Bool.eq_false_iff.mpr hf
        rw [hf']
        rw [te, hf'] at ea'
        have e0 : ds.all termD = false := by rw [← ea']; simp
        rw [e0] at q
        exact iteT (iteT (q _ (s1.trans s2)))
end
end K7
end Bf

namespace Bf
open PySem PySem.Spec PyProof.Rows L2
namespace K7
theorem refuses_later {C : Addr} {v : V} {H H1 : Hp} {E : XK} (q : Refuses C v H E) (s : Same H H1) : Refuses C v H1 E := fun d H' s' hd h => q d H' (s.trans s') (s.free hd) h
theorem right_inv {d : PyData} (h : rightD d = true) : formedD d = true ∧ ∀ e ∈ withinD d, termD e = true := by
  obtain ⟨h1, h2⟩ := Bool.and_eq_true_iff.mp h
  exact ⟨h1, List.all_eq_true.mp h2⟩
theorem term_inv {d : PyData} (h : termD d = true) : formedD d = true ∧ callX d = false ∧ ∀ e ∈ withinD d, termD e = true := by
  rw [termD_eq] at h
  obtain ⟨h1, h2⟩ := Bool.and_eq_true_iff.mp h
  obtain ⟨h1, h3⟩ := Bool.and_eq_true_iff.mp h1
  exact ⟨h1, by simpa using h3, List.all_eq_true.mp h2⟩
section
variable {P : Program} {w : World} {K : PySem.W.Frag} {mg : Str → Option Value} {base : Heap} {aF aS aC : Addr}
def spIsTerm : Sp := fun vs H Q _ => ∃ (x : V) (d : PyData), vs = [x] ∧ Da H x d ∧ sz d ≤ 900000 ∧ ∀ H', Same H H' → Q (.bl (termD d)) H'
theorem scIsTerm : FnScope ["thing"] ["thing"] (defScope sIsTerm) := ⟨rfl, rfl, rfl, by decide +kernel, rfl, by decide +kernel, by decide +kernel⟩
theorem ok_isTerm {f fa : Addr} {fd da_ : FuncData} (F : Fun K "is_term" "is_term" sIsTerm f fd) (Dt : Df K mg "_are_terms" fa da_ ["things"]) (Gt : FnOk P w K mg base CX0 7 fa da_ ["things"] (spAreTerms K)) : FnOk P w K mg base CX0 8 f fd ["thing"] spIsTerm := by
  refine F.ok scIsTerm (fun vs H Q E h => ?_) (fun cdv A outer s H vs Q E hr h => ?_)
  · obtain ⟨x, d, rfl, _⟩ := h
    rfl
  · obtain ⟨x, d, rfl, da, hz, q⟩ := h
    refine ⟨_, pss_one (ps_ret (pe_call Gt hr (by rfl) Dt.at_ Dt.kp Dt.bd .nil pass0 (pa_cons (pe_lst (pa_cons (pv 0) pa_nil)) pa_nil))), ?_⟩
    refine ⟨_, rfl, by show 1 ≤ sizeLine; decide, fun l hl => ?_⟩
    have s1 : Same H (upd H l (.lst [x])) := same_new hl
    refine ⟨l, [x], [d], rfl, SqL.of upd_same, .cons (Da.same s1 _ _ da) .nil, by rw [szA_cons, szA_nil]; omega, fun H' s' => ?_⟩
    rw [List.all_cons, List.all_nil, Bool.and_true]
    exact q _ (s1.trans s')
def spIsRight : Sp := fun vs H Q _ => ∃ (x : V) (d : PyData), vs = [x] ∧ Da H x d ∧ sz d ≤ 900000 ∧ ∀ H', Same H H' → Q (.bl (rightD d)) H'
/-! ### _need_right -/
def spNeed (cT : Addr) : Sp := fun vs H Q E => ∃ (x : V) (d : PyData), vs = [x] ∧ Da H x d ∧ sz d ≤ 900000 ∧ ((rightD d = false ∧ Refuses cT x H E) ∨ (rightD d = true ∧ ∀ H', Same H H' → Q .non H'))
/-! ### _parts -/
def spParts : Sp := fun vs H Q _ => ∃ (x : V) (d : PyData) (Hs : Hp), vs = [x] ∧ Same Hs H ∧ Da Hs x d ∧ sz d ≤ 900000 ∧ rightD d = true ∧ ∀ p H' xs, Same H H' → H p = none → H' p = some (.lst xs) → DaAll Hs xs (partsD d) → Q (.ref p) H'
abbrev nParts : List Str := ["right", "waiting", "parts", "part"]
theorem partD_le : ∀ (n : Nat) (d : PyData), sz d ≤ n → (partD d).length ≤ sz d
  | 0, d, h => absurd h (by have := sz_pos d; omega)
  | n + 1, d, h => by
    have ws := within_sz d
    have key : ∀ l : List PyData, szA l ≤ n → ((l.map partD).flatten).length ≤ szA l := by
      intro l
      induction l with
      | nil => intro _; rw [List.map_nil, List.flatten_nil, szA_nil]; exact Nat.le_refl _
      | cons e r ih =>
        intro hl
        rw [szA_cons] at hl ⊢
        rw [List.map_cons, List.flatten_cons, List.length_append]
        have := partD_le n e (by omega)
        have := ih (by omega)
        omega
    rw [partD_eq, List.length_cons]
    have := key (withinD d) (by omega)
    omega
/-! ### parts_of, size_of -/
def spPartsOf (cT : Addr) : Sp := fun vs H Q E => ∃ (x : V) (d : PyData) (Hs : Hp), vs = [x] ∧ Same Hs H ∧ Da Hs x d ∧ sz d ≤ 900000 ∧ ((rightD d = false ∧ Refuses cT x H E) ∨ (rightD d = true ∧ ∀ p H' xs, Same H H' → H p = none → H' p = some (.lst xs) → DaAll Hs xs (partsD d) → Q (.ref p) H'))
theorem none_back {H H' : Hp} {p : Addr} (s : Same H H') (h : H' p = none) : H p = none := by
  cases z : H p with
  | none => rfl
  | some o => rw [s _ _ z] at h; cases h
def sizeD (d : PyData) : Nat := (partsD d).length + if callX d = true then 1 else 0
def spSizeOf (cT : Addr) : Sp := fun vs H Q E => ∃ (x : V) (d : PyData), vs = [x] ∧ Da H x d ∧ sz d ≤ 900000 ∧ ((rightD d = false ∧ Refuses cT x H E) ∨ (rightD d = true ∧ ∀ H', Same H H' → Q (.int (sizeD d)) H'))
end
end K7
end Bf

namespace Bf
open PySem PySem.Spec PyProof.Rows L2
def digB (c : Nat) : Bool := !decide (([c] : List Nat) < ("0" : Str).cps.toList) && !decide (("9" : Str).cps.toList < ([c] : List Nat))
theorem dig_eq (c : Nat) : digB c = (decide (48 ≤ c) && decide (c ≤ 57)) := by
  have e0 : ("0" : Str).cps.toList = [48] := by decide +kernel
  have e9 : ("9" : Str).cps.toList = [57] := by decide +kernel
  unfold digB
  rw [e0, e9]
  have l : ∀ a b : Nat, (decide (([a] : List Nat) < [b])) = decide (a < b) := fun a b => by
    by_cases h : a < b
    · rw [decide_eq_true h, decide_eq_true (p := ([a] : List Nat) < [b]) (List.Lex.rel h)]
    · refine (decide_eq_false (p := ([a] : List Nat) < [b]) fun z => ?_).trans (decide_eq_false h).symm
      cases z with
      | rel h' => exact h h'
      | cons h' => cases h'
  rw [l, l]
  by_cases h1 : c < 48 <;> by_cases h2 : 57 < c <;> simp [h1, h2] <;> omega
theorem int_dig {z : Str} (h : z.cps.toList.all digB = true) (h1 : 1 ≤ z.length) (h2 : z.length ≤ 30) : ∃ n, PySem.intText? z = some n := by
  refine ⟨_, PySem.intText_digits (x := z) (fun c m => ?_) (fun e => ?_) (by omega)⟩
  · have := List.all_eq_true.mp h c m
    rw [dig_eq, Bool.and_eq_true, decide_eq_true_eq, decide_eq_true_eq] at this
    exact this
  · have : z.cps.toList.length = z.length := Array.length_toList
    rw [e] at this
    simp at this
    omega
namespace K7
abbrev sRows : Stmt := top 32
abbrev sNo : Stmt := top 33
abbrev sWorthOfW : Stmt := top 34
abbrev sKindOfW : Stmt := top 35
abbrev sClosed : Stmt := top 36
abbrev sSlot : Stmt := top 37
abbrev sWRight : Stmt := top 39
abbrev sWWorth : Stmt := top 40
abbrev sBrack : Stmt := top 41
abbrev sWKind : Stmt := top 42
abbrev sTText : Stmt := top 44
abbrev sRTerm : Stmt := top 45
section
variable {P : Program} {w : World} {K : PySem.W.Frag} {mg : Str → Option Value} {base : Heap}
/-! ### number_of -/
def numS (z : Str) : Option Int := if (decide (1 ≤ z.length) && decide (z.length ≤ 30)) && z.cps.toList.all digB && !(decide (z.cps.toList.head? = some 48) && decide (1 < z.length)) then PySem.intText? z else none
def numV' (z : Str) : V := match numS z with
  | some n => .int n
  | none => .non
def spNo : Sp := fun vs H Q _ => ∃ z : Str, vs = [.str z] ∧ z.length ≤ 20000 ∧ ∀ H', Same H H' → Q (numV' z) H'
abbrev nNo : List Str := ["word", "sign"]
theorem scNo : FnScope nNo ["word"] (defScope sNo) := ⟨rfl, rfl, rfl, by decide +kernel, rfl, by decide +kernel, by decide +kernel⟩
theorem ok_no {f : Addr} {fd : FuncData} {t : Tok} (F : Fun K "number_of" "number_of" sNo f fd) (gM : mg "MOST_FIGURES" = some (.int 30 t)) (ml : mg "len" = none) (ma : mg "all" = none) (mI : mg "int" = none) : FnOk P w K mg base CX0 1 f fd ["word"] spNo := by
  refine F.ok scNo (fun vs H Q E h => ?_) (fun cdv A outer s H vs Q E hr h => ?_)
  · obtain ⟨z, rfl, _⟩ := h
    rfl
  · obtain ⟨z, rfl, hz, q⟩ := h
    refine ⟨_, (pss_cons (ps_if (PW.pt (pw_or (pt_not (pt_chain op_le op_le pe_int (pe_callB call_len_str (by rfl) ml PySem.boot_len (pa_cons (pv 0) pa_nil)) (pe_glob (v := .int 30) (by rfl) gM ⟨_, rfl⟩))) (pw_or1 (pt_not (pt_val (pe_callB (cr_all rfl) (by rfl) ma (by decide +kernel) (pa_cons (pe_lc (own := [("sign", 1)]) (g := gName 1) (tt := tYes) rfl scNo.nd (pi_str (pv 0)) (blkOk_by (N := nNo) (sc := defScope sNo) (by decide +kernel)) (fun _ _ _ _ _ => pg_name (i := 1) scNo.nd rfl (Or.inl rfl)) (fun _ _ _ _ _ => pts_nil) (fun _ _ _ _ _ => (pe_chain op_le_str op_le_str pe_str (pv 1) pe_str))) pa_nil))))))) (pss_one (ps_ret pe_non)) pss_nil)
        (pss_cons (ps_if (PW.pt (pw_and (pt_cmpR op_eq (pe_ix ix_str (pv 0) pe_int (fun _ _ => rfl)) pe_str (nomark _)) (pw_and1 (pt_cmpR op_gt (pe_callB call_len_str (by rfl) ml PySem.boot_len (pa_cons (pv 0) pa_nil)) pe_int (nomark _))))) (pss_one (ps_ret pe_non)) pss_nil)
        (pss_one (ps_ret (pe_callTy call_int_str (by rfl) mI (by decide +kernel) (pa_cons (pv 0) pa_nil)))))), ?_⟩
    have lz : z.length = z.cps.size := rfl
    have no : ((decide (1 ≤ z.length) && decide (z.length ≤ 30)) && z.cps.toList.all digB && !(decide (z.cps.toList.head? = some 48) && decide (1 < z.length))) = false → numV' z = .non := fun e => by unfold numV' numS; rw [e]; rfl
    refine ⟨_, rfl, z, rfl, Nat.le_trans hz (by decide), _, _, rfl, rfl, _, rfl, ?_⟩
    by_cases h1 : 1 ≤ z.length
    · rw [decide_eq_true (show (1 : Int) ≤ (z.length : Int) by omega)]
      refine iteT ⟨_, _, rfl, rfl, _, rfl, ?_⟩
      by_cases h30 : z.length ≤ 30
      · rw [decide_eq_true (show (z.length : Int) ≤ 30 by omega)]
        refine iteF ⟨_, rfl, z, rfl, fun D hD => ?_⟩
        refine lc_its (x := z) (fun i H' => Same H H' ∧ H' D = some (.lst (((z.cps.toList.take i).map digB).map V.bl))) ⟨same_new hD, upd_same⟩ (fun i c H' hc pv => ?_) fun H' pv => ?_
        · have hi : i < z.cps.size := (Array.getElem?_eq_some_iff.mp hc).1
          have fin : ∀ b, b = digB c → ∃ acc, H' D = some (.lst acc) ∧ acc.length < sizeLine ∧ (Same H (upd H' D (.lst (acc ++ [.bl b]))) ∧ upd H' D (.lst (acc ++ [.bl b])) D = some (.lst (((z.cps.toList.take (i + 1)).map digB).map V.bl))) := fun b e => by
            refine ⟨_, pv.2, ?_, fun a o h => ?_, ?_⟩
            · rw [List.length_map, List.length_map, List.length_take]
              exact small20k (by omega)
            · rw [upd_ne (ne_of_none h hD)]; exact pv.1 _ _ h
            · have hc' : z.cps.toList[i]? = some c := by rw [Array.getElem?_toList]; exact hc
              rw [upd_same, List.take_add_one, hc', List.map_append, List.map_append, e]
              rfl
          refine ⟨rfl, _, rfl, _, _, rfl, rfl, _, rfl, ite2 (fun h => ⟨_, _, rfl, rfl, fin _ ?_⟩) (fun h => fin _ ?_)⟩
          · unfold digB
            rw [show (!decide (([c] : List Nat) < ("0" : Str).cps.toList)) = true from h, Bool.true_and]
          · unfold digB
            rw [show (!decide (([c] : List Nat) < ("0" : Str).cps.toList)) = false from Bool.eq_false_iff.mpr h, Bool.false_and]
        · have e : (z.cps.toList.take z.cps.size) = z.cps.toList := by rw [← Array.length_toList, List.take_length]
          rw [e] at pv
          refine ⟨D, _, rfl, SqL.of pv.2, _, rfl, ?_⟩
          have e2 : (z.cps.toList.map digB).all id = z.cps.toList.all digB := by rw [List.all_map]; rfl
          rw [e2]
          cases hd : z.cps.toList.all digB with
          | false =>
            refine iteT ?_
            have := no (by rw [hd, Bool.and_false, Bool.false_and])
            rw [← this]
            exact q _ pv.1
          | true =>
            refine iteF ?_
            obtain ⟨c, cs, hl⟩ : ∃ c cs, z.cps.toList = c :: cs := by
              cases hc : z.cps.toList with
              | nil =>
                have : z.cps.toList.length = z.length := Array.length_toList
                rw [hc] at this
                simp at this
                omega
              | cons c cs => exact ⟨c, cs, rfl⟩
            refine ⟨_, rfl, z, 0, c, rfl, rfl, Nat.le_trans hz (by decide), ?_, ?_⟩
            · rw [hl]
              exact atI_nat (j := 0) (v := c) rfl
            · obtain ⟨n, hn⟩ := int_dig hd h1 h30
              have e0 : ("0" : Str) = ⟨#[48]⟩ := by decide +kernel
              have yes : ¬ (c = 48 ∧ 1 < z.length) → numV' z = .int n := fun h => by
                have h' : (decide (z.cps.toList.head? = some 48) && decide (1 < z.length)) = false := by
                  rw [hl]
                  by_cases c48 : c = 48
                  · rw [decide_eq_false (p := 1 < z.length) fun l => h ⟨c48, l⟩, Bool.and_false]
                  · rw [decide_eq_false (p := (c :: cs).head? = some 48) fun e => c48 (Option.some.inj e), Bool.false_and]
                unfold numV' numS
                rw [decide_eq_true h1, decide_eq_true h30, hd, h', hn]
                rfl
              refine ⟨rfl, _, rfl, ite2 (fun h => ?_) (fun h => ?_)⟩
              · have c48 : c = 48 := by
                  have := V.str.inj (of_decide_eq_true h)
                  rw [e0] at this
                  have := congrArg (fun z : Str => z.cps.toList) this
                  exact (List.cons.inj this).1
                refine ⟨_, rfl, z, rfl, Nat.le_trans hz (by decide), _, _, rfl, rfl, _, rfl, ite2 (fun g => ?_) (fun g => ?_)⟩
                · have g' : 1 < z.length := by have := of_decide_eq_true g; omega
                  have := no (by rw [hl, decide_eq_true (p := (c :: cs).head? = some 48) (by rw [c48]; rfl), decide_eq_true g']; simp)
                  rw [this] at q
                  exact q _ pv.1
                · have g' : ¬ 1 < z.length := fun l => g (decide_eq_true (by omega))
                  rw [yes fun x => g' x.2] at q
                  exact ⟨_, rfl, z, n, rfl, hn, by omega, q _ pv.1⟩
              · have c48 : c ≠ 48 := fun e => h (decide_eq_true (by rw [e0, e]))
                rw [yes fun x => c48 x.1] at q
                exact ⟨_, rfl, z, n, rfl, hn, by omega, q _ pv.1⟩
      · rw [decide_eq_false (show ¬ (z.length : Int) ≤ 30 by omega)]
        have := no (by rw [decide_eq_false h30, Bool.and_false, Bool.false_and, Bool.false_and])
        rw [this] at q
        exact iteT (q _ (Same.refl _))
    · rw [decide_eq_false (show ¬ (1 : Int) ≤ (z.length : Int) by omega)]
      have := no (by rw [decide_eq_false h1, Bool.false_and, Bool.false_and, Bool.false_and])
      rw [this] at q
      exact iteF ⟨_, rfl, iteT (q _ (Same.refl _))⟩
end
end K7
end Bf

namespace Bf
open PySem PySem.Spec PyProof.Rows L2 TL
theorem spl_ok (S : List Nat) : ∀ (l : List Nat) (k : Nat) (acc : List Nat), 1 ≤ (spl S k acc l).length ∧ (spl S k acc l).length ≤ l.length + 1
  | [], k, acc => by rw [spl_nil]; exact ⟨Nat.le_refl _, Nat.le_refl _⟩
  | c :: r, 0, acc => by
    unfold spl
    split
    · have := spl_ok S r (S.length - 1) []
      rw [List.length_cons, List.length_cons]
      omega
    · have := spl_ok S r 0 (acc ++ [c])
      rw [List.length_cons]
      omega
  | c :: r, k + 1, acc => by
    have := spl_ok S r k acc
    show 1 ≤ (spl S k acc r).length ∧ (spl S k acc r).length ≤ (c :: r).length + 1
    rw [List.length_cons]
    omega
theorem splits_len {z y : Str} (hy : tl y ≠ []) (hk : y.cps.all (· < 256) = true) : 1 ≤ (Txt.split z y).length ∧ (Txt.split z y).length ≤ z.length + 1 := by
  have e := congrArg List.length (split_spl z y hy (kind_ok hk))
  rw [List.length_map] at e
  have := spl_ok (tl y) (tl z) 0 []
  rw [e, len_tl z]
  exact this
namespace K7
section
variable {P : Program} {w : World} {K : PySem.W.Frag} {mg : Str → Option Value} {base : Heap}
def numD' (z : Str) : PyData := match numS z with
  | some n => .int n
  | none => .none
def worthW (z : Str) : PyData := if ((Txt.split z ",").any fun y => (numS y).isNone) = true then .none else if 1 < (Txt.split z ",").length then .tuple ((Txt.split z ",").map numD') else numD' ((Txt.split z ",").headD "")
def kindW (z : Str) : PyData := if 1 < (Txt.split z "x").length then .tuple ((Txt.split z "x").map numD') else numD' ((Txt.split z "x").headD "")
def spText (g : Str → PyData) : Sp := fun vs H Q _ => ∃ z : Str, vs = [.str z] ∧ z.length ≤ 20000 ∧ ∀ v H', Same H H' → Sh H' (fun b => H b = none) false v (g z) → Q v H'
abbrev nWo : List Str := ["word", "numbers", "part"]
theorem scWo : FnScope nWo ["word"] (defScope sWorthOfW) := ⟨rfl, rfl, rfl, by decide +kernel, rfl, by decide +kernel, by decide +kernel⟩
theorem scKo : FnScope nWo ["word"] (defScope sKindOfW) := ⟨rfl, rfl, rfl, by decide +kernel, rfl, by decide +kernel, by decide +kernel⟩
theorem sh_num {H : Hp} {P : Addr → Prop} (z : Str) : Sh H P false (numV' z) (numD' z) := by
  unfold numV' numD'
  cases numS z with
  | none => exact .non
  | some n => exact .int n
theorem sh_nums {H : Hp} {P : Addr → Prop} : ∀ l : List Str, ShAll H P false (l.map numV') (l.map numD')
  | [] => .nil
  | z :: r => .cons (sh_num z) (sh_nums r)
theorem flat_nums : ∀ l : List Str, (l.map numV').all flatV = true
  | [] => rfl
  | z :: r => by
    rw [List.map_cons, List.all_cons, flat_nums r, Bool.and_true]
    unfold numV'
    cases numS z <;> rfl
theorem in_nums : ∀ l : List Str, inV .non (l.map numV') = l.any fun y => (numS y).isNone
  | [] => rfl
  | z :: r => by
    have e : eqV (numV' z) .non = (numS z).isNone := by
      unfold numV'
      cases numS z <;> rfl
    have ih := in_nums r
    unfold inV at ih ⊢
    rw [List.map_cons, List.any_cons, List.any_cons, ih, e]
theorem ok_ko {f fn : Addr} {fd dn : FuncData} (F : Fun K "kind_of_word" "kind_of_word" sKindOfW f fd) (DN : Df K mg "number_of" fn dn ["word"]) (GN : FnOk P w K mg base CX0 1 fn dn ["word"] spNo) (ml : mg "len" = none) (mt : mg "tuple" = none) :
    FnOk P w K mg base CX0 2 f fd ["word"] (spText kindW) := by
  refine F.ok scKo (fun vs H Q E h => ?_) (fun cdv A outer s H vs Q E hr h => ?_)
  · obtain ⟨z, rfl, _⟩ := h
    rfl
  · obtain ⟨z, rfl, hz, q⟩ := h
    refine ⟨_, (pss_cons (ps_setLc (i := 1) (own := [("part", 2)]) (g := gName 2) (tt := tYes) (by rfl) scKo.nd rfl rfl (sw_true rfl rfl rfl (by decide +kernel)) (pi_list (pe_split (pv 0) pe_str)) (blkOk_by (N := nWo) (sc := defScope sKindOfW) (by decide +kernel)) (fun _ _ _ _ _ => pg_name (i := 2) scKo.nd rfl (Or.inl rfl)) (fun _ _ _ _ _ => pts_nil) (fun _ _ _ _ _ => (pe_call GN hr (by rfl) DN.at_ DN.kp DN.bd .nil pass0 (pa_cons (pv 2) pa_nil))))
        (pss_one (ps_ret (pe_ifExp (pt_cmpR op_gt (pe_callB call_len_seq (by rfl) ml PySem.boot_len (pa_cons (pv 1) pa_nil)) pe_int (nomark _)) (pe_callTy call_tuple_of (by rfl) mt (by decide +kernel) (pa_cons (pv 1) pa_nil)) (pe_ix ix_list (pv 1) pe_int (fun _ _ => rfl)))))), ?_⟩
    refine ⟨_, rfl, ⟨_, rfl⟩, z, "x", rfl, rfl, by decide +kernel, Nat.le_trans (Nat.add_le_add_right hz 2) (by decide), fun p hp => ?_⟩
    have s1 : Same H (upd H p (.lst ((Txt.split z "x").map V.str))) := same_new hp
    have gp : (upd H p (.lst ((Txt.split z "x").map V.str))) p = some (.lst ((Txt.split z "x").map V.str)) := upd_same
    generalize upd H p (.lst ((Txt.split z "x").map V.str)) = H1 at s1 gp
    have hsh : ∀ y ∈ Txt.split z "x", y.length ≤ z.length := fun y m => split_short m
    have e0 : kindW z = if 1 < (Txt.split z "x").length then .tuple ((Txt.split z "x").map numD') else numD' ((Txt.split z "x").headD "") := rfl
    obtain ⟨l0, ln⟩ := splits_len (z := z) (y := "x") (by decide +kernel) (by decide +kernel)
    generalize Txt.split z "x" = ps at gp hsh e0 ln l0
    refine ⟨p, rfl, ⟨_, SqL.of gp⟩, fun D hD => lc_list (K := K) (a := p) (xs := ps.map V.str) (fun i H' => Same H1 H' ∧ H' D = some (.lst ((ps.take i).map numV'))) ⟨same_new hD, upd_same⟩ (fun i H' _ pv => SqL.of (pv.1 _ _ gp)) (fun i y H' hy pv => ?_) fun H' pv => ?_⟩
    · rw [List.getElem?_map] at hy
      cases hj : ps[i]? with
      | none => rw [hj] at hy; cases hy
      | some b =>
        rw [hj] at hy
        cases hy
        have hi := (List.getElem?_eq_some_iff.mp hj).1
        refine ⟨rfl, _, rfl, b, rfl, Nat.le_trans (hsh b (List.mem_of_getElem? hj)) hz, fun H'' s'' => ⟨_, s'' _ _ pv.2, ?_, fun c o h => ?_, ?_⟩⟩
        · rw [List.length_map, List.length_take, sizeLine_eq]
          omega
        · rw [upd_ne (ne_of_none h hD)]; exact s'' _ _ (pv.1 _ _ h)
        · rw [upd_same, List.take_add_one, hj, List.map_append]
          rfl
    · rw [List.length_map, List.take_length] at pv
      obtain ⟨sH, gD⟩ := pv
      dsimp only [gName]
      refine ⟨_, rfl, D, _, rfl, .inl (SqL.of gD), _, _, rfl, rfl, _, rfl, ?_⟩
      have sHH := s1.trans sH
      by_cases l1 : 1 < ps.length
      · refine iteB (decide_eq_true (by rw [List.length_map]; omega)) ?_
        rw [if_pos l1] at e0
        refine ⟨_, rfl, D, _, rfl, .inl ⟨SqL.of gD, fun t ht => q _ _ (sHH.trans (same_new ht)) ?_⟩⟩
        rw [e0]
        exact .tup upd_same (sHH.free ht) (sh_nums ps)
      · refine iteN (decide_eq_false (by rw [List.length_map]; omega)) ?_
        rw [if_neg l1] at e0
        match ps, l0 with
        | y :: r, _ =>
          refine ⟨_, rfl, D, _, 0, numV' y, rfl, rfl, SqL.of gD, atI_nat (j := 0) rfl, q _ _ sHH ?_⟩
          rw [e0]
          exact sh_num y
theorem ok_wo {f fn : Addr} {fd dn : FuncData} (F : Fun K "worth_of" "worth_of" sWorthOfW f fd) (DN : Df K mg "number_of" fn dn ["word"]) (GN : FnOk P w K mg base CX0 1 fn dn ["word"] spNo) (ml : mg "len" = none) (mt : mg "tuple" = none) :
    FnOk P w K mg base CX0 2 f fd ["word"] (spText worthW) := by
  refine F.ok scWo (fun vs H Q E h => ?_) (fun cdv A outer s H vs Q E hr h => ?_)
  · obtain ⟨z, rfl, _⟩ := h
    rfl
  · obtain ⟨z, rfl, hz, q⟩ := h
    refine ⟨_, (pss_cons (ps_setLc (i := 1) (own := [("part", 2)]) (g := gName 2) (tt := tYes) (by rfl) scWo.nd rfl rfl (sw_true rfl rfl rfl (by decide +kernel)) (pi_list (pe_split (pv 0) pe_str)) (blkOk_by (N := nWo) (sc := defScope sWorthOfW) (by decide +kernel)) (fun _ _ _ _ _ => pg_name (i := 2) scWo.nd rfl (Or.inl rfl)) (fun _ _ _ _ _ => pts_nil) (fun _ _ _ _ _ => (pe_call GN hr (by rfl) DN.at_ DN.kp DN.bd .nil pass0 (pa_cons (pv 2) pa_nil))))
        (pss_cons (ps_if (pt_cmpR op_in_seq pe_non (pv 1) (by rfl)) (pss_one (ps_ret pe_non)) pss_nil)
        (pss_one (ps_ret (pe_ifExp (pt_cmpR op_gt (pe_callB call_len_seq (by rfl) ml PySem.boot_len (pa_cons (pv 1) pa_nil)) pe_int (nomark _)) (pe_callTy call_tuple_of (by rfl) mt (by decide +kernel) (pa_cons (pv 1) pa_nil)) (pe_ix ix_list (pv 1) pe_int (fun _ _ => rfl))))))), ?_⟩
    refine ⟨_, rfl, ⟨_, rfl⟩, z, ",", rfl, rfl, by decide +kernel, Nat.le_trans (Nat.add_le_add_right hz 2) (by decide), fun p hp => ?_⟩
    have s1 : Same H (upd H p (.lst ((Txt.split z ",").map V.str))) := same_new hp
    have gp : (upd H p (.lst ((Txt.split z ",").map V.str))) p = some (.lst ((Txt.split z ",").map V.str)) := upd_same
    generalize upd H p (.lst ((Txt.split z ",").map V.str)) = H1 at s1 gp
    have hsh : ∀ y ∈ Txt.split z ",", y.length ≤ z.length := fun y m => split_short m
    have e0 : worthW z = if ((Txt.split z ",").any fun y => (numS y).isNone) = true then .none else if 1 < (Txt.split z ",").length then .tuple ((Txt.split z ",").map numD') else numD' ((Txt.split z ",").headD "") := rfl
    obtain ⟨l0, ln⟩ := splits_len (z := z) (y := ",") (by decide +kernel) (by decide +kernel)
    generalize Txt.split z "," = ps at gp hsh e0 ln l0
    refine ⟨p, rfl, ⟨_, SqL.of gp⟩, fun D hD => lc_list (K := K) (a := p) (xs := ps.map V.str) (fun i H' => Same H1 H' ∧ H' D = some (.lst ((ps.take i).map numV'))) ⟨same_new hD, upd_same⟩ (fun i H' _ pv => SqL.of (pv.1 _ _ gp)) (fun i y H' hy pv => ?_) fun H' pv => ?_⟩
    · rw [List.getElem?_map] at hy
      cases hj : ps[i]? with
      | none => rw [hj] at hy; cases hy
      | some b =>
        rw [hj] at hy
        cases hy
        have hi := (List.getElem?_eq_some_iff.mp hj).1
        refine ⟨rfl, _, rfl, b, rfl, Nat.le_trans (hsh b (List.mem_of_getElem? hj)) hz, fun H'' s'' => ⟨_, s'' _ _ pv.2, ?_, fun c o h => ?_, ?_⟩⟩
        · rw [List.length_map, List.length_take, sizeLine_eq]
          omega
        · rw [upd_ne (ne_of_none h hD)]; exact s'' _ _ (pv.1 _ _ h)
        · rw [upd_same, List.take_add_one, hj, List.map_append]
          rfl
    · rw [List.length_map, List.take_length] at pv
      obtain ⟨sH, gD⟩ := pv
      dsimp only [gName]
      have sHH := s1.trans sH
      refine ⟨_, rfl, D, _, rfl, .inl (SqL.of gD), rfl, flat_nums ps, _, rfl, ?_⟩
      rw [if_neg Bool.false_ne_true, in_nums]
      cases hn : ps.any fun y => (numS y).isNone with
      | true =>
        rw [hn, if_pos rfl] at e0
        refine iteT (q _ _ sHH ?_)
        rw [e0]
        exact .non
      | false =>
      rw [hn, if_neg Bool.false_ne_true] at e0
      refine iteF ?_
      refine ⟨_, rfl, D, _, rfl, .inl (SqL.of gD), _, _, rfl, rfl, _, rfl, ?_⟩
      by_cases l1 : 1 < ps.length
      · refine iteB (decide_eq_true (by rw [List.length_map]; omega)) ?_
        rw [if_pos l1] at e0
        refine ⟨_, rfl, D, _, rfl, .inl ⟨SqL.of gD, fun t ht => q _ _ (sHH.trans (same_new ht)) ?_⟩⟩
        rw [e0]
        exact .tup upd_same (sHH.free ht) (sh_nums ps)
      · refine iteN (decide_eq_false (by rw [List.length_map]; omega)) ?_
        rw [if_neg l1] at e0
        match ps, l0 with
        | y :: r, _ =>
          refine ⟨_, rfl, D, _, 0, numV' y, rfl, rfl, SqL.of gD, atI_nat (j := 0) rfl, q _ _ sHH ?_⟩
          rw [e0]
          exact sh_num y
end
end K7
end Bf

namespace Bf
open PySem PySem.Spec PyProof.Rows L2
namespace K7
section
variable {P : Program} {w : World} {K : PySem.W.Frag} {mg : Str → Option Value} {base : Heap}
def brack (ws : List Str) : Str := "(" ++ Txt.join " " ws ++ ")"
def spBr (K : PySem.W.Frag) : Sp := fun vs H Q _ => ∃ (a : Addr) (ws : List Str), vs = [.ref a] ∧ SqL K H a (ws.map V.str) ∧ (ws.map (·.length)).sum + ws.length ≤ 1000000 ∧ Q (.str (brack ws)) H
theorem scBr : FnScope ["words"] ["words"] (defScope sBrack) := ⟨rfl, rfl, rfl, by decide +kernel, rfl, by decide +kernel, by decide +kernel⟩
theorem ok_br {f : Addr} {fd : FuncData} (F : Fun K "_bracketed" "_bracketed" sBrack f fd) : FnOk P w K mg base CX0 1 f fd ["words"] (spBr K) := by
  refine F.ok scBr (fun vs H Q E h => ?_) (fun cdv A outer s H vs Q E hr h => ?_)
  · obtain ⟨a, ws, rfl, _⟩ := h
    rfl
  · obtain ⟨a, ws, rfl, hS, hl, q⟩ := h
    refine ⟨_, (pss_one (ps_ret (pe_op op_add_str (pe_op op_add_str pe_str (pe_join pe_str (pv 0))) pe_str))), ?_⟩
    have lj : (Txt.join " " ws).length ≤ 1000000 := by
      have e := size_glued " " ws
      have e1 : (" " : Str).length = 1 := by decide +kernel
      rw [e1] at e
      show (Builtin.Str.glued " " ws).length ≤ _
      omega
    have e1 : (" " : Str).length = 1 := by decide +kernel
    have e2 : ("(" : Str).length = 1 := by decide +kernel
    have e3 : (")" : Str).length = 1 := by decide +kernel
    refine ⟨⟨_, rfl⟩, _, rfl, " ", a, ws, rfl, rfl, .inl hS, ?_, _, _, rfl, rfl, ?_, _, _, rfl, rfl, ?_, q⟩
    · rw [e1]
      omega
    · rw [sizeLine_eq, e2]
      omega
    · rw [strLen_append, sizeLine_eq, e2, e3]
      omega
end
end K7
end Bf

namespace Bf
open PySem PySem.Spec PyProof.Rows L2
namespace K7
section
variable {P : Program} {w : World} {K : PySem.W.Frag} {mg : Str → Option Value} {base : Heap}
theorem daAll_ints {H : Hp} : ∀ {is : List Int} {xs : List V}, DaAll H xs (is.map PyData.int) → xs = is.map V.int
  | [], _, h => by cases h; rfl
  | i :: r, _, h => by
    cases h with
    | cons h1 h2 =>
      cases h1
      rw [daAll_ints h2]
      rfl
theorem int_len {i : Int} (a : 0 ≤ i) (b : i ≤ 1000) : (Str.ofString (toString i)).length ≤ 13 := by
  have h : (PyData.shown (.int i)).length ≤ 13 := PyData.shown_int_le (by omega)
  simpa only [PyData.shown] using h
theorem int_log {i : Int} (a : 0 ≤ i) (b : i ≤ 1000) : i.natAbs.log2 < 1920 := by
  rcases Nat.eq_zero_or_pos i.natAbs with z | z
  · rw [z]; decide
  · exact (Nat.log2_lt (by omega)).mpr (Nat.lt_of_le_of_lt (show i.natAbs ≤ 1000 by omega) (Nat.lt_of_lt_of_le (show 1000 < 2 ^ 10 by decide) (Nat.pow_le_pow_right (by decide) (by decide))))
/-- a worth, as it is written -/
def wWorth : PyData → Str
  | .tuple ds => Txt.join "," (ds.map fun d => match d with | .int i => Str.ofString (toString i) | _ => "")
  | .int i => Str.ofString (toString i)
  | _ => ""
def spWw : Sp := fun vs H Q _ => ∃ (x : V) (d : PyData), vs = [x] ∧ Da H x d ∧ ((∃ i : Int, d = .int i ∧ 0 ≤ i ∧ i ≤ 1000) ∨ ∃ is : List Int, d = .tuple (is.map PyData.int) ∧ is.length ≤ 10 ∧ ∀ i ∈ is, 0 ≤ i ∧ i ≤ 1000) ∧ ∀ H', Same H H' → Q (.str (wWorth d)) H'
abbrev nWw : List Str := ["worth", "one"]
theorem scWw : FnScope nWw ["worth"] (defScope sWWorth) := ⟨rfl, rfl, rfl, by decide +kernel, rfl, by decide +kernel, by decide +kernel⟩
theorem ok_ww {f : Addr} {fd : FuncData} (F : Fun K "written_worth" "written_worth" sWWorth f fd) (mi : mg "isinstance" = none) (mt : mg "tuple" = none) (ms : mg "str" = none) : FnOk P w K mg base CX0 1 f fd ["worth"] spWw := by
  refine F.ok scWw (fun vs H Q E h => ?_) (fun cdv A outer s H vs Q E hr h => ?_)
  · obtain ⟨x, d, rfl, _⟩ := h
    rfl
  · obtain ⟨x, d, rfl, da, hd, q⟩ := h
    refine ⟨_, (pss_cons (ps_if (pt_val (pe_callB call_isi (by rfl) mi (by decide +kernel) (pa_cons (pv 0) (pa_cons (pe_bltn (v := .ty "tuple") (by rfl) mt (by decide +kernel) rfl) pa_nil)))) (pss_one (ps_ret (pe_join pe_str (pe_lc (own := [("one", 1)]) (g := gName 1) (tt := tYes) rfl scWw.nd (pi_tup (pv 0)) (blkOk_by (N := nWw) (sc := defScope sWWorth) (by decide +kernel)) (fun _ _ _ _ _ => pg_name (i := 1) scWw.nd rfl (Or.inl rfl)) (fun _ _ _ _ _ => pts_nil) (fun _ _ _ _ _ => (pe_callTy call_str_int (by rfl) ms (by decide +kernel) (pa_cons (pv 1) pa_nil))))))) pss_nil)
        (pss_one (ps_ret (pe_callTy call_str_int (by rfl) ms (by decide +kernel) (pa_cons (pv 0) pa_nil))))), ?_⟩
    refine ⟨_, rfl, x, .ty "tuple", _, _, _, rfl, .ty "tuple", da.kn.ty, kit_ty (kit_tup d), _, rfl, ?_⟩
    rcases hd with ⟨i, rfl, i0, i1⟩ | ⟨is, rfl, l10, hi⟩
    · cases da
      refine iteF ⟨_, rfl, i, rfl, int_log i0 i1, q _ (Same.refl _)⟩
    · cases da with
      | tup h hz r =>
        have ex := daAll_ints r
        subst ex
        refine iteT ⟨⟨_, rfl⟩, _, rfl, _, rfl, ⟨_, SqT.of h⟩, fun D hD => lc_tup (K := K) (xs := is.map V.int) (fun j H' => Same H H' ∧ H' D = some (.lst (((is.take j).map fun i => Str.ofString (toString i)).map V.str))) ⟨same_new hD, upd_same⟩
          (fun j H' _ pv => SqT.of (pv.1 _ _ h)) (fun j y H' hy pv => ?_) fun H' pv => ?_⟩
        · rw [List.getElem?_map] at hy
          cases hj : is[j]? with
          | none => rw [hj] at hy; cases hy
          | some b =>
            rw [hj] at hy
            cases hy
            obtain ⟨b0, b1⟩ := hi b (List.mem_of_getElem? hj)
            refine ⟨rfl, _, rfl, b, rfl, int_log b0 b1, _, pv.2, ?_, fun c o e => ?_, ?_⟩
            · rw [List.length_map, List.length_map, List.length_take, sizeLine_eq]
              omega
            · rw [upd_ne (ne_of_none e hD)]
              exact pv.1 _ _ e
            · rw [upd_same, List.take_add_one, hj, List.map_append, List.map_append]
              rfl
        · rw [List.length_map, List.take_length] at pv
          refine ⟨",", D, _, rfl, rfl, .inl (SqL.of pv.2), ?_, ?_⟩
          · have s13 : ∀ l : List Int, (∀ i ∈ l, 0 ≤ i ∧ i ≤ 1000) → ((l.map fun i => Str.ofString (toString i)).map (·.length)).sum ≤ 13 * l.length := by
              intro l
              induction l with
              | nil => intro _; exact Nat.le_refl _
              | cons a r ih =>
                intro h
                have h1 := ih fun x m => h x (List.mem_cons_of_mem _ m)
                have h2 := int_len (h a List.mem_cons_self).1 (h a List.mem_cons_self).2
                rw [List.map_cons, List.map_cons, List.sum_cons, List.length_cons]
                omega
            have := s13 is hi
            have e1 : ("," : Str).length = 1 := by decide +kernel
            rw [List.length_map, e1]
            omega
          · have e : wWorth (.tuple (is.map PyData.int)) = Txt.join "," (is.map fun i => Str.ofString (toString i)) := by
              show Txt.join "," ((is.map PyData.int).map _) = _
              rw [List.map_map]
              rfl
            rw [← e]
            exact q _ pv.1
end
end K7
end Bf

namespace Bf
open PySem PySem.Spec PyProof.Rows L2
namespace K7
section
variable {P : Program} {w : World} {K : PySem.W.Frag} {mg : Str → Option Value} {base : Heap}
/-- a kind, as it is written -/
def wKind : PyData → Str
  | .tuple [.int i, .int j] => Str.empty ++ Str.ofString (toString i) ++ "x" ++ Str.ofString (toString j)
  | .int i => Str.ofString (toString i)
  | _ => ""
def spWk : Sp := fun vs H Q _ => ∃ (x : V) (d : PyData), vs = [x] ∧ Da H x d ∧ ((∃ i : Int, d = .int i ∧ 0 ≤ i ∧ i ≤ 1000) ∨ ∃ i j : Int, d = .tuple [.int i, .int j] ∧ (0 ≤ i ∧ i ≤ 1000) ∧ 0 ≤ j ∧ j ≤ 1000) ∧ Q (.str (wKind d)) H
theorem scWk : FnScope ["kind"] ["kind"] (defScope sWKind) := ⟨rfl, rfl, rfl, by decide +kernel, rfl, by decide +kernel, by decide +kernel⟩
theorem ok_wk {f : Addr} {fd : FuncData} (F : Fun K "_written_kind" "_written_kind" sWKind f fd) (mi : mg "isinstance" = none) (mt : mg "tuple" = none) (ms : mg "str" = none) : FnOk P w K mg base CX0 1 f fd ["kind"] spWk := by
  refine F.ok scWk (fun vs H Q E h => ?_) (fun cdv A outer s H vs Q E hr h => ?_)
  · obtain ⟨x, d, rfl, _⟩ := h
    rfl
  · obtain ⟨x, d, rfl, da, hd, q⟩ := h
    refine ⟨_, pss_one (ps_ret (pe_ifExp (pt_val (pe_callB call_isi (by rfl) mi (by decide +kernel) (pa_cons (pv 0) (pa_cons (pe_bltn (v := .ty "tuple") (by rfl) mt (by decide +kernel) rfl) pa_nil))))
      (pe_joined (PJ.cons (pe_fmt (pe_ix ix_tup (pv 0) pe_int (fun _ _ => rfl))) (PJ.cons pe_str (PJ.cons (pe_fmt (pe_ix ix_tup (pv 0) pe_int (fun _ _ => rfl))) .nil)))) (pe_callTy call_str_int (by rfl) ms (by decide +kernel) (pa_cons (pv 0) pa_nil)))), ?_⟩
    refine ⟨_, rfl, x, .ty "tuple", _, _, _, rfl, .ty "tuple", da.kn.ty, kit_ty (kit_tup d), _, rfl, ?_⟩
    rcases hd with ⟨i, rfl, i0, i1⟩ | ⟨i, j, rfl, ⟨i0, i1⟩, j0, j1⟩
    · cases da
      exact iteF ⟨_, rfl, i, rfl, int_log i0 i1, q⟩
    · cases da with
      | tup h hz r =>
        cases r with
        | cons h1 r =>
        cases r with
        | cons h2 r =>
        cases r
        cases h1
        cases h2
        have li := int_len i0 i1
        have lj := int_len j0 j1
        have ex : ("x" : Str).length = 1 := by decide +kernel
        have ee : (Str.empty : Str).length = 0 := by decide +kernel
        refine iteT ⟨_, rfl, _, _, 0, _, rfl, rfl, SqT.of h, rfl, .inr ⟨i, rfl, int_log i0 i1, _, rfl, ?_, _, rfl, ?_, _, rfl, _, _, 1, _, rfl, rfl, SqT.of h, rfl, .inr ⟨j, rfl, int_log j0 j1, _, rfl, ?_, q⟩⟩⟩
        · rw [strLen_append, sizeLine_eq]
          omega
        · rw [strLen_append, strLen_append, sizeLine_eq]
          omega
        · rw [strLen_append, strLen_append, strLen_append, sizeLine_eq]
          omega
end
end K7
end Bf

namespace Bf
namespace T
open PySem
/-! ### words: brackets ahead, something within, brackets behind -/
def core (w : List Nat) : List Nat := w.dropWhile (· == 40)
def inn (w : List Nat) : List Nat := ((core w).reverse.dropWhile (· == 41)).reverse
def nO (w : List Nat) : Nat := w.length - (core w).length
def nS (w : List Nat) : Nat := (core w).length - (inn w).length
theorem dw_len (p : Nat → Bool) : ∀ l : List Nat, (l.dropWhile p).length ≤ l.length
  | [] => Nat.le_refl _
  | a :: r => by
    rw [List.dropWhile_cons]
    split
    · have := dw_len p r
      rw [List.length_cons]
      omega
    · exact Nat.le_refl _
theorem tw_rep (c : Nat) : ∀ l : List Nat, l.takeWhile (· == c) = List.replicate (l.length - (l.dropWhile (· == c)).length) c
  | [] => rfl
  | a :: r => by
    have ih := tw_rep c r
    have hl := dw_len (· == c) r
    rw [List.takeWhile_cons, List.dropWhile_cons]
    by_cases h : (a == c) = true
    · rw [if_pos h, if_pos h, ih, List.length_cons, eq_of_beq h, Nat.succ_sub hl, List.replicate_succ]
    · rw [if_neg h, if_neg h, Nat.sub_self]
      rfl
theorem core_eq (w : List Nat) : w = List.replicate (nO w) 40 ++ core w := by
  have e : w.takeWhile (· == 40) ++ w.dropWhile (· == 40) = w := List.takeWhile_append_dropWhile
  rw [tw_rep] at e
  exact e.symm
theorem inn_len (w : List Nat) : (inn w).length ≤ (core w).length := by
  unfold inn
  rw [List.length_reverse]
  have := dw_len (· == 41) (core w).reverse
  rw [List.length_reverse] at this
  exact this
theorem core_len (w : List Nat) : (core w).length ≤ w.length := dw_len _ w
theorem inn_eq (w : List Nat) : core w = inn w ++ List.replicate (nS w) 41 := by
  have e : (core w).reverse.takeWhile (· == 41) ++ (core w).reverse.dropWhile (· == 41) = (core w).reverse := List.takeWhile_append_dropWhile
  rw [tw_rep] at e
  have e2 := congrArg List.reverse e
  rw [List.reverse_append, List.reverse_reverse, List.reverse_replicate, List.length_reverse] at e2
  have e3 : (((core w).reverse.dropWhile (· == 41))).length = (inn w).length := by
    unfold inn
    rw [List.length_reverse]
  rw [e3] at e2
  exact e2.symm
theorem word_eq (w : List Nat) : w = List.replicate (nO w) 40 ++ (inn w ++ List.replicate (nS w) 41) := by
  rw [← inn_eq]
  exact core_eq w
theorem core_open (w : List Nat) : core (40 :: w) = core w := rfl
theorem inn_open (w : List Nat) : inn (40 :: w) = inn w := rfl
theorem nS_open (w : List Nat) : nS (40 :: w) = nS w := rfl
theorem nO_open (w : List Nat) : nO (40 :: w) = nO w + 1 := by
  have := core_len w
  show (40 :: w).length - (core w).length = w.length - (core w).length + 1
  rw [List.length_cons]
  omega
theorem core_ne {w : List Nat} (h : inn w ≠ []) : core w ≠ [] := fun e => h (by unfold inn; rw [e]; rfl)
theorem core_shut {w : List Nat} (h : inn w ≠ []) : core (w ++ [41]) = core w ++ [41] := by
  have hc := core_ne h
  unfold core at hc ⊢
  rw [List.dropWhile_append, if_neg]
  intro e
  exact hc (List.isEmpty_iff.mp e)
theorem inn_shut {w : List Nat} (h : inn w ≠ []) : inn (w ++ [41]) = inn w := by
  unfold inn
  rw [core_shut h, List.reverse_append]
  rfl
theorem nO_shut {w : List Nat} (h : inn w ≠ []) : nO (w ++ [41]) = nO w := by
  unfold nO
  rw [core_shut h, List.length_append, List.length_append]
  show w.length + 1 - ((core w).length + 1) = _
  omega
theorem nS_shut {w : List Nat} (h : inn w ≠ []) : nS (w ++ [41]) = nS w + 1 := by
  have := inn_len w
  unfold nS
  rw [core_shut h, inn_shut h, List.length_append]
  show (core w).length + 1 - (inn w).length = _
  omega
theorem core_plain {w : List Nat} (h : 40 ∉ w) : core w = w := by
  cases w with
  | nil => rfl
  | cons a r =>
    show (a :: r).dropWhile (· == 40) = _
    rw [List.dropWhile_cons, if_neg]
    intro e
    exact h (by rw [eq_of_beq e]; exact List.mem_cons_self)
theorem inn_plain {w : List Nat} (h : 40 ∉ w) (h2 : 41 ∉ w) : inn w = w := by
  unfold inn
  rw [core_plain h]
  cases e : w.reverse with
  | nil =>
    have := congrArg List.reverse e
    rw [List.reverse_reverse] at this
    rw [this]
    rfl
  | cons a r =>
    rw [List.dropWhile_cons, if_neg, ← e, List.reverse_reverse]
    intro e2
    have m : a ∈ w.reverse := by rw [e]; exact List.mem_cons_self
    rw [eq_of_beq e2] at m
    exact h2 (List.mem_reverse.mp m)
theorem nO_plain {w : List Nat} (h : 40 ∉ w) : nO w = 0 := by
  unfold nO
  rw [core_plain h, Nat.sub_self]
theorem nS_plain {w : List Nat} (h : 40 ∉ w) (h2 : 41 ∉ w) : nS w = 0 := by
  unfold nS
  rw [core_plain h, inn_plain h h2, Nat.sub_self]
/-! ### what a word is that may stand in a text that is read -/
structure Good (w : List Nat) : Prop where
  ne : inn w ≠ []
  no40 : 40 ∉ inn w
  no41 : 41 ∉ inn w
theorem rep_mem {a b n : Nat} (h : a ∈ List.replicate n b) : a = b := (List.mem_replicate.mp h).2
theorem Good.at40 {w : List Nat} (g : Good w) {i : Nat} (h : w[i]? = some 40) : i < nO w := by
  by_cases hi : i < nO w
  · exact hi
  · exfalso
    rw [word_eq w, List.getElem?_append_right (by rw [List.length_replicate]; omega)] at h
    rcases List.mem_append.mp (List.mem_of_getElem? h) with m | m
    · exact g.no40 m
    · exact absurd (rep_mem m) (by decide)
theorem Good.is40 {w : List Nat} (_ : Good w) {i : Nat} (h : i < nO w) : w[i]? = some 40 := by
  rw [word_eq w, List.getElem?_append_left (by rw [List.length_replicate]; exact h), List.getElem?_replicate, if_pos h]
theorem Good.at41 {w : List Nat} (g : Good w) {i : Nat} (h : w[i]? = some 41) : nO w + (inn w).length ≤ i := by
  by_cases hi : nO w + (inn w).length ≤ i
  · exact hi
  · exfalso
    rw [word_eq w] at h
    by_cases h1 : i < nO w
    · rw [List.getElem?_append_left (by rw [List.length_replicate]; exact h1), List.getElem?_replicate, if_pos h1] at h
      exact absurd (Option.some.inj h) (by decide)
    · rw [List.getElem?_append_right (by rw [List.length_replicate]; omega), List.length_replicate, List.getElem?_append_left (by omega)] at h
      exact g.no41 (List.mem_of_getElem? h)
theorem Good.len {w : List Nat} (_ : Good w) : w.length = nO w + (inn w).length + nS w := by
  have e := congrArg List.length (word_eq w)
  rw [List.length_append, List.length_append, List.length_replicate, List.length_replicate] at e
  omega
theorem Good.is41 {w : List Nat} (g : Good w) {i : Nat} (h : nO w + (inn w).length ≤ i) (h2 : i < w.length) : w[i]? = some 41 := by
  have hl := g.len
  rw [word_eq w, List.getElem?_append_right (by rw [List.length_replicate]; omega), List.length_replicate, List.getElem?_append_right (by omega), List.getElem?_replicate, if_pos (by omega)]
theorem Good.inn_pos {w : List Nat} (g : Good w) : 0 < (inn w).length := List.length_pos_iff.mpr g.ne
theorem at_app {a b : List Nat} {x : Nat} : (a ++ x :: b)[a.length]? = some x := by
  rw [List.getElem?_append_right (Nat.le_refl _), Nat.sub_self]
  rfl
theorem at_app1 {a b : List Nat} {x y : Nat} : (a ++ x :: y :: b)[a.length + 1]? = some y := by
  rw [List.getElem?_append_right (by omega), show a.length + 1 - a.length = 1 by omega]
  rfl
theorem Good.open_ahead {w a b : List Nat} {x : Nat} (g : Good w) (e : w = a ++ x :: 40 :: b) : x = 40 := by
  have h : w[a.length + 1]? = some 40 := by rw [e]; exact at_app1
  have h2 := g.is40 (i := a.length) (by have := g.at40 h; omega)
  rw [e, at_app] at h2
  exact Option.some.inj h2
theorem Good.shut_behind {w a b : List Nat} {y : Nat} (g : Good w) (e : w = a ++ 41 :: y :: b) : y = 41 := by
  have h : w[a.length]? = some 41 := by rw [e]; exact at_app
  have hl : w.length = a.length + (b.length + 1 + 1) := by rw [e, List.length_append, List.length_cons, List.length_cons]
  have h2 := g.is41 (i := a.length + 1) (by have := g.at41 h; omega) (by omega)
  rw [e, at_app1] at h2
  exact Option.some.inj h2
theorem Good.no_open_end {w a : List Nat} (g : Good w) (e : w = a ++ [40]) : False := by
  have h : w[a.length]? = some 40 := by rw [e]; exact at_app
  have hl : w.length = a.length + 1 := by rw [e, List.length_append]; rfl
  have := g.at40 h
  have := g.len
  have := g.inn_pos
  omega
theorem Good.no_shut_start {w b : List Nat} (g : Good w) (e : w = 41 :: b) : False := by
  have h : w[0]? = some 41 := by rw [e]; rfl
  have := g.at41 h
  have := g.inn_pos
  omega
theorem Good.no_41_40 {w a b : List Nat} (g : Good w) (e : w = a ++ 41 :: 40 :: b) : False := absurd (g.open_ahead e) (by decide)
theorem Good.count40 {w : List Nat} (g : Good w) : w.count 40 = nO w := by
  rw [word_eq w, List.count_append, List.count_append, List.count_replicate_self, List.count_eq_zero.mpr g.no40, List.count_replicate]
  rw [← word_eq w]
  simp
theorem Good.count41 {w : List Nat} (g : Good w) : w.count 41 = nS w := by
  rw [word_eq w, List.count_append, List.count_append, List.count_replicate_self, List.count_eq_zero.mpr g.no41, List.count_replicate]
  rw [← word_eq w]
  simp
end T
end Bf

namespace Bf
namespace T
open PySem SX
/-! ### a text, cut at its blanks -/
def cutB : List Nat → List (List Nat)
  | [] => [[]]
  | c :: r => if c = 32 then [] :: cutB r else match cutB r with
    | [] => [[c]]
    | w :: ws => (c :: w) :: ws
theorem cutB_ne : ∀ l, ∃ w ws, cutB l = w :: ws
  | [] => ⟨_, _, rfl⟩
  | c :: r => by
    obtain ⟨w, ws, e⟩ := cutB_ne r
    unfold cutB
    rw [e]
    split
    · exact ⟨_, _, rfl⟩
    · exact ⟨_, _, rfl⟩
theorem cutB_blank (r : List Nat) : cutB (32 :: r) = [] :: cutB r := by
  show (if (32 : Nat) = 32 then [] :: cutB r else _) = _
  rw [if_pos rfl]
theorem cutB_sign {c : Nat} {r w : List Nat} {ws : List (List Nat)} (h : c ≠ 32) (e : cutB r = w :: ws) : cutB (c :: r) = (c :: w) :: ws := by
  show (if c = 32 then [] :: cutB r else match cutB r with | [] => [[c]] | w :: ws => (c :: w) :: ws) = _
  rw [if_neg h, e]
theorem spl_cut : ∀ (l acc : List Nat) {w : List Nat} {ws : List (List Nat)}, cutB l = w :: ws → TL.spl [32] 0 acc l = (acc ++ w) :: ws
  | [], acc, w, ws, e => by
    cases e
    rw [TL.spl_nil, List.append_nil]
  | c :: r, acc, w, ws, e => by
    obtain ⟨w', ws', e'⟩ := cutB_ne r
    by_cases h : c = 32
    · subst h
      rw [cutB_blank, e'] at e
      cases e
      rw [TL.spl_hit (by rfl), List.append_nil]
      exact congrArg _ (spl_cut r [] e')
    · rw [cutB_sign h e'] at e
      cases e
      rw [TL.spl_miss (TL.pre_of_head _ _ h), spl_cut r _ e', List.append_assoc]
      rfl
theorem split_cut (l : List Nat) : Txt.split (S l) " " = (cutB l).map S := by
  have e0 : (" " : Str) = S [32] := by decide +kernel
  obtain ⟨w, ws, e⟩ := cutB_ne l
  rw [e0, split_S (by decide) (by decide), spl_cut l [] e, e, List.nil_append]
theorem cutB_app : ∀ (a b : List Nat), cutB (a ++ 32 :: b) = cutB a ++ cutB b
  | [], b => by rw [List.nil_append, cutB_blank]; rfl
  | c :: r, b => by
    have ih := cutB_app r b
    obtain ⟨w, ws, e⟩ := cutB_ne r
    by_cases h : c = 32
    · subst h
      rw [List.cons_append, cutB_blank, cutB_blank, ih]
      rfl
    · rw [e] at ih
      rw [List.cons_append, cutB_sign h ih, cutB_sign h e]
      rfl
theorem cutB_one : ∀ {w : List Nat}, 32 ∉ w → cutB w = [w]
  | [], _ => rfl
  | c :: r, h => cutB_sign (fun e => h (by rw [e]; exact List.mem_cons_self)) (cutB_one fun m => h (List.mem_cons_of_mem _ m))
theorem cutB_join : ∀ {ws : List (List Nat)}, ws ≠ [] → (∀ w ∈ ws, 32 ∉ w) → cutB (TL.joinL [32] ws) = ws
  | [], h, _ => absurd rfl h
  | [w], _, hw => cutB_one (hw w List.mem_cons_self)
  | w :: v :: r, _, hw => by
    show cutB (w ++ 32 :: TL.joinL [32] (v :: r)) = _
    rw [cutB_app, cutB_one (hw w List.mem_cons_self), cutB_join (by simp) fun x m => hw x (List.mem_cons_of_mem _ m)]
    rfl
/-- the words of a text: what stands between its blanks, less what is empty -/
def words (l : List Nat) : List (List Nat) := (cutB l).filter (fun w => !w.isEmpty)
theorem words_app (a b : List Nat) : words (a ++ 32 :: b) = words a ++ words b := by
  unfold words
  rw [cutB_app, List.filter_append]
theorem words_nil : words [] = [] := rfl
theorem words_blank (b : List Nat) : words (32 :: b) = words b := words_app [] b
theorem words_blanks (b : List Nat) : ∀ n, words (List.replicate n 32 ++ b) = words b
  | 0 => rfl
  | n + 1 => by
    rw [List.replicate_succ, List.cons_append, words_blank]
    exact words_blanks b n
theorem words_join {ws : List (List Nat)} (hw : ∀ w ∈ ws, w ≠ [] ∧ 32 ∉ w) : words (TL.joinL [32] ws) = ws := by
  cases ws with
  | nil => rfl
  | cons w r =>
    unfold words
    rw [cutB_join (by simp) fun x m => (hw x m).2]
    exact List.filter_eq_self.mpr fun x m => by
      have := (hw x m).1
      cases x with
      | nil => exact absurd rfl this
      | cons _ _ => rfl
/-- blanks behind blanks -/
inductive Spr : List Nat → List Nat → Prop
  | nil : Spr [] []
  | sign {a b : List Nat} {c : Nat} (h : Spr a b) : Spr (a ++ [c]) (b ++ [c])
  | more {a b : List Nat} {n : Nat} (h : Spr a b) : Spr (a ++ [32]) ((b ++ [32]) ++ List.replicate n 32)
theorem Spr.words {a b : List Nat} (h : Spr a b) : ∀ r, T.words (b ++ r) = T.words (a ++ r) := by
  induction h with
  | nil => exact fun _ => rfl
  | @sign a b c _ ih =>
    intro r
    rw [List.append_assoc, List.append_assoc]
    exact ih ([c] ++ r)
  | @more a b n _ ih =>
    intro r
    rw [List.append_assoc, List.append_assoc, List.append_assoc, ih]
    show T.words (a ++ 32 :: (List.replicate n 32 ++ r)) = T.words (a ++ 32 :: r)
    rw [words_app, words_app, words_blanks]
theorem words_tail (a : List Nat) (n : Nat) : words (a ++ List.replicate n 32) = words a := by
  cases n with
  | zero => rw [List.replicate_zero, List.append_nil]
  | succ n =>
    rw [List.replicate_succ, words_app]
    have := words_blanks [] n
    rw [List.append_nil] at this
    rw [this, words_nil, List.append_nil]
theorem Spr.whole {a b : List Nat} (h : Spr a b) (i j : Nat) : T.words (List.replicate i 32 ++ (b ++ List.replicate j 32)) = T.words a := by
  rw [words_blanks, words_tail]
  have := h.words []
  rw [List.append_nil, List.append_nil] at this
  exact this
/-! ### the word that stands around a place -/
theorem last_blank : ∀ a : List Nat, ∃ a', 32 ∉ a' ∧ (a' = a ∨ ∃ z, a = z ++ 32 :: a')
  | [] => ⟨[], List.not_mem_nil, .inl rfl⟩
  | c :: r => by
    obtain ⟨a', n, h⟩ := last_blank r
    rcases h with h | ⟨z, h⟩
    · by_cases e : c = 32
      · subst e
        exact ⟨a', n, .inr ⟨[], by rw [h]; rfl⟩⟩
      · refine ⟨c :: a', fun m => ?_, .inl (by rw [h])⟩
        rcases List.mem_cons.mp m with m | m
        · exact e m.symm
        · exact n m
    · exact ⟨a', n, .inr ⟨c :: z, by rw [h]; rfl⟩⟩
theorem first_blank : ∀ b : List Nat, ∃ b', 32 ∉ b' ∧ (b' = b ∨ ∃ z, b = b' ++ 32 :: z)
  | [] => ⟨[], List.not_mem_nil, .inl rfl⟩
  | c :: r => by
    by_cases e : c = 32
    · subst e
      exact ⟨[], List.not_mem_nil, .inr ⟨r, rfl⟩⟩
    · obtain ⟨b', n, h⟩ := first_blank r
      refine ⟨c :: b', fun m => ?_, ?_⟩
      · rcases List.mem_cons.mp m with m | m
        · exact e m.symm
        · exact n m
      · rcases h with h | ⟨z, h⟩
        · exact .inl (by rw [h])
        · exact .inr ⟨z, by rw [h]; rfl⟩
theorem word_at (a m b : List Nat) (hm : 32 ∉ m) : ∃ a' b', a' ++ m ++ b' ∈ cutB (a ++ m ++ b) ∧ (a' = a ∨ ∃ z, a = z ++ 32 :: a') ∧ (b' = b ∨ ∃ z, b = b' ++ 32 :: z) := by
  obtain ⟨a', na, ha⟩ := last_blank a
  obtain ⟨b', nb, hb⟩ := first_blank b
  refine ⟨a', b', ?_, ha, hb⟩
  have nw : 32 ∉ a' ++ m ++ b' := fun h => by
    rcases List.mem_append.mp h with h | h
    · rcases List.mem_append.mp h with h | h
      · exact na h
      · exact hm h
    · exact nb h
  have mid : a' ++ m ++ b' ∈ cutB (a' ++ m ++ b) := by
    rcases hb with rfl | ⟨z, rfl⟩
    · rw [cutB_one nw]
      exact List.mem_singleton.mpr rfl
    · rw [← List.append_assoc, cutB_app, cutB_one nw]
      exact List.mem_append_left _ (List.mem_singleton.mpr rfl)
  rcases ha with rfl | ⟨z, rfl⟩
  · exact mid
  · rw [List.append_assoc, List.append_assoc, List.cons_append, cutB_app, ← List.append_assoc]
    exact List.mem_append_right _ mid
theorem word_in {l a m b : List Nat} (e : l = a ++ m ++ b) (hm : 32 ∉ m) (hn : m ≠ []) : ∃ a' b', a' ++ m ++ b' ∈ words l ∧ (a' = a ∨ ∃ z, a = z ++ 32 :: a') ∧ (b' = b ∨ ∃ z, b = b' ++ 32 :: z) := by
  obtain ⟨a', b', h, ha, hb⟩ := word_at a m b hm
  refine ⟨a', b', List.mem_filter.mpr ⟨by rw [e]; exact h, ?_⟩, ha, hb⟩
  cases m with
  | nil => exact absurd rfl hn
  | cons c r =>
    cases a' <;> rfl
/-! ### what no text has that is read -/
/-- all words may stand -/
def AllGood (l : List Nat) : Prop := ∀ w ∈ words l, Good w
theorem AllGood.pair {l a b : List Nat} {x y : Nat} (g : AllGood l) (e : l = a ++ [x, y] ++ b) (hx : x ≠ 32) (hy : y ≠ 32) : (y = 40 → x = 40) ∧ (x = 41 → y = 41) := by
  obtain ⟨a', b', h, _, _⟩ := word_in e (fun m => by
    rcases List.mem_cons.mp m with m | m
    · exact hx m.symm
    · exact hy (List.mem_singleton.mp m).symm) (by simp)
  have gw := g _ h
  have e1 : a' ++ [x, y] ++ b' = a' ++ x :: y :: b' := by rw [List.append_assoc]; rfl
  refine ⟨fun e2 => ?_, fun e2 => ?_⟩
  · subst e2
    exact gw.open_ahead e1
  · subst e2
    exact gw.shut_behind e1
theorem cut_free : ∀ {l w : List Nat}, w ∈ cutB l → 32 ∉ w
  | [], w, hw => by
    rw [List.mem_singleton.mp hw]
    exact List.not_mem_nil
  | c :: r, w, hw => by
    obtain ⟨v, vs, ev⟩ := cutB_ne r
    have ih : ∀ {w}, w ∈ cutB r → 32 ∉ w := fun h => cut_free h
    by_cases hc : c = 32
    · subst hc
      rw [cutB_blank] at hw
      rcases List.mem_cons.mp hw with rfl | hw
      · exact List.not_mem_nil
      · exact ih hw
    · rw [cutB_sign hc ev] at hw
      rw [ev] at ih
      rcases List.mem_cons.mp hw with rfl | hw
      · intro mm
        rcases List.mem_cons.mp mm with mm | mm
        · exact hc mm.symm
        · exact ih List.mem_cons_self mm
      · exact ih (List.mem_cons_of_mem _ hw)
theorem words_free {l w : List Nat} (h : w ∈ words l) : 32 ∉ w := cut_free (List.mem_filter.mp h).1
theorem words_ne {l w : List Nat} (h : w ∈ words l) : w ≠ [] := fun e => by
  have := (List.mem_filter.mp h).2
  rw [e] at this
  cases this
theorem end_of {w b b' : List Nat} (h : 32 ∉ w ++ b') (hb : b' = b ∨ ∃ z, b = b' ++ 32 :: z) (e : b = [] ∨ ∃ z, b = 32 :: z) : b' = [] := by
  cases b' with
  | nil => rfl
  | cons c r =>
    exfalso
    have n : c ≠ 32 := fun e => h (List.mem_append_right _ (by rw [e]; exact List.mem_cons_self))
    rcases hb with hb | ⟨z, hb⟩
    · rcases e with e | ⟨z, e⟩
      · rw [e] at hb; cases hb
      · rw [e] at hb; exact n (List.cons.inj hb).1
    · rcases e with e | ⟨z', e⟩
      · rw [e] at hb; cases hb
      · rw [e] at hb; exact n (List.cons.inj hb).1.symm
theorem start_of {w a a' : List Nat} (h : 32 ∉ a' ++ w) (ha : a' = a ∨ ∃ z, a = z ++ 32 :: a') (e : a = [] ∨ ∃ z, a = z ++ [32]) : a' = [] := by
  have key : ∀ (x y : List Nat), 32 ∉ y → (∃ z, x ++ y = z ++ [32]) → y = [] := by
    intro x y n ⟨z, e⟩
    rcases List.eq_nil_or_concat y with rfl | ⟨r, c, rfl⟩
    · rfl
    · exfalso
      rw [List.concat_eq_append, ← List.append_assoc] at e
      have := List.append_inj_right' e rfl
      refine n ?_
      rw [List.concat_eq_append, this]
      exact List.mem_append_right _ List.mem_cons_self
  have n : 32 ∉ a' := fun m => h (List.mem_append_left _ m)
  rcases e with e | e
  · rcases ha with ha | ⟨z, ha⟩
    · rw [ha, e]
    · rw [e] at ha
      simp at ha
  · rcases ha with ha | ⟨z, ha⟩
    · exact key [] a' n (by rw [List.nil_append, ha]; exact e)
    · refine key (z ++ [32]) a' n ?_
      rw [List.append_assoc]
      show ∃ y, z ++ 32 :: a' = y ++ [32]
      rw [← ha]
      exact e
/-- an opening bracket ahead of a blank or of the end -/
theorem AllGood.open_blank {l a b : List Nat} (g : AllGood l) (e : l = a ++ 40 :: b) (hb : b = [] ∨ ∃ z, b = 32 :: z) : False := by
  obtain ⟨a', b', h, _, hb'⟩ := word_in (l := l) (a := a) (m := [40]) (b := b) (by rw [e, List.append_assoc]; rfl) (by decide) (by simp)
  have gw := g _ h
  have : b' = [] := end_of (words_free h) hb' hb
  subst this
  exact gw.no_open_end (a := a') (by rw [List.append_nil])
/-- a closing bracket behind a blank or at the start -/
theorem AllGood.blank_shut {l a b : List Nat} (g : AllGood l) (e : l = a ++ 41 :: b) (ha : a = [] ∨ ∃ z, a = z ++ [32]) : False := by
  obtain ⟨a', b', h, ha', _⟩ := word_in (l := l) (a := a) (m := [41]) (b := b) (by rw [e, List.append_assoc]; rfl) (by decide) (by simp)
  have gw := g _ h
  have : a' = [] := start_of (w := [41] ++ b') (by rw [← List.append_assoc]; exact words_free h) ha' ha
  subst this
  exact gw.no_shut_start (b := b') rfl
theorem cut_count (c : Nat) (hc : c ≠ 32) : ∀ l : List Nat, l.count c = ((cutB l).map (·.count c)).sum
  | [] => rfl
  | x :: r => by
    have ih := cut_count c hc r
    obtain ⟨v, vs, ev⟩ := cutB_ne r
    by_cases h : x = 32
    · subst h
      rw [cutB_blank, List.map_cons, List.sum_cons, List.count_nil, Nat.zero_add, List.count_cons_of_ne (fun e => hc e.symm)]
      exact ih
    · rw [cutB_sign h ev]
      rw [ev] at ih
      rw [List.map_cons, List.sum_cons] at ih ⊢
      rw [List.count_cons, List.count_cons, ih]
      omega
theorem words_count (c : Nat) (hc : c ≠ 32) (l : List Nat) : l.count c = ((words l).map (·.count c)).sum := by
  rw [cut_count c hc l]
  unfold words
  generalize cutB l = ws
  induction ws with
  | nil => rfl
  | cons w r ih =>
    cases w with
    | nil =>
      rw [List.filter_cons_of_neg (by simp), List.map_cons, List.sum_cons, ih]
      show 0 + _ = _
      omega
    | cons a t => rw [List.filter_cons_of_pos (by rfl), List.map_cons, List.sum_cons, ih, List.map_cons, List.sum_cons]
theorem sum_congr {f g : List Nat → Nat} : ∀ {l : List (List Nat)}, (∀ w ∈ l, f w = g w) → (l.map f).sum = (l.map g).sum
  | [], _ => rfl
  | w :: r, h => by
    rw [List.map_cons, List.map_cons, List.sum_cons, List.sum_cons, h w List.mem_cons_self, sum_congr fun x m => h x (List.mem_cons_of_mem _ m)]
theorem AllGood.count40 {l : List Nat} (g : AllGood l) : l.count 40 = ((words l).map nO).sum := by
  rw [words_count 40 (by decide)]
  exact sum_congr fun w m => (g w m).count40
theorem AllGood.count41 {l : List Nat} (g : AllGood l) : l.count 41 = ((words l).map nS).sum := by
  rw [words_count 41 (by decide)]
  exact sum_congr fun w m => (g w m).count41
end T
end Bf

namespace Bf
namespace K7
open PySem PySem.Spec PyProof.Rows L2 T SX
/-! ### the reader's machine -/
def tupB : PyData → Bool
  | .tuple _ => true
  | _ => false
def SN : List Str := ["truth", "width", "bit", "place"]
def slotD (slot : Str) : PyData → PyData
  | .list l => .tuple l
  | .str z => if decide (V.str slot = V.str "kind") = true then kindW z else if decide (V.str slot = V.str "worth") = true then worthW z else if inV (.str slot) (SN.map V.str) = true then numD' z else
    if decide (V.str slot = V.str "every") = true then (if decide (V.str z = V.str "-") = true then .none else .str z) else .str z
  | d => d
def given (ss : List Str) (r : List PyData) : List PyData := if ss = ([("parts" : Str)] : List Str) then [PyData.list r] else r
def closedD : List PyData → Option PyData
  | .str c :: r => match lk c FM with
    | none => none
    | some ss => if (given ss r).length = ss.length then some (.tuple (.str c :: List.zipWith slotD ss (given ss r))) else none
  | held => if held.all tupB = true then some (.list held) else none
def pushS (x : PyData) : List (List PyData) → List (List PyData)
  | [] => []
  | t :: r => (t ++ [x]) :: r
def closeN : Nat → List (List PyData) → Option (List (List PyData))
  | 0, st => some st
  | n + 1, t :: u :: r => match closedD t with
    | none => none
    | some c => closeN n ((u ++ [c]) :: r)
  | _ + 1, _ => none
def stepW (st : List (List PyData)) (w : List Nat) : Option (List (List PyData)) :=
  if inn w ≠ [] then closeN (nS w) (pushS (.str (S (inn w))) (List.replicate (nO w) [] ++ st))
  else if w.take 2 = [40, 41] then closeN (nS w) (List.replicate (nO w) [] ++ st) else none
def runW : List (List PyData) → List (List Nat) → Option (List (List PyData))
  | st, [] => some st
  | st, w :: ws => match stepW st w with
    | none => none
    | some st' => runW st' ws
def rowD (t : List Nat) : Option (List PyData) := match runW [[]] (words t) with
  | some [l] => some l
  | _ => none
def readD (t : List Nat) : Option PyData := if 10 ∈ t then none else match rowD t with
  | some [d] => if termD d = true then some d else none
  | _ => none
/-! ### what stands in the machine -/
def wfI : PyData → Prop
  | .str _ => True
  | .tuple l => ∃ c r, l = .str c :: r
  | .list l => ∀ x ∈ l, tupB x = true
  | _ => False
def wfS (st : List (List PyData)) : Prop := ∀ t ∈ st, ∀ x ∈ t, wfI x
theorem closed_wf {held : List PyData} {c : PyData} (h : closedD held = some c) : wfI c := by
  unfold closedD at h
  split at h
  · split at h
    · cases h
    · split at h
      · cases h
        exact ⟨_, _, rfl⟩
      · cases h
  · split at h
    · rename_i e
      cases h
      exact fun x m => List.all_eq_true.mp e x m
    · cases h
/-- no brackets -/
abbrev noBr (z : Str) : Prop := 40 ∉ TL.tl z ∧ 41 ∉ TL.tl z
def clI : PyData → Prop
  | .str z => noBr z
  | .tuple l => termD (.tuple l) = true
  | _ => False
def clL (held : List PyData) : Prop := (∀ x ∈ held, clI x) ∧ (held = [] ∨ ∃ c r, held = .str c :: r ∧ (lk c FM).isSome = true)
def clS : List (List PyData) → Prop
  | [] => True
  | [b] => ∀ x ∈ b, clI x
  | t :: u :: r => clL t ∧ clS (u :: r)
theorem clS_all {t : List PyData} {r : List (List PyData)} (h : clS (t :: r)) : ∀ x ∈ t, clI x := by
  cases r with
  | nil => exact h
  | cons u r => exact h.1.1
/-! ### texts of figures -/
theorem num_digits {z : Str} {n : Int} (h : numS z = some n) : ∀ c ∈ TL.tl z, 48 ≤ c ∧ c ≤ 57 := by
  unfold numS at h
  split at h
  · rename_i e
    intro c m
    rw [Bool.and_eq_true, Bool.and_eq_true] at e
    have := List.all_eq_true.mp e.1.2 c m
    rw [dig_eq, Bool.and_eq_true, decide_eq_true_eq, decide_eq_true_eq] at this
    exact this
  · cases h
theorem joinL_mem {c : Nat} {S : List Nat} : ∀ {ps : List (List Nat)}, c ∈ TL.joinL S ps → c ∈ S ∨ ∃ p ∈ ps, c ∈ p
  | [], h => nomatch h
  | [p], h => .inr ⟨p, List.mem_cons_self, h⟩
  | p :: q :: r, h => by
    have h' : c ∈ p ++ (S ++ TL.joinL S (q :: r)) := h
    rcases List.mem_append.mp h' with h | h
    · exact .inr ⟨p, List.mem_cons_self, h⟩
    · rcases List.mem_append.mp h with h | h
      · exact .inl h
      · rcases joinL_mem h with h | ⟨x, m, hx⟩
        · exact .inl h
        · exact .inr ⟨x, List.mem_cons_of_mem _ m, hx⟩
theorem split_mem {z y : Str} {c : Nat} (h : c ∈ TL.tl z) : c ∈ TL.tl y ∨ ∃ p ∈ Txt.split z y, c ∈ TL.tl p := by
  rw [← StrLaws.join_split z y, TL.tl_join] at h
  rcases joinL_mem h with h | ⟨p, m, h⟩
  · exact .inl h
  · obtain ⟨q, mq, rfl⟩ := List.mem_map.mp m
    exact .inr ⟨q, mq, h⟩
theorem parts_noBr {z y : Str} (hy : noBr y) (h : ∀ p ∈ Txt.split z y, ∃ n, numS p = some n) : noBr z := by
  have key : ∀ c, c ∉ TL.tl y → ¬ (48 ≤ c ∧ c ≤ 57) → c ∉ TL.tl z := fun c n1 n2 m => by
    rcases split_mem (y := y) m with m | ⟨p, mp, m⟩
    · exact n1 m
    · obtain ⟨n, e⟩ := h p mp
      exact n2 (num_digits e c m)
  exact ⟨key 40 hy.1 (by omega), key 41 hy.2 (by omega)⟩
theorem whole_num {z : Str} {lo hi : Int} (h : wholeD (numD' z) lo hi = true) : ∃ n, numS z = some n := by
  unfold numD' at h
  cases e : numS z with
  | some n => exact ⟨n, rfl⟩
  | none => rw [e] at h; cases h
theorem num_noBr {z : Str} {n : Int} (h : numS z = some n) : noBr z :=
  ⟨fun m => by have := num_digits h _ m; omega, fun m => by have := num_digits h _ m; omega⟩
theorem kind_num {ps : List Str} (h : kindD (if 1 < ps.length then .tuple (ps.map numD') else numD' (ps.headD "")) = true) (h1 : 1 ≤ ps.length) : ∀ p ∈ ps, ∃ n, numS p = some n := by
  split at h
  · rcases kind_inv h with ⟨z, e, _⟩ | ⟨m, z, e, _⟩
    · cases e
    · match ps, e with
      | [a, b], e =>
        have e' : [numD' a, numD' b] = [.int m, .int z] := PyData.tuple.inj e
        have ea : numD' a = .int m := (List.cons.inj e').1
        have eb : numD' b = .int z := (List.cons.inj (List.cons.inj e').2).1
        intro p mp
        have key : ∀ {p : Str} {i : Int}, numD' p = .int i → ∃ n, numS p = some n := fun {p i} e => by
          unfold numD' at e
          cases e2 : numS p with
          | some n => exact ⟨n, rfl⟩
          | none => rw [e2] at e; cases e
        rcases List.mem_cons.mp mp with rfl | mp
        · exact key ea
        · rw [List.mem_singleton.mp mp]
          exact key eb
      | [], e => exact nomatch (PyData.tuple.inj e)
      | [_], e => exact nomatch (List.cons.inj (PyData.tuple.inj e)).2
      | _ :: _ :: _ :: _, e => exact nomatch (List.cons.inj (List.cons.inj (PyData.tuple.inj e)).2).2
  · rename_i n1
    match ps, h1, n1 with
    | [a], _, _ =>
      intro p mp
      rw [List.mem_singleton.mp mp]
      have h : kindD (numD' a) = true := h
      unfold numD' at h
      cases e2 : numS a with
      | some n => exact ⟨n, rfl⟩
      | none => rw [e2] at h; cases h
    | _ :: _ :: _, _, n1 => exact absurd (by simp) n1
theorem kindW_noBr {z : Str} (h : kindD (kindW z) = true) : noBr z :=
  parts_noBr (y := "x") (by decide +kernel) (kind_num h (splits_len (by decide +kernel) (by decide +kernel)).1)
theorem worthW_noBr {z : Str} {k : PyData} (hk : kindD k = true) (h : worthD (worthW z) k = true) : noBr z := by
  refine parts_noBr (y := ",") (by decide +kernel) fun p mp => ?_
  have e0 : worthW z = if ((Txt.split z ",").any fun y => (numS y).isNone) = true then .none else if 1 < (Txt.split z ",").length then .tuple ((Txt.split z ",").map numD') else numD' ((Txt.split z ",").headD "") := rfl
  cases e : numS p with
  | some n => exact ⟨n, rfl⟩
  | none =>
    exfalso
    rw [if_pos (List.any_eq_true.mpr ⟨p, mp, by rw [e]; rfl⟩)] at e0
    rw [e0] at h
    rcases kind_inv hk with ⟨i, rfl, _⟩ | ⟨m, i, rfl, _⟩ <;> cases h
theorem name_noBr {z : Str} (h : nameS z = true) : noBr z := by
  unfold nameS at h
  have ha := (Bool.and_eq_true_iff.mp h).2
  have key : ∀ c : Nat, signB c = false → c ∉ TL.tl z := fun c n m => by
    have := List.all_eq_true.mp ha c m
    rw [n] at this
    cases this
  exact ⟨key 40 (by decide +kernel), key 41 (by decide +kernel)⟩
/-! ### a slot that is filled well was given something without brackets -/
theorem term_tup {d : PyData} (h : termD d = true) : ∃ c r, d = .tuple (.str c :: r) := by
  rw [termD_eq, Bool.and_eq_true, Bool.and_eq_true] at h
  obtain ⟨c, r, ss, e, _⟩ := formed_inv h.1.1
  exact ⟨c, r, e⟩
theorem term_cl {d : PyData} (h : termD d = true) : clI d := by
  obtain ⟨c, r, rfl⟩ := term_tup h
  exact h
def SLT : List Str := ["kind", "worth", "name", "term", "width", "bit", "truth", "place"]
theorem worth_odd {l : List PyData} {k : PyData} (hk : kindD k = true) (h : worthD (.tuple l) k = true) : ∃ x r, l = x :: r ∧ ∃ i, x = .int i := by
  rcases kind_inv hk with ⟨i, rfl, _⟩ | ⟨m, i, rfl, m2, _⟩
  · cases h
  · have h' : (decide ((l.length : Int) = m) && l.all fun e => wholeD e 0 (topW i)) = true := h
    obtain ⟨a, b⟩ := Bool.and_eq_true_iff.mp h'
    have la := of_decide_eq_true a
    cases l with
    | nil => exfalso; simp at la; omega
    | cons x r =>
      have := List.all_eq_true.mp b x List.mem_cons_self
      cases x with
      | int j => exact ⟨_, _, rfl, j, rfl⟩
      | _ => cases this
theorem kind_odd {l : List PyData} (h : kindD (.tuple l) = true) : ∃ x r, l = x :: r ∧ ∃ i, x = .int i := by
  rcases kind_inv h with ⟨z, e, _⟩ | ⟨m, z, e, _⟩
  · cases e
  · cases e
    exact ⟨_, _, rfl, m, rfl⟩
theorem slot_clean {s : Str} {g : PyData} (hs : s ∈ SLT) (wf : wfI g) (hf : fitsD s (slotD s g) = true) (ht : s = "term" → termD (slotD s g) = true)
    (hw : s = "worth" → ∃ k, kindD k = true ∧ worthD (slotD s g) k = true) : clI g := by
  have t0 : ∀ {l : List PyData}, g = .tuple l ∨ g = .list l → (∀ x r, l = x :: r → (∃ i, x = .int i) → False) → fitsD s (.tuple l) = true → (s = "worth" → ∃ k, kindD k = true ∧ worthD (.tuple l) k = true) → s = "term" := by
    intro l _ nx hf hw
    have hs' : s ∈ (["kind", "worth", "name", "term", "width", "bit", "truth", "place"] : List Str) := hs
    simp only [List.mem_cons, List.not_mem_nil, or_false] at hs'
    rcases hs' with rfl | rfl | rfl | rfl | rfl | rfl | rfl | rfl
    · exfalso
      obtain ⟨x, r, e, i⟩ := kind_odd (l := l) hf
      exact nx x r e i
    · exfalso
      obtain ⟨k, hk, hx⟩ := hw rfl
      obtain ⟨x, r, e, i⟩ := worth_odd hk hx
      exact nx x r e i
    · exact absurd hf (by show ¬ nameD (.tuple l) = true; exact Bool.false_ne_true)
    · rfl
    · exact absurd hf (by show ¬ wholeD (.tuple l) 1 8 = true; exact Bool.false_ne_true)
    · exact absurd hf (by show ¬ wholeD (.tuple l) 0 7 = true; exact Bool.false_ne_true)
    · exact absurd hf (by show ¬ wholeD (.tuple l) 0 1 = true; exact Bool.false_ne_true)
    · exact absurd hf (by show ¬ wholeD (.tuple l) 0 3 = true; exact Bool.false_ne_true)
  cases g with
  | list l =>
    have hwf : ∀ x ∈ l, tupB x = true := wf
    have e := t0 (.inr rfl) (fun x r e ⟨i, ei⟩ => by
      have := hwf x (by rw [e]; exact List.mem_cons_self)
      rw [ei] at this
      cases this) hf hw
    obtain ⟨c, r, ec⟩ := term_tup (ht e)
    have ec' : l = .str c :: r := PyData.tuple.inj ec
    have := hwf (.str c) (by rw [ec']; exact List.mem_cons_self)
    cases this
  | tuple l =>
    obtain ⟨c, r, el⟩ := wf
    have e := t0 (.inl rfl) (fun x r' e ⟨i, ei⟩ => by
      rw [el] at e
      have := (List.cons.inj e).1
      rw [ei] at this
      cases this) hf hw
    exact ht e
  | str z =>
    have hs' : s ∈ (["kind", "worth", "name", "term", "width", "bit", "truth", "place"] : List Str) := hs
    simp only [List.mem_cons, List.not_mem_nil, or_false] at hs'
    show noBr z
    rcases hs' with rfl | rfl | rfl | rfl | rfl | rfl | rfl | rfl
    · exact kindW_noBr hf
    · obtain ⟨k, hk, hx⟩ := hw rfl
      exact worthW_noBr hk hx
    · exact name_noBr hf
    · obtain ⟨c, r, e⟩ := term_tup (ht rfl)
      cases e
    · obtain ⟨n, e⟩ := whole_num (z := z) (lo := 1) (hi := 8) hf
      exact num_noBr e
    · obtain ⟨n, e⟩ := whole_num (z := z) (lo := 0) (hi := 7) hf
      exact num_noBr e
    · obtain ⟨n, e⟩ := whole_num (z := z) (lo := 0) (hi := 1) hf
      exact num_noBr e
    · obtain ⟨n, e⟩ := whole_num (z := z) (lo := 0) (hi := 3) hf
      exact num_noBr e
  | none => exact wf.elim
  | bool _ => exact wf.elim
  | int _ => exact wf.elim
  | dict _ => exact wf.elim
end K7
end Bf

namespace Bf
namespace K7
open PySem PySem.Spec PyProof.Rows L2 T SX
theorem lk_mem {α : Type} {c : Str} {v : α} : ∀ {l : List (Str × α)}, lk c l = some v → ∃ k, (k, v) ∈ l ∧ (k == c) = true
  | [], h => by cases h
  | (k, w) :: r, h => by
    unfold lk at h
    split at h
    · rename_i e
      cases h
      exact ⟨k, List.mem_cons_self, e⟩
    · obtain ⟨k', m, e⟩ := lk_mem h
      exact ⟨k', List.mem_cons_of_mem _ m, e⟩
/-- the forms of terms that are no calls -/
def formB (p : Str × List Str) : Bool := callS p.1 || (decide (p.2 = [("parts" : Str)]) || p.2.all fun s => SLT.contains s) && (!p.2.contains ("worth" : Str) || (decide (p.1 = "lit") && decide (p.2 = [("kind" : Str), "worth"])))
theorem form_all : FM.all formB = true := by decide +kernel
theorem form_of {c : Str} {ss : List Str} (e : lk c FM = some ss) (nc : callS c = false) : (ss = [("parts" : Str)] ∨ ∀ s ∈ ss, s ∈ SLT) ∧ (("worth" : Str) ∈ ss → c = "lit" ∧ ss = [("kind" : Str), "worth"]) := by
  obtain ⟨k, m, ek⟩ := lk_mem e
  have ek : k = c := eq_of_beq ek
  subst ek
  have := List.all_eq_true.mp form_all _ m
  unfold formB at this
  rw [show callS (k, ss).1 = false from nc, Bool.false_or, Bool.and_eq_true, Bool.or_eq_true, Bool.or_eq_true] at this
  obtain ⟨a, b⟩ := this
  refine ⟨?_, fun hw => ?_⟩
  · rcases a with a | a
    · exact .inl (of_decide_eq_true a)
    · exact .inr fun s hs => List.contains_iff_mem.mp (List.all_eq_true.mp a s hs)
  · rcases b with b | b
    · rw [Bool.not_eq_true'] at b
      have := List.contains_iff_mem.mpr hw
      rw [b] at this
      cases this
    · rw [Bool.and_eq_true, decide_eq_true_eq, decide_eq_true_eq] at b
      exact b
theorem closed_str {c : Str} {r : List PyData} {ss : List Str} (e : lk c FM = some ss) : closedD (.str c :: r) = if (given ss r).length = ss.length then some (.tuple (.str c :: List.zipWith slotD ss (given ss r))) else none := by
  show (match lk c FM with | none => none | some ss => _) = _
  rw [e]
theorem all_zip {α β : Type} {f : α → β → Bool} {as : List α} {bs : List β} (h : (List.zipWith f as bs).all id = true) {i : Nat} {a : α} {b : β} (ha : as[i]? = some a) (hb : bs[i]? = some b) : f a b = true :=
  List.all_eq_true.mp h _ (List.mem_of_getElem? (zw_get f ha hb))
theorem flat_zip {f : Str → PyData → List PyData} {as : List Str} {bs : List PyData} {i : Nat} {a : Str} {b x : PyData} (ha : as[i]? = some a) (hb : bs[i]? = some b) (hx : x ∈ f a b) : x ∈ (List.zipWith f as bs).flatten :=
  List.mem_flatten.mpr ⟨_, List.mem_of_getElem? (zw_get f ha hb), hx⟩
theorem closed_clean {held : List PyData} {c : PyData} (wf : ∀ x ∈ held, wfI x) (h : closedD held = some c) (hc : clI c) : held ≠ [] ∧ clL held := by
  cases held with
  | nil =>
    cases h
    exact hc.elim
  | cons x r =>
    refine ⟨by simp, ?_⟩
    cases x with
    | str w =>
      cases e : lk w FM with
      | none =>
        have : closedD (.str w :: r) = none := by
          show (match lk w FM with | none => none | some ss => _) = _
          rw [e]
        rw [this] at h
        cases h
      | some ss =>
        rw [closed_str e] at h
        split at h
        · rename_i hl
          cases h
          have ht : termD (.tuple (.str w :: List.zipWith slotD ss (given ss r))) = true := hc
          rw [termD_eq, Bool.and_eq_true, Bool.and_eq_true] at ht
          obtain ⟨⟨hf, hcall⟩, hin⟩ := ht
          have nc : callS w = false := by
            have : callX (.tuple (.str w :: List.zipWith slotD ss (given ss r))) = callS w := rfl
            rw [this, Bool.not_eq_true'] at hcall
            exact hcall
          rw [formed_eq e, Bool.and_eq_true, Bool.and_eq_true] at hf
          obtain ⟨⟨hlen, hfit⟩, hlit⟩ := hf
          rw [within_eq e] at hin
          obtain ⟨fo, fw⟩ := form_of e nc
          have headc : noBr w := by
            have : ∀ p ∈ FM, 40 ∉ TL.tl p.1 ∧ 41 ∉ TL.tl p.1 := by decide +kernel
            obtain ⟨k, m, ek⟩ := lk_mem e
            have ek : k = w := eq_of_beq ek
            subst ek
            exact this _ m
          refine ⟨fun y my => ?_, .inr ⟨w, r, rfl, by rw [e]; rfl⟩⟩
          rcases List.mem_cons.mp my with rfl | my
          · exact headc
          · by_cases hp : ss = [("parts" : Str)]
            · subst hp
              have eg : given [("parts" : Str)] r = [PyData.list r] := if_pos rfl
              rw [eg] at hin
              have : termD y = true := by
                refine List.all_eq_true.mp hin y ?_
                show y ∈ [oneD "parts" (slotD "parts" (.list r))].flatten
                have eo : oneD "parts" (slotD "parts" (.list r)) = r := rfl
                rw [eo]
                exact List.mem_flatten.mpr ⟨r, List.mem_cons_self, my⟩
              exact term_cl this
            · have eg : given ss r = r := if_neg hp
              rw [eg] at hl hfit hlit hin
              have hs := fo.resolve_left hp
              obtain ⟨i, hi⟩ := List.getElem?_of_mem my
              obtain ⟨s, es⟩ : ∃ s, ss[i]? = some s := by
                have : i < ss.length := by rw [← hl]; exact (List.getElem?_eq_some_iff.mp hi).1
                exact ⟨_, List.getElem?_eq_getElem this⟩
              have ez : (List.zipWith slotD ss r)[i]? = some (slotD s y) := zw_get slotD es hi
              refine slot_clean (hs s (List.mem_of_getElem? es)) (wf y (List.mem_cons_of_mem _ my)) (all_zip hfit es ez) (fun e2 => ?_) (fun e2 => ?_)
              · refine List.all_eq_true.mp hin _ (flat_zip es ez ?_)
                rw [e2]
                show slotD "term" y ∈ oneD "term" (slotD "term" y)
                have : oneD "term" (slotD "term" y) = [slotD "term" y] := rfl
                rw [this]
                exact List.mem_singleton.mpr rfl
              · have ms : ("worth" : Str) ∈ ss := by rw [← e2]; exact List.mem_of_getElem? es
                obtain ⟨rfl, rfl⟩ := fw ms
                match r, hl, hi, es, hlit, hfit with
                | [k, x], _, hi, es, hlit, hfit =>
                  have hk : fitsD "kind" (slotD "kind" k) = true := all_zip hfit (i := 0) (a := "kind") (b := slotD "kind" k) rfl rfl
                  have hx : worthD (slotD "worth" x) (slotD "kind" k) = true := by
                    have z : (!decide (V.str "lit" = V.str "lit") || litD [slotD "kind" k, slotD "worth" x]) = true := hlit
                    rw [decide_eq_true rfl, Bool.not_true, Bool.false_or] at z
                    exact z
                  refine ⟨slotD "kind" k, hk, ?_⟩
                  match i, es, hi with
                  | 0, es, hi =>
                    exfalso
                    have : ("kind" : Str) = s := Option.some.inj es
                    rw [e2] at this
                    exact absurd this (by decide +kernel)
                  | 1, es, hi =>
                    have : x = y := Option.some.inj hi
                    subst this
                    rw [e2]
                    exact hx
                  | _ + 2, es, hi => cases hi
        · cases h
    | tuple l =>
      have : closedD (.tuple l :: r) = if (PyData.tuple l :: r).all tupB = true then some (.list (.tuple l :: r)) else none := rfl
      rw [this] at h
      split at h
      · cases h; exact hc.elim
      · cases h
    | list l =>
      have : closedD (.list l :: r) = if (PyData.list l :: r).all tupB = true then some (.list (.list l :: r)) else none := rfl
      rw [this] at h
      split at h
      · cases h; exact hc.elim
      · cases h
    | none => exact (wf _ List.mem_cons_self).elim
    | bool _ => exact (wf _ List.mem_cons_self).elim
    | int _ => exact (wf _ List.mem_cons_self).elim
    | dict _ => exact (wf _ List.mem_cons_self).elim
theorem wfS_push {st : List (List PyData)} {x : PyData} (h : wfS st) (hx : wfI x) : wfS (pushS x st) := by
  cases st with
  | nil => exact h
  | cons t r =>
    intro u mu y my
    rcases List.mem_cons.mp mu with rfl | mu
    · rcases List.mem_append.mp my with my | my
      · exact h t List.mem_cons_self y my
      · rw [List.mem_singleton.mp my]; exact hx
    · exact h u (List.mem_cons_of_mem _ mu) y my
theorem clS_cons {t : List PyData} {st : List (List PyData)} (ne : st ≠ []) : clS (t :: st) = (clL t ∧ clS st) := by
  cases st with
  | nil => exact absurd rfl ne
  | cons u r => rfl
theorem push_clean {st : List (List PyData)} {x : PyData} (ne : st ≠ []) (h : clS (pushS x st)) : clS st ∧ clI x ∧ (∀ u r, st = [] :: u :: r → ∃ z, x = .str z ∧ (lk z FM).isSome = true) := by
  cases st with
  | nil => exact absurd rfl ne
  | cons t r =>
    have h : clS ((t ++ [x]) :: r) := h
    have hx : clI x := clS_all h x (List.mem_append_right _ (List.mem_singleton.mpr rfl))
    cases r with
    | nil => exact ⟨fun y my => h y (List.mem_append_left _ my), hx, fun u r e => by cases e⟩
    | cons u r =>
      obtain ⟨⟨h1, h2⟩, h3⟩ := h
      refine ⟨⟨⟨fun y my => h1 y (List.mem_append_left _ my), ?_⟩, h3⟩, hx, fun u' r' e => ?_⟩
      · cases t with
        | nil => exact .inl rfl
        | cons a t =>
          rcases h2 with e | ⟨c, r', e, k⟩
          · cases e
          · cases e
            exact .inr ⟨_, _, rfl, k⟩
      · cases e
        rcases h2 with e | ⟨c, r', e, k⟩
        · cases e
        · cases e
          exact ⟨_, rfl, k⟩
theorem closeN_clean : ∀ (n : Nat) {st st' : List (List PyData)}, st ≠ [] → wfS st → closeN n st = some st' → (wfS st' ∧ st' ≠ [] ∧ st'.length + n = st.length) ∧ (clS st' → clS st)
  | 0, st, st', ne, wf, h => by
    cases h
    exact ⟨⟨wf, ne, rfl⟩, id⟩
  | n + 1, [], _, ne, _, _ => absurd rfl ne
  | n + 1, [t], st', _, _, h => by cases h
  | n + 1, t :: u :: r, st', _, wf, h => by
    have e0 : closeN (n + 1) (t :: u :: r) = (match closedD t with | none => none | some c => closeN n ((u ++ [c]) :: r)) := rfl
    rw [e0] at h
    cases e : closedD t with
    | none => rw [e] at h; cases h
    | some c =>
      rw [e] at h
      have wf2 : wfS ((u ++ [c]) :: r) := wfS_push (st := u :: r) (fun x m => wf x (List.mem_cons_of_mem _ m)) (closed_wf e)
      obtain ⟨⟨h1, h2, h3⟩, h4⟩ := closeN_clean n (by simp) wf2 h
      refine ⟨⟨h1, h2, by rw [List.length_cons] at h3; rw [List.length_cons, List.length_cons]; omega⟩, fun hc => ?_⟩
      obtain ⟨a, b, _⟩ := push_clean (st := u :: r) (x := c) (by simp) (h4 hc)
      exact ⟨(closed_clean (wf t List.mem_cons_self) e b).2, a⟩
theorem open_clean {st : List (List PyData)} (ne : st ≠ []) : ∀ k, clS (List.replicate k [] ++ st) → clS st
  | 0, h => h
  | k + 1, h => by
    rw [List.replicate_succ, List.cons_append, clS_cons (by simp [ne])] at h
    exact open_clean ne k h.2
theorem wfS_open {st : List (List PyData)} (wf : wfS st) (k : Nat) : wfS (List.replicate k [] ++ st) := fun t mt x mx => by
  rcases List.mem_append.mp mt with m | m
  · rw [(List.mem_replicate.mp m).2] at mx
    exact nomatch mx
  · exact wf t m x mx
theorem step_clean {st st' : List (List PyData)} {w : List Nat} (ne : st ≠ []) (wf : wfS st) (h : stepW st w = some st') :
    (wfS st' ∧ st' ≠ [] ∧ st'.length + nS w = st.length + nO w) ∧ (clS st' → clS st ∧ Good w ∧ (1 ≤ nO w → (lk (S (inn w)) FM).isSome = true)) := by
  have ne1 : List.replicate (nO w) [] ++ st ≠ [] := by simp [ne]
  have wf1 := wfS_open wf (nO w)
  have l1 : (List.replicate (nO w) ([] : List PyData) ++ st).length = nO w + st.length := by rw [List.length_append, List.length_replicate]
  unfold stepW at h
  split at h
  · rename_i hi
    have lp : ∀ (x : PyData) (s : List (List PyData)), (pushS x s).length = s.length := fun x s => by cases s <;> rfl
    have np : ∀ (x : PyData) (s : List (List PyData)), s ≠ [] → pushS x s ≠ [] := fun x s n => by
      cases s with
      | nil => exact absurd rfl n
      | cons a r => exact List.cons_ne_nil _ _
    obtain ⟨⟨h1, h2, h3⟩, h4⟩ := closeN_clean (nS w) (np _ _ ne1) (wfS_push wf1 (show wfI (.str (S (inn w))) from True.intro)) h
    rw [lp, l1] at h3
    refine ⟨⟨h1, h2, by omega⟩, fun hc => ?_⟩
    obtain ⟨a, b, c⟩ := push_clean ne1 (h4 hc)
    have b : noBr (S (inn w)) := b
    refine ⟨open_clean ne _ a, ⟨hi, b.1, b.2⟩, fun ho => ?_⟩
    cases ek : nO w with
    | zero => omega
    | succ k =>
      rw [ek, List.replicate_succ, List.cons_append] at c
      obtain ⟨u, r, e⟩ : ∃ u r, List.replicate k ([] : List PyData) ++ st = u :: r := by
        cases k with
        | zero =>
          cases st with
          | nil => exact absurd rfl ne
          | cons u r => exact ⟨u, r, rfl⟩
        | succ k => exact ⟨_, _, rfl⟩
      obtain ⟨z, e1, e2⟩ := c u r (by rw [e])
      cases e1
      exact e2
  · split at h
    · rename_i hn ht
      have hn : inn w = [] := by simpa using hn
      have : ∃ r, w = 40 :: 41 :: r := by
        match w, ht with
        | [], ht => cases ht
        | [_], ht => cases ht
        | a :: b :: r, ht =>
          have ht : [a, b] = [40, 41] := ht
          cases ht
          exact ⟨r, rfl⟩
      obtain ⟨r, rfl⟩ := this
      have eO : nO (40 :: 41 :: r) = 1 := by
        rw [nO_open]
        have : core (41 :: r) = 41 :: r := rfl
        unfold nO
        rw [this, Nat.sub_self]
      have eS : nS (40 :: 41 :: r) = r.length + 1 := by
        unfold nS
        rw [hn]
        rfl
      obtain ⟨⟨h1, h2, h3⟩, h4⟩ := closeN_clean _ ne1 wf1 h
      rw [l1] at h3
      refine ⟨⟨h1, h2, by omega⟩, fun hc => ?_⟩
      exfalso
      rw [eO, eS] at h
      cases st with
      | nil => exact ne rfl
      | cons u r' =>
        have h : closeN r.length ((u ++ [.list []]) :: r') = some st' := h
        obtain ⟨_, h5⟩ := closeN_clean _ (List.cons_ne_nil _ _) (wfS_push (st := u :: r') (x := .list []) wf (fun x m => nomatch m)) h
        exact clS_all (h5 hc) (.list []) (List.mem_append_right _ (List.mem_singleton.mpr rfl))
    · cases h
theorem run_clean : ∀ (ws : List (List Nat)) {st st' : List (List PyData)}, st ≠ [] → wfS st → runW st ws = some st' →
    (wfS st' ∧ st' ≠ [] ∧ st'.length + (ws.map nS).sum = st.length + (ws.map nO).sum) ∧ (clS st' → clS st ∧ ∀ w ∈ ws, Good w ∧ (1 ≤ nO w → (lk (S (inn w)) FM).isSome = true))
  | [], st, st', ne, wf, h => by
    cases h
    exact ⟨⟨wf, ne, rfl⟩, fun hc => ⟨hc, fun w m => nomatch m⟩⟩
  | w :: ws, st, st', ne, wf, h => by
    have e0 : runW st (w :: ws) = (match stepW st w with | none => none | some st' => runW st' ws) := rfl
    rw [e0] at h
    cases e : stepW st w with
    | none => rw [e] at h; cases h
    | some s1 =>
      rw [e] at h
      obtain ⟨⟨a1, a2, a3⟩, a4⟩ := step_clean ne wf e
      obtain ⟨⟨b1, b2, b3⟩, b4⟩ := run_clean ws a2 a1 h
      refine ⟨⟨b1, b2, by rw [List.map_cons, List.map_cons, List.sum_cons, List.sum_cons]; omega⟩, fun hc => ?_⟩
      obtain ⟨c1, c2⟩ := b4 hc
      obtain ⟨d1, d2, d3⟩ := a4 c1
      refine ⟨d1, fun x m => ?_⟩
      rcases List.mem_cons.mp m with rfl | m
      · exact ⟨d2, d3⟩
      · exact c2 x m
/-- a text that is read: its words, its brackets -/
theorem read_good {t : List Nat} {d : PyData} (h : readD t = some d) : AllGood t ∧ (∀ w ∈ words t, 1 ≤ nO w → (lk (S (inn w)) FM).isSome = true) ∧ t.count 40 = t.count 41 ∧ 10 ∉ t := by
  unfold readD at h
  split at h
  · cases h
  · rename_i n10
    split at h
    · rename_i d' hr
      split at h
      · rename_i ht
        cases h
        unfold rowD at hr
        split at hr
        · rename_i l he
          cases hr
          obtain ⟨⟨_, _, hl⟩, hc⟩ := run_clean (words t) (st := [[]]) (by simp) (fun x m y my => by rw [List.mem_singleton.mp m] at my; exact nomatch my) he
          obtain ⟨_, hg⟩ := hc (fun x m => by rw [List.mem_singleton.mp m]; exact term_cl ht)
          have ag : AllGood t := fun w m => (hg w m).1
          refine ⟨ag, fun w m => (hg w m).2, ?_, n10⟩
          rw [ag.count40, ag.count41]
          have hl : 1 + _ = 1 + _ := hl
          omega
        · cases hr
      · cases h
    · cases h
end K7
end Bf

namespace Bf
namespace K7
open PySem PySem.Spec PyProof.Rows L2 T SX
/-! ### what is written without brackets and blanks -/
def plainC (c : Nat) : Bool := !(c == 10) && !(c == 32) && !(c == 40) && !(c == 41)
def atomB (z : Str) : Bool := !(TL.tl z).isEmpty && (TL.tl z).all plainC
def numStr (i : Int) : Str := Str.ofString (toString i)
/-- numbers there and back -/
theorem num_all : (List.range 256).all (fun n => decide (numS (numStr ((n : Nat) : Int)) = some ((n : Nat) : Int)) && (atomB (numStr ((n : Nat) : Int)) && !(TL.tl (numStr ((n : Nat) : Int))).contains 44 && !(TL.tl (numStr ((n : Nat) : Int))).contains 120 && decide ((TL.tl (numStr ((n : Nat) : Int))).length ≤ 3))) = true := by decide +kernel
theorem num_back {i : Int} (h0 : 0 ≤ i) (h1 : i ≤ 255) : numS (numStr i) = some i ∧ atomB (numStr i) = true ∧ 44 ∉ TL.tl (numStr i) ∧ 120 ∉ TL.tl (numStr i) ∧ (TL.tl (numStr i)).length ≤ 3 := by
  have := List.all_eq_true.mp num_all i.toNat (List.mem_range.mpr (by omega))
  rw [Int.toNat_of_nonneg h0] at this
  rw [Bool.and_eq_true, Bool.and_eq_true, Bool.and_eq_true, Bool.and_eq_true, decide_eq_true_eq, decide_eq_true_eq, Bool.not_eq_true', Bool.not_eq_true'] at this
  obtain ⟨a, ⟨⟨b, c⟩, d⟩, e⟩ := this
  refine ⟨a, b, fun m => ?_, fun m => ?_, e⟩
  · rw [List.contains_iff_mem.mpr m] at c; cases c
  · rw [List.contains_iff_mem.mpr m] at d; cases d
theorem numD_back {i : Int} (h0 : 0 ≤ i) (h1 : i ≤ 255) : numD' (numStr i) = .int i := by
  unfold numD'
  rw [(num_back h0 h1).1]
/-- parts joined and cut again -/
theorem parts_back {s : Nat} (hs : s < 256) {is : List Int} (hne : is ≠ []) (hi : ∀ i ∈ is, 0 ≤ i ∧ i ≤ 255) (hf : ∀ i ∈ is, s ∉ TL.tl (numStr i)) : Txt.split (Txt.join (S [s]) (is.map numStr)) (S [s]) = is.map numStr :=
  TL.split_join (s := s) (S := []) rfl (by
    rw [← Array.all_toList]
    show [s].all (fun c => decide (c < 256)) = true
    rw [List.all_cons, List.all_nil, Bool.and_true, decide_eq_true_eq]
    exact hs) (by simpa using hne) (fun p m => by
    obtain ⟨i, mi, rfl⟩ := List.mem_map.mp m
    exact hf i mi)
theorem map_back : ∀ {is : List Int}, (∀ i ∈ is, 0 ≤ i ∧ i ≤ 255) → (is.map numStr).map numD' = is.map PyData.int
  | [], _ => rfl
  | i :: r, h => by
    rw [List.map_cons, List.map_cons, List.map_cons, numD_back (h i List.mem_cons_self).1 (h i List.mem_cons_self).2, map_back fun x m => h x (List.mem_cons_of_mem _ m)]
theorem any_back : ∀ {is : List Int}, (∀ i ∈ is, 0 ≤ i ∧ i ≤ 255) → ((is.map numStr).any fun y => (numS y).isNone) = false
  | [], _ => rfl
  | i :: r, h => by
    rw [List.map_cons, List.any_cons, (num_back (h i List.mem_cons_self).1 (h i List.mem_cons_self).2).1, any_back fun x m => h x (List.mem_cons_of_mem _ m)]
    rfl
theorem comma : ("," : Str) = S [44] := by decide +kernel
theorem ex_sign : ("x" : Str) = S [120] := by decide +kernel
theorem worthW_list {is : List Int} (hne : is ≠ []) (hi : ∀ i ∈ is, 0 ≤ i ∧ i ≤ 255) : worthW (Txt.join "," (is.map numStr)) = if 1 < is.length then .tuple (is.map PyData.int) else numD' ((is.map numStr).headD "") := by
  have e0 : ∀ z, worthW z = if ((Txt.split z ",").any fun y => (numS y).isNone) = true then .none else if 1 < (Txt.split z ",").length then .tuple ((Txt.split z ",").map numD') else numD' ((Txt.split z ",").headD "") := fun _ => rfl
  rw [e0, comma, parts_back (by decide) hne hi fun i m => (num_back (hi i m).1 (hi i m).2).2.2.1, any_back hi, map_back hi, List.length_map]
  rfl
theorem worthW_one {i : Int} (h0 : 0 ≤ i) (h1 : i ≤ 255) : worthW (numStr i) = .int i := by
  have e : numStr i = Txt.join "," ([i].map numStr) := rfl
  have := worthW_list (is := [i]) (by simp) (fun j m => by rw [List.mem_singleton.mp m]; exact ⟨h0, h1⟩)
  rw [← e] at this
  rw [this]
  show numD' (numStr i) = _
  exact numD_back h0 h1
theorem kindW_list {is : List Int} (hne : is ≠ []) (hi : ∀ i ∈ is, 0 ≤ i ∧ i ≤ 255) : kindW (Txt.join "x" (is.map numStr)) = if 1 < is.length then .tuple (is.map PyData.int) else numD' ((is.map numStr).headD "") := by
  have e0 : ∀ z, kindW z = if 1 < (Txt.split z "x").length then .tuple ((Txt.split z "x").map numD') else numD' ((Txt.split z "x").headD "") := fun _ => rfl
  rw [e0, ex_sign, parts_back (by decide) hne hi fun i m => (num_back (hi i m).1 (hi i m).2).2.2.2.1, map_back hi, List.length_map]
theorem kindW_one {i : Int} (h0 : 0 ≤ i) (h1 : i ≤ 255) : kindW (numStr i) = .int i := by
  have e : numStr i = Txt.join "x" ([i].map numStr) := rfl
  have := kindW_list (is := [i]) (by simp) (fun j m => by rw [List.mem_singleton.mp m]; exact ⟨h0, h1⟩)
  rw [← e] at this
  rw [this]
  show numD' (numStr i) = _
  exact numD_back h0 h1
theorem kindW_two {i j : Int} (hi : 0 ≤ i ∧ i ≤ 255) (hj : 0 ≤ j ∧ j ≤ 255) : kindW (numStr i ++ "x" ++ numStr j) = .tuple [.int i, .int j] := by
  have e : numStr i ++ "x" ++ numStr j = Txt.join "x" ([i, j].map numStr) := by
    rw [TL.join_eq]
    rfl
  rw [e, kindW_list (by simp) (fun k m => by
    rcases List.mem_cons.mp m with rfl | m
    · exact hi
    · rw [List.mem_singleton.mp m]; exact hj)]
  rfl
/-! ### atoms -/
theorem atom_ne {z : Str} (h : atomB z = true) : TL.tl z ≠ [] := fun e => by
  unfold atomB at h
  rw [e] at h
  cases h
theorem atom_mem {z : Str} (h : atomB z = true) {c : Nat} (m : c ∈ TL.tl z) : c ≠ 10 ∧ c ≠ 32 ∧ c ≠ 40 ∧ c ≠ 41 := by
  unfold atomB at h
  have := List.all_eq_true.mp (Bool.and_eq_true_iff.mp h).2 c m
  unfold plainC at this
  rw [Bool.and_eq_true, Bool.and_eq_true, Bool.and_eq_true] at this
  obtain ⟨⟨⟨a, b⟩, c'⟩, d⟩ := this
  refine ⟨?_, ?_, ?_, ?_⟩ <;> (intro e; subst e; contradiction)
theorem atom_of {z : Str} (hn : TL.tl z ≠ []) (h : ∀ c ∈ TL.tl z, c ≠ 10 ∧ c ≠ 32 ∧ c ≠ 40 ∧ c ≠ 41) : atomB z = true := by
  unfold atomB
  rw [Bool.and_eq_true]
  refine ⟨?_, List.all_eq_true.mpr fun c m => ?_⟩
  · cases e : TL.tl z with
    | nil => exact absurd e hn
    | cons _ _ => rfl
  · obtain ⟨a, b, c', d⟩ := h c m
    unfold plainC
    rw [beq_eq_false_iff_ne.mpr a, beq_eq_false_iff_ne.mpr b, beq_eq_false_iff_ne.mpr c', beq_eq_false_iff_ne.mpr d]
    rfl
theorem atom_name {z : Str} (h : nameS z = true) : atomB z = true := by
  unfold nameS at h
  obtain ⟨h1, ha⟩ := Bool.and_eq_true_iff.mp h
  have hl := of_decide_eq_true (Bool.and_eq_true_iff.mp h1).1
  refine atom_of (fun e => ?_) fun c m => ?_
  · rw [TL.len_tl, e] at hl
    exact absurd hl (by decide)
  · have key : ∀ k : Nat, signB k = false → c ≠ k := fun k n e => by
      have := List.all_eq_true.mp ha c m
      rw [e, n] at this
      cases this
    exact ⟨key 10 (by decide +kernel), key 32 (by decide +kernel), key 40 (by decide +kernel), key 41 (by decide +kernel)⟩
theorem atom_join {s : Nat} (hs : s ≠ 10 ∧ s ≠ 32 ∧ s ≠ 40 ∧ s ≠ 41) {ps : List Str} (hne : ps ≠ []) (h : ∀ p ∈ ps, atomB p = true) : atomB (Txt.join (S [s]) ps) = true := by
  have e : TL.tl (Txt.join (S [s]) ps) = TL.joinL [s] (ps.map TL.tl) := by
    rw [TL.join_eq, TL.tl_join]
  refine atom_of (fun e2 => ?_) fun c m => ?_
  · rw [e] at e2
    match ps, hne with
    | [p], _ => exact atom_ne (h p List.mem_cons_self) e2
    | p :: q :: r, _ =>
      have e2 : TL.tl p ++ ([s] ++ TL.joinL [s] ((q :: r).map TL.tl)) = [] := e2
      simp at e2
  · rw [e] at m
    rcases joinL_mem m with m | ⟨x, mx, m⟩
    · rw [List.mem_singleton.mp m]; exact hs
    · obtain ⟨p, mp, rfl⟩ := List.mem_map.mp mx
      exact atom_mem (h p mp) m
end K7
end Bf

namespace Bf
namespace K7
open PySem PySem.Spec PyProof.Rows L2 T SX
/-! ### a term, as it is written -/
def otherS : PyData → Str
  | .none => "-"
  | .str z => z
  | .int i => numStr i
  | _ => ""
def insideD : PyData → List PyData
  | .tuple ds => ds
  | _ => []
def pieceS (f : PyData → Str) (slot : Str) (d : PyData) : List Str :=
  if decide (V.str slot = V.str "term") = true then [f d] else if decide (V.str slot = V.str "parts") = true then (insideD d).map f else match lk slot ST with
  | some _ => [brack ((insideD d).map f)]
  | none => if decide (V.str slot = V.str "kind") = true then [wKind d] else if decide (V.str slot = V.str "worth") = true then [wWorth d] else [otherS d]
def textF : Nat → PyData → Str
  | 0, _ => ""
  | n + 1, d => match d with
    | .tuple (.str c :: rest) => match lk c FM with
      | some ss => brack (c :: (List.zipWith (pieceS (textF n)) ss rest).flatten)
      | none => ""
    | _ => ""
def textS (d : PyData) : Str := textF (sz d) d
theorem zip_congr {f g : Str → PyData → List Str} : ∀ {ss : List Str} {ds : List PyData}, (∀ s, ∀ d ∈ ds, f s d = g s d) → List.zipWith f ss ds = List.zipWith g ss ds
  | [], _, _ => by rw [List.zipWith_nil_left, List.zipWith_nil_left]
  | _ :: _, [], _ => by rw [List.zipWith_nil_right, List.zipWith_nil_right]
  | s :: ss, d :: ds, h => by rw [List.zipWith_cons_cons, List.zipWith_cons_cons, h s d List.mem_cons_self, zip_congr fun s x m => h s x (List.mem_cons_of_mem _ m)]
theorem inside_sz {d x : PyData} (h : x ∈ insideD d) : sz x < sz d := by
  cases d with
  | tuple ds =>
    have := szA_mem (show x ∈ ds from h)
    rw [sz_tup]
    omega
  | _ => exact nomatch h
theorem piece_congr {f g : PyData → Str} {s : Str} {d : PyData} (h : f d = g d) (hi : ∀ x ∈ insideD d, f x = g x) : pieceS f s d = pieceS g s d := by
  unfold pieceS
  rw [h, List.map_congr_left hi]
theorem textF_eq : ∀ (n m : Nat) (d : PyData), sz d ≤ n → sz d ≤ m → textF n d = textF m d
  | 0, _, d, h, _ => absurd h (by have := sz_pos d; omega)
  | _, 0, d, _, h => absurd h (by have := sz_pos d; omega)
  | n + 1, m + 1, d, h1, h2 => by
    unfold textF
    cases d with
    | tuple l =>
      cases l with
      | nil => rfl
      | cons x rest =>
        cases x with
        | str c =>
          show (match lk c FM with | some ss => _ | none => _) = (match lk c FM with | some ss => _ | none => _)
          cases lk c FM with
          | none => rfl
          | some ss =>
            rw [sz_tup, szA_cons] at h1 h2
            show brack (c :: (List.zipWith (pieceS (textF n)) ss rest).flatten) = brack (c :: (List.zipWith (pieceS (textF m)) ss rest).flatten)
            rw [zip_congr fun s d md => piece_congr (textF_eq n m d (by have := szA_mem md; omega) (by have := szA_mem md; omega)) fun x mx => textF_eq n m x (by have := szA_mem md; have := inside_sz mx; omega) (by have := szA_mem md; have := inside_sz mx; omega)]
        | _ => rfl
    | _ => rfl
theorem textS_eq {c : Str} {rest : List PyData} {ss : List Str} (e : lk c FM = some ss) : textS (.tuple (.str c :: rest)) = brack (c :: (List.zipWith (pieceS textS) ss rest).flatten) := by
  have hs : sz (.tuple (.str c :: rest)) = (1 + szA rest) + 1 := by rw [sz_tup, szA_cons, sz_str]; omega
  show textF (sz (.tuple (.str c :: rest))) (.tuple (.str c :: rest)) = _
  rw [hs]
  show (match lk c FM with | some ss => brack (c :: (List.zipWith (pieceS (textF (1 + szA rest))) ss rest).flatten) | none => "") = _
  rw [e]
  show brack (c :: (List.zipWith (pieceS (textF (1 + szA rest))) ss rest).flatten) = _
  rw [zip_congr fun s d md => piece_congr (g := textS) (textF_eq (1 + szA rest) (sz d) d (by have := szA_mem md; omega) (Nat.le_refl _)) fun x mx => textF_eq (1 + szA rest) (sz x) x (by have := szA_mem md; have := inside_sz mx; omega) (Nat.le_refl _)]
/-! ### brackets around words -/
theorem runW_app : ∀ (a b : List (List Nat)) (st : List (List PyData)), runW st (a ++ b) = (runW st a).bind fun s => runW s b
  | [], _, _ => rfl
  | w :: a, b, st => by
    show (match stepW st w with | none => none | some st' => runW st' (a ++ b)) = (match stepW st w with | none => none | some st' => runW st' a).bind _
    cases stepW st w with
    | none => rfl
    | some s => exact runW_app a b s
theorem closeN_succ : ∀ (n : Nat) (st : List (List PyData)), closeN (n + 1) st = (closeN n st).bind (closeN 1)
  | 0, _ => rfl
  | n + 1, [] => rfl
  | n + 1, [_] => rfl
  | n + 1, t :: u :: r => by
    show (match closedD t with | none => none | some c => closeN (n + 1) ((u ++ [c]) :: r)) = (match closedD t with | none => none | some c => closeN n ((u ++ [c]) :: r)).bind (closeN 1)
    cases closedD t with
    | none => rfl
    | some c => exact closeN_succ n _
theorem step_shut {st : List (List PyData)} {w : List Nat} (h : inn w ≠ []) : stepW st (w ++ [41]) = (stepW st w).bind (closeN 1) := by
  unfold stepW
  rw [if_pos (by rw [inn_shut h]; exact h), if_pos h, inn_shut h, nO_shut h, nS_shut h]
  exact closeN_succ _ _
theorem step_open {st : List (List PyData)} {w : List Nat} (h : inn w ≠ []) : stepW st (40 :: w) = stepW ([] :: st) w := by
  unfold stepW
  rw [if_pos (by rw [inn_open]; exact h), if_pos h, inn_open, nO_open, nS_open]
  have : List.replicate (nO w + 1) ([] : List PyData) ++ st = List.replicate (nO w) [] ++ [] :: st := by rw [List.replicate_succ', List.append_assoc]; rfl
  rw [this]
def sn41 : List (List Nat) → List (List Nat)
  | [] => []
  | [w] => [w ++ [41]]
  | w :: v :: r => w :: sn41 (v :: r)
theorem run_sn : ∀ {ws : List (List Nat)} (_ : ws ≠ []) (_ : ∀ w ∈ ws, inn w ≠ []) (st : List (List PyData)), runW st (sn41 ws) = (runW st ws).bind (closeN 1)
  | [], h, _, _ => absurd rfl h
  | [w], _, h, st => by
    show (match stepW st (w ++ [41]) with | none => none | some s => some s) = (match stepW st w with | none => none | some s => some s).bind (closeN 1)
    rw [step_shut (h w List.mem_cons_self)]
    cases stepW st w with
    | none => rfl
    | some s =>
      show (match closeN 1 s with | none => none | some s => some s) = closeN 1 s
      cases closeN 1 s <;> rfl
  | w :: v :: r, _, h, st => by
    show (match stepW st w with | none => none | some s => runW s (sn41 (v :: r))) = (match stepW st w with | none => none | some s => runW s (v :: r)).bind (closeN 1)
    cases stepW st w with
    | none => rfl
    | some s => exact run_sn (by simp) (fun x m => h x (List.mem_cons_of_mem _ m)) s
theorem joinL_app {S : List Nat} : ∀ {a b : List (List Nat)}, a ≠ [] → b ≠ [] → TL.joinL S (a ++ b) = TL.joinL S a ++ (S ++ TL.joinL S b)
  | [], _, h, _ => absurd rfl h
  | [w], b, _, hb => by
    cases b with
    | nil => exact absurd rfl hb
    | cons v r => rfl
  | w :: v :: r, b, _, hb => by
    show w ++ (S ++ TL.joinL S (v :: r ++ b)) = (w ++ (S ++ TL.joinL S (v :: r))) ++ (S ++ TL.joinL S b)
    rw [joinL_app (by simp) hb, List.append_assoc, List.append_assoc]
theorem joinL_flat {S : List Nat} : ∀ {wss : List (List (List Nat))}, (∀ ws ∈ wss, ws ≠ []) → TL.joinL S (wss.map (TL.joinL S)) = TL.joinL S wss.flatten
  | [], _ => rfl
  | [ws], _ => by
    rw [List.flatten_cons, List.flatten_nil, List.append_nil]
    rfl
  | ws :: vs :: r, h => by
    have ih := joinL_flat (S := S) (wss := vs :: r) fun x m => h x (List.mem_cons_of_mem _ m)
    have ne : (vs :: r).flatten ≠ [] := by
      rw [List.flatten_cons]
      have := h vs (List.mem_cons_of_mem _ List.mem_cons_self)
      simp [this]
    rw [List.flatten_cons, joinL_app (h ws List.mem_cons_self) ne, ← ih]
    rfl
theorem joinL_sn {ws : List (List Nat)} (h : ws ≠ []) : TL.joinL [32] (sn41 ws) = TL.joinL [32] ws ++ [41] := by
  match ws, h with
  | [w], _ => rfl
  | w :: v :: r, _ =>
    have ih := joinL_sn (ws := v :: r) (by simp)
    have e : ∃ a b, sn41 (v :: r) = a :: b := by
      cases r with
      | nil => exact ⟨_, _, rfl⟩
      | cons _ _ => exact ⟨_, _, rfl⟩
    obtain ⟨a, b, e⟩ := e
    show TL.joinL [32] (w :: sn41 (v :: r)) = (w ++ ([32] ++ TL.joinL [32] (v :: r))) ++ [41]
    rw [e] at ih ⊢
    show w ++ ([32] ++ TL.joinL [32] (a :: b)) = _
    rw [ih, List.append_assoc, List.append_assoc]
theorem joinL_op (w : List Nat) (ws : List (List Nat)) : TL.joinL [32] ((40 :: w) :: ws) = 40 :: TL.joinL [32] (w :: ws) := by
  cases ws <;> rfl
/-- a word of what is written -/
structure OkW (w : List Nat) : Prop where
  ne : inn w ≠ []
  no32 : 32 ∉ w
  no10 : 10 ∉ w
theorem OkW.op {w : List Nat} (h : OkW w) : OkW (40 :: w) := ⟨h.ne, fun m => (List.mem_cons.mp m).elim (by decide) h.no32, fun m => (List.mem_cons.mp m).elim (by decide) h.no10⟩
theorem OkW.sh {w : List Nat} (h : OkW w) : OkW (w ++ [41]) := by
  refine ⟨by rw [inn_shut h.ne]; exact h.ne, fun m => ?_, fun m => ?_⟩
  · rcases List.mem_append.mp m with m | m
    · exact h.no32 m
    · exact absurd (List.mem_singleton.mp m) (by decide)
  · rcases List.mem_append.mp m with m | m
    · exact h.no10 m
    · exact absurd (List.mem_singleton.mp m) (by decide)
theorem ok_sn : ∀ {ws : List (List Nat)}, (∀ w ∈ ws, OkW w) → ∀ w ∈ sn41 ws, OkW w
  | [], _, w, m => nomatch m
  | [v], h, w, m => by
    rw [List.mem_singleton.mp m]
    exact (h v List.mem_cons_self).sh
  | v :: u :: r, h, w, m => by
    rcases List.mem_cons.mp (show w ∈ v :: sn41 (u :: r) from m) with rfl | m
    · exact h w List.mem_cons_self
    · exact ok_sn (fun x mx => h x (List.mem_cons_of_mem _ mx)) w m
/-- a text whose words lay these things on the list at the top -/
def Wr (z : Str) (items : List PyData) : Prop := ∃ ws, TL.tl z = TL.joinL [32] ws ∧ ws ≠ [] ∧ (∀ w ∈ ws, OkW w) ∧ ∀ t r, runW (t :: r) ws = some ((t ++ items) :: r)
def WrL (zs : List Str) (items : List PyData) : Prop := ∃ wss : List (List (List Nat)), zs.map TL.tl = wss.map (TL.joinL [32]) ∧ (∀ ws ∈ wss, ws ≠ [] ∧ ∀ w ∈ ws, OkW w) ∧ ∀ t r, runW (t :: r) wss.flatten = some ((t ++ items) :: r)
theorem WrL.nil : WrL [] [] := ⟨[], rfl, (fun _ m => nomatch m), fun t r => by rw [List.append_nil]; rfl⟩
theorem WrL.cons {z : Str} {zs : List Str} {i is : List PyData} (h : Wr z i) (hs : WrL zs is) : WrL (z :: zs) (i ++ is) := by
  obtain ⟨ws, e, n, ok, run⟩ := h
  obtain ⟨wss, e2, ok2, run2⟩ := hs
  refine ⟨ws :: wss, by rw [List.map_cons, List.map_cons, e, e2], fun x m => ?_, fun t r => ?_⟩
  · rcases List.mem_cons.mp m with rfl | m
    · exact ⟨n, ok⟩
    · exact ok2 x m
  · rw [List.flatten_cons, runW_app, run]
    show runW ((t ++ i) :: r) wss.flatten = _
    rw [run2, List.append_assoc]
theorem WrL.app {zs ys : List Str} {is js : List PyData} (h : WrL zs is) (hs : WrL ys js) : WrL (zs ++ ys) (is ++ js) := by
  obtain ⟨wss, e, ok, run⟩ := h
  obtain ⟨vss, e2, ok2, run2⟩ := hs
  refine ⟨wss ++ vss, by rw [List.map_append, List.map_append, e, e2], fun x m => (List.mem_append.mp m).elim (ok x) (ok2 x), fun t r => ?_⟩
  rw [List.flatten_append, runW_app, run]
  show runW ((t ++ is) :: r) vss.flatten = _
  rw [run2, List.append_assoc]
theorem atom_ok {z : Str} (h : atomB z = true) : OkW (TL.tl z) := by
  have n40 : 40 ∉ TL.tl z := fun m => (atom_mem h m).2.2.1 rfl
  have n41 : 41 ∉ TL.tl z := fun m => (atom_mem h m).2.2.2 rfl
  exact ⟨by rw [inn_plain n40 n41]; exact atom_ne h, fun m => (atom_mem h m).2.1 rfl, fun m => (atom_mem h m).1 rfl⟩
theorem wr_atom {z : Str} (h : atomB z = true) : Wr z [.str z] := by
  have n40 : 40 ∉ TL.tl z := fun m => (atom_mem h m).2.2.1 rfl
  have n41 : 41 ∉ TL.tl z := fun m => (atom_mem h m).2.2.2 rfl
  refine ⟨[TL.tl z], rfl, by simp, fun w m => by rw [List.mem_singleton.mp m]; exact atom_ok h, fun t r => ?_⟩
  have e : stepW (t :: r) (TL.tl z) = some ((t ++ [.str z]) :: r) := by
    unfold stepW
    rw [if_pos (atom_ok h).ne, inn_plain n40 n41, nO_plain n40, nS_plain n40 n41]
    show some ((t ++ [.str (S (TL.tl z))]) :: r) = _
    rw [S_tl]
  show (match stepW (t :: r) (TL.tl z) with | none => none | some s => some s) = _
  rw [e]
theorem wr_brack {c : Str} {zs : List Str} {raws : List PyData} {d : PyData} (hc : atomB c = true) (h : WrL zs raws) (hd : closedD (.str c :: raws) = some d) : Wr (brack (c :: zs)) [d] := by
  obtain ⟨wss, e, ok, run⟩ := (WrL.cons (wr_atom hc) h)
  have e40 : ("(" : Str) = S [40] := by decide +kernel
  have e41 : (")" : Str) = S [41] := by decide +kernel
  have e32 : (" " : Str) = S [32] := by decide +kernel
  have et : TL.tl (brack (c :: zs)) = 40 :: (TL.joinL [32] wss.flatten ++ [41]) := by
    unfold brack
    rw [e40, e41, e32, TL.join_eq, TL.tl_append, TL.tl_append, TL.tl_join, e, joinL_flat fun ws m => (ok ws m).1]
    rfl
  have okf : ∀ w ∈ wss.flatten, OkW w := fun w m => by
    obtain ⟨ws, m1, m2⟩ := List.mem_flatten.mp m
    exact (ok ws m1).2 w m2
  obtain ⟨w, ws, ew⟩ : ∃ w ws, wss.flatten = w :: ws := by
    cases wss with
    | nil =>
      have := congrArg List.length e
      rw [List.length_map, List.length_map] at this
      cases this
    | cons a b =>
      rw [List.flatten_cons]
      obtain ⟨x, y, exy⟩ := List.exists_cons_of_ne_nil (ok a List.mem_cons_self).1
      rw [exy]
      exact ⟨_, _, rfl⟩
  rw [ew] at et okf run
  have ok1 : ∀ x ∈ (40 :: w) :: ws, OkW x := fun x m => by
    rcases List.mem_cons.mp m with rfl | m
    · exact (okf w List.mem_cons_self).op
    · exact okf x (List.mem_cons_of_mem _ m)
  refine ⟨sn41 ((40 :: w) :: ws), ?_, ?_, ok_sn ok1, fun t r => ?_⟩
  · rw [et, joinL_sn (by simp), joinL_op]
    rfl
  · cases ws with
    | nil => exact List.cons_ne_nil _ _
    | cons _ _ => exact List.cons_ne_nil _ _
  · rw [run_sn (by simp) fun x m => (ok1 x m).ne]
    have : runW (t :: r) ((40 :: w) :: ws) = runW ([] :: t :: r) (w :: ws) := by
      show (match stepW (t :: r) (40 :: w) with | none => none | some s => runW s ws) = _
      rw [step_open (okf w List.mem_cons_self).ne]
      rfl
    rw [this, run]
    show closeN 1 (([] ++ ([.str c] ++ raws)) :: t :: r) = _
    show (match closedD (.str c :: raws) with | none => none | some c => closeN 0 ((t ++ [c]) :: r)) = _
    rw [hd]
    rfl
end K7
end Bf

namespace Bf
namespace K7
open PySem PySem.Spec PyProof.Rows L2 T SX
/-! ### what is written is read -/
theorem whole_inv {d : PyData} {lo hi : Int} (h : wholeD d lo hi = true) : ∃ i, d = .int i ∧ lo ≤ i ∧ i ≤ hi := by
  cases d with
  | int i =>
    have h : (decide (lo ≤ i) && decide (i ≤ hi)) = true := h
    obtain ⟨a, b⟩ := Bool.and_eq_true_iff.mp h
    exact ⟨i, rfl, of_decide_eq_true a, of_decide_eq_true b⟩
  | _ => cases h
theorem wKind_two (i j : Int) : wKind (.tuple [.int i, .int j]) = numStr i ++ "x" ++ numStr j := by
  show Str.empty ++ numStr i ++ "x" ++ numStr j = _
  have : Str.empty ++ numStr i = numStr i := TL.ext_tl (by rw [TL.tl_append]; rfl)
  rw [this]
theorem wKind_join (i j : Int) : wKind (.tuple [.int i, .int j]) = Txt.join "x" ([i, j].map numStr) := by
  rw [wKind_two, TL.join_eq]
  rfl
theorem kind_atom {d : PyData} (h : kindD d = true) : atomB (wKind d) = true ∧ kindW (wKind d) = d := by
  rcases kind_inv h with ⟨i, rfl, a, b⟩ | ⟨i, j, rfl, a, b, c, e⟩
  · exact ⟨(num_back (by omega) (by omega)).2.1, kindW_one (by omega) (by omega)⟩
  · refine ⟨?_, ?_⟩
    · rw [wKind_join, ex_sign]
      refine atom_join (by decide) (by simp) fun p m => ?_
      obtain ⟨k, mk, rfl⟩ := List.mem_map.mp m
      rcases List.mem_cons.mp mk with rfl | mk
      · exact (num_back (by omega) (by omega)).2.1
      · rw [List.mem_singleton.mp mk]
        exact (num_back (by omega) (by omega)).2.1
    · rw [wKind_two]
      exact kindW_two ⟨by omega, by omega⟩ ⟨by omega, by omega⟩
theorem topW_le {z : Int} (h : z ≤ 8) : topW z ≤ 255 := by
  unfold topW
  have : z.toNat ≤ 8 := by omega
  have k : (2 : Int) ^ z.toNat ≤ 2 ^ 8 := by
    have := Nat.pow_le_pow_right (n := 2) (by decide) this
    have e : ∀ n : Nat, (2 : Int) ^ n = ((2 ^ n : Nat) : Int) := fun n => by
      induction n with
      | zero => rfl
      | succ n ih => rw [Int.pow_succ, Nat.pow_succ, ih]; rfl
    rw [e, e]
    exact Int.ofNat_le.mpr this
  have : (2 : Int) ^ 8 = 256 := by decide
  omega
/-- a worth: a number, or a row of some -/
theorem worth_inv {d k : PyData} (hk : kindD k = true) (h : worthD d k = true) : (∃ i : Int, d = .int i ∧ 0 ≤ i ∧ i ≤ 255) ∨ ∃ is : List Int, d = .tuple (is.map PyData.int) ∧ 2 ≤ is.length ∧ is.length ≤ 4 ∧ ∀ i ∈ is, 0 ≤ i ∧ i ≤ 255 := by
  rcases kind_inv hk with ⟨z, rfl, z1, z8⟩ | ⟨m, z, rfl, m2, m4, z1, z8⟩
  · obtain ⟨i, rfl, a, b⟩ := whole_inv (lo := 0) (hi := topW z) h
    exact .inl ⟨i, rfl, a, Int.le_trans b (topW_le z8)⟩
  · cases d with
    | tuple ds =>
      have h' : (decide ((ds.length : Int) = m) && ds.all fun e => wholeD e 0 (topW z)) = true := h
      obtain ⟨a, b⟩ := Bool.and_eq_true_iff.mp h'
      have la := of_decide_eq_true a
      have key : ∀ ds : List PyData, (∀ x ∈ ds, wholeD x 0 (topW z) = true) → ∃ is : List Int, ds = is.map PyData.int ∧ ∀ i ∈ is, 0 ≤ i ∧ i ≤ 255 := by
        intro ds
        induction ds with
        | nil => exact fun _ => ⟨[], rfl, fun _ m => nomatch m⟩
        | cons x r ih =>
          intro h
          obtain ⟨i, rfl, a, b⟩ := whole_inv (h x List.mem_cons_self)
          obtain ⟨is, rfl, hi⟩ := ih fun y m => h y (List.mem_cons_of_mem _ m)
          refine ⟨i :: is, rfl, fun j m => ?_⟩
          rcases List.mem_cons.mp m with rfl | m
          · exact ⟨a, Int.le_trans b (topW_le z8)⟩
          · exact hi j m
      obtain ⟨is, rfl, hi⟩ := key ds fun x m => List.all_eq_true.mp b x m
      rw [List.length_map] at la
      exact .inr ⟨is, rfl, by omega, by omega, hi⟩
    | _ => cases h
theorem wWorth_list (is : List Int) : wWorth (.tuple (is.map PyData.int)) = Txt.join "," (is.map numStr) := by
  show Txt.join "," ((is.map PyData.int).map _) = _
  rw [List.map_map]
  rfl
theorem worth_atom {d k : PyData} (hk : kindD k = true) (h : worthD d k = true) : atomB (wWorth d) = true ∧ worthW (wWorth d) = d := by
  rcases worth_inv hk h with ⟨i, rfl, a, b⟩ | ⟨is, rfl, l2, l4, hi⟩
  · exact ⟨(num_back a b).2.1, worthW_one a b⟩
  · have ne : is ≠ [] := fun e => by rw [e] at l2; exact absurd l2 (by decide)
    rw [wWorth_list]
    refine ⟨?_, ?_⟩
    · rw [comma]
      refine atom_join (by decide) (by simpa using ne) fun p m => ?_
      obtain ⟨k, mk, rfl⟩ := List.mem_map.mp m
      exact (num_back (hi k mk).1 (hi k mk).2).2.1
    · rw [worthW_list ne hi, if_pos (by omega)]
/-- what a slot's text lays on the list -/
def rawsD (s : Str) (d : PyData) : List PyData :=
  if decide (V.str s = V.str "term") = true then [d] else if decide (V.str s = V.str "parts") = true then insideD d else if decide (V.str s = V.str "kind") = true then [.str (wKind d)] else if decide (V.str s = V.str "worth") = true then [.str (wWorth d)] else [.str (otherS d)]
theorem wr_one {z : Str} {is : List PyData} (h : Wr z is) : WrL [z] is := by
  have := WrL.cons h WrL.nil
  rw [List.append_nil] at this
  exact this
theorem wr_map : ∀ {ds : List PyData}, (∀ x ∈ ds, Wr (textS x) [x]) → WrL (ds.map textS) ds
  | [], _ => WrL.nil
  | d :: ds, h => WrL.cons (h d List.mem_cons_self) (wr_map fun x m => h x (List.mem_cons_of_mem _ m))
theorem slot_parts {d : PyData} (h : ∀ x ∈ insideD d, Wr (textS x) [x]) : WrL (pieceS textS "parts" d) (rawsD "parts" d) := wr_map h
theorem slot_one {s : Str} {d : PyData} (hs : s ∈ SLT) (hf : fitsD s d = true) (ht : s = "term" → termD d = true ∧ Wr (textS d) [d]) (hw : s = "worth" → ∃ k, kindD k = true ∧ worthD d k = true) :
    WrL (pieceS textS s d) (rawsD s d) ∧ ∃ r, rawsD s d = [r] ∧ slotD s r = d := by
  have hs' : s ∈ (["kind", "worth", "name", "term", "width", "bit", "truth", "place"] : List Str) := hs
  simp only [List.mem_cons, List.not_mem_nil, or_false] at hs'
  have num : ∀ {lo hi : Int}, 0 ≤ lo → hi ≤ 8 → wholeD d lo hi = true → ∃ i, d = .int i ∧ Wr (otherS d) [.str (otherS d)] ∧ numD' (otherS d) = d := fun h0 h8 h => by
    obtain ⟨i, rfl, a, b⟩ := whole_inv h
    exact ⟨i, rfl, wr_atom (num_back (by omega) (by omega)).2.1, numD_back (by omega) (by omega)⟩
  rcases hs' with rfl | rfl | rfl | rfl | rfl | rfl | rfl | rfl
  · obtain ⟨a, b⟩ := kind_atom hf
    exact ⟨wr_one (wr_atom a), _, rfl, b⟩
  · obtain ⟨k, hk, hx⟩ := hw rfl
    obtain ⟨a, b⟩ := worth_atom hk hx
    exact ⟨wr_one (wr_atom a), _, rfl, b⟩
  · have hf : nameD d = true := hf
    cases d with
    | str z => exact ⟨wr_one (wr_atom (atom_name hf)), _, rfl, rfl⟩
    | _ => cases hf
  · obtain ⟨t1, t2⟩ := ht rfl
    refine ⟨wr_one t2, d, rfl, ?_⟩
    obtain ⟨c, r, rfl⟩ := term_tup t1
    rfl
  · obtain ⟨i, rfl, a, b⟩ := num (lo := 1) (hi := 8) (by decide) (by decide) hf
    exact ⟨wr_one a, _, rfl, b⟩
  · obtain ⟨i, rfl, a, b⟩ := num (lo := 0) (hi := 7) (by decide) (by decide) hf
    exact ⟨wr_one a, _, rfl, b⟩
  · obtain ⟨i, rfl, a, b⟩ := num (lo := 0) (hi := 1) (by decide) (by decide) hf
    exact ⟨wr_one a, _, rfl, b⟩
  · obtain ⟨i, rfl, a, b⟩ := num (lo := 0) (hi := 3) (by decide) (by decide) hf
    exact ⟨wr_one a, _, rfl, b⟩
theorem zip_wr : ∀ {ss : List Str} {ds : List PyData}, (∀ p ∈ ss.zip ds, WrL (pieceS textS p.1 p.2) (rawsD p.1 p.2)) → WrL (List.zipWith (pieceS textS) ss ds).flatten (List.zipWith rawsD ss ds).flatten
  | [], _, _ => by rw [List.zipWith_nil_left, List.zipWith_nil_left]; exact WrL.nil
  | _ :: _, [], _ => by rw [List.zipWith_nil_right, List.zipWith_nil_right]; exact WrL.nil
  | s :: ss, d :: ds, h => by
    rw [List.zipWith_cons_cons, List.zipWith_cons_cons, List.flatten_cons, List.flatten_cons]
    exact (h (s, d) List.mem_cons_self).app (zip_wr fun p m => h p (List.mem_cons_of_mem _ m))
theorem zip_fits {α β : Type} {f : α → β → Bool} : ∀ {as : List α} {bs : List β}, (List.zipWith f as bs).all id = true → ∀ p ∈ as.zip bs, f p.1 p.2 = true
  | [], _, _, _, m => nomatch m
  | _ :: _, [], _, _, m => nomatch m
  | a :: as, b :: bs, h, p, m => by
    rw [List.zipWith_cons_cons, List.all_cons, Bool.and_eq_true] at h
    rcases List.mem_cons.mp m with rfl | m
    · exact h.1
    · exact zip_fits h.2 p m
theorem zip_in {f : Str → PyData → List PyData} {x : PyData} : ∀ {as : List Str} {bs : List PyData}, ∀ p ∈ as.zip bs, x ∈ f p.1 p.2 → x ∈ (List.zipWith f as bs).flatten
  | [], _, _, m, _ => nomatch m
  | _ :: _, [], _, m, _ => nomatch m
  | a :: as, b :: bs, p, m, h => by
    rw [List.zipWith_cons_cons, List.flatten_cons]
    rcases List.mem_cons.mp m with rfl | m
    · exact List.mem_append_left _ h
    · exact List.mem_append_right _ (zip_in p m h)
theorem zip_back : ∀ {ss : List Str} {ds : List PyData}, ds.length = ss.length → (∀ p ∈ ss.zip ds, ∃ r, rawsD p.1 p.2 = [r] ∧ slotD p.1 r = p.2) →
    (List.zipWith rawsD ss ds).flatten.length = ss.length ∧ List.zipWith slotD ss (List.zipWith rawsD ss ds).flatten = ds
  | [], [], _, _ => ⟨rfl, rfl⟩
  | [], _ :: _, h, _ => nomatch h
  | _ :: _, [], h, _ => nomatch h
  | s :: ss, d :: ds, hl, h => by
    obtain ⟨r, e, b⟩ := h (s, d) List.mem_cons_self
    obtain ⟨h1, h2⟩ := zip_back (ss := ss) (ds := ds) (Nat.succ.inj hl) fun p m => h p (List.mem_cons_of_mem _ m)
    have e : rawsD s d = [r] := e
    rw [List.zipWith_cons_cons, List.flatten_cons, e]
    refine ⟨?_, ?_⟩
    · rw [List.length_append, h1, List.length_cons, List.length_cons, List.length_nil]
      omega
    · show slotD s r :: List.zipWith slotD ss (List.zipWith rawsD ss ds).flatten = _
      rw [h2]
      exact congrArg (· :: ds) b
theorem form_atoms : ∀ p ∈ FM, atomB p.1 = true := by decide +kernel
theorem wr_term : ∀ (n : Nat) (d : PyData), sz d ≤ n → termD d = true → Wr (textS d) [d]
  | 0, d, h, _ => absurd h (by have := sz_pos d; omega)
  | n + 1, d, hn, ht => by
    have wsz := within_sz d
    rw [termD_eq, Bool.and_eq_true, Bool.and_eq_true] at ht
    obtain ⟨⟨hf, hcall⟩, hin⟩ := ht
    obtain ⟨c, rest, ss, rfl, e, hl, hfit, hlit⟩ := formed_inv hf
    have nc : callS c = false := by
      have : callX (.tuple (.str c :: rest)) = callS c := rfl
      rw [this, Bool.not_eq_true'] at hcall
      exact hcall
    obtain ⟨fo, fw⟩ := form_of e nc
    have ec : atomB c = true := by
      obtain ⟨k, m, ek⟩ := lk_mem e
      have ek : k = c := eq_of_beq ek
      subst ek
      exact form_atoms _ m
    have hwi : ∀ x ∈ withinD (.tuple (.str c :: rest)), termD x = true ∧ Wr (textS x) [x] := fun x m => by
      have t := List.all_eq_true.mp hin x m
      exact ⟨t, wr_term n x (by have := szA_mem m; omega) t⟩
    rw [within_eq e] at hwi
    rw [textS_eq e]
    by_cases hp : ss = [("parts" : Str)]
    · subst hp
      match rest, hl with
      | [d1], _ =>
        have hr : fitsD "parts" d1 = true := by
          rw [List.zipWith_cons_cons, List.all_cons, Bool.and_eq_true] at hfit
          exact hfit.1
        obtain ⟨ds, rfl⟩ := range_inv (lo := 2) (hi := 4) hr
        have hd : closedD (.str c :: ds) = some (.tuple [.str c, .tuple ds]) := by
          rw [closed_str e]
          rfl
        refine wr_brack ec (raws := ds) ?_ hd
        show WrL (ds.map textS ++ []) ds
        rw [List.append_nil]
        refine wr_map fun x m => (hwi x ?_).2
        show x ∈ (oneD "parts" (.tuple ds) ++ [])
        rw [List.append_nil]
        exact m
    · have hs := fo.resolve_left hp
      have all : ∀ p ∈ ss.zip rest, WrL (pieceS textS p.1 p.2) (rawsD p.1 p.2) ∧ ∃ r, rawsD p.1 p.2 = [r] ∧ slotD p.1 r = p.2 := fun p m => by
        have ms : p.1 ∈ ss := (List.of_mem_zip (show (p.1, p.2) ∈ _ from m)).1
        refine slot_one (hs _ ms) (zip_fits hfit p m) (fun e2 => ?_) (fun e2 => ?_)
        · refine hwi _ (zip_in p m ?_)
          rw [e2]
          have : oneD "term" p.2 = [p.2] := rfl
          rw [this]
          exact List.mem_singleton.mpr rfl
        · obtain ⟨rfl, rfl⟩ := fw (by rw [← e2]; exact ms)
          match rest, hl, m, hlit, hfit with
          | [k, x], _, m, hlit, hfit =>
            have hk : kindD k = true := by
              rw [List.zipWith_cons_cons, List.all_cons, Bool.and_eq_true] at hfit
              exact hfit.1
            have hx : worthD x k = true := by
              have z : (!decide (V.str "lit" = V.str "lit") || litD [k, x]) = true := hlit
              rw [decide_eq_true rfl, Bool.not_true, Bool.false_or] at z
              exact z
            refine ⟨k, hk, ?_⟩
            rcases List.mem_cons.mp m with rfl | m
            · exact absurd (show ("kind" : Str) = "worth" from e2) (by decide +kernel)
            · rw [List.mem_singleton.mp m]
              exact hx
      obtain ⟨b1, b2⟩ := zip_back hl fun p m => (all p m).2
      refine wr_brack ec (zip_wr fun p m => (all p m).1) ?_
      have eg : given ss (List.zipWith rawsD ss rest).flatten = (List.zipWith rawsD ss rest).flatten := if_neg hp
      rw [closed_str e, eg, if_pos b1, b2]
/-- a term's text: its words, and what is read of it -/
structure TextOf (d : PyData) (ws : List (List Nat)) : Prop where
  eq : TL.tl (textS d) = TL.joinL [32] ws
  ne : ws ≠ []
  ok : ∀ w ∈ ws, OkW w
  run : ∀ t r, runW (t :: r) ws = some ((t ++ [d]) :: r)
theorem text_of {d : PyData} (h : termD d = true) : ∃ ws, TextOf d ws := by
  obtain ⟨ws, a, b, c, e⟩ := wr_term _ d (Nat.le_refl _) h
  exact ⟨ws, a, b, c, e⟩
theorem OkW.nn {w : List Nat} (h : OkW w) : w ≠ [] := fun e => h.ne (by rw [e]; rfl)
theorem TextOf.words {d : PyData} {ws : List (List Nat)} (h : TextOf d ws) : T.words (TL.tl (textS d)) = ws := by
  rw [h.eq]
  exact words_join fun w m => ⟨(h.ok w m).nn, (h.ok w m).no32⟩
theorem TextOf.no10 {d : PyData} {ws : List (List Nat)} (h : TextOf d ws) : 10 ∉ TL.tl (textS d) := fun m => by
  rw [h.eq] at m
  rcases joinL_mem m with m | ⟨w, mw, m⟩
  · exact absurd (List.mem_singleton.mp m) (by decide)
  · exact (h.ok w mw).no10 m
theorem TextOf.read {d : PyData} {ws : List (List Nat)} (h : TextOf d ws) (ht : termD d = true) {t : List Nat} (e : T.words t = ws) (n : 10 ∉ t) : readD t = some d := by
  unfold readD rowD
  rw [if_neg n, e, h.run]
  show (if termD d = true then some d else none) = _
  rw [if_pos ht]
theorem read_text {d : PyData} (h : termD d = true) : readD (TL.tl (textS d)) = some d := by
  obtain ⟨ws, t⟩ := text_of h
  exact t.read h t.words t.no10
end K7
end Bf

namespace Bf
namespace K7
open PySem PySem.Spec PyProof.Rows L2 T SX
/-! ### texts that are not read -/
theorem unread {t : List Nat} (h : ∀ d, readD t = some d → False) : readD t = none := by
  cases e : readD t with
  | none => rfl
  | some d => exact (h d e).elim
theorem cnt_app (c : Nat) (a b : List Nat) : (a ++ b).count c = a.count c + b.count c := List.count_append
theorem un_count {t : List Nat} (h : t.count 40 ≠ t.count 41) : readD t = none := unread fun _ e => h (read_good e).2.2.1
/-- the text of a term -/
structure Tx (d : PyData) (t : List Nat) : Prop where
  term : termD d = true
  eq : TL.tl (textS d) = t
theorem Tx.good {d : PyData} {t : List Nat} (x : Tx d t) : AllGood t ∧ (∀ w ∈ words t, 1 ≤ nO w → (lk (S (inn w)) FM).isSome = true) ∧ t.count 40 = t.count 41 ∧ 10 ∉ t := by
  have := read_text x.term
  rw [x.eq] at this
  exact read_good this
theorem Tx.drop40 {d : PyData} {t a b : List Nat} (x : Tx d t) (e : t = a ++ 40 :: b) : readD (a ++ b) = none := un_count fun h => by
  have := x.good.2.2.1
  rw [e, cnt_app, cnt_app, List.count_cons_self, List.count_cons_of_ne (by decide)] at this
  rw [cnt_app, cnt_app] at h
  omega
theorem Tx.drop41 {d : PyData} {t a b : List Nat} (x : Tx d t) (e : t = a ++ 41 :: b) : readD (a ++ b) = none := un_count fun h => by
  have := x.good.2.2.1
  rw [e, cnt_app, cnt_app, List.count_cons_self, List.count_cons_of_ne (by decide)] at this
  rw [cnt_app, cnt_app] at h
  omega
theorem Tx.more40 {d : PyData} {t a b : List Nat} (x : Tx d t) (e : t = a ++ b) : readD (a ++ 40 :: b) = none := un_count fun h => by
  have := x.good.2.2.1
  rw [cnt_app, cnt_app, List.count_cons_self, List.count_cons_of_ne (by decide)] at h
  rw [e, cnt_app, cnt_app] at this
  omega
theorem Tx.more41 {d : PyData} {t a b : List Nat} (x : Tx d t) (e : t = a ++ b) : readD (a ++ 41 :: b) = none := un_count fun h => by
  have := x.good.2.2.1
  rw [cnt_app, cnt_app, List.count_cons_self, List.count_cons_of_ne (by decide)] at h
  rw [e, cnt_app, cnt_app] at this
  omega
theorem un_open_blank (a b : List Nat) : readD (a ++ 40 :: 32 :: b) = none := unread fun _ e => (read_good e).1.open_blank rfl (.inr ⟨b, rfl⟩)
theorem un_blank_shut (a b : List Nat) : readD (a ++ 32 :: 41 :: b) = none := unread fun _ e => (read_good e).1.blank_shut (a := a ++ [32]) (b := b) (by rw [List.append_assoc]; rfl) (.inr ⟨a, rfl⟩)
theorem un_pair40 {c : Nat} (hc : c ≠ 32) (h4 : c ≠ 40) (a b : List Nat) : readD (a ++ c :: 40 :: b) = none := unread fun _ e => h4 (((read_good e).1.pair (a := a) (b := b) (x := c) (y := 40) (by rw [List.append_assoc]; rfl) hc (by decide)).1 rfl)
theorem un_41pair {c : Nat} (hc : c ≠ 32) (h4 : c ≠ 41) (a b : List Nat) : readD (a ++ 41 :: c :: b) = none := unread fun _ e => h4 (((read_good e).1.pair (a := a) (b := b) (x := 41) (y := c) (by rw [List.append_assoc]; rfl) (by decide) hc).2 rfl)
theorem un_nl (a b : List Nat) : readD (a ++ 10 :: b) = none := by
  unfold readD
  rw [if_pos (List.mem_append_right _ List.mem_cons_self)]
theorem Tx.twice {d : PyData} {t : List Nat} (x : Tx d t) : readD (t ++ 32 :: t) = none := by
  obtain ⟨ws, w⟩ := text_of x.term
  have ew := w.words
  rw [x.eq] at ew
  have e : words (t ++ 32 :: t) = ws ++ ws := by rw [words_app, ew]
  have n10 : 10 ∉ t ++ 32 :: t := fun m => by
    rcases List.mem_append.mp m with m | m
    · exact x.good.2.2.2 m
    · rcases List.mem_cons.mp m with m | m
      · exact absurd m (by decide)
      · exact x.good.2.2.2 m
  unfold readD rowD
  rw [if_neg n10, e, runW_app, w.run]
  show (match (match runW (([] ++ [d]) :: []) ws with | some [l] => some l | _ => none) with | some [d] => if termD d = true then some d else none | _ => none) = none
  rw [w.run]
  rfl
/-! ### 'no' ahead of a word of forms -/
theorem dw_rep (n c : Nat) (l : List Nat) : (List.replicate n c ++ l).dropWhile (· == c) = l.dropWhile (· == c) := by
  induction n with
  | zero => rfl
  | succ n ih =>
    rw [List.replicate_succ, List.cons_append, List.dropWhile_cons, if_pos (beq_self_eq_true c)]
    exact ih
theorem no_forms : FM.all (fun p => (lk (S (110 :: 111 :: TL.tl p.1)) FM).isNone) = true := by decide +kernel
theorem Tx.no_word {d : PyData} {t a b : List Nat} (x : Tx d t) (e : t = a ++ 40 :: b) : readD (a ++ 40 :: 110 :: 111 :: b) = none := unread fun d' e' => by
  obtain ⟨g', h', _, _⟩ := read_good e'
  obtain ⟨g, h, _, _⟩ := x.good
  obtain ⟨a1, b1, hw, ha, hb⟩ := word_in (l := t) (a := a) (m := [40]) (b := b) (by rw [e, List.append_assoc]; rfl) (by decide) (by simp)
  have gw := g _ hw
  -- what stands ahead of the bracket are brackets
  obtain ⟨k, ek⟩ : ∃ k, a1 = List.replicate k 40 := by
    refine ⟨a1.length, List.eq_replicate_of_mem fun c m => ?_⟩
    obtain ⟨i, hi⟩ := List.getElem?_of_mem m
    have hi' := (List.getElem?_eq_some_iff.mp hi).1
    have at1 : (a1 ++ [40] ++ b1)[a1.length]? = some 40 := by rw [List.append_assoc]; exact at_app
    have := gw.is40 (i := i) (by have := gw.at40 at1; omega)
    rw [List.append_assoc, List.getElem?_append_left hi', hi] at this
    exact Option.some.inj this
  subst ek
  have b1ne : b1 ≠ [] := fun e => by
    rw [e, List.append_nil] at gw
    exact gw.no_open_end rfl
  have b1h : ∀ r, b1 ≠ 40 :: r := fun r er => by
    obtain ⟨z, ez⟩ : ∃ z, b = 40 :: z := by
      rcases hb with hb | ⟨z, hb⟩
      · exact ⟨r, by rw [← hb, er]⟩
      · exact ⟨r ++ 32 :: z, by rw [hb, er]; rfl⟩
    rw [ez] at e'
    have := un_pair40 (c := 111) (by decide) (by decide) (a ++ [40, 110]) z
    rw [List.append_assoc] at this
    rw [show a ++ 40 :: 110 :: 111 :: 40 :: z = a ++ ([40, 110] ++ 111 :: 40 :: z) from rfl, this] at e'
    cases e'
  have c1 : core (List.replicate k 40 ++ [40] ++ b1) = b1 := by
    unfold core
    rw [List.append_assoc, dw_rep]
    show b1.dropWhile (· == 40) = b1
    cases b1 with
    | nil => rfl
    | cons c r =>
      rw [List.dropWhile_cons, if_neg]
      intro ec
      exact b1h r (by rw [eq_of_beq ec])
  have f1 : (lk (S (inn (List.replicate k 40 ++ [40] ++ b1))) FM).isSome = true := h _ hw (by
    have at1 : (List.replicate k 40 ++ [40] ++ b1)[k]? = some 40 := by
      have := at_app (a := List.replicate k 40) (b := b1) (x := 40)
      rw [List.length_replicate] at this
      rw [List.append_assoc]
      exact this
    have := gw.at40 at1
    omega)
  -- the word with 'no'
  obtain ⟨a2, b2, hw2, ha2, hb2⟩ := word_in (l := a ++ 40 :: 110 :: 111 :: b) (a := a) (m := [40, 110, 111]) (b := b) (by rw [List.append_assoc]; rfl) (by decide) (by simp)
  have g2 := g' _ hw2
  have same_a : a2 = List.replicate k 40 := by
    rcases ha with h1 | ⟨z1, h1⟩ <;> rcases ha2 with h2 | ⟨z2, h2⟩
    · rw [h2, h1]
    · exfalso
      rw [← h1] at h2
      have : 32 ∈ List.replicate k 40 := by rw [h2]; exact List.mem_append_right _ List.mem_cons_self
      exact absurd (rep_mem this) (by decide)
    · exfalso
      have := words_free hw2
      rw [h2, h1] at this
      exact this (List.mem_append_left _ (List.mem_append_left _ (List.mem_append_right _ List.mem_cons_self)))
    · have n1 : 32 ∉ List.replicate k 40 := fun m => absurd (rep_mem m) (by decide)
      have n2 : 32 ∉ a2 := fun m => words_free hw2 (List.mem_append_left _ (List.mem_append_left _ m))
      have key : ∀ (x y x' y' : List Nat), 32 ∉ y → 32 ∉ y' → x ++ 32 :: y = x' ++ 32 :: y' → y' = y := by
        intro x y x' y' ny ny' e
        have c1 := cutB_app x y
        rw [e, cutB_app, cutB_one ny, cutB_one ny'] at c1
        have := List.append_inj_right' c1 rfl
        exact (List.cons.inj this).1
      exact key z1 _ z2 _ n1 n2 (h1.symm.trans h2)
  have same_b : b2 = b1 := by
    have n1 : 32 ∉ b1 := fun m => words_free hw (List.mem_append_right _ m)
    have n2 : 32 ∉ b2 := fun m => words_free hw2 (List.mem_append_right _ m)
    have key : ∀ (x y x' y' : List Nat), 32 ∉ x → 32 ∉ x' → x ++ 32 :: y = x' ++ 32 :: y' → x' = x := by
      intro x y x' y' nx nx' e
      have c1 := cutB_app x y
      rw [e, cutB_app, cutB_one nx, cutB_one nx'] at c1
      exact (List.cons.inj c1).1
    rcases hb with h1 | ⟨z1, h1⟩ <;> rcases hb2 with h2 | ⟨z2, h2⟩
    · rw [h2, h1]
    · exfalso
      rw [← h1] at h2
      exact n1 (by rw [h2]; exact List.mem_append_right _ List.mem_cons_self)
    · exfalso
      rw [← h2] at h1
      exact n2 (by rw [h1]; exact List.mem_append_right _ List.mem_cons_self)
    · exact key _ z1 _ z2 n1 n2 (h1.symm.trans h2)
  subst same_a
  rw [same_b] at hw2 g2
  clear hb2 same_b
  have c2 : core (List.replicate k 40 ++ [40, 110, 111] ++ b1) = 110 :: 111 :: b1 := by
    unfold core
    rw [List.append_assoc, dw_rep]
    rfl
  have i2 : inn (List.replicate k 40 ++ [40, 110, 111] ++ b1) = 110 :: 111 :: inn (List.replicate k 40 ++ [40] ++ b1) := by
    have hne := gw.ne
    unfold inn at hne ⊢
    rw [c1] at hne
    rw [c1, c2]
    have e3 : (110 :: 111 :: b1).reverse = b1.reverse ++ [111, 110] := by
      rw [List.reverse_cons, List.reverse_cons, List.append_assoc]
      rfl
    rw [e3, List.dropWhile_append, if_neg, List.reverse_append]
    · rfl
    · intro e
      rw [List.isEmpty_iff.mp e] at hne
      exact hne rfl
  have f2 := h' _ hw2 (by
    have at1 : (List.replicate k 40 ++ [40, 110, 111] ++ b1)[k]? = some 40 := by
      have := at_app (a := List.replicate k 40) (b := 110 :: 111 :: b1) (x := 40)
      rw [List.length_replicate] at this
      rw [List.append_assoc]
      exact this
    have := g2.at40 at1
    omega)
  rw [i2] at f2
  obtain ⟨ss, es⟩ := Option.isSome_iff_exists.mp f1
  obtain ⟨kk, m, ekk⟩ := lk_mem es
  have := List.all_eq_true.mp no_forms _ m
  rw [eq_of_beq ekk] at this
  have this : (lk (S (110 :: 111 :: inn (List.replicate k 40 ++ [40] ++ b1))) FM).isNone = true := this
  rw [Option.isNone_iff_eq_none.mp this] at f2
  cases f2
end K7
end Bf

namespace Bf
namespace K7
open PySem PySem.Spec PyProof.Rows L2 T SX StrLaws
/-! ### one text put for another -/
theorem occ_at {x y : Str} (h : (Builtin.Str.occurrences x y 0 x.length 1).isEmpty = false) : ∃ i, At x y x.length i := by
  obtain ⟨f, hc⟩ := occ_chain x y 1
  cases e : Builtin.Str.occurrences x y 0 x.length 1 with
  | nil => rw [e] at h; cases h
  | cons i r =>
    rw [e] at hc
    exact ⟨i, hc.2.1⟩
/-- where y stands in x the first of it is put otherwise -/
theorem repl_first {x y z : Str} (hy : TL.tl y ≠ []) (h : (Builtin.Str.occurrences x y 0 x.length 1).isEmpty = false) :
    ∃ p q q', TL.tl x = p ++ (TL.tl y ++ q) ∧ TL.tl (Txt.replace x y z) = p ++ (TL.tl z ++ q') := by
  obtain ⟨i, hi⟩ := occ_at h
  obtain ⟨f, hG, hn⟩ := occ_tight x y (TL.len1 hy)
  unfold Txt.replace
  have hl0 : (y.length == 0) = false := beq_eq_false_iff_ne.mpr (by have := TL.len1 hy; omega)
  cases e : Builtin.Str.occurrences x y 0 x.length (x.length + 1) with
  | nil =>
    exfalso
    rw [e] at hG
    have ef : f = 0 := hG
    subst ef
    exact hn i (Nat.zero_le _) hi
  | cons c r =>
    rw [e] at hG
    obtain ⟨_, hc, _, _⟩ := hG
    rw [hl0, Bool.false_and, Bool.or_false]
    show ∃ p q q', TL.tl x = p ++ (TL.tl y ++ q) ∧ TL.tl (if false = true then x else _) = _
    rw [if_neg Bool.false_ne_true, partsBetween_eq, glued_eq_join, TL.tl_join]
    have hp := (TL.at_iff hy c).mp hc
    have hp : ((TL.tl x).drop c).take (TL.tl y).length = TL.tl y := eq_of_beq hp
    have h1 : TL.tl x = (TL.tl x).take c ++ (TL.tl y ++ ((TL.tl x).drop c).drop (TL.tl y).length) := by
      rw [← hp]
      have : ((TL.tl x).drop c).take (TL.tl y).length ++ ((TL.tl x).drop c).drop (((TL.tl x).drop c).take (TL.tl y).length).length = (TL.tl x).drop c := by
        rw [hp]
        have := List.take_append_drop (TL.tl y).length ((TL.tl x).drop c)
        rw [hp] at this
        exact this
      rw [this, List.take_append_drop]
    obtain ⟨a, b, ep⟩ := partsFrom_ne x y.length (c + y.length) r
    refine ⟨(TL.tl x).take c, _, TL.joinL (TL.tl z) ((a :: b).map TL.tl), h1, ?_⟩
    show TL.joinL (TL.tl z) ((Builtin.Str.strSub x 0 c :: partsFrom x y.length (c + y.length) r).map TL.tl) = _
    rw [ep]
    show TL.tl (Builtin.Str.strSub x 0 c) ++ (TL.tl z ++ TL.joinL (TL.tl z) ((a :: b).map TL.tl)) = _
    rw [TL.tl_strSub, List.drop_zero, Nat.sub_zero]
theorem joinL_in {c : Nat} {S : List Nat} : ∀ {ps : List (List Nat)} {p : List Nat}, p ∈ ps → c ∈ p → c ∈ TL.joinL S ps
  | [q], p, m, h => by
    rw [List.mem_singleton.mp m] at h
    exact h
  | q :: r :: s, p, m, h => by
    show c ∈ q ++ (S ++ TL.joinL S (r :: s))
    rcases List.mem_cons.mp m with rfl | m
    · exact List.mem_append_left _ h
    · exact List.mem_append_right _ (List.mem_append_right _ (joinL_in m h))
/-- other brackets -/
theorem Tx.square {d : PyData} {t : List Nat} (x : Tx d t) (h0 : 41 ∈ t) : readD (TL.tl (Txt.replace (textS d) "(" "[")) = none := by
  have e40 : ("(" : Str) = ⟨#[40]⟩ := by decide +kernel
  have e91 : TL.tl ("[" : Str) = [91] := by decide +kernel
  refine un_count fun h => ?_
  rw [e40, replace_one, TL.tl_join, e91] at h
  have n40 : 40 ∉ TL.joinL [91] ((Txt.split (textS d) ⟨#[40]⟩).map TL.tl) := fun m => by
    rcases joinL_mem m with m | ⟨p, mp, m⟩
    · exact absurd (List.mem_singleton.mp m) (by decide)
    · obtain ⟨q, mq, rfl⟩ := List.mem_map.mp mp
      exact split_free _ _ q mq m
  have m41 : 41 ∈ TL.joinL [91] ((Txt.split (textS d) ⟨#[40]⟩).map TL.tl) := by
    rw [← x.eq] at h0
    rcases split_mem (y := ⟨#[40]⟩) h0 with m | ⟨p, mp, m⟩
    · exact absurd (List.mem_singleton.mp m) (by decide)
    · exact joinL_in (List.mem_map.mpr ⟨p, mp, rfl⟩) m
  rw [List.count_eq_zero.mpr n40] at h
  have := List.count_pos_iff.mpr m41
  omega
theorem Tx.begins {d : PyData} {t : List Nat} (x : Tx d t) : ∃ r, t = 40 :: (r ++ [41]) := by
  have ht := x.term
  rw [termD_eq, Bool.and_eq_true, Bool.and_eq_true] at ht
  obtain ⟨c, rest, ss, rfl, e, _⟩ := formed_inv ht.1.1
  have e40 : ("(" : Str) = S [40] := by decide +kernel
  have e41 : (")" : Str) = S [41] := by decide +kernel
  rw [← x.eq, textS_eq e]
  unfold brack
  rw [e40, e41, TL.tl_append, TL.tl_append]
  exact ⟨_, rfl⟩
theorem Tx.no_two {d : PyData} {t a b : List Nat} (x : Tx d t) (e : t = a ++ 32 :: 32 :: b) : False := by
  obtain ⟨ws, w⟩ := text_of x.term
  have h := w.eq
  rw [x.eq] at h
  have hc : cutB t = ws := by
    rw [h]
    exact cutB_join w.ne fun v m => (w.ok v m).no32
  rw [e, cutB_app, cutB_blank] at hc
  exact (w.ok [] (by rw [← hc]; exact List.mem_append_right _ List.mem_cons_self)).nn rfl
/-- ') (' closed up -/
theorem Tx.glue2 {d : PyData} {t : List Nat} (_ : Tx d t) (h : (Builtin.Str.occurrences (textS d) ") (" 0 (textS d).length 1).isEmpty = false) : readD (TL.tl (Txt.replace (textS d) ") (" ")(")) = none := by
  obtain ⟨p, q, q', _, e⟩ := repl_first (z := ")(") (by decide +kernel) h
  have ez : TL.tl (")(" : Str) = [41, 40] := by decide +kernel
  rw [e, ez]
  exact un_pair40 (c := 41) (by decide) (by decide) p q'
/-- ' (' closed up -/
theorem Tx.glue1 {d : PyData} {t : List Nat} (x : Tx d t) (h : (Builtin.Str.occurrences (textS d) " (" 0 (textS d).length 1).isEmpty = false) : readD (TL.tl (Txt.replace (textS d) " (" "(")) = none := by
  obtain ⟨p, q, q', e1, e⟩ := repl_first (z := "(") (by decide +kernel) h
  have ez : TL.tl ("(" : Str) = [40] := by decide +kernel
  have ey : TL.tl (" (" : Str) = [32, 40] := by decide +kernel
  rw [x.eq, ey] at e1
  rw [e, ez]
  rcases List.eq_nil_or_concat p with rfl | ⟨r, c, rfl⟩
  · exfalso
    obtain ⟨r, hr⟩ := x.begins
    rw [hr] at e1
    exact absurd (List.cons.inj e1).1 (by decide)
  · rw [List.concat_eq_append, List.append_assoc] at e1 ⊢
    have c32 : c ≠ 32 := fun hc => by
      subst hc
      exact x.no_two e1
    have c40 : c ≠ 40 := fun hc => by
      subst hc
      exact x.good.1.open_blank e1 (.inr ⟨_, rfl⟩)
    exact un_pair40 c32 c40 r q'
/-- what is put in a text's place whole -/
theorem un_fixed : ([[], [32], [120], [40, 41]] : List (List Nat)).all (fun t => (readD t).isNone) = true := by decide +kernel
def near0 : List Str := ["(lit 0 0)", "(lit 9 1)", "(lit 2 4)", "(lit 3x4 1,2)", "(lit 1x4 1)", "(lit 5x1 0,0,0,0,0)"]
def near1 : List Str := ["(lit 03 1)", "(lit 3 01)", "(lit 3 -1)", "(lit 3)", "(lit 3 1 1)", "(lit 2x3 1,8)"]
def near2 : List Str := ["(lit 2x3 1)", "(lit x 1)", "(bit 8 (name x))", "(at 4 (name x))", "(wide 0 (name x))"]
def near3 : List Str := ["(wide 9 (name x))", "(bit (name x) 1)", "(when (name x) c 2)", "(when c (name x) 1)"]
def near4 : List Str := ["(when (name x) c)", "(merge (name c) (name x) (name y))", "(row)", "(row (name x))", "(name)"]
def near5 : List Str := ["(name Xx)", "(name abcdefghi)", "(name x y)", "(name (name x))", "(add (name x))"]
def near6 : List Str := ["(not (name x) (name y))", "(pick (name x) (name y))", "(call f () -)", "name x"]
def near7 : List Str := ["(first (name x)  )", "(last x)(last x)", "((name x))", "(lit 2x3 1,2,3)", "(lit 2X3 1,2)"]
def near8 : List Str := ["(row (name a) (name b) (name c) (name d) (name e))", "(add (name x)(name y))", "(not(name x))"]
def nearly : List Str := (((((((near0 ++ near1) ++ near2) ++ near3) ++ near4) ++ near5) ++ near6) ++ near7) ++ near8
theorem un_nearly : nearly.all (fun z => (readD (TL.tl z)).isNone) = true := by decide +kernel
end K7
end Bf

namespace Bf
namespace K7
open PySem PySem.Spec PyProof.Rows L2
/-! ### what a def adds to what was there -/
/-- S, and what is new in H' since H -/
def shad (S H H' : Hp) : Hp := fun b => match H b with
  | none => H' b
  | some _ => S b
theorem shad_new {S H H' : Hp} {b : Addr} (h : H b = none) : shad S H H' b = H' b := by
  unfold shad
  rw [h]
theorem shad_old {S H H' : Hp} {b : Addr} {o : HO} (h : H b = some o) : shad S H H' b = S b := by
  unfold shad
  rw [h]
theorem shad_same {S H H' : Hp} (h : Same S H) : Same S (shad S H H') := fun b o e => by
  rw [shad_old (h _ _ e)]
  exact e
theorem shad_to {S H H' : Hp} (h : Same S H) (s : Same H H') : Same (shad S H H') H' := fun b o e => by
  cases z : H b with
  | none => rw [shad_new z] at e; exact e
  | some u => rw [shad_old z] at e; exact s _ _ (h _ _ e)
theorem shad_mono {S H H1 H2 : Hp} (s : Same H1 H2) : Same (shad S H H1) (shad S H H2) := fun b o e => by
  cases z : H b with
  | none => rw [shad_new z] at e ⊢; exact s _ _ e
  | some u => rw [shad_old z] at e ⊢; exact e
theorem shad_shad {S H H1 H2 : Hp} (s1 : Same H H1) (s2 : Same H1 H2) : Same (shad (shad S H H1) H1 H2) (shad S H H2) := fun b o e => by
  cases z : H b with
  | none =>
    rw [shad_new z]
    cases z1 : H1 b with
    | none => rw [shad_new z1] at e; exact e
    | some u =>
      rw [shad_old z1, shad_new z, z1] at e
      cases e
      exact s2 _ _ z1
  | some u =>
    rw [shad_old z]
    rw [shad_old (s1 _ _ z), shad_old z] at e
    exact e
theorem shad_off {S H H' : Hp} {b : Addr} {o : HO} (h : H b = some o) (n : S b = none) : shad S H H' b = none := by rw [shad_old h]; exact n
theorem da_num {G : Hp} (z : Str) : Da G (numV' z) (numD' z) := by
  unfold numV' numD'
  cases numS z with
  | none => exact .non
  | some n => exact .int n
theorem sh_num_da {H' G : Hp} {P : Addr → Prop} {v : V} {z : Str} (h : Sh H' P false v (numD' z)) : Da G v (numD' z) := by
  unfold numD' at h ⊢
  split at h
  · cases h
    exact .int _
  · cases h
    exact .non
theorem sh_nums_da {H' G : Hp} {P : Addr → Prop} : ∀ {ps : List Str} {xs : List V}, ShAll H' P false xs (ps.map numD') → DaAll G xs (ps.map numD')
  | [], _, h => by cases h; exact .nil
  | p :: r, _, h => by
    cases h with
    | cons h1 h2 =>
      refine .cons ?_ (sh_nums_da h2)
      exact sh_num_da h1
theorem shAll_len {H' : Hp} {P : Addr → Prop} : ∀ {ds : List PyData} {xs : List V}, ShAll H' P false xs ds → xs.length = ds.length
  | [], _, h => by cases h; rfl
  | _ :: _, _, h => by
    cases h with
    | cons _ h2 => rw [List.length_cons, List.length_cons, shAll_len h2]
/-- what number_of, worth_of and kind_of_word hand back -/
theorem sh_text {S H H' : Hp} {v : V} {d : PyData} (hd : d = .none ∨ (∃ z, d = numD' z) ∨ ∃ ps : List Str, d = .tuple (ps.map numD') ∧ ps.length ≤ 20000) (h : Sh H' (fun b => H b = none) false v d) : Da (shad S H H') v d := by
  rcases hd with rfl | ⟨z, rfl⟩ | ⟨ps, rfl, hl⟩
  · cases h; exact .non
  · exact sh_num_da h
  · cases h with
    | tup h p r =>
      have hp : H _ = none := p
      refine .tup (by rw [shad_new hp]; exact h) ?_ (sh_nums_da r)
      rw [shAll_len r, List.length_map]
      exact hl
theorem split_le' {z y : Str} (hy : TL.tl y ≠ []) (hk : y.cps.all (· < 256) = true) (hz : z.length ≤ 19000) : (Txt.split z y).length ≤ 20000 := by
  have := (splits_len (z := z) hy hk).2
  omega
theorem kindW_form {z : Str} (hz : z.length ≤ 19000) : kindW z = .none ∨ (∃ y, kindW z = numD' y) ∨ ∃ ps : List Str, kindW z = .tuple (ps.map numD') ∧ ps.length ≤ 20000 := by
  unfold kindW
  split
  · exact .inr (.inr ⟨_, rfl, split_le' (by decide +kernel) (by decide +kernel) hz⟩)
  · exact .inr (.inl ⟨_, rfl⟩)
theorem worthW_form {z : Str} (hz : z.length ≤ 19000) : worthW z = .none ∨ (∃ y, worthW z = numD' y) ∨ ∃ ps : List Str, worthW z = .tuple (ps.map numD') ∧ ps.length ≤ 20000 := by
  unfold worthW
  split
  · exact .inl rfl
  · split
    · exact .inr (.inr ⟨_, rfl, split_le' (by decide +kernel) (by decide +kernel) hz⟩)
    · exact .inr (.inl ⟨_, rfl⟩)
section
variable {P : Program} {w : World} {K : PySem.W.Frag} {mg : Str → Option Value} {base : Heap} {aN : Addr}
/-! ### _read_slot -/
def shortD (d : PyData) : Prop := ∀ z, d = .str z → z.length ≤ 19000
def spSlot : Sp := fun vs H Q _ => ∃ (slot : Str) (x : V) (d : PyData) (S : Hp), vs = [.str slot, x] ∧ Same S H ∧ Da S x d ∧ shortD d ∧ ∀ v H', Same H H' → Da (shad S H H') v (slotD slot d) → Q v H'
abbrev nSl : List Str := ["slot", "given"]
theorem scSl : FnScope nSl ["slot", "given"] (defScope sSlot) := ⟨rfl, rfl, rfl, by decide +kernel, rfl, by decide +kernel, by decide +kernel⟩
theorem ok_sl {f fn fw fk : Addr} {fd dn dw dk : FuncData} (F : Fun K "_read_slot" "_read_slot" sSlot f fd) (DN : Df K mg "number_of" fn dn ["word"]) (GN : FnOk P w K mg base CX0 1 fn dn ["word"] spNo) (DW : Df K mg "worth_of" fw dw ["word"]) (GW : FnOk P w K mg base CX0 2 fw dw ["word"] (spText worthW))
    (DK : Df K mg "kind_of_word" fk dk ["word"]) (GK : FnOk P w K mg base CX0 2 fk dk ["word"] (spText kindW)) (gN : mg "SLOTS_OF_NUMBERS" = some (.ref aN)) (sN : ∀ H, SqT K H aN (SN.map V.str))
    (mi : mg "isinstance" = none) (mt : mg "tuple" = none) (ms : mg "str" = none) (mL : mg "list" = none) : FnOk P w K mg base CX0 3 f fd ["slot", "given"] spSlot := by
  refine F.ok scSl (fun vs H Q E h => ?_) (fun cdv A outer s H vs Q E hr h => ?_)
  · obtain ⟨slot, x, d, S, rfl, _⟩ := h
    rfl
  · obtain ⟨slot, x, d, S, rfl, sS, da, sh, q⟩ := h
    have hr1 := hr.mono (by decide : 1 ≤ 2)
    refine ⟨_, (pss_cons (ps_if (pt_val (pe_callB call_isi (by rfl) mi (by decide +kernel) (pa_cons (pv 1) (pa_cons (pe_bltn (v := .ty "list") (by rfl) mL (by decide +kernel) rfl) pa_nil)))) (pss_one (ps_ret (pe_callTy call_tuple_of (by rfl) mt (by decide +kernel) (pa_cons (pv 1) pa_nil)))) pss_nil)
        (pss_cons (ps_if (pt_not (pt_val (pe_callB call_isi (by rfl) mi (by decide +kernel) (pa_cons (pv 1) (pa_cons (pe_bltn (v := .ty "str") (by rfl) ms (by decide +kernel) rfl) pa_nil))))) (pss_one (ps_ret (pv 1))) pss_nil)
        (pss_cons (ps_if (pt_cmpR op_eq (pv 0) pe_str (nomark _)) (pss_one (ps_ret (pe_call GK hr (by rfl) DK.at_ DK.kp DK.bd .nil pass0 (pa_cons (pv 1) pa_nil)))) pss_nil)
        (pss_cons (ps_if (pt_cmpR op_eq (pv 0) pe_str (nomark _)) (pss_one (ps_ret (pe_call GW hr (by rfl) DW.at_ DW.kp DW.bd .nil pass0 (pa_cons (pv 1) pa_nil)))) pss_nil)
        (pss_cons (ps_if (pt_cmpR op_in_seq (pv 0) (pe_glob (v := .ref aN) (by rfl) gN rfl) (by rfl)) (pss_one (ps_ret (pe_call GN hr1 (by rfl) DN.at_ DN.kp DN.bd .nil pass0 (pa_cons (pv 1) pa_nil)))) pss_nil)
        (pss_cons (ps_if (PW.pt (pw_and (pt_cmpR op_eq (pv 0) pe_str (nomark _)) (pw_and1 (pt_cmpR op_eq (pv 1) pe_str (nomark _))))) (pss_one (ps_ret pe_non)) pss_nil)
        (pss_one (ps_ret (pv 1))))))))), ?_⟩
    have da' := Da.same sS _ _ da
    have q0 : Da S x (slotD slot d) → Q x H := fun h => q _ _ (Same.refl H) (Da.same (shad_same sS) _ _ h)
    refine ⟨_, rfl, x, .ty "list", _, _, _, rfl, .ty "list", da'.kn.ty, kit_ty (kit_list d), _, rfl, ?_⟩
    cases da with
    | @lst a xs ds h l r =>
      refine iteT ⟨_, rfl, a, xs, rfl, .inl ⟨SqL.of (sS _ _ h), fun t ht => q _ _ (same_new ht) ?_⟩⟩
      exact .tup (by rw [shad_new ht, upd_same]) l (DaAll.same (shad_same sS) _ _ r)
    | str z hz =>
      have hz' := sh z rfl
      refine iteF ?_
      refine ⟨_, rfl, .str z, .ty "str", _, _, _, rfl, .ty "str", (Da.str (H := H) z hz).kn.ty, kit_ty (kit_str (.str z)), _, rfl, iteF ?_⟩
      have e0 : slotD slot (.str z) = if decide (V.str slot = V.str "kind") = true then kindW z else if decide (V.str slot = V.str "worth") = true then worthW z else if inV (.str slot) (SN.map V.str) = true then numD' z else
        if decide (V.str slot = V.str "every") = true then (if decide (V.str z = V.str "-") = true then .none else .str z) else .str z := rfl
      refine ⟨_, rfl, rfl, _, rfl, ite2 (fun h1 => ?_) (fun h1 => ?_)⟩
      · rw [if_pos h1] at e0
        rw [e0] at q
        exact ⟨_, rfl, z, rfl, hz, fun v H' s' hs => q _ _ s' (sh_text (kindW_form hz') hs)⟩
      rw [if_neg h1] at e0
      refine ⟨_, rfl, rfl, _, rfl, ite2 (fun h2 => ?_) (fun h2 => ?_)⟩
      · rw [if_pos h2] at e0
        rw [e0] at q
        exact ⟨_, rfl, z, rfl, hz, fun v H' s' hs => q _ _ s' (sh_text (worthW_form hz') hs)⟩
      rw [if_neg h2] at e0
      refine ⟨_, rfl, aN, _, rfl, .inr (sN _), rfl, by decide +kernel, _, rfl, ?_⟩
      rw [if_neg Bool.false_ne_true]
      refine ite2 (fun h3 => ?_) (fun h3 => ?_)
      · rw [if_pos h3] at e0
        rw [e0] at q
        exact ⟨_, rfl, z, rfl, hz, fun H' s' => q _ _ s' (da_num z)⟩
      rw [if_neg h3] at e0
      have qs : Da S (.str z) (.str z) := .str z hz
      refine ⟨_, rfl, rfl, _, rfl, ite2 (fun h4 => ?_) (fun h4 => ?_)⟩
      · rw [if_pos h4] at e0
        refine ⟨_, rfl, rfl, _, rfl, ite2 (fun h5 => ?_) (fun h5 => ?_)⟩
        · rw [if_pos h5] at e0
          rw [e0] at q
          exact q _ _ (Same.refl H) .non
        · rw [if_neg h5] at e0
          rw [e0] at q0
          exact ⟨_, rfl, q0 qs⟩
      · rw [if_neg h4] at e0
        rw [e0] at q0
        exact ⟨_, rfl, q0 qs⟩
    | tup h l r => exact iteF ⟨_, rfl, _, .ty "str", _, _, _, rfl, .ty "str", da'.kn.ty, kit_ty (kit_str _), _, rfl, iteT ⟨_, rfl, q0 (.tup h l r)⟩⟩
    | non => exact iteF ⟨_, rfl, _, .ty "str", _, _, _, rfl, .ty "str", da'.kn.ty, kit_ty (kit_str _), _, rfl, iteT ⟨_, rfl, q0 .non⟩⟩
    | bl b => exact iteF ⟨_, rfl, _, .ty "str", _, _, _, rfl, .ty "str", da'.kn.ty, kit_ty (kit_str _), _, rfl, iteT ⟨_, rfl, q0 (.bl b)⟩⟩
    | int i => exact iteF ⟨_, rfl, _, .ty "str", _, _, _, rfl, .ty "str", da'.kn.ty, kit_ty (kit_str _), _, rfl, iteT ⟨_, rfl, q0 (.int i)⟩⟩
    | emp h => exact iteF ⟨_, rfl, _, .ty "str", _, _, _, rfl, .ty "str", da'.kn.ty, kit_ty (kit_str _), _, rfl, iteT ⟨_, rfl, q0 (.emp h)⟩⟩
end
end K7
end Bf

namespace Bf
namespace K7
open PySem PySem.Spec PyProof.Rows L2 StX
theorem isiK {X : Cx} {K : PySem.W.Frag} (h : X.K = K) : CallR X (.builtin "isinstance") (rIsi K) := by subst h; exact call_isi
theorem tup_ty (d : PyData) : (tyD d == "tuple") = tupB d := by cases d <;> rfl
theorem closed_other {ds : List PyData} (h : ∀ c r, ds ≠ .str c :: r) : closedD ds = if ds.all tupB = true then some (.list ds) else none := by
  cases ds with
  | nil => rfl
  | cons d r =>
    cases d with
    | str c => exact absurd rfl (h c r)
    | _ => rfl
theorem form_eqv : FM.all (fun p => SeqAt.shaped (.tuple (p.2.map PyData.str)) && (PyData.eqv (.tuple (p.2.map PyData.str)) (.tuple [.str "parts"]) == decide (p.2 = ([("parts" : Str)] : List Str)))) = true := by decide +kernel
theorem dp_strs {K : PySem.W.Frag} {H : Hp} : ∀ l : List Str, DpAll K H (l.map V.str) (l.map PyData.str)
  | [] => .nil
  | z :: r => .cons (.str z) (dp_strs r)
theorem DaAll.filter {H : Hp} : ∀ {xs : List V} {ds : List PyData}, DaAll H xs ds → xs.length = ds.length
  | _, _, h => h.len
section
variable {P : Program} {w : World} {K : PySem.W.Frag} {mg : Str → Option Value} {base : Heap} {aF aS aC : Addr}
/-! ### _closed -/
def spClosed : Sp := fun vs H Q _ => ∃ (a : Addr) (xs : List V) (ds : List PyData) (S : Hp), vs = [.ref a] ∧ H a = some (.lst xs) ∧ xs.length ≤ 20000 ∧ Same S H ∧ DaAll S xs ds ∧ (∀ d ∈ ds, shortD d) ∧
  ((closedD ds = none → ∀ H', Same H H' → Q .non H') ∧ ∀ c, closedD ds = some c → ∀ v H', Same H H' → Da (shad S H H') v c → Q v H')
abbrev nCl : List Str := ["held", "terms", "slots", "given", "one", "slot"]
theorem scCl : FnScope nCl ["held"] (defScope sClosed) := ⟨rfl, rfl, rfl, by decide +kernel, rfl, by decide +kernel, by decide +kernel⟩
theorem ok_cl {f fs : Addr} {fd ds_ : FuncData} (F : Fun K "_closed" "_closed" sClosed f fd) (T : Tbs K w mg aF aS aC) (DS : Df K mg "_read_slot" fs ds_ ["slot", "given"]) (GS : FnOk P w K mg base CX0 3 fs ds_ ["slot", "given"] spSlot)
    (mi : mg "isinstance" = none) (mt : mg "tuple" = none) (ms : mg "str" = none) (ml : mg "len" = none) (mz : mg "zip" = none) : FnOk P w K mg base CX0 4 f fd ["held"] spClosed := by
  obtain ⟨tb, DF, FF⟩ := T.tF
  refine F.ok scCl (fun vs H Q E h => ?_) (fun cdv A outer s H vs Q E hr h => ?_)
  · obtain ⟨a, xs, ds, S, rfl, _⟩ := h
    rfl
  · obtain ⟨a, xs, ds, S, rfl, ha, lx, sS, da, sh, qn, qs⟩ := h
    refine ⟨_, (pss_cons (ps_if (PW.pt (pw_or (pt_not (pt_truth (pv 0) (by intro _; rfl))) (pw_or1 (pt_not (pt_val (pe_callB call_isi (by rfl) mi (by decide +kernel) (pa_cons (pe_ix ix_list (pv 0) pe_int (fun _ _ => rfl)) (pa_cons (pe_bltn (v := .ty "str") (by rfl) ms (by decide +kernel) rfl) pa_nil)))))))) (pss_cons (ps_setLc (i := 1) (own := [("one", 4)]) (g := gName 4) (tt := _) (by rfl) scCl.nd rfl rfl (sw_true rfl rfl rfl (by decide +kernel)) (pi_list (pv 0)) (blkOk_by (N := nCl) (sc := defScope sClosed) (by decide +kernel)) (fun _ _ _ _ _ => pg_name (i := 4) scCl.nd rfl (Or.inl rfl)) (fun _ _ _ _ _ => (pts_one (pt_val (pe_callB (isiK (K := K) rfl) (by rfl) mi (by decide +kernel) (pa_cons (pv 4) (pa_cons (pe_bltn (v := .ty "tuple") (by rfl) mt (by decide +kernel) rfl) pa_nil)))))) (fun _ _ _ _ _ => (pv 4)))
        (pss_one (ps_ret (pe_ifExp (pt_cmpR op_eq (pe_callB call_len_seq (by rfl) ml PySem.boot_len (pa_cons (pv 1) pa_nil)) (pe_callB call_len_seq (by rfl) ml PySem.boot_len (pa_cons (pv 0) pa_nil)) (nomark _)) (pv 1) pe_non)))) pss_nil)
        (pss_cons (ps_if (pt_cmpR (op_notIn_dct DF) (pe_ix ix_list (pv 0) pe_int (fun _ _ => rfl)) (pe_glob (v := .ref aF) (by rfl) T.gF rfl) (by rfl)) (pss_one (ps_ret pe_non)) pss_nil)
        (pss_cons (ps_set (i := 2) scCl.nd rfl (Or.inl rfl) (pe_ix (ix_dct DF) (pe_glob (v := .ref aF) (by rfl) T.gF rfl) (pe_ix ix_list (pv 0) pe_int (fun _ _ => rfl)) (fun _ _ => rfl)))
        (pss_cons (ps_set (i := 3) scCl.nd rfl (Or.inl rfl) (pe_slice sl_listN (pv 0) (po_some pe_int) po_none))
        (pss_cons (ps_if (pt_cmpR (op_eqD hr.units) (pv 2) (pe_tup (pa_cons pe_str pa_nil)) (nomark _)) (pss_one (ps_set (i := 3) scCl.nd rfl (Or.inl rfl) (pe_lst (pa_cons (pv 3) pa_nil)))) pss_nil)
        (pss_cons (ps_if (pt_cmpR op_ne (pe_callB call_len_seq (by rfl) ml PySem.boot_len (pa_cons (pv 3) pa_nil)) (pe_callB call_len_seq (by rfl) ml PySem.boot_len (pa_cons (pv 2) pa_nil)) (nomark _)) (pss_one (ps_ret pe_non)) pss_nil)
        (pss_one (ps_ret (pe_tup (pa_cons (pe_ix ix_list (pv 0) pe_int (fun _ _ => rfl)) (pa_star (pe_lc (own := [("slot", 5), ("one", 4)]) (g := gTup K 2 (gCons (gName 5) (gCons (gName 4) gNil))) (tt := tYes) rfl scCl.nd (pi_zipM (by rfl) mz (pa_cons (pv 2) (pa_cons (pv 3) pa_nil))) (blkOk_by (N := nCl) (sc := defScope sClosed) (by decide +kernel)) (fun _ _ _ _ _ => pg_tup rfl (pgs_cons (pg_name (i := 5) scCl.nd rfl (Or.inl rfl)) (pgs_cons (pg_name (i := 4) scCl.nd rfl (Or.inl rfl)) pgs_nil))) (fun _ _ _ _ _ => pts_nil) (fun _ _ _ _ _ => pe_call GS hr (by rfl) DS.at_ DS.kp DS.bd .nil pass0 (pa_cons (pv 5) (pa_cons (pv 4) pa_nil)))) pa_nil))))))))))), ?_⟩
    have ld := da.len
    have qN : closedD ds = none → ∀ H', Same H H' → Q .non H' := qn
    by_cases hs : ∃ c r, ds = .str c :: r
    · obtain ⟨c, dr, rfl⟩ := hs
      cases da with
      | @cons v vs _ _ hv rv =>
      cases hv with
      | str _ hz =>
      have eF : lk c FMv = (lk c FM).map fun p => p.map V.str := lk_map (fun p : List Str => p.map V.str) c FM
      have at0 : atI (V.str c :: vs) 0 = some (.str c) := atI_nat (j := 0) rfl
      refine ⟨_, rfl, true, .inl ⟨_, SqL.of ha, rfl⟩, iteF ?_⟩
      refine ⟨_, rfl, a, _, 0, _, rfl, rfl, SqL.of ha, at0, .str c, .ty "str", _, _, _, rfl, .ty "str", (Da.str (H := H) c hz).kn.ty, kit_ty (kit_str (.str c)), _, rfl, iteF ?_⟩
      refine ⟨_, rfl, a, _, 0, _, rfl, rfl, SqL.of ha, at0, c, rfl, rfl, _, rfl, ?_⟩
      cases e : lk c FM with
      | none =>
        rw [e] at eF
        refine iteB (by rw [FF.none eF]; rfl) (qN ?_ _ (Same.refl H))
        show (match lk c FM with | none => none | some ss => _) = _
        rw [e]
      | some ss =>
        rw [e] at eF
        obtain ⟨b, lb, sb⟩ := FF.some eF
        have hcl := closed_str (r := dr) e
        refine iteN (by rw [lb]; rfl) ?_
        refine ⟨_, rfl, a, _, 0, _, rfl, rfl, SqL.of ha, at0, c, .ref b, rfl, rfl, lb, ?_⟩
        refine ⟨_, rfl, 1, rfl, a, _, rfl, SqL.of ha, fun p hp hn => ?_⟩
        have ec : cutV (V.str c :: vs) (some (1 : Int)) none = vs := cut_from (k := 1)
        rw [ec]
        have s1 : Same H (upd H p (.lst vs)) := same_new hp
        have hp0 := hp
        have gp : (upd H p (.lst vs)) p = some (.lst vs) := upd_same
        generalize upd H p (.lst vs) = H1 at s1 gp
        have shA : SeqAt.shaped (.tuple (ss.map PyData.str)) = true ∧ PyData.eqv (.tuple (ss.map PyData.str)) (.tuple [.str "parts"]) = decide (ss = ([("parts" : Str)] : List Str)) := by
          obtain ⟨k, m, _⟩ := lk_mem e
          have := List.all_eq_true.mp form_eqv _ m
          rw [Bool.and_eq_true, beq_iff_eq] at this
          exact this
        refine ⟨_, rfl, by show 1 ≤ sizeLine; decide, fun t ht => ?_⟩
        have s1t : Same H1 (upd H1 t (.tup [V.str "parts"])) := same_new ht
        have gp := s1t _ _ gp
        have s1 := s1.trans s1t
        have gt : (upd H1 t (.tup [V.str "parts"])) t = some (.tup [V.str "parts"]) := upd_same
        generalize upd H1 t (.tup [V.str "parts"]) = H1 at s1 gp gt
        refine ⟨.tuple (ss.map PyData.str), .tuple [.str "parts"], .tup (sb _) (dp_strs ss), .tup (SqT.of gt) (.cons (.str _) .nil), shA.1, by decide +kernel, ?_⟩
        rw [shA.2]
        have lvs : vs.length ≤ 20000 := by
          rw [List.length_cons] at lx
          omega
        by_cases hp : ss = ([("parts" : Str)] : List Str)
        · refine ⟨_, rfl, iteB (decide_eq_true hp) ?_⟩
          refine ⟨_, rfl, by show 1 ≤ sizeLine; decide, fun g hg => ?_⟩
          have s2 : Same H (upd H1 g (.lst [.ref p])) := s1.trans (same_new hg)
          have gH : (upd H1 g (.lst [.ref p])) g = some (.lst [.ref p]) := upd_same
          have gp2 : (upd H1 g (.lst [.ref p])) p = some (.lst vs) := (same_new hg) _ _ gp
          generalize upd H1 g (.lst [.ref p]) = H2 at s2 gH gp2
          have eg : given ss dr = [.list dr] := if_pos hp
          rw [eg] at hcl
          have rg : DaAll (shad S H H2) [.ref p] [.list dr] := .cons (.lst (by rw [shad_new hp0]; exact gp2) lvs (DaAll.same (shad_same sS) _ _ rv)) .nil
          have gsh : ∀ d ∈ [PyData.list dr], shortD d := fun d m => by
            rw [List.mem_singleton.mp m]
            intro z ez
            cases ez
          generalize [V.ref p] = gs at gH rg
          generalize [PyData.list dr] = gds at rg hcl gsh
          refine ⟨_, rfl, g, gs, rfl, .inl (SqL.of gH), _, rfl, b, _, rfl, .inr (sb _), rfl, _, rfl, ?_⟩
          by_cases hl : gs.length = ss.length
          · refine iteN (by rw [List.length_map, hl, decide_eq_true rfl]; rfl) ?_
            rw [if_pos (by rw [← rg.len]; exact hl)] at hcl
            have aH := s2 _ _ ha
            refine ⟨_, rfl, a, _, 0, _, rfl, rfl, SqL.of aH, at0, _, rfl, _, rfl, b, g, ss.map V.str, gs, rfl, sb _, SqL.of gH, fun D hD => lc_zipM (K := K) (a := b) (b := g) (by rw [List.length_map, hl])
              (fun i H' => Same H2 H' ∧ ∃ G, Same (shad S H H2) G ∧ Same G H' ∧ G D = none ∧ (∀ b, H2 b ≠ none → shad S H H2 b = none → G b = none) ∧ ∃ ys, H' D = some (.lst ys) ∧ ys.length = i ∧ DaAll G ys ((List.zipWith slotD ss gds).take i))
              ⟨same_new hD, shad S H H2, (fun _ _ e => e), (shad_to sS s2).trans (same_new hD), none_back (shad_to sS s2) hD, (fun _ _ h => h), [], upd_same, rfl, .nil⟩ (fun i H' _ pv => ⟨sb _, SqL.of (pv.1 _ _ gH)⟩) (fun i x y H' T' hx hy pv hT => ?_) fun H' pv => ?_⟩
            · obtain ⟨sH, G, g1, g2, g3, g4, ys, gD, ly, ry⟩ := pv
              rw [List.getElem?_map] at hx
              cases hj : ss[i]? with
              | none => rw [hj] at hx; cases hx
              | some sl =>
                rw [hj] at hx
                cases hx
                obtain ⟨dy, hdy, day⟩ := rg.get hy
                have sT : Same H' (upd H' T' (.tup [.str sl, y])) := same_new hT
                have nTD : T' ≠ D := fun e => by rw [e, gD] at hT; cases hT
                have gT : Same G (upd H' T' (.tup [.str sl, y])) := g2.trans sT
                refine ⟨T', _, rfl, SqT.of upd_same, rfl, _, _, rfl, _, _, rfl, rfl, rfl, _, rfl, _, rfl, sl, y, dy, G, rfl, gT, Da.same g1 _ _ day, gsh dy (List.mem_of_getElem? hdy), fun v H3 s3 hv => ?_⟩
                have gD3 := s3 _ _ (sT _ _ gD)
                have lt4 := (fm_len e).2
                have hi := (List.getElem?_eq_some_iff.mp hj).1
                have keep : ∀ {Z : Hp} (o : HO), Z D = none → Same Z H3 → Same Z (upd H3 D o) := fun {Z} o zD z b o' eb => by
                  rw [upd_ne (ne_of_none eb zD)]
                  exact z _ _ eb
                refine ⟨ys, gD3, by rw [sizeLine_eq]; omega, keep _ hD (sH.trans (sT.trans s3)), shad G (upd H' T' (.tup [.str sl, y])) H3, g1.trans (shad_same gT), ?_, shad_off (sT _ _ gD) g3, fun b hb nb => ?_, _, upd_same, by rw [List.length_append, ly]; rfl, ?_⟩
                · exact keep _ (shad_off (sT _ _ gD) g3) (shad_to gT s3)
                · cases eb : H2 b with
                  | none => exact absurd eb hb
                  | some o => exact shad_off (sT _ _ (sH _ _ eb)) (g4 b hb nb)
                · rw [List.take_add_one, zw_get slotD hj hdy]
                  exact (DaAll.same (shad_same gT) _ _ ry).snoc hv
            · obtain ⟨sH, G, g1, g2, g3, g4, ys, gD, ly, ry⟩ := pv
              rw [List.length_map] at ly ry
              have lz : (List.zipWith slotD ss gds).length = ss.length := by rw [List.length_zipWith, ← rg.len, hl, Nat.min_self]
              rw [← lz, List.take_length] at ry
              have lt4 := (fm_len e).2
              refine ⟨D, ys, rfl, .inr (SqL.of gD), ?_⟩
              refine ⟨by rw [sizeLine_eq]; simp only [List.append_nil, List.length_cons]; omega, fun t ht => ?_⟩
              have sHH : Same H H' := s2.trans sH
              refine qs _ hcl _ _ (sHH.trans (same_new ht)) (.tup (by rw [shad_new (none_back sHH ht), upd_same]) (by simp only [List.append_nil, List.length_cons]; omega) ?_)
              rw [List.append_nil]
              refine .cons (.str c hz) (DaAll.same (fun b o eb => ?_) _ _ ry)
              have e2 := (same_new (o := .tup (V.str c :: ys)) ht) _ _ (g2 _ _ eb)
              cases z : H b with
              | none => rw [shad_new z]; exact e2
              | some u =>
                rw [shad_old z]
                have e3 := shad_old (S := S) (H' := H2) z
                cases zS : S b with
                | none =>
                  have := g4 b (by rw [s2 _ _ z]; simp) (by rw [e3]; exact zS)
                  rw [this] at eb
                  cases eb
                | some w =>
                  have := g1 b w (by rw [e3]; exact zS)
                  rw [this] at eb
                  exact eb
          · refine iteB (by rw [List.length_map, decide_eq_false (fun e => hl (by have := V.int.inj e; omega))]; rfl) (qN ?_ _ s2)
            rw [hcl, if_neg (by rw [← rg.len]; exact hl)]
        · refine ⟨_, rfl, iteN (decide_eq_false hp) ?_⟩
          have eg : given ss dr = dr := if_neg hp
          rw [eg] at hcl
          have rg : DaAll (shad S H H1) vs dr := DaAll.same (shad_same sS) _ _ rv
          have gsh : ∀ d ∈ dr, shortD d := fun d m => sh d (List.mem_cons_of_mem _ m)
          have gH := gp
          have s2 := s1
          refine ⟨_, rfl, p, vs, rfl, .inl (SqL.of gH), _, rfl, b, _, rfl, .inr (sb _), rfl, _, rfl, ?_⟩
          by_cases hl : vs.length = ss.length
          · refine iteN (by rw [List.length_map, hl, decide_eq_true rfl]; rfl) ?_
            rw [if_pos (by rw [← rg.len]; exact hl)] at hcl
            have aH := s2 _ _ ha
            refine ⟨_, rfl, a, _, 0, _, rfl, rfl, SqL.of aH, at0, _, rfl, _, rfl, b, p, ss.map V.str, vs, rfl, sb _, SqL.of gH, fun D hD => lc_zipM (K := K) (a := b) (b := p) (by rw [List.length_map, hl])
              (fun i H' => Same H1 H' ∧ ∃ G, Same (shad S H H1) G ∧ Same G H' ∧ G D = none ∧ (∀ b, H1 b ≠ none → shad S H H1 b = none → G b = none) ∧ ∃ ys, H' D = some (.lst ys) ∧ ys.length = i ∧ DaAll G ys ((List.zipWith slotD ss dr).take i))
              ⟨same_new hD, shad S H H1, (fun _ _ e => e), (shad_to sS s2).trans (same_new hD), none_back (shad_to sS s2) hD, (fun _ _ h => h), [], upd_same, rfl, .nil⟩ (fun i H' _ pv => ⟨sb _, SqL.of (pv.1 _ _ gH)⟩) (fun i x y H' T' hx hy pv hT => ?_) fun H' pv => ?_⟩
            · obtain ⟨sH, G, g1, g2, g3, g4, ys, gD, ly, ry⟩ := pv
              rw [List.getElem?_map] at hx
              cases hj : ss[i]? with
              | none => rw [hj] at hx; cases hx
              | some sl =>
                rw [hj] at hx
                cases hx
                obtain ⟨dy, hdy, day⟩ := rg.get hy
                have sT : Same H' (upd H' T' (.tup [.str sl, y])) := same_new hT
                have nTD : T' ≠ D := fun e => by rw [e, gD] at hT; cases hT
                have gT : Same G (upd H' T' (.tup [.str sl, y])) := g2.trans sT
                refine ⟨T', _, rfl, SqT.of upd_same, rfl, _, _, rfl, _, _, rfl, rfl, rfl, _, rfl, _, rfl, sl, y, dy, G, rfl, gT, Da.same g1 _ _ day, gsh dy (List.mem_of_getElem? hdy), fun v H3 s3 hv => ?_⟩
                have gD3 := s3 _ _ (sT _ _ gD)
                have lt4 := (fm_len e).2
                have hi := (List.getElem?_eq_some_iff.mp hj).1
                have keep : ∀ {Z : Hp} (o : HO), Z D = none → Same Z H3 → Same Z (upd H3 D o) := fun {Z} o zD z b o' eb => by
                  rw [upd_ne (ne_of_none eb zD)]
                  exact z _ _ eb
                refine ⟨ys, gD3, by rw [sizeLine_eq]; omega, keep _ hD (sH.trans (sT.trans s3)), shad G (upd H' T' (.tup [.str sl, y])) H3, g1.trans (shad_same gT), ?_, shad_off (sT _ _ gD) g3, fun b hb nb => ?_, _, upd_same, by rw [List.length_append, ly]; rfl, ?_⟩
                · exact keep _ (shad_off (sT _ _ gD) g3) (shad_to gT s3)
                · cases eb : H1 b with
                  | none => exact absurd eb hb
                  | some o => exact shad_off (sT _ _ (sH _ _ eb)) (g4 b hb nb)
                · rw [List.take_add_one, zw_get slotD hj hdy]
                  exact (DaAll.same (shad_same gT) _ _ ry).snoc hv
            · obtain ⟨sH, G, g1, g2, g3, g4, ys, gD, ly, ry⟩ := pv
              rw [List.length_map] at ly ry
              have lz : (List.zipWith slotD ss dr).length = ss.length := by rw [List.length_zipWith, ← rg.len, hl, Nat.min_self]
              rw [← lz, List.take_length] at ry
              have lt4 := (fm_len e).2
              refine ⟨D, ys, rfl, .inr (SqL.of gD), ?_⟩
              refine ⟨by rw [sizeLine_eq]; simp only [List.append_nil, List.length_cons]; omega, fun t ht => ?_⟩
              have sHH : Same H H' := s2.trans sH
              refine qs _ hcl _ _ (sHH.trans (same_new ht)) (.tup (by rw [shad_new (none_back sHH ht), upd_same]) (by simp only [List.append_nil, List.length_cons]; omega) ?_)
              rw [List.append_nil]
              refine .cons (.str c hz) (DaAll.same (fun b o eb => ?_) _ _ ry)
              have e2 := (same_new (o := .tup (V.str c :: ys)) ht) _ _ (g2 _ _ eb)
              cases z : H b with
              | none => rw [shad_new z]; exact e2
              | some u =>
                rw [shad_old z]
                have e3 := shad_old (S := S) (H' := H1) z
                cases zS : S b with
                | none =>
                  have := g4 b (by rw [s2 _ _ z]; simp) (by rw [e3]; exact zS)
                  rw [this] at eb
                  cases eb
                | some w =>
                  have := g1 b w (by rw [e3]; exact zS)
                  rw [this] at eb
                  exact eb
          · refine iteB (by rw [List.length_map, decide_eq_false (fun e => hl (by have := V.int.inj e; omega))]; rfl) (qN ?_ _ s2)
            rw [hcl, if_neg (by rw [← rg.len]; exact hl)]
    · have hcl := closed_other (ds := ds) fun c r e => hs ⟨c, r, e⟩
      refine ⟨_, rfl, !xs.isEmpty, .inl ⟨xs, SqL.of ha, rfl⟩, ?_⟩
      cases he : xs.isEmpty with
      | true =>
        refine iteT ?_
        refine ⟨_, rfl, a, rfl, ⟨xs, SqL.of ha⟩, fun D hD => lc_list (K := K) (a := a) (xs := xs) (fun i H' => Same H H' ∧ ∃ ys, H' D = some (.lst ys) ∧ ys.length ≤ i ∧ DaAll S ys ((ds.take i).filter tupB)) ⟨same_new hD, [], upd_same, Nat.le_refl _, .nil⟩
          (fun i H' _ pv => SqL.of (pv.1 _ _ ha)) (fun i y H' hy pv => ?_) fun H' pv => ?_⟩
        · obtain ⟨sH, ys, gD, ly, ry⟩ := pv
          obtain ⟨d, ed, hd⟩ := da.get hy
          have tk : (ds.take (i + 1)).filter tupB = (ds.take i).filter tupB ++ (if tupB d = true then [d] else []) := by
            rw [List.take_add_one, ed, List.filter_append]
            congr 1
            show [d].filter tupB = _
            rw [List.filter_cons, List.filter_nil]
          refine ⟨rfl, _, rfl, y, .ty "tuple", _, _, _, rfl, .ty "tuple", (Da.same (sS.trans sH) _ _ hd).kn.ty, kit_ty (kit_tup d), _, rfl, ?_⟩
          rw [tup_ty]
          have hi := (List.getElem?_eq_some_iff.mp hy).1
          cases ht : tupB d with
          | true =>
            rw [ht, if_pos rfl] at tk
            refine iteT ⟨_, rfl, ys, gD, by rw [sizeLine_eq]; omega, fun b o e => ?_, _, upd_same, by rw [List.length_append]; exact Nat.succ_le_succ ly, ?_⟩
            · rw [upd_ne (ne_of_none e hD)]
              exact sH _ _ e
            · rw [tk]
              exact ry.snoc hd
          | false =>
            rw [ht, if_neg Bool.false_ne_true, List.append_nil] at tk
            exact iteF ⟨sH, ys, gD, Nat.le_succ_of_le ly, by rw [tk]; exact ry⟩
        · obtain ⟨sH, ys, gD, ly, ry⟩ := pv
          rw [ld, List.take_length] at ry
          have lr := ry.len
          dsimp only [gName]
          refine ⟨_, rfl, D, ys, rfl, .inl (SqL.of gD), _, rfl, a, xs, rfl, .inl (SqL.of (sH _ _ ha)), rfl, _, rfl, ?_⟩
          by_cases hall : ds.all tupB = true
          · have ef : ds.filter tupB = ds := List.filter_eq_self.mpr fun x m => List.all_eq_true.mp hall x m
            rw [ef] at ry lr
            refine iteB (decide_eq_true (by rw [lr, ld])) ?_
            exact ⟨_, rfl, qs (.list ds) (by rw [hcl, if_pos hall]) _ _ sH (.lst (by rw [shad_new hD]; exact gD) (by omega) (DaAll.same (shad_same sS) _ _ ry))⟩
          · refine iteN (decide_eq_false fun e => hall ?_) (qN (by rw [hcl, if_neg hall]) _ sH)
            have e1 : (ds.filter tupB).length = ds.length := by
              have := V.int.inj e
              omega
            rw [← List.length_filter_eq_length_iff.mp e1 |> fun h => (List.all_eq_true.mpr h : ds.all tupB = true)]
      | false =>
        obtain ⟨v, hv⟩ : ∃ v, xs[0]? = some v := by
          cases xs with
          | nil => cases he
          | cons v vs => exact ⟨v, rfl⟩
        obtain ⟨d, ed, hd⟩ := da.get hv
        refine iteF ?_
        refine ⟨_, rfl, a, xs, ((0 : Nat) : Int), v, rfl, rfl, SqL.of ha, atI_nat hv, ?_⟩
        refine ⟨v, .ty "str", _, _, _, rfl, .ty "str", (Da.same sS _ _ hd).kn.ty, kit_ty (kit_str d), _, rfl, ?_⟩
        have nt : (tyD d == "str") = false := by
          cases d with
          | str c =>
            exfalso
            cases ds with
            | nil => cases ed
            | cons x r =>
              cases ed
              exact hs ⟨c, r, rfl⟩
          | _ => rfl
        rw [nt]
        refine iteT ?_
        refine ⟨_, rfl, a, rfl, ⟨xs, SqL.of ha⟩, fun D hD => lc_list (K := K) (a := a) (xs := xs) (fun i H' => Same H H' ∧ ∃ ys, H' D = some (.lst ys) ∧ ys.length ≤ i ∧ DaAll S ys ((ds.take i).filter tupB)) ⟨same_new hD, [], upd_same, Nat.le_refl _, .nil⟩
          (fun i H' _ pv => SqL.of (pv.1 _ _ ha)) (fun i y H' hy pv => ?_) fun H' pv => ?_⟩
        · obtain ⟨sH, ys, gD, ly, ry⟩ := pv
          obtain ⟨d, ed, hd⟩ := da.get hy
          have tk : (ds.take (i + 1)).filter tupB = (ds.take i).filter tupB ++ (if tupB d = true then [d] else []) := by
            rw [List.take_add_one, ed, List.filter_append]
            congr 1
            show [d].filter tupB = _
            rw [List.filter_cons, List.filter_nil]
          refine ⟨rfl, _, rfl, y, .ty "tuple", _, _, _, rfl, .ty "tuple", (Da.same (sS.trans sH) _ _ hd).kn.ty, kit_ty (kit_tup d), _, rfl, ?_⟩
          rw [tup_ty]
          have hi := (List.getElem?_eq_some_iff.mp hy).1
          cases ht : tupB d with
          | true =>
            rw [ht, if_pos rfl] at tk
            refine iteT ⟨_, rfl, ys, gD, by rw [sizeLine_eq]; omega, fun b o e => ?_, _, upd_same, by rw [List.length_append]; exact Nat.succ_le_succ ly, ?_⟩
            · rw [upd_ne (ne_of_none e hD)]
              exact sH _ _ e
            · rw [tk]
              exact ry.snoc hd
          | false =>
            rw [ht, if_neg Bool.false_ne_true, List.append_nil] at tk
            exact iteF ⟨sH, ys, gD, Nat.le_succ_of_le ly, by rw [tk]; exact ry⟩
        · obtain ⟨sH, ys, gD, ly, ry⟩ := pv
          rw [ld, List.take_length] at ry
          have lr := ry.len
          dsimp only [gName]
          refine ⟨_, rfl, D, ys, rfl, .inl (SqL.of gD), _, rfl, a, xs, rfl, .inl (SqL.of (sH _ _ ha)), rfl, _, rfl, ?_⟩
          by_cases hall : ds.all tupB = true
          · have ef : ds.filter tupB = ds := List.filter_eq_self.mpr fun x m => List.all_eq_true.mp hall x m
            rw [ef] at ry lr
            refine iteB (decide_eq_true (by rw [lr, ld])) ?_
            exact ⟨_, rfl, qs (.list ds) (by rw [hcl, if_pos hall]) _ _ sH (.lst (by rw [shad_new hD]; exact gD) (by omega) (DaAll.same (shad_same sS) _ _ ry))⟩
          · refine iteN (decide_eq_false fun e => hall ?_) (qN (by rw [hcl, if_neg hall]) _ sH)
            have e1 : (ds.filter tupB).length = ds.length := by
              have := V.int.inj e
              omega
            rw [← List.length_filter_eq_length_iff.mp e1 |> fun h => (List.all_eq_true.mpr h : ds.all tupB = true)]
end
end K7
end Bf

namespace Bf
namespace K7
open PySem PySem.Spec PyProof.Rows L2 T SX
/-! ### lstrip, rstrip, startswith -/
theorem cont_one {y : Str} {c : Nat} (e : y = ⟨#[c]⟩) : y.cps.contains = fun x => x == c := by
  subst e
  funext x
  show (List.toArray [c]).contains x = (x == c)
  rw [List.contains_toArray, List.contains_cons, List.contains_nil, Bool.or_false]
theorem tw_dw (p : Nat → Bool) : ∀ l : List Nat, l.drop (l.takeWhile p).length = l.dropWhile p
  | [] => rfl
  | a :: r => by
    rw [List.takeWhile_cons, List.dropWhile_cons]
    split
    · exact tw_dw p r
    · rfl
theorem dw_of {p : Nat → Bool} {l : List Nat} (h : (l.takeWhile p).length = 0) : l.dropWhile p = l := by
  rw [← tw_dw, h, List.drop_zero]
theorem lstrip_tl {x y : Str} {c : Nat} (e : y = ⟨#[c]⟩) : TL.tl (Txt.lstripChars x y) = (TL.tl x).dropWhile (· == c) := by
  have hx := TL.len_tl x
  unfold Txt.lstripChars Txt.stripBy
  rw [cont_one e]
  split
  · rename_i h
    unfold stripSame stripLo at h
    rw [Bool.and_eq_true, beq_iff_eq, if_pos rfl] at h
    exact (dw_of h.1).symm
  · unfold stripped stripLo stripHi
    rw [if_pos rfl, if_neg Bool.false_ne_true, TL.tl_strSub_end]
    exact tw_dw _ _
theorem rev_take (p : Nat → Bool) (l : List Nat) : l.take (l.length - (l.reverse.takeWhile p).length) = (l.reverse.dropWhile p).reverse := by
  have e : l.reverse.takeWhile p ++ l.reverse.dropWhile p = l.reverse := List.takeWhile_append_dropWhile
  have e2 := congrArg List.reverse e
  rw [List.reverse_append, List.reverse_reverse] at e2
  have e3 := congrArg List.length e2
  rw [List.length_append, List.length_reverse, List.length_reverse] at e3
  generalize l.reverse.takeWhile p = u at e2 e3 ⊢
  generalize l.reverse.dropWhile p = v at e2 e3 ⊢
  rw [← e2, List.take_left' (by rw [List.length_append, List.length_reverse, List.length_reverse]; omega)]
theorem rstrip_tl {x y : Str} {c : Nat} (e : y = ⟨#[c]⟩) : TL.tl (Txt.rstripChars x y) = ((TL.tl x).reverse.dropWhile (· == c)).reverse := by
  have hx := TL.len_tl x
  unfold Txt.rstripChars Txt.stripBy
  rw [cont_one e]
  split
  · rename_i h
    unfold stripSame stripHi stripLo at h
    rw [Bool.and_eq_true, beq_iff_eq, beq_iff_eq, if_neg Bool.false_ne_true, if_pos rfl] at h
    have h2 := h.2
    rw [List.drop_zero] at h2
    have hle : ((TL.tl x).reverse.takeWhile (· == c)).length ≤ x.length := by
      have := (List.takeWhile_prefix (l := (TL.tl x).reverse) (· == c)).length_le
      rw [List.length_reverse] at this
      omega
    have : ((TL.tl x).reverse.takeWhile (· == c)).length = 0 := by
      have h2 : x.length - ((TL.tl x).reverse.takeWhile (· == c)).length = x.length := h2
      rcases Nat.eq_zero_or_pos ((TL.tl x).reverse.takeWhile (· == c)).length with z | z
      · exact z
      · omega
    rw [dw_of this, List.reverse_reverse]
  · unfold stripped stripLo stripHi
    rw [if_neg Bool.false_ne_true, if_pos rfl, TL.tl_strSub, List.drop_zero, Nat.sub_zero, hx]
    exact rev_take _ _
theorem core_str {x : Str} : Txt.lstripChars x "(" = S (core (TL.tl x)) := TL.ext_tl (lstrip_tl (by decide +kernel))
theorem inn_str {x : Str} : Txt.rstripChars (Txt.lstripChars x "(") ")" = S (inn (TL.tl x)) := TL.ext_tl (by
  rw [rstrip_tl (c := 41) (by decide +kernel), core_str]
  rfl)
theorem starts_str {x : Str} : Txt.startswith x "()" = decide ((TL.tl x).take 2 = [40, 41]) := by
  have hx := TL.len_tl x
  have ey : TL.tl ("()" : Str) = [40, 41] := by decide +kernel
  have el : ("()" : Str).length = 2 := by decide +kernel
  have ha := TL.at_iff (x := x) (y := "()") (by rw [ey]; simp) 0
  rw [ey, List.drop_zero] at ha
  unfold Txt.startswith
  have hp : TL.pre [40, 41] (TL.tl x) = decide ((TL.tl x).take 2 = [40, 41]) := by
    unfold TL.pre
    show ((TL.tl x).take 2 == [40, 41]) = _
    by_cases h : (TL.tl x).take 2 = [40, 41]
    · rw [decide_eq_true h, h]; rfl
    · rw [decide_eq_false h]
      exact beq_eq_false_iff_ne.mpr h
  rw [← hp]
  cases h : TL.pre [40, 41] (TL.tl x) with
  | true =>
    obtain ⟨a, b⟩ := ha.mpr h
    rw [decide_eq_true a, Bool.true_and, b]
  | false =>
    cases h2 : (decide (0 + ("()" : Str).length ≤ x.length) && Builtin.Str.subAt x "()" 0) with
    | false => rfl
    | true =>
      rw [Bool.and_eq_true, decide_eq_true_eq] at h2
      rw [ha.mp ⟨h2.1, h2.2⟩] at h
      cases h
/-! ### the open lists -/
def OsA (G H : Hp) : List Addr → List (List PyData) → Prop
  | [], [] => True
  | a :: as, t :: ts => (∃ xs, H a = some (.lst xs) ∧ DaAll G xs t) ∧ G a = none ∧ a ∉ as ∧ OsA G H as ts
  | _, _ => False
def Os (G H : Hp) (O : Addr) (st : List (List PyData)) : Prop := ∃ as : List Addr, H O = some (.lst (as.reverse.map V.ref)) ∧ G O = none ∧ O ∉ as ∧ Same G H ∧ OsA G H as st
theorem osA_len {G H : Hp} : ∀ {as : List Addr} {st : List (List PyData)}, OsA G H as st → as.length = st.length
  | [], [], _ => rfl
  | _ :: as, _ :: ts, h => congrArg (· + 1) (osA_len (as := as) (st := ts) h.2.2.2)
theorem osA_upd {G H : Hp} {b : Addr} {o : HO} : ∀ {as : List Addr} {st : List (List PyData)}, b ∉ as → OsA G H as st → OsA G (upd H b o) as st
  | [], [], _, _ => True.intro
  | a :: as, t :: ts, n, ⟨⟨xs, h1, h2⟩, h3, h4, h5⟩ => by
    refine ⟨⟨xs, ?_, h2⟩, h3, h4, osA_upd (fun m => n (List.mem_cons_of_mem _ m)) h5⟩
    rw [upd_ne (fun e => n (by rw [e]; exact List.mem_cons_self))]
    exact h1
/-- what is told may grow, the heap too -/
theorem osA_mono {G G' H H' : Hp} (s : Same G G') (s' : Same H H') (off : ∀ b, H b ≠ none → G b = none → G' b = none) : ∀ {as : List Addr} {st : List (List PyData)}, OsA G H as st → OsA G' H' as st
  | [], [], _ => True.intro
  | a :: as, t :: ts, ⟨⟨xs, h1, h2⟩, h3, h4, h5⟩ => ⟨⟨xs, s' _ _ h1, DaAll.same s _ _ h2⟩, off a (by rw [h1]; simp) h3, h4, osA_mono s s' off h5⟩
theorem os_mono {G G' H H' : Hp} {O : Addr} {st : List (List PyData)} (h : Os G H O st) (s : Same G G') (s' : Same H H') (off : ∀ b, H b ≠ none → G b = none → G' b = none) (sG : Same G' H') : Os G' H' O st := by
  obtain ⟨as, h1, h2, h3, h4, h5⟩ := h
  exact ⟨as, s' _ _ h1, off O (by rw [h1]; simp) h2, h3, sG, osA_mono s s' off h5⟩
/-- behind a call -/
theorem os_later {G H H' : Hp} {O : Addr} {st : List (List PyData)} (h : Os G H O st) (s' : Same H H') : Os (shad G H H') H' O st := by
  have sG : Same G H := by
    obtain ⟨_, _, _, _, h4, _⟩ := h
    exact h4
  refine os_mono h (shad_same sG) s' (fun b hb n => ?_) (shad_to sG s')
  cases e : H b with
  | none => exact absurd e hb
  | some o => exact shad_off e n
theorem same_off {G H : Hp} {b : Addr} {o : HO} (s : Same G H) (n : G b = none) : Same G (upd H b o) := fun c u e => by
  rw [upd_ne (ne_of_none e n)]
  exact s _ _ e
theorem atI_last {ys : List V} {y : V} : atI (ys ++ [y]) (-1) = some y := by
  have h : ixN (ys ++ [y]).length (-1) = some ys.length := by
    unfold ixN
    rw [List.length_append, List.length_singleton]
    simp
    omega
  unfold atI
  rw [h]
  show (ys ++ [y])[ys.length]? = some y
  rw [List.getElem?_append_right (Nat.le_refl _), Nat.sub_self]
  rfl
/-- one thing more on the list at the top -/
theorem os_push {G H : Hp} {O : Addr} {t : List PyData} {r : List (List PyData)} (h : Os G H O (t :: r)) : ∃ L a xs, H O = some (.lst L) ∧ L.length = r.length + 1 ∧ atI L (-1) = some (.ref a) ∧ H a = some (.lst xs) ∧ xs.length = t.length ∧
    ∀ v d, Da G v d → Os G (upd H a (.lst (xs ++ [v]))) O ((t ++ [d]) :: r) := by
  obtain ⟨as, h1, h2, h3, h4, h5⟩ := h
  cases as with
  | nil => exact h5.elim
  | cons a as =>
    obtain ⟨⟨xs, g1, g2⟩, g3, g4, g5⟩ := h5
    have la := osA_len g5
    have nO : O ≠ a := fun e => h3 (by rw [e]; exact List.mem_cons_self)
    refine ⟨_, a, xs, h1, by rw [List.length_map, List.length_reverse, List.length_cons, la], ?_, g1, g2.len, fun v d hd => ⟨a :: as, ?_, h2, h3, same_off h4 g3, ⟨xs ++ [v], upd_same, g2.snoc hd⟩, g3, g4, osA_upd g4 g5⟩⟩
    · rw [List.reverse_cons, List.map_append]
      exact atI_last
    · rw [upd_ne nO]
      exact h1
/-- the list at the top is taken -/
theorem os_pop {G H : Hp} {O : Addr} {t : List PyData} {r : List (List PyData)} (h : Os G H O (t :: r)) : ∃ L a xs, H O = some (.lst L) ∧ L[L.length - 1]? = some (.ref a) ∧ (upd H O (.lst L.dropLast)) a = some (.lst xs) ∧ DaAll G xs t ∧ L.dropLast.length = r.length ∧ Os G (upd H O (.lst L.dropLast)) O r := by
  obtain ⟨as, h1, h2, h3, h4, h5⟩ := h
  cases as with
  | nil => exact h5.elim
  | cons a as =>
    obtain ⟨⟨xs, g1, g2⟩, g3, g4, g5⟩ := h5
    have la := osA_len g5
    have nO : a ≠ O := fun e => h3 (by rw [← e]; exact List.mem_cons_self)
    have eL : (a :: as).reverse.map V.ref = as.reverse.map V.ref ++ [.ref a] := by rw [List.reverse_cons, List.map_append]; rfl
    refine ⟨_, a, xs, h1, ?_, by rw [upd_ne nO]; exact g1, g2, by rw [eL, List.dropLast_concat, List.length_map, List.length_reverse, la], as, ?_, h2, fun m => h3 (List.mem_cons_of_mem _ m), same_off h4 h2, osA_upd (fun m => h3 (List.mem_cons_of_mem _ m)) g5⟩
    · rw [eL, List.length_append, List.length_singleton, Nat.add_sub_cancel, List.getElem?_append_right (Nat.le_refl _), Nat.sub_self]
      rfl
    · rw [upd_same, eL, List.dropLast_concat]
theorem osA_open {G H : Hp} {as : List Addr} {st : List (List PyData)} (h : OsA G H as st) : ∀ {ds : List Addr}, ds.Nodup → (∀ d ∈ ds, H d = some (.lst []) ∧ G d = none ∧ d ∉ as) → OsA G H (ds ++ as) (List.replicate ds.length [] ++ st)
  | [], _, _ => h
  | d :: ds, nd, hd => by
    obtain ⟨h1, h2, h3⟩ := hd d List.mem_cons_self
    have nd' := List.nodup_cons.mp nd
    refine ⟨⟨[], h1, .nil⟩, h2, fun m => ?_, osA_open h nd'.2 fun x m => hd x (List.mem_cons_of_mem _ m)⟩
    rcases List.mem_append.mp m with m | m
    · exact nd'.1 m
    · exact h3 m
theorem nodup_rev {ds : List Addr} (h : ds.Nodup) : ds.reverse.Nodup := List.pairwise_reverse.mpr (List.Pairwise.imp (fun a b => a b.symm) h)
/-- new lists are laid on top -/
theorem os_open {G H H' : Hp} {O : Addr} {st : List (List PyData)} (h : Os G H O st) (s : Same H H') : ∃ L, H O = some (.lst L) ∧ L.length = st.length ∧ ∀ ds : List Addr, ds.Nodup → (∀ d ∈ ds, H d = none ∧ H' d = some (.lst [])) →
    Os G (upd H' O (.lst (L ++ ds.map V.ref))) O (List.replicate ds.length [] ++ st) := by
  obtain ⟨as, h1, h2, h3, h4, h5⟩ := h
  refine ⟨_, h1, by rw [List.length_map, List.length_reverse, osA_len h5], fun ds nd hd => ⟨ds.reverse ++ as, ?_, h2, fun m => ?_, same_off (h4.trans s) h2, ?_⟩⟩
  · rw [upd_same, List.reverse_append, List.reverse_reverse, List.map_append]
  · rcases List.mem_append.mp m with m | m
    · rw [(hd O (List.mem_reverse.mp m)).1] at h1
      cases h1
    · exact h3 m
  · have g5 : OsA G (upd H' O (.lst (as.reverse.map V.ref ++ ds.map V.ref))) as st := osA_upd h3 (osA_mono (fun _ _ e => e) s (fun _ _ n => n) h5)
    have := osA_open (ds := ds.reverse) g5 (nodup_rev nd) fun d m => ?_
    · rw [List.length_reverse] at this
      exact this
    · obtain ⟨a, b⟩ := hd d (List.mem_reverse.mp m)
      have nO : d ≠ O := fun e => by rw [e, h1] at a; cases a
      refine ⟨by rw [upd_ne nO]; exact b, none_back h4 a, fun ma => ?_⟩
      have key : ∀ {as : List Addr} {st : List (List PyData)}, OsA G H as st → d ∈ as → False := by
        intro as
        induction as with
        | nil => exact fun _ m => nomatch m
        | cons x as ih =>
          intro st h m
          cases st with
          | nil => exact h.elim
          | cons t ts =>
            obtain ⟨⟨xs, h1, _⟩, _, _, h4⟩ := h
            rcases List.mem_cons.mp m with e | m
            · rw [← e, a] at h1; cases h1
            · exact ih h4 m
      exact key h5 ma
/-! ### how much stands in the machine -/
def msr (st : List (List PyData)) : Nat := st.length + (st.map List.length).sum
theorem msr_push (x : PyData) (t : List PyData) (r : List (List PyData)) : msr ((t ++ [x]) :: r) = msr (t :: r) + 1 := by
  unfold msr
  rw [List.length_cons, List.length_cons, List.map_cons, List.map_cons, List.sum_cons, List.sum_cons, List.length_append, List.length_singleton]
  omega
theorem msr_open (st : List (List PyData)) : ∀ k, msr (List.replicate k [] ++ st) = msr st + k
  | 0 => rfl
  | k + 1 => by
    have := msr_open st k
    unfold msr at this ⊢
    rw [List.replicate_succ, List.cons_append, List.length_cons, List.map_cons, List.sum_cons, List.length_nil]
    omega
theorem msr_close (t u : List PyData) (c : PyData) (r : List (List PyData)) : msr ((u ++ [c]) :: r) + t.length = msr (t :: u :: r) := by
  rw [msr_push]
  unfold msr
  rw [List.length_cons, List.length_cons, List.length_cons, List.map_cons, List.map_cons, List.map_cons, List.sum_cons, List.sum_cons, List.sum_cons]
  omega
theorem msr_top (t : List PyData) (r : List (List PyData)) : t.length + r.length + 1 ≤ msr (t :: r) := by
  unfold msr
  rw [List.length_cons, List.map_cons, List.sum_cons]
  omega
def shortS (st : List (List PyData)) : Prop := ∀ t ∈ st, ∀ x ∈ t, shortD x
theorem closed_short {held : List PyData} {c : PyData} (h : closedD held = some c) : shortD c := by
  intro z e
  subst e
  unfold closedD at h
  split at h
  · split at h
    · cases h
    · split at h <;> cases h
  · split at h <;> cases h
theorem shortS_push {t : List PyData} {r : List (List PyData)} {x : PyData} (h : shortS (t :: r)) (hx : shortD x) : shortS ((t ++ [x]) :: r) := fun u mu y my => by
  rcases List.mem_cons.mp mu with rfl | mu
  · rcases List.mem_append.mp my with my | my
    · exact h t List.mem_cons_self y my
    · rw [List.mem_singleton.mp my]; exact hx
  · exact h u (List.mem_cons_of_mem _ mu) y my
theorem shortS_open {st : List (List PyData)} (h : shortS st) (k : Nat) : shortS (List.replicate k [] ++ st) := fun t mt x mx => by
  rcases List.mem_append.mp mt with m | m
  · rw [(List.mem_replicate.mp m).2] at mx
    exact nomatch mx
  · exact h t m x mx
end K7
end Bf

namespace Bf
namespace K7
open PySem PySem.Spec PyProof.Rows L2 T SX
theorem runW_snoc (a : List (List Nat)) (w : List Nat) (st : List (List PyData)) : runW st (a ++ [w]) = (runW st a).bind fun s => stepW s w := by
  rw [runW_app]
  congr 1
  funext s
  show (match stepW s w with | none => none | some s' => some s') = stepW s w
  cases stepW s w <;> rfl
/-- the words ahead of turn i -/
def ahead (t : List Nat) (i : Nat) : List (List Nat) := ((cutB t).take i).filter (fun w => !w.isEmpty)
theorem ahead_succ {t w : List Nat} {i : Nat} (h : (cutB t)[i]? = some w) : ahead t (i + 1) = ahead t i ++ if w = [] then [] else [w] := by
  unfold ahead
  rw [List.take_add_one, h, List.filter_append]
  cases w with
  | nil => rfl
  | cons a b => rfl
theorem ahead_all (t : List Nat) : ahead t (cutB t).length = words t := by
  unfold ahead
  rw [List.take_length]
  rfl
theorem ahead_rest {t : List Nat} (i : Nat) : ∃ r, words t = ahead t i ++ r := ⟨((cutB t).drop i).filter (fun w => !w.isEmpty), by
  unfold words ahead
  rw [← List.filter_append, List.take_append_drop]⟩
theorem row_none {t w : List Nat} {i : Nat} {st : List (List PyData)} (h : (cutB t)[i]? = some w) (hw : w ≠ []) (h1 : runW [[]] (ahead t i) = some st) (h2 : stepW st w = none) : rowD t = none := by
  obtain ⟨r, e⟩ := ahead_rest (t := t) (i + 1)
  have e1 := ahead_succ h
  rw [if_neg hw] at e1
  unfold rowD
  rw [e, e1, runW_app, runW_snoc, h1]
  show (match (stepW st w).bind fun s => runW s r with | some [l] => some l | _ => none) = none
  rw [h2]
  rfl
theorem cut_len {t w : List Nat} (h : w ∈ cutB t) : w.length ≤ t.length := by
  have key : ∀ l : List Nat, ∀ w ∈ cutB l, w.length ≤ l.length := by
    intro l
    induction l with
    | nil => intro w m; rw [List.mem_singleton.mp m]; exact Nat.le_refl _
    | cons c r ih =>
      intro w m
      obtain ⟨v, vs, ev⟩ := cutB_ne r
      by_cases hc : c = 32
      · subst hc
        rw [cutB_blank] at m
        rcases List.mem_cons.mp m with rfl | m
        · exact Nat.zero_le _
        · exact Nat.le_succ_of_le (ih w m)
      · rw [cutB_sign hc ev] at m
        rw [ev] at ih
        rcases List.mem_cons.mp m with rfl | m
        · exact Nat.succ_le_succ (ih v List.mem_cons_self)
        · exact Nat.le_succ_of_le (ih w (List.mem_cons_of_mem _ m))
  exact key t w h
def lens (ws : List (List Nat)) : Nat := (ws.map List.length).sum
theorem cut_lens : ∀ t : List Nat, lens (cutB t) ≤ t.length
  | [] => Nat.le_refl _
  | c :: r => by
    obtain ⟨v, vs, ev⟩ := cutB_ne r
    have ih := cut_lens r
    by_cases hc : c = 32
    · subst hc
      rw [cutB_blank]
      show 0 + lens (cutB r) ≤ r.length + 1
      omega
    · rw [cutB_sign hc ev]
      rw [ev] at ih
      have : v.length + lens vs ≤ r.length := ih
      show (v.length + 1) + lens vs ≤ r.length + 1
      omega
theorem lens_take (ws : List (List Nat)) (i : Nat) : lens (ws.take i) ≤ lens ws := by
  have e := congrArg lens (List.take_append_drop i ws)
  unfold lens at e ⊢
  rw [List.map_append, List.sum_append] at e
  omega
theorem lens_succ {ws : List (List Nat)} {i : Nat} {w : List Nat} (h : ws[i]? = some w) : lens (ws.take (i + 1)) = lens (ws.take i) + w.length := by
  unfold lens
  rw [List.take_add_one, h, List.map_append, List.sum_append]
  show _ + (w.length + 0) = _
  omega
section
variable {P : Program} {w : World} {K : PySem.W.Frag} {mg : Str → Option Value} {base : Heap} {aF aS aC : Addr}
def spRows : Sp := fun vs H Q _ => ∃ z : Str, vs = [.str z] ∧ z.length ≤ 18000 ∧ (rowD (TL.tl z) = none → ∀ H', Same H H' → Q .non H') ∧
  ∀ l, rowD (TL.tl z) = some l → ∀ a H' xs, Same H H' → H' a = some (.lst xs) → DaAll H' xs l → Q (.ref a) H'
abbrev nRo : List Str := ["row", "open_ones", "word", "core", "inner", "_", "closed"]
theorem scRo : FnScope nRo ["row"] (defScope sRows) := ⟨rfl, rfl, rfl, by decide +kernel, rfl, by decide +kernel, by decide +kernel⟩
theorem ok_ro {f fc : Addr} {fd dc : FuncData} (F : Fun K "words_of_row" "words_of_row" sRows f fd) (DC : Df K mg "_closed" fc dc ["held"]) (GC : FnOk P w K mg base CX0 4 fc dc ["held"] spClosed)
    (ml : mg "len" = none) (mr : mg "range" = none) : FnOk P w K mg base CX0 5 f fd ["row"] spRows := by
  refine F.ok scRo (fun vs H Q E h => ?_) (fun cdv A outer s H vs Q E hr h => ?_)
  · obtain ⟨z, rfl, _⟩ := h
    rfl
  · obtain ⟨z, rfl, hz, qn, qs⟩ := h
    refine ⟨_, (pss_cons (ps_set (i := 1) scRo.nd rfl (Or.inl rfl) (pe_lst (pa_cons (pe_lst pa_nil) pa_nil)))
        (pss_cons (ps_for PassesOwn.never rfl (pi_list (pe_split (pv 0) pe_str)) (pg_name (i := 2) scRo.nd rfl (Or.inl rfl)) (pss_cons (ps_if (pt_cmpR op_eq (pv 2) pe_str (nomark _)) (pss_one ps_continue) pss_nil)
        (pss_cons (ps_set (i := 3) scRo.nd rfl (Or.inl rfl) (pe_bm PySem.F.plainAttrs_str PySem.F.slot_str_lstrip PySem.F.type_str_lstrip mt_lstripChars (pv 2) (pa_cons pe_str pa_nil)))
        (pss_cons (ps_expr (pe_bm PySem.F.plainAttrs_list PySem.F.slot_list_extend PySem.F.type_list_extend mt_extend (pv 1) (pa_cons (pe_lc (own := [("_", 5)]) (g := gName 5) (tt := tYes) rfl scRo.nd (pi_range1 (by rfl) mr (pa_cons (pe_op op_sub (pe_callB call_len_str (by rfl) ml PySem.boot_len (pa_cons (pv 2) pa_nil)) (pe_callB call_len_str (by rfl) ml PySem.boot_len (pa_cons (pv 3) pa_nil))) pa_nil)) (blkOk_by (N := nRo) (sc := defScope sRows) (by decide +kernel)) (fun _ _ _ _ _ => pg_name (i := 5) scRo.nd rfl (Or.inl rfl)) (fun _ _ _ _ _ => pts_nil) (fun _ _ _ _ _ => (pe_lst pa_nil))) pa_nil)))
        (pss_cons (ps_set (i := 4) scRo.nd rfl (Or.inl rfl) (pe_bm PySem.F.plainAttrs_str PySem.F.slot_str_rstrip PySem.F.type_str_rstrip mt_rstripChars (pv 3) (pa_cons pe_str pa_nil)))
        (pss_cons (ps_if (pt_truth (pv 4) (by intro _; rfl)) (pss_one (ps_expr (pe_bm PySem.F.plainAttrs_list PySem.F.slot_list_append PySem.F.type_list_append mt_append (pe_ix ix_list (pv 1) (pe_un un_neg pe_int) (fun _ _ => rfl)) (pa_cons (pv 4) pa_nil)))) (pss_one (ps_if (pt_not (pt_val (pe_m1 PySem.F.slot_str_startswith PySem.F.type_str_startswith mt_startswith (pv 2) pe_str))) (pss_one (ps_ret pe_non)) pss_nil)))
        (pss_one (ps_for PassesOwn.never rfl (pi_range1 (by rfl) mr (pa_cons (pe_op op_sub (pe_callB call_len_str (by rfl) ml PySem.boot_len (pa_cons (pv 3) pa_nil)) (pe_callB call_len_str (by rfl) ml PySem.boot_len (pa_cons (pv 4) pa_nil))) pa_nil)) (pg_name (i := 5) scRo.nd rfl (Or.inl rfl)) (pss_cons (ps_set (i := 6) scRo.nd rfl (Or.inl rfl) (pe_call GC hr (by rfl) DC.at_ DC.kp DC.bd .nil pass0 (pa_cons (pe_bm0 PySem.F.plainAttrs_list PySem.F.slot_list_pop PySem.F.type_list_pop mt_pop (pv 1)) pa_nil)))
        (pss_cons (ps_if (PW.pt (pw_or (pt_cmpR op_isN (pv 6) pe_non (nomark _)) (pw_or1 (pt_not (pt_truth (pv 1) (by intro _; rfl)))))) (pss_one (ps_ret pe_non)) pss_nil)
        (pss_one (ps_expr (pe_bm PySem.F.plainAttrs_list PySem.F.slot_list_append PySem.F.type_list_append mt_append (pe_ix ix_list (pv 1) (pe_un un_neg pe_int) (fun _ _ => rfl)) (pa_cons (pv 6) pa_nil))))))))))))))
        (pss_one (ps_ret (pe_ifExp (pt_cmpR op_eq (pe_callB call_len_seq (by rfl) ml PySem.boot_len (pa_cons (pv 1) pa_nil)) pe_int (nomark _)) (pe_ix ix_list (pv 1) pe_int (fun _ _ => rfl)) pe_non))))), ?_⟩
    refine ⟨by show 0 ≤ sizeLine; decide, fun a0 ha0 => ⟨by show 1 ≤ sizeLine; decide, fun O hO => ?_⟩⟩
    have lz := TL.len_tl z
    refine ⟨_, rfl, ⟨_, rfl⟩, z, " ", rfl, rfl, by decide +kernel, by rw [sizeLine_eq]; omega, fun p hp => ?_⟩
    have esp : (Txt.split z " ").map V.str = (cutB (TL.tl z)).map fun w => V.str (S w) := by
      have := split_cut (TL.tl z)
      rw [S_tl] at this
      rw [this, List.map_map]
      rfl
    rw [esp]
    have n1 : O ≠ a0 := fun e => by rw [e, upd_same] at hO; cases hO
    have n2 : p ≠ O := fun e => by rw [e, upd_same] at hp; cases hp
    have n3 : p ≠ a0 := fun e => by rw [e, upd_ne n1.symm, upd_same] at hp; cases hp
    have hO' : H O = none := by rw [upd_ne n1] at hO; exact hO
    have hp' : H p = none := by rw [upd_ne n2, upd_ne n3] at hp; exact hp
    obtain ⟨G0, sHG, gp0, G0O, os0⟩ : ∃ G0 : Hp, Same H G0 ∧ G0 p = some (.lst ((cutB (TL.tl z)).map fun w => V.str (S w))) ∧ True ∧ Os G0 (upd (upd (upd H a0 (.lst [])) O (.lst [.ref a0])) p (.lst ((cutB (TL.tl z)).map fun w => V.str (S w)))) O [[]] := by
      refine ⟨upd H p (.lst ((cutB (TL.tl z)).map fun w => V.str (S w))), same_new hp', upd_same, True.intro, [a0], ?_, ?_, ?_, fun b o e => ?_, ⟨⟨[], ?_, .nil⟩, ?_, List.not_mem_nil, True.intro⟩⟩
      · rw [upd_ne n2.symm, upd_same]
        rfl
      · rw [upd_ne n2.symm]; exact hO'
      · intro m
        exact n1 (List.mem_singleton.mp m)
      · by_cases eb : b = p
        · subst eb
          rw [upd_same] at e ⊢
          exact e
        · rw [upd_ne eb] at e ⊢
          rw [upd_ne (ne_of_none e hO'), upd_ne (ne_of_none e ha0)]
          exact e
      · rw [upd_ne n3.symm, upd_ne n1.symm, upd_same]
      · rw [upd_ne n3.symm]; exact ha0
    have gp : (upd (upd (upd H a0 (.lst [])) O (.lst [.ref a0])) p (.lst ((cutB (TL.tl z)).map fun w => V.str (S w)))) p = some (.lst ((cutB (TL.tl z)).map fun w => V.str (S w))) := upd_same
    generalize upd (upd (upd H a0 (.lst [])) O (.lst [.ref a0])) p (.lst ((cutB (TL.tl z)).map fun w => V.str (S w))) = H1 at os0 gp
    refine ⟨p, rfl, ⟨_, SqL.of gp⟩, for_list (K := K) (a := p) (xs := (cutB (TL.tl z)).map fun w => V.str (S w))
      (fun i σ H' => ∃ u2 u3 u4 u5 u6 G st, σ = [some (.str z), some (.ref O), u2, u3, u4, u5, u6] ∧ Same G0 G ∧ Os G H' O st ∧ st ≠ [] ∧ runW [[]] (ahead (TL.tl z) i) = some st ∧ msr st ≤ 1 + lens ((cutB (TL.tl z)).take i) ∧ shortS st)
      ⟨_, _, _, _, _, G0, [[]], rfl, (fun _ _ e => e), os0, by simp, rfl, Nat.le_refl _, fun t m x mx => by rw [List.mem_singleton.mp m] at mx; exact nomatch mx⟩ (fun i σ H' _ pv => ?_) (fun i x σ H' hx pv => ?_) fun σ H1 pv => ?_⟩
    · obtain ⟨_, _, _, _, _, G, st, rfl, sG, os, _⟩ := pv
      obtain ⟨_, _, _, _, h4, _⟩ := os
      exact SqL.of (h4 _ _ (sG _ _ gp0))
    · obtain ⟨u2, u3, u4, u5, u6, G, st, rfl, sG, os, nst, hrun, hm, hsh⟩ := pv
      rw [List.getElem?_map] at hx
      cases hj : (cutB (TL.tl z))[i]? with
      | none => rw [hj] at hx; cases hx
      | some wl =>
        rw [hj] at hx
        cases hx
        have hmem := List.mem_of_getElem? hj
        have lw := cut_len hmem
        have ltot := cut_lens (TL.tl z)
        have ltk := lens_take (cutB (TL.tl z)) i
        have lsu := lens_succ hj
        have ltk1 := lens_take (cutB (TL.tl z)) (i + 1)
        refine ⟨_, rfl, rfl, _, rfl, ite2 (fun h1 => ?_) (fun h1 => ?_)⟩
        · have e1 : wl = [] := by
            have := V.str.inj (of_decide_eq_true h1)
            have := congrArg TL.tl this
            exact this
          have ea := ahead_succ hj
          rw [if_pos e1, List.append_nil] at ea
          exact ⟨_, _, _, _, _, G, st, rfl, sG, os, nst, by rw [ea]; exact hrun, by rw [lsu]; omega, hsh⟩
        · have e1 : wl ≠ [] := fun e => h1 (decide_eq_true (by rw [e]; rfl))
          have ea := ahead_succ hj
          rw [if_neg e1] at ea
          have lS : (S wl).length ≤ sizeLine := by rw [S_len, sizeLine_eq]; omega
          have eW : TL.tl (S wl) = wl := rfl
          refine ⟨_, rfl, rfl, S wl, "(", rfl, rfl, lS, ?_⟩
          rw [core_str]
          have lC0 : (S (core wl)).length ≤ sizeLine := by rw [S_len, sizeLine_eq]; have := core_len wl; omega
          have eO : ((((S wl).length : Nat) : Int) - (((S (core wl)).length : Nat) : Int)).toNat = nO wl := by
            rw [S_len, S_len]
            unfold nO
            omega
          have bO : -(2 ^ 62) ≤ ((((S wl).length : Nat) : Int) - (((S (core wl)).length : Nat) : Int)) ∧ ((((S wl).length : Nat) : Int) - (((S (core wl)).length : Nat) : Int)) < 2 ^ 62 := by
            have := core_len wl
            rw [S_len, S_len]
            omega
          obtain ⟨L, gO, lL⟩ : ∃ L, H' O = some (.lst L) ∧ L.length = st.length := by
            obtain ⟨L, gO, lL, _⟩ := os_open os (Same.refl H')
            exact ⟨L, gO, lL⟩
          refine ⟨_, rfl, .inl ⟨rfl, _, SqL.of gO⟩, _, rfl, S wl, rfl, lS, _, rfl, S (core wl), rfl, lC0, _, _, rfl, rfl, _, rfl, bO.1, bO.2, fun D hD => ?_⟩
          rw [eO]
          have eC : TL.tl (S wl) = wl := rfl
          rw [eC]
          refine lc_range (fun j Hc => Same H' Hc ∧ ∃ ds : List Addr, ds.length = j ∧ ds.Nodup ∧ Hc D = some (.lst (ds.map V.ref)) ∧ ∀ d ∈ ds, H' d = none ∧ d ≠ D ∧ Hc d = some (.lst []))
            ⟨same_new hD, [], rfl, List.nodup_nil, upd_same, fun d m => nomatch m⟩ (fun j Hc hjn pv => ?_) fun Hc pv => ?_
          · obtain ⟨sc, ds, ld, nd, gD, hds⟩ := pv
            refine ⟨rfl, by show 0 ≤ sizeLine; decide, fun d hd => ?_⟩
            have ndD : d ≠ D := fun e => by rw [e, gD] at hd; cases hd
            have ndm : d ∉ ds := fun m => by rw [(hds d m).2.2] at hd; cases hd
            refine ⟨ds.map V.ref, by rw [upd_ne ndD.symm]; exact gD, by rw [List.length_map, sizeLine_eq]; have := core_len wl; unfold nO at hjn; omega, fun b o e => ?_, ds ++ [d], by rw [List.length_append, ld]; rfl, ?_, by rw [upd_same, List.map_append]; rfl, fun x m => ?_⟩
            · rw [upd_ne (ne_of_none e hD), upd_ne (ne_of_none (sc _ _ e) hd)]
              exact sc _ _ e
            · rw [List.nodup_append]
              exact ⟨nd, List.pairwise_singleton _ _, fun a ma b mb => by rw [List.mem_singleton.mp mb]; exact fun e => ndm (e ▸ ma)⟩
            · rcases List.mem_append.mp m with m | m
              · obtain ⟨q1, q2, q3⟩ := hds x m
                exact ⟨q1, q2, by rw [upd_ne q2, upd_ne (fun e => ndm (by rw [← e]; exact m))]; exact q3⟩
              · rw [List.mem_singleton.mp m]
                exact ⟨none_back sc hd, ndD, by rw [upd_ne ndD, upd_same]⟩
          obtain ⟨sc, ds, ld, nd, gD, hds⟩ := pv
          have hmt : st.length ≤ msr st := Nat.le_add_right _ _
          have hnO : nO wl ≤ wl.length := Nat.sub_le _ _
          refine ⟨O, D, L, _, rfl, rfl, sc _ _ gO, gD, by rw [List.length_map, ld, lL, sizeLine_eq]; omega, ?_⟩
          obtain ⟨L', gO', lL', hopen⟩ := os_open os sc
          have eL : L' = L := by
            rw [gO] at gO'
            cases gO'
            rfl
          subst eL
          have os1 := hopen ds nd fun d m => ⟨(hds d m).1, (hds d m).2.2⟩
          rw [ld] at os1
          have sG1 : Same G (upd Hc O (.lst (L' ++ ds.map V.ref))) := by
            obtain ⟨_, _, _, _, h4, _⟩ := os1
            exact h4
          generalize upd Hc O (.lst (L' ++ ds.map V.ref)) = H2 at os1 sG1
          refine ⟨_, rfl, rfl, S (core wl), ")", rfl, rfl, lC0, ?_⟩
          have einn : Txt.rstripChars (S (core wl)) ")" = S (inn wl) := by
            have := inn_str (x := S wl)
            rw [core_str] at this
            exact this
          rw [einn]
          have lI0 : (S (inn wl)).length ≤ sizeLine := by rw [S_len, sizeLine_eq]; have := core_len wl; have := inn_len wl; omega
          refine ⟨_, rfl, ((S (inn wl)).length : Int) != 0, ⟨lI0, rfl⟩, ?_⟩
          have nst1 : List.replicate (nO wl) ([] : List PyData) ++ st ≠ [] := by simp [nst]
          have hwc : wl.length = nO wl + (core wl).length := by have := core_len wl; unfold nO; omega
          have hinl := inn_len wl
          by_cases hi : inn wl = []
          · have e0 : (((S (inn wl)).length : Int) != 0) = false := by rw [S_len, hi]; rfl
            rw [e0]
            refine iteF ?_
            refine ⟨_, rfl, ⟨_, rfl⟩, S wl, "()", rfl, rfl, _, rfl, ?_⟩
            rw [starts_str]
            by_cases h2 : wl.take 2 = [40, 41]
            · rw [eC, decide_eq_true h2]
              refine iteF ?_
              obtain ⟨st2, est⟩ : ∃ st2, st2 = List.replicate (nO wl) ([] : List PyData) ++ st := ⟨_, rfl⟩
              have ecl : closeN (nS wl - 0) st2 = stepW st wl := by
                unfold stepW
                rw [if_neg (by simp [hi]), if_pos h2, est]
                rfl
              have hm2 : msr st2 ≤ 1 + lens ((cutB (TL.tl z)).take (i + 1)) := by rw [est, msr_open, lsu]; omega
              have hsh2 : shortS st2 := by rw [est]; exact shortS_open hsh _
              have ne2 : st2 ≠ [] := by rw [est]; exact nst1
              have os2 : Os G H2 O st2 := by rw [est]; exact os1
              have lC : (S (core wl)).length ≤ sizeLine := by rw [S_len, sizeLine_eq]; have := core_len wl; omega
              have lI : (S (inn wl)).length ≤ sizeLine := by rw [S_len, sizeLine_eq]; have := core_len wl; have := inn_len wl; omega
              have eS : ((((S (core wl)).length : Nat) : Int) - (((S (inn wl)).length : Nat) : Int)).toNat = nS wl := by
                rw [S_len, S_len]
                unfold nS
                omega
              have bS : -(2 ^ 62) ≤ ((((S (core wl)).length : Nat) : Int) - (((S (inn wl)).length : Nat) : Int)) ∧ ((((S (core wl)).length : Nat) : Int) - (((S (inn wl)).length : Nat) : Int)) < 2 ^ 62 := by
                have := inn_len wl
                have := core_len wl
                rw [S_len, S_len]
                omega
              refine ⟨_, rfl, S (core wl), rfl, lC, _, rfl, S (inn wl), rfl, lI, _, _, rfl, rfl, _, rfl, bS.1, bS.2, ?_⟩
              rw [eS]
              refine for_range (fun j σ Hj => ∃ u5 u6 G st', σ = [some (.str z), some (.ref O), some (.str (S wl)), some (.str (S (core wl))), some (.str (S (inn wl))), u5, u6] ∧ Same G0 G ∧ Os G Hj O st' ∧ st' ≠ [] ∧ closeN (nS wl - j) st' = stepW st wl ∧ msr st' ≤ 1 + lens ((cutB (TL.tl z)).take (i + 1)) ∧ shortS st')
                ⟨_, _, G, st2, rfl, sG, os2, ne2, ecl, hm2, hsh2⟩ (fun j σ Hj hj' pv => ?_) fun σ Hj pv => ?_
              · obtain ⟨u5, u6, G, st', rfl, sG, os, nst, hcl, hm', hsh'⟩ := pv
                obtain ⟨m, em⟩ : ∃ m, nS wl - j = m + 1 := ⟨nS wl - j - 1, by omega⟩
                rw [em] at hcl
                cases st' with
                | nil => exact absurd rfl nst
                | cons t r =>
                  obtain ⟨L, a, xs, gO, eL, gA, rA, lL, os'⟩ := os_pop os
                  have lxs := rA.len
                  have hmt := msr_top t r
                  have sGH : Same G (upd Hj O (.lst L.dropLast)) := by
                    obtain ⟨_, _, _, _, h4, _⟩ := os'
                    exact h4
                  have sHj : Same H (upd Hj O (.lst L.dropLast)) := sHG.trans (sG.trans sGH)
                  refine ⟨_, rfl, .inl ⟨rfl, _, SqL.of gO⟩, O, L, .ref a, rfl, rfl, gO, eL, ?_⟩
                  refine ⟨a, xs, t, G, rfl, gA, by omega, sGH, rA, fun d m => hsh' t List.mem_cons_self d m, fun hn H2 s2 => ?_, fun c hc v H2 s2 hv => ?_⟩
                  · refine ⟨_, rfl, rfl, _, rfl, iteT (qn (row_none hj e1 hrun ?_) _ (sHj.trans s2))⟩
                    rw [← hcl]
                    cases r with
                    | nil => rfl
                    | cons u r =>
                      show (match closedD t with | none => none | some c => closeN m ((u ++ [c]) :: r)) = none
                      rw [hn]
                  · have nv : decide (v = V.non) = false := by
                      refine decide_eq_false fun e => ?_
                      subst e
                      cases hv
                      exact closed_wf hc
                    refine ⟨_, rfl, rfl, _, rfl, ?_⟩
                    rw [nv]
                    have gO2 : H2 O = some (.lst L.dropLast) := s2 _ _ upd_same
                    refine iteF ⟨_, rfl, !L.dropLast.isEmpty, .inl ⟨_, SqL.of gO2, rfl⟩, ?_⟩
                    cases r with
                    | nil =>
                      have : L.dropLast = [] := List.eq_nil_of_length_eq_zero lL
                      rw [this]
                      exact iteT (qn (row_none hj e1 hrun (by rw [← hcl]; rfl)) _ (sHj.trans s2))
                    | cons u r =>
                      have : L.dropLast.isEmpty = false := by
                        cases eq : L.dropLast with
                        | nil => rw [eq] at lL; cases lL
                        | cons _ _ => rfl
                      rw [this]
                      refine iteF ?_
                      obtain ⟨L2, b, ys, gOb, lL2, eb, gB, lB, hpush⟩ := os_push (os_later os' s2)
                      have hmc := msr_close t u c r
                      have hmu := msr_top t (u :: r)
                      have hmb := msr_top (u ++ [c]) r
                      rw [List.length_append] at hmb
                      refine ⟨_, rfl, 1, rfl, O, L2, _, _, rfl, rfl, SqL.of gOb, eb, .inl ⟨rfl, _, SqL.of gB⟩, _, rfl, b, ys, v, rfl, rfl, gB, by rw [sizeLine_eq]; omega, ?_⟩
                      refine ⟨_, _, shad G (upd Hj O (.lst L.dropLast)) H2, (u ++ [c]) :: r, rfl, sG.trans (shad_same sGH), hpush v c hv, List.cons_ne_nil _ _, ?_, by omega, shortS_push (fun x mx => hsh' x (List.mem_cons_of_mem _ mx)) (closed_short hc)⟩
                      rw [← hcl, show nS wl - (j + 1) = m by omega]
                      show _ = (match closedD t with | none => none | some c => closeN m ((u ++ [c]) :: r))
                      rw [hc]
              · obtain ⟨u5, u6, G, st', rfl, sG, os, nst, hcl, hm', hsh'⟩ := pv
                rw [Nat.sub_self] at hcl
                refine ⟨_, _, _, _, _, G, st', rfl, sG, os, nst, ?_, hm', hsh'⟩
                rw [ea, runW_snoc, hrun]
                exact hcl.symm
            · rw [eC, decide_eq_false h2]
              refine iteT (qn (row_none hj e1 hrun ?_) _ (sHG.trans (sG.trans sG1)))
              unfold stepW
              rw [if_neg (by simp [hi]), if_neg h2]
          · have hpos : 0 < (inn wl).length := List.length_pos_iff.mpr hi
            have e0 : (((S (inn wl)).length : Int) != 0) = true := by
              rw [S_len]
              show (((inn wl).length : Int) != 0) = true
              rw [bne_iff_ne]
              omega
            rw [e0]
            refine iteT ?_
            obtain ⟨t, r, est⟩ := List.exists_cons_of_ne_nil nst1
            rw [est] at os1
            obtain ⟨L2, b, ys, gOb, lL2, eb, gB, lB, hpush⟩ := os_push os1
            have hm1 := msr_open st (nO wl)
            rw [est] at hm1
            have hmt1 := msr_top t r
            refine ⟨_, rfl, 1, rfl, O, L2, _, _, rfl, rfl, SqL.of gOb, eb, .inl ⟨rfl, _, SqL.of gB⟩, _, rfl, b, ys, _, rfl, rfl, gB, by rw [sizeLine_eq]; omega, ?_⟩
            have os2 := hpush (.str (S (inn wl))) (.str (S (inn wl))) (.str _ (by rw [S_len]; omega))
            obtain ⟨st2, est2⟩ : ∃ st2, st2 = (t ++ [.str (S (inn wl))]) :: r := ⟨_, rfl⟩
            rw [← est2] at os2
            have ecl : closeN (nS wl - 0) st2 = stepW st wl := by
              unfold stepW
              rw [if_pos hi, est, est2]
              rfl
            have hm2 : msr st2 ≤ 1 + lens ((cutB (TL.tl z)).take (i + 1)) := by rw [est2, msr_push, lsu]; omega
            have hsh2 : shortS st2 := by
              rw [est2]
              refine shortS_push (by rw [← est]; exact shortS_open hsh _) fun y ey => ?_
              have ey := PyData.str.inj ey
              rw [← ey, S_len]
              omega
            have ne2 : st2 ≠ [] := by rw [est2]; exact List.cons_ne_nil _ _
            have lC : (S (core wl)).length ≤ sizeLine := by rw [S_len, sizeLine_eq]; have := core_len wl; omega
            have lI : (S (inn wl)).length ≤ sizeLine := by rw [S_len, sizeLine_eq]; have := core_len wl; have := inn_len wl; omega
            have eS : ((((S (core wl)).length : Nat) : Int) - (((S (inn wl)).length : Nat) : Int)).toNat = nS wl := by
              rw [S_len, S_len]
              unfold nS
              omega
            have bS : -(2 ^ 62) ≤ ((((S (core wl)).length : Nat) : Int) - (((S (inn wl)).length : Nat) : Int)) ∧ ((((S (core wl)).length : Nat) : Int) - (((S (inn wl)).length : Nat) : Int)) < 2 ^ 62 := by
              have := inn_len wl
              have := core_len wl
              rw [S_len, S_len]
              omega
            refine ⟨_, rfl, S (core wl), rfl, lC, _, rfl, S (inn wl), rfl, lI, _, _, rfl, rfl, _, rfl, bS.1, bS.2, ?_⟩
            rw [eS]
            refine for_range (fun j σ Hj => ∃ u5 u6 G st', σ = [some (.str z), some (.ref O), some (.str (S wl)), some (.str (S (core wl))), some (.str (S (inn wl))), u5, u6] ∧ Same G0 G ∧ Os G Hj O st' ∧ st' ≠ [] ∧ closeN (nS wl - j) st' = stepW st wl ∧ msr st' ≤ 1 + lens ((cutB (TL.tl z)).take (i + 1)) ∧ shortS st')
              ⟨_, _, G, st2, rfl, sG, os2, ne2, ecl, hm2, hsh2⟩ (fun j σ Hj hj' pv => ?_) fun σ Hj pv => ?_
            · obtain ⟨u5, u6, G, st', rfl, sG, os, nst, hcl, hm', hsh'⟩ := pv
              obtain ⟨m, em⟩ : ∃ m, nS wl - j = m + 1 := ⟨nS wl - j - 1, by omega⟩
              rw [em] at hcl
              cases st' with
              | nil => exact absurd rfl nst
              | cons t r =>
                obtain ⟨L, a, xs, gO, eL, gA, rA, lL, os'⟩ := os_pop os
                have lxs := rA.len
                have hmt := msr_top t r
                have sGH : Same G (upd Hj O (.lst L.dropLast)) := by
                  obtain ⟨_, _, _, _, h4, _⟩ := os'
                  exact h4
                have sHj : Same H (upd Hj O (.lst L.dropLast)) := sHG.trans (sG.trans sGH)
                refine ⟨_, rfl, .inl ⟨rfl, _, SqL.of gO⟩, O, L, .ref a, rfl, rfl, gO, eL, ?_⟩
                refine ⟨a, xs, t, G, rfl, gA, by omega, sGH, rA, fun d m => hsh' t List.mem_cons_self d m, fun hn H2 s2 => ?_, fun c hc v H2 s2 hv => ?_⟩
                · refine ⟨_, rfl, rfl, _, rfl, iteT (qn (row_none hj e1 hrun ?_) _ (sHj.trans s2))⟩
                  rw [← hcl]
                  cases r with
                  | nil => rfl
                  | cons u r =>
                    show (match closedD t with | none => none | some c => closeN m ((u ++ [c]) :: r)) = none
                    rw [hn]
                · have nv : decide (v = V.non) = false := by
                    refine decide_eq_false fun e => ?_
                    subst e
                    cases hv
                    exact closed_wf hc
                  refine ⟨_, rfl, rfl, _, rfl, ?_⟩
                  rw [nv]
                  have gO2 : H2 O = some (.lst L.dropLast) := s2 _ _ upd_same
                  refine iteF ⟨_, rfl, !L.dropLast.isEmpty, .inl ⟨_, SqL.of gO2, rfl⟩, ?_⟩
                  cases r with
                  | nil =>
                    have : L.dropLast = [] := List.eq_nil_of_length_eq_zero lL
                    rw [this]
                    exact iteT (qn (row_none hj e1 hrun (by rw [← hcl]; rfl)) _ (sHj.trans s2))
                  | cons u r =>
                    have : L.dropLast.isEmpty = false := by
                      cases eq : L.dropLast with
                      | nil => rw [eq] at lL; cases lL
                      | cons _ _ => rfl
                    rw [this]
                    refine iteF ?_
                    obtain ⟨L2, b, ys, gOb, lL2, eb, gB, lB, hpush⟩ := os_push (os_later os' s2)
                    have hmc := msr_close t u c r
                    have hmu := msr_top t (u :: r)
                    have hmb := msr_top (u ++ [c]) r
                    rw [List.length_append] at hmb
                    refine ⟨_, rfl, 1, rfl, O, L2, _, _, rfl, rfl, SqL.of gOb, eb, .inl ⟨rfl, _, SqL.of gB⟩, _, rfl, b, ys, v, rfl, rfl, gB, by rw [sizeLine_eq]; omega, ?_⟩
                    refine ⟨_, _, shad G (upd Hj O (.lst L.dropLast)) H2, (u ++ [c]) :: r, rfl, sG.trans (shad_same sGH), hpush v c hv, List.cons_ne_nil _ _, ?_, by omega, shortS_push (fun x mx => hsh' x (List.mem_cons_of_mem _ mx)) (closed_short hc)⟩
                    rw [← hcl, show nS wl - (j + 1) = m by omega]
                    show _ = (match closedD t with | none => none | some c => closeN m ((u ++ [c]) :: r))
                    rw [hc]
            · obtain ⟨u5, u6, G, st', rfl, sG, os, nst, hcl, hm', hsh'⟩ := pv
              rw [Nat.sub_self] at hcl
              refine ⟨_, _, _, _, _, G, st', rfl, sG, os, nst, ?_, hm', hsh'⟩
              rw [ea, runW_snoc, hrun]
              exact hcl.symm
    · obtain ⟨u2, u3, u4, u5, u6, G, st, rfl, sG, os, nst, hrun, hm, hsh⟩ := pv
      rw [List.length_map, ahead_all] at hrun
      cases st with
      | nil => exact absurd rfl nst
      | cons t r =>
        have os' := os
        obtain ⟨as, h1, h2, h3, h4, h5⟩ := os'
        have la := osA_len h5
        have sHH : Same H H1 := sHG.trans (sG.trans h4)
        refine ⟨_, rfl, O, _, rfl, .inl (SqL.of h1), rfl, _, rfl, ?_⟩
        rw [List.length_map, List.length_reverse, la]
        cases r with
        | nil =>
          cases as with
          | nil => cases la
          | cons a as =>
            cases as with
            | cons _ _ => cases la
            | nil =>
              obtain ⟨⟨xs, g1, g2⟩, _⟩ := h5
              refine iteB (by rfl) ?_
              refine ⟨_, rfl, O, _, 0, _, rfl, rfl, SqL.of h1, atI_nat (j := 0) rfl, qs t ?_ a _ xs sHH g1 (DaAll.same h4 _ _ g2)⟩
              unfold rowD
              rw [hrun]
        | cons u r =>
          refine iteN (decide_eq_false fun e => ?_) (qn ?_ _ sHH)
          · have := V.int.inj e
            rw [List.length_cons, List.length_cons] at this
            omega
          · unfold rowD
            rw [hrun]
end
end K7
end Bf

namespace Bf
namespace K7
open PySem PySem.Spec PyProof.Rows L2 T SX
/-! ### how much is read of a text -/
def wt : PyData → Nat
  | .str z => z.length + 3
  | d => sz d
theorem sz_wt (d : PyData) : sz d ≤ wt d := by
  cases d with
  | str z => rw [sz_str]; show 1 ≤ z.length + 3; omega
  | _ => exact Nat.le_refl _
def wtA (l : List PyData) : Nat := (l.map wt).sum
theorem szA_wt : ∀ l : List PyData, szA l ≤ wtA l
  | [] => by rw [szA_nil]; exact Nat.zero_le _
  | d :: r => by
    have h1 := sz_wt d
    have h2 := szA_wt r
    rw [szA_cons]
    show _ ≤ wt d + wtA r
    omega
theorem szA_nums : ∀ l : List Str, szA (l.map numD') ≤ l.length
  | [] => by rw [List.map_nil, szA_nil]; exact Nat.le_refl _
  | z :: r => by
    have h := szA_nums r
    have h1 : sz (numD' z) = 1 := by
      unfold numD'
      cases numS z with
      | none => simp only [sz]
      | some n => simp only [sz]
    rw [List.map_cons, szA_cons, h1, List.length_cons]
    omega
theorem sz_num (z : Str) : sz (numD' z) = 1 := by
  unfold numD'
  cases numS z with
  | none => simp only [sz]
  | some n => simp only [sz]
theorem slot_sz (s : Str) (g : PyData) : sz (slotD s g) ≤ wt g := by
  cases g with
  | list l =>
    show sz (.tuple l) ≤ sz (.list l)
    rw [sz_tup]
    simp only [sz]
    exact Nat.le_refl _
  | str z =>
    have e0 : slotD s (.str z) = if decide (V.str s = V.str "kind") = true then kindW z else if decide (V.str s = V.str "worth") = true then worthW z else if inV (.str s) (SN.map V.str) = true then numD' z else
        if decide (V.str s = V.str "every") = true then (if decide (V.str z = V.str "-") = true then .none else .str z) else .str z := rfl
    rw [e0]
    show _ ≤ z.length + 3
    have l1 := (splits_len (z := z) (y := "x") (by decide +kernel) (by decide +kernel)).2
    have l2 := (splits_len (z := z) (y := ",") (by decide +kernel) (by decide +kernel)).2
    split
    · unfold kindW
      split
      · rw [sz_tup]
        have := szA_nums (Txt.split z "x")
        omega
      · rw [sz_num]
        omega
    · split
      · unfold worthW
        split
        · simp only [sz]
          omega
        · split
          · rw [sz_tup]
            have := szA_nums (Txt.split z ",")
            omega
          · rw [sz_num]
            omega
      · split
        · rw [sz_num]; omega
        · split
          · split
            · simp only [sz]; omega
            · rw [sz_str]; omega
          · rw [sz_str]; omega
  | _ => exact Nat.le_refl _
theorem slots_sz : ∀ (ss : List Str) (l : List PyData), szA (List.zipWith slotD ss l) ≤ wtA l
  | [], _ => by rw [List.zipWith_nil_left, szA_nil]; exact Nat.zero_le _
  | _ :: _, [] => by rw [List.zipWith_nil_right, szA_nil]; exact Nat.zero_le _
  | s :: ss, d :: r => by
    rw [List.zipWith_cons_cons, szA_cons]
    have h1 := slot_sz s d
    have h2 := slots_sz ss r
    show _ ≤ wt d + wtA r
    omega
theorem closed_wt {held : List PyData} {c : PyData} (h : closedD held = some c) : wt c ≤ wtA held + 3 := by
  have other : (∀ x r, held ≠ .str x :: r) → wt c ≤ wtA held + 3 := fun n => by
    rw [closed_other n] at h
    split at h
    · cases h
      show sz (.list held) ≤ _
      have := szA_wt held
      simp only [sz]
      omega
    · cases h
  cases held with
  | nil => exact other fun _ _ e => nomatch e
  | cons d r =>
    cases d with
    | str w =>
      cases e : lk w FM with
      | none =>
        have : closedD (.str w :: r) = none := by
          show (match lk w FM with | none => none | some ss => _) = _
          rw [e]
        rw [this] at h
        cases h
      | some ss =>
        rw [closed_str e] at h
        split at h
        · cases h
          show sz (.tuple _) ≤ wt (.str w) + wtA r + 3
          rw [sz_tup, szA_cons, sz_str]
          have h1 := slots_sz ss (given ss r)
          have h2 : wtA (given ss r) ≤ wtA r + 1 := by
            unfold given
            split
            · show wt (.list r) + 0 ≤ _
              have := szA_wt r
              show sz (.list r) + 0 ≤ _
              simp only [sz]
              omega
            · omega
          show _ ≤ (w.length + 3) + wtA r + 3
          omega
        · cases h
    | _ => exact other fun _ _ e => nomatch e
def wS (st : List (List PyData)) : Nat := (st.map fun t => wtA t + 3).sum
theorem wtA_app (a b : List PyData) : wtA (a ++ b) = wtA a + wtA b := by
  unfold wtA
  rw [List.map_append, List.sum_append]
theorem wS_cons (t : List PyData) (st : List (List PyData)) : wS (t :: st) = wtA t + 3 + wS st := rfl
theorem wS_push (x : PyData) (t : List PyData) (r : List (List PyData)) : wS ((t ++ [x]) :: r) = wS (t :: r) + wt x := by
  rw [wS_cons, wS_cons, wtA_app]
  show wtA t + (wt x + 0) + 3 + wS r = _
  omega
theorem closeN_wS : ∀ (n : Nat) {st st' : List (List PyData)}, closeN n st = some st' → wS st' ≤ wS st
  | 0, _, _, h => by cases h; exact Nat.le_refl _
  | _ + 1, [], _, h => by cases h
  | _ + 1, [_], _, h => by cases h
  | n + 1, t :: u :: r, st', h => by
    have e0 : closeN (n + 1) (t :: u :: r) = (match closedD t with | none => none | some c => closeN n ((u ++ [c]) :: r)) := rfl
    rw [e0] at h
    cases e : closedD t with
    | none => rw [e] at h; cases h
    | some c =>
      rw [e] at h
      have h1 := closeN_wS n h
      have h2 := closed_wt e
      rw [wS_push] at h1
      rw [wS_cons]
      omega
theorem wS_open (st : List (List PyData)) : ∀ k, wS (List.replicate k [] ++ st) = wS st + 3 * k
  | 0 => rfl
  | k + 1 => by
    rw [List.replicate_succ, List.cons_append, wS_cons, wS_open st k]
    show 0 + 3 + _ = _
    omega
theorem step_wS {st st' : List (List PyData)} {w : List Nat} (h : stepW st w = some st') : wS st' ≤ wS st + 6 * w.length := by
  have hc := core_len w
  have hi := inn_len w
  have hO : nO w + (core w).length = w.length := by unfold nO; omega
  unfold stepW at h
  split at h
  · rename_i hne
    have hp : 0 < (inn w).length := List.length_pos_iff.mpr hne
    have h1 := closeN_wS _ h
    have h2 : wS (pushS (.str (S (inn w))) (List.replicate (nO w) [] ++ st)) ≤ wS st + 3 * nO w + ((inn w).length + 3) := by
      have e := wS_open st (nO w)
      cases q : List.replicate (nO w) ([] : List PyData) ++ st with
      | nil =>
        rw [q] at e
        show wS [] ≤ _
        omega
      | cons t r =>
        rw [q] at e
        show wS ((t ++ [.str (S (inn w))]) :: r) ≤ _
        rw [wS_push]
        show _ + ((S (inn w)).length + 3) ≤ _
        rw [S_len]
        omega
    omega
  · split at h
    · have h1 := closeN_wS _ h
      rw [wS_open] at h1
      omega
    · cases h
theorem run_wS : ∀ (ws : List (List Nat)) {st st' : List (List PyData)}, runW st ws = some st' → wS st' ≤ wS st + 6 * lens ws
  | [], _, _, h => by cases h; exact Nat.le_add_right _ _
  | w :: ws, st, st', h => by
    have e0 : runW st (w :: ws) = (match stepW st w with | none => none | some st' => runW st' ws) := rfl
    rw [e0] at h
    cases e : stepW st w with
    | none => rw [e] at h; cases h
    | some s1 =>
      rw [e] at h
      have h1 := step_wS e
      have h2 := run_wS ws h
      have : lens (w :: ws) = w.length + lens ws := rfl
      omega
theorem lens_filter : ∀ ws : List (List Nat), lens (ws.filter fun w => !w.isEmpty) ≤ lens ws
  | [] => Nat.le_refl _
  | [] :: r => by
    rw [List.filter_cons_of_neg (by simp)]
    have := lens_filter r
    show _ ≤ 0 + lens r
    omega
  | (c :: w) :: r => by
    rw [List.filter_cons_of_pos (by rfl)]
    have := lens_filter r
    show (c :: w).length + lens _ ≤ (c :: w).length + lens r
    omega
theorem row_sz {t : List Nat} {l : List PyData} (h : rowD t = some l) : szA l ≤ 3 + 6 * t.length := by
  unfold rowD at h
  split at h
  · rename_i l' e
    cases h
    have h1 := run_wS _ e
    have h2 : lens (words t) ≤ t.length := Nat.le_trans (lens_filter _) (cut_lens t)
    have h3 := szA_wt l
    have e1 : wS [[]] = 3 := rfl
    rw [wS_cons, e1] at h1
    omega
  · cases h
section
variable {P : Program} {w : World} {K : PySem.W.Frag} {mg : Str → Option Value} {base : Heap}
abbrev sNX : Stmt := inClass (top 6) 0
theorem scNX : FnScope ["self", "found"] ["self", "found"] (defScope sNX) := ⟨rfl, rfl, rfl, by decide +kernel, rfl, by decide +kernel, by decide +kernel⟩
theorem ok_NX {f C CF fF : Addr} {fd fdF : FuncData} {mc : Value} (F : Fun K "__init__" "NoText.__init__" sNX f fd) (B : BaseT P w K mg base mc CF fF fdF) (ox : OexC K C) (nf : PySem.W.findIn K (.ref C) "found" = some none) :
    FnOk P w K mg base CX0 3 f fd ["self", "found"] (spInit K C) := by
  refine F.ok scNX (fun vs H Q E h => ?_) (fun cdv A outer s H vs Q E hr h => ?_)
  · obtain ⟨a, v, rfl, _⟩ := h
    rfl
  · obtain ⟨a, v, rfl, ea, q⟩ := h
    exact ⟨_, pss_cons (ps_expr (pe_clsFn B.ok hr (by rfl) B.g B.rd B.va B.kp B.bd pass0 (pa_cons (pv 0) (pa_cons pe_str pa_nil)))) (pss_one (ps_ost (pv 0) (pv 1))),
      _, rfl, a, C, _, rfl, ox, ea, _, rfl, _, rfl, a, C, rfl, ox, nf, .inl ⟨ea, fun dx n ne => q dx n ne⟩⟩
/-! ### read_term -/
def readO : PyData → Option PyData
  | .str z => readD (TL.tl z)
  | _ => none
def spRead (cX : Addr) : Sp := fun vs H Q E => ∃ (x : V) (d : PyData), vs = [x] ∧ Da H x d ∧ (∀ z, d = .str z → z.length ≤ 18000) ∧ ((readO d = none ∧ Refuses cX x H E) ∨ ∃ t, readO d = some t ∧ ∀ v H', Same H H' → Da H' v t → Q v H')
abbrev nRt : List Str := ["text", "words"]
theorem scRt : FnScope nRt ["text"] (defScope sRTerm) := ⟨rfl, rfl, rfl, by decide +kernel, rfl, by decide +kernel, by decide +kernel⟩
theorem ok_rt {f fr fi cX fX : Addr} {fd dr di fdX : FuncData} (F : Fun K "read_term" "read_term" sRTerm f fd) (TX : ExT K mg "NoText" cX fX fdX) (GX : FnOk P w K mg base CX0 3 fX fdX ["self", "found"] (spInit K cX))
    (DR : Df K mg "words_of_row" fr dr ["row"]) (GR : FnOk P w K mg base CX0 5 fr dr ["row"] spRows) (DI : Df K mg "is_term" fi di ["thing"]) (GI : FnOk P w K mg base CX0 8 fi di ["thing"] spIsTerm)
    (mi : mg "isinstance" = none) (ms : mg "str" = none) (ml : mg "len" = none) : FnOk P w K mg base (CXL P w) 9 f fd ["text"] (spRead cX) := by
  refine F.okX scRt (fun vs H Q E h => ?_) (fun cdv A outer s H vs Q E hr h => ?_)
  · obtain ⟨x, d, rfl, _⟩ := h
    rfl
  · obtain ⟨x, d, rfl, da, hz, q⟩ := h
    have hr4 := hr.mono (by decide : 4 ≤ 8)
    have hr5 := hr.mono (by decide : 5 ≤ 8)
    refine ⟨_, (pss_cons (ps_if (PW.pt (pw_or (pt_not (pt_val (pe_callB call_isi (by rfl) mi (by decide +kernel) (pa_cons (pv 0) (pa_cons (pe_bltn (v := .ty "str") (by rfl) ms (by decide +kernel) rfl) pa_nil))))) (pw_or1 (pt_cmpR op_in_sign pe_str (pv 0) (by rfl))))) (pss_one (ps_raise rfl (takes_of rfl rfl rfl rfl) (pmk_oex TX.ox TX.iC TX.tI GX hr4 TX.bd .nil pass0 (by rfl) TX.gC (pa_cons (pv 0) pa_nil)))) pss_nil)
        (pss_cons (ps_set (i := 1) scRt.nd rfl (Or.inl rfl) (pe_call GR hr5 (by rfl) DR.at_ DR.kp DR.bd .nil pass0 (pa_cons (pv 0) pa_nil)))
        (pss_cons (ps_if (PW.pt (pw_or (pt_cmpR op_isN (pv 1) pe_non (nomark _)) (pw_or (pt_cmpR op_ne (pe_callB call_len_seq (by rfl) ml PySem.boot_len (pa_cons (pv 1) pa_nil)) pe_int (nomark _)) (pw_or1 (pt_not (pt_val (pe_call GI hr (by rfl) DI.at_ DI.kp DI.bd .nil pass0 (pa_cons (pe_ix ix_list (pv 1) pe_int (fun _ _ => rfl)) pa_nil)))))))) (pss_one (ps_raise rfl (takes_of rfl rfl rfl rfl) (pmk_oex TX.ox TX.iC TX.tI GX hr4 TX.bd .nil pass0 (by rfl) TX.gC (pa_cons (pv 0) pa_nil)))) pss_nil)
        (pss_one (ps_ret (pe_ix ix_list (pv 1) pe_int (fun _ _ => rfl))))))), ?_⟩
    refine ⟨_, rfl, x, .ty "str", _, _, _, rfl, .ty "str", da.kn.ty, kit_ty (kit_str d), _, rfl, ?_⟩
    have no : readO d = none → Refuses cX x H E := fun e => by
      rcases q with ⟨_, q⟩ | ⟨t, e2, _⟩
      · exact q
      · rw [e] at e2; cases e2
    have e10 : ("\n" : Str) = ⟨#[10]⟩ := by decide +kernel
    cases da with
    | str z hz' =>
      have hz := hz z rfl
      have lz := TL.len_tl z
      refine iteF ⟨_, rfl, 10, z, congrArg V.str e10, rfl, _, rfl, ?_⟩
      by_cases m10 : 10 ∈ z.cps.toList
      · refine iteB (decide_eq_true m10) ⟨_, rfl, raise_reads (no ?_)⟩
        show readD (TL.tl z) = none
        unfold readD
        rw [if_pos m10]
      · refine iteN (decide_eq_false m10) ?_
        have er : readO (.str z) = (match rowD (TL.tl z) with | some [d] => if termD d = true then some d else none | _ => none) := by
          show readD (TL.tl z) = _
          unfold readD
          rw [if_neg m10]
          try rfl
        refine ⟨_, rfl, z, rfl, hz, fun hn H1 s1 => ?_, fun l hl a H1 xs s1 ha dx => ?_⟩
        · refine ⟨_, rfl, rfl, _, rfl, iteT ⟨_, rfl, raise_reads (refuses_later (no ?_) s1)⟩⟩
          rw [er, hn]
        · rw [hl] at er
          have lx := dx.len
          refine ⟨_, rfl, rfl, _, rfl, iteF ⟨_, rfl, a, xs, rfl, .inl (SqL.of ha), rfl, _, rfl, ?_⟩⟩
          by_cases l1 : xs.length = 1
          · refine iteN (by rw [l1]; rfl) ?_
            match xs, l1, l, dx, ha, er, hl with
            | [v], _, [t], .cons hv .nil, ha, er, hl =>
              have er : readO (.str z) = if termD t = true then some t else none := er
              have hsz := row_sz hl
              rw [szA_cons, szA_nil] at hsz
              refine ⟨_, rfl, a, _, 0, _, rfl, rfl, SqL.of ha, atI_nat (j := 0) rfl, v, t, rfl, hv, by omega, fun H2 s2 => ⟨_, rfl, ?_⟩⟩
              by_cases ht : termD t = true
              · rw [if_pos ht] at er
                rw [ht]
                refine iteF ⟨_, rfl, a, _, 0, _, rfl, rfl, SqL.of (s2 _ _ ha), atI_nat (j := 0) rfl, ?_⟩
                rcases q with ⟨e, _⟩ | ⟨t', e, q⟩
                · rw [e] at er; cases er
                · rw [e] at er
                  cases er
                  exact q _ _ (s1.trans s2) (Da.same s2 _ _ hv)
              · rw [if_neg ht] at er
                rw [Bool.eq_false_iff.mpr ht]
                exact iteT ⟨_, rfl, raise_reads (refuses_later (no er) (s1.trans s2))⟩
          · refine iteB (by rw [decide_eq_false (fun e => l1 (by have := V.int.inj e; omega))]; rfl) ⟨_, rfl, raise_reads (refuses_later (no ?_) s1)⟩
            rw [er]
            match l, lx with
            | [], _ => rfl
            | [_], lx => exact absurd lx l1
            | _ :: _ :: _, _ => rfl
    | non => exact iteT (iteT ⟨_, rfl, raise_reads (no rfl)⟩)
    | bl b => exact iteT (iteT ⟨_, rfl, raise_reads (no rfl)⟩)
    | int i => exact iteT (iteT ⟨_, rfl, raise_reads (no rfl)⟩)
    | lst h l r => exact iteT (iteT ⟨_, rfl, raise_reads (no rfl)⟩)
    | tup h l r => exact iteT (iteT ⟨_, rfl, raise_reads (no rfl)⟩)
    | emp h => exact iteT (iteT ⟨_, rfl, raise_reads (no rfl)⟩)
end
end K7
end Bf

namespace Bf
namespace K7
open PySem PySem.Spec PyProof.Rows L2 T SX
/-! ### how deep a term goes -/
mutual
def dpt : PyData → Nat
  | .tuple ds => 1 + dptA ds
  | .list ds => 1 + dptA ds
  | .none => 0
  | .bool _ => 0
  | .int _ => 0
  | .str _ => 0
  | .dict _ => 0
def dptA : List PyData → Nat
  | [] => 0
  | d :: r => max (dpt d) (dptA r)
end
theorem dpt_tup (ds : List PyData) : dpt (.tuple ds) = 1 + dptA ds := by simp only [dpt]
theorem dptA_mem {x : PyData} : ∀ {l : List PyData}, x ∈ l → dpt x ≤ dptA l
  | d :: r, m => by
    simp only [dptA]
    rcases List.mem_cons.mp m with rfl | m
    · exact Nat.le_max_left _ _
    · exact Nat.le_trans (dptA_mem m) (Nat.le_max_right _ _)
theorem dpt_inside {d x : PyData} (h : x ∈ insideD d) : dpt x < dpt d := by
  cases d with
  | tuple ds =>
    rw [dpt_tup]
    have := dptA_mem (show x ∈ ds from h)
    omega
  | _ => exact nomatch h
theorem dpt_in {c : Str} {x : PyData} {rest : List PyData} (h : x ∈ rest) : dpt x < dpt (.tuple (.str c :: rest)) := by
  rw [dpt_tup]
  have := dptA_mem (List.mem_cons_of_mem (.str c) h)
  omega
/-! ### lengths of what is written -/
def lenS (ws : List Str) : Nat := (ws.map (·.length)).sum
theorem brack_len (ws : List Str) : (brack ws).length = lenS ws + (ws.length - 1) + 2 := by
  have e1 : (" " : Str).length = 1 := by decide +kernel
  have e2 : ("(" : Str).length = 1 := by decide +kernel
  have e3 : (")" : Str).length = 1 := by decide +kernel
  have e := size_glued " " ws
  rw [e1] at e
  unfold brack
  rw [strLen_append, strLen_append, e2, e3]
  have : (Txt.join " " ws).length = (Builtin.Str.glued " " ws).length := rfl
  rw [this, e]
  unfold lenS
  omega
theorem lenS_mem {z : Str} : ∀ {l : List Str}, z ∈ l → z.length ≤ lenS l
  | y :: r, m => by
    show _ ≤ y.length + lenS r
    rcases List.mem_cons.mp m with rfl | m
    · omega
    · have := lenS_mem m
      omega
theorem brack_in {c z : Str} {ws : List Str} (h : z ∈ ws) : z.length + 2 ≤ (brack (c :: ws)).length := by
  rw [brack_len]
  have := lenS_mem (List.mem_cons_of_mem c h)
  omega
theorem lit_worth {c : Str} {rest : List PyData} {ss : List Str} (hl : rest.length = ss.length) (hfit : (List.zipWith fitsD ss rest).all id = true) (hlit : (!decide (V.str c = V.str "lit") || litD rest) = true) (fw : ("worth" : Str) ∈ ss → c = "lit" ∧ ss = [("kind" : Str), "worth"])
    {i : Nat} {sl : Str} {dy : PyData} (hi : ss[i]? = some sl) (hd : rest[i]? = some dy) (e2 : sl = "worth") : ∃ k, kindD k = true ∧ worthD dy k = true := by
  obtain ⟨rfl, rfl⟩ := fw (by rw [← e2]; exact List.mem_of_getElem? hi)
  match rest, hl, hlit, hfit, hd with
  | [k, x], _, hlit, hfit, hd =>
    have hk : kindD k = true := by
      rw [List.zipWith_cons_cons, List.all_cons, Bool.and_eq_true] at hfit
      exact hfit.1
    have hx : worthD x k = true := by
      have z : (!decide (V.str "lit" = V.str "lit") || litD [k, x]) = true := hlit
      rw [decide_eq_true rfl, Bool.not_true, Bool.false_or] at z
      exact z
    refine ⟨k, hk, ?_⟩
    match i, hi, hd with
    | 0, hi, hd =>
      have : ("kind" : Str) = sl := Option.some.inj hi
      rw [e2] at this
      exact absurd this (by decide +kernel)
    | 1, hi, hd =>
      have : x = dy := Option.some.inj hd
      rw [← this]
      exact hx
    | _ + 2, hi, hd => cases hi
theorem flat_take {α : Type} (l : List (List α)) (i : Nat) : (l.take i).flatten.length ≤ l.flatten.length := by
  have e := congrArg (fun l => (List.flatten l).length) (List.take_append_drop i l)
  have e : ((l.take i) ++ (l.drop i)).flatten.length = l.flatten.length := e
  rw [List.flatten_append, List.length_append] at e
  omega
section
variable {P : Program} {w : World} {K : PySem.W.Frag} {mg : Str → Option Value} {base : Heap} {aF aS aC : Addr}
theorem fn_false {f : Addr} {fd : FuncData} {ps : List Str} {k : Nat} : FnOk P w K mg base CX0 k f fd ps (fun _ _ _ _ => False) := ⟨fun _ _ _ _ h => h.elim, fun _ _ _ _ _ _ _ _ _ _ _ _ _ h => h.elim⟩
def spWr (n : Nat) : Sp := fun vs H Q _ => ∃ (x : V) (d : PyData), vs = [x] ∧ Da H x d ∧ termD d = true ∧ dpt d < n ∧ (textS d).length ≤ 100000 ∧ ∀ H', Same H H' → Q (.str (textS d)) H'
abbrev nWr : List Str := ["right", "words", "slot", "held", "term"]
theorem scWr : FnScope nWr ["right"] (defScope sWRight) := ⟨rfl, rfl, rfl, by decide +kernel, rfl, by decide +kernel, by decide +kernel⟩
theorem ok_wr {f fb fk fv : Addr} {fd db dk dv : FuncData} (F : Fun K "written_right" "written_right" sWRight f fd) (DW : Df K mg "written_right" f fd ["right"]) (T : Tbs K w mg aF aS aC)
    (DB : Df K mg "_bracketed" fb db ["words"]) (GB : FnOk P w K mg base CX0 1 fb db ["words"] (spBr K)) (DK : Df K mg "_written_kind" fk dk ["kind"]) (GK : FnOk P w K mg base CX0 1 fk dk ["kind"] spWk)
    (DV : Df K mg "written_worth" fv dv ["worth"]) (GV : FnOk P w K mg base CX0 1 fv dv ["worth"] spWw) (ms : mg "str" = none) (mz : mg "zip" = none) : ∀ n, FnOk P w K mg base CX0 (n + 3) f fd ["right"] (spWr n)
  | 0 => ⟨fun _ _ _ _ ⟨_, _, _, _, _, h, _⟩ => absurd h (Nat.not_lt_zero _), fun _ _ _ _ _ _ _ _ _ _ _ _ _ ⟨_, _, _, _, _, h, _⟩ => absurd h (Nat.not_lt_zero _)⟩
  | n + 1 => by
    have GW := ok_wr F DW T DB GB DK GK DV GV ms mz n
    obtain ⟨tf, DF, FF⟩ := T.tF
    obtain ⟨ts, DS, FS⟩ := T.tS
    refine F.ok scWr (fun vs H Q E h => ?_) (fun cdv A outer s H vs Q E hr h => ?_)
    · obtain ⟨x, d, rfl, _⟩ := h
      rfl
    · obtain ⟨x, d, rfl, da, ht, hd, hl, q⟩ := h
      have hr1 := hr.mono (by omega : 1 ≤ n + 3)
      refine ⟨_, (pss_cons (ps_set (i := 1) scWr.nd rfl (Or.inl rfl) (pe_lst (pa_cons (pe_ix ix_tup (pv 0) pe_int (fun _ _ => rfl)) pa_nil)))
        (pss_cons (ps_for PassesOwn.never rfl (RZ.pi_zipA (by rfl) mz (pa_cons (pe_ix (ix_dct DF) (pe_glob (v := .ref aF) (by rfl) T.gF rfl) (pe_ix ix_tup (pv 0) pe_int (fun _ _ => rfl)) (fun _ _ => rfl)) (pa_cons (pe_slice sl_tupA (pv 0) (po_some pe_int) po_none) pa_nil))) (pg_tup rfl (pgs_cons (pg_name (i := 2) scWr.nd rfl (Or.inl rfl)) (pgs_cons (pg_name (i := 3) scWr.nd rfl (Or.inl rfl)) pgs_nil))) (pss_one (ps_if (pt_cmpR op_eq (pv 2) pe_str (nomark _)) (pss_one (ps_expr (pe_bm PySem.F.plainAttrs_list PySem.F.slot_list_append PySem.F.type_list_append mt_append (pv 1) (pa_cons (pe_call GW hr (by rfl) DW.at_ DW.kp DW.bd .nil pass0 (pa_cons (pv 3) pa_nil)) pa_nil)))) (pss_one (ps_if (pt_cmpR op_eq (pv 2) pe_str (nomark _)) (pss_one (ps_expr (pe_bm PySem.F.plainAttrs_list PySem.F.slot_list_extend PySem.F.type_list_extend mt_extend (pv 1) (pa_cons (pe_lc (own := [("term", 4)]) (g := gName 4) (tt := tYes) rfl scWr.nd (pi_tup (pv 3)) (blkOk_by (N := nWr) (sc := defScope sWRight) (by decide +kernel)) (fun _ _ _ _ _ => pg_name (i := 4) scWr.nd rfl (Or.inl rfl)) (fun _ _ _ _ _ => pts_nil) (fun _ _ _ _ _ => (pe_call GW hr (by rfl) DW.at_ DW.kp DW.bd .nil pass0 (pa_cons (pv 4) pa_nil)))) pa_nil)))) (pss_one (ps_if (pt_cmpR (op_in_dct DS) (pv 2) (pe_glob (v := .ref aS) (by rfl) T.gS rfl) (by rfl)) (pss_one (ps_expr (pe_bm PySem.F.plainAttrs_list PySem.F.slot_list_append PySem.F.type_list_append mt_append (pv 1) (pa_cons (pe_call GB hr1 (by rfl) DB.at_ DB.kp DB.bd .nil pass0 (pa_cons (pe_lc (own := [("term", 4)]) (g := gName 4) (tt := tYes) rfl scWr.nd (pi_tup (pv 3)) (blkOk_by (N := nWr) (sc := defScope sWRight) (by decide +kernel)) (fun _ _ _ _ _ => pg_name (i := 4) scWr.nd rfl (Or.inl rfl)) (fun _ _ _ _ _ => pts_nil) (fun _ _ _ _ _ => (pe_call GW hr (by rfl) DW.at_ DW.kp DW.bd .nil pass0 (pa_cons (pv 4) pa_nil)))) pa_nil)) pa_nil)))) (pss_one (ps_if (pt_cmpR op_eq (pv 2) pe_str (nomark _)) (pss_one (ps_expr (pe_bm PySem.F.plainAttrs_list PySem.F.slot_list_append PySem.F.type_list_append mt_append (pv 1) (pa_cons (pe_call GK hr1 (by rfl) DK.at_ DK.kp DK.bd .nil pass0 (pa_cons (pv 3) pa_nil)) pa_nil)))) (pss_one (ps_if (pt_cmpR op_eq (pv 2) pe_str (nomark _)) (pss_one (ps_expr (pe_bm PySem.F.plainAttrs_list PySem.F.slot_list_append PySem.F.type_list_append mt_append (pv 1) (pa_cons (pe_call GV hr1 (by rfl) DV.at_ DV.kp DV.bd .nil pass0 (pa_cons (pv 3) pa_nil)) pa_nil)))) (pss_one (ps_expr (pe_bm PySem.F.plainAttrs_list PySem.F.slot_list_append PySem.F.type_list_append mt_append (pv 1) (pa_cons (pe_ifExp (pt_cmpR op_isN (pv 3) pe_non (nomark _)) pe_str (pe_callTy (CallR.or call_str_int SkE.call_str_str) (by rfl) ms (by decide +kernel) (pa_cons (pv 3) pa_nil))) pa_nil)))))))))))))))
        (pss_one (ps_ret (pe_call GB hr1 (by rfl) DB.at_ DB.kp DB.bd .nil pass0 (pa_cons (pv 1) pa_nil)))))), ?_⟩
      have ht0 := ht
      rw [termD_eq, Bool.and_eq_true, Bool.and_eq_true] at ht0
      obtain ⟨⟨hf, hcall⟩, hin⟩ := ht0
      obtain ⟨c, rest, ss, rfl, e, hlr, hfit, hlit⟩ := formed_inv hf
      have nc : callS c = false := by
        have : callX (.tuple (.str c :: rest)) = callS c := rfl
        rw [this, Bool.not_eq_true'] at hcall
        exact hcall
      obtain ⟨fo, fw⟩ := form_of e nc
      have hwi : ∀ x ∈ (List.zipWith oneD ss rest).flatten, termD x = true := fun x m => by
        rw [← within_eq e] at m
        exact List.all_eq_true.mp hin x m
      obtain ⟨a, xs, rfl, hs, l, r⟩ := da.tup_inv
      have eT := textS_eq (rest := rest) e
      rw [eT] at q hl
      cases r with
      | @cons v vs d1 _ hv rv =>
        cases hv with
        | str _ hz =>
        have eF : lk c FMv = (lk c FM).map fun p => p.map V.str := lk_map (fun p : List Str => p.map V.str) c FM
        rw [e] at eF
        obtain ⟨b, lb, sb⟩ := FF.some eF
        have lv := rv.len
        have l4 := fm_len e
        have at0 : atI (V.str c :: vs) 0 = some (.str c) := atI_nat (j := 0) rfl
        refine ⟨_, rfl, a, _, 0, _, rfl, rfl, SqT.of hs, at0, by show 1 ≤ sizeLine; decide, fun W hW => ?_⟩
        have sW : Same H (upd H W (.lst [.str c])) := same_new hW
        have gW0 : (upd H W (.lst [.str c])) W = some (.lst [.str c]) := upd_same
        generalize upd H W (.lst [.str c]) = H0 at sW gW0
        refine ⟨_, rfl, a, _, 0, _, rfl, rfl, SqT.of (sW _ _ hs), at0, c, .ref b, rfl, rfl, lb, ?_⟩
        refine ⟨_, rfl, 1, rfl, a, _, rfl, SqT.of (sW _ _ hs), (fun z => absurd z (not_whole (k := 1) (by decide) (by simp))), fun _ t ht => ?_⟩
        have ec : cutV (V.str c :: vs) (some (1 : Int)) none = vs := cut_from (k := 1)
        rw [ec]
        have st : Same H0 (upd H0 t (.tup vs)) := same_new ht
        have zl : (ss.map V.str).length = vs.length := by rw [List.length_map, lv, hlr]
        have hfl : ∀ z ∈ (List.zipWith (pieceS textS) ss rest).flatten, z.length + 2 ≤ 100000 := fun z m => Nat.le_trans (brack_in m) hl
        have hcount : lenS (c :: (List.zipWith (pieceS textS) ss rest).flatten) + ((List.zipWith (pieceS textS) ss rest).flatten.length) ≤ 100000 := by
          rw [brack_len, List.length_cons] at hl
          omega
        refine ⟨b, t, ss.map V.str, vs, rfl, .inr ⟨sb _, SqT.of upd_same, RZ.for_zipT (K := K) (a := b) (b := t) zl
          (fun i σ H' => ∃ u2 u3 u4, σ = [some (.ref a), some (.ref W), u2, u3, u4] ∧ H' W = some (.lst ((c :: ((List.zipWith (pieceS textS) ss rest).take i).flatten).map V.str)) ∧ Same H H' ∧ H' t = some (.tup vs))
          ⟨_, _, _, rfl, st _ _ gW0, sW.trans st, upd_same⟩ (fun i σ H' pv => ?_) (fun i x y T' σ H' hx hy pv hT => ?_) fun σ H' pv => ?_⟩⟩
        · obtain ⟨u2, u3, u4, rfl, gW, _, gt⟩ := pv
          exact ⟨sb _, SqT.of gt⟩
        · obtain ⟨u2, u3, u4, rfl, gW, sx, gt⟩ := pv
          rw [List.getElem?_map] at hx
          cases hj : ss[i]? with
          | none => rw [hj] at hx; cases hx
          | some sl =>
            rw [hj] at hx
            cases hx
            obtain ⟨dy, hdy, day0⟩ := rv.get hy
            have hfy := all_zip hfit hj hdy
            have hsl := List.mem_of_getElem? hj
            have nTW : T' ≠ W := fun e => by rw [e, gW] at hT; cases hT
            have nTt : T' ≠ t := fun e => by rw [e, gt] at hT; cases hT
            have sT : Same H' (upd H' T' (.tup [.str sl, y])) := same_new hT
            have gW1 := sT _ _ gW
            have gt1 := sT _ _ gt
            have sx1 := sx.trans sT
            have gT1 : (upd H' T' (.tup [.str sl, y])) T' = some (.tup [.str sl, y]) := upd_same
            generalize upd H' T' (.tup [.str sl, y]) = H1 at gW1 gt1 sx1 gT1
            have day := Da.same sx1 _ _ day0
            have tk : ((List.zipWith (pieceS textS) ss rest).take (i + 1)).flatten = ((List.zipWith (pieceS textS) ss rest).take i).flatten ++ pieceS textS sl dy := by
              rw [List.take_add_one, zw_get (pieceS textS) hj hdy, List.flatten_append]
              show _ ++ [pieceS textS sl dy].flatten = _
              rw [List.flatten_cons, List.flatten_nil, List.append_nil]
            have ltk := flat_take (List.zipWith (pieceS textS) ss rest) i
            have ltk1 := flat_take (List.zipWith (pieceS textS) ss rest) (i + 1)
            have hpc : ∀ z ∈ pieceS textS sl dy, z.length + 2 ≤ 100000 := fun z m => hfl z (List.mem_flatten.mpr ⟨_, List.mem_of_getElem? (zw_get (pieceS textS) hj hdy), m⟩)
            have ntW : t ≠ W := fun e => by rw [e, gW1] at gt1; cases gt1
            have small : ∀ k, k ≤ ((List.zipWith (pieceS textS) ss rest).flatten).length + 1 → k < sizeLine := fun k hk => by rw [sizeLine_eq]; omega
            -- one piece more
            have one : ∀ {z : Str} {H2 : Hp}, pieceS textS sl dy = [z] → Same H1 H2 → H2 W = some (.lst ((c :: ((List.zipWith (pieceS textS) ss rest).take i).flatten).map V.str)) ∧ ((c :: ((List.zipWith (pieceS textS) ss rest).take i).flatten).map V.str).length < sizeLine ∧
                (upd H2 W (.lst ((c :: ((List.zipWith (pieceS textS) ss rest).take i).flatten).map V.str ++ [.str z]))) W = some (.lst ((c :: ((List.zipWith (pieceS textS) ss rest).take (i + 1)).flatten).map V.str)) ∧ Same H (upd H2 W (.lst ((c :: ((List.zipWith (pieceS textS) ss rest).take i).flatten).map V.str ++ [.str z]))) ∧ (upd H2 W (.lst ((c :: ((List.zipWith (pieceS textS) ss rest).take i).flatten).map V.str ++ [.str z]))) t = some (.tup vs) := by
              intro z H2 ep s2
              refine ⟨s2 _ _ gW1, small _ (by rw [List.length_map, List.length_cons]; omega), ?_, fun b o eb => ?_, ?_⟩
              · rw [upd_same, tk, ep, ← List.cons_append, List.map_append]
                rfl
              · rw [upd_ne (ne_of_none eb hW)]
                exact s2 _ _ (sx1 _ _ eb)
              · rw [upd_ne ntW]
                exact s2 _ _ gt1
            have lW1 : tyV K "list" (.ref W) H1 := .inl ⟨rfl, _, SqL.of gW1⟩
            have e0 : pieceS textS sl dy = if decide (V.str sl = V.str "term") = true then [textS dy] else if decide (V.str sl = V.str "parts") = true then (insideD dy).map textS else match lk sl ST with
              | some _ => [brack ((insideD dy).map textS)]
              | none => if decide (V.str sl = V.str "kind") = true then [wKind dy] else if decide (V.str sl = V.str "worth") = true then [wWorth dy] else [otherS dy] := rfl
            have dlt : dpt dy < dpt (.tuple (.str c :: rest)) := dpt_in (List.mem_of_getElem? hdy)
            refine ⟨T', _, rfl, SqT.of gT1, rfl, _, _, rfl, _, _, rfl, rfl, ?_⟩
            refine ⟨_, rfl, rfl, _, rfl, ite2 (fun h1 => ?_) (fun h1 => ?_)⟩
            · rw [if_pos h1] at e0
              have es : sl = "term" := V.str.inj (of_decide_eq_true h1)
              have tdy : termD dy = true := by
                refine hwi dy (flat_zip hj hdy ?_)
                rw [es]
                show dy ∈ oneD "term" dy
                have : oneD "term" dy = [dy] := rfl
                rw [this]
                exact List.mem_singleton.mpr rfl
              have hz1 := hpc (textS dy) (by rw [e0]; exact List.mem_singleton.mpr rfl)
              refine ⟨_, rfl, lW1, _, rfl, y, dy, rfl, day, tdy, by omega, by omega, fun H2 s2 => ?_⟩
              obtain ⟨o1, o2, o3, o4, o5⟩ := one e0 s2
              exact ⟨W, _, _, rfl, rfl, o1, o2, _, _, _, rfl, o3, o4, o5⟩
            rw [if_neg h1] at e0
            refine ⟨_, rfl, rfl, _, rfl, ite2 (fun h2 => ?_) (fun h2 => ?_)⟩
            · rw [if_pos h2] at e0
              have es : sl = "parts" := V.str.inj (of_decide_eq_true h2)
              rw [es] at hfy
              obtain ⟨ds, rfl⟩ := range_inv (lo := 2) (hi := 4) hfy
              have hin2 : ∀ x ∈ ds, termD x = true := fun x m => by
                refine hwi x (flat_zip hj hdy ?_)
                rw [es]
                exact m
              obtain ⟨ta, ys, rfl, hts, lts, rts⟩ := day.tup_inv
              have lys := rts.len
              have hz1 : ∀ x ∈ ds, (textS x).length + 2 ≤ 100000 := fun x m => hpc (textS x) (by rw [e0]; exact List.mem_map.mpr ⟨x, m, rfl⟩)
              refine ⟨_, rfl, lW1, _, rfl, ta, rfl, ⟨ys, SqT.of hts⟩, fun D hD => lc_tup (K := K) (a := ta) (xs := ys) (fun j Hc => Same H1 Hc ∧ Hc D = some (.lst (((ds.take j).map textS).map V.str))) ⟨same_new hD, upd_same⟩
                (fun j Hc _ pv => SqT.of (pv.1 _ _ hts)) (fun j v Hc hv pv => ?_) fun Hc pv => ?_⟩
              · obtain ⟨sc, gD⟩ := pv
                obtain ⟨dv, edv, hdv⟩ := rts.get hv
                have mdv := List.mem_of_getElem? edv
                have hzd := hz1 dv mdv
                have dd : dpt dv < dpt (.tuple ds) := dpt_inside (d := .tuple ds) mdv
                refine ⟨rfl, _, rfl, v, dv, rfl, Da.same sc _ _ hdv, hin2 dv mdv, by omega, by omega, fun H2 s2 => ⟨_, s2 _ _ gD, ?_, fun b o eb => ?_, ?_⟩⟩
                · have := (List.getElem?_eq_some_iff.mp edv).1
                  rw [List.length_map, List.length_map, List.length_take, sizeLine_eq]
                  omega
                · rw [upd_ne (ne_of_none eb hD)]
                  exact s2 _ _ (sc _ _ eb)
                · rw [upd_same, List.take_add_one, edv, List.map_append, List.map_append]
                  rfl
              · obtain ⟨sc, gD⟩ := pv
                rw [lys, List.take_length] at gD
                have etot : ((List.zipWith (pieceS textS) ss rest).take (i + 1)).flatten.length = ((List.zipWith (pieceS textS) ss rest).take i).flatten.length + ds.length := by
                  rw [tk, List.length_append, e0, List.length_map]
                  rfl
                refine ⟨W, D, _, _, rfl, rfl, sc _ _ gW1, gD, by rw [List.length_map, List.length_map, List.length_cons, List.length_map, sizeLine_eq]; omega, _, _, _, rfl, ?_, fun b o eb => ?_, ?_⟩
                · rw [upd_same, tk, e0, ← List.cons_append, List.map_append]
                  rfl
                · rw [upd_ne (ne_of_none eb hW)]
                  exact sc _ _ (sx1 _ _ eb)
                · rw [upd_ne ntW]
                  exact sc _ _ gt1
            rw [if_neg h2] at e0
            have hs8 : sl ∈ SLT := by
              rcases fo with fo | fo
              · exfalso
                rw [fo] at hsl
                exact h2 (decide_eq_true (by rw [List.mem_singleton.mp hsl]))
              · exact fo sl hsl
            have eS : lk sl ST = none := by
              have : ∀ s ∈ SLT, lk s ST = none := by decide +kernel
              exact this sl hs8
            rw [eS] at e0
            have eSv : lk sl STv = (lk sl ST).map _ := lk_map (fun p : Int × Int => [V.int p.1, V.int p.2]) sl ST
            rw [eS] at eSv
            refine ⟨_, rfl, sl, rfl, rfl, _, rfl, iteN (by rw [FS.none eSv]; rfl) ?_⟩
            refine ⟨_, rfl, rfl, _, rfl, ite2 (fun h3 => ?_) (fun h3 => ?_)⟩
            · have e0 : pieceS textS sl dy = if decide (V.str sl = V.str "kind") = true then [wKind dy] else if decide (V.str sl = V.str "worth") = true then [wWorth dy] else [otherS dy] := e0
              rw [if_pos h3] at e0
              have es : sl = "kind" := V.str.inj (of_decide_eq_true h3)
              rw [es] at hfy
              refine ⟨_, rfl, lW1, _, rfl, y, dy, rfl, day, ?_, ?_⟩
              · rcases kind_inv (d := dy) hfy with ⟨z, ez, z1, z8⟩ | ⟨m, z, ez, m2, m4, z1, z8⟩
                · exact .inl ⟨z, ez, by omega, by omega⟩
                · exact .inr ⟨m, z, ez, ⟨by omega, by omega⟩, by omega, by omega⟩
              · obtain ⟨o1, o2, o3, o4, o5⟩ := one e0 (Same.refl H1)
                exact ⟨W, _, _, rfl, rfl, o1, o2, _, _, _, rfl, o3, o4, o5⟩
            have e0 : pieceS textS sl dy = if decide (V.str sl = V.str "kind") = true then [wKind dy] else if decide (V.str sl = V.str "worth") = true then [wWorth dy] else [otherS dy] := e0
            rw [if_neg h3] at e0
            refine ⟨_, rfl, rfl, _, rfl, ite2 (fun h4 => ?_) (fun h4 => ?_)⟩
            · rw [if_pos h4] at e0
              have es : sl = "worth" := V.str.inj (of_decide_eq_true h4)
              obtain ⟨k, hk, hx⟩ := lit_worth hlr hfit hlit fw hj hdy es
              refine ⟨_, rfl, lW1, _, rfl, y, dy, rfl, day, ?_, fun H2 s2 => ?_⟩
              · rcases worth_inv hk hx with ⟨z, ez, z0, z1⟩ | ⟨is, ez, l2, l4, hi⟩
                · exact .inl ⟨z, ez, by omega, by omega⟩
                · exact .inr ⟨is, ez, by omega, fun j m => ⟨(hi j m).1, by have := (hi j m).2; omega⟩⟩
              · obtain ⟨o1, o2, o3, o4, o5⟩ := one e0 s2
                exact ⟨W, _, _, rfl, rfl, o1, o2, _, _, _, rfl, o3, o4, o5⟩
            rw [if_neg h4] at e0
            have hdy2 : (∃ z, dy = .str z) ∨ ∃ i : Int, dy = .int i ∧ 0 ≤ i ∧ i ≤ 8 := by
              have num : ∀ {lo hi : Int}, 0 ≤ lo → hi ≤ 8 → wholeD dy lo hi = true → ∃ i : Int, dy = .int i ∧ 0 ≤ i ∧ i ≤ 8 := fun h0 h8 h => by
                obtain ⟨i, e, a, b⟩ := whole_inv h
                exact ⟨i, e, by omega, by omega⟩
              have hs8' : sl ∈ (["kind", "worth", "name", "term", "width", "bit", "truth", "place"] : List Str) := hs8
              simp only [List.mem_cons, List.not_mem_nil, or_false] at hs8'
              rcases hs8' with rfl | rfl | rfl | rfl | rfl | rfl | rfl | rfl
              · exact absurd (decide_eq_true rfl) h3
              · exact absurd (decide_eq_true rfl) h4
              · have hfy : nameD dy = true := hfy
                cases dy with
                | str z => exact .inl ⟨z, rfl⟩
                | _ => cases hfy
              · exact absurd (decide_eq_true rfl) h1
              · exact .inr (num (lo := 1) (hi := 8) (by decide) (by decide) hfy)
              · exact .inr (num (lo := 0) (hi := 7) (by decide) (by decide) hfy)
              · exact .inr (num (lo := 0) (hi := 1) (by decide) (by decide) hfy)
              · exact .inr (num (lo := 0) (hi := 3) (by decide) (by decide) hfy)
            obtain ⟨o1, o2, o3, o4, o5⟩ := one e0 (Same.refl H1)
            rcases hdy2 with ⟨z, rfl⟩ | ⟨i', rfl, i0, i8⟩
            · cases day
              exact ⟨_, rfl, lW1, _, rfl, rfl, _, rfl, iteF ⟨_, rfl, .inr ⟨z, rfl, W, _, _, rfl, rfl, o1, o2, _, _, _, rfl, o3, o4, o5⟩⟩⟩
            · cases day
              exact ⟨_, rfl, lW1, _, rfl, rfl, _, rfl, iteF ⟨_, rfl, .inl ⟨i', rfl, int_log i0 (by omega), W, _, _, rfl, rfl, o1, o2, _, _, _, rfl, o3, o4, o5⟩⟩⟩
        · obtain ⟨u2, u3, u4, rfl, gW, sx, gt⟩ := pv
          rw [List.length_map] at gW
          have lz2 : (List.zipWith (pieceS textS) ss rest).length = ss.length := by rw [List.length_zipWith, hlr, Nat.min_self]
          rw [← lz2, List.take_length] at gW
          refine ⟨_, rfl, W, _, rfl, SqL.of gW, ?_, q _ sx⟩
          have e1 : lenS (c :: (List.zipWith (pieceS textS) ss rest).flatten) + ((List.zipWith (pieceS textS) ss rest).flatten.length) ≤ 100000 := hcount
          show lenS (c :: (List.zipWith (pieceS textS) ss rest).flatten) + (c :: (List.zipWith (pieceS textS) ss rest).flatten).length ≤ 1000000
          rw [List.length_cons]
          omega
/-! ### term_text -/
def spTText (cT : Addr) : Sp := fun vs H Q E => ∃ (x : V) (d : PyData), vs = [x] ∧ Da H x d ∧ sz d ≤ 900000 ∧ ((termD d = false ∧ Refuses cT x H E) ∨ (termD d = true ∧ dpt d < 20 ∧ (textS d).length ≤ 100000 ∧ ∀ H', Same H H' → Q (.str (textS d)) H'))
theorem scTT : FnScope ["term"] ["term"] (defScope sTText) := ⟨rfl, rfl, rfl, by decide +kernel, rfl, by decide +kernel, by decide +kernel⟩
theorem ok_tt {f fw fi cT fT : Addr} {fd dw di fdT : FuncData} (F : Fun K "term_text" "term_text" sTText f fd) (TT : ExT K mg "NoTerm" cT fT fdT) (GT : FnOk P w K mg base CX0 3 fT fdT ["self", "found"] (spInit K cT))
    (DW : Df K mg "written_right" fw dw ["right"]) (GW : FnOk P w K mg base CX0 23 fw dw ["right"] (spWr 20)) (DI : Df K mg "is_term" fi di ["thing"]) (GI : FnOk P w K mg base CX0 8 fi di ["thing"] spIsTerm) :
    FnOk P w K mg base (CXL P w) 24 f fd ["term"] (spTText cT) := by
  refine F.okX scTT (fun vs H Q E h => ?_) (fun cdv A outer s H vs Q E hr h => ?_)
  · obtain ⟨x, d, rfl, _⟩ := h
    rfl
  · obtain ⟨x, d, rfl, da, hz, q⟩ := h
    have hr8 := hr.mono (by decide : 8 ≤ 23)
    have hr4 := hr.mono (by decide : 4 ≤ 23)
    refine ⟨_, pss_cons (ps_if (pt_not (pt_val (pe_call GI hr8 (by rfl) DI.at_ DI.kp DI.bd .nil pass0 (pa_cons (pv 0) pa_nil)))) (pss_one (ps_raise rfl (takes_of rfl rfl rfl rfl) (pmk_oex TT.ox TT.iC TT.tI GT hr4 TT.bd .nil pass0 (by rfl) TT.gC (pa_cons (pv 0) pa_nil)))) pss_nil)
      (pss_one (ps_ret (pe_call GW hr (by rfl) DW.at_ DW.kp DW.bd .nil pass0 (pa_cons (pv 0) pa_nil)))), ?_⟩
    refine ⟨_, rfl, x, d, rfl, da, hz, fun H1 s1 => ⟨_, rfl, ?_⟩⟩
    rcases q with ⟨e, q⟩ | ⟨e, hd, hl, q⟩
    · rw [e]
      exact iteT ⟨_, rfl, raise_reads (refuses_later q s1)⟩
    · rw [e]
      exact iteF ⟨_, rfl, x, d, rfl, Da.same s1 _ _ da, e, hd, hl, fun H2 s2 => q _ (s1.trans s2)⟩
end
end K7
end Bf

namespace Bf
open PySem PySem.Spec PyProof.Rows L2
/-- the law's purse: a list of three numbers -/
def Purse (H : Hp) (p : Addr) (n : Int) : Prop := ∃ x y z : Int, H p = some (.lst [.int x, .int y, .int z]) ∧ 0 ≤ y ∧ y < 2147483629 ∧ 0 ≤ z ∧ z ≤ n
theorem Purse.mono {H : Hp} {p : Addr} {n m : Int} (h : Purse H p n) (l : n ≤ m) : Purse H p m := let ⟨x, y, z, a, b, c, d, e⟩ := h; ⟨x, y, z, a, b, c, d, Int.le_trans e l⟩
theorem Purse.of {H H' : Hp} {p : Addr} {n : Int} (h : Purse H p n) (e : H' p = H p) : Purse H' p n := let ⟨x, y, z, a, b⟩ := h; ⟨x, y, z, e.trans a, b⟩
/-- all that was tracked, but at p, is as it was -/
def SameX (p : Addr) (H H' : Hp) : Prop := ∀ b o, b ≠ p → H b = some o → H' b = some o
def spCell (K : PySem.W.Frag) : Sp := fun vs H Q _ => ∃ (a : Addr) (ns : List Int) (i : Int), vs = [.ref a, .int i] ∧ SqL K H a (ns.map V.int) ∧ 0 ≤ i ∧ i ≤ 100 ∧ ∀ z, Q (.int z) H
def spPurse : Sp := fun vs H Q _ => ∃ z : Int, vs = [.int z] ∧ ∀ p H', H p = none → p ≠ sysModules → (∀ b, b ≠ p → H' b = H b) → Purse H' p 0 → Q (.ref p) H'
def spTake : Sp := fun vs H Q _ => ∃ (p : Addr) (m n : Int), vs = [.ref p, .int m] ∧ Purse H p n ∧ n ≤ 100000 ∧ 0 < m ∧ m < 1000000 ∧ ∀ d H', 0 ≤ d → d < m → Purse H' p (n + 1) → (∀ b, b ≠ p → H' b = H b) → Q (.int d) H'

namespace K7
abbrev sBox : Stmt := top 48
abbrev sLTerm : Stmt := top 53
abbrev sLText : Stmt := top 54
abbrev sBlanks : Stmt := top 55
abbrev sSpoilt : Stmt := top 56
abbrev sNearly : Stmt := top 57
abbrev sCaught : Stmt := top 58
abbrev sOdd : Stmt := top 59
section
variable {P : Program} {w : World} {K : PySem.W.Frag} {mg : Str → Option Value} {base : Heap}
theorem scCell : FnScope ["_law_script", "_law_k"] ["_law_script", "_law_k"] (defScope sCell) := ⟨rfl, rfl, rfl, by decide +kernel, rfl, by decide +kernel, by decide +kernel⟩
theorem ok_cell {f : Addr} {fd : FuncData} (F : Fun K "_law_cell" "_law_cell" sCell f fd) (ml : mg "len" = none) : FnOk P w K mg base CX0 1 f fd ["_law_script", "_law_k"] (spCell K) := by
  refine F.ok scCell (fun vs H Q E h => ?_) (fun cdv A outer s H vs Q E hr h => ?_)
  · obtain ⟨a, ns, i, rfl, _⟩ := h
    rfl
  · obtain ⟨a, ns, i, rfl, hS, h0, h1, q⟩ := h
    refine ⟨_, pss_cons (ps_if (pt_cmpR op_lt (pv 1) (pe_callB call_len_seq (by rfl) ml PySem.boot_len (pa_cons (pv 0) pa_nil)) (nomark _)) (pss_one (ps_ret (pe_ix ix_list (pv 0) (pv 1) (fun _ _ => rfl)))) pss_nil)
      (pss_one (ps_ret (pe_op op_add (pe_op op_mul pe_int (pv 1)) pe_int))), ?_⟩
    refine ⟨_, rfl, _, rfl, a, _, rfl, .inl hS, _, _, rfl, rfl, _, rfl, ite2 (fun c => ?_) (fun c => ?_)⟩
    · have lt : i < (((ns.map V.int).length : Nat) : Int) := of_decide_eq_true c
      rw [List.length_map] at lt
      have lt' : i.toNat < ns.length := by omega
      refine ⟨_, rfl, _, rfl, a, _, i, .int ns[i.toNat], rfl, rfl, hS, ?_, q _⟩
      have e : atI (ns.map V.int) ((i.toNat : Nat) : Int) = some (V.int ns[i.toNat]) := atI_nat (by rw [List.getElem?_map, List.getElem?_eq_getElem lt']; rfl)
      rw [← e]
      congr 1
      omega
    · exact ⟨_, rfl, _, _, rfl, rfl, .inl ⟨by decide, by decide⟩, _, _, rfl, rfl, q _⟩
theorem scPurse : FnScope ["_law_cell_here"] ["_law_cell_here"] (defScope sBox) := ⟨rfl, rfl, rfl, by decide +kernel, rfl, by decide +kernel, by decide +kernel⟩
theorem ok_purse {f : Addr} {fd : FuncData} (F : Fun K "_law_box" "_law_box" sBox f fd) (mx : mg "max" = none) : FnOk P w K mg base CX0 1 f fd ["_law_cell_here"] spPurse := by
  refine F.ok scPurse (fun vs H Q E h => ?_) (fun cdv A outer s H vs Q E hr h => ?_)
  · obtain ⟨z, rfl, _⟩ := h
    rfl
  · obtain ⟨z, rfl, q⟩ := h
    refine ⟨_, pss_one (ps_ret (pe_lstN (pa_cons (pe_callB (call_max2 rfl) (by rfl) mx (by decide +kernel) (pa_cons pe_int (pa_cons (pe_op op_sub (pv 0) (pe_op op_pow pe_int pe_int)) pa_nil)))
      (pa_cons (pe_op op_mod (pv 0) pe_int) (pa_cons pe_int pa_nil))))), ?_⟩
    refine ⟨_, rfl, _, _, rfl, rfl, ⟨by decide, by decide, by decide⟩, _, _, rfl, rfl, _, _, rfl, _, rfl, _, _, rfl, rfl, (by show (0 : Int) < 2147483629; decide), by show 3 ≤ 1000; decide, fun p hp np => ?_⟩
    refine q p _ hp np (fun b hb => upd_ne hb) ⟨_, _, _, upd_same, Int.emod_nonneg _ (by decide), Int.emod_lt_of_pos _ (by decide), Int.le_refl _, Int.le_refl _⟩
theorem scTake : FnScope ["_law_box_here", "_law_many", "_law_digit", "_law_mixed"] ["_law_box_here", "_law_many"] (defScope sTake) := ⟨rfl, rfl, rfl, by decide +kernel, rfl, by decide +kernel, by decide +kernel⟩
theorem ok_take {f : Addr} {fd : FuncData} (F : Fun K "_law_take" "_law_take" sTake f fd) : FnOk P w K mg base CX0 1 f fd ["_law_box_here", "_law_many"] spTake := by
  refine F.ok scTake (fun vs H Q E h => ?_) (fun cdv A outer s H vs Q E hr h => ?_)
  · obtain ⟨p, m, n, rfl, _⟩ := h
    rfl
  · obtain ⟨p, m, n, rfl, ⟨x, y, z, hp, y0, y1, z0, z1⟩, n1, m0, m1, q⟩ := h
    refine ⟨_, pss_cons (ps_if (pt_cmpR op_gt (pe_ix ix_list (pv 0) pe_int (fun _ _ => rfl)) pe_int (nomark _))
        (pss_cons (ps_set (i := 2) scTake.nd rfl (Or.inl rfl) (pe_op op_mod (pe_ix ix_list (pv 0) pe_int (fun _ _ => rfl)) (pv 1)))
        (pss_cons (ps_asg (pe_op op_fdiv (pe_ix ix_list (pv 0) pe_int (fun _ _ => rfl)) (pv 1)) (pg_sub (pv 0) pe_int set_list)) (pss_one (ps_ret (pv 2))))) pss_nil)
      (pss_cons (ps_asg (pe_op op_add (pe_ix ix_list (pv 0) pe_int (fun _ _ => rfl)) pe_int) (pg_sub (pv 0) pe_int set_list))
      (pss_cons (ps_set (i := 3) scTake.nd rfl (Or.inl rfl) (pe_op op_mod (pe_op op_pow (pe_op op_add (pe_op op_add (pe_ix ix_list (pv 0) pe_int (fun _ _ => rfl)) (pe_op op_mul pe_int (pe_ix ix_list (pv 0) pe_int (fun _ _ => rfl)))) pe_int) pe_int) pe_int))
      (pss_cons (ps_set (i := 3) scTake.nd rfl (Or.inl rfl) (pe_op op_mod (pe_op op_pow (pe_op op_add (pv 3) (pe_op op_mul pe_int (pe_ix ix_list (pv 0) pe_int (fun _ _ => rfl)))) pe_int) pe_int))
      (pss_one (ps_ret (pe_op op_mod (pe_op op_fdiv (pv 3) pe_int) (pv 1))))))), ?_⟩
    have L := SqL.of (K := K) hp
    refine ⟨_, rfl, p, _, 0, _, rfl, rfl, L, rfl, _, _, rfl, rfl, _, rfl, ite2 (fun _ => ?_) (fun _ => ?_)⟩
    · refine ⟨_, rfl, p, _, 0, _, rfl, rfl, L, rfl, _, rfl, _, _, rfl, rfl, m0, ?_⟩
      refine ⟨_, rfl, p, _, 0, _, rfl, rfl, L, rfl, _, rfl, _, _, rfl, rfl, ⟨m0, by omega⟩, _, rfl, p, _, 0, 0, rfl, rfl, hp, rfl, ?_⟩
      exact ⟨_, rfl, q _ _ (Int.emod_nonneg _ (by omega)) (Int.emod_lt_of_pos _ m0) ⟨_, _, _, upd_same, y0, y1, z0, by omega⟩ fun b hb => upd_ne hb⟩
    · refine ⟨_, rfl, p, _, 2, _, rfl, rfl, L, rfl, _, _, rfl, rfl, _, rfl, p, _, 2, 2, rfl, rfl, hp, rfl, ?_⟩
      have L2 : SqL K (upd H p (.lst [.int x, .int y, .int (z + 1)])) p [.int x, .int y, .int (z + 1)] := SqL.of upd_same
      have b1 : (y + 7411 * (z + 1) + 127).natAbs < 2 ^ 64 := by omega
      have b2 : ∀ u : Int, ((u ^ (5 : Int).toNat % 2147483647) + 104729 * (z + 1)).natAbs < 2 ^ 64 := fun u => by
        have h1 := Int.emod_nonneg (u ^ (5 : Int).toNat) (show (2147483647 : Int) ≠ 0 by decide)
        have h2 := Int.emod_lt_of_pos (u ^ (5 : Int).toNat) (show (0 : Int) < 2147483647 by decide)
        omega
      refine ⟨_, rfl, p, _, 1, _, rfl, rfl, L2, rfl, _, rfl, p, _, 2, _, rfl, rfl, L2, rfl, _, _, rfl, rfl, .inl ⟨by decide, by decide⟩, _, _, rfl, rfl, _, _, rfl, rfl, _, _, rfl, rfl, ⟨by decide, by decide, b1⟩, _, _, rfl, rfl, (by show (0 : Int) < 2147483647; decide), ?_⟩
      refine ⟨_, rfl, _, rfl, p, _, 2, _, rfl, rfl, L2, rfl, _, _, rfl, rfl, .inl ⟨by decide, by decide⟩, _, _, rfl, rfl, _, _, rfl, rfl, ⟨by decide, by decide, b2 _⟩, _, _, rfl, rfl, (by show (0 : Int) < 2147483587; decide), ?_⟩
      refine ⟨_, rfl, _, _, rfl, rfl, ⟨by decide, by decide⟩, _, rfl, _, _, rfl, rfl, m0, ?_⟩
      exact q _ _ (Int.emod_nonneg _ (by omega)) (Int.emod_lt_of_pos _ m0) ⟨_, _, _, upd_same, y0, y1, by omega, by omega⟩ fun b hb => upd_ne hb
end
/-! ### data of bounded size -/
def strOk (z : Str) : Bool := (z.cps.toList.all fun c => decide (c < 16 ^ 8)) && decide (z.cps.size ≤ 40)
def intOk (i : Int) : Prop := i.natAbs < 10 ^ 12 ∨ i = 10 ^ 29
/-- nested at most k deep, at most w things each -/
def fit (w : Nat) : Nat → PyData → Prop
  | _, .none => True
  | _, .bool _ => True
  | _, .int i => intOk i
  | _, .str z => strOk z = true
  | k + 1, .list ds => ds.length ≤ w ∧ ∀ d ∈ ds, fit w k d
  | k + 1, .tuple ds => ds.length ≤ w ∧ ∀ d ∈ ds, fit w k d
  | _ + 1, .dict kv => kv = []
  | 0, .list _ => False
  | 0, .tuple _ => False
  | 0, .dict _ => False
theorem fit_tup {w k : Nat} {ds : List PyData} : fit w (k + 1) (.tuple ds) ↔ ds.length ≤ w ∧ ∀ d ∈ ds, fit w k d := by rw [fit]
theorem fit_lst {w k : Nat} {ds : List PyData} : fit w (k + 1) (.list ds) ↔ ds.length ≤ w ∧ ∀ d ∈ ds, fit w k d := by rw [fit]
theorem fit_mono {w w' : Nat} (hw : w ≤ w') : ∀ {k k' : Nat} (d : PyData), k ≤ k' → fit w k d → fit w' k' d
  | k, k', .none, _, _ => by cases k' <;> simp only [fit]
  | k, k', .bool _, _, _ => by cases k' <;> simp only [fit]
  | k, k', .int i, _, h => by
    have h' : intOk i := by cases k <;> simpa only [fit] using h
    cases k' <;> simpa only [fit] using h'
  | k, k', .str z, _, h => by
    have h' : strOk z = true := by cases k <;> simpa only [fit] using h
    cases k' <;> simpa only [fit] using h'
  | 0, _, .list _, _, h => by simp only [fit] at h
  | 0, _, .tuple _, _, h => by simp only [fit] at h
  | 0, _, .dict _, _, h => by simp only [fit] at h
  | k + 1, 0, _, hk, _ => absurd hk (by omega)
  | k + 1, k' + 1, .list ds, hk, h => by
    obtain ⟨a, b⟩ := fit_lst.mp h
    exact fit_lst.mpr ⟨Nat.le_trans a hw, fun d m => fit_mono hw d (Nat.le_of_succ_le_succ hk) (b d m)⟩
  | k + 1, k' + 1, .tuple ds, hk, h => by
    obtain ⟨a, b⟩ := fit_tup.mp h
    exact fit_tup.mpr ⟨Nat.le_trans a hw, fun d m => fit_mono hw d (Nat.le_of_succ_le_succ hk) (b d m)⟩
  | k + 1, k' + 1, .dict kv, hk, h => by
    simp only [fit] at h ⊢
    exact h
theorem fit_int {w k : Nat} {i : Int} : fit w k (.int i) ↔ intOk i := by cases k <;> simp only [fit]
theorem fit_str {w k : Nat} {z : Str} : fit w k (.str z) ↔ strOk z = true := by cases k <;> simp only [fit]
theorem fit_non {w k : Nat} : fit w k .none := by cases k <;> simp only [fit]
theorem fit_bl {w k : Nat} {b : Bool} : fit w k (.bool b) := by cases k <;> simp only [fit]
mutual
/-- no text that repr shows is longer -/
def sl : PyData → Nat
  | .none => 5
  | .bool _ => 6
  | .int i => (PyData.shown (.int i)).length + 1
  | .str z => 10 * z.cps.size + 3
  | .list ds => slA ds + 3
  | .tuple ds => slA ds + 3
  | .dict _ => 4
def slA : List PyData → Nat
  | [] => 0
  | d :: r => sl d + 2 + slA r
end
theorem sl_tup (ds : List PyData) : sl (.tuple ds) = slA ds + 3 := by simp only [sl]
theorem sl_lst (ds : List PyData) : sl (.list ds) = slA ds + 3 := by simp only [sl]
theorem slA_nil : slA [] = 0 := by simp only [slA]
theorem slA_cons (d : PyData) (r : List PyData) : slA (d :: r) = sl d + 2 + slA r := by simp only [slA]
theorem slA_app : ∀ a b : List PyData, slA (a ++ b) = slA a + slA b
  | [], b => by rw [List.nil_append, slA_nil, Nat.zero_add]
  | d :: r, b => by rw [List.cons_append, slA_cons, slA_cons, slA_app r b]; omega
theorem slA_le {n : Nat} : ∀ {l : List PyData}, (∀ d ∈ l, sl d ≤ n) → slA l ≤ (n + 2) * l.length
  | [], _ => by rw [slA_nil]; exact Nat.zero_le _
  | d :: r, h => by
    have h1 := h d List.mem_cons_self
    have h2 := slA_le (n := n) (l := r) fun x m => h x (List.mem_cons_of_mem _ m)
    rw [slA_cons, List.length_cons, Nat.mul_add]
    omega
theorem slA_mem {e : PyData} : ∀ {l : List PyData}, e ∈ l → sl e + 2 ≤ slA l
  | d :: r, m => by
    rw [slA_cons]
    rcases List.mem_cons.mp m with rfl | m
    · omega
    · have := slA_mem m; omega
theorem sl_int {i : Int} (h : i.natAbs < 10 ^ 12) : sl (.int i) ≤ 14 := by
  have := PyData.shown_int_le h
  simp only [sl]
  omega
mutual
theorem sz_sl : ∀ d : PyData, sz d ≤ sl d
  | .none => by simp only [sz, sl]; omega
  | .bool _ => by simp only [sz, sl]; omega
  | .int _ => by simp only [sz, sl]; omega
  | .str _ => by simp only [sz, sl]; omega
  | .list ds => by simp only [sz, sl]; have := szA_slA ds; omega
  | .tuple ds => by simp only [sz, sl]; have := szA_slA ds; omega
  | .dict _ => by simp only [sz, sl]; omega
theorem szA_slA : ∀ l : List PyData, szA l ≤ slA l
  | [] => by simp only [szA, slA]; omega
  | d :: r => by simp only [szA, slA]; have := sz_sl d; have := szA_slA r; omega
end

theorem showAll {w k : Nat} (ih : ∀ d, fit w k d → d.showable = true ∧ d.depth ≤ k ∧ d.shown.length ≤ sl d) : ∀ {ds : List PyData}, (∀ d ∈ ds, fit w k d) →
    PyData.showableAll ds = true ∧ PyData.depthAll ds ≤ k ∧ ((PyData.shownAll ds).map (·.length)).sum + 2 * ds.length ≤ slA ds
  | [], _ => ⟨by simp only [PyData.showableAll], by simp only [PyData.depthAll]; omega, by simp only [PyData.shownAll, List.map_nil, List.sum_nil, List.length_nil, slA]; omega⟩
  | d :: r, h => by
    obtain ⟨a1, a2, a3⟩ := ih d (h d List.mem_cons_self)
    obtain ⟨b1, b2, b3⟩ := showAll ih (ds := r) fun x m => h x (List.mem_cons_of_mem _ m)
    simp only [PyData.showableAll, PyData.depthAll, PyData.shownAll, List.map_cons, List.sum_cons, List.length_cons, slA, a1, b1, Bool.and_self]
    exact ⟨trivial, Nat.max_le.mpr ⟨a2, b2⟩, by omega⟩
theorem fit_shows {w : Nat} : ∀ {k : Nat} (d : PyData), fit w k d → d.showable = true ∧ d.depth ≤ k ∧ d.shown.length ≤ sl d
  | k, .none, _ => ⟨by simp only [PyData.showable], by simp only [PyData.depth]; omega, by show 4 ≤ sl .none; simp only [sl]; omega⟩
  | k, .bool b, _ => ⟨by simp only [PyData.showable], by simp only [PyData.depth]; omega, by
      have e : (PyData.shown (.bool b)).length ≤ 5 := by cases b <;> decide
      simp only [sl]; omega⟩
  | k, .int i, h => by
    refine ⟨?_, by simp only [PyData.depth]; omega, by simp only [sl]; omega⟩
    rcases fit_int.mp h with h | rfl
    · have l : i.natAbs.log2 ≤ 40 := by
        rcases Nat.eq_zero_or_pos i.natAbs with z | z
        · rw [z]; decide
        · exact Nat.le_of_lt_succ ((Nat.log2_lt (by omega)).mpr (Nat.lt_trans h (by decide)))
      simp only [PyData.showable]; exact decide_eq_true (by omega)
    · decide +kernel
  | k, .str z, h => by
    refine ⟨by simp only [PyData.showable], by simp only [PyData.depth]; omega, ?_⟩
    obtain ⟨a, b⟩ := Bool.and_eq_true_iff.mp (fit_str.mp h)
    have hx : ∀ c ∈ z.cps.toList, c < 16 ^ 8 := by simpa only [List.all_eq_true, decide_eq_true_eq] using a
    have e := StrLaws.reprText_len z hx
    have e2 : z.length = z.cps.size := rfl
    simp only [PyData.shown, sl]
    omega
  | 0, .list _, h => by simp only [fit] at h
  | 0, .tuple _, h => by simp only [fit] at h
  | 0, .dict _, h => by simp only [fit] at h
  | k + 1, .list ds, h => by
    obtain ⟨_, hd⟩ := fit_lst.mp h
    obtain ⟨a, b, c⟩ := showAll (fun d hd => fit_shows d hd) hd
    have h2 := listText_len_le (PyData.shownAll ds)
    have h3 := PyData.shownAll_length ds
    refine ⟨by simp only [PyData.showable]; exact a, by simp only [PyData.depth]; omega, ?_⟩
    simp only [PyData.shown, sl]
    omega
  | k + 1, .tuple ds, h => by
    obtain ⟨_, hd⟩ := fit_tup.mp h
    obtain ⟨a, b, c⟩ := showAll (fun d hd => fit_shows d hd) hd
    have h2 := tupleText_len_le (PyData.shownAll ds)
    have h3 := PyData.shownAll_length ds
    refine ⟨by simp only [PyData.showable]; exact a, by simp only [PyData.depth]; omega, ?_⟩
    simp only [PyData.shown, sl]
    omega
  | k + 1, .dict kv, h => by
    have e : kv = [] := by simpa only [fit] using h
    subst e
    refine ⟨?_, ?_, ?_⟩
    · simp only [PyData.showable, PyData.showableKv]
    · simp only [PyData.depth, PyData.depthKv]; omega
    · show (2 : Nat) ≤ sl (.dict []); simp only [sl]; omega
/-- tracked data are data -/
theorem sh_daAll {H : Hp} {P : Addr → Prop} {b : Bool} {w k : Nat} (ih : ∀ d v, fit w k d → Sh H P b v d → Da H v d) : ∀ {ds : List PyData} {vs : List V}, (∀ d ∈ ds, fit w k d) → ShAll H P b vs ds → DaAll H vs ds
  | [], _, _, h => by cases h; exact .nil
  | d :: r, _, hf, h => by
    cases h with
    | cons h1 h2 => exact .cons (ih d _ (hf d List.mem_cons_self) h1) (sh_daAll ih (fun x m => hf x (List.mem_cons_of_mem _ m)) h2)
theorem shLen {H : Hp} {P : Addr → Prop} {b : Bool} : ∀ {vs : List V} {ds : List PyData}, ShAll H P b vs ds → vs.length = ds.length
  | _, _, .nil => rfl
  | _, _, .cons _ r => congrArg (· + 1) (shLen r)
theorem sh_da {H : Hp} {P : Addr → Prop} {b : Bool} {w : Nat} (hw : w ≤ 1000) : ∀ {k : Nat} (d : PyData) (v : V), fit w k d → Sh H P b v d → Da H v d
  | _, .none, _, _, h => by cases h; exact .non
  | _, .bool _, _, _, h => by cases h; exact .bl _
  | _, .int _, _, _, h => by cases h; exact .int _
  | _, .str z, _, f, h => by
    cases h
    obtain ⟨a, b⟩ := Bool.and_eq_true_iff.mp (fit_str.mp f)
    have b := of_decide_eq_true b
    exact .str _ (by show z.cps.size ≤ 20000; omega)
  | 0, .list _, _, f, _ => by simp only [fit] at f
  | 0, .tuple _, _, f, _ => by simp only [fit] at f
  | 0, .dict _, _, f, _ => by simp only [fit] at f
  | k + 1, .list ds, _, f, h => by
    obtain ⟨l, hd⟩ := fit_lst.mp f
    cases h with
    | lst h _ _ r => exact .lst h (by rw [shLen r]; omega) (sh_daAll (fun d v f h => sh_da hw d v f h) hd r)
  | k + 1, .tuple ds, _, f, h => by
    obtain ⟨l, hd⟩ := fit_tup.mp f
    cases h with
    | tup h _ r => exact .tup h (by rw [shLen r]; omega) (sh_daAll (fun d v f h => sh_da hw d v f h) hd r)
  | k + 1, .dict kv, _, f, h => by
    cases h with
    | emp _ h _ => exact .emp h
mutual
/-- carried on: P may be sharpened by what is tracked -/
theorem Sh.on {H H' : Hp} {P P' : Addr → Prop} {b : Bool} (hp : ∀ a o, P a → H a = some o → P' a) (k : ∀ a o, P a → H a = some o → H' a = some o) : ∀ (d : PyData) (v : V), Sh H P b v d → Sh H' P' b v d
  | .none, _, h => by cases h; exact .non
  | .bool _, _, h => by cases h; exact .bl _
  | .int _, _, h => by cases h; exact .int _
  | .str _, _, h => by cases h; exact .str _
  | .list ds, _, h => by
    cases h with
    | lst h p q r => exact .lst (k _ _ p h) (hp _ _ p h) q (ShAll.on hp k ds _ r)
  | .tuple ds, _, h => by
    cases h with
    | tup h p r => exact .tup (k _ _ p h) (hp _ _ p h) (ShAll.on hp k ds _ r)
  | .dict _, _, h => by
    cases h with
    | emp q h p => exact .emp q (k _ _ p h) (hp _ _ p h)
theorem ShAll.on {H H' : Hp} {P P' : Addr → Prop} {b : Bool} (hp : ∀ a o, P a → H a = some o → P' a) (k : ∀ a o, P a → H a = some o → H' a = some o) : ∀ (ds : List PyData) (vs : List V), ShAll H P b vs ds → ShAll H' P' b vs ds
  | [], _, h => by cases h; exact .nil
  | d :: ds, _, h => by
    cases h with
    | cons h r => exact .cons (Sh.on hp k d _ h) (ShAll.on hp k ds _ r)
end
/-- all but at p is as it was -/
abbrev Kp (P : Addr → Prop) (H H' : Hp) : Prop := ∀ a o, P a → H a = some o → H' a = some o
abbrev Fr (H : Hp) : Addr → Prop := fun a => H a = none
theorem fr_back {p : Addr} {H G : Hp} {o : HO} (k : Kp (· ≠ p) H G) (hp : G p = some o) {a : Addr} (h : Fr G a) : Fr H a := by
  have na : a ≠ p := fun e => by
    rw [e] at h
    exact absurd (hp.symm.trans h) (fun z => nomatch z)
  cases e : H a with
  | none => exact e
  | some u => exact absurd ((k a u na e).symm.trans h) (fun z => nomatch z)
theorem fr_ne {p : Addr} {H : Hp} {o : HO} (hp : H p = some o) {a : Addr} (h : Fr H a) : a ≠ p := fun e => by
  rw [e] at h
  exact absurd (hp.symm.trans h) (fun z => nomatch z)
theorem Kp.trans {P : Addr → Prop} {H1 H2 H3 : Hp} (a : Kp P H1 H2) (b : Kp P H2 H3) : Kp P H1 H3 := fun x o p e => b x o p (a x o p e)
theorem kp_take {H H' : Hp} {p : Addr} (eq : ∀ b, b ≠ p → H' b = H b) : Kp (· ≠ p) H H' := fun a o n h => (eq a n).trans h
theorem kp_same {P : Addr → Prop} {G G' : Hp} (s : Same G G') : Kp P G G' := fun a o _ h => s a o h
theorem ne_free {H : Hp} {a b : Addr} {o : HO} (h : H a = some o) (n : H b = none) : b ≠ a := fun e => by
  rw [e, h] at n
  cases n
theorem pick {xs : List V} {d : Int} (d0 : 0 ≤ d) (d1 : d < (xs.length : Nat)) : ∃ v, v ∈ xs ∧ atI xs d = some v := by
  have lt : d.toNat < xs.length := by omega
  exact ⟨xs[d.toNat], List.getElem_mem lt, at_of (by omega) (List.getElem?_eq_getElem lt)⟩
end K7
end Bf

set_option linter.all false
/-! The law's own terms: what they are, how large, their text by the law's way. -/
namespace Bf
open PySem PySem.Spec PyProof.Rows L2
namespace K7
/-- at (0), (k + 1) and on: bounds of repr, of the text, of the digits taken -/
def gr (a b c : Nat) : Nat → Nat
  | 0 => a
  | 1 => b
  | k + 2 => gr a b c (k + 1) + c
abbrev S : Nat → Nat := gr 150 660 2040
abbrev Lg : Nat → Nat := gr 30 130 400
abbrev T : Nat → Nat := gr 13 67 216
theorem gr_min {a b c : Nat} (h : a ≤ b) : ∀ k, gr a b c (min k 1) ≤ b
  | 0 => h
  | 1 => Nat.le_refl _
  | k + 2 => by rw [show min (k + 2) 1 = 1 by omega]; exact Nat.le_refl _
theorem gr_step {a b c x : Nat} (h1 : a + x ≤ b) (h2 : x ≤ c) : ∀ k, gr a b c k + x ≤ gr a b c (k + 1)
  | 0 => h1
  | k + 1 => by show gr a b c (k + 1) + x ≤ gr a b c (k + 1) + c; omega
theorem gr_le {a b c : Nat} (h1 : a ≤ b) : ∀ k, a ≤ gr a b c k
  | 0 => Nat.le_refl _
  | 1 => h1
  | k + 2 => by have := gr_le (c := c) h1 (k + 1); show a ≤ gr a b c (k + 1) + c; omega
theorem S_row (k : Nat) : S k + 3 * S (min k 1) + 60 ≤ S (k + 1) := by
  cases k with
  | zero => decide
  | succ k =>
    have := gr_min (a := 150) (b := 660) (c := 2040) (by decide) (k + 1)
    show S (k + 1) + 3 * S (min (k + 1) 1) + 60 ≤ S (k + 1) + 2040
    have : S (min (k + 1) 1) ≤ 660 := this
    omega
theorem Lg_row (k : Nat) : Lg k + 3 * Lg (min k 1) + 10 ≤ Lg (k + 1) := by
  cases k with
  | zero => decide
  | succ k =>
    have : Lg (min (k + 1) 1) ≤ 130 := gr_min (a := 30) (b := 130) (c := 400) (by decide) (k + 1)
    show Lg (k + 1) + 3 * Lg (min (k + 1) 1) + 10 ≤ Lg (k + 1) + 400
    omega
theorem T_row (k : Nat) : T k + 3 * T (min k 1) + 15 ≤ T (k + 1) := by
  cases k with
  | zero => decide
  | succ k =>
    have : T (min (k + 1) 1) ≤ 67 := gr_min (a := 13) (b := 67) (c := 216) (by decide) (k + 1)
    show T (k + 1) + 3 * T (min (k + 1) 1) + 15 ≤ T (k + 1) + 216
    omega
theorem S_ge (k : Nat) : 150 ≤ S k := gr_le (by decide) k
theorem Lg_ge (k : Nat) : 30 ≤ Lg k := gr_le (by decide) k
theorem T_ge (k : Nat) : 13 ≤ T k := gr_le (by decide) k
abbrev TWO : List Str := ["first", "and", "or", "xor", "add", "sub", "less", "same"]
/-- the law's terms, k deep at most -/
inductive LT : Nat → PyData → Prop
  | lit {k : Nat} {kd wd : PyData} (hk : kindD kd = true) (hw : worthD wd kd = true) : LT k (.tuple [.str "lit", kd, wd])
  | nm {k : Nat} {c z : Str} (hc : c = "name" ∨ c = "last") (hz : nameS z = true) : LT k (.tuple [.str c, .str z])
  | row {k : Nat} {d : PyData} {ds : List PyData} (l1 : 1 ≤ ds.length) (l3 : ds.length ≤ 3) (h : LT k d) (hs : ∀ x ∈ ds, LT (min k 1) x) : LT (k + 1) (.tuple [.str "row", .tuple (d :: ds)])
  | no {k : Nat} {x : PyData} (h : LT k x) : LT (k + 1) (.tuple [.str "not", x])
  | num {k : Nat} {c : Str} {i : Int} {x : PyData} (hc : (c = "wide" ∧ 1 ≤ i ∧ i ≤ 8) ∨ (c = "bit" ∧ 0 ≤ i ∧ i ≤ 7) ∨ (c = "at" ∧ 0 ≤ i ∧ i ≤ 3)) (h : LT k x) : LT (k + 1) (.tuple [.str c, .int i, x])
  | wen {k : Nat} {x : PyData} {z : Str} {i : Int} (h : LT k x) (hz : nameS z = true) (i0 : 0 ≤ i) (i1 : i ≤ 1) : LT (k + 1) (.tuple [.str "when", x, .str z, .int i])
  | merge {k : Nat} {x y : PyData} {z : Str} (hz : nameS z = true) (h : LT k x) (h2 : LT (min k 1) y) : LT (k + 1) (.tuple [.str "merge", .str z, x, y])
  | pick {k : Nat} {x y u : PyData} (h : LT k x) (h2 : LT (min k 1) y) (h3 : LT 0 u) : LT (k + 1) (.tuple [.str "pick", x, y, u])
  | two {k : Nat} {c : Str} {x y : PyData} (hc : c ∈ TWO) (h : LT k x) (h2 : LT (min k 1) y) : LT (k + 1) (.tuple [.str c, x, y])
theorem term_mk {c : Str} {rest : List PyData} {ss : List Str} (e : lk c FM = some ss) (hl : rest.length = ss.length) (hf : (List.zipWith fitsD ss rest).all id = true) (hlit : (!decide (V.str c = V.str "lit") || litD rest) = true) (nc : callS c = false)
    (hw : ∀ x ∈ (List.zipWith oneD ss rest).flatten, termD x = true) : termD (.tuple (.str c :: rest)) = true := by
  have hfo : formedD (.tuple (.str c :: rest)) = true := by
    show (match lk c FM with | some ss => decide (rest.length = ss.length) && (List.zipWith fitsD ss rest).all id && (!decide (V.str c = V.str "lit") || litD rest) | none => false) = true
    rw [e]
    show (decide (rest.length = ss.length) && (List.zipWith fitsD ss rest).all id && (!decide (V.str c = V.str "lit") || litD rest)) = true
    rw [hf, hlit, decide_eq_true hl]
    rfl
  have hcx : callX (.tuple (.str c :: rest)) = false := nc
  rw [termD_eq, within_eq e, hfo, hcx, List.all_eq_true.mpr hw]
  rfl
theorem noLit {c : Str} {r : List PyData} (h : decide (V.str c = V.str "lit") = false) : (!decide (V.str c = V.str "lit") || litD r) = true := by
  rw [h]; rfl
theorem fit_term (d : PyData) : fitsD "term" d = true := rfl
theorem one_term (d : PyData) : oneD "term" d = [d] := rfl
theorem one_non {s : Str} (h : s ∈ (["kind", "worth", "name", "width", "bit", "truth", "place"] : List Str)) (d : PyData) : oneD s d = [] := by
  simp only [List.mem_cons, List.not_mem_nil, or_false] at h
  rcases h with rfl | rfl | rfl | rfl | rfl | rfl | rfl <;> rfl
theorem two_forms : ∀ c ∈ TWO, lk c FM = some [("term" : Str), "term"] ∧ callS c = false ∧ decide (V.str c = V.str "lit") = false ∧ c.length ≤ 5 ∧ strOk c = true ∧ decide (V.str c = V.str "row") = false := by decide +kernel
theorem nm_forms : ∀ c ∈ (["name", "last"] : List Str), lk c FM = some [("name" : Str)] ∧ callS c = false ∧ decide (V.str c = V.str "lit") = false ∧ c.length ≤ 5 ∧ strOk c = true ∧ decide (V.str c = V.str "row") = false := by decide +kernel
theorem num_forms : ∀ c ∈ ([("wide", "width"), ("bit", "bit"), ("at", "place")] : List (Str × Str)), lk c.1 FM = some [c.2, "term"] ∧ callS c.1 = false ∧ decide (V.str c.1 = V.str "lit") = false ∧ c.1.length ≤ 5 ∧ strOk c.1 = true ∧ decide (V.str c.1 = V.str "row") = false := by decide +kernel
theorem whole_of {i lo hi : Int} (a : lo ≤ i) (b : i ≤ hi) : wholeD (.int i) lo hi = true := by
  show (decide (lo ≤ i) && decide (i ≤ hi)) = true
  rw [decide_eq_true a, decide_eq_true b]
  rfl
theorem num_slot {c : Str} {i : Int} (hc : (c = "wide" ∧ 1 ≤ i ∧ i ≤ 8) ∨ (c = "bit" ∧ 0 ≤ i ∧ i ≤ 7) ∨ (c = "at" ∧ 0 ≤ i ∧ i ≤ 3)) : ∃ s, (c, s) ∈ ([("wide", "width"), ("bit", "bit"), ("at", "place")] : List (Str × Str)) ∧ fitsD s (.int i) = true ∧ oneD s (.int i) = [] ∧
    (∀ f, pieceS f s (.int i) = [numStr i]) ∧ 0 ≤ i ∧ i ≤ 8 := by
  rcases hc with ⟨rfl, a, b⟩ | ⟨rfl, a, b⟩ | ⟨rfl, a, b⟩
  · exact ⟨"width", by simp, whole_of a b, rfl, fun _ => rfl, by omega, b⟩
  · exact ⟨"bit", by simp, whole_of a b, rfl, fun _ => rfl, by omega, by omega⟩
  · exact ⟨"place", by simp, whole_of a b, rfl, fun _ => rfl, by omega, by omega⟩
theorem LT.term {k : Nat} {d : PyData} (h : LT k d) : termD d = true := by
  induction h with
  | @lit k kd wd hk hw =>
    refine term_mk (ss := ["kind", "worth"]) (by decide +kernel) rfl ?_ ?_ (by decide +kernel) fun x m => ?_
    · show (kindD kd && (true && true)) = true
      rw [hk]; rfl
    · show (!decide (V.str "lit" = V.str "lit") || worthD wd kd) = true
      rw [hw, Bool.or_true]
    · exact nomatch (show x ∈ ([] : List PyData) from m)
  | @nm k c z hc hz =>
    obtain ⟨e1, e2, e3, _⟩ := nm_forms c (by rcases hc with rfl | rfl <;> simp)
    refine term_mk e1 rfl ?_ (noLit e3) e2 fun x m => ?_
    · show (nameS z && true) = true
      rw [hz]; rfl
    · exact nomatch (show x ∈ ([] : List PyData) from m)
  | @row k d ds l1 l3 _ _ ih ihs =>
    refine term_mk (ss := ["parts"]) (by decide +kernel) rfl ?_ (noLit (by decide +kernel)) (by decide +kernel) fun x m => ?_
    · show ((decide ((2 : Int) ≤ (((d :: ds).length : Nat) : Int)) && decide ((((d :: ds).length : Nat) : Int) ≤ 4)) && true) = true
      rw [decide_eq_true (by rw [List.length_cons]; omega), decide_eq_true (by rw [List.length_cons]; omega)]
      rfl
    · have m : x ∈ (d :: ds) ++ [] := m
      rw [List.append_nil] at m
      rcases List.mem_cons.mp m with rfl | m
      · exact ih
      · exact ihs x m
  | @no k x _ ih =>
    refine term_mk (ss := ["term"]) (by decide +kernel) rfl rfl (noLit (by decide +kernel)) (by decide +kernel) fun y m => ?_
    have m : y ∈ [x] := m
    rw [List.mem_singleton.mp m]
    exact ih
  | @num k c i x hc _ ih =>
    obtain ⟨s, ms, f1, f2, _⟩ := num_slot hc
    obtain ⟨e1, e2, e3, _⟩ := num_forms _ ms
    refine term_mk e1 rfl ?_ (noLit e3) e2 fun y m => ?_
    · show (fitsD s (.int i) && (true && true)) = true
      rw [f1]; rfl
    · have m : y ∈ oneD s (.int i) ++ ([x] ++ []) := m
      rw [f2] at m
      have m : y ∈ [x] := m
      rw [List.mem_singleton.mp m]
      exact ih
  | @wen k x z i _ hz i0 i1 ih =>
    refine term_mk (ss := ["term", "name", "truth"]) (by decide +kernel) rfl ?_ (noLit (by decide +kernel)) (by decide +kernel) fun y m => ?_
    · show (true && (nameS z && (wholeD (.int i) 0 1 && true))) = true
      rw [hz, whole_of i0 i1]; rfl
    · have m : y ∈ [x] := m
      rw [List.mem_singleton.mp m]
      exact ih
  | @merge k x y z hz _ _ ih ih2 =>
    refine term_mk (ss := ["name", "term", "term"]) (by decide +kernel) rfl ?_ (noLit (by decide +kernel)) (by decide +kernel) fun u m => ?_
    · show (nameS z && (true && (true && true))) = true
      rw [hz]; rfl
    · have m : u ∈ [x, y] := m
      simp only [List.mem_cons, List.not_mem_nil, or_false] at m
      rcases m with rfl | rfl
      · exact ih
      · exact ih2
  | @pick k x y u _ _ _ ih ih2 ih3 =>
    refine term_mk (ss := ["term", "term", "term"]) (by decide +kernel) rfl rfl (noLit (by decide +kernel)) (by decide +kernel) fun v m => ?_
    have m : v ∈ [x, y, u] := m
    simp only [List.mem_cons, List.not_mem_nil, or_false] at m
    rcases m with rfl | rfl | rfl
    · exact ih
    · exact ih2
    · exact ih3
  | @two k c x y hc _ _ ih ih2 =>
    obtain ⟨e1, e2, e3, _⟩ := two_forms c hc
    refine term_mk e1 rfl rfl (noLit e3) e2 fun v m => ?_
    have m : v ∈ [x, y] := m
    simp only [List.mem_cons, List.not_mem_nil, or_false] at m
    rcases m with rfl | rfl
    · exact ih
    · exact ih2
end K7
end Bf

set_option linter.all false
namespace Bf
open PySem PySem.Spec PyProof.Rows L2
namespace K7
/-- a part of a term that is neither lit nor row, as the law writes it -/
def partS : PyData → Str
  | .tuple ds => textS (.tuple ds)
  | .str z => z
  | .int i => numStr i
  | _ => ""
theorem LT.tup {k : Nat} {d : PyData} (h : LT k d) : ∃ c r, d = .tuple (.str c :: r) := by
  cases h <;> exact ⟨_, _, rfl⟩
theorem LT.part_eq {k : Nat} {d : PyData} (h : LT k d) : partS d = textS d := by
  obtain ⟨c, r, rfl⟩ := h.tup
  rfl
theorem text_two {c s1 s2 : Str} {a b : PyData} {xs ys : List Str} (e : lk c FM = some [s1, s2]) (h1 : pieceS textS s1 a = xs) (h2 : pieceS textS s2 b = ys) : textS (.tuple [.str c, a, b]) = brack (c :: (xs ++ ys)) := by
  rw [textS_eq e]
  rw [List.zipWith_cons_cons, List.zipWith_cons_cons, List.zipWith_nil_left, List.flatten_cons, List.flatten_cons, List.flatten_nil, h1, h2, List.append_nil]
theorem text_one {c s1 : Str} {a : PyData} {xs : List Str} (e : lk c FM = some [s1]) (h1 : pieceS textS s1 a = xs) : textS (.tuple [.str c, a]) = brack (c :: xs) := by
  rw [textS_eq e]
  rw [List.zipWith_cons_cons, List.zipWith_nil_left, List.flatten_cons, List.flatten_nil, h1, List.append_nil]
theorem text_three {c s1 s2 s3 : Str} {a b d : PyData} {xs ys zs : List Str} (e : lk c FM = some [s1, s2, s3]) (h1 : pieceS textS s1 a = xs) (h2 : pieceS textS s2 b = ys) (h3 : pieceS textS s3 d = zs) : textS (.tuple [.str c, a, b, d]) = brack (c :: (xs ++ (ys ++ zs))) := by
  rw [textS_eq e]
  rw [List.zipWith_cons_cons, List.zipWith_cons_cons, List.zipWith_cons_cons, List.zipWith_nil_left, List.flatten_cons, List.flatten_cons, List.flatten_cons, List.flatten_nil, h1, h2, h3, List.append_nil]
/-- what a part may be -/
def Part (k : Nat) (p : PyData) : Prop := (∃ j, j < k ∧ LT j p) ∨ (∃ z, p = .str z ∧ nameS z = true) ∨ ∃ i : Int, p = .int i ∧ 0 ≤ i ∧ i ≤ 8
theorem LT.text {k : Nat} {d : PyData} (h : LT k d) : (∃ kd wd, d = .tuple [.str "lit", kd, wd] ∧ kindD kd = true ∧ worthD wd kd = true ∧ textS d = brack ["lit", wKind kd, wWorth wd]) ∨
    (∃ ds, d = .tuple [.str "row", .tuple ds] ∧ 2 ≤ ds.length ∧ ds.length ≤ 4 ∧ (∀ x ∈ ds, ∃ j, j < k ∧ LT j x) ∧ textS d = brack ("row" :: ds.map textS)) ∨
    ∃ c ps, d = .tuple (.str c :: ps) ∧ decide (V.str c = V.str "lit") = false ∧ decide (V.str c = V.str "row") = false ∧ c.length ≤ 5 ∧ 1 ≤ ps.length ∧ ps.length ≤ 3 ∧ (∀ p ∈ ps, Part k p) ∧ textS d = brack (c :: ps.map partS) := by
  cases h with
  | @lit _ kd wd hk hw => exact .inl ⟨kd, wd, rfl, hk, hw, text_two (s1 := "kind") (s2 := "worth") (xs := [wKind kd]) (ys := [wWorth wd]) (by decide +kernel) rfl rfl⟩
  | @nm _ c z hc hz =>
    obtain ⟨e1, e2, e3, e4, _, e6⟩ := nm_forms c (by rcases hc with rfl | rfl <;> simp)
    exact .inr (.inr ⟨c, [.str z], rfl, e3, e6, e4, by show 1 ≤ 1; decide, by show 1 ≤ 3; decide, fun p m => by rw [List.mem_singleton.mp m]; exact .inr (.inl ⟨z, rfl, hz⟩), text_one (xs := [z]) e1 rfl⟩)
  | @row k d ds l1 l3 hd hs =>
    refine .inr (.inl ⟨d :: ds, rfl, by rw [List.length_cons]; omega, by rw [List.length_cons]; omega, fun x m => ?_, text_one (s1 := "parts") (xs := (d :: ds).map textS) (by decide +kernel) rfl⟩)
    rcases List.mem_cons.mp m with rfl | m
    · exact ⟨k, Nat.lt_succ_self _, hd⟩
    · exact ⟨_, by omega, hs x m⟩
  | @no k x h =>
    refine .inr (.inr ⟨"not", [x], rfl, by decide +kernel, by decide +kernel, by decide +kernel, by show 1 ≤ 1; decide, by show 1 ≤ 3; decide, fun p m => ?_, ?_⟩)
    · rw [List.mem_singleton.mp m]; exact .inl ⟨k, Nat.lt_succ_self _, h⟩
    · show _ = brack ("not" :: [K7.partS x])
      rw [h.part_eq]
      exact text_one (s1 := "term") (xs := [textS x]) (by decide +kernel) rfl
  | @num k c i x hc h =>
    obtain ⟨s, ms, f1, f2, f3, i0, i8⟩ := num_slot hc
    obtain ⟨e1, e2, e3, e4, _, e6⟩ := num_forms _ ms
    refine .inr (.inr ⟨c, [.int i, x], rfl, e3, e6, e4, by show 1 ≤ 2; decide, by show 2 ≤ 3; decide, fun p m => ?_, ?_⟩)
    · simp only [List.mem_cons, List.not_mem_nil, or_false] at m
      rcases m with rfl | rfl
      · exact .inr (.inr ⟨i, rfl, i0, i8⟩)
      · exact .inl ⟨k, Nat.lt_succ_self _, h⟩
    · show _ = brack (c :: [numStr i, K7.partS x])
      rw [h.part_eq]
      exact text_two (xs := [numStr i]) (ys := [textS x]) e1 (f3 _) rfl
  | @wen k x z i h hz i0 i1 =>
    refine .inr (.inr ⟨"when", [x, .str z, .int i], rfl, by decide +kernel, by decide +kernel, by decide +kernel, by show 1 ≤ 3; decide, by show 3 ≤ 3; decide, fun p m => ?_, ?_⟩)
    · simp only [List.mem_cons, List.not_mem_nil, or_false] at m
      rcases m with rfl | rfl | rfl
      · exact .inl ⟨k, Nat.lt_succ_self _, h⟩
      · exact .inr (.inl ⟨z, rfl, hz⟩)
      · exact .inr (.inr ⟨i, rfl, i0, by omega⟩)
    · show _ = brack ("when" :: [K7.partS x, z, numStr i])
      rw [h.part_eq]
      exact text_three (s1 := "term") (s2 := "name") (s3 := "truth") (xs := [textS x]) (ys := [z]) (zs := [numStr i]) (by decide +kernel) rfl rfl rfl
  | @merge k x y z hz h h2 =>
    refine .inr (.inr ⟨"merge", [.str z, x, y], rfl, by decide +kernel, by decide +kernel, by decide +kernel, by show 1 ≤ 3; decide, by show 3 ≤ 3; decide, fun p m => ?_, ?_⟩)
    · simp only [List.mem_cons, List.not_mem_nil, or_false] at m
      rcases m with rfl | rfl | rfl
      · exact .inr (.inl ⟨z, rfl, hz⟩)
      · exact .inl ⟨k, Nat.lt_succ_self _, h⟩
      · exact .inl ⟨_, by omega, h2⟩
    · show _ = brack ("merge" :: [z, K7.partS x, K7.partS y])
      rw [h.part_eq, h2.part_eq]
      exact text_three (s1 := "name") (s2 := "term") (s3 := "term") (xs := [z]) (ys := [textS x]) (zs := [textS y]) (by decide +kernel) rfl rfl rfl
  | @pick k x y u h h2 h3 =>
    refine .inr (.inr ⟨"pick", [x, y, u], rfl, by decide +kernel, by decide +kernel, by decide +kernel, by show 1 ≤ 3; decide, by show 3 ≤ 3; decide, fun p m => ?_, ?_⟩)
    · simp only [List.mem_cons, List.not_mem_nil, or_false] at m
      rcases m with rfl | rfl | rfl
      · exact .inl ⟨k, Nat.lt_succ_self _, h⟩
      · exact .inl ⟨_, by omega, h2⟩
      · exact .inl ⟨0, by omega, h3⟩
    · show _ = brack ("pick" :: [K7.partS x, K7.partS y, K7.partS u])
      rw [h.part_eq, h2.part_eq, h3.part_eq]
      exact text_three (s1 := "term") (s2 := "term") (s3 := "term") (xs := [textS x]) (ys := [textS y]) (zs := [textS u]) (by decide +kernel) rfl rfl rfl
  | @two k c x y hc h h2 =>
    obtain ⟨e1, e2, e3, e4, _, e6⟩ := two_forms c hc
    refine .inr (.inr ⟨c, [x, y], rfl, e3, e6, e4, by show 1 ≤ 2; decide, by show 2 ≤ 3; decide, fun p m => ?_, ?_⟩)
    · simp only [List.mem_cons, List.not_mem_nil, or_false] at m
      rcases m with rfl | rfl
      · exact .inl ⟨k, Nat.lt_succ_self _, h⟩
      · exact .inl ⟨_, by omega, h2⟩
    · show _ = brack (c :: [K7.partS x, K7.partS y])
      rw [h.part_eq, h2.part_eq]
      exact text_two (xs := [textS x]) (ys := [textS y]) e1 rfl rfl
theorem name_small {z : Str} (h : nameS z = true) : (∀ c ∈ z.cps.toList, c < 16 ^ 8) ∧ z.cps.size ≤ 8 := by
  unfold nameS at h
  obtain ⟨h1, ha⟩ := Bool.and_eq_true_iff.mp h
  refine ⟨fun c m => ?_, of_decide_eq_true (Bool.and_eq_true_iff.mp h1).2⟩
  have g := List.all_eq_true.mp ha c m
  unfold signB at g
  have g2 := (Bool.and_eq_true_iff.mp g).2
  rw [Bool.not_eq_true'] at g2
  have g3 := of_decide_eq_false g2
  have e : ("z" : Str).cps.toList = [122] := by decide +kernel
  rw [e] at g3
  have : ¬ 122 < c := fun l => g3 (List.Lex.rel l)
  omega
theorem fitA_nil {w k : Nat} : ∀ d ∈ ([] : List PyData), fit w k d := fun _ m => nomatch m
theorem fitA_cons {w k : Nat} {d : PyData} {r : List PyData} (h : fit w k d) (t : ∀ d ∈ r, fit w k d) : ∀ e ∈ d :: r, fit w k e := fun e m => (List.mem_cons.mp m).elim (fun z => z ▸ h) (t e)
theorem nm_fit {w k : Nat} {z : Str} (h : nameS z = true) : fit w k (.str z) := fit_str.mpr (Bool.and_eq_true_iff.mpr ⟨List.all_eq_true.mpr fun c m => decide_eq_true ((name_small h).1 c m), decide_eq_true (Nat.le_trans (name_small h).2 (by decide))⟩)
theorem int_fit {w k : Nat} {i : Int} (a : -1000 ≤ i) (b : i ≤ 1000) : fit w k (.int i) := fit_int.mpr (.inl (by omega))
theorem sl_small {i : Int} (a : -1000 ≤ i) (b : i ≤ 1000) : sl (.int i) ≤ 14 := sl_int (by omega)
theorem slS {z : Str} {n : Nat} (h : z.cps.size ≤ n) : sl (.str z) ≤ 10 * n + 3 := by
  simp only [sl]; omega
theorem kind_data {d : PyData} (h : kindD d = true) : fit 4 1 d ∧ sl d ≤ 35 ∧ (wKind d).length ≤ 7 := by
  rcases kind_inv h with ⟨i, rfl, a, b⟩ | ⟨i, j, rfl, a, b, c, e⟩
  · refine ⟨int_fit (by omega) (by omega), Nat.le_trans (sl_small (by omega) (by omega)) (by decide), ?_⟩
    have := (num_back (i := i) (by omega) (by omega)).2.2.2.2
    rw [← TL.len_tl] at this
    exact Nat.le_trans this (by decide)
  · refine ⟨fit_tup.mpr ⟨by show 2 ≤ 4; decide, fitA_cons (int_fit (by omega) (by omega)) (fitA_cons (int_fit (by omega) (by omega)) fitA_nil)⟩, ?_, ?_⟩
    · have a := sl_small (i := i) (by omega) (by omega)
      have b := sl_small (i := j) (by omega) (by omega)
      rw [sl_tup, slA_cons, slA_cons, slA_nil]
      omega
    · have h1 := (num_back (i := i) (by omega) (by omega)).2.2.2.2
      have h2 := (num_back (i := j) (by omega) (by omega)).2.2.2.2
      rw [← TL.len_tl] at h1 h2
      have e1 : ("x" : Str).length = 1 := by decide +kernel
      rw [wKind_two, strLen_append, strLen_append, e1]
      omega
theorem sum_le {b : Nat} : ∀ {l : List Nat}, (∀ x ∈ l, x ≤ b) → l.sum ≤ b * l.length
  | [], _ => Nat.zero_le _
  | x :: r, h => by
    have h1 := h x List.mem_cons_self
    have h2 := sum_le (l := r) fun y m => h y (List.mem_cons_of_mem _ m)
    rw [List.sum_cons, List.length_cons, Nat.mul_add]
    omega
theorem worth_data {d k : PyData} (hk : kindD k = true) (h : worthD d k = true) : fit 4 1 d ∧ sl d ≤ 67 ∧ (wWorth d).length ≤ 15 := by
  rcases worth_inv hk h with ⟨i, rfl, a, b⟩ | ⟨is, rfl, l2, l4, hi⟩
  · refine ⟨int_fit (by omega) (by omega), Nat.le_trans (sl_small (by omega) (by omega)) (by decide), ?_⟩
    have := (num_back (i := i) (by omega) (by omega)).2.2.2.2
    rw [← TL.len_tl] at this
    exact Nat.le_trans this (by decide)
  · refine ⟨fit_tup.mpr ⟨by rw [List.length_map]; exact l4, fun d m => ?_⟩, ?_, ?_⟩
    · obtain ⟨j, mj, rfl⟩ := List.mem_map.mp m
      have := hi j mj
      exact int_fit (by omega) (by omega)
    · have a := slA_le (n := 14) (l := is.map PyData.int) fun d m => by
        obtain ⟨j, mj, rfl⟩ := List.mem_map.mp m
        have := hi j mj
        exact sl_small (by omega) (by omega)
      rw [List.length_map] at a
      rw [sl_tup]
      omega
    · rw [wWorth_list]
      have e := size_glued "," (is.map numStr)
      have e1 : ("," : Str).length = 1 := by decide +kernel
      have e2 : (Txt.join "," (is.map numStr)).length = (Builtin.Str.glued "," (is.map numStr)).length := rfl
      have e3 := sum_le (b := 3) (l := (is.map numStr).map (·.length)) fun x m => by
        obtain ⟨y, my, rfl⟩ := List.mem_map.mp m
        obtain ⟨j, mj, rfl⟩ := List.mem_map.mp my
        have := (num_back (hi j mj).1 (hi j mj).2).2.2.2.2
        rw [← TL.len_tl] at this
        exact this
      rw [List.length_map, List.length_map] at e3
      rw [List.length_map] at e
      rw [e2, e, e1]
      omega
theorem lenS_cons (z : Str) (r : List Str) : lenS (z :: r) = z.length + lenS r := rfl
theorem lenS_nil : lenS [] = 0 := rfl
theorem lenS_le {b : Nat} : ∀ {l : List Str}, (∀ x ∈ l, x.length ≤ b) → lenS l ≤ b * l.length
  | [], _ => Nat.zero_le _
  | x :: r, h => by
    have h1 := h x List.mem_cons_self
    have h2 := lenS_le (l := r) fun y m => h y (List.mem_cons_of_mem _ m)
    rw [lenS_cons, List.length_cons, Nat.mul_add]
    omega
theorem num_len {i : Int} (a : 0 ≤ i) (b : i ≤ 255) : (numStr i).length ≤ 3 := by
  have := (num_back a b).2.2.2.2
  rw [← TL.len_tl] at this
  exact this
structure LF (k : Nat) (d : PyData) : Prop where
  fit : fit 4 (2 * k + 2) d
  sl : sl d ≤ S k
  len : (textS d).length ≤ Lg k
theorem LF.fit1 {k j : Nat} {d : PyData} (h : LF j d) (l : j ≤ k) : K7.fit 4 (2 * (k + 1) + 1) d := fit_mono (Nat.le_refl _) d (by omega) h.fit
theorem len_of {z : Str} {n : Nat} (h : z.length ≤ n) : sl (.str z) ≤ 10 * n + 3 := slS h
theorem mk_lf {k : Nat} {c : Str} {ps : List PyData} {ws : List Str} (e : textS (.tuple (.str c :: ps)) = brack (c :: ws)) (hc : strOk c = true) (lc : c.length ≤ 5) (l3 : ps.length ≤ 3) (f : ∀ p ∈ ps, fit 4 (2 * k + 1) p)
    (s : slA ps + 58 ≤ S k) (w : lenS ws + ws.length + 7 ≤ Lg k) : LF k (.tuple (.str c :: ps)) := by
  refine ⟨fit_tup.mpr ⟨by rw [List.length_cons]; omega, fitA_cons (fit_str.mpr hc) f⟩, ?_, ?_⟩
  · have := len_of lc
    rw [sl_tup, slA_cons]
    omega
  · rw [e, brack_len, lenS_cons, List.length_cons]
    omega
theorem LT.size {k : Nat} {d : PyData} (h : LT k d) : LF k d := by
  induction h with
  | @lit k kd wd hk hw =>
    obtain ⟨f1, s1, w1⟩ := kind_data hk
    obtain ⟨f2, s2, w2⟩ := worth_data hk hw
    have a := S_ge k
    have b := Lg_ge k
    have e : textS (.tuple [.str "lit", kd, wd]) = brack ["lit", wKind kd, wWorth wd] := text_two (s1 := "kind") (s2 := "worth") (xs := [wKind kd]) (ys := [wWorth wd]) (by decide +kernel) rfl rfl
    have el : sl (.str "lit") ≤ 33 := slS (n := 3) (by decide)
    have e3 : ("lit" : Str).length = 3 := by decide +kernel
    refine ⟨fit_tup.mpr ⟨by show 3 ≤ 4; decide, fitA_cons (fit_str.mpr (by decide +kernel)) (fitA_cons (fit_mono (Nat.le_refl _) kd (by omega) f1) (fitA_cons (fit_mono (Nat.le_refl _) wd (by omega) f2) fitA_nil))⟩, ?_, ?_⟩
    · rw [sl_tup, slA_cons, slA_cons, slA_cons, slA_nil]; omega
    · rw [e, brack_len, lenS_cons, lenS_cons, lenS_cons, lenS_nil, List.length_cons, List.length_cons, List.length_cons, List.length_nil, e3]; omega
  | @nm k c z hc hz =>
    obtain ⟨e1, e2, e3, e4, e5, e6⟩ := nm_forms c (by rcases hc with rfl | rfl <;> simp)
    have a := S_ge k
    have b := Lg_ge k
    have z8 : z.length ≤ 8 := (name_small hz).2
    have s8 := len_of z8
    refine mk_lf (text_one (xs := [z]) e1 rfl) e5 e4 (by show 1 ≤ 3; decide) (fitA_cons (nm_fit hz) fitA_nil) ?_ ?_
    · rw [slA_cons, slA_nil]; omega
    · rw [lenS_cons, lenS_nil, List.length_cons, List.length_nil]; omega
  | @row k d ds l1 l3 hd hs ih ihs =>
    have a := S_row k
    have b := Lg_row k
    have e : textS (.tuple [.str "row", .tuple (d :: ds)]) = brack ("row" :: (d :: ds).map textS) := text_one (s1 := "parts") (xs := (d :: ds).map textS) (by decide +kernel) rfl
    have el : sl (.str "row") ≤ 33 := slS (n := 3) (by decide)
    have e3 : ("row" : Str).length = 3 := by decide +kernel
    have hm : min k 1 ≤ k := Nat.min_le_left _ _
    have ba := slA_le (n := S (min k 1)) (l := ds) fun x m => (ihs x m).sl
    have bb : (S (min k 1) + 2) * ds.length ≤ (S (min k 1) + 2) * 3 := Nat.mul_le_mul_left _ l3
    have ca := lenS_le (b := Lg (min k 1)) (l := ds.map textS) fun x m => by
      obtain ⟨y, my, rfl⟩ := List.mem_map.mp m
      exact (ihs y my).len
    rw [List.length_map] at ca
    have cb : Lg (min k 1) * ds.length ≤ Lg (min k 1) * 3 := Nat.mul_le_mul_left _ l3
    have i1 := ih.sl
    have i2 := ih.len
    refine ⟨fit_tup.mpr ⟨by show 2 ≤ 4; decide, fitA_cons (fit_str.mpr (by decide +kernel)) (fitA_cons (fit_tup (k := 2 * k + 2).mpr ⟨by rw [List.length_cons]; omega, fun x m => ?_⟩) fitA_nil)⟩, ?_, ?_⟩
    · rcases List.mem_cons.mp m with rfl | m
      · exact ih.fit
      · exact fit_mono (Nat.le_refl _) x (by omega) (ihs x m).fit
    · rw [sl_tup, slA_cons, slA_cons, slA_nil, sl_tup, slA_cons]; omega
    · rw [e, brack_len, List.map_cons, lenS_cons, lenS_cons, List.length_cons, List.length_cons, List.length_map, e3]; omega
  | @no k x h ih =>
    have a := S_row k
    have b := Lg_row k
    have c := S_ge (min k 1)
    have d := Lg_ge (min k 1)
    have i1 := ih.sl
    have i2 := ih.len
    refine mk_lf (text_one (s1 := "term") (xs := [textS x]) (by decide +kernel) rfl) (by decide +kernel) (by decide +kernel) (by show 1 ≤ 3; decide) (fitA_cons (ih.fit1 (Nat.le_refl _)) fitA_nil) ?_ ?_
    · rw [slA_cons, slA_nil]; omega
    · rw [lenS_cons, lenS_nil, List.length_cons, List.length_nil]; omega
  | @num k c i x hc h ih =>
    obtain ⟨s, ms, f1, f2, f3, i0, i8⟩ := num_slot hc
    obtain ⟨e1, e2, e3, e4, e5, e6⟩ := num_forms _ ms
    have a := S_row k
    have b := Lg_row k
    have c1 := S_ge (min k 1)
    have d1 := Lg_ge (min k 1)
    have i1 := ih.sl
    have i2 := ih.len
    have n1 := sl_small (i := i) (by omega) (by omega)
    have n2 := num_len (i := i) (by omega) (by omega)
    refine mk_lf (text_two (xs := [numStr i]) (ys := [textS x]) e1 (f3 _) rfl) e5 e4 (by show 2 ≤ 3; decide) (fitA_cons (int_fit (by omega) (by omega)) (fitA_cons (ih.fit1 (Nat.le_refl _)) fitA_nil)) ?_ ?_
    · rw [slA_cons, slA_cons, slA_nil]; omega
    · show lenS [numStr i, textS x] + 2 + 7 ≤ _
      rw [lenS_cons, lenS_cons, lenS_nil]; omega
  | @wen k x z i h hz i0 i1 ih =>
    have a := S_row k
    have b := Lg_row k
    have c1 := S_ge (min k 1)
    have d1 := Lg_ge (min k 1)
    have i1 := ih.sl
    have i2 := ih.len
    have z8 : z.length ≤ 8 := (name_small hz).2
    have s8 := len_of z8
    have n1 := sl_small (i := i) (by omega) (by omega)
    have n2 := num_len (i := i) (by omega) (by omega)
    refine mk_lf (text_three (s1 := "term") (s2 := "name") (s3 := "truth") (xs := [textS x]) (ys := [z]) (zs := [numStr i]) (by decide +kernel) rfl rfl rfl) (by decide +kernel) (by decide +kernel) (by show 3 ≤ 3; decide) (fitA_cons (ih.fit1 (Nat.le_refl _)) (fitA_cons (nm_fit hz) (fitA_cons (int_fit (by omega) (by omega)) fitA_nil))) ?_ ?_
    · rw [slA_cons, slA_cons, slA_cons, slA_nil]; omega
    · show lenS [textS x, z, numStr i] + 3 + 7 ≤ _
      rw [lenS_cons, lenS_cons, lenS_cons, lenS_nil]; omega
  | @merge k x y z hz h h2 ih ih2 =>
    have a := S_row k
    have b := Lg_row k
    have c1 := S_ge (min k 1)
    have d1 := Lg_ge (min k 1)
    have i1 := ih.sl
    have i2 := ih.len
    have j1 := ih2.sl
    have j2 := ih2.len
    have z8 : z.length ≤ 8 := (name_small hz).2
    have s8 := len_of z8
    refine mk_lf (text_three (s1 := "name") (s2 := "term") (s3 := "term") (xs := [z]) (ys := [textS x]) (zs := [textS y]) (by decide +kernel) rfl rfl rfl) (by decide +kernel) (by decide +kernel) (by show 3 ≤ 3; decide) (fitA_cons (nm_fit hz) (fitA_cons (ih.fit1 (Nat.le_refl _)) (fitA_cons (ih2.fit1 (Nat.min_le_left _ _)) fitA_nil))) ?_ ?_
    · rw [slA_cons, slA_cons, slA_cons, slA_nil]; omega
    · show lenS [z, textS x, textS y] + 3 + 7 ≤ _
      rw [lenS_cons, lenS_cons, lenS_cons, lenS_nil]; omega
  | @pick k x y u h h2 h3 ih ih2 ih3 =>
    have a := S_row k
    have b := Lg_row k
    have c1 := S_ge (min k 1)
    have d1 := Lg_ge (min k 1)
    have i1 := ih.sl
    have i2 := ih.len
    have j1 := ih2.sl
    have j2 := ih2.len
    have u1 : sl u ≤ 150 := ih3.sl
    have u2 : (textS u).length ≤ 30 := ih3.len
    refine mk_lf (text_three (s1 := "term") (s2 := "term") (s3 := "term") (xs := [textS x]) (ys := [textS y]) (zs := [textS u]) (by decide +kernel) rfl rfl rfl) (by decide +kernel) (by decide +kernel) (by show 3 ≤ 3; decide) (fitA_cons (ih.fit1 (Nat.le_refl _)) (fitA_cons (ih2.fit1 (Nat.min_le_left _ _)) (fitA_cons (ih3.fit1 (Nat.zero_le _)) fitA_nil))) ?_ ?_
    · rw [slA_cons, slA_cons, slA_cons, slA_nil]; omega
    · show lenS [textS x, textS y, textS u] + 3 + 7 ≤ _
      rw [lenS_cons, lenS_cons, lenS_cons, lenS_nil]; omega
  | @two k c x y hc h h2 ih ih2 =>
    obtain ⟨e1, e2, e3, e4, e5, e6⟩ := two_forms c hc
    have a := S_row k
    have b := Lg_row k
    have c1 := S_ge (min k 1)
    have d1 := Lg_ge (min k 1)
    have i1 := ih.sl
    have i2 := ih.len
    have j1 := ih2.sl
    have j2 := ih2.len
    refine mk_lf (text_two (xs := [textS x]) (ys := [textS y]) e1 rfl rfl) e5 e4 (by show 2 ≤ 3; decide) (fitA_cons (ih.fit1 (Nat.le_refl _)) (fitA_cons (ih2.fit1 (Nat.min_le_left _ _)) fitA_nil)) ?_ ?_
    · rw [slA_cons, slA_cons, slA_nil]; omega
    · show lenS [textS x, textS y] + 2 + 7 ≤ _
      rw [lenS_cons, lenS_cons, lenS_nil]; omega
theorem fit_dpt {w : Nat} : ∀ {k : Nat} (d : PyData), fit w k d → dpt d ≤ k
  | _, .none, _ => by simp only [dpt]; omega
  | _, .bool _, _ => by simp only [dpt]; omega
  | _, .int _, _ => by simp only [dpt]; omega
  | _, .str _, _ => by simp only [dpt]; omega
  | _, .dict _, _ => by simp only [dpt]; omega
  | 0, .list _, f => by simp only [K7.fit] at f
  | 0, .tuple _, f => by simp only [K7.fit] at f
  | k + 1, .list ds, f => by
    obtain ⟨_, hd⟩ := fit_lst.mp f
    have key : ∀ l : List PyData, (∀ x ∈ l, dpt x ≤ k) → dptA l ≤ k := by
      intro l
      induction l with
      | nil => intro _; simp only [dptA]; omega
      | cons x r ih => intro h; simp only [dptA]; exact Nat.max_le.mpr ⟨h x List.mem_cons_self, ih fun y m => h y (List.mem_cons_of_mem _ m)⟩
    simp only [dpt]
    have := key ds fun x m => fit_dpt x (hd x m)
    omega
  | k + 1, .tuple ds, f => by
    obtain ⟨_, hd⟩ := fit_tup.mp f
    have key : ∀ l : List PyData, (∀ x ∈ l, dpt x ≤ k) → dptA l ≤ k := by
      intro l
      induction l with
      | nil => intro _; simp only [dptA]; omega
      | cons x r ih => intro h; simp only [dptA]; exact Nat.max_le.mpr ⟨h x List.mem_cons_self, ih fun y m => h y (List.mem_cons_of_mem _ m)⟩
    simp only [dpt]
    have := key ds fun x m => fit_dpt x (hd x m)
    omega
end K7
end Bf

set_option linter.all false
namespace Bf
open PySem PySem.Spec PyProof.Rows L2
namespace K7
/-- every sign is one -/
def Sm (z : Str) : Prop := ∀ c ∈ TL.tl z, c < 1114112
theorem sm_app {x y : Str} (a : Sm x) (b : Sm y) : Sm (x ++ y) := fun c m => by
  rw [TL.tl_append] at m
  exact (List.mem_append.mp m).elim (a c) (b c)
theorem sm_join {y : Str} {zs : List Str} (a : Sm y) (b : ∀ z ∈ zs, Sm z) : Sm (Txt.join y zs) := fun c m => by
  have e : Txt.join y zs = Str.join y zs := StrLaws.glued_eq_join _ _
  have m : c ∈ (Txt.join y zs).cps.toList := m
  rw [e, mem_join] at m
  rcases m with ⟨t, mt, mc⟩ | ⟨_, mc⟩
  · exact b t mt c mc
  · exact a c mc
theorem sm_lit : ∀ z ∈ (["(", ")", " ", "x", ",", "no", "\n", "[", "", "()", ")("] : List Str), Sm z := by
  have : (["(", ")", " ", "x", ",", "no", "\n", "[", "", "()", ")("] : List Str).all (fun z => (TL.tl z).all fun c => decide (c < 1114112)) = true := by decide +kernel
  intro z m c mc
  exact of_decide_eq_true (List.all_eq_true.mp (List.all_eq_true.mp this z m) c mc)
theorem sm_of {z : Str} (h : ((TL.tl z).all fun c => decide (c < 1114112)) = true) : Sm z := fun c mc => of_decide_eq_true (List.all_eq_true.mp h c mc)
theorem sm_brack {ws : List Str} (h : ∀ w ∈ ws, Sm w) : Sm (brack ws) := sm_app (sm_app (sm_lit _ (by simp)) (sm_join (sm_lit _ (by simp)) h)) (sm_lit _ (by simp))
theorem num_sm_all : (List.range 256).all (fun n => (TL.tl (numStr ((n : Nat) : Int))).all fun c => decide (c < 1114112)) = true := by decide +kernel
theorem sm_num {i : Int} (a : 0 ≤ i) (b : i ≤ 255) : Sm (numStr i) := by
  obtain ⟨n, rfl⟩ := Int.eq_ofNat_of_zero_le a
  exact sm_of (List.all_eq_true.mp num_sm_all n (List.mem_range.mpr (by omega)))
theorem sm_name {z : Str} (h : nameS z = true) : Sm z := fun c m => by
  unfold nameS at h
  have g := List.all_eq_true.mp (Bool.and_eq_true_iff.mp h).2 c m
  unfold signB at g
  have g2 := (Bool.and_eq_true_iff.mp g).2
  rw [Bool.not_eq_true'] at g2
  have g3 := of_decide_eq_false g2
  have e : ("z" : Str).cps.toList = [122] := by decide +kernel
  rw [e] at g3
  have : ¬ 122 < c := fun l => g3 (List.Lex.rel l)
  omega
theorem sm_kind {d : PyData} (h : kindD d = true) : Sm (wKind d) := by
  rcases kind_inv h with ⟨i, rfl, a, b⟩ | ⟨i, j, rfl, a, b, c, e⟩
  · exact sm_num (by omega) (by omega)
  · rw [wKind_two]
    exact sm_app (sm_app (sm_num (by omega) (by omega)) (sm_lit _ (by simp))) (sm_num (by omega) (by omega))
theorem sm_worth {d k : PyData} (hk : kindD k = true) (h : worthD d k = true) : Sm (wWorth d) := by
  rcases worth_inv hk h with ⟨i, rfl, a, b⟩ | ⟨is, rfl, l2, l4, hi⟩
  · exact sm_num a b
  · rw [wWorth_list]
    refine sm_join (sm_lit _ (by simp)) fun z m => ?_
    obtain ⟨j, mj, rfl⟩ := List.mem_map.mp m
    exact sm_num (hi j mj).1 (hi j mj).2
theorem forms_sm : FM.all (fun p => (TL.tl p.1).all fun c => decide (c < 1114112)) = true := by decide +kernel
theorem sm_head {c : Str} {r : List PyData} (h : termD (.tuple (.str c :: r)) = true) : Sm c := by
  rw [termD_eq, Bool.and_eq_true, Bool.and_eq_true] at h
  obtain ⟨c', r', ss, e, el, _⟩ := formed_inv h.1.1
  have ec : c' = c := by
    have := PyData.tuple.inj e
    exact (PyData.str.inj (List.cons.inj this).1).symm
  subst ec
  obtain ⟨k, m, ek⟩ := lk_mem el
  have ek : k = c' := eq_of_beq ek
  subst ek
  exact sm_of (List.all_eq_true.mp forms_sm _ m)
theorem lt_sm : ∀ (n k : Nat) (d : PyData), k < n → LT k d → Sm (textS d)
  | 0, _, _, h, _ => absurd h (Nat.not_lt_zero _)
  | n + 1, k, d, hk, lt => by
    rcases lt.text with ⟨kd, wd, rfl, kk, wk, et⟩ | ⟨ds, rfl, l2, l4, hs, et⟩ | ⟨c, ps, rfl, nl, nr, lc, l1, l3, hp, et⟩
    · rw [et]
      refine sm_brack fun w m => ?_
      simp only [List.mem_cons, List.not_mem_nil, or_false] at m
      rcases m with rfl | rfl | rfl
      · exact sm_of (by decide +kernel)
      · exact sm_kind kk
      · exact sm_worth kk wk
    · rw [et]
      refine sm_brack fun w m => ?_
      rcases List.mem_cons.mp m with rfl | m
      · exact sm_of (by decide +kernel)
      · obtain ⟨x, mx, rfl⟩ := List.mem_map.mp m
        obtain ⟨j, jk, lj⟩ := hs x mx
        exact lt_sm n j x (by omega) lj
    · rw [et]
      have hc := sm_head lt.term
      refine sm_brack fun w m => ?_
      rcases List.mem_cons.mp m with rfl | m
      · exact hc
      · obtain ⟨x, mx, rfl⟩ := List.mem_map.mp m
        rcases hp x mx with ⟨j, jk, lj⟩ | ⟨z, rfl, hz⟩ | ⟨i, rfl, i0, i8⟩
        · rw [lj.part_eq]
          exact lt_sm n j x (by omega) lj
        · exact sm_name hz
        · exact sm_num i0 (by omega)
theorem LT.sm {k : Nat} {d : PyData} (h : LT k d) : Sm (textS d) := lt_sm (k + 1) k d (Nat.lt_succ_self _) h
theorem sm_cut {z : Str} (h : Sm z) (lo hi : Option Int) : Sm (cutS z lo hi) := fun c m => h c (List.mem_of_mem_drop (List.mem_of_mem_take m))
theorem sm_repl {x y z : Str} (a : Sm x) (b : Sm z) : Sm (Txt.replace x y z) := by
  unfold Txt.replace
  split
  · exact a
  · intro c m
    have m : c ∈ (Builtin.Str.glued z (Builtin.Str.partsBetween x (Builtin.Str.occurrences x y 0 x.length (x.length + 1)) y.length)).cps.toList := m
    rw [StrLaws.glued_eq_join, mem_join] at m
    rcases m with ⟨t, mt, mc⟩ | ⟨_, mc⟩
    · unfold Builtin.Str.partsBetween at mt
      obtain ⟨⟨i, j⟩, _, rfl⟩ := List.mem_map.mp mt
      refine a c ?_
      have mc : c ∈ (x.cps.extract i j).toList := mc
      rw [Array.toList_extract] at mc
      exact List.mem_of_mem_drop (List.mem_of_mem_take mc)
    · exact b c mc
end K7
end Bf

set_option linter.all false
namespace Bf
open PySem PySem.Spec PyProof.Rows L2
theorem ixT {X : Cx} {K : PySem.W.Frag} (h : X.K = K) : IxR X (rIxT K) := by
  subst h
  exact ix_tup
namespace K7
section
variable {P : Program} {w : World} {K : PySem.W.Frag} {mg : Str → Option Value} {base : Heap}
abbrev pTake : List Str := ["_law_box_here", "_law_many"]
/-- a digit is taken -/
theorem take_ok {σ : L2.St} {i : Nat} {p : Addr} {N n : Int} {E : XK} {H : Hp} {Q : VK} (hσ : σ[i]? = some (some (.ref p))) (pu : Purse H p n) (hn : n ≤ 100000) (h0 : 0 < N) (h1 : N < 1000000)
    (q : ∀ d G, 0 ≤ d → d < N → Kp (· ≠ p) H G → Purse G p (n + 1) → Q (.int d) G) : tCall spTake [] E (tCons (tVar i) (tCons (tC (.int N)) tNil)) σ H Q :=
  ⟨_, hσ, p, N, n, rfl, pu, hn, h0, h1, fun d G d0 d1 pu eq => q d G d0 d1 (kp_take eq) pu⟩
theorem _root_.Bf.Purse.ne {H : Hp} {p a : Addr} {n : Int} (pu : Purse H p n) (h : H a = none) : a ≠ p := let ⟨_, _, _, e, _⟩ := pu; ne_free e h
theorem _root_.Bf.Purse.same {H G : Hp} {p : Addr} {n : Int} (pu : Purse H p n) (s : Same H G) : Purse G p n := let ⟨x, y, z, e, r⟩ := pu; ⟨x, y, z, s _ _ e, r⟩
theorem _root_.Bf.Purse.back {H G : Hp} {p a : Addr} {n : Int} (pu : Purse G p n) (k : Kp (· ≠ p) H G) (h : G a = none) : H a = none := let ⟨_, _, _, e, _⟩ := pu; fr_back k e h
/-! ### _law_name -/
abbrev LET : Str := "abcdefghijklmnopqrstuvwxyz"
def spLN : Sp := fun vs H Q _ => ∃ (p : Addr) (n : Int), vs = [.ref p] ∧ Purse H p n ∧ n ≤ 99980 ∧ ∀ z G, nameS z = true → Kp (· ≠ p) H G → Purse G p (n + 11) → Q (.str z) G
abbrev nLN : List Str := ["_law_box_here", "_law_letters", "_law_k"]
theorem scLN : FnScope nLN ["_law_box_here"] (defScope sLName) := ⟨rfl, rfl, rfl, by decide +kernel, rfl, by decide +kernel, by decide +kernel⟩
theorem at_let {d N : Int} (d0 : 0 ≤ d) (d1 : d < N) (hN : N ≤ 26) : ∃ c, atI LET.cps.toList d = some c ∧ c ∈ LET.cps.toList := by
  have l : LET.cps.toList.length = 26 := by decide +kernel
  have lt : d.toNat < LET.cps.toList.length := by omega
  refine ⟨LET.cps.toList[d.toNat], ?_, List.getElem_mem lt⟩
  have e := atI_nat (List.getElem?_eq_getElem lt)
  rw [Int.toNat_of_nonneg d0] at e
  exact e
theorem let_sign : ∀ c ∈ LET.cps.toList, signB c = true := by decide +kernel
/-- signs put together -/
theorem word_ok {cs : List Nat} (h : ∀ c ∈ cs, c ∈ LET.cps.toList) (l1 : 1 ≤ cs.length) (l : cs.length ≤ 8) : nameS (Txt.join "" (cs.map fun c => (⟨#[c]⟩ : Str))) = true := by
  have hl : (Txt.join "" (cs.map fun c => (⟨#[c]⟩ : Str))).length = cs.length := by
    have e := size_glued "" (cs.map fun c => (⟨#[c]⟩ : Str))
    have s0 : ∀ l : List Nat, ((l.map fun c => (⟨#[c]⟩ : Str)).map (·.length)).sum = l.length := by
      intro l
      induction l with
      | nil => rfl
      | cons a r ih => rw [List.map_cons, List.map_cons, List.sum_cons, ih, List.length_cons]; show 1 + r.length = _; omega
    rw [s0] at e
    show (Builtin.Str.glued "" _).length = _
    rw [e, show (("" : Str)).length = 0 from rfl]
    omega
  unfold nameS
  rw [hl, decide_eq_true l1, decide_eq_true l]
  refine List.all_eq_true.mpr fun c m => ?_
  have e : Txt.join "" (cs.map fun c => (⟨#[c]⟩ : Str)) = Str.join "" (cs.map fun c => (⟨#[c]⟩ : Str)) := StrLaws.glued_eq_join _ _
  rw [e, mem_join] at m
  rcases m with ⟨t, mt, mc⟩ | ⟨_, mc⟩
  · obtain ⟨x, mx, rfl⟩ := List.mem_map.mp mt
    rw [List.mem_singleton.mp (show c ∈ [x] from mc)]
    exact let_sign x (h x mx)
  · cases mc
theorem ok_lname {f ft : Addr} {fd fdt : FuncData} (F : Fun K "_law_name" "_law_name" sLName f fd) (DT : Df K mg "_law_take" ft fdt pTake) (GT : FnOk P w K mg base CX0 1 ft fdt pTake spTake) (mr : mg "range" = none) :
    FnOk P w K mg base CX0 2 f fd ["_law_box_here"] spLN := by
  refine F.ok scLN (fun vs H Q E h => ?_) (fun cdv A outer s H vs Q E hr h => ?_)
  · obtain ⟨p, n, rfl, _⟩ := h
    rfl
  · obtain ⟨p, n, rfl, pu, hn, q⟩ := h
    refine ⟨_, pss_cons (ps_set (i := 1) scLN.nd rfl (Or.inr rfl) pe_str)
      (pss_cons (ps_if (pt_cmpR op_eq (pe_call GT hr (by rfl) DT.at_ DT.kp DT.bd .nil pass0 (pa_cons (pv 0) (pa_cons pe_int pa_nil))) pe_int (nomark _))
        (pss_one (ps_ret (pe_ix ix_list (pe_lst (pa_cons pe_str (pa_cons pe_str (pa_cons pe_str (pa_cons pe_str (pa_cons pe_str (pa_cons pe_str (pa_cons pe_str (pa_cons pe_str pa_nil)))))))))
          (pe_call GT hr (by rfl) DT.at_ DT.kp DT.bd .nil pass0 (pa_cons (pv 0) (pa_cons pe_int pa_nil))) (fun _ _ => rfl)))) pss_nil)
      (pss_one (ps_ret (pe_join pe_str (pe_lc (own := [("_law_k", 2)]) (g := gName 2) (tt := tYes) rfl scLN.nd (pi_range1 (by rfl) mr (pa_cons (pe_op op_add pe_int (pe_call GT hr (by rfl) DT.at_ DT.kp DT.bd .nil pass0 (pa_cons (pv 0) (pa_cons pe_int pa_nil)))) pa_nil)) (blkOk_by (N := nLN) (sc := defScope sLName) (by decide +kernel))
        (fun _ _ _ _ _ => pg_name (i := 2) scLN.nd rfl (Or.inl rfl)) (fun _ _ _ _ _ => pts_nil) (fun _ _ _ _ _ => pe_ix ix_str (pv 1) (pe_call GT hr (by rfl) DT.at_ DT.kp DT.bd .nil pass0 (pa_cons (pv 0) (pa_cons pe_int pa_nil))) (fun _ _ => rfl))))))), ?_⟩
    refine take_ok (i := 0) rfl pu (by omega) (by decide) (by decide) (fun d H1 d0 d1 k1 pu1 => ?_)
    refine ⟨rfl, _, rfl, ite2 (fun _ => ?_) (fun _ => ?_)⟩
    · refine ⟨by show 8 ≤ sizeLine; decide, fun L hL => ?_⟩
      have nL := pu1.ne hL
      refine take_ok (i := 0) rfl (pu1.of (upd_ne nL.symm)) (by omega) (by decide) (by decide) (fun e H2 e0 e1 k2 pu2 => ?_)
      obtain ⟨v, mv, ev⟩ := pick (xs := [V.str "name", .str "lit", .str "last", .str "add", .str "row", .str "when", .str "on", .str "let"]) e0 e1
      refine ⟨L, _, e, v, rfl, rfl, SqL.of (k2 _ _ nL upd_same), ev, ?_⟩
      clear ev
      obtain ⟨y, rfl, fy⟩ : ∃ y : Str, v = .str y ∧ nameS y = true := by
        simp only [List.mem_cons, List.not_mem_nil, or_false] at mv
        rcases mv with rfl | rfl | rfl | rfl | rfl | rfl | rfl | rfl <;> exact ⟨_, rfl, by decide +kernel⟩
      exact q _ _ fy (fun a o na h => k2 a o na (same_new hL _ _ (k1 a o na h))) (pu2.mono (by omega))
    · refine ⟨⟨_, rfl⟩, ?_⟩
      show tCall spTake [] _ (tCons (tVar 0) (tCons (tC (.int 8)) tNil)) _ _ _
      refine take_ok (i := 0) rfl pu1 (by omega) (by decide) (by decide) (fun e H2 e0 e1 k2 pu2 => ⟨_, _, rfl, rfl, 1 + e, rfl, by omega, by omega, fun D hD => ?_⟩)
      have nD := pu2.ne hD
      have k02 : Kp (· ≠ p) H H2 := fun a o na h => k2 a o na (k1 a o na h)
      refine lc_range (lo := 0) (n := (1 + e).toNat) (fun k G => ∃ cs : List Nat, cs.length = k ∧ (∀ c ∈ cs, c ∈ LET.cps.toList) ∧ G D = some (.lst ((cs.map fun c => (⟨#[c]⟩ : Str)).map V.str)) ∧ Kp (· ≠ p) H2 G ∧ Purse G p (n + 1 + 1 + (k : Int)))
        ⟨[], rfl, (fun _ m => nomatch m), upd_same, kp_same (same_new hD), by rw [show n + 1 + 1 + ((0 : Nat) : Int) = n + 1 + 1 by omega]; exact pu2.of (upd_ne nD.symm)⟩ (fun k G hk pv => ?_) fun G pv => ?_
      · obtain ⟨cs, lc, hc, gD, kG, pG⟩ := pv
        refine ⟨rfl, _, rfl, take_ok (i := 0) rfl pG (by omega) (by decide) (by decide) (fun d G2 d0 d1 k3 pu3 => ?_)⟩
        obtain ⟨c, ec, mc⟩ := at_let d0 d1 (by decide)
        refine ⟨LET, d, c, rfl, rfl, by decide +kernel, ec, _, k3 _ _ nD gD, by rw [List.length_map, List.length_map, lc]; exact small1000 (by omega), cs ++ [c], by rw [List.length_append, lc]; rfl, fun x m => ?_, ?_, fun a o na h => ?_, ?_⟩
        · rcases List.mem_append.mp m with m | m
          · exact hc x m
          · rw [List.mem_singleton.mp m]; exact mc
        · rw [upd_same, List.map_append, List.map_append]; rfl
        · rw [upd_ne (ne_of_none h hD)]
          exact k3 a o na (kG a o na h)
        · rw [show n + 1 + 1 + ((k + 1 : Nat) : Int) = n + 1 + 1 + (k : Int) + 1 by omega]
          exact pu3.of (upd_ne nD.symm)
      · obtain ⟨cs, lc, hc, gD, kG, pG⟩ := pv
        have w0 := word_ok hc (by omega) (by omega)
        have sz0 : (((cs.map fun c => (⟨#[c]⟩ : Str))).map (·.length)).sum = cs.length := by
          have : ∀ l : List Nat, ((l.map fun c => (⟨#[c]⟩ : Str)).map (·.length)).sum = l.length := by
            intro l
            induction l with
            | nil => rfl
            | cons a r ih => rw [List.map_cons, List.map_cons, List.sum_cons, ih, List.length_cons]; show 1 + r.length = _; omega
          exact this cs
        refine ⟨"", D, _, rfl, rfl, .inl (SqL.of gD), ?_, ?_⟩
        · rw [sz0, lc, List.length_map, lc]
          show (1 + e).toNat + (1 + e).toNat * 0 ≤ 16777216
          omega
        · exact q _ _ w0 (fun a o na h => kG a o na (k02 a o na h)) (pG.mono (by omega))
end
end K7
end Bf

set_option linter.all false
namespace Bf
open PySem PySem.Spec PyProof.Rows L2
namespace K7
section
variable {p : Addr} {H G G' : Hp} {v : V} {d : PyData} {n : Int}
theorem sh_step (pu : Purse H p n) (k : Kp (· ≠ p) G G') (h : Sh G (Fr H) true v d) : Sh G' (Fr H) true v d := Sh.on (fun _ _ f _ => f) (fun a o f e => k a o (pu.ne f) e) d v h
theorem sh_same {P : Addr → Prop} {b : Bool} (s : Same G G') (h : Sh G P b v d) : Sh G' P b v d := Sh.on (fun _ _ f _ => f) (fun a o _ e => s a o e) d v h
theorem sh_back (pu : Purse G p n) (k : Kp (· ≠ p) H G) (h : Sh G' (Fr G) true v d) : Sh G' (Fr H) true v d := Sh.on (fun _ _ f _ => pu.back k f) (fun _ _ _ e => e) d v h
theorem shAll_same {P : Addr → Prop} {b : Bool} {vs : List V} {ds : List PyData} (s : Same G G') (h : ShAll G P b vs ds) : ShAll G' P b vs ds := ShAll.on (fun _ _ f _ => f) (fun a o _ e => s a o e) ds vs h
theorem shAll_step {vs : List V} {ds : List PyData} (pu : Purse H p n) (k : Kp (· ≠ p) G G') (h : ShAll G (Fr H) true vs ds) : ShAll G' (Fr H) true vs ds := ShAll.on (fun _ _ f _ => f) (fun a o f e => k a o (pu.ne f) e) ds vs h
theorem shAll_ints {P : Addr → Prop} {b : Bool} : ∀ ns : List Int, ShAll G P b (ns.map V.int) (ns.map PyData.int)
  | [] => .nil
  | n :: r => .cons (.int n) (shAll_ints r)
theorem ShAll.snoc {P : Addr → Prop} {b : Bool} : ∀ {vs : List V} {ds : List PyData}, ShAll G P b vs ds → Sh G P b v d → ShAll G P b (vs ++ [v]) (ds ++ [d])
  | _, _, .nil, h => .cons h .nil
  | _, _, .cons a r, h => .cons a (ShAll.snoc r h)
end
section
variable {P : Program} {w : World} {K : PySem.W.Frag} {mg : Str → Option Value} {base : Heap}
/-! ### _law_kind -/
def spLK : Sp := fun vs H Q _ => ∃ (p : Addr) (n : Int), vs = [.ref p] ∧ Purse H p n ∧ n ≤ 99980 ∧ ∀ v d G, Sh G (Fr H) true v d → kindD d = true → Kp (· ≠ p) H G → Purse G p (n + 3) → Q v G
theorem scLK : FnScope ["_law_box_here", "_law_wide"] ["_law_box_here"] (defScope sLKind) := ⟨rfl, rfl, rfl, by decide +kernel, rfl, by decide +kernel, by decide +kernel⟩
theorem ok_lkind {f ft : Addr} {fd fdt : FuncData} (F : Fun K "_law_kind" "_law_kind" sLKind f fd) (DT : Df K mg "_law_take" ft fdt pTake) (GT : FnOk P w K mg base CX0 1 ft fdt pTake spTake) : FnOk P w K mg base CX0 2 f fd ["_law_box_here"] spLK := by
  refine F.ok scLK (fun vs H Q E h => ?_) (fun cdv A outer s H vs Q E hr h => ?_)
  · obtain ⟨p, n, rfl, _⟩ := h
    rfl
  · obtain ⟨p, n, rfl, pu, hn, q⟩ := h
    refine ⟨_, pss_cons (ps_set (i := 1) scLK.nd rfl (Or.inl rfl) (pe_op op_add pe_int (pe_call GT hr (by rfl) DT.at_ DT.kp DT.bd .nil pass0 (pa_cons (pv 0) (pa_cons pe_int pa_nil)))))
      (pss_one (ps_ret (pe_ifExp (pt_cmpR op_eq (pe_call GT hr (by rfl) DT.at_ DT.kp DT.bd .nil pass0 (pa_cons (pv 0) (pa_cons pe_int pa_nil))) pe_int (nomark _))
        (pe_tup (pa_cons (pe_op op_add pe_int (pe_call GT hr (by rfl) DT.at_ DT.kp DT.bd .nil pass0 (pa_cons (pv 0) (pa_cons pe_int pa_nil)))) (pa_cons (pv 1) pa_nil))) (pv 1)))), ?_⟩
    show tCall spTake [] _ (tCons (tVar 0) (tCons (tC (.int 8)) tNil)) _ _ _
    refine take_ok (i := 0) rfl pu (by omega) (by decide) (by decide) (fun d H1 d0 d1 k1 pu1 => ⟨_, _, rfl, rfl, ?_⟩)
    dsimp only [gName]
    show tCall spTake [] _ (tCons (tVar 0) (tCons (tC (.int 3)) tNil)) _ _ _
    refine take_ok (i := 0) rfl pu1 (by omega) (by decide) (by decide) (fun e H2 e0 e1 k2 pu2 => ⟨rfl, _, rfl, ?_⟩)
    have k02 : Kp (· ≠ p) H H2 := fun a o na h => k2 a o na (k1 a o na h)
    refine ite2 (fun _ => ?_) (fun _ => ?_)
    · show tCall spTake [] _ (tCons (tVar 0) (tCons (tC (.int 3)) tNil)) _ _ _
      refine take_ok (i := 0) rfl pu2 (by omega) (by decide) (by decide) (fun m H3 m0 m3 k3 pu3 => ⟨_, _, rfl, rfl, _, rfl, by show 2 ≤ sizeLine; decide, fun t ht => ?_⟩)
      have k03 : Kp (· ≠ p) H H3 := fun a o na h => k3 a o na (k02 a o na h)
      refine q _ (.tuple [.int (2 + m), .int (1 + d)]) _ (.tup upd_same (pu3.back k03 ht) (.cons (.int _) (.cons (.int _) .nil))) ?_ (fun a o na h => same_new ht _ _ (k03 a o na h)) ((pu3.of (upd_ne (pu3.ne ht).symm)).mono (by omega))
      show (wholeD (.int (2 + m)) 2 4 && wholeD (.int (1 + d)) 1 8) = true
      rw [whole_of (by omega) (by omega), whole_of (by omega) (by omega)]
      rfl
    · exact ⟨_, rfl, q _ (.int (1 + d)) _ (.int _) (whole_of (by omega) (by omega)) k02 (pu2.mono (by omega))⟩
/-! ### _law_worth -/
def spLW : Sp := fun vs H Q _ => ∃ (p : Addr) (n : Int) (k : V) (d : PyData) (Z : Addr → Prop), vs = [.ref p, k] ∧ Purse H p n ∧ n ≤ 99980 ∧ (∀ a, Z a → a ≠ p) ∧ Sh H Z true k d ∧ kindD d = true ∧
  ∀ v x G, Sh G (Fr H) true v x → worthD x d = true → Kp (· ≠ p) H G → Purse G p (n + 4) → Q v G
abbrev pLW : List Str := ["_law_box_here", "_law_kind_here"]
abbrev nLW : List Str := ["_law_box_here", "_law_kind_here", "_law_k"]
theorem scLW : FnScope nLW pLW (defScope sLWorth) := ⟨rfl, rfl, rfl, by decide +kernel, rfl, by decide +kernel, by decide +kernel⟩
theorem pow_kind {z : Int} (z1 : 1 ≤ z) (z8 : z ≤ 8) : 2 ≤ (2 : Int) ^ z.toNat ∧ (2 : Int) ^ z.toNat ≤ 256 := by
  have c : z = 1 ∨ z = 2 ∨ z = 3 ∨ z = 4 ∨ z = 5 ∨ z = 6 ∨ z = 7 ∨ z = 8 := by omega
  rcases c with rfl | rfl | rfl | rfl | rfl | rfl | rfl | rfl <;> exact ⟨by decide, by decide⟩
theorem ok_lworth {f ft : Addr} {fd fdt : FuncData} (F : Fun K "_law_worth" "_law_worth" sLWorth f fd) (DT : Df K mg "_law_take" ft fdt pTake) (GT : FnOk P w K mg base CX0 1 ft fdt pTake spTake) (mi : mg "isinstance" = none) (mt : mg "tuple" = none) (mr : mg "range" = none) :
    FnOk P w K mg base CX0 2 f fd pLW spLW := by
  refine F.ok scLW (fun vs H Q E h => ?_) (fun cdv A outer s H vs Q E hr h => ?_)
  · obtain ⟨p, n, k, d, Z, rfl, _⟩ := h
    rfl
  · obtain ⟨p, n, k, d, Z, rfl, pu, hn, hz, hk, kd, q⟩ := h
    refine ⟨_, pss_cons (ps_if (pt_val (pe_callB call_isi (by rfl) mi (by decide +kernel) (pa_cons (pv 1) (pa_cons (pe_bltn (v := .ty "tuple") (by rfl) mt (by decide +kernel) rfl) pa_nil))))
        (pss_one (ps_ret (pe_callTy call_tuple_of (by rfl) mt (by decide +kernel) (pa_cons (pe_lc (own := [("_law_k", 2)]) (g := gName 2) (tt := tYes) rfl scLW.nd (pi_range1 (by rfl) mr (pa_cons (pe_ix ix_tup (pv 1) pe_int (fun _ _ => rfl)) pa_nil)) (blkOk_by (N := nLW) (sc := defScope sLWorth) (by decide +kernel))
          (fun _ _ _ _ _ => pg_name (i := 2) scLW.nd rfl (Or.inl rfl)) (fun _ _ _ _ _ => pts_nil) (fun _ _ _ _ _ => pe_call GT hr (by rfl) DT.at_ DT.kp DT.bd .nil pass0 (pa_cons (pv 0) (pa_cons (pe_op op_shl pe_int (pe_ix (ixT (K := K) rfl) (pv 1) pe_int (fun _ _ => rfl))) pa_nil)))) pa_nil)))) pss_nil)
      (pss_one (ps_ret (pe_ix ix_list (pe_lst (pa_cons (pe_op op_sub (pe_op op_shl pe_int (pv 1)) pe_int) (pa_cons (pe_call GT hr (by rfl) DT.at_ DT.kp DT.bd .nil pass0 (pa_cons (pv 0) (pa_cons (pe_op op_shl pe_int (pv 1)) pa_nil))) pa_nil)))
        (pe_call GT hr (by rfl) DT.at_ DT.kp DT.bd .nil pass0 (pa_cons (pv 0) (pa_cons pe_int pa_nil))) (fun _ _ => rfl)))), ?_⟩
    rcases kind_inv kd with ⟨z, rfl, z1, z8⟩ | ⟨c, z, rfl, c2, c4, z1, z8⟩
    · cases hk
      obtain ⟨t2, t256⟩ := pow_kind z1 z8
      refine ⟨_, rfl, .int z, .ty "tuple", _, _, _, rfl, .ty "tuple", (Kn.int (K := K) (H := H) z).ty, kit_ty (by decide +kernel), _, rfl, iteF ?_⟩
      refine ⟨_, rfl, _, _, rfl, rfl, ⟨by omega, by omega, by decide⟩, _, _, rfl, rfl, ?_⟩
      refine ⟨_, rfl, _, rfl, _, _, rfl, rfl, ⟨by omega, by omega, by decide⟩, p, _, n, rfl, pu, by omega, by omega, by omega, fun d H1 d0 d1 pu1 eq1 => ?_⟩
      refine ⟨by show 2 ≤ sizeLine; decide, fun L hL => ?_⟩
      have nL := pu1.ne hL
      refine take_ok (i := 0) rfl (pu1.of (upd_ne nL.symm)) (by omega) (by decide) (by decide) (fun e H2 e0 e1 k2 pu2 => ?_)
      obtain ⟨v, mv, ev⟩ := pick (xs := [.int (1 * 2 ^ z.toNat - 1), .int d]) e0 e1
      refine ⟨L, _, e, v, rfl, rfl, SqL.of (k2 _ _ nL upd_same), ev, ?_⟩
      have k02 : Kp (· ≠ p) H H2 := fun a o na h => k2 a o na (by rw [upd_ne (ne_of_none ((eq1 a na).trans h) hL)]; exact (eq1 a na).trans h)
      clear ev
      simp only [List.mem_cons, List.not_mem_nil, or_false] at mv
      have pu2' := pu2.mono (m := n + 4) (by omega)
      have wk : ∀ i : Int, 0 ≤ i → i ≤ 2 ^ z.toNat - 1 → worthD (.int i) (.int z) = true := fun i a b => whole_of a b
      rcases mv with rfl | rfl
      · exact q _ _ _ (.int _) (wk _ (by omega) (by omega)) k02 pu2'
      · exact q _ _ _ (.int _) (wk _ d0 (by omega)) k02 pu2'
    · cases hk with
      | @tup t xs ds ht hzt hr2 =>
      cases hr2 with
      | @cons v0 vs0 d0 ds0 h0 hr2 =>
      cases hr2 with
      | @cons v1 vs1 d1 ds1 h1 hr2 =>
      cases hr2
      cases h0
      cases h1
      have ntp := hz _ hzt
      obtain ⟨t2, t256⟩ := pow_kind z1 z8
      refine ⟨_, rfl, .ref t, .ty "tuple", _, _, _, rfl, .ty "tuple", (Kn.tup (K := K) (.base (.tup ht))).ty, kit_ty (by decide +kernel), _, rfl, iteT ?_⟩
      refine ⟨_, rfl, t, _, 0, _, rfl, rfl, SqT.of ht, rfl, c, rfl, by omega, by omega, fun D hD => ?_⟩
      have nD := pu.ne hD
      refine lc_range (lo := 0) (n := c.toNat) (fun k G => ∃ js : List Int, js.length = k ∧ (∀ j ∈ js, 0 ≤ j ∧ j ≤ 2 ^ z.toNat - 1) ∧ G D = some (.lst (js.map V.int)) ∧ Kp (· ≠ p) H G ∧ Purse G p (n + (k : Int)))
        ⟨[], rfl, (fun _ m => nomatch m), upd_same, kp_same (same_new hD), by rw [show n + ((0 : Nat) : Int) = n by omega]; exact pu.of (upd_ne nD.symm)⟩ (fun k G hk pv => ?_) fun G pv => ?_
      · obtain ⟨js, lj, hj, gD, kG, pG⟩ := pv
        refine ⟨rfl, _, rfl, _, rfl, t, _, 1, _, rfl, rfl, SqT.of (kG _ _ ntp ht), rfl, _, _, rfl, rfl, ⟨by omega, by omega, by decide⟩, p, _, _, rfl, pG, by omega, by omega, by omega, fun i G2 i0 i1 pu2 eq2 => ?_⟩
        have k2 := kp_take eq2
        refine ⟨_, k2 _ _ nD gD, by rw [List.length_map, lj]; exact small1000 (by omega), js ++ [i], by rw [List.length_append, lj]; rfl, fun x mx => ?_, ?_, fun a o na h => ?_, ?_⟩
        · rcases List.mem_append.mp mx with mx | mx
          · exact hj x mx
          · rw [List.mem_singleton.mp mx]; exact ⟨i0, by omega⟩
        · rw [upd_same, List.map_append]; rfl
        · rw [upd_ne (ne_of_none h hD)]
          exact k2 a o na (kG a o na h)
        · rw [show n + ((k + 1 : Nat) : Int) = n + (k : Int) + 1 by omega]
          exact pu2.of (upd_ne nD.symm)
      · obtain ⟨js, lj, hj, gD, kG, pG⟩ := pv
        refine ⟨D, _, rfl, .inl ⟨SqL.of gD, fun u hu => ?_⟩⟩
        refine q _ (.tuple (js.map PyData.int)) _ (.tup upd_same (pG.back kG hu) (shAll_ints js)) ?_ (fun a o na h => same_new hu _ _ (kG a o na h)) ((pG.of (upd_ne (pG.ne hu).symm)).mono (by omega))
        show (decide (((js.map PyData.int).length : Int) = c) && (js.map PyData.int).all fun e => wholeD e 0 (topW z)) = true
        rw [decide_eq_true (by rw [List.length_map]; omega), Bool.true_and]
        refine List.all_eq_true.mpr fun e m => ?_
        obtain ⟨j, mj, rfl⟩ := List.mem_map.mp m
        exact whole_of (hj j mj).1 (hj j mj).2
end
end K7
end Bf

set_option linter.all false
namespace Bf
open PySem PySem.Spec PyProof.Rows L2
namespace K7
abbrev pTm : List Str := ["_law_box_here", "_law_deep"]
abbrev nLTm : List Str := ["_law_box_here", "_law_deep", "_law_words", "_law_word", "_law_kind_here", "_law_parts", "_law_first", "_law_high", "_law_other", "_law_k"]
theorem scLTm : FnScope nLTm pTm (defScope sLTerm) := ⟨rfl, rfl, rfl, by decide +kernel, rfl, by decide +kernel, by decide +kernel⟩
section
variable {P : Program} {w : World} {K : PySem.W.Frag} {mg : Str → Option Value} {base : Heap}
def spTm (m : Nat) : Sp := fun vs H Q _ => ∃ (p : Addr) (n e : Int) (k : Nat), vs = [.ref p, .int e] ∧ e = (k : Int) ∧ k < m ∧ Purse H p n ∧ n + (T k : Int) ≤ 99900 ∧
  ∀ v d G, Sh G (Fr H) true v d → LT k d → Kp (· ≠ p) H G → Purse G p (n + (T k : Int)) → Q v G
/-- the defs that the makers call -/
structure Mkr (P : Program) (w : World) (K : PySem.W.Frag) (mg : Str → Option Value) (base : Heap) (ft fn fk fo : Addr) (dt dn dk do_ : FuncData) : Prop where
  DT : Df K mg "_law_take" ft dt pTake
  GT : FnOk P w K mg base CX0 1 ft dt pTake spTake
  DN : Df K mg "_law_name" fn dn ["_law_box_here"]
  GN : FnOk P w K mg base CX0 2 fn dn ["_law_box_here"] spLN
  DK : Df K mg "_law_kind" fk dk ["_law_box_here"]
  GK : FnOk P w K mg base CX0 2 fk dk ["_law_box_here"] spLK
  DO : Df K mg "_law_worth" fo do_ pLW
  GO : FnOk P w K mg base CX0 2 fo do_ pLW spLW
abbrev W19 : List Str := ["lit", "name", "last", "first", "not", "and", "or", "xor", "add", "sub", "less", "same", "wide", "bit", "pick", "when", "merge", "row", "at"]
theorem w19 : Txt.split "lit name last first not and or xor add sub less same wide bit pick when merge row at" " " = W19 := by decide +kernel
theorem w19_first : ∀ i, i < 3 → ∀ z, W19[i]? = some z → z ∈ (["lit", "name", "last"] : List Str) := by decide +kernel
/-- a word is picked -/
theorem w19_pick {d : Int} (d0 : 0 ≤ d) (d1 : d < 19) : ∃ z, z ∈ W19 ∧ atI (W19.map V.str) d = some (.str z) ∧ (d < 3 → z ∈ (["lit", "name", "last"] : List Str)) := by
  have hl : W19.length = 19 := rfl
  have lt : d.toNat < W19.length := by rw [hl]; omega
  refine ⟨W19[d.toNat], List.getElem_mem lt, at_of (j := d.toNat) (by omega) (by rw [List.getElem?_map, List.getElem?_eq_getElem lt]; rfl), fun h => w19_first d.toNat (by omega) _ (List.getElem?_eq_getElem lt)⟩
theorem w19_rest : ∀ z ∈ W19, z = "lit" ∨ z = "name" ∨ z = "last" ∨ z = "row" ∨ z = "not" ∨ z = "wide" ∨ z = "bit" ∨ z = "at" ∨ z = "when" ∨ z = "merge" ∨ z = "pick" ∨ z ∈ TWO := by decide +kernel
theorem take_if {σ : L2.St} {i : Nat} {p : Addr} {n : Int} {b : Bool} {tt : TT} {E : XK} {H : Hp} {Q : VK} (ht : ∀ R : Bool → Hp → Prop, R b H → tt σ H R) (hσ : σ[i]? = some (some (.ref p))) (pu : Purse H p n) (hn : n ≤ 100000)
    (q : ∀ d G, 0 ≤ d → d < 19 → (b = true → d < 3) → Kp (· ≠ p) H G → Purse G p (n + 1) → Q (.int d) G) : tCall spTake [] E (tCons (tVar i) (tCons (tIf tt (tC (.int 3)) (tC (.int 19))) tNil)) σ H Q := by
  refine ⟨_, hσ, ht _ ?_⟩
  cases b with
  | true => exact iteT ⟨p, 3, n, rfl, pu, hn, by decide, by decide, fun d G d0 d1 pu eq => q d G d0 (by omega) (fun _ => d1) (kp_take eq) pu⟩
  | false => exact iteF ⟨p, 19, n, rfl, pu, hn, by decide, by decide, fun d G d0 d1 pu eq => q d G d0 d1 (fun z => nomatch z) (kp_take eq) pu⟩
theorem min_one (k : Nat) : (if (1 : Int) < ((k + 1 : Nat) : Int) - 1 then (1 : Int) else ((k + 1 : Nat) : Int) - 1) = ((min k 1 : Nat) : Int) := by
  split <;> omega
theorem str_of {w z : Str} (c : decide (V.str w = V.str z) = true) : w = z := V.str.inj (of_decide_eq_true c)
theorem str_ne {w z : Str} (c : ¬ decide (V.str w = V.str z) = true) : w ≠ z := fun e => c (by rw [e]; exact decide_eq_true rfl)
theorem w19_num : ∀ z ∈ W19, inV (.str z) [.str "wide", .str "bit", .str "at"] = decide (z = "wide" ∨ z = "bit" ∨ z = "at") := by decide +kernel
abbrev DHI : List (Key × V) := [(.inr "wide", .int 8), (.inr "bit", .int 8), (.inr "at", .int 4)]
theorem hi_of {w : Str} (h : w = "wide" ∨ w = "bit" ∨ w = "at") : ∃ N : Int, 0 < N ∧ N ≤ 8 ∧ valV (mergeK [] DHI) (.inr w) = some (.int N) ∧ ∀ i : Int, 0 ≤ i → i < N →
    ((w = "wide" ∧ 1 ≤ i + (if decide (V.str w = V.str "wide") = true then 1 else 0) ∧ i + (if decide (V.str w = V.str "wide") = true then 1 else 0) ≤ 8) ∨
     (w = "bit" ∧ 0 ≤ i + (if decide (V.str w = V.str "wide") = true then 1 else 0) ∧ i + (if decide (V.str w = V.str "wide") = true then 1 else 0) ≤ 7) ∨
     (w = "at" ∧ 0 ≤ i + (if decide (V.str w = V.str "wide") = true then 1 else 0) ∧ i + (if decide (V.str w = V.str "wide") = true then 1 else 0) ≤ 3)) := by
  have e2 : decide (V.str "bit" = V.str "wide") = false := by decide +kernel
  have e3 : decide (V.str "at" = V.str "wide") = false := by decide +kernel
  rcases h with rfl | rfl | rfl
  · exact ⟨8, by decide, by decide, by decide +kernel, fun i a b => .inl ⟨rfl, by rw [decide_eq_true rfl, if_pos rfl]; omega, by rw [decide_eq_true rfl, if_pos rfl]; omega⟩⟩
  · exact ⟨8, by decide, by decide, by decide +kernel, fun i a b => .inr (.inl ⟨rfl, by rw [e2, if_neg Bool.false_ne_true]; omega, by rw [e2, if_neg Bool.false_ne_true]; omega⟩)⟩
  · exact ⟨4, by decide, by decide, by decide +kernel, fun i a b => .inr (.inr ⟨rfl, by rw [e3, if_neg Bool.false_ne_true]; omega, by rw [e3, if_neg Bool.false_ne_true]; omega⟩)⟩
set_option maxHeartbeats 4000000 in
theorem ok_ltm {f ft fn fk fo : Addr} {fd dt dn dk do_ : FuncData} (F : Fun K "_law_term" "_law_term" sLTerm f fd) (D : Df K mg "_law_term" f fd pTm) (M : Mkr P w K mg base ft fn fk fo dt dn dk do_) (mn : mg "min" = none) (mI : mg "int" = none) (mt : mg "tuple" = none) (mr : mg "range" = none) : ∀ m, FnOk P w K mg base CX0 (m + 3) f fd pTm (spTm m)
  | 0 => ⟨fun _ _ _ _ ⟨_, _, _, _, e, _⟩ => by rw [e]; rfl, fun _ _ _ _ _ _ _ _ _ _ _ _ _ ⟨_, _, _, _, _, _, h, _⟩ => absurd h (Nat.not_lt_zero _)⟩
  | m + 1 => by
    have GR := ok_ltm F D M mn mI mt mr m
    refine F.ok scLTm (fun vs H Q E h => ?_) (fun cdv A outer s H vs Q E hr h => ?_)
    · obtain ⟨p, n, e, k, rfl, _⟩ := h
      rfl
    · obtain ⟨p, n, e, k, rfl, he, hk, pu, hn, q⟩ := h
      have hr1 := hr.mono (by omega : 1 ≤ m + 3)
      have hr2 := hr.mono (by omega : 2 ≤ m + 3)
      refine ⟨_, (pss_cons (ps_set (i := 2) scLTm.nd rfl (Or.inl rfl) (pe_split pe_str pe_str))
        (pss_cons (ps_set (i := 3) scLTm.nd rfl (Or.inl rfl) (pe_ix ix_list (pv 2) (pe_call M.GT hr1 (by rfl) M.DT.at_ M.DT.kp M.DT.bd .nil pass0 (pa_cons (pv 0) (pa_cons (pe_ifExp (pt_cmpR op_eq (pv 1) pe_int (nomark _)) pe_int pe_int) pa_nil))) (fun _ _ => rfl)))
        (pss_cons (ps_if (pt_cmpR op_eq (pv 3) pe_str (nomark _)) (pss_cons (ps_set (i := 4) scLTm.nd rfl (Or.inl rfl) (pe_call M.GK hr2 (by rfl) M.DK.at_ M.DK.kp M.DK.bd .nil pass0 (pa_cons (pv 0) pa_nil)))
        (pss_one (ps_ret (pe_tup (pa_cons pe_str (pa_cons (pv 4) (pa_cons (pe_call M.GO hr2 (by rfl) M.DO.at_ M.DO.kp M.DO.bd .nil pass0 (pa_cons (pv 0) (pa_cons (pv 4) pa_nil))) pa_nil))))))) pss_nil)
        (pss_cons (ps_if (PW.pt (pw_or (pt_cmpR op_eq (pv 3) pe_str (nomark _)) (pw_or1 (pt_cmpR op_eq (pv 3) pe_str (nomark _))))) (pss_one (ps_ret (pe_tup (pa_cons (pv 3) (pa_cons (pe_call M.GN hr2 (by rfl) M.DN.at_ M.DN.kp M.DN.bd .nil pass0 (pa_cons (pv 0) pa_nil)) pa_nil))))) pss_nil)
        (pss_cons (ps_if (pt_cmpR op_eq (pv 3) pe_str (nomark _)) (pss_cons (ps_setLc (i := 5) (own := [("_law_k", 9)]) (g := gName 9) (tt := tYes) (by rfl) scLTm.nd rfl rfl (sw_true rfl rfl rfl (by decide +kernel)) (pi_range1 (by rfl) mr (pa_cons (pe_op op_add pe_int (pe_call M.GT hr1 (by rfl) M.DT.at_ M.DT.kp M.DT.bd .nil pass0 (pa_cons (pv 0) (pa_cons pe_int pa_nil)))) pa_nil)) (blkOk_by (N := nLTm) (sc := defScope sLTerm) (by decide +kernel)) (fun _ _ _ _ _ => pg_name (i := 9) scLTm.nd rfl (Or.inl rfl)) (fun _ _ _ _ _ => pts_nil) (fun _ _ _ _ _ => (pe_call GR hr (by rfl) D.at_ D.kp D.bd .nil pass0 (pa_cons (pv 0) (pa_cons (pe_callB (call_min2 rfl) (by rfl) mn (by decide +kernel) (pa_cons (pe_op op_sub (pv 1) pe_int) (pa_cons pe_int pa_nil))) pa_nil)))))
        (pss_one (ps_ret (pe_tup (pa_cons pe_str (pa_cons (pe_op op_catT (pe_tup (pa_cons (pe_call GR hr (by rfl) D.at_ D.kp D.bd .nil pass0 (pa_cons (pv 0) (pa_cons (pe_op op_sub (pv 1) pe_int) pa_nil))) pa_nil)) (pe_callTy call_tuple_of (by rfl) mt (by decide +kernel) (pa_cons (pv 5) pa_nil))) pa_nil)))))) pss_nil)
        (pss_cons (ps_set (i := 6) scLTm.nd rfl (Or.inl rfl) (pe_call GR hr (by rfl) D.at_ D.kp D.bd .nil pass0 (pa_cons (pv 0) (pa_cons (pe_op op_sub (pv 1) pe_int) pa_nil))))
        (pss_cons (ps_if (pt_cmpR op_eq (pv 3) pe_str (nomark _)) (pss_one (ps_ret (pe_tup (pa_cons pe_str (pa_cons (pv 6) pa_nil))))) pss_nil)
        (pss_cons (ps_if (pt_cmpR op_in_seq (pv 3) (pe_lst (pa_cons pe_str (pa_cons pe_str (pa_cons pe_str pa_nil)))) (by rfl)) (pss_cons (ps_set (i := 7) scLTm.nd rfl (Or.inl rfl) (pe_dget (Nat.lt_of_le_of_lt (Nat.add_le_add_left (by decide) _) hr.units) (pe_disp (pps_cons pe_str pe_int (pps_cons pe_str pe_int (pps_cons pe_str pe_int pps_nil))) rfl rfl (by simp) (by decide)) (pv 3) (fun _ _ => rfl)))
        (pss_one (ps_ret (pe_tup (pa_cons (pv 3) (pa_cons (pe_op op_add (pe_call M.GT hr1 (by rfl) M.DT.at_ M.DT.kp M.DT.bd .nil pass0 (pa_cons (pv 0) (pa_cons (pv 7) pa_nil))) (pe_callTy call_int1 (by rfl) mI (by decide +kernel) (pa_cons (pe_cmpR op_eq (pv 3) pe_str (nomark _)) pa_nil))) (pa_cons (pv 6) pa_nil))))))) pss_nil)
        (pss_cons (ps_if (pt_cmpR op_eq (pv 3) pe_str (nomark _)) (pss_one (ps_ret (pe_tup (pa_cons pe_str (pa_cons (pv 6) (pa_cons (pe_call M.GN hr2 (by rfl) M.DN.at_ M.DN.kp M.DN.bd .nil pass0 (pa_cons (pv 0) pa_nil)) (pa_cons (pe_call M.GT hr1 (by rfl) M.DT.at_ M.DT.kp M.DT.bd .nil pass0 (pa_cons (pv 0) (pa_cons pe_int pa_nil))) pa_nil))))))) pss_nil)
        (pss_cons (ps_set (i := 8) scLTm.nd rfl (Or.inl rfl) (pe_call GR hr (by rfl) D.at_ D.kp D.bd .nil pass0 (pa_cons (pv 0) (pa_cons (pe_callB (call_min2 rfl) (by rfl) mn (by decide +kernel) (pa_cons (pe_op op_sub (pv 1) pe_int) (pa_cons pe_int pa_nil))) pa_nil))))
        (pss_cons (ps_if (pt_cmpR op_eq (pv 3) pe_str (nomark _)) (pss_one (ps_ret (pe_tup (pa_cons pe_str (pa_cons (pe_call M.GN hr2 (by rfl) M.DN.at_ M.DN.kp M.DN.bd .nil pass0 (pa_cons (pv 0) pa_nil)) (pa_cons (pv 6) (pa_cons (pv 8) pa_nil))))))) pss_nil)
        (pss_one (ps_ret (pe_ifExp (pt_cmpR op_eq (pv 3) pe_str (nomark _)) (pe_tup (pa_cons pe_str (pa_cons (pv 6) (pa_cons (pv 8) (pa_cons (pe_call GR hr (by rfl) D.at_ D.kp D.bd .nil pass0 (pa_cons (pv 0) (pa_cons pe_int pa_nil))) pa_nil))))) (pe_tup (pa_cons (pv 3) (pa_cons (pv 6) (pa_cons (pv 8) pa_nil)))))))))))))))))), ?_⟩
      have T13 := T_ge k
      have fin : ∀ (G : Hp) (vs : List V) (ds : List PyData) (n' : Int), Kp (· ≠ p) H G → Purse G p n' → n' ≤ n + (T k : Int) → ShAll G (Fr H) true vs ds → LT k (.tuple ds) → ∀ t, G t = none → Q (.ref t) (upd G t (.tup vs)) := fun G vs ds n' kG pG ln sh lt t ht =>
        q _ (.tuple ds) _ (.tup upd_same (pG.back kG ht) (shAll_same (same_new ht) sh)) lt (fun a o na h => same_new ht _ _ (kG a o na h)) ((pG.of (upd_ne (pG.ne ht).symm)).mono ln)
      refine ⟨⟨_, rfl⟩, _, _, rfl, rfl, by decide +kernel, by decide +kernel, fun L hL => ?_⟩
      rw [w19]
      have nL := pu.ne hL
      have k0 : Kp (· ≠ p) H (upd H L (.lst (W19.map V.str))) := kp_same (same_new hL)
      have pu0 := pu.of (H' := upd H L (.lst (W19.map V.str))) (upd_ne nL.symm)
      dsimp only [gName]
      refine ⟨_, rfl, take_if (i := 0) (fun R r => ⟨_, rfl, rfl, _, rfl, r⟩) rfl pu0 (by omega) (fun d G1 d0 d19 dk k1 pu1 => ?_)⟩
      have dk : k = 0 → d < 3 := fun z => dk (decide_eq_true (by rw [he, z]; rfl))
      obtain ⟨w, mw, ew, w3⟩ := w19_pick d0 d19
      refine ⟨L, _, d, _, rfl, rfl, SqL.of (k1 _ _ nL upd_same), ew, ?_⟩
      clear ew
      have k01 : Kp (· ≠ p) H G1 := fun a o na h => k1 a o na (k0 a o na h)
      dsimp only [gName]
      refine ⟨_, rfl, rfl, _, rfl, ite2 (fun c => ?_) (fun c => ?_)⟩
      · -- lit
        refine ⟨_, rfl, p, _, rfl, pu1, by omega, fun v kd G2 shv kk k2 pu2 => ?_⟩
        have k02 : Kp (· ≠ p) H G2 := fun a o na h => k2 a o na (k01 a o na h)
        dsimp only [gName]
        refine ⟨_, rfl, _, rfl, _, rfl, p, _, v, kd, Fr G1, rfl, pu2, by omega, fun a h => pu1.ne h, shv, kk, fun v2 wd G3 sh2 wk k3 pu3 => ⟨by show 3 ≤ sizeLine; decide, ?_⟩⟩
        exact fin G3 _ [.str "lit", kd, wd] _ (fun a o na h => k3 a o na (k02 a o na h)) pu3 (by omega) (.cons (.str _) (.cons (sh_step pu k3 (sh_back pu1 k01 shv)) (.cons (sh_back pu2 k02 sh2) .nil))) (.lit kk wk)
      have nlit := str_ne c
      clear c
      have nmgo : w = "name" ∨ w = "last" → ∀ z G, nameS z = true → Kp (· ≠ p) G1 G → Purse G p (n + 1 + 11) → ∀ t, G t = none → Q (.ref t) (upd G t (.tup [.str w, .str z])) := fun hw z G nz k2 pu2 =>
        fin G _ [.str w, .str z] _ (fun a o na h => k2 a o na (k01 a o na h)) pu2 (by omega) (.cons (.str _) (.cons (.str _) .nil)) (.nm hw nz)
      refine ⟨_, rfl, rfl, _, rfl, ite2 (fun c => ?_) (fun c => ?_)⟩
      · exact iteT ⟨_, rfl, _, rfl, p, _, rfl, pu1, by omega, fun z G nz k2 pu2 => ⟨by show 2 ≤ sizeLine; decide, nmgo (.inl (str_of c)) z G nz k2 pu2⟩⟩
      have nname := str_ne c
      clear c
      refine ⟨_, rfl, rfl, _, rfl, ite2 (fun c => ?_) (fun c => ?_)⟩
      · exact ⟨_, rfl, _, rfl, p, _, rfl, pu1, by omega, fun z G nz k2 pu2 => ⟨by show 2 ≤ sizeLine; decide, nmgo (.inr (str_of c)) z G nz k2 pu2⟩⟩
      have nlast := str_ne c
      clear c
      cases k with
      | zero =>
        have := w3 (dk rfl)
        simp only [List.mem_cons, List.not_mem_nil, or_false] at this
        rcases this with h | h | h
        · exact absurd h nlit
        · exact absurd h nname
        · exact absurd h nlast
      | succ k =>
      subst he
      have Tr := T_row k
      have Tm := T_ge (min k 1)
      have km : min k 1 < m := by omega
      have kd : ∀ i j : Int, i = ((k + 1 : Nat) : Int) → j = 1 → i - j = (k : Int) := by omega
      refine ⟨_, rfl, rfl, _, rfl, ite2 (fun c => ?_) (fun c => ?_)⟩
      · -- row
        have ew := str_of c
        refine take_ok (i := 0) rfl pu1 (by omega) (by decide) (by decide) (fun d2 G2 d0' d1' k2 pu2 => ⟨_, _, rfl, rfl, 1 + d2, rfl, by omega, by omega, fun D hD => ?_⟩)
        have nD := pu2.ne hD
        have k02 : Kp (· ≠ p) H G2 := fun a o na h => k2 a o na (k01 a o na h)
        refine lc_range (lo := 0) (n := (1 + d2).toNat) (fun j G => ∃ ys ds, ds.length = j ∧ ys.length = j ∧ (∀ x ∈ ds, LT (min k 1) x) ∧ ShAll G (fun a => Fr H a ∧ a ≠ D) true ys ds ∧ G D = some (.lst ys) ∧ Kp (· ≠ p) G2 G ∧ Purse G p (n + 1 + 1 + (j : Int) * (T (min k 1) : Int)))
          ⟨[], [], rfl, rfl, (fun _ m => nomatch m), .nil, upd_same, kp_same (same_new hD), by rw [show n + 1 + 1 + ((0 : Nat) : Int) * (T (min k 1) : Int) = n + 1 + 1 by simp]; exact pu2.of (upd_ne nD.symm)⟩ (fun j G hj pv => ?_) fun G pv => ?_
        · obtain ⟨ys, ds, ld, ly, hl, sh, gD, kG, pG⟩ := pv
          have ej : ((j : Int) + 1) * (T (min k 1) : Int) = (j : Int) * (T (min k 1) : Int) + (T (min k 1) : Int) := by rw [Int.add_mul, Int.one_mul]
          have bj : (j : Int) * (T (min k 1) : Int) ≤ 2 * (T (min k 1) : Int) := Int.mul_le_mul_of_nonneg_right (by omega) (by omega)
          have k0G : Kp (· ≠ p) H G := fun a o na h => kG a o na (k02 a o na h)
          refine ⟨rfl, _, rfl, _, rfl, _, _, rfl, rfl, _, _, rfl, p, _, _, min k 1, rfl, min_one k, km, pG, by omega, fun v x G3 shv lt k3 pu3 => ?_⟩
          refine ⟨ys, k3 _ _ nD gD, by rw [ly]; exact small1000 (by omega), ys ++ [v], ds ++ [x], by rw [List.length_append, ld]; rfl, by rw [List.length_append, ly]; rfl, fun y my => ?_, ?_, upd_same, fun a o na h => ?_, ?_⟩
          · rcases List.mem_append.mp my with my | my
            · exact hl y my
            · rw [List.mem_singleton.mp my]; exact lt
          · have old : ShAll (upd G3 D (.lst (ys ++ [v]))) (fun a => Fr H a ∧ a ≠ D) true ys ds := ShAll.on (fun _ _ f _ => f) (fun a o f e => by rw [upd_ne f.2]; exact k3 a o (pu.ne f.1) e) ds ys sh
            refine ShAll.snoc old (Sh.on (P := Fr G) (fun a o f _ => ⟨pG.back k0G f, fr_ne gD f⟩) (fun a o f e => by rw [upd_ne (fr_ne gD f)]; exact e) x v shv)
          · rw [upd_ne (ne_of_none h hD)]
            exact k3 a o na (kG a o na h)
          · rw [show n + 1 + 1 + ((j + 1 : Nat) : Int) * (T (min k 1) : Int) = n + 1 + 1 + (j : Int) * (T (min k 1) : Int) + (T (min k 1) : Int) by rw [Int.natCast_add, show ((1 : Nat) : Int) = 1 from rfl, ej]; omega]
            exact pu3.of (upd_ne nD.symm)
        · obtain ⟨ys, ds, ld, ly, hl, sh, gD, kG, pG⟩ := pv
          have bj : (((1 + d2).toNat : Nat) : Int) * (T (min k 1) : Int) ≤ 3 * (T (min k 1) : Int) := Int.mul_le_mul_of_nonneg_right (by omega) (by omega)
          have k0G : Kp (· ≠ p) H G := fun a o na h => kG a o na (k02 a o na h)
          have sh : ShAll G (Fr H) true ys ds := ShAll.on (fun _ _ f _ => f.1) (fun _ _ _ e => e) ds ys sh
          dsimp only [gName]
          refine ⟨_, rfl, _, rfl, _, _, rfl, rfl, p, _, _, k, rfl, by omega, by omega, pG, by omega, fun v1 x1 G3 sh1 lt1 k3 pu3 => ⟨by show 1 ≤ sizeLine; decide, fun u1 hu1 => ?_⟩⟩
          have k03 : Kp (· ≠ p) H G3 := fun a o na h => k3 a o na (k0G a o na h)
          have s1 : Same G3 (upd G3 u1 (.tup [v1])) := same_new hu1
          refine ⟨_, rfl, D, ys, rfl, .inl ⟨SqL.of (s1 _ _ (k3 _ _ nD gD)), fun u2 hu2 => ⟨u1, u2, [v1], ys, rfl, rfl, SqT.of (same_new hu2 _ _ upd_same), SqT.of upd_same, by simp, ?_, ?_, ?_⟩⟩⟩
          · rw [ly]; exact Nat.le_of_lt (small1000 (by show 1 + (1 + d2).toNat ≤ 1000; omega))
          · intro e
            rw [e] at ly
            exact absurd ly (by show 0 ≠ _; omega)
          · intro _ r hr'
            have s2 : Same G3 (upd (upd (upd G3 u1 (.tup [v1])) u2 (.tup ys)) r (.tup ([v1] ++ ys))) := same_trans_new (same_trans_new s1 hu2) hr'
            have pr := pu3.same s2
            have k0r : Kp (· ≠ p) H (upd (upd (upd G3 u1 (.tup [v1])) u2 (.tup ys)) r (.tup ([v1] ++ ys))) := fun a o na h => s2 a o (k03 a o na h)
            have hr0 : H r = none := (pu3.same (same_trans_new s1 hu2)).back (fun a o na h => same_trans_new s1 hu2 a o (k03 a o na h)) hr'
            refine ⟨by show 2 ≤ sizeLine; decide, ?_⟩
            subst ew
            refine fin _ _ [.str "row", .tuple (x1 :: ds)] _ k0r pr (by omega) (.cons (.str _) (.cons (.tup upd_same hr0 (.cons (sh_same s2 (sh_back pG k0G sh1)) (shAll_same s2 (shAll_step pu k3 sh)))) .nil)) (.row (by omega) (by omega) lt1 hl)
      have nrow := str_ne c
      clear c
      refine ⟨_, rfl, _, rfl, _, _, rfl, rfl, p, _, _, k, rfl, by omega, by omega, pu1, by omega, fun v1 x1 G2 sh1 lt1 k2 pu2 => ?_⟩
      have k02 : Kp (· ≠ p) H G2 := fun a o na h => k2 a o na (k01 a o na h)
      have sh1 : Sh G2 (Fr H) true v1 x1 := sh_back pu1 k01 sh1
      dsimp only [gName]
      refine ⟨_, rfl, rfl, _, rfl, ite2 (fun c => ?_) (fun c => ?_)⟩
      · -- not
        exact ⟨_, rfl, by show 2 ≤ sizeLine; decide, fin G2 _ [.str "not", x1] _ k02 pu2 (by omega) (.cons (.str _) (.cons sh1 .nil)) (.no lt1)⟩
      have nnot := str_ne c
      clear c
      refine ⟨_, rfl, by show 3 ≤ sizeLine; decide, fun L2 hL2 => ⟨L2, [.str "wide", .str "bit", .str "at"], rfl, .inl (SqL.of upd_same), rfl, rfl, _, rfl, ?_⟩⟩
      have s2 : Same G2 (upd G2 L2 (.lst [.str "wide", .str "bit", .str "at"])) := same_new hL2
      have puL := pu2.same s2
      have k0L : Kp (· ≠ p) H (upd G2 L2 (.lst [.str "wide", .str "bit", .str "at"])) := fun a o na h => s2 a o (k02 a o na h)
      have sh1 := sh_same s2 sh1
      generalize upd G2 L2 (.lst [.str "wide", .str "bit", .str "at"]) = GL at puL k0L sh1
      rw [w19_num w mw]
      refine ite2 (fun c => ?_) (fun c => ?_)
      · -- wide, bit, at
        obtain ⟨N, N0, N8, ev, hN⟩ := hi_of (of_decide_eq_true c)
        refine fun pD hpD => ⟨upd_same, DHI, rfl, by show 3 ≤ 15; decide, _, rfl, pD, .int N, rfl, by rw [← ev]; exact DGet.k (k := .inr w) upd_same, ?_⟩
        have nD := puL.ne hpD
        have s3 : Same GL (upd (upd GL pD (.dK [])) pD (.dK (mergeK [] DHI))) := fun b o e => by rw [upd_ne (ne_of_none e hpD), upd_ne (ne_of_none e hpD)]; exact e
        have puD := puL.same s3
        have k0D : Kp (· ≠ p) H (upd (upd GL pD (.dK [])) pD (.dK (mergeK [] DHI))) := fun a o na h => s3 a o (k0L a o na h)
        have sh1 := sh_same s3 sh1
        dsimp only [gName]
        refine ⟨_, rfl, _, rfl, _, rfl, p, N, _, rfl, puD, by omega, N0, by omega, fun d2 G3 d0' d1' pu3 eq3 => ⟨_, rfl, rfl, .inr ⟨_, rfl, _, _, rfl, rfl, _, rfl, by show 3 ≤ sizeLine; decide, ?_⟩⟩⟩
        have k3 := kp_take eq3
        exact fin G3 _ [.str w, .int _, x1] _ (fun a o na h => k3 a o na (k0D a o na h)) pu3 (by omega) (.cons (.str _) (.cons (.int _) (.cons (sh_step pu k3 sh1) .nil))) (.num (hN d2 d0' d1') lt1)
      have nnum : ¬ (w = "wide" ∨ w = "bit" ∨ w = "at") := fun h => c (decide_eq_true h)
      clear c
      refine ⟨_, rfl, rfl, _, rfl, ite2 (fun c => ?_) (fun c => ?_)⟩
      · -- when
        exact ⟨_, rfl, _, rfl, p, _, rfl, puL, by omega, fun z G4 nz k4 pu4 => take_ok (i := 0) rfl pu4 (by omega) (by decide) (by decide) (fun y G5 y0 y2 k5 pu5 => ⟨by show 4 ≤ sizeLine; decide, fin G5 _ [.str "when", x1, .str z, .int y] _ (fun a o na h => k5 a o na (k4 a o na (k0L a o na h))) pu5 (by omega) (.cons (.str _) (.cons (sh_step pu k5 (sh_step pu k4 sh1)) (.cons (.str _) (.cons (.int y) .nil)))) (.wen lt1 nz y0 (by omega))⟩)⟩
      have nwhen := str_ne c
      clear c
      refine ⟨_, rfl, _, rfl, _, _, rfl, rfl, _, _, rfl, p, _, _, min k 1, rfl, min_one k, km, puL, by omega, fun v2 x2 G3 sh2 lt2 k3 pu3 => ?_⟩
      have k03 : Kp (· ≠ p) H G3 := fun a o na h => k3 a o na (k0L a o na h)
      have sh1 : Sh G3 (Fr H) true v1 x1 := sh_step pu k3 sh1
      have sh2 : Sh G3 (Fr H) true v2 x2 := sh_back puL k0L sh2
      dsimp only [gName]
      refine ⟨_, rfl, rfl, _, rfl, ite2 (fun c => ?_) (fun c => ?_)⟩
      · -- merge
        exact ⟨_, rfl, p, _, rfl, pu3, by omega, fun z G4 nz k4 pu4 => ⟨_, rfl, _, rfl, by show 4 ≤ sizeLine; decide, fin G4 _ [.str "merge", .str z, x1, x2] _ (fun a o na h => k4 a o na (k03 a o na h)) pu4 (by omega) (.cons (.str _) (.cons (.str _) (.cons (sh_step pu k4 sh1) (.cons (sh_step pu k4 sh2) .nil)))) (.merge nz lt1 lt2)⟩⟩
      have nmerge := str_ne c
      clear c
      refine ⟨_, rfl, rfl, _, rfl, ite2 (fun c => ?_) (fun c => ?_)⟩
      · -- pick
        exact ⟨_, rfl, _, rfl, _, rfl, p, _, _, 0, rfl, rfl, by omega, pu3, by show n + 1 + (T k : Int) + (T (min k 1) : Int) + (13 : Int) ≤ 99900; omega, fun v3 x3 G4 sh3 lt3 k4 pu4 => ⟨by show 4 ≤ sizeLine; decide, fin G4 _ [.str "pick", x1, x2, x3] _ (fun a o na h => k4 a o na (k03 a o na h)) pu4 (by show n + 1 + (T k : Int) + (T (min k 1) : Int) + (13 : Int) ≤ _; omega) (.cons (.str _) (.cons (sh_step pu k4 sh1) (.cons (sh_step pu k4 sh2) (.cons (sh_back pu3 k03 sh3) .nil)))) (.pick lt1 lt2 lt3)⟩⟩
      have npick := str_ne c
      clear c
      refine ⟨_, rfl, _, rfl, _, rfl, by show 3 ≤ sizeLine; decide, fin G3 _ [.str w, x1, x2] _ k03 pu3 (by omega) (.cons (.str _) (.cons sh1 (.cons sh2 .nil))) (.two ?_ lt1 lt2)⟩
      rcases w19_rest w mw with h | h | h | h | h | h | h | h | h | h | h | h
      · exact absurd h nlit
      · exact absurd h nname
      · exact absurd h nlast
      · exact absurd h nrow
      · exact absurd h nnot
      · exact absurd (.inl h) nnum
      · exact absurd (.inr (.inl h)) nnum
      · exact absurd (.inr (.inr h)) nnum
      · exact absurd h nwhen
      · exact absurd h nmerge
      · exact absurd h npick
      · exact h
end
end K7
end Bf

set_option linter.all false
namespace Bf
open PySem PySem.Spec PyProof.Rows L2
namespace K7
abbrev S0 (l : List Nat) : Str := ⟨l.toArray⟩
abbrev nLTx : List Str := ["_law_term_here", "_law_kind_here", "_law_worth_here", "_law_words", "_law_part", "_law_one"]
theorem scLTx : FnScope nLTx ["_law_term_here"] (defScope sLText) := ⟨rfl, rfl, rfl, by decide +kernel, rfl, by decide +kernel, by decide +kernel⟩
section
variable {P : Program} {w : World} {K : PySem.W.Frag} {mg : Str → Option Value} {base : Heap}
def spLX (m : Nat) : Sp := fun vs H Q _ => ∃ (x : V) (d : PyData) (k : Nat), vs = [x] ∧ Da H x d ∧ LT k d ∧ k < m ∧ (textS d).length ≤ 100000 ∧ ∀ H', Same H H' → Q (.str (textS d)) H'
theorem brack_tl (ws : List Str) : TL.tl (brack ws) = 40 :: (TL.joinL [32] (ws.map TL.tl) ++ [41]) := by
  have e40 : ("(" : Str) = S0 [40] := by decide +kernel
  have e41 : (")" : Str) = S0 [41] := by decide +kernel
  have e32 : (" " : Str) = S0 [32] := by decide +kernel
  unfold brack
  rw [e40, e41, e32, TL.join_eq, TL.tl_append, TL.tl_append, TL.tl_join]
  rfl
theorem lit_text (a b : Str) : "(lit " ++ a ++ " " ++ b ++ ")" = brack ["lit", a, b] := TL.ext_tl (by
  have e1 : ("(lit " : Str) = S0 [40, 108, 105, 116, 32] := by decide +kernel
  have e41 : (")" : Str) = S0 [41] := by decide +kernel
  have e32 : (" " : Str) = S0 [32] := by decide +kernel
  have el : TL.tl "lit" = [108, 105, 116] := by decide +kernel
  rw [brack_tl, TL.tl_append, TL.tl_append, TL.tl_append, TL.tl_append, e1, e41, e32]
  show [40, 108, 105, 116, 32] ++ TL.tl a ++ [32] ++ TL.tl b ++ [41] = 40 :: ((TL.tl "lit" ++ ([32] ++ (TL.tl a ++ ([32] ++ TL.tl b)))) ++ [41])
  rw [el]
  simp only [List.append_assoc, List.cons_append, List.nil_append])
theorem row_text {zs : List Str} (h : zs ≠ []) : "(row " ++ Txt.join " " zs ++ ")" = brack ("row" :: zs) := TL.ext_tl (by
  have e1 : ("(row " : Str) = S0 [40, 114, 111, 119, 32] := by decide +kernel
  have e41 : (")" : Str) = S0 [41] := by decide +kernel
  have e32 : (" " : Str) = S0 [32] := by decide +kernel
  have el : TL.tl "row" = [114, 111, 119] := by decide +kernel
  rw [brack_tl, TL.tl_append, TL.tl_append, e1, e41, e32, TL.join_eq, TL.tl_join]
  cases zs with
  | nil => exact absurd rfl h
  | cons z r =>
    show [40, 114, 111, 119, 32] ++ TL.joinL [32] ((z :: r).map TL.tl) ++ [41] = 40 :: ((TL.tl "row" ++ ([32] ++ TL.joinL [32] ((z :: r).map TL.tl))) ++ [41])
    rw [el]
    simp only [List.append_assoc, List.cons_append, List.nil_append])
theorem str_assoc (a b c : Str) : a ++ b ++ c = a ++ (b ++ c) := TL.ext_tl (by rw [TL.tl_append, TL.tl_append, TL.tl_append, TL.tl_append, List.append_assoc])
theorem part_str {k : Nat} {p : PyData} (h : Part k p) : (∃ z, partS p = z) := ⟨_, rfl⟩
theorem sum_len (l : List Str) : (l.map (·.length)).sum = lenS l := rfl
set_option maxHeartbeats 4000000 in
theorem ok_ltx {f : Addr} {fd : FuncData} (F : Fun K "_law_term_text" "_law_term_text" sLText f fd) (D : Df K mg "_law_term_text" f fd ["_law_term_here"]) (ms : mg "str" = none) (mi : mg "isinstance" = none) (mt : mg "tuple" = none) : ∀ m, FnOk P w K mg base CX0 (m + 3) f fd ["_law_term_here"] (spLX m)
  | 0 => ⟨fun _ _ _ _ ⟨_, _, _, e, _⟩ => by rw [e]; rfl, fun _ _ _ _ _ _ _ _ _ _ _ _ _ ⟨_, _, _, _, _, _, h, _⟩ => absurd h (Nat.not_lt_zero _)⟩
  | m + 1 => by
    have GX := ok_ltx F D ms mi mt m
    refine F.ok scLTx (fun vs H Q E h => ?_) (fun cdv A outer s H vs Q E hr h => ?_)
    · obtain ⟨x, d, k, rfl, _⟩ := h
      rfl
    · obtain ⟨x, d, k, rfl, da, lt, hk, hl, q⟩ := h
      refine ⟨_, (pss_cons (ps_if (pt_cmpR op_eq (pe_ix ix_tup (pv 0) pe_int (fun _ _ => rfl)) pe_str (nomark _)) (pss_cons (ps_par (i := 1) (j := 2) rfl scLTx.nd rfl rfl (by decide) rfl rfl (pa_cons (pe_ix ix_tup (pv 0) pe_int (fun _ _ => rfl)) (pa_cons (pe_ix ix_tup (pv 0) pe_int (fun _ _ => rfl)) pa_nil)) rfl)
        (pss_cons (ps_if (pt_val (pe_callB call_isi (by rfl) mi (by decide +kernel) (pa_cons (pv 1) (pa_cons (pe_bltn (v := .ty "tuple") (by rfl) mt (by decide +kernel) rfl) pa_nil)))) (pss_one (ps_ret (pe_op op_add_str (pe_op op_add_str (pe_op op_add_str (pe_op op_add_str (pe_op op_add_str (pe_op op_add_str pe_str (pe_callTy call_str_int (by rfl) ms (by decide +kernel) (pa_cons (pe_ix ix_tup (pv 1) pe_int (fun _ _ => rfl)) pa_nil))) pe_str) (pe_callTy call_str_int (by rfl) ms (by decide +kernel) (pa_cons (pe_ix ix_tup (pv 1) pe_int (fun _ _ => rfl)) pa_nil))) pe_str) (pe_join pe_str (pe_lc (own := [("_law_one", 5)]) (g := gName 5) (tt := tYes) rfl scLTx.nd (pi_tup (pv 2)) (blkOk_by (N := nLTx) (sc := defScope sLText) (by decide +kernel)) (fun _ _ _ _ _ => pg_name (i := 5) scLTx.nd rfl (Or.inl rfl)) (fun _ _ _ _ _ => pts_nil) (fun _ _ _ _ _ => (pe_callTy call_str_int (by rfl) ms (by decide +kernel) (pa_cons (pv 5) pa_nil)))))) pe_str))) pss_nil)
        (pss_one (ps_ret (pe_op op_add_str (pe_op op_add_str (pe_op op_add_str (pe_op op_add_str pe_str (pe_callTy call_str_int (by rfl) ms (by decide +kernel) (pa_cons (pv 1) pa_nil))) pe_str) (pe_callTy call_str_int (by rfl) ms (by decide +kernel) (pa_cons (pv 2) pa_nil))) pe_str))))) pss_nil)
        (pss_cons (ps_if (pt_cmpR op_eq (pe_ix ix_tup (pv 0) pe_int (fun _ _ => rfl)) pe_str (nomark _)) (pss_one (ps_ret (pe_op op_add_str (pe_op op_add_str pe_str (pe_join pe_str (pe_lc (own := [("_law_part", 4)]) (g := gName 4) (tt := tYes) rfl scLTx.nd (pi_tup (pe_ix ix_tup (pv 0) pe_int (fun _ _ => rfl))) (blkOk_by (N := nLTx) (sc := defScope sLText) (by decide +kernel)) (fun _ _ _ _ _ => pg_name (i := 4) scLTx.nd rfl (Or.inl rfl)) (fun _ _ _ _ _ => pts_nil) (fun _ _ _ _ _ => (pe_call GX hr (by rfl) D.at_ D.kp D.bd .nil pass0 (pa_cons (pv 4) pa_nil)))))) pe_str))) pss_nil)
        (pss_cons (ps_set (i := 3) scLTx.nd rfl (Or.inl rfl) (pe_lst (pa_cons (pe_ix ix_tup (pv 0) pe_int (fun _ _ => rfl)) pa_nil)))
        (pss_cons (ps_for PassesOwn.never rfl (pi_tup (pe_slice sl_tupA (pv 0) (po_some pe_int) po_none)) (pg_name (i := 4) scLTx.nd rfl (Or.inl rfl)) (pss_one (ps_expr (pe_bm PySem.F.plainAttrs_list PySem.F.slot_list_append PySem.F.type_list_append mt_append (pv 3) (pa_cons (pe_ifExp (pt_val (pe_callB call_isi (by rfl) mi (by decide +kernel) (pa_cons (pv 4) (pa_cons (pe_bltn (v := .ty "tuple") (by rfl) mt (by decide +kernel) rfl) pa_nil)))) (pe_call GX hr (by rfl) D.at_ D.kp D.bd .nil pass0 (pa_cons (pv 4) pa_nil)) (pe_callTy (CallR.or call_str_int SkE.call_str_str) (by rfl) ms (by decide +kernel) (pa_cons (pv 4) pa_nil))) pa_nil)))))
        (pss_one (ps_ret (pe_op op_add_str (pe_op op_add_str pe_str (pe_join pe_str (pv 3))) pe_str))))))), ?_⟩
      have e5 : ("(lit " : Str).length = 5 := by decide +kernel
      have er : ("(row " : Str).length = 5 := by decide +kernel
      have eb : (" " : Str).length = 1 := by decide +kernel
      have ec : (")" : Str).length = 1 := by decide +kernel
      have ex1 : ("x" : Str).length = 1 := by decide +kernel
      have ecm : ("," : Str).length = 1 := by decide +kernel
      rcases lt.text with ⟨kd, wd, rfl, kk, wk, et⟩ | ⟨ds, rfl, l2, l4, hs', et⟩ | ⟨c, ps, rfl, nl, nr, lc, l1, l3, hp, et⟩
      · obtain ⟨a, xs, rfl, hs, l, r⟩ := da.tup_inv
        cases r with
        | @cons v vs d1 _ hv rv =>
        cases hv
        cases rv with
        | @cons v1 vs1 d2 _ hv1 rv =>
        cases rv with
        | @cons v2 vs2 d3 _ hv2 rv =>
        cases rv
        have at0 : atI [V.str "lit", v1, v2] 0 = some (.str "lit") := rfl
        have at1 : atI [V.str "lit", v1, v2] 1 = some v1 := rfl
        have at2 : atI [V.str "lit", v1, v2] 2 = some v2 := rfl
        refine ⟨_, rfl, a, _, 0, _, rfl, rfl, SqT.of hs, at0, rfl, _, rfl, iteB (decide_eq_true rfl) ?_⟩
        refine ⟨_, rfl, a, _, 1, _, rfl, rfl, SqT.of hs, at1, _, rfl, a, _, 2, _, rfl, rfl, SqT.of hs, at2, v1, v2, rfl, ?_⟩
        refine ⟨_, rfl, v1, .ty "tuple", _, _, _, rfl, .ty "tuple", hv1.kn.ty, kit_ty (kit_tup kd), _, rfl, ?_⟩
        rw [et] at q
        rcases kind_inv kk with ⟨z, rfl, z1, z8⟩ | ⟨c, z, rfl, c2, c4, z1, z8⟩
        · obtain ⟨i, rfl, i0, i1⟩ := whole_inv (lo := 0) (hi := topW z) wk
          have i255 : i ≤ 255 := Int.le_trans i1 (topW_le z8)
          cases hv1
          cases hv2
          have n1 : (Str.ofString (toString z)).length ≤ 3 := num_len (i := z) (by omega) (by omega)
          have n2 : (Str.ofString (toString i)).length ≤ 3 := num_len (i := i) (by omega) (by omega)
          refine iteF ⟨_, rfl, z, rfl, int_log (by omega) (by omega), _, _, rfl, rfl, ?_, _, _, rfl, rfl, ?_, _, rfl, i, rfl, int_log (by omega) (by omega), _, _, rfl, rfl, ?_, _, _, rfl, rfl, ?_, ?_⟩
          · rw [sizeLine_eq, e5]; omega
          · rw [sizeLine_eq, strLen_append, e5, eb]; omega
          · rw [sizeLine_eq, strLen_append, strLen_append, e5, eb]; omega
          · rw [sizeLine_eq, strLen_append, strLen_append, strLen_append, e5, eb, ec]; omega
          · rw [lit_text]
            exact q _ (Same.refl _)
        · have wk' := wk
          obtain ⟨is, rfl, il, hi⟩ : ∃ is : List Int, wd = .tuple (is.map PyData.int) ∧ is.length ≤ 4 ∧ ∀ i ∈ is, 0 ≤ i ∧ i ≤ 255 := by
            rcases worth_inv kk wk with ⟨i, rfl, _, _⟩ | ⟨is, e, _, l4, hi⟩
            · cases wk'
            · exact ⟨is, e, l4, hi⟩
          cases hv1 with
          | @tup t ts _ ht hzt hrt =>
          cases hrt with
          | @cons a0 as0 _ _ h0 hrt =>
          cases hrt with
          | @cons a1 as1 _ _ h1 hrt =>
          cases hrt
          cases h0
          cases h1
          cases hv2 with
          | @tup t2 ts2 _ ht2 hzt2 hrt2 =>
          have ex := daAll_ints hrt2
          subst ex
          have n1 : (Str.ofString (toString c)).length ≤ 3 := num_len (i := c) (by omega) (by omega)
          have n2 : (Str.ofString (toString z)).length ≤ 3 := num_len (i := z) (by omega) (by omega)
          have jl := (worth_data kk wk).2.2
          rw [wWorth_list] at jl
          have tat0 : atI [V.int c, .int z] 0 = some (.int c) := rfl
          have tat1 : atI [V.int c, .int z] 1 = some (.int z) := rfl
          refine iteT ⟨_, rfl, t, _, 0, _, rfl, rfl, SqT.of ht, tat0, c, rfl, int_log (by omega) (by omega), _, _, rfl, rfl, ?_, _, _, rfl, rfl, ?_, _, rfl, t, _, 1, _, rfl, rfl, SqT.of ht, tat1, z, rfl, int_log (by omega) (by omega), _, _, rfl, rfl, ?_, _, _, rfl, rfl, ?_, ⟨_, rfl⟩, _, rfl, _, rfl, ⟨_, SqT.of ht2⟩, fun D hD => lc_tup (K := K) (xs := is.map V.int) (fun j H' => Same H H' ∧ H' D = some (.lst (((is.take j).map numStr).map V.str))) ⟨same_new hD, upd_same⟩
            (fun j H' _ pv => SqT.of (pv.1 _ _ ht2)) (fun j y H' hy pv => ?_) fun H' pv => ?_⟩
          · rw [sizeLine_eq, e5]; omega
          · rw [sizeLine_eq, strLen_append, e5, ex1]; omega
          · rw [sizeLine_eq, strLen_append, strLen_append, e5, ex1]; omega
          · rw [sizeLine_eq, strLen_append, strLen_append, strLen_append, e5, ex1, eb]; omega
          · rw [List.getElem?_map] at hy
            cases hj : is[j]? with
            | none => rw [hj] at hy; cases hy
            | some b =>
              rw [hj] at hy
              cases hy
              obtain ⟨b0, b1⟩ := hi b (List.mem_of_getElem? hj)
              refine ⟨rfl, _, rfl, b, rfl, int_log b0 (by omega), _, pv.2, ?_, fun c o e => ?_, ?_⟩
              · rw [List.length_map, List.length_map, List.length_take, sizeLine_eq]
                omega
              · rw [upd_ne (ne_of_none e hD)]
                exact pv.1 _ _ e
              · rw [upd_same, List.take_add_one, hj, List.map_append, List.map_append]
                rfl
          · rw [List.length_map, List.take_length] at pv
            refine ⟨",", D, _, rfl, rfl, .inl (SqL.of pv.2), ?_, ?_⟩
            · have := lenS_le (b := 3) (l := is.map numStr) fun x m => by
                obtain ⟨y, my, rfl⟩ := List.mem_map.mp m
                exact num_len (hi y my).1 (hi y my).2
              rw [List.length_map] at this
              rw [sum_len, List.length_map, ecm]
              omega
            · refine ⟨_, _, rfl, rfl, ?_, _, _, rfl, rfl, ?_, ?_⟩
              · rw [sizeLine_eq, strLen_append, strLen_append, strLen_append, strLen_append, e5, ex1, eb]; omega
              · rw [sizeLine_eq, strLen_append, strLen_append, strLen_append, strLen_append, strLen_append, e5, ex1, eb, ec]; omega
              · rw [wKind_two, wWorth_list, ← lit_text] at q
                have ea : ("(lit " : Str) ++ numStr c ++ "x" ++ numStr z = "(lit " ++ (numStr c ++ "x" ++ numStr z) := by rw [str_assoc, str_assoc, str_assoc]
                rw [← ea] at q
                exact q _ pv.1
      · obtain ⟨a, xs, rfl, hs, l, r⟩ := da.tup_inv
        cases r with
        | @cons v vs d1 _ hv rv =>
        cases hv
        cases rv with
        | @cons v1 vs1 d2 _ hv1 rv =>
        cases rv
        obtain ⟨t, ys, rfl, ht, lt1, rt⟩ := hv1.tup_inv
        have lys := rt.len
        have at0 : atI [V.str "row", .ref t] 0 = some (.str "row") := rfl
        have at1 : atI [V.str "row", .ref t] 1 = some (.ref t) := rfl
        rw [et] at q hl
        have htot : lenS (ds.map textS) + ds.length ≤ 100000 := by
          rw [brack_len, lenS_cons, List.length_cons, List.length_map] at hl
          omega
        have hz1 : ∀ x ∈ ds, (textS x).length ≤ 100000 := fun x m => Nat.le_trans (lenS_mem (List.mem_map.mpr ⟨x, m, rfl⟩)) (by omega)
        refine ⟨_, rfl, a, _, 0, _, rfl, rfl, SqT.of hs, at0, rfl, _, rfl, iteN (by decide +kernel) ?_⟩
        refine ⟨_, rfl, a, _, 0, _, rfl, rfl, SqT.of hs, at0, rfl, _, rfl, iteB (decide_eq_true rfl) ?_⟩
        refine ⟨⟨_, rfl⟩, _, rfl, a, _, 1, _, rfl, rfl, SqT.of hs, at1, t, rfl, ⟨ys, SqT.of ht⟩, fun D hD => lc_tup (K := K) (a := t) (xs := ys) (fun j Hc => Same H Hc ∧ Hc D = some (.lst (((ds.take j).map textS).map V.str))) ⟨same_new hD, upd_same⟩
          (fun j Hc _ pv => SqT.of (pv.1 _ _ ht)) (fun j v Hc hv pv => ?_) fun Hc pv => ?_⟩
        · obtain ⟨sc, gD⟩ := pv
          obtain ⟨dv, edv, hdv⟩ := rt.get hv
          have mdv := List.mem_of_getElem? edv
          obtain ⟨jj, ljj, ltj⟩ := hs' dv mdv
          refine ⟨rfl, _, rfl, v, dv, jj, rfl, Da.same sc _ _ hdv, ltj, by omega, hz1 dv mdv, fun H2 s2 => ⟨_, s2 _ _ gD, ?_, fun b o eb => ?_, ?_⟩⟩
          · rw [List.length_map, List.length_map, List.length_take, sizeLine_eq]
            omega
          · rw [upd_ne (ne_of_none eb hD)]
            exact s2 _ _ (sc _ _ eb)
          · rw [upd_same, List.take_add_one, edv, List.map_append, List.map_append]
            rfl
        · obtain ⟨sc, gD⟩ := pv
          rw [lys, List.take_length] at gD
          have jlen : (Txt.join " " (ds.map textS)).length ≤ 100000 := by
            have e := size_glued " " (ds.map textS)
            have e2 : (Txt.join " " (ds.map textS)).length = (Builtin.Str.glued " " (ds.map textS)).length := rfl
            rw [eb, sum_len, List.length_map] at e
            rw [e2, e]
            omega
          refine ⟨" ", D, _, rfl, rfl, .inl (SqL.of gD), ?_, _, _, rfl, rfl, ?_, _, _, rfl, rfl, ?_, ?_⟩
          · rw [sum_len, List.length_map, eb]; omega
          · rw [sizeLine_eq, er]; omega
          · rw [sizeLine_eq, strLen_append, er, ec]; omega
          · rw [← row_text (by intro e; rw [List.map_eq_nil_iff] at e; rw [e] at l2; exact absurd l2 (by decide))] at q
            exact q _ sc
      · obtain ⟨a, xs, rfl, hs, l, r⟩ := da.tup_inv
        cases r with
        | @cons v vs d1 _ hv rv =>
        cases hv
        have lvs := rv.len
        have at0 : atI (V.str c :: vs) 0 = some (.str c) := atI_nat (j := 0) rfl
        rw [et] at q hl
        have htot : lenS (ps.map partS) + c.length + ps.length ≤ 100000 := by
          rw [brack_len, lenS_cons, List.length_cons, List.length_map] at hl
          omega
        refine ⟨_, rfl, a, _, 0, _, rfl, rfl, SqT.of hs, at0, rfl, _, rfl, iteN nl ?_⟩
        refine ⟨_, rfl, a, _, 0, _, rfl, rfl, SqT.of hs, at0, rfl, _, rfl, iteN nr ?_⟩
        refine ⟨_, rfl, a, _, 0, _, rfl, rfl, SqT.of hs, at0, by show 1 ≤ sizeLine; decide, fun W hW => ?_⟩
        have sW : Same H (upd H W (.lst [.str c])) := same_new hW
        have gW0 : (upd H W (.lst [.str c])) W = some (.lst [.str c]) := upd_same
        generalize upd H W (.lst [.str c]) = H0 at sW gW0
        dsimp only [gName]
        refine ⟨_, rfl, 1, rfl, a, _, rfl, SqT.of (sW _ _ hs), (fun z => absurd z (not_whole (k := 1) (by decide) (by simp))), fun _ t ht => ?_⟩
        have ecv : cutV (V.str c :: vs) (some (1 : Int)) none = vs := cut_from (k := 1)
        rw [ecv]
        have st : Same H0 (upd H0 t (.tup vs)) := same_new ht
        refine ⟨t, rfl, ⟨vs, SqT.of upd_same⟩, for_tup (K := K) (a := t) (xs := vs) (fun i σ H' => ∃ u1 u2 u4 u5, σ = [some (.ref a), u1, u2, some (.ref W), u4, u5] ∧ H' W = some (.lst ((c :: (ps.take i).map partS).map V.str)) ∧ Same H H' ∧ H' t = some (.tup vs))
          ⟨_, _, _, _, rfl, st _ _ gW0, sW.trans st, upd_same⟩ (fun i σ H' _ pv => ?_) (fun i y σ H' hy pv => ?_) fun σ H' pv => ?_⟩
        · obtain ⟨u1, u2, u4, u5, rfl, gW, sx, gt⟩ := pv
          exact SqT.of gt
        · obtain ⟨u1, u2, u4, u5, rfl, gW, sx, gt⟩ := pv
          obtain ⟨dy, hdy, day0⟩ := rv.get hy
          have day := Da.same sx _ _ day0
          have mdy := List.mem_of_getElem? hdy
          have ntW : t ≠ W := fun e => by rw [e, gW] at gt; cases gt
          have lW1 : tyV K "list" (.ref W) H' := .inl ⟨rfl, _, SqL.of gW⟩
          have hzp : (partS dy).length ≤ 100000 := Nat.le_trans (lenS_mem (List.mem_map.mpr ⟨dy, mdy, rfl⟩)) (by omega)
          have one : ∀ {H2 : Hp}, Same H' H2 → H2 W = some (.lst ((c :: (ps.take i).map partS).map V.str)) ∧ ((c :: (ps.take i).map partS).map V.str).length < sizeLine ∧
              ∃ w1 w2 w4 w5, [some (V.ref a), u1, u2, some (.ref W), some y, u5] = [some (V.ref a), w1, w2, some (.ref W), w4, w5] ∧ (upd H2 W (.lst ((c :: (ps.take i).map partS).map V.str ++ [.str (partS dy)]))) W = some (.lst ((c :: (ps.take (i + 1)).map partS).map V.str)) ∧
              Same H (upd H2 W (.lst ((c :: (ps.take i).map partS).map V.str ++ [.str (partS dy)]))) ∧ (upd H2 W (.lst ((c :: (ps.take i).map partS).map V.str ++ [.str (partS dy)]))) t = some (.tup vs) := by
            intro H2 s2
            refine ⟨s2 _ _ gW, ?_, _, _, _, _, rfl, ?_, fun b o eb => ?_, ?_⟩
            · rw [List.length_map, List.length_cons, List.length_map, List.length_take, sizeLine_eq]
              omega
            · rw [upd_same, List.take_add_one, hdy, List.map_append, ← List.cons_append, List.map_append]
              rfl
            · rw [upd_ne (ne_of_none eb hW)]
              exact s2 _ _ (sx _ _ eb)
            · rw [upd_ne ntW]
              exact s2 _ _ gt
          dsimp only [gName]
          refine ⟨_, rfl, lW1, _, rfl, y, .ty "tuple", _, _, _, rfl, .ty "tuple", day.kn.ty, kit_ty (kit_tup dy), _, rfl, ?_⟩
          rcases hp dy mdy with ⟨jj, ljj, ltj⟩ | ⟨z, rfl, nz⟩ | ⟨i', rfl, i0, i8⟩
          · obtain ⟨c', r', rfl⟩ := ltj.tup
            have pe := ltj.part_eq
            rw [pe] at hzp
            refine iteT ⟨_, rfl, y, _, jj, rfl, day, ltj, by omega, hzp, fun H2 s2 => ?_⟩
            obtain ⟨o1, o2, o3⟩ := one s2
            rw [pe] at o3
            exact ⟨W, _, _, rfl, rfl, o1, o2, o3⟩
          · cases day
            obtain ⟨o1, o2, o3⟩ := one (Same.refl H')
            exact iteF ⟨_, rfl, .inr ⟨z, rfl, W, _, _, rfl, rfl, o1, o2, o3⟩⟩
          · cases day
            obtain ⟨o1, o2, o3⟩ := one (Same.refl H')
            exact iteF ⟨_, rfl, .inl ⟨i', rfl, int_log i0 (by omega), W, _, _, rfl, rfl, o1, o2, o3⟩⟩
        · obtain ⟨u1, u2, u4, u5, rfl, gW, sx, gt⟩ := pv
          rw [lvs, List.take_length] at gW
          have jlen : (Txt.join " " (c :: ps.map partS)).length ≤ 200000 := by
            have e := size_glued " " (c :: ps.map partS)
            have e2 : (Txt.join " " (c :: ps.map partS)).length = (Builtin.Str.glued " " (c :: ps.map partS)).length := rfl
            rw [eb, sum_len, lenS_cons, List.length_cons, List.length_map] at e
            rw [e2, e]
            omega
          have eo : ("(" : Str).length = 1 := by decide +kernel
          refine ⟨⟨_, rfl⟩, _, rfl, " ", W, _, rfl, rfl, .inl (SqL.of gW), ?_, _, _, rfl, rfl, ?_, _, _, rfl, rfl, ?_, q _ sx⟩
          · rw [sum_len, lenS_cons, List.length_cons, List.length_map, eb]; omega
          · rw [sizeLine_eq, eo]; omega
          · rw [sizeLine_eq, strLen_append, eo, ec]; omega
end
end K7
end Bf

set_option linter.all false
namespace Bf
open PySem PySem.Spec PyProof.Rows L2
theorem op_mul_strI {X : Cx} : OpR X (binaryOp .Mult) (fun x y H Q => ∃ i n, x = .str i ∧ y = .int n ∧ MulOk i n ∧ Q (.str (Txt.mul i n)) H) := by
  intro pins s σ H x y v u Q I rx ry h
  obtain ⟨i, n, rfl, rfl, ok, q⟩ := h
  obtain ⟨t, rfl⟩ := rx
  obtain ⟨t', rfl⟩ := ry
  exact SB.mul ok fun t' k => ⟨.str (Txt.mul i n), H, I.tok k, ⟨t', rfl⟩, q⟩
theorem for_its {x : Str} {g : TG} {tb : TS} {D : Ends} {σ : L2.St} {H : Hp} (Pv : Nat → L2.St → Hp → Prop) (h0 : Pv 0 σ H)
    (hs : ∀ i c σ H, x.cps[i]? = some c → Pv i σ H → g (.str ⟨#[c]⟩) σ H fun σ2 H2 => tb { D with nx := Pv (i + 1), ct := Pv (i + 1), bk := D.nx } σ2 H2) (hd : ∀ σ H, Pv x.cps.size σ H → D.nx σ H) :
    ∃ W : Nat → Nat → L2.St → Hp → Prop, (∃ m, W 0 m σ H) ∧ ∀ i m σ H, W i m σ H →
      ((Its x).stop i H ∧ D.nx σ H) ∨ ((Its x).go i H ∧ ∃ N : L2.St → Hp → Prop, (∀ σ' H', N σ' H' → ∃ m', m' < m ∧ W (i + 1) m' σ' H') ∧ ∀ v H', (Its x).yld i H v H' → g v σ H' fun σ2 H2 => tb { D with nx := N, ct := N, bk := D.nx } σ2 H2) := by
  refine ⟨fun i m σ H => m = x.cps.size - i ∧ i ≤ x.cps.size ∧ Pv i σ H, ⟨x.cps.size, by simp, Nat.zero_le _, h0⟩, fun i m σ H hw => ?_⟩
  obtain ⟨rfl, hi, pv⟩ := hw
  by_cases lt : i < x.cps.size
  · refine .inr ⟨lt, Pv (i + 1), fun σ' H' q => ⟨x.cps.size - (i + 1), by omega, rfl, lt, q⟩, fun v H' hy => ?_⟩
    obtain ⟨rfl, c, hc, rfl⟩ := hy
    exact hs i c σ H' hc pv
  · have e : i = x.cps.size := by omega
    subst e
    exact .inl ⟨Nat.le_refl _, hd σ H pv⟩
namespace K7
abbrev pBl : List Str := ["_law_box_here", "_law_text"]
abbrev nBl : List Str := ["_law_box_here", "_law_text", "_law_found", "_law_sign"]
theorem scBl : FnScope nBl pBl (defScope sBlanks) := ⟨rfl, rfl, rfl, by decide +kernel, rfl, by decide +kernel, by decide +kernel⟩
theorem mul_blank {d : Int} (d0 : 0 ≤ d) (d3 : d < 3) : MulOk " " d ∧ TL.tl (Txt.mul " " d) = List.replicate d.toNat 32 := by
  have c : d = 0 ∨ d = 1 ∨ d = 2 := by omega
  rcases c with rfl | rfl | rfl
  · exact ⟨⟨by decide, fun h => absurd (by decide) h, fun h => absurd (by decide) h⟩, by decide +kernel⟩
  · exact ⟨⟨by decide, fun _ h => absurd h (by decide), fun _ h => absurd h (by decide)⟩, by decide +kernel⟩
  · exact ⟨⟨by decide, fun _ _ => by decide, fun _ _ => by decide⟩, by decide +kernel⟩
section
variable {P : Program} {w : World} {K : PySem.W.Frag} {mg : Str → Option Value} {base : Heap}
/-- blanks set in where one stands, and at both ends -/
def spBl : Sp := fun vs H Q _ => ∃ (p : Addr) (z : Str) (n : Int), vs = [.ref p, .str z] ∧ Purse H p n ∧ z.length ≤ 4000 ∧ n ≤ 50000 ∧
  ∀ y G, (∃ b i j, TL.tl y = List.replicate i 32 ++ (b ++ List.replicate j 32) ∧ T.Spr (TL.tl z) b) → y.length ≤ 3 * z.length + 4 → Kp (· ≠ p) H G → Purse G p (n + (z.length : Int) + 2) → Q (.str y) G
theorem ok_bl {f ft : Addr} {fd fdt : FuncData} (F : Fun K "_law_blanks" "_law_blanks" sBlanks f fd) (DT : Df K mg "_law_take" ft fdt pTake) (GT : FnOk P w K mg base CX0 1 ft fdt pTake spTake) : FnOk P w K mg base CX0 2 f fd pBl spBl := by
  refine F.ok scBl (fun vs H Q E h => ?_) (fun cdv A outer s H vs Q E hr h => ?_)
  · obtain ⟨p, z, n, rfl, _⟩ := h
    rfl
  · obtain ⟨p, z, n, rfl, pu, hz, hn, q⟩ := h
    refine ⟨_, (pss_cons (ps_set (i := 2) scBl.nd rfl (Or.inl rfl) pe_str)
        (pss_cons (ps_for PassesOwn.never rfl (pi_str (pv 1)) (pg_name (i := 3) scBl.nd rfl (Or.inl rfl)) (pss_cons (ps_set (i := 2) scBl.nd rfl (Or.inl rfl) (pe_op op_add_str (pv 2) (pv 3)))
        (pss_one (ps_if (pt_cmpR op_eq (pv 3) pe_str (nomark _)) (pss_one (ps_set (i := 2) scBl.nd rfl (Or.inl rfl) (pe_op op_add_str (pv 2) (pe_op op_mul_strI pe_str (pe_call GT hr (by rfl) DT.at_ DT.kp DT.bd .nil pass0 (pa_cons (pv 0) (pa_cons pe_int pa_nil))))))) pss_nil))))
        (pss_one (ps_ret (pe_op op_add_str (pe_op op_add_str (pe_op op_mul_strI pe_str (pe_call GT hr (by rfl) DT.at_ DT.kp DT.bd .nil pass0 (pa_cons (pv 0) (pa_cons pe_int pa_nil)))) (pv 2)) (pe_op op_mul_strI pe_str (pe_call GT hr (by rfl) DT.at_ DT.kp DT.bd .nil pass0 (pa_cons (pv 0) (pa_cons pe_int pa_nil))))))))), ?_⟩
    have eb : (" " : Str).length = 1 := by decide +kernel
    have blen : ∀ {d : Int}, 0 ≤ d → d < 3 → (Txt.mul " " d).length ≤ 2 := fun {d} a b => by
      have := (mul_blank a b).2
      rw [TL.len_tl, this, List.length_replicate]
      omega
    refine ⟨_, rfl, z, rfl, for_its (x := z) (fun i σ G => ∃ y u3, σ = [some (.ref p), some (.str z), some (.str y), u3] ∧ T.Spr ((TL.tl z).take i) (TL.tl y) ∧ y.length ≤ 3 * i ∧ Kp (· ≠ p) H G ∧ Purse G p (n + (i : Int)))
      ⟨"", _, rfl, .nil, Nat.le_refl _, fun _ _ _ h => h, by rw [show n + ((0 : Nat) : Int) = n by omega]; exact pu⟩ (fun i c σ G hc pv => ?_) fun σ G pv => ?_⟩
    · obtain ⟨y, u3, rfl, sp, ly, kG, pG⟩ := pv
      have hi : i < z.cps.size := (Array.getElem?_eq_some_iff.mp hc).1
      have hi' : i < z.length := hi
      have tk : (TL.tl z).take (i + 1) = (TL.tl z).take i ++ [c] := by
        rw [List.take_add_one]
        congr 1
        show (z.cps.toList[i]?).toList = [c]
        rw [Array.getElem?_toList, hc]
        rfl
      have l1 : (⟨#[c]⟩ : Str).length = 1 := rfl
      have ty : TL.tl (y ++ (⟨#[c]⟩ : Str)) = TL.tl y ++ [c] := TL.tl_append _ _
      dsimp only [gName]
      refine ⟨_, rfl, _, rfl, _, _, rfl, rfl, by rw [sizeLine_eq]; omega, ?_⟩
      refine ⟨_, rfl, rfl, _, rfl, ite2 (fun e => ?_) (fun e => ?_)⟩
      · have ec : c = 32 := by
          have := V.str.inj (of_decide_eq_true e)
          have := congrArg TL.tl this
          have e3 : TL.tl " " = [32] := by decide +kernel
          rw [e3] at this
          exact List.cons.inj this |>.1
        subst ec
        refine ⟨_, rfl, take_ok (i := 0) rfl pG (by omega) (by decide) (by decide) (fun d G2 d0 d3 k2 pu2 => ?_)⟩
        obtain ⟨mo, mt⟩ := mul_blank d0 d3
        have lm := blen d0 d3
        refine ⟨_, _, rfl, rfl, mo, _, _, rfl, rfl, by rw [sizeLine_eq, strLen_append]; omega, _, _, rfl, ?_, by rw [strLen_append, strLen_append]; omega, fun a o na h => k2 a o na (kG a o na h), by rw [show n + ((i + 1 : Nat) : Int) = n + (i : Int) + 1 by omega]; exact pu2⟩
        rw [tk, TL.tl_append, ty, mt]
        exact .more sp
      · refine ⟨_, _, rfl, ?_, by rw [strLen_append]; omega, kG, pG.mono (by omega)⟩
        rw [tk, ty]
        exact .sign sp
    · obtain ⟨y, u3, rfl, sp, ly, kG, pG⟩ := pv
      have tz : (TL.tl z).take z.cps.size = TL.tl z := List.take_of_length_le (by rw [← TL.len_tl]; exact Nat.le_refl _)
      rw [tz] at sp
      have ly : y.length ≤ 3 * z.length := ly
      have hzs : (z.cps.size : Int) = (z.length : Int) := rfl
      refine take_ok (i := 0) rfl pG (by omega) (by decide) (by decide) (fun d G2 d0 d3 k2 pu2 => ?_)
      obtain ⟨mo, mt⟩ := mul_blank d0 d3
      have lm := blen d0 d3
      refine ⟨_, _, rfl, rfl, mo, _, rfl, _, _, rfl, rfl, by rw [sizeLine_eq]; omega, ?_⟩
      refine take_ok (i := 0) rfl pu2 (by omega) (by decide) (by decide) (fun e G3 e0 e3 k3 pu3 => ?_)
      obtain ⟨mo2, mt2⟩ := mul_blank e0 e3
      have lm2 := blen e0 e3
      refine ⟨_, _, rfl, rfl, mo2, _, _, rfl, rfl, by rw [sizeLine_eq, strLen_append]; omega, ?_⟩
      refine q _ _ ⟨TL.tl y, d.toNat, e.toNat, ?_, sp⟩ (by rw [strLen_append, strLen_append]; omega) (fun a o na h => k3 a o na (k2 a o na (kG a o na h))) (pu3.mono (by omega))
      rw [TL.tl_append, TL.tl_append, mt, mt2, List.append_assoc]
end
end K7
end Bf

set_option linter.all false
namespace Bf
open PySem PySem.Spec PyProof.Rows L2
namespace K7
abbrev nNe : List Str := ["_law_box_here", "_law_some"]
theorem scNe : FnScope nNe ["_law_box_here"] (defScope sNearly) := ⟨rfl, rfl, rfl, by decide +kernel, rfl, by decide +kernel, by decide +kernel⟩
theorem cat_step {u : TS} {ta : TA} {D : Ends} {σ : L2.St} {G : Hp} {L : Addr} {i : Nat} {vs ws : List V} (hσ : σ[i]? = some (some (.ref L))) (gL : G L = some (.lst vs)) (hta : ∀ Q : List V → Hp → Prop, Q ws G → ta σ G Q) (l : vs.length + ws.length ≤ 1000)
    (q : ∀ L' G', G' L' = some (.lst (vs ++ ws)) → Same G G' → u D (σ.set i (some (.ref L'))) G') : tSeq (tAsg (tOp rCat (tVar i) (tLst ta)) (gName i)) u D σ G := by
  refine ⟨_, hσ, hta _ ⟨by rw [sizeLine_eq]; omega, fun p hp => ⟨L, p, _, _, rfl, rfl, same_new hp _ _ gL, upd_same, by rw [sizeLine_eq]; omega, fun r hr => q r _ upd_same (same_trans_new (same_new hp) hr)⟩⟩⟩
section
variable {P : Program} {w : World} {K : PySem.W.Frag} {mg : Str → Option Value} {base : Heap}
def spNe : Sp := fun vs H Q _ => ∃ (p : Addr) (n : Int), vs = [.ref p] ∧ Purse H p n ∧ n ≤ 99000 ∧ ∀ z G, z ∈ nearly → Kp (· ≠ p) H G → Purse G p (n + 1) → Q (.str z) G
set_option maxHeartbeats 4000000 in
theorem ok_ne {f ft : Addr} {fd fdt : FuncData} (F : Fun K "_law_nearly" "_law_nearly" sNearly f fd) (DT : Df K mg "_law_take" ft fdt pTake) (GT : FnOk P w K mg base CX0 1 ft fdt pTake spTake) (ml : mg "len" = none) : FnOk P w K mg base CX0 2 f fd ["_law_box_here"] spNe := by
  refine F.ok scNe (fun vs H Q E h => ?_) (fun cdv A outer s H vs Q E hr h => ?_)
  · obtain ⟨p, n, rfl, _⟩ := h
    rfl
  · obtain ⟨p, n, rfl, pu, hn, q⟩ := h
    refine ⟨_, (pss_cons (ps_set (i := 1) scNe.nd rfl (Or.inl rfl) (pe_lst (pa_cons pe_str (pa_cons pe_str (pa_cons pe_str (pa_cons pe_str (pa_cons pe_str (pa_cons pe_str pa_nil))))))))
        (pss_cons (ps_set (i := 1) scNe.nd rfl (Or.inl rfl) (pe_op op_cat (pv 1) (pe_lst (pa_cons pe_str (pa_cons pe_str (pa_cons pe_str (pa_cons pe_str (pa_cons pe_str (pa_cons pe_str pa_nil)))))))))
        (pss_cons (ps_set (i := 1) scNe.nd rfl (Or.inl rfl) (pe_op op_cat (pv 1) (pe_lst (pa_cons pe_str (pa_cons pe_str (pa_cons pe_str (pa_cons pe_str (pa_cons pe_str pa_nil))))))))
        (pss_cons (ps_set (i := 1) scNe.nd rfl (Or.inl rfl) (pe_op op_cat (pv 1) (pe_lst (pa_cons pe_str (pa_cons pe_str (pa_cons pe_str (pa_cons pe_str pa_nil)))))))
        (pss_cons (ps_set (i := 1) scNe.nd rfl (Or.inl rfl) (pe_op op_cat (pv 1) (pe_lst (pa_cons pe_str (pa_cons pe_str (pa_cons pe_str (pa_cons pe_str (pa_cons pe_str pa_nil))))))))
        (pss_cons (ps_set (i := 1) scNe.nd rfl (Or.inl rfl) (pe_op op_cat (pv 1) (pe_lst (pa_cons pe_str (pa_cons pe_str (pa_cons pe_str (pa_cons pe_str (pa_cons pe_str pa_nil))))))))
        (pss_cons (ps_set (i := 1) scNe.nd rfl (Or.inl rfl) (pe_op op_cat (pv 1) (pe_lst (pa_cons pe_str (pa_cons pe_str (pa_cons pe_str (pa_cons pe_str pa_nil)))))))
        (pss_cons (ps_set (i := 1) scNe.nd rfl (Or.inl rfl) (pe_op op_cat (pv 1) (pe_lst (pa_cons pe_str (pa_cons pe_str (pa_cons pe_str (pa_cons pe_str (pa_cons pe_str pa_nil))))))))
        (pss_cons (ps_set (i := 1) scNe.nd rfl (Or.inl rfl) (pe_op op_cat (pv 1) (pe_lst (pa_cons pe_str (pa_cons pe_str (pa_cons pe_str pa_nil))))))
        (pss_one (ps_ret (pe_ix ix_list (pv 1) (pe_call GT hr (by rfl) DT.at_ DT.kp DT.bd .nil pass0 (pa_cons (pv 0) (pa_cons (pe_callB call_len_seq (by rfl) ml PySem.boot_len (pa_cons (pv 1) pa_nil)) pa_nil))) (fun _ _ => rfl))))))))))))), ?_⟩
    refine ⟨by show 6 ≤ sizeLine; decide, fun a0 h0 => ?_⟩
    have s0 : Same H (upd H a0 (.lst (near0.map V.str))) := same_new h0
    have g0 : (upd H a0 (.lst (near0.map V.str))) a0 = some (.lst (near0.map V.str)) := upd_same
    dsimp only [gName]
    refine cat_step (i := 1) (L := a0) (ws := near1.map V.str) rfl g0 (fun Q h => h) (by rw [List.length_map, List.length_map]; decide) (fun a1 G1 g1 t1 => ?_)
    rw [← List.map_append] at g1
    have s1 : Same H G1 := s0.trans t1
    clear t1 g0 s0
    refine cat_step (i := 1) (L := a1) (ws := near2.map V.str) rfl g1 (fun Q h => h) (by rw [List.length_map, List.length_map]; decide) (fun a2 G2 g2 t2 => ?_)
    rw [← List.map_append] at g2
    have s2 : Same H G2 := s1.trans t2
    clear t2 g1 s1
    refine cat_step (i := 1) (L := a2) (ws := near3.map V.str) rfl g2 (fun Q h => h) (by rw [List.length_map, List.length_map]; decide) (fun a3 G3 g3 t3 => ?_)
    rw [← List.map_append] at g3
    have s3 : Same H G3 := s2.trans t3
    clear t3 g2 s2
    refine cat_step (i := 1) (L := a3) (ws := near4.map V.str) rfl g3 (fun Q h => h) (by rw [List.length_map, List.length_map]; decide) (fun a4 G4 g4 t4 => ?_)
    rw [← List.map_append] at g4
    have s4 : Same H G4 := s3.trans t4
    clear t4 g3 s3
    refine cat_step (i := 1) (L := a4) (ws := near5.map V.str) rfl g4 (fun Q h => h) (by rw [List.length_map, List.length_map]; decide) (fun a5 G5 g5 t5 => ?_)
    rw [← List.map_append] at g5
    have s5 : Same H G5 := s4.trans t5
    clear t5 g4 s4
    refine cat_step (i := 1) (L := a5) (ws := near6.map V.str) rfl g5 (fun Q h => h) (by rw [List.length_map, List.length_map]; decide) (fun a6 G6 g6 t6 => ?_)
    rw [← List.map_append] at g6
    have s6 : Same H G6 := s5.trans t6
    clear t6 g5 s5
    refine cat_step (i := 1) (L := a6) (ws := near7.map V.str) rfl g6 (fun Q h => h) (by rw [List.length_map, List.length_map]; decide) (fun a7 G7 g7 t7 => ?_)
    rw [← List.map_append] at g7
    have s7 : Same H G7 := s6.trans t7
    clear t7 g6 s6
    refine cat_step (i := 1) (L := a7) (ws := near8.map V.str) rfl g7 (fun Q h => h) (by rw [List.length_map, List.length_map]; decide) (fun a8 G8 g8 t8 => ?_)
    rw [← List.map_append] at g8
    have s8 : Same H G8 := s7.trans t8
    clear t8 g7 s7
    have hl : ((near0 ++ near1 ++ near2 ++ near3 ++ near4 ++ near5 ++ near6 ++ near7 ++ near8).map V.str).length = 43 := by rw [List.length_map]; decide
    have pu8 := pu.same s8
    have n8 : a8 ≠ p := fun e => by
      obtain ⟨_, _, _, e2, _⟩ := id pu8
      rw [← e, g8] at e2
      have := congrArg (fun o : Option HO => match o with | some (.lst l) => l.length | _ => 0) e2
      have e3 : ((near0 ++ near1 ++ near2 ++ near3 ++ near4 ++ near5 ++ near6 ++ near7 ++ near8).map V.str).length = 3 := this
      rw [hl] at e3
      cases e3
    refine ⟨_, rfl, _, rfl, _, rfl, a8, _, rfl, .inl (SqL.of g8), p, _, n, rfl, pu8, by omega, by omega, by omega, fun d G d0 d1 pu2 eq2 => ?_⟩
    obtain ⟨v, mv, ev⟩ := pick (xs := (near0 ++ near1 ++ near2 ++ near3 ++ near4 ++ near5 ++ near6 ++ near7 ++ near8).map V.str) d0 d1
    obtain ⟨z, mz, rfl⟩ := List.mem_map.mp mv
    exact ⟨a8, _, d, _, rfl, rfl, SqL.of ((eq2 _ n8).trans g8), ev, q z G mz (fun a o na h => (eq2 a na).trans (s8 _ _ h)) pu2⟩
end
end K7
end Bf

set_option linter.all false
namespace Bf
open PySem PySem.Spec PyProof.Rows L2 CwR
namespace K7
abbrev nSp : List Str := ["_law_box_here", "_law_text", "_law_opens", "_law_shuts", "_law_one", "_law_other", "_law_some", "_law_at", "_law_sign", "_law_new"]
abbrev pSp : List Str := ["_law_box_here", "_law_text"]
theorem scSp : FnScope nSp pSp (defScope sSpoilt) := ⟨rfl, rfl, rfl, by decide +kernel, rfl, by decide +kernel, by decide +kernel⟩
theorem gap2 : Gap ") (" := ⟨by decide +kernel, by decide +kernel, by decide +kernel, by decide +kernel⟩
theorem gap1 : Gap " (" := ⟨by decide +kernel, by decide +kernel, by decide +kernel, by decide +kernel⟩
section
variable {P : Program} {w : World} {K : PySem.W.Frag} {mg : Str → Option Value} {base : Heap}
def spSp : Sp := fun vs H Q _ => ∃ (p : Addr) (d : PyData) (n : Int), vs = [.ref p, .str (textS d)] ∧ Purse H p n ∧ n ≤ 99000 ∧ termD d = true ∧ (textS d).length ≤ 4000 ∧ Sm (textS d) ∧ ∀ z G, readD (TL.tl z) = none → z.length ≤ 17000 → Sm z → Kp (· ≠ p) H G → Purse G p (n + 3) → Q (.str z) G
/-- where a sign stands -/
theorem places_ok {z sg : Str} {c0 : Nat} (hs : TL.tl sg = [c0]) {a0 a2 a3 a4 a5 a6 a7 a8 a9 : Option V} {H : Hp} {Q : VK} (hz : z.length ≤ 4000)
    (q : ∀ (D : Addr) (ks : List Nat) (G : Hp), H D = none → G D = some (.lst (ks.map fun k : Nat => V.int (k : Int))) → (∀ k ∈ ks, z.cps[k]? = some c0) → (∀ k, z.cps[k]? = some c0 → k ∈ ks) → ks.length ≤ 4000 → Same H G → Q (.ref D) G) :
    tLc (iEnumS (tCons (tVar 1) tNil)) (gTup K 2 (gCons (gName 7) (gCons (gName 8) gNil))) (tTest (tOp rEq (tVar 8) (tC (V.str sg)))) (tVar 7) (List.map (fun x => x.snd) [(("_law_at" : Str), 7), (("_law_sign" : Str), 8)])
      [a0, some (.str z), a2, a3, a4, a5, a6, a7, a8, a9] H Q := by
  refine ⟨_, rfl, z, rfl, fun D hD => lc_en (x := z) (fun i G => ∃ ks : List Nat, G D = some (.lst (ks.map fun k : Nat => V.int (k : Int))) ∧ ks.length ≤ i ∧ (∀ k ∈ ks, z.cps[k]? = some c0) ∧ (∀ k, k < i → z.cps[k]? = some c0 → k ∈ ks) ∧ Same H G)
    ⟨[], upd_same, Nat.le_refl _, (fun _ m => nomatch m), (fun _ h => absurd h (Nat.not_lt_zero _)), same_new hD⟩ (fun i c G T hc pv hT => ?_) fun G pv => ?_⟩
  · obtain ⟨ks, gD, lk, h1, h2, sG⟩ := pv
    have hi : i < z.cps.size := (Array.getElem?_eq_some_iff.mp hc).1
    have hi' : i < z.length := hi
    have nTD : D ≠ T := fun e => by rw [← e, gD] at hT; cases hT
    have sT : Same G (upd G T (.tup [.int (i : Nat), .str ⟨#[c]⟩])) := same_new hT
    refine ⟨T, _, rfl, SqT.of upd_same, rfl, _, _, rfl, _, _, rfl, rfl, rfl, _, rfl, rfl, _, rfl, ite2 (fun e => ?_) (fun e => ?_)⟩
    · have ec : c = c0 := by
        have := congrArg TL.tl (V.str.inj (of_decide_eq_true e))
        rw [hs] at this
        exact (List.cons.inj this).1
      subst ec
      refine ⟨_, rfl, _, sT _ _ gD, by rw [List.length_map, sizeLine_eq]; omega, ks ++ [i], by rw [upd_same, List.map_append]; rfl, by rw [List.length_append]; exact Nat.succ_le_succ lk, fun k m => ?_, fun k hk hc' => ?_, fun a o h => ?_⟩
      · rcases List.mem_append.mp m with m | m
        · exact h1 k m
        · rw [List.mem_singleton.mp m]; exact hc
      · rcases Nat.lt_or_ge k i with h | h
        · exact List.mem_append_left _ (h2 k h hc')
        · have : k = i := by omega
          exact List.mem_append_right _ (by rw [this]; exact List.mem_singleton.mpr rfl)
      · rw [upd_ne (ne_of_none h hD)]
        exact sT _ _ (sG _ _ h)
    · refine ⟨ks, sT _ _ gD, Nat.le_succ_of_le lk, h1, fun k hk hc' => ?_, sG.trans sT⟩
      rcases Nat.lt_or_ge k i with h | h
      · exact h2 k h hc'
      · have : k = i := by omega
        subst this
        have e3 : c = c0 := by rw [hc] at hc'; exact Option.some.inj hc'
        refine absurd (decide_eq_true (congrArg V.str (TL.ext_tl ?_))) e
        rw [hs, e3]
  · obtain ⟨ks, gD, lk, h1, h2, sG⟩ := pv
    have lz : z.cps.size ≤ 4000 := hz
    exact q D ks G hD gD h1 (fun k hc => h2 k (Array.getElem?_eq_some_iff.mp hc).1 hc) (by omega) sG
theorem places_seq {u : TS} {E : Ends} {i : Nat} {z sg : Str} {c0 : Nat} (hs : TL.tl sg = [c0]) {a0 a2 a3 a4 a5 a6 a7 a8 a9 : Option V} {H : Hp} (hz : z.length ≤ 4000)
    (q : ∀ (D : Addr) (ks : List Nat) (G : Hp), H D = none → G D = some (.lst (ks.map fun k : Nat => V.int (k : Int))) → (∀ k ∈ ks, z.cps[k]? = some c0) → (∀ k, z.cps[k]? = some c0 → k ∈ ks) → ks.length ≤ 4000 → Same H G → u E ([a0, some (.str z), a2, a3, a4, a5, a6, a7, a8, a9].set i (some (.ref D))) G) :
    tSeq (tAsg (tLc (iEnumS (tCons (tVar 1) tNil)) (gTup K 2 (gCons (gName 7) (gCons (gName 8) gNil))) (tTest (tOp rEq (tVar 8) (tC (V.str sg)))) (tVar 7) (List.map (fun x => x.snd) [(("_law_at" : Str), 7), (("_law_sign" : Str), 8)])) (gName i)) u E
      [a0, some (.str z), a2, a3, a4, a5, a6, a7, a8, a9] H :=
  places_ok (K := K) (Q := fun x G => u E ([a0, some (.str z), a2, a3, a4, a5, a6, a7, a8, a9].set i (some x)) G) hs hz q
/-! a reading that gives a value and changes nothing -/
def Ev (t : TE) (σ : L2.St) (H : Hp) (v : V) : Prop := ∀ Q : VK, Q v H → t σ H Q
def EvA (t : TA) (σ : L2.St) (H : Hp) (vs : List V) : Prop := ∀ Q : List V → Hp → Prop, Q vs H → t σ H Q
section
variable {σ : L2.St} {H : Hp} {a b : TE} {ta : TA} {v : V} {vs : List V} {x y z : Str} {k : Int} {i j : Nat}
theorem ev_c : Ev (tC v) σ H v := fun _ q => q
theorem ev_v (h : σ[i]? = some (some v)) : Ev (tVar i) σ H v := fun _ q => ⟨_, h, q⟩
theorem ev_cat (ha : Ev a σ H (.str x)) (hb : Ev b σ H (.str y)) (l : x.length + y.length ≤ 100000) :
    Ev (tOp (fun x y H Q => ∃ i j, x = V.str i ∧ y = V.str j ∧ i.length + j.length ≤ sizeLine ∧ Q (V.str (i ++ j)) H) a b) σ H (.str (x ++ y)) := fun _ q => ha _ (hb _ ⟨x, y, rfl, rfl, by rw [sizeLine_eq]; omega, q⟩)
theorem evA_nil : EvA tNil σ H [] := fun _ q => q
theorem evA_cons (ha : Ev a σ H v) (hr : EvA ta σ H vs) : EvA (tCons a ta) σ H (v :: vs) := fun _ q => ha _ (hr _ q)
theorem ev_to (h : σ[i]? = some (some (.str z))) (hz : z.length ≤ 4000) (hj : σ[j]? = some (some (.int k))) : Ev (tSl rSlS (tVar i) tNoPart (tPart (tVar j))) σ H (.str (cutS z none (some k))) := fun _ q => ⟨_, h, _, hj, k, rfl, z, rfl, by rw [sizeLine_eq]; omega, q⟩
theorem ev_to1 (h : σ[i]? = some (some (.str z))) (hz : z.length ≤ 4000) (hj : σ[j]? = some (some (.int k))) : Ev (tSl rSlS (tVar i) tNoPart (tPart (tOp (rI0 fun i j => V.int (i + j)) (tVar j) (tC (V.int 1))))) σ H (.str (cutS z none (some (k + 1)))) :=
  fun _ q => ⟨_, h, _, hj, _, _, rfl, rfl, _, rfl, z, rfl, by rw [sizeLine_eq]; omega, q⟩
theorem ev_fr (h : σ[i]? = some (some (.str z))) (hz : z.length ≤ 4000) (hj : σ[j]? = some (some (.int k))) : Ev (tSl rSlS (tVar i) (tPart (tVar j)) tNoPart) σ H (.str (cutS z (some k) none)) := fun _ q => ⟨_, h, _, hj, k, rfl, z, rfl, by rw [sizeLine_eq]; omega, q⟩
theorem ev_fr1 (h : σ[i]? = some (some (.str z))) (hz : z.length ≤ 4000) (hj : σ[j]? = some (some (.int k))) : Ev (tSl rSlS (tVar i) (tPart (tOp (rI0 fun i j => V.int (i + j)) (tVar j) (tC (V.int 1)))) tNoPart) σ H (.str (cutS z (some (k + 1)) none)) :=
  fun _ q => ⟨_, h, _, hj, _, _, rfl, rfl, _, rfl, z, rfl, by rw [sizeLine_eq]; omega, q⟩
theorem ev_repl (h : σ[i]? = some (some (.str z))) (l : z.length + (z.length + 1) * y.length ≤ 16777216) : Ev (tReplC (tVar i) x y) σ H (.str (Txt.replace z x y)) := fun _ q => ⟨_, h, z, rfl, l, q⟩
theorem lst_ev {u : TS} {D : Ends} {G : Hp} {ws : List V} (hta : EvA ta σ G ws) (l : ws.length ≤ 1000) (q : ∀ L' G', G' L' = some (.lst ws) → Same G G' → u D (σ.set i (some (.ref L'))) G') : tSeq (tAsg (tLst ta) (gName i)) u D σ G := by
  refine hta _ ⟨by rw [sizeLine_eq]; omega, fun p hp => q p _ upd_same (same_new hp)⟩
theorem cat_ev {u : TS} {D : Ends} {G : Hp} {L : Addr} {ws : List V} (hσ : σ[i]? = some (some (.ref L))) (hta : EvA ta σ G ws) (gL : G L = some (.lst vs)) (l : vs.length + ws.length ≤ 1000)
    (q : ∀ L' G', G' L' = some (.lst (vs ++ ws)) → Same G G' → u D (σ.set i (some (.ref L'))) G') : tSeq (tAsg (tOp rCat (tVar i) (tLst ta)) (gName i)) u D σ G := cat_step hσ gL hta l q
end
theorem tl_to {z : Str} {k : Nat} (h : k ≤ z.length) : TL.tl (cutS z none (some (k : Int))) = (TL.tl z).take k := by
  unfold cutS
  rw [HT.sIx_nat, HT.sIx_none, List.drop_zero, TL.tl_mk, Nat.sub_zero, Nat.min_eq_left h]
theorem tl_fr {z : Str} {k : Nat} (h : k ≤ z.length) : TL.tl (cutS z (some (k : Int)) none) = (TL.tl z).drop k := by
  unfold cutS
  rw [HT.sIx_nat, HT.sIx_none, TL.tl_mk, Nat.min_eq_left h]
  refine List.take_of_length_le ?_
  rw [List.length_drop]
  exact Nat.le_refl _
/-- the four pieces around a sign -/
structure Around4 (z : Str) (c k : Nat) (a b : List Nat) : Prop where
  eq : TL.tl z = a ++ c :: b
  p0 : TL.tl (cutS z none (some (k : Int))) = a
  p1 : TL.tl (cutS z none (some ((k : Int) + 1))) = a ++ [c]
  r0 : TL.tl (cutS z (some (k : Int)) none) = c :: b
  r1 : TL.tl (cutS z (some ((k : Int) + 1)) none) = b
theorem around4 {z : Str} {c k : Nat} (h : z.cps[k]? = some c) : Around4 z c k ((TL.tl z).take k) ((TL.tl z).drop (k + 1)) := by
  have lt : k < z.length := (Array.getElem?_eq_some_iff.mp h).1
  have lt' : k < (TL.tl z).length := by rw [← TL.len_tl]; exact lt
  have hc : (TL.tl z)[k] = c := by
    have : (TL.tl z)[k]? = some c := by
      show z.cps.toList[k]? = some c
      rw [Array.getElem?_toList]
      exact h
    rw [List.getElem?_eq_getElem lt'] at this
    exact Option.some.inj this
  have e1 : ((k : Int) + 1) = ((k + 1 : Nat) : Int) := by omega
  have ed : (TL.tl z).drop k = c :: (TL.tl z).drop (k + 1) := by rw [List.drop_eq_getElem_cons lt', hc]
  refine ⟨?_, tl_to (Nat.le_of_lt lt), ?_, ?_, ?_⟩
  · rw [← ed, List.take_append_drop]
  · rw [e1, tl_to lt, ← List.take_append_getElem lt', hc]
  · rw [tl_fr (Nat.le_of_lt lt), ed]
  · rw [e1, tl_fr lt]
theorem cutS_len (z : Str) (lo hi : Option Int) : (cutS z lo hi).length ≤ z.length := by
  unfold cutS
  show (List.toArray _).size ≤ _
  rw [List.size_toArray, List.length_take, List.length_drop]
  have : z.cps.toList.length = z.length := by rw [Array.length_toList]; rfl
  omega
def Bad (y : Str) : Prop := readD (TL.tl y) = none ∧ y.length ≤ 17000 ∧ Sm y
structure Gl (vs : List V) (n : Nat) : Prop where
  len : vs.length = n
  bad : ∀ v ∈ vs, ∃ y, v = .str y ∧ Bad y
theorem Gl.nil : Gl [] 0 := ⟨rfl, fun _ m => nomatch m⟩
theorem Gl.cons {y : Str} {vs : List V} {n : Nat} (h : Bad y) (g : Gl vs n) : Gl (.str y :: vs) (n + 1) := ⟨congrArg (· + 1) g.len, fun v m => by
  rcases List.mem_cons.mp m with rfl | m
  · exact ⟨y, rfl, h⟩
  · exact g.bad v m⟩
theorem Gl.app {vs ws : List V} {n m : Nat} (g : Gl vs n) (h : Gl ws m) : Gl (vs ++ ws) (n + m) := ⟨by rw [List.length_append, g.len, h.len], fun v m => by
  rcases List.mem_append.mp m with m | m
  · exact g.bad v m
  · exact h.bad v m⟩
theorem gl_pk {z y : Str} (h : occursIn z y = true → Bad (Txt.replace z y (Txt.replace y " " ""))) : ∃ m, m ≤ 1 ∧ Gl (pk z y) m := by
  unfold pk
  cases e : occursIn z y with
  | true => exact ⟨1, Nat.le_refl _, by rw [if_pos rfl]; exact Gl.cons (h e) Gl.nil⟩
  | false => exact ⟨0, Nat.zero_le _, by rw [if_neg Bool.false_ne_true]; exact Gl.nil⟩
theorem pick_end {K : PySem.W.Frag} {σ : L2.St} {G : Hp} {L p : Addr} {n : Int} {vs : List V} {N : Nat} {D : Ends} {E : XK} (h6 : σ[6]? = some (some (.ref L))) (h0 : σ[0]? = some (some (.ref p))) (gL : G L = some (.lst vs)) (g : Gl vs N) (N0 : 0 < N) (N1 : N ≤ 100)
    (pu : Purse G p n) (hn : n ≤ 99990) (nL : L ≠ p) (fin : ∀ y G', Bad y → Kp (· ≠ p) G G' → Purse G' p (n + 1) → D.rt (.str y) G') :
    tRet (tOp (rIxL K) (tVar 6) (tCall spTake [] E (tCons (tVar 0) (tCons (tCB (fun xs H Q => ∃ p ys, xs = [V.ref p] ∧ (SqL K H p ys ∨ SqT K H p ys) ∧ Q (V.int ys.length) H) (tCons (tVar 6) tNil)) tNil)))) D σ G := by
  have hl := g.len
  refine ⟨_, h6, _, h0, _, h6, L, vs, rfl, .inl (SqL.of gL), p, _, n, rfl, pu, by omega, by omega, by omega, fun d G' d0 d1 pu2 eq2 => ?_⟩
  obtain ⟨v, mv, ev⟩ := pick d0 d1
  obtain ⟨y, rfl, by'⟩ := g.bad v mv
  exact ⟨L, vs, d, _, rfl, rfl, SqL.of ((eq2 L nL).trans gL), ev, fin y G' by' (kp_take eq2) pu2⟩
theorem lit_len : (["(", ")", " ", "x", ",", "no", "\n", "[", "", "()", ")("] : List Str).all (fun z => decide (z.length ≤ 4)) = true := by decide +kernel
theorem bad2 {x y : Str} (lx : x.length ≤ 4000 ∧ Sm x) (ly : y.length ≤ 4000 ∧ Sm y) (h : readD (TL.tl x ++ TL.tl y) = none) : Bad (x ++ y) := ⟨by rw [TL.tl_append]; exact h, by rw [strLen_append]; omega, sm_app lx.2 ly.2⟩
theorem bad3 {x m y : Str} (lx : x.length ≤ 4000 ∧ Sm x) (lm : m.length ≤ 4000 ∧ Sm m) (ly : y.length ≤ 4000 ∧ Sm y) (h : readD (TL.tl x ++ TL.tl m ++ TL.tl y) = none) : Bad (x ++ m ++ y) := ⟨by rw [TL.tl_append, TL.tl_append]; exact h, by rw [strLen_append, strLen_append]; omega, sm_app (sm_app lx.2 lm.2) ly.2⟩
theorem ev_cat2 {σ : L2.St} {H : Hp} {a b : TE} {x y : Str} (ha : Ev a σ H (.str x)) (hb : Ev b σ H (.str y)) (lx : x.length ≤ 4000) (ly : y.length ≤ 4000) :
    Ev (tOp (fun x y H Q => ∃ i j, x = V.str i ∧ y = V.str j ∧ i.length + j.length ≤ sizeLine ∧ Q (V.str (i ++ j)) H) a b) σ H (.str (x ++ y)) := ev_cat ha hb (by omega)
theorem ev_cat3 {σ : L2.St} {H : Hp} {a m b : TE} {x w y : Str} (ha : Ev a σ H (.str x)) (hm : Ev m σ H (.str w)) (hb : Ev b σ H (.str y)) (lx : x.length ≤ 4000) (lw : w.length ≤ 4000) (ly : y.length ≤ 4000) :
    Ev (tOp (fun x y H Q => ∃ i j, x = V.str i ∧ y = V.str j ∧ i.length + j.length ≤ sizeLine ∧ Q (V.str (i ++ j)) H) (tOp (fun x y H Q => ∃ i j, x = V.str i ∧ y = V.str j ∧ i.length + j.length ≤ sizeLine ∧ Q (V.str (i ++ j)) H) a m) b) σ H (.str (x ++ w ++ y)) :=
  ev_cat (ev_cat ha hm (by omega)) hb (by rw [strLen_append]; omega)
set_option maxHeartbeats 4000000 in
theorem ok_sp {f ft : Addr} {fd fdt : FuncData} (F : Fun K "_law_spoilt" "_law_spoilt" sSpoilt f fd) (DT : Df K mg "_law_take" ft fdt pTake) (GT : FnOk P w K mg base CX0 1 ft fdt pTake spTake) (ml : mg "len" = none) (me : mg "enumerate" = none) : FnOk P w K mg base CX0 2 f fd pSp spSp := by
  refine F.ok scSp (fun vs H Q E h => ?_) (fun cdv A outer s H vs Q E hr h => ?_)
  · obtain ⟨p, d, n, rfl, _⟩ := h
    rfl
  · obtain ⟨p, d, n, rfl, pu, hn, td, ld, smz, q⟩ := h
    refine ⟨_, (pss_cons (ps_setLc (i := 2) (own := [("_law_at", 7), ("_law_sign", 8)]) (g := gTup K 2 (gCons (gName 7) (gCons (gName 8) gNil))) (tt := _) (by rfl) scSp.nd rfl rfl (sw_true rfl rfl rfl (by decide +kernel)) (pi_enumS (by rfl) me (pa_cons (pv 1) pa_nil)) (blkOk_by (N := nSp) (sc := defScope sSpoilt) (by decide +kernel)) (fun _ _ _ _ _ => pg_tup rfl (pgs_cons (pg_name (i := 7) scSp.nd rfl (Or.inl rfl)) (pgs_cons (pg_name (i := 8) scSp.nd rfl (Or.inl rfl)) pgs_nil))) (fun _ _ _ _ _ => pts_one (pt_cmpR op_eq (pv 8) pe_str (nomark _))) (fun _ _ _ _ _ => pv 7))
        (pss_cons (ps_setLc (i := 3) (own := [("_law_at", 7), ("_law_sign", 8)]) (g := gTup K 2 (gCons (gName 7) (gCons (gName 8) gNil))) (tt := _) (by rfl) scSp.nd rfl rfl (sw_true rfl rfl rfl (by decide +kernel)) (pi_enumS (by rfl) me (pa_cons (pv 1) pa_nil)) (blkOk_by (N := nSp) (sc := defScope sSpoilt) (by decide +kernel)) (fun _ _ _ _ _ => pg_tup rfl (pgs_cons (pg_name (i := 7) scSp.nd rfl (Or.inl rfl)) (pgs_cons (pg_name (i := 8) scSp.nd rfl (Or.inl rfl)) pgs_nil))) (fun _ _ _ _ _ => pts_one (pt_cmpR op_eq (pv 8) pe_str (nomark _))) (fun _ _ _ _ _ => pv 7))
        (pss_cons (ps_par (i := 4) (j := 5) rfl scSp.nd rfl rfl (by decide) rfl rfl (pa_cons (pe_ix ix_list (pv 2) (pe_call GT hr (by rfl) DT.at_ DT.kp DT.bd .nil pass0 (pa_cons (pv 0) (pa_cons (pe_callB call_len_seq (by rfl) ml PySem.boot_len (pa_cons (pv 2) pa_nil)) pa_nil))) (fun _ _ => rfl)) (pa_cons (pe_ix ix_list (pv 3) (pe_call GT hr (by rfl) DT.at_ DT.kp DT.bd .nil pass0 (pa_cons (pv 0) (pa_cons (pe_callB call_len_seq (by rfl) ml PySem.boot_len (pa_cons (pv 3) pa_nil)) pa_nil))) (fun _ _ => rfl)) pa_nil)) rfl)
        (pss_cons (ps_set (i := 6) scSp.nd rfl (Or.inl rfl) (pe_lst (pa_cons (pe_op op_add_str (pe_slice sl_str (pv 1) po_none (po_some (pv 4))) (pe_slice sl_str (pv 1) (po_some (pe_op op_add (pv 4) pe_int)) po_none)) (pa_cons (pe_op op_add_str (pe_slice sl_str (pv 1) po_none (po_some (pv 5))) (pe_slice sl_str (pv 1) (po_some (pe_op op_add (pv 5) pe_int)) po_none)) pa_nil))))
        (pss1_cons (ps1_set (i := 6) scSp.nd rfl (Or.inl rfl) (pe1_op op_cat (pv 6) (pe1_lst (pa1_head (pe1_opL op_add_str (pe1_op op_add_str (pe_slice sl_str (pv 1) po_none (po_some (pe_op op_add (pv 4) pe_int))) pe1_str) (pe_slice sl_str (pv 1) (po_some (pe_op op_add (pv 4) pe_int)) po_none)) (pa_cons (pe_op op_add_str (pe_op op_add_str (pe_slice sl_str (pv 1) po_none (po_some (pv 5))) pe_str) (pe_slice sl_str (pv 1) (po_some (pv 5)) po_none)) pa_nil)))))
        (psst_cons (PST.of (ps_set (i := 6) scSp.nd rfl (Or.inl rfl) (pe_op op_cat (pv 6) (pe_lst (pa_cons (pe_op op_add_str (pe_op op_add_str (pe_slice sl_str (pv 1) po_none (po_some (pv 4))) pe_str) (pe_slice sl_str (pv 1) (po_some (pv 4)) po_none)) (pa_cons (pe_op op_add_str (pe_op op_add_str (pe_slice sl_str (pv 1) po_none (po_some (pv 5))) pe_str) (pe_slice sl_str (pv 1) (po_some (pv 5)) po_none)) (pa_cons (pe_op op_add_str (pe_op op_add_str (pv 1) pe_str) (pv 1)) pa_nil)))))))
        (psst_cons (pst_set (i := 6) scSp.nd rfl (Or.inl rfl) (pet_op op_cat (PET.of (pv 6)) (L2.pet_lst (pat_cons (pet_replC (pv 1)) (pat_cons (PET.of (pe_op op_add_str (pe_op op_add_str (pe_slice sl_str (pv 1) po_none (po_some (pe_op op_add (pv 4) pe_int))) pe_str) (pe_slice sl_str (pv 1) (po_some (pe_op op_add (pv 4) pe_int)) po_none))) (pat_cons (PET.of (pe_op op_add_str (pv 1) pe_str)) pat_nil))))))
        (psst_cons (PST.of (ps_set (i := 6) scSp.nd rfl (Or.inl rfl) (pe_op op_cat (pv 6) (pe_lst (pa_cons (pe_op op_add_str (pe_op op_add_str (pe_slice sl_str (pv 1) po_none (po_some (pv 4))) pe_str) (pe_slice sl_str (pv 1) (po_some (pv 4)) po_none)) (pa_cons (pe_op op_add_str (pe_op op_add_str (pe_slice sl_str (pv 1) po_none (po_some (pe_op op_add (pv 5) pe_int))) pe_str) (pe_slice sl_str (pv 1) (po_some (pe_op op_add (pv 5) pe_int)) po_none)) (pa_cons pe_str (pa_cons pe_str (pa_cons pe_str (pa_cons pe_str pa_nil))))))))))
        (psst_cons (pst_set (i := 6) scSp.nd rfl (Or.inl rfl) (pet_op op_cat (PET.of (pv 6)) (pet_gaps (iN := 9) (iT := 1) rfl scSp.nd (blkOk_by (N := nSp) (sc := defScope sSpoilt) (by decide +kernel)) rfl rfl rfl (Or.inr (Or.inl rfl)) (by decide) gap2 gap1))) (psst_one (PST.of (ps_ret (pe_ix ix_list (pv 6) (pe_call GT hr (by rfl) DT.at_ DT.kp DT.bd .nil pass0 (pa_cons (pv 0) (pa_cons (pe_callB call_len_seq (by rfl) ml PySem.boot_len (pa_cons (pv 6) pa_nil)) pa_nil))) (fun _ _ => rfl)))))))))))))), ?_⟩
    have tx : Tx d (TL.tl (textS d)) := ⟨td, rfl⟩
    obtain ⟨r0, er0⟩ := tx.begins
    generalize hz : textS d = z at ld tx er0 smz
    have hz40 : z.cps[0]? = some 40 := by
      have : (TL.tl z)[0]? = some 40 := by rw [er0]; rfl
      rw [← Array.getElem?_toList]
      exact this
    have hz41 : z.cps[r0.length + 1]? = some 41 := by
      have : (TL.tl z)[r0.length + 1]? = some 41 := by
        rw [er0, List.getElem?_cons_succ, List.getElem?_append_right (Nat.le_refl _), Nat.sub_self]
        rfl
      rw [← Array.getElem?_toList]
      exact this
    have e40 : TL.tl "(" = [40] := by decide +kernel
    have e41 : TL.tl ")" = [41] := by decide +kernel
    refine places_seq e40 ld (fun D1 ks1 G1 hD1 gD1 in1 has1 lk1 s1 => ?_)
    refine places_seq e41 ld (fun D2 ks2 G2 hD2 gD2 in2 has2 lk2 s2 => ?_)
    have nD1 : D1 ≠ p := pu.ne hD1
    have pu1 := pu.same s1
    have nD2 : D2 ≠ p := pu1.ne hD2
    have pu2 := pu1.same s2
    have s12 : Same H G2 := s1.trans s2
    have l1 : 0 < ks1.length := List.length_pos_of_mem (has1 0 hz40)
    have l2 : 0 < ks2.length := List.length_pos_of_mem (has2 _ hz41)
    refine ⟨_, rfl, _, rfl, _, rfl, D1, _, rfl, .inl (SqL.of (s2 _ _ gD1)), p, _, n, rfl, pu2, by omega, by rw [List.length_map]; omega, by rw [List.length_map]; omega, fun d1 G3 d10 d11 pu3 eq3 => ?_⟩
    obtain ⟨v1, mv1, ev1⟩ := pick (xs := ks1.map fun k : Nat => V.int (k : Int)) d10 d11
    obtain ⟨k1, mk1, rfl⟩ := List.mem_map.mp mv1
    have k3 := kp_take eq3
    refine ⟨D1, _, d1, _, rfl, rfl, SqL.of (k3 _ _ nD1 (s2 _ _ gD1)), ev1, ?_⟩
    clear ev1 mv1 d11
    refine ⟨_, rfl, _, rfl, _, rfl, D2, _, rfl, .inl (SqL.of (k3 _ _ nD2 gD2)), p, _, _, rfl, pu3, by omega, by rw [List.length_map]; omega, by rw [List.length_map]; omega, fun d2 G4 d20 d21 pu4 eq4 => ?_⟩
    obtain ⟨v2, mv2, ev2⟩ := pick (xs := ks2.map fun k : Nat => V.int (k : Int)) d20 d21
    obtain ⟨k2, mk2, rfl⟩ := List.mem_map.mp mv2
    have k4 := kp_take eq4
    refine ⟨D2, _, d2, _, rfl, rfl, SqL.of (k4 _ _ nD2 (k3 _ _ nD2 gD2)), ev2, _, _, rfl, ?_⟩
    clear ev2 mv2 d21
    have k04 : Kp (· ≠ p) H G4 := fun a o na h => k4 a o na (k3 a o na (s12 a o h))
    have A1 := around4 (in1 k1 mk1)
    have A2 := around4 (in2 k2 mk2)
    generalize (TL.tl z).take k1 = a1 at A1
    generalize (TL.tl z).drop (k1 + 1) = b1 at A1
    generalize (TL.tl z).take k2 = a2 at A2
    generalize (TL.tl z).drop (k2 + 1) = b2 at A2
    have cl : ∀ lo hi, (cutS z lo hi).length ≤ 4000 := fun lo hi => Nat.le_trans (cutS_len z lo hi) ld
    have cb : ∀ lo hi, (cutS z lo hi).length ≤ 4000 ∧ Sm (cutS z lo hi) := fun lo hi => ⟨cl lo hi, sm_cut smz lo hi⟩
    have km : ∀ {m : Str}, m ∈ (["(", ")", " ", "x", ",", "no", "\n", "[", "", "()", ")("] : List Str) → m.length ≤ 4000 ∧ Sm m := fun {m} h => ⟨Nat.le_trans (of_decide_eq_true (List.all_eq_true.mp lit_len _ h)) (by decide), sm_lit m h⟩
    have e32 : TL.tl " " = [32] := by decide +kernel
    have eno : TL.tl "no" = [110, 111] := by decide +kernel
    have ex : TL.tl "x" = [120] := by decide +kernel
    have enl : TL.tl "\n" = [10] := by decide +kernel
    have B1 : Bad (cutS z none (some ((k1 : Nat) : Int)) ++ cutS z (some (((k1 : Nat) : Int) + 1)) none) := bad2 (cb _ _) (cb _ _) (by rw [A1.p0, A1.r1]; exact tx.drop40 A1.eq)
    have B2 : Bad (cutS z none (some ((k2 : Nat) : Int)) ++ cutS z (some (((k2 : Nat) : Int) + 1)) none) := bad2 (cb _ _) (cb _ _) (by rw [A2.p0, A2.r1]; exact tx.drop41 A2.eq)
    have B3 : Bad (cutS z none (some (((k1 : Nat) : Int) + 1)) ++ " " ++ cutS z (some (((k1 : Nat) : Int) + 1)) none) := bad3 (cb _ _) (km (by simp)) (cb _ _) (by rw [A1.p1, A1.r1, e32]; have := un_open_blank a1 b1; simpa using this)
    have B4 : Bad (cutS z none (some ((k2 : Nat) : Int)) ++ " " ++ cutS z (some ((k2 : Nat) : Int)) none) := bad3 (cb _ _) (km (by simp)) (cb _ _) (by rw [A2.p0, A2.r0, e32]; have := un_blank_shut a2 b2; simpa using this)
    have B5 : Bad (cutS z none (some ((k1 : Nat) : Int)) ++ "(" ++ cutS z (some ((k1 : Nat) : Int)) none) := bad3 (cb _ _) (km (by simp)) (cb _ _) (by rw [A1.p0, A1.r0, e40]; have := tx.more40 A1.eq; simpa using this)
    have B6 : Bad (cutS z none (some ((k2 : Nat) : Int)) ++ ")" ++ cutS z (some ((k2 : Nat) : Int)) none) := bad3 (cb _ _) (km (by simp)) (cb _ _) (by rw [A2.p0, A2.r0, e41]; have := tx.more41 A2.eq; simpa using this)
    have B9 : Bad (cutS z none (some (((k1 : Nat) : Int) + 1)) ++ "no" ++ cutS z (some (((k1 : Nat) : Int) + 1)) none) := bad3 (cb _ _) (km (by simp)) (cb _ _) (by rw [A1.p1, A1.r1, eno]; have := tx.no_word A1.eq; simpa using this)
    have B11 : Bad (cutS z none (some ((k1 : Nat) : Int)) ++ "x" ++ cutS z (some ((k1 : Nat) : Int)) none) := bad3 (cb _ _) (km (by simp)) (cb _ _) (by rw [A1.p0, A1.r0, ex]; have := un_pair40 (c := 120) (by decide) (by decide) a1 b1; simpa using this)
    have B12 : Bad (cutS z none (some (((k2 : Nat) : Int) + 1)) ++ "x" ++ cutS z (some (((k2 : Nat) : Int) + 1)) none) := bad3 (cb _ _) (km (by simp)) (cb _ _) (by rw [A2.p1, A2.r1, ex]; have := un_41pair (c := 120) (by decide) (by decide) a2 b2; simpa using this)
    have B7 : Bad (z ++ " " ++ z) := bad3 ⟨ld, smz⟩ (km (by simp)) ⟨ld, smz⟩ (by rw [e32]; have := tx.twice; simpa using this)
    have B10 : Bad (z ++ "\n") := bad2 ⟨ld, smz⟩ (km (by simp)) (by rw [enl]; exact un_nl _ [])
    have fx : ∀ {y : Str}, readD (TL.tl y) = none → y.length ≤ 4000 ∧ Sm y → Bad y := fun h l => ⟨h, by omega, l.2⟩
    have B13 : Bad "" := fx (by decide +kernel) (km (by simp))
    have B14 : Bad " " := fx (by decide +kernel) (km (by simp))
    have B15 : Bad "x" := fx (by decide +kernel) (km (by simp))
    have B16 : Bad "()" := fx (by decide +kernel) (km (by simp))
    have h41 : 41 ∈ TL.tl z := by rw [A2.eq]; simp
    have B8 : Bad (Txt.replace z "(" "[") := by
      have a := tx.square h41
      have b := TK.replace_len z "(" "["
      have c : ("[" : Str).length = 1 := by decide +kernel
      rw [hz] at a
      rw [c] at b
      exact ⟨a, by omega, sm_repl smz (km (by simp)).2⟩
    have g2 := tx.glue2
    have g1 := tx.glue1
    rw [hz] at g2 g1
    have x2 : Txt.replace ") (" " " "" = ")(" := by decide +kernel
    have x1 : Txt.replace " (" " " "" = "(" := by decide +kernel
    have occ : ∀ {y : Str}, occursIn z y = true → (Builtin.Str.occurrences z y 0 z.length 1).isEmpty = false := fun h => by
      unfold occursIn at h
      simpa using h
    have P2 : ∃ m, m ≤ 1 ∧ Gl (pk z ") (") m := gl_pk fun h => by
      rw [x2]
      have b := TK.replace_len z ") (" ")("
      have c : (")(" : Str).length = 2 := by decide +kernel
      rw [c] at b
      exact ⟨g2 (occ h), by omega, sm_repl smz (km (by simp)).2⟩
    have P1 : ∃ m, m ≤ 1 ∧ Gl (pk z " (") m := gl_pk fun h => by
      rw [x1]
      have b := TK.replace_len z " (" "("
      have c : ("(" : Str).length = 1 := by decide +kernel
      rw [c] at b
      exact ⟨g1 (occ h), by omega, sm_repl smz (km (by simp)).2⟩
    have hb8 : z.length + (z.length + 1) * ("[" : Str).length ≤ 16777216 := by
      have c : ("[" : Str).length = 1 := by decide +kernel
      rw [c]; omega
    obtain ⟨m2, hm2, Q2⟩ := P2
    obtain ⟨m1, hm1, Q1⟩ := P1
    refine lst_ev (i := 6) (evA_cons (ev_cat2 (ev_to rfl ld rfl) (ev_fr1 rfl ld rfl) (cl _ _) (cl _ _)) (evA_cons (ev_cat2 (ev_to rfl ld rfl) (ev_fr1 rfl ld rfl) (cl _ _) (cl _ _)) evA_nil)) (by show 2 ≤ 1000; decide) (fun L0 G5 g5 t5 => ?_)
    have q5 := Gl.cons B1 (Gl.cons B2 Gl.nil)
    refine cat_ev (i := 6) rfl (evA_cons (ev_cat3 (ev_to1 rfl ld rfl) ev_c (ev_fr1 rfl ld rfl) (cl _ _) (by decide +kernel) (cl _ _)) (evA_cons (ev_cat3 (ev_to rfl ld rfl) ev_c (ev_fr rfl ld rfl) (cl _ _) (by decide +kernel) (cl _ _)) evA_nil)) g5 (by show 4 ≤ 1000; decide) (fun L1 G6 g6 t6 => ?_)
    have q6 := q5.app (Gl.cons B3 (Gl.cons B4 Gl.nil))
    refine cat_ev (i := 6) rfl (evA_cons (ev_cat3 (ev_to rfl ld rfl) ev_c (ev_fr rfl ld rfl) (cl _ _) (by decide +kernel) (cl _ _)) (evA_cons (ev_cat3 (ev_to rfl ld rfl) ev_c (ev_fr rfl ld rfl) (cl _ _) (by decide +kernel) (cl _ _)) (evA_cons (ev_cat3 (ev_v rfl) ev_c (ev_v rfl) ld (by decide +kernel) ld) evA_nil))) g6 (by show 7 ≤ 1000; decide) (fun L2' G7 g7 t7 => ?_)
    have q7 := q6.app (Gl.cons B5 (Gl.cons B6 (Gl.cons B7 Gl.nil)))
    refine cat_ev (i := 6) rfl (evA_cons (ev_repl rfl hb8) (evA_cons (ev_cat3 (ev_to1 rfl ld rfl) ev_c (ev_fr1 rfl ld rfl) (cl _ _) (by decide +kernel) (cl _ _)) (evA_cons (ev_cat2 (ev_v rfl) ev_c ld (by decide +kernel)) evA_nil))) g7 (by show 10 ≤ 1000; decide) (fun L3 G8 g8 t8 => ?_)
    have q8 := q7.app (Gl.cons B8 (Gl.cons B9 (Gl.cons B10 Gl.nil)))
    refine cat_ev (i := 6) rfl (evA_cons (ev_cat3 (ev_to rfl ld rfl) ev_c (ev_fr rfl ld rfl) (cl _ _) (by decide +kernel) (cl _ _)) (evA_cons (ev_cat3 (ev_to1 rfl ld rfl) ev_c (ev_fr1 rfl ld rfl) (cl _ _) (by decide +kernel) (cl _ _)) (evA_cons ev_c (evA_cons ev_c (evA_cons ev_c (evA_cons ev_c evA_nil)))))) g8 (by show 16 ≤ 1000; decide) (fun L4 G9 g9 t9 => ?_)
    have q9 := q8.app (Gl.cons B11 (Gl.cons B12 (Gl.cons B13 (Gl.cons B14 (Gl.cons B15 (Gl.cons B16 Gl.nil))))))
    have s9 : Same G4 G9 := t5.trans (t6.trans (t7.trans (t8.trans t9)))
    have pu9 := pu4.same s9
    refine ⟨_, rfl, z, rfl, by omega, fun D9 hD9 => ⟨L4, D9, _, _, rfl, rfl, same_new hD9 _ _ g9, upd_same, ?_, fun L5 h5 => ?_⟩⟩
    · rw [(Q2.app Q1).len, sizeLine_eq]
      show 16 + (m2 + m1) ≤ 16777216
      omega
    have q10 := q9.app (Q2.app Q1)
    have pu10 := pu9.same (same_new (o := .lst (pk z ") (" ++ pk z " (")) hD9)
    refine pick_end (N := 16 + (m2 + m1)) (p := p) (n := n + 1 + 1) rfl rfl upd_same q10 (by omega) (by omega) (pu10.same (same_new h5)) (by omega) (pu10.ne h5) (fun y G' by' kG pG => ?_)
    exact q y G' by'.1 by'.2.1 by'.2.2 (fun a o na h => kG a o na (same_trans_new (same_new hD9) h5 a o (s9 a o (k04 a o na h)))) (pG.mono (by omega))
end
end K7
end Bf

set_option linter.all false
namespace Bf
open PySem PySem.Spec PyProof.Rows L2 LamX
namespace K7
section
variable {P : Program} {w : World} {K : PySem.W.Frag} {mg : Str → Option Value} {base : Heap}
structure Exm7 (K : PySem.W.Frag) (cT cX : Addr) : Prop where
  tt : PySem.W.exmOne K (.ref cT) (.ref cT) = some true
  xt : PySem.W.exmOne K (.ref cX) (.ref cT) = some false
  xx : PySem.W.exmOne K (.ref cX) (.ref cX) = some true
abbrev pCa : List Str := ["_law_ask", "_law_thing"]
abbrev nCa : List Str := ["_law_ask", "_law_thing", "e"]
theorem scCa : FnScope nCa pCa (defScope sCaught) := ⟨rfl, rfl, rfl, by decide +kernel, rfl, by decide +kernel, by decide +kernel⟩
/-- asked of what is refused: the class C, its word tag -/
def spCa (q : Str) (prm : Arguments) (body : Expr) (scope : Scope) (sp : Sp) (C : Addr) (tag : Str) : Sp := fun vs H Q _ => ∃ (f c' : Addr) (x : V), vs = [.ref f, x] ∧ H f = some (LamO f c' q prm body scope) ∧ H c' = some (CodeO c' q) ∧
  (∀ E Q', Refuses C x H E → sp [x] H Q' E) ∧ ∀ p H', H p = none → p ≠ sysModules → Same H H' → H' p = some (.lst [.str tag, x]) → Q (.ref p) H'
theorem ok_ca {f cT cX fT fX : Addr} {fd fdT fdX : FuncData} {n : Nat} {q : Str} {prm : Arguments} {body : Expr} {scope : Scope} {sp : Sp} {C : Addr} {tag : Str} (F : Fun K "_law_caught" "_law_caught" sCaught f fd) (TT : ExT K mg "NoTerm" cT fT fdT) (TX : ExT K mg "NoText" cX fX fdX) (X : Exm7 K cT cX)
    (L : LamOk P w K mg base (CXL P w) n q prm body scope sp) (hC : (C = cT ∧ tag = "term") ∨ (C = cX ∧ tag = "text")) : FnOk P w K mg base CX0 (n + 1) f fd pCa (spCa q prm body scope sp C tag) := by
  refine F.ok scCa (fun vs H Q E h => ?_) (fun cdv A outer s H vs Q E hr h => ?_)
  · obtain ⟨f, c', x, rfl, _⟩ := h
    rfl
  · obtain ⟨f, c', x, rfl, hf, hc, hsp, q⟩ := h
    refine ⟨_, pss_one (ps_arms rfl rfl scCa.nd
      (fun W pn xe tk _ => pss_one (ps_ret (pe_lstN (pa_cons pe_str (pa_cons (pe_callL (i := 0) L hr rfl (Or.inl rfl) (fun σ => L2.passAt tk σ) (pv 1)) pa_nil)))))
      (Arms.cons (c := .ref cT) (i := 2) ⟨by rfl, by decide, .inl TT.gC⟩ rfl rfl (fun a oe cls d pn hz hf => pss_one (ps_ret (pe_lstN (pa_cons pe_str (pa_cons (pe_xf TT.xf TT.nf hz hf (pv 2)) pa_nil)))))
      (Arms.cons (c := .ref cX) (i := 2) ⟨by rfl, by decide, .inl TX.gC⟩ rfl rfl (fun a oe cls d pn hz hf => pss_one (ps_ret (pe_lstN (pa_cons pe_str (pa_cons (pe_xf TX.xf TX.nf hz hf (pv 2)) pa_nil))))) Arms.nil))), ?_⟩
    refine ⟨f, c', rfl, hf, _, rfl, hf, hc, hsp _ _ fun d' H' s' hd hx => ?_⟩
    have fin : ∀ p, H' p = none → p ≠ sysModules → Q (.ref p) (upd H' p (.lst [.str tag, x])) := fun p hp np => q p _ (s'.free hp) np (same_trans_new s' hp) upd_same
    rcases hC with ⟨rfl, rfl⟩ | ⟨rfl, rfl⟩
    · exact ⟨true, X.tt, fun _ a ha => ⟨_, rfl, rfl, rfl, d', _, _, rfl, hx, rfl, by show 2 ≤ 1000; decide, fin⟩, fun z => nomatch z⟩
    · exact ⟨false, X.xt, (fun z => nomatch z), fun _ => ⟨true, X.xx, fun _ a ha => ⟨_, rfl, rfl, rfl, d', _, _, rfl, hx, rfl, by show 2 ≤ 1000; decide, fin⟩, fun z => nomatch z⟩⟩
end
end K7
end Bf

set_option linter.all false
namespace Bf
open PySem PySem.Spec PyProof.Rows L2 LamX
/-- a def of the text whose code's object is known -/
structure FunC (K : PySem.W.Frag) (x qual : Str) (st : Stmt) (f c : Addr) (fd : FuncData) : Prop where
  ex : ∃ (oc : Value) (od : Option Addr) (kV doc pm : Value) (an : Option Addr) (ct : Value) (osl : Array (Option Value)),
    fd = PySem.W.fnOf x qual (defArgs st) (defBody st) (defScope st) .none kV doc pm an (.ref c) ct ∧ K.lookup f = some ⟨oc, od, .func fd, osl⟩ ∧ PySem.W.codeIn K (.ref c) qual = true
  kp : PySem.W.keepIn K (.ref f) = true
theorem FunC.okG {P : Program} {w : World} {K : PySem.W.Frag} {mg : Str → Option Value} {base : Heap} {CX : CXT} {x qual : Str} {st : Stmt} {f c : Addr} {fd : FuncData} {N ps : List Str} {k : Nat} {sp : Sp} (F : FunC K x qual st f c fd) (S : FnScope N ps (defScope st))
    (len : ∀ vs H Q E, sp vs H Q E → vs.length = ps.length)
    (hbody : ∀ (A : Around) (outer : List Env) (s : Shared) (H : Hp) (vs : List V) (Q : VK) (E : XK), A.guards = some [] → Room k (A.deeper (envOfC qual (defScope st) s.heap.objs.size f (.ref c))) → sp vs H Q E →
      ∃ t, PSs (cxOf CX P w K mg base N qual (defScope st) f (.ref c) A outer s H E) (defBody st) t ∧ t { nx := fun _ H' => Q .non H', rt := Q } (_root_.L2.start N vs) H) : FnG P w K mg base CX (k + 1) f fd ps sp := by
  obtain ⟨oc, od, kV, doc, pm, an, ct, osl, rfl, lk, hcd⟩ := F.ex
  refine ⟨len, fun A outer s H args us vs Q E hA hr e0 hb r hsp => ?_⟩
  have bk : ∀ b o, base.get? b = some o → s.heap.get? b = some o := fun b o e => (e0.bs b o e).1
  have KX := e0.mod.kin.keeps bk
  refine codeAny_call_function hr.depth (KX _ _ lk) rfl S.co S.gen rfl (PySem.W.codeRec_of KX hcd) (hb _ _ _ _ (wpAny_newFunctionEnv_cells S.kind (fun y hy => ?_) fun env he s1 z => ?_))
  · rcases S.par y.1 (List.of_mem_zip (show (y.1, y.2) ∈ _ from hy)).1 with q | q
    · exact .inl q
    · exact .inr ⟨q, PySem.W.cellsFrom_some _ _ _ (.inl q)⟩
  · cases he
    obtain ⟨t, ht, hq⟩ := hbody A outer s H vs Q E hA (hr.deeper _) hsp
    refine ⟨(e0.mod.nolimit.keeps bk).keeps z.toInCall.keep, codeAny_func (wpAny_mono (ht.run [] s1 _ H _ (inv_start S hr.hd e0 (len _ _ _ _ hsp) r z) hq) (fun fl s' y => ?_) fun _ _ y => y)⟩
    cases fl with
    | next => exact let ⟨_, H', J, q⟩ := y; ⟨.non, H', J.os, J.bare, J.base, J.hok, rfl, q⟩
    | ret u => exact let ⟨v, _, H', J, rv, q⟩ := y; ⟨v, H', J.os, J.bare, J.base, J.hok, rv, q⟩
    | brk => exact let ⟨_, _, _, q⟩ := y; q.elim
    | cont => exact let ⟨_, _, _, q⟩ := y; q.elim
/-! a lambda's parts -/
def lamA : Expr → Arguments
  | .Lambda a _ _ _ => a
  | _ => { posonlyargs := [], args := [], vararg := none, kwonlyargs := [], kw_defaults := [], kwarg := none, defaults := [] }
def lamB : Expr → Expr
  | .Lambda _ b _ _ => b
  | e => e
def lamS : Expr → Scope
  | .Lambda _ _ s _ => s
  | _ => { kind := .function, names := [], isGenerator := false, isCoroutine := false }
def arg0 : Expr → Expr
  | .Call _ (e :: _) _ _ => e
  | e => e
def asgV : Stmt → Expr
  | .Assign _ e _ => e
  | _ => .Constant .none 0 ⟨0, 0, 0, 0⟩
namespace K7
abbrev lam1 : Expr := arg0 (asgV ((defBody sOdd).getD 2 (.Pass ⟨0, 0, 0, 0⟩)))
abbrev lam2 : Expr := arg0 (asgV ((defBody sOdd).getD 6 (.Pass ⟨0, 0, 0, 0⟩)))
theorem scL1 : FnScope ["_law_one"] ["_law_one"] (lamS lam1) := ⟨rfl, rfl, rfl, by decide +kernel, rfl, by decide +kernel, by decide +kernel⟩
theorem scL2 : FnScope ["_law_one"] ["_law_one"] (lamS lam2) := ⟨rfl, rfl, rfl, by decide +kernel, rfl, by decide +kernel, by decide +kernel⟩
section
variable {P : Program} {w : World} {K : PySem.W.Frag} {mg : Str → Option Value} {base : Heap}
theorem lam1_ok {ft cT : Addr} {dt : FuncData} (DT : Df K mg "term_text" ft dt ["term"]) (GT : FnOk P w K mg base (CXL P w) 24 ft dt ["term"] (spTText cT)) (q : Str) : LamOk P w K mg base (CXL P w) 25 q (lamA lam1) (lamB lam1) (lamS lam1) (spTText cT) :=
  lamOk_of scL1 (fun _ _ _ _ => rfl) fun f cdv A outer s H v Q E hr hsp =>
    ⟨_, pe_call (E := E) GT hr (by rfl) DT.at_ DT.kp DT.bd .nil (passes_call (takes_of rfl rfl rfl rfl) (fun _ _ _ _ h => h)) (pa_cons (pv 0) pa_nil), ⟨_, rfl, hsp⟩⟩
theorem lam2_ok {fr cX : Addr} {dr : FuncData} (DR : Df K mg "read_term" fr dr ["text"]) (GR : FnOk P w K mg base (CXL P w) 9 fr dr ["text"] (spRead cX)) (q : Str) : LamOk P w K mg base (CXL P w) 10 q (lamA lam2) (lamB lam2) (lamS lam2) (spRead cX) :=
  lamOk_of scL2 (fun _ _ _ _ => rfl) fun f cdv A outer s H v Q E hr hsp =>
    ⟨_, pe_call (E := E) GR hr (by rfl) DR.at_ DR.kp DR.bd .nil (passes_call (takes_of rfl rfl rfl rfl) (fun _ _ _ _ h => h)) (pa_cons (pv 0) pa_nil), ⟨_, rfl, hsp⟩⟩
end
end K7
end Bf

set_option linter.all false
namespace Bf
open PySem PySem.Spec PyProof.Rows L2 LamX
namespace K7
abbrev nOd : List Str := ["_law_box_here", "_law_odd", "_law_thing", "_law_found"]
theorem scOd : FnScope nOd ["_law_box_here"] (defScope sOdd) := ⟨rfl, rfl, rfl, by decide +kernel, rfl, by decide +kernel, by decide +kernel⟩
/-- all but p and the tables of code is as it was -/
def KpN (p : Addr) (H H' : Hp) : Prop := ∀ a o, a ≠ p → H a = some o → (∀ ps, o ≠ .tbl ps) → H' a = some o
abbrev qOd : Str := "_law_odd_right.<locals>.<lambda>"
section
variable {P : Program} {w : World} {K : PySem.W.Frag} {mg : Str → Option Value} {base : Heap}
def spOd (T : List (Addr × Str)) : Sp := fun vs H Q _ => ∃ (p : Addr) (n : Int), vs = [.ref p] ∧ Purse H p n ∧ n ≤ 99000 ∧ Tabs T H ∧ ∀ G, KpN p H G → Purse G p (n + 2) → Tabs T G → Q (.bl true) G
theorem _root_.Bf.codeO_lst {c : Addr} {q : Str} (xs : List V) : CodeO c q ≠ .lst xs := fun z => by
  unfold CodeO at z
  cases z
/-- the tables stay where lists only are changed -/
theorem tabs_of {T : List (Addr × Str)} {G G' : Hp} (k : ∀ b o, G b = some o → (∀ xs, o ≠ .lst xs) → G' b = some o) (t : Tabs T G) : Tabs T G' := fun e he => by
  obtain ⟨ps, a1, a2, a3⟩ := t e he
  refine ⟨ps, k _ _ a1 (fun _ z => nomatch z), a2, fun pos cv h => ?_⟩
  obtain ⟨c, e1, e2⟩ := a3 pos cv h
  exact ⟨c, e1, k _ _ e2 codeO_lst⟩
theorem tabs_kp {T : List (Addr × Str)} {p : Addr} {n : Int} {G G' : Hp} (pu : Purse G p n) (k : Kp (· ≠ p) G G') (t : Tabs T G) : Tabs T G' := tabs_of (fun b o e h => k b o (fun z => by
  obtain ⟨_, _, _, e2, _⟩ := id pu
  rw [z, e2] at e
  exact h _ (Option.some.inj e).symm) e) t
mutual
theorem Sh.onN {H H' : Hp} {P : Addr → Prop} {b : Bool} (k : ∀ a o, P a → H a = some o → (∀ ps, o ≠ .tbl ps) → H' a = some o) : ∀ (d : PyData) (v : V), Sh H P b v d → Sh H' P b v d
  | .none, _, h => by cases h; exact .non
  | .bool _, _, h => by cases h; exact .bl _
  | .int _, _, h => by cases h; exact .int _
  | .str _, _, h => by cases h; exact .str _
  | .list ds, _, h => by
    cases h with
    | lst h p q r => exact .lst (k _ _ p h (fun _ z => nomatch z)) p q (ShAll.onN k ds _ r)
  | .tuple ds, _, h => by
    cases h with
    | tup h p r => exact .tup (k _ _ p h (fun _ z => nomatch z)) p (ShAll.onN k ds _ r)
  | .dict _, _, h => by
    cases h with
    | emp q h p => exact .emp q (k _ _ p h (fun _ z => nomatch z)) p
theorem ShAll.onN {H H' : Hp} {P : Addr → Prop} {b : Bool} (k : ∀ a o, P a → H a = some o → (∀ ps, o ≠ .tbl ps) → H' a = some o) : ∀ (ds : List PyData) (vs : List V), ShAll H P b vs ds → ShAll H' P b vs ds
  | [], _, h => by cases h; exact .nil
  | d :: ds, _, h => by
    cases h with
    | cons h r => exact .cons (Sh.onN k d _ h) (ShAll.onN k ds _ r)
end
/-- an odd thing -/
structure Thg (G : Hp) (p : Addr) (v : V) (d : PyData) : Prop where
  sh : Sh G (· ≠ p) true v d
  fit : fit 10 4 d
  sl : sl d ≤ 1000
  ls : (∃ a, v = .ref a ∧ d = .list [] ∧ a ≠ p ∧ G a = some (.lst []) ∧ a ≠ sysModules) ∨ (tyD d == "list") = false
theorem Thg.on {G G' : Hp} {p : Addr} {v : V} {d : PyData} (k : KpN p G G') (t : Thg G p v d) : Thg G' p v d := ⟨Sh.onN k d v t.sh, t.fit, t.sl, by
  rcases t.ls with ⟨a, e1, e2, e3, e4, e5⟩ | h
  · exact .inl ⟨a, e1, e2, e3, k a _ e3 e4 (fun _ z => nomatch z), e5⟩
  · exact .inr h⟩
theorem kpN_kp {p : Addr} {G G' : Hp} (k : Kp (· ≠ p) G G') : KpN p G G' := fun a o na e _ => k a o na e
theorem kpN_ext {p : Addr} {G G' : Hp} (k : ExtN G G') : KpN p G G' := fun a o _ e n => k a o e n
theorem kpN_same {p : Addr} {G G' : Hp} (k : Same G G') : KpN p G G' := fun a o _ e _ => k a o e
theorem KpN.trans {p : Addr} {G G1 G2 : Hp} (a : KpN p G G1) (b : KpN p G1 G2) : KpN p G G2 := fun x o n e h => b x o n (a x o n e h) h
theorem purse_ext {p : Addr} {n : Int} {G G' : Hp} (pu : Purse G p n) (k : ExtN G G') : Purse G' p n := let ⟨x, y, z, e, r⟩ := pu; ⟨x, y, z, k _ _ e (fun _ z => nomatch z), r⟩
theorem shown_ok {d : PyData} (f : fit 10 4 d) (s : sl d ≤ 1000) : d.showable = true ∧ d.depth ≤ 60 ∧ d.shown.length ≤ sizeLine := by
  obtain ⟨a, b, c⟩ := fit_shows d f
  exact ⟨a, by omega, by rw [sizeLine_eq]; omega⟩
/-- a list takes one thing more -/
theorem rnd_app {u : TS} {D : Ends} {σ : L2.St} {G H0 : Hp} {p r : Addr} {x : V} {d : PyData} {tag : Str} (h2 : σ[2]? = some (some x)) (t : Thg G p x d) (gr : G r = some (.lst [.str tag, x])) (hp : ∃ a b c, G p = some (.lst [.int a, .int b, .int c])) (fr : ∀ a, x = .ref a → d = .list [] → H0 a = none)
    (q : ∀ G' e, G' r = some (.lst [.str tag, x]) → Sh G' (· ≠ p) true x e → fit 10 4 e → sl e ≤ 1000 → (∀ b, H0 b ≠ none → G' b = G b) → (∀ b o, G b = some o → (∀ xs, o ≠ .lst xs) → G' b = some o) → G' p = G p → u D σ G') :
    tSeq (tIfS (tB (tCB (rIsi K) (tCons (tVar 2) (tCons (tC (V.ty "list")) tNil)))) (tDrop (tBM K "list" rAppend (tVar 2) (tCons (tC (V.str "more")) tNil))) tNext) u D σ G := by
  refine ⟨_, h2, x, .ty "list", _, _, _, rfl, .ty "list", ((sh_da (by decide : 10 ≤ 1000) d x t.fit t.sh).kn (K := K)).ty, kit_ty (kit_list d), _, rfl, ?_⟩
  rcases t.ls with ⟨a, rfl, rfl, na, ga, ns⟩ | h
  · refine iteT ⟨_, h2, .inl ⟨rfl, _, SqL.of ga⟩, a, _, _, rfl, rfl, ga, by rw [sizeLine_eq]; decide, ?_⟩
    have nra : r ≠ a := fun e => by rw [e, ga] at gr; cases gr
    refine q _ (.list [.str "more"]) (by rw [upd_ne nra]; exact gr) (.lst upd_same na (fun _ => ns) (.cons (.str _) .nil)) (fit_lst.mpr ⟨by show 1 ≤ 10; decide, fitA_cons (fit_str.mpr (by decide +kernel)) fitA_nil⟩) ?_ (fun b hb => upd_ne fun e => hb (by rw [e]; exact fr a rfl rfl)) (fun b o e no => ?_) (upd_ne (Ne.symm na))
    · have : sl (.str "more") ≤ 43 := slS (n := 4) (by decide)
      rw [sl_lst, slA_cons, slA_nil]
      omega
    · rw [upd_ne fun z => no [] (by rw [z, ga] at e; exact (Option.some.inj e).symm)]
      exact e
  · rw [h]
    exact iteF (q G d gr t.sh t.fit t.sl (fun _ _ => rfl) (fun _ _ e _ => e) rfl)
set_option maxHeartbeats 4000000 in
theorem ok_od {T : List (Addr × Str)} {f c tb ft fc cT cX : Addr} {fd dt dc : FuncData} (F : FunC K "_law_odd_right" "_law_odd_right" sOdd f c fd) (DT : Df K mg "_law_take" ft dt pTake) (GT : FnOk P w K mg base CX0 1 ft dt pTake spTake)
    (DC : Df K mg "_law_caught" fc dc pCa) (GC1 : FnOk P w K mg base CX0 26 fc dc pCa (spCa qOd (lamA lam1) (lamB lam1) (lamS lam1) (spTText cT) cT "term")) (GC2 : FnOk P w K mg base CX0 11 fc dc pCa (spCa qOd (lamA lam2) (lamB lam2) (lamS lam2) (spRead cX) cX "text"))
    (TB : TabB base mg c tb) (mT : (tb, qOd) ∈ T) (uT : ∀ p ∈ T, p.1 = tb → p.2 = qOd) (mi : mg "isinstance" = none) (mL : mg "list" = none) (mp : mg "repr" = none) : FnG P w K mg base CX0 27 f fd ["_law_box_here"] (spOd T) := by
  refine F.okG scOd (fun vs H Q E h => ?_) (fun A outer s H vs Q E hA hr h => ?_)
  · obtain ⟨p, n, rfl, _⟩ := h
    rfl
  · obtain ⟨p, n, rfl, pu, hn, tT, q⟩ := h
    have hr1 := hr.mono (by omega : 1 ≤ 26)
    have hr11 := hr.mono (by omega : 11 ≤ 26)
    have hA' : (A.deeper (envOfC "_law_odd_right" (defScope sOdd) s.heap.objs.size f (.ref c))).guards = some [] := hA
    refine ⟨_, (pss_cons (ps_set (i := 1) scOd.nd rfl (Or.inl rfl) (pe_lstN (pa_cons pe_non (pa_cons pe_int (pa_cons pe_bl (pa_cons pe_str (pa_cons pe_str (pa_cons (pe_lstN pa_nil) (pa_cons (pe_tup (pa_cons pe_str (pa_cons pe_str (pa_cons pe_str pa_nil)))) (pa_cons (pe_tup (pa_cons pe_str (pa_cons pe_int (pa_cons pe_int pa_nil)))) (pa_cons (pe_tup (pa_cons pe_str (pa_cons (pe_tup (pa_cons (pe_tup (pa_cons pe_str (pa_cons pe_str pa_nil))) pa_nil)) pa_nil))) (pa_cons pe_dnewK pa_nil))))))))))))
        (pss_cons (ps_set (i := 2) scOd.nd rfl (Or.inl rfl) (pe_ix ix_list (pv 1) (pe_call GT hr1 (by rfl) DT.at_ DT.kp DT.bd .nil pass0 (pa_cons (pv 0) (pa_cons pe_int pa_nil))) (fun _ _ => rfl)))
        (pss_cons (ps_set (i := 3) scOd.nd rfl (Or.inl rfl) (pe_call GC1 hr (by rfl) DC.at_ DC.kp DC.bd .nil pass0 (pa_cons (pe_lam TB rfl mT uT rfl (by decide +kernel) rfl) (pa_cons (pv 2) pa_nil))))
        (pss_cons (ps_if (pt_val (pe_callB call_isi (by rfl) mi (by decide +kernel) (pa_cons (pv 2) (pa_cons (pe_bltn (v := .ty "list") (by rfl) mL (by decide +kernel) rfl) pa_nil)))) (pss_one (ps_expr (pe_bm PySem.F.plainAttrs_list PySem.F.slot_list_append PySem.F.type_list_append mt_append (pv 2) (pa_cons pe_str pa_nil)))) pss_nil)
        (pss_cons (ps_if (PW.pt (pw_or (pt_cmpR op_ne (pe_ix ix_list (pv 3) pe_int (fun _ _ => rfl)) pe_str (nomark _)) (pw_or1 (pt_cmpR op_ne (pe_callB (call_repr hA' hr.units) (by rfl) mp (by decide +kernel) (pa_cons (pe_ix ix_list (pv 3) pe_int (fun _ _ => rfl)) pa_nil)) (pe_callB (call_repr hA' hr.units) (by rfl) mp (by decide +kernel) (pa_cons (pv 2) pa_nil)) (nomark _))))) (pss_one (ps_ret pe_bl)) pss_nil)
        (pss_cons (ps_set (i := 2) scOd.nd rfl (Or.inl rfl) (pe_ix ix_list (pe_lstN (pa_cons pe_non (pa_cons pe_int (pa_cons pe_bl (pa_cons (pe_tup (pa_cons pe_str (pa_cons pe_str pa_nil))) (pa_cons (pe_lstN pa_nil) (pa_cons pe_dnewK pa_nil))))))) (pe_call GT hr1 (by rfl) DT.at_ DT.kp DT.bd .nil pass0 (pa_cons (pv 0) (pa_cons pe_int pa_nil))) (fun _ _ => rfl)))
        (pss_cons (ps_set (i := 3) scOd.nd rfl (Or.inl rfl) (pe_call GC2 hr11 (by rfl) DC.at_ DC.kp DC.bd .nil pass0 (pa_cons (pe_lam TB rfl mT uT rfl (by decide +kernel) rfl) (pa_cons (pv 2) pa_nil))))
        (pss_cons (ps_if (pt_val (pe_callB call_isi (by rfl) mi (by decide +kernel) (pa_cons (pv 2) (pa_cons (pe_bltn (v := .ty "list") (by rfl) mL (by decide +kernel) rfl) pa_nil)))) (pss_one (ps_expr (pe_bm PySem.F.plainAttrs_list PySem.F.slot_list_append PySem.F.type_list_append mt_append (pv 2) (pa_cons pe_str pa_nil)))) pss_nil)
        (pss_one (ps_ret (pe_and (pe_cmpR op_eq (pe_ix ix_list (pv 3) pe_int (fun _ _ => rfl)) pe_str (nomark _)) (pe_one (pe_cmpR op_eq (pe_callB (call_repr hA' hr.units) (by rfl) mp (by decide +kernel) (pa_cons (pe_ix ix_list (pv 3) pe_int (fun _ _ => rfl)) pa_nil)) (pe_callB (call_repr hA' hr.units) (by rfl) mp (by decide +kernel) (pa_cons (pv 2) pa_nil)) (nomark _)))))))))))))), ?_⟩
    refine ⟨by show 0 ≤ 1000; decide, fun aL hL nL => ?_⟩
    have g1 : (upd H aL (.lst [])) aL = some (.lst []) := upd_same
    have s1 : Same H (upd H aL (.lst [])) := same_new hL
    generalize upd H aL (.lst []) = H1 at g1 s1
    refine ⟨by show 3 ≤ sizeLine; decide, fun t6 h6 => ?_⟩
    have g6 : (upd H1 t6 (.tup [.str "name", .str "x", .str "y"])) t6 = some (.tup [.str "name", .str "x", .str "y"]) := upd_same
    have s6 : Same H1 (upd H1 t6 (.tup [.str "name", .str "x", .str "y"])) := same_new h6
    generalize upd H1 t6 (.tup [.str "name", .str "x", .str "y"]) = H6 at g6 s6
    refine ⟨by show 3 ≤ sizeLine; decide, fun t7 h7 => ?_⟩
    have g7 : (upd H6 t7 (.tup [.str "lit", .int 3, .int 8])) t7 = some (.tup [.str "lit", .int 3, .int 8]) := upd_same
    have s7 : Same H6 (upd H6 t7 (.tup [.str "lit", .int 3, .int 8])) := same_new h7
    generalize upd H6 t7 (.tup [.str "lit", .int 3, .int 8]) = H7 at g7 s7
    refine ⟨by show 2 ≤ sizeLine; decide, fun ta ha => ?_⟩
    have ga : (upd H7 ta (.tup [.str "name", .str "x"])) ta = some (.tup [.str "name", .str "x"]) := upd_same
    have sa : Same H7 (upd H7 ta (.tup [.str "name", .str "x"])) := same_new ha
    generalize upd H7 ta (.tup [.str "name", .str "x"]) = Ha at ga sa
    refine ⟨by show 1 ≤ sizeLine; decide, fun tc hc => ?_⟩
    have gc : (upd Ha tc (.tup [.ref ta])) tc = some (.tup [.ref ta]) := upd_same
    have sc : Same Ha (upd Ha tc (.tup [.ref ta])) := same_new hc
    generalize upd Ha tc (.tup [.ref ta]) = Hc at gc sc
    refine ⟨by show 2 ≤ sizeLine; decide, fun t8 h8 => ?_⟩
    have g8 : (upd Hc t8 (.tup [.str "row", .ref tc])) t8 = some (.tup [.str "row", .ref tc]) := upd_same
    have s8 : Same Hc (upd Hc t8 (.tup [.str "row", .ref tc])) := same_new h8
    generalize upd Hc t8 (.tup [.str "row", .ref tc]) = H8 at g8 s8
    refine fun aD hD => ?_
    have gD : (upd H8 aD (.dK [])) aD = some (.dK []) := upd_same
    have sD : Same H8 (upd H8 aD (.dK [])) := same_new hD
    generalize upd H8 aD (.dK []) = HD at gD sD
    refine ⟨by show 10 ≤ 1000; decide, fun L hLL nLL => ?_⟩
    have gLL : (upd HD L (.lst [.non, .int 5, .bl true, .str "", .str "(name x)", .ref aL, .ref t6, .ref t7, .ref t8, .ref aD])) L = some (.lst [.non, .int 5, .bl true, .str "", .str "(name x)", .ref aL, .ref t6, .ref t7, .ref t8, .ref aD]) := upd_same
    have sLL : Same HD (upd HD L (.lst [.non, .int 5, .bl true, .str "", .str "(name x)", .ref aL, .ref t6, .ref t7, .ref t8, .ref aD])) := same_new hLL
    generalize upd HD L (.lst [.non, .int 5, .bl true, .str "", .str "(name x)", .ref aL, .ref t6, .ref t7, .ref t8, .ref aD]) = HL at gLL sLL
    have sAll : Same H HL := s1.trans (s6.trans (s7.trans (sa.trans (sc.trans (s8.trans (sD.trans sLL))))))
    have puL := pu.same sAll
    have tL : Tabs T HL := tT.ext sAll
    have nLp : L ≠ p := fun e => by
      obtain ⟨x, y, z, e2, _⟩ := id puL
      rw [← e, gLL] at e2
      cases e2
    have things : ∀ v ∈ ([.non, .int 5, .bl true, .str "", .str "(name x)", .ref aL, .ref t6, .ref t7, .ref t8, .ref aD] : List V), ∃ d, Thg HL p v d ∧ termD d = false ∧ ∀ a, v = .ref a → d = .list [] → H a = none := by
      have b1 : Same H1 HL := s6.trans (s7.trans (sa.trans (sc.trans (s8.trans (sD.trans sLL)))))
      have G1 := b1 _ _ g1
      have G6 := (s7.trans (sa.trans (sc.trans (s8.trans (sD.trans sLL))))) _ _ g6
      have G7 := (sa.trans (sc.trans (s8.trans (sD.trans sLL)))) _ _ g7
      have Ga := (sc.trans (s8.trans (sD.trans sLL))) _ _ ga
      have Gc := (s8.trans (sD.trans sLL)) _ _ gc
      have G8 := (sD.trans sLL) _ _ g8
      have GD := sLL _ _ gD
      obtain ⟨px, py, pz, pe, _⟩ := id puL
      have nep : ∀ {a : Addr} {o : HO}, HL a = some o → o ≠ .lst [.int px, .int py, .int pz] → a ≠ p := fun e n z => by
        rw [z, pe] at e
        exact n (Option.some.inj e).symm
      have st : ∀ z : Str, z.cps.size ≤ 8 → sl (.str z) ≤ 83 := fun z h => slS h
      intro v m
      simp only [List.mem_cons, List.not_mem_nil, or_false] at m
      rcases m with rfl | rfl | rfl | rfl | rfl | rfl | rfl | rfl | rfl | rfl
      · exact ⟨.none, ⟨.non, fit_non, by simp only [sl]; omega, .inr rfl⟩, by decide +kernel, fun _ _ z => nomatch z⟩
      · exact ⟨.int 5, ⟨.int 5, int_fit (by omega) (by omega), Nat.le_trans (sl_small (by omega) (by omega)) (by decide), .inr rfl⟩, by decide +kernel, fun _ _ z => nomatch z⟩
      · exact ⟨.bool true, ⟨.bl true, fit_bl, by simp only [sl]; omega, .inr rfl⟩, by decide +kernel, fun _ _ z => nomatch z⟩
      · exact ⟨.str "", ⟨.str "", fit_str.mpr (by decide +kernel), Nat.le_trans (slS (n := 8) (by decide +kernel)) (by decide), .inr rfl⟩, by decide +kernel, fun _ _ z => nomatch z⟩
      · exact ⟨.str "(name x)", ⟨.str _, fit_str.mpr (by decide +kernel), Nat.le_trans (slS (n := 8) (by decide +kernel)) (by decide), .inr rfl⟩, by decide +kernel, fun _ _ z => nomatch z⟩
      · have na := nep G1 (fun z => nomatch z)
        exact ⟨.list [], ⟨.lst G1 na (fun _ => nL) .nil, fit_lst.mpr ⟨by decide, fitA_nil⟩, by rw [sl_lst, slA_nil]; omega, .inl ⟨aL, rfl, rfl, na, G1, nL⟩⟩, by decide +kernel, fun a e _ => by cases e; exact hL⟩
      · refine ⟨.tuple [.str "name", .str "x", .str "y"], ⟨.tup G6 (nep G6 (fun z => nomatch z)) (.cons (.str _) (.cons (.str _) (.cons (.str _) .nil))), fit_tup.mpr ⟨by show 3 ≤ 10; decide, fitA_cons (fit_str.mpr (by decide +kernel)) (fitA_cons (fit_str.mpr (by decide +kernel)) (fitA_cons (fit_str.mpr (by decide +kernel)) fitA_nil))⟩, ?_, .inr rfl⟩, by decide +kernel, fun _ _ z => nomatch z⟩
        have x1 := st "name" (by decide); have x2 := st "x" (by decide); have x3 := st "y" (by decide)
        rw [sl_tup, slA_cons, slA_cons, slA_cons, slA_nil]; omega
      · refine ⟨.tuple [.str "lit", .int 3, .int 8], ⟨.tup G7 (nep G7 (fun z => nomatch z)) (.cons (.str _) (.cons (.int _) (.cons (.int _) .nil))), fit_tup.mpr ⟨by show 3 ≤ 10; decide, fitA_cons (fit_str.mpr (by decide +kernel)) (fitA_cons (int_fit (by omega) (by omega)) (fitA_cons (int_fit (by omega) (by omega)) fitA_nil))⟩, ?_, .inr rfl⟩, by decide +kernel, fun _ _ z => nomatch z⟩
        have x1 := st "lit" (by decide); have x2 := sl_small (i := 3) (by omega) (by omega); have x3 := sl_small (i := 8) (by omega) (by omega)
        rw [sl_tup, slA_cons, slA_cons, slA_cons, slA_nil]; omega
      · refine ⟨.tuple [.str "row", .tuple [.tuple [.str "name", .str "x"]]], ⟨.tup G8 (nep G8 (fun z => nomatch z)) (.cons (.str _) (.cons (.tup Gc (nep Gc (fun z => nomatch z)) (.cons (.tup Ga (nep Ga (fun z => nomatch z)) (.cons (.str _) (.cons (.str _) .nil))) .nil)) .nil)),
          fit_tup.mpr ⟨by show 2 ≤ 10; decide, fitA_cons (fit_str.mpr (by decide +kernel)) (fitA_cons (fit_tup.mpr ⟨by show 1 ≤ 10; decide, fitA_cons (fit_tup.mpr ⟨by show 2 ≤ 10; decide, fitA_cons (fit_str.mpr (by decide +kernel)) (fitA_cons (fit_str.mpr (by decide +kernel)) fitA_nil)⟩) fitA_nil⟩) fitA_nil)⟩, ?_, .inr rfl⟩, by decide +kernel, fun _ _ z => nomatch z⟩
        have x1 := st "row" (by decide); have x2 := st "name" (by decide); have x3 := st "x" (by decide)
        rw [sl_tup, slA_cons, slA_cons, slA_nil, sl_tup, slA_cons, slA_nil, sl_tup, slA_cons, slA_cons, slA_nil]; omega
      · exact ⟨.dict [], ⟨.emp rfl GD (nep GD (fun z => nomatch z)), by simp only [K7.fit], by simp only [sl]; omega, .inr rfl⟩, by decide +kernel, fun _ _ z => nomatch z⟩
    refine ⟨_, rfl, take_ok (i := 0) rfl puL (by omega) (by decide) (by decide) (fun d1 G3 d10 d11 k3 pu3 => ?_)⟩
    obtain ⟨v, mv, ev⟩ := pick (xs := [.non, .int 5, .bl true, .str "", .str "(name x)", .ref aL, .ref t6, .ref t7, .ref t8, .ref aD]) d10 d11
    obtain ⟨d, th, td, fr⟩ := things v mv
    refine ⟨L, _, d1, v, rfl, rfl, SqL.of (k3 _ _ nLp gLL), ev, ?_⟩
    clear ev things
    have th3 := th.on (kpN_kp k3)
    have t3 := tabs_kp puL k3 tL
    have kk3 : KpN p H G3 := (kpN_same sAll).trans (kpN_kp k3)
    refine ⟨t3, fun fl c' H4 eN t4 hf hc => ⟨_, rfl, fl, c', v, rfl, upd_same, (upd_ne fun z => by rw [z, hf] at hc; cases hc).trans hc, fun E' Q' rf => ?_, fun r G5 hr nr sG gr => ?_⟩⟩
    · have th4 := th3.on ((kpN_ext eN).trans (kpN_same (same_new (o := LamO fl c' qOd (lamA lam1) (lamB lam1) (lamS lam1)) hf)))
      exact ⟨v, d, rfl, sh_da (by decide : 10 ≤ 1000) d v th4.fit th4.sh, by have := sz_sl d; have := th4.sl; omega, .inl ⟨td, rf⟩⟩
    have k35 : KpN p G3 G5 := (kpN_ext eN).trans (kpN_same ((same_new (o := LamO fl c' qOd (lamA lam1) (lamB lam1) (lamS lam1)) hf).trans sG))
    have th5 := th3.on k35
    have pu5 : Purse G5 p (n + 1) := ((purse_ext pu3 eN).same (same_new (o := LamO fl c' qOd (lamA lam1) (lamB lam1) (lamS lam1)) hf)).same sG
    have t5 : Tabs T G5 := (t4.ext (same_new (o := LamO fl c' qOd (lamA lam1) (lamB lam1) (lamS lam1)) hf)).ext sG
    have kk5 : KpN p H G5 := kk3.trans k35
    refine rnd_app (K := K) rfl th5 gr (let ⟨x, y, z, e, _⟩ := pu5; ⟨x, y, z, e⟩) fr (fun G6 e gr6 sh6 f6 sl6 keep0 keepL keepP => ?_)
    obtain ⟨w1, w2, w3⟩ := shown_ok f6 sl6
    have at0 : atI [V.str "term", v] 0 = some (.str "term") := rfl
    have at1 : atI [V.str "term", v] 1 = some v := rfl
    refine ⟨_, rfl, r, _, 0, _, rfl, rfl, SqL.of gr6, at0, rfl, _, rfl, iteNS rfl ?_⟩
    refine ⟨_, rfl, r, _, 1, _, rfl, rfl, SqL.of gr6, at1, v, _, true, e, rfl, sh6, w1, w2, w3, _, rfl, v, _, true, e, rfl, sh6, w1, w2, w3, rfl, _, rfl, iteNS rfl ?_⟩
    have pu6 : Purse G6 p (n + 1) := pu5.of keepP
    have t6' : Tabs T G6 := tabs_of keepL t5
    have kk6 : KpN p H G6 := fun b o nb e' no => by rw [keep0 b (by rw [e']; simp)]; exact kk5 b o nb e' no
    clear w1 w2 w3 sh6 f6 sl6 keepP keepL keep0 th5 pu5 t5 kk5 k35 gr6 gr sG eN hf hc th3 t3 kk3 th puL tL sAll
    -- the second thing
    refine ⟨by show 2 ≤ sizeLine; decide, fun u1 hu1 => ?_⟩
    have y1 : (upd G6 u1 (.tup [.str "name", .str "x"])) u1 = some (.tup [.str "name", .str "x"]) := upd_same
    have z1 : Same G6 (upd G6 u1 (.tup [.str "name", .str "x"])) := same_new hu1
    generalize upd G6 u1 (.tup [.str "name", .str "x"]) = J1 at y1 z1
    refine ⟨by show 0 ≤ 1000; decide, fun u2 hu2 nu2 => ?_⟩
    have y2 : (upd J1 u2 (.lst [])) u2 = some (.lst []) := upd_same
    have z2 : Same J1 (upd J1 u2 (.lst [])) := same_new hu2
    generalize upd J1 u2 (.lst []) = J2 at y2 z2
    refine fun u3 hu3 => ?_
    have y3 : (upd J2 u3 (.dK [])) u3 = some (.dK []) := upd_same
    have z3 : Same J2 (upd J2 u3 (.dK [])) := same_new hu3
    generalize upd J2 u3 (.dK []) = J3 at y3 z3
    refine ⟨by show 6 ≤ 1000; decide, fun M hM nM => ?_⟩
    have y4 : (upd J3 M (.lst [.non, .int 5, .bl true, .ref u1, .ref u2, .ref u3])) M = some (.lst [.non, .int 5, .bl true, .ref u1, .ref u2, .ref u3]) := upd_same
    have z4 : Same J3 (upd J3 M (.lst [.non, .int 5, .bl true, .ref u1, .ref u2, .ref u3])) := same_new hM
    generalize upd J3 M (.lst [.non, .int 5, .bl true, .ref u1, .ref u2, .ref u3]) = JM at y4 z4
    have zAll : Same G6 JM := z1.trans (z2.trans (z3.trans z4))
    have puM := pu6.same zAll
    have tM : Tabs T JM := t6'.ext zAll
    have nMp : M ≠ p := fun e => by
      obtain ⟨x, y, z, e2, _⟩ := id puM
      rw [← e, y4] at e2
      cases e2
    have hH2 : G6 u2 = none := none_back z1 hu2
    have things2 : ∀ v ∈ ([.non, .int 5, .bl true, .ref u1, .ref u2, .ref u3] : List V), ∃ d, Thg JM p v d ∧ readO d = none ∧ (∀ z, d ≠ .str z) ∧ ∀ a, v = .ref a → d = .list [] → G6 a = none := by
      have Y1 := (z2.trans (z3.trans z4)) _ _ y1
      have Y2 := (z3.trans z4) _ _ y2
      have Y3 := z4 _ _ y3
      obtain ⟨px, py, pz, pe, _⟩ := id puM
      have nep : ∀ {a : Addr} {o : HO}, JM a = some o → o ≠ .lst [.int px, .int py, .int pz] → a ≠ p := fun e n z => by
        rw [z, pe] at e
        exact n (Option.some.inj e).symm
      intro v m
      simp only [List.mem_cons, List.not_mem_nil, or_false] at m
      rcases m with rfl | rfl | rfl | rfl | rfl | rfl
      · exact ⟨.none, ⟨.non, fit_non, by simp only [sl]; omega, .inr rfl⟩, rfl, (fun _ z => nomatch z), fun _ _ z => nomatch z⟩
      · exact ⟨.int 5, ⟨.int 5, int_fit (by omega) (by omega), Nat.le_trans (sl_small (by omega) (by omega)) (by decide), .inr rfl⟩, rfl, (fun _ z => nomatch z), fun _ _ z => nomatch z⟩
      · exact ⟨.bool true, ⟨.bl true, fit_bl, by simp only [sl]; omega, .inr rfl⟩, rfl, (fun _ z => nomatch z), fun _ _ z => nomatch z⟩
      · refine ⟨.tuple [.str "name", .str "x"], ⟨.tup Y1 (nep Y1 (fun z => nomatch z)) (.cons (.str _) (.cons (.str _) .nil)), fit_tup.mpr ⟨by show 2 ≤ 10; decide, fitA_cons (fit_str.mpr (by decide +kernel)) (fitA_cons (fit_str.mpr (by decide +kernel)) fitA_nil)⟩, ?_, .inr rfl⟩, rfl, (fun _ z => nomatch z), fun _ _ z => nomatch z⟩
        have x1 : sl (.str "name") ≤ 83 := slS (n := 8) (by decide)
        have x2 : sl (.str "x") ≤ 83 := slS (n := 8) (by decide)
        rw [sl_tup, slA_cons, slA_cons, slA_nil]; omega
      · have na := nep Y2 (fun z => nomatch z)
        exact ⟨.list [], ⟨.lst Y2 na (fun _ => nu2) .nil, fit_lst.mpr ⟨by decide, fitA_nil⟩, by rw [sl_lst, slA_nil]; omega, .inl ⟨u2, rfl, rfl, na, Y2, nu2⟩⟩, rfl, (fun _ z => nomatch z), fun a e _ => by cases e; exact hH2⟩
      · exact ⟨.dict [], ⟨.emp rfl Y3 (nep Y3 (fun z => nomatch z)), by simp only [K7.fit], by simp only [sl]; omega, .inr rfl⟩, rfl, (fun _ z => nomatch z), fun _ _ z => nomatch z⟩
    refine take_ok (i := 0) rfl puM (by omega) (by decide) (by decide) (fun d2 G7 d20 d21 k7 pu7 => ?_)
    obtain ⟨v2, mv2, ev2⟩ := pick (xs := [.non, .int 5, .bl true, .ref u1, .ref u2, .ref u3]) d20 d21
    obtain ⟨e2, thM, rd, ns, fr2⟩ := things2 v2 mv2
    refine ⟨M, _, d2, v2, rfl, rfl, SqL.of (k7 _ _ nMp y4), ev2, ?_⟩
    clear ev2 things2
    have th7 := thM.on (kpN_kp k7)
    have t7' := tabs_kp puM k7 tM
    have kk7 : KpN p H G7 := kk6.trans ((kpN_same zAll).trans (kpN_kp k7))
    dsimp only [gName]
    refine ⟨t7', fun fl c' H8' eN t8' hf hc => ⟨_, rfl, fl, c', v2, rfl, upd_same, (upd_ne fun z => by rw [z, hf] at hc; cases hc).trans hc, fun E' Q' rf => ?_, fun r2 G9 hr2 nr2 sG gr2 => ?_⟩⟩
    · have th8 := th7.on ((kpN_ext eN).trans (kpN_same (same_new (o := LamO fl c' qOd (lamA lam2) (lamB lam2) (lamS lam2)) hf)))
      exact ⟨v2, e2, rfl, sh_da (by decide : 10 ≤ 1000) e2 v2 th8.fit th8.sh, fun z hz => absurd hz (ns z), .inl ⟨rd, rf⟩⟩
    have k79 : KpN p G7 G9 := (kpN_ext eN).trans (kpN_same ((same_new (o := LamO fl c' qOd (lamA lam2) (lamB lam2) (lamS lam2)) hf).trans sG))
    have th9 := th7.on k79
    have pu9 : Purse G9 p (n + 1 + 1) := ((purse_ext pu7 eN).same (same_new (o := LamO fl c' qOd (lamA lam2) (lamB lam2) (lamS lam2)) hf)).same sG
    have t9 : Tabs T G9 := (t8'.ext (same_new (o := LamO fl c' qOd (lamA lam2) (lamB lam2) (lamS lam2)) hf)).ext sG
    have kk9 : KpN p H G9 := kk7.trans k79
    refine rnd_app (K := K) rfl th9 gr2 (let ⟨x, y, z, e, _⟩ := pu9; ⟨x, y, z, e⟩) fr2 (fun GA e gra sha fa sla keep0 keepL keepP => ?_)
    obtain ⟨w1, w2, w3⟩ := shown_ok fa sla
    have at0 : atI [V.str "text", v2] 0 = some (.str "text") := rfl
    have at1 : atI [V.str "text", v2] 1 = some v2 := rfl
    have puA : Purse GA p (n + 2) := (pu9.of keepP).mono (by omega)
    have tA : Tabs T GA := tabs_of keepL t9
    have kkA : KpN p H GA := fun b o nb e' no => by rw [keep0 b (by rw [kk6 b o nb e' no]; simp)]; exact kk9 b o nb e' no
    have fin := q GA kkA puA tA
    refine ⟨_, rfl, r2, _, 0, _, rfl, rfl, SqL.of gra, at0, rfl, _, rfl, iteB (decide_eq_true rfl) ?_⟩
    refine ⟨_, rfl, r2, _, 1, _, rfl, rfl, SqL.of gra, at1, v2, _, true, e, rfl, sha, w1, w2, w3, _, rfl, v2, _, true, e, rfl, sha, w1, w2, w3, rfl, ?_⟩
    rw [decide_eq_true rfl]
    exact fin
end
end K7
end Bf

set_option linter.all false
namespace Bf
open PySem PySem.Spec PyProof.Rows L2 LamX
def forB : Stmt → List Stmt
  | .For _ _ b _ _ => b
  | _ => []
def ifT : Stmt → Expr
  | .If c _ _ _ => c
  | _ => .Constant .none 0 ⟨0, 0, 0, 0⟩
def cmpL : Expr → Expr
  | .Compare l _ _ _ => l
  | e => e
namespace K7
abbrev lam3 : Expr := arg0 (cmpL (ifT ((forB ((forB ((defBody sLaw).getD 1 (.Pass ⟨0, 0, 0, 0⟩))).getD 5 (.Pass ⟨0, 0, 0, 0⟩))).getD 0 (.Pass ⟨0, 0, 0, 0⟩))))
theorem scL3 : FnScope ["_law_one"] ["_law_one"] (lamS lam3) := ⟨rfl, rfl, rfl, by decide +kernel, rfl, by decide +kernel, by decide +kernel⟩
abbrev qLaw : Str := "law.<locals>.<lambda>"
abbrev nLaw : List Str := ["_law_script", "_law_ahead", "_law_k", "_law_box_here", "_law_term_here", "_law_text", "_law_turn", "_law_bad"]
theorem scLaw : FnScope nLaw ["_law_script"] (defScope sLaw) := ⟨rfl, rfl, rfl, by decide +kernel, rfl, by decide +kernel, by decide +kernel⟩
section
variable {P : Program} {w : World} {K : PySem.W.Frag} {mg : Str → Option Value} {base : Heap}
theorem lam3_ok {fr cX : Addr} {dr : FuncData} (DR : Df K mg "read_term" fr dr ["text"]) (GR : FnOk P w K mg base (CXL P w) 9 fr dr ["text"] (spRead cX)) (q : Str) : LamOk P w K mg base (CXL P w) 10 q (lamA lam3) (lamB lam3) (lamS lam3) (spRead cX) :=
  lamOk_of scL3 (fun _ _ _ _ => rfl) fun f cdv A outer s H v Q E hr hsp =>
    ⟨_, pe_call (E := E) GR hr (by rfl) DR.at_ DR.kp DR.bd .nil (passes_call (takes_of rfl rfl rfl rfl) (fun _ _ _ _ h => h)) (pa_cons (pv 0) pa_nil), ⟨_, rfl, hsp⟩⟩
mutual
theorem da_sh {H : Hp} : ∀ (d : PyData) (v : V), Da H v d → d.hasDict = false → Sh H (fun _ => True) false v d
  | .none, _, h, _ => by cases h; exact .non
  | .bool _, _, h, _ => by cases h; exact .bl _
  | .int _, _, h, _ => by cases h; exact .int _
  | .str _, _, h, _ => by cases h; exact .str _
  | .list ds, _, h, n => by
    cases h with
    | lst h _ r => exact .lst h trivial (fun z => nomatch z) (da_shAll ds _ r (by simpa only [PyData.hasDict] using n))
  | .tuple ds, _, h, n => by
    cases h with
    | tup h _ r => exact .tup h trivial (da_shAll ds _ r (by simpa only [PyData.hasDict] using n))
  | .dict _, _, h, n => by simp only [PyData.hasDict] at n; cases n
theorem da_shAll {H : Hp} : ∀ (ds : List PyData) (vs : List V), DaAll H vs ds → PyData.hasDictAll ds = false → ShAll H (fun _ => True) false vs ds
  | [], _, h, _ => by cases h; exact .nil
  | d :: ds, _, h, n => by
    cases h with
    | cons h r =>
      simp only [PyData.hasDictAll, Bool.or_eq_false_iff] at n
      exact .cons (da_sh d _ h n.1) (da_shAll ds _ r n.2)
end
theorem noD_ints : ∀ is : List Int, PyData.hasDictAll (is.map PyData.int) = false
  | [] => by simp only [List.map_nil, PyData.hasDictAll]
  | i :: r => by simp only [List.map_cons, PyData.hasDictAll, PyData.hasDict, noD_ints r, Bool.or_self]
theorem noD_all : ∀ {ds : List PyData}, (∀ x ∈ ds, x.hasDict = false) → PyData.hasDictAll ds = false
  | [], _ => by simp only [PyData.hasDictAll]
  | d :: r, h => by simp only [PyData.hasDictAll, h d List.mem_cons_self, noD_all fun x m => h x (List.mem_cons_of_mem _ m), Bool.or_self]
theorem LT.noD {k : Nat} {d : PyData} (h : LT k d) : d.hasDict = false := by
  have two : ∀ ds : List PyData, (∀ x ∈ ds, x.hasDict = false) → (PyData.tuple ds).hasDict = false := fun ds h => by simp only [PyData.hasDict]; exact noD_all h
  have st : ∀ z, (PyData.str z).hasDict = false := fun z => by simp only [PyData.hasDict]
  have it : ∀ i, (PyData.int i).hasDict = false := fun i => by simp only [PyData.hasDict]
  induction h with
  | @lit k kd wd hk hw =>
    refine two _ fun x m => ?_
    simp only [List.mem_cons, List.not_mem_nil, or_false] at m
    rcases m with rfl | rfl | rfl
    · exact st _
    · rcases kind_inv hk with ⟨z, rfl, _⟩ | ⟨m, z, rfl, _⟩
      · exact it _
      · exact two _ fun x m => by
          simp only [List.mem_cons, List.not_mem_nil, or_false] at m
          rcases m with rfl | rfl <;> exact it _
    · rcases worth_inv hk hw with ⟨i, rfl, _⟩ | ⟨is, rfl, _⟩
      · exact it _
      · simp only [PyData.hasDict]; exact noD_ints is
  | nm _ _ =>
    exact two _ fun x m => by
      simp only [List.mem_cons, List.not_mem_nil, or_false] at m
      rcases m with rfl | rfl <;> exact st _
  | @row k d ds _ _ _ _ ih ihs =>
    exact two _ fun x m => by
      simp only [List.mem_cons, List.not_mem_nil, or_false] at m
      rcases m with rfl | rfl
      · exact st _
      · exact two _ fun y my => (List.mem_cons.mp my).elim (fun e => e ▸ ih) (ihs y)
  | no _ ih =>
    exact two _ fun x m => by
      simp only [List.mem_cons, List.not_mem_nil, or_false] at m
      rcases m with rfl | rfl
      · exact st _
      · exact ih
  | num _ _ ih =>
    exact two _ fun x m => by
      simp only [List.mem_cons, List.not_mem_nil, or_false] at m
      rcases m with rfl | rfl | rfl
      · exact st _
      · exact it _
      · exact ih
  | wen _ _ _ _ ih =>
    exact two _ fun x m => by
      simp only [List.mem_cons, List.not_mem_nil, or_false] at m
      rcases m with rfl | rfl | rfl | rfl
      · exact st _
      · exact ih
      · exact st _
      · exact it _
  | merge _ _ _ ih ih2 =>
    exact two _ fun x m => by
      simp only [List.mem_cons, List.not_mem_nil, or_false] at m
      rcases m with rfl | rfl | rfl | rfl
      · exact st _
      · exact st _
      · exact ih
      · exact ih2
  | pick _ _ _ ih ih2 ih3 =>
    exact two _ fun x m => by
      simp only [List.mem_cons, List.not_mem_nil, or_false] at m
      rcases m with rfl | rfl | rfl | rfl
      · exact st _
      · exact ih
      · exact ih2
      · exact ih3
  | two _ _ _ ih ih2 =>
    exact two _ fun x m => by
      simp only [List.mem_cons, List.not_mem_nil, or_false] at m
      rcases m with rfl | rfl | rfl
      · exact st _
      · exact ih
      · exact ih2
/-- what holds of a term seven deep -/
structure L7 (d : PyData) : Prop where
  term : termD d = true
  sz : sz d ≤ 13000
  dpt : dpt d < 20
  len : (textS d).length ≤ 2600
  show_ : d.showable = true ∧ d.depth ≤ 60 ∧ d.shown.length ≤ sizeLine
theorem LT.mono7 {k : Nat} {d : PyData} (h : LT k d) (l : k ≤ 7) : L7 d := by
  have f := h.size
  have e1 : ∀ j, j ≤ 7 → S j ≤ 12900 ∧ Lg j ≤ 2530 := by decide
  obtain ⟨a, b⟩ := e1 k l
  have f1 := f.fit
  have f2 := f.sl
  have f3 := f.len
  have f4 := fit_dpt d f1
  have f5 := sz_sl d
  obtain ⟨s1, s2, s3⟩ := fit_shows d f1
  exact ⟨h.term, by omega, by omega, by omega, s1, by omega, by rw [sizeLine_eq]; omega⟩
theorem rd_ok {cX : Addr} {H : Hp} {Q : VK} {E : XK} {z : Str} {t : PyData} (hz : readD (TL.tl z) = some t) (l : z.length ≤ 18000) (q : ∀ v H', Same H H' → Da H' v t → Q v H') : spRead cX [.str z] H Q E :=
  ⟨.str z, .str z, rfl, .str _ (by omega), fun y e => by cases e; exact l, .inr ⟨t, hz, q⟩⟩
theorem ttx_ok {cT : Addr} {H : Hp} {Q : VK} {E : XK} {v : V} {d : PyData} (h : Da H v d) (l : L7 d) (q : ∀ H', Same H H' → Q (.str (textS d)) H') : spTText cT [v] H Q E :=
  ⟨v, d, rfl, h, by have := l.sz; omega, .inr ⟨l.term, l.dpt, by have := l.len; omega, q⟩⟩
theorem rd_c {cX : Addr} {σ : L2.St} {i : Nat} {H : Hp} {Q : VK} {E : XK} {z : Str} {t : PyData} (h : σ[i]? = some (some (.str z))) (hz : readD (TL.tl z) = some t) (l : z.length ≤ 18000) (q : ∀ v H', Same H H' → Da H' v t → Q v H') : tCall (spRead cX) [] E (tCons (tVar i) tNil) σ H Q := ⟨_, h, rd_ok hz l q⟩
theorem ttx_c {cT : Addr} {σ : L2.St} {i : Nat} {H : Hp} {Q : VK} {E : XK} {v : V} {d : PyData} (h : σ[i]? = some (some v)) (ha : Da H v d) (l : L7 d) (q : ∀ H', Same H H' → Q (.str (textS d)) H') : tCall (spTText cT) [] E (tCons (tVar i) tNil) σ H Q := ⟨_, h, ttx_ok ha l q⟩
theorem near_len : nearly.all (fun z => decide (z.length ≤ 100)) = true := by decide +kernel
theorem sm_ok {z : Str} (h : Sm z) : PyData.strOk z = true := by
  unfold PyData.strOk
  rw [Array.all_eq_true]
  intro i hi
  exact decide_eq_true (h _ (Array.getElem_mem_toList hi))
theorem two_shaped {a b : Str} (ha : Sm a) (hb : Sm b) : SeqAt.shaped (.list [.str a, .str b]) = true := by
  unfold SeqAt.shaped
  simp [PyData.canLay0, PyData.canLayAll0, PyData.depth, PyData.depthAll, sm_ok ha, sm_ok hb]
theorem near_sm : nearly.all (fun z => (TL.tl z).all fun c => decide (c < 1114112)) = true := by decide +kernel
theorem two_eqv (a b : Str) : PyData.eqv (.list [.str a, .str b]) (.list [.str a, .str b]) = true := by
  simp [PyData.eqv, PyData.eqvAll]
theorem spr_mem {a b : List Nat} (h : T.Spr a b) {c : Nat} (hc : c ≠ 32) : c ∈ b → c ∈ a := by
  induction h with
  | nil => exact id
  | sign _ ih => exact fun m => (List.mem_append.mp m).elim (fun m => List.mem_append_left _ (ih m)) fun m => List.mem_append_right _ m
  | more _ ih =>
    exact fun m => by
      rcases List.mem_append.mp m with m | m
      · rcases List.mem_append.mp m with m | m
        · exact List.mem_append_left _ (ih m)
        · exact List.mem_append_right _ m
      · exact absurd (List.eq_of_mem_replicate m) hc
theorem read_blanks {d : PyData} (h : termD d = true) {y : Str} {b : List Nat} {i j : Nat} (e : TL.tl y = List.replicate i 32 ++ (b ++ List.replicate j 32)) (sp : T.Spr (TL.tl (textS d)) b) : readD (TL.tl y) = some d := by
  obtain ⟨ws, t⟩ := text_of h
  refine t.read h ?_ fun m => ?_
  · rw [e, sp.whole, t.words]
  · rw [e] at m
    rcases List.mem_append.mp m with m | m
    · exact absurd (List.eq_of_mem_replicate m) (by decide)
    · rcases List.mem_append.mp m with m | m
      · exact t.no10 (spr_mem sp (by decide) m)
      · exact absurd (List.eq_of_mem_replicate m) (by decide)
theorem sqL_ext {H G : Hp} {a : Addr} {xs : List V} (e : ExtN H G) (h : SqL K H a xs) : SqL K G a xs := by
  rcases h with h | h
  · rcases h with h | ⟨o, h⟩
    · exact .inl (.inl (e _ _ h fun _ z => nomatch z))
    · exact .inl (.inr ⟨o, e _ _ h fun _ z => nomatch z⟩)
  · exact .inr h
theorem sh_ext {H G : Hp} {Z : Addr → Prop} {b : Bool} {v : V} {d : PyData} (e : ExtN H G) (h : Sh H Z b v d) : Sh G Z b v d := Sh.onN (fun a o _ h n => e a o h n) d v h
/-- the defs that the law calls -/
structure Law7 (P : Program) (w : World) (K : PySem.W.Frag) (mg : Str → Option Value) (base : Heap) (T : List (Addr × Str)) (cT cX ft fc fb fm fx fa fs fn fo fg ftt frt : Addr) (dt dc db dm dx da ds dn do_ dg dtt drt : FuncData) : Prop where
  DT : Df K mg "_law_take" ft dt pTake
  GT : FnOk P w K mg base CX0 1 ft dt pTake spTake
  DC : Df K mg "_law_cell" fc dc ["_law_script", "_law_k"]
  GC : FnOk P w K mg base CX0 1 fc dc ["_law_script", "_law_k"] (spCell K)
  DB : Df K mg "_law_box" fb db ["_law_cell_here"]
  GB : FnOk P w K mg base CX0 1 fb db ["_law_cell_here"] spPurse
  DM : Df K mg "_law_term" fm dm pTm
  GM : FnOk P w K mg base CX0 11 fm dm pTm (spTm 8)
  DX : Df K mg "_law_term_text" fx dx ["_law_term_here"]
  GX : FnOk P w K mg base CX0 11 fx dx ["_law_term_here"] (spLX 8)
  DA : Df K mg "_law_blanks" fa da pBl
  GA : FnOk P w K mg base CX0 2 fa da pBl spBl
  DS : Df K mg "_law_spoilt" fs ds pSp
  GS : FnOk P w K mg base CX0 2 fs ds pSp spSp
  DN : Df K mg "_law_nearly" fn dn ["_law_box_here"]
  GN : FnOk P w K mg base CX0 2 fn dn ["_law_box_here"] spNe
  DO : Df K mg "_law_odd_right" fo do_ ["_law_box_here"]
  GO : FnG P w K mg base CX0 27 fo do_ ["_law_box_here"] (spOd T)
  DG : Df K mg "_law_caught" fg dg pCa
  GG : FnOk P w K mg base CX0 11 fg dg pCa (spCa qLaw (lamA lam3) (lamB lam3) (lamS lam3) (spRead cX) cX "text")
  Dt : Df K mg "term_text" ftt dtt ["term"]
  Gt : FnOk P w K mg base (CXL P w) 24 ftt dtt ["term"] (spTText cT)
  Dr : Df K mg "read_term" frt drt ["text"]
  Gr : FnOk P w K mg base (CXL P w) 9 frt drt ["text"] (spRead cX)
def spLaw (K : PySem.W.Frag) (T : List (Addr × Str)) : Sp := fun vs H Q _ => ∃ (a : Addr) (ns : List Int), vs = [.ref a] ∧ SqL K H a (ns.map V.int) ∧ Tabs T H ∧ ∀ G, Q (.bl true) G
set_option maxHeartbeats 4000000 in
theorem ok_law {T : List (Addr × Str)} {cT cX ft fc fb fm fx fa fs fn fo fg ftt frt f c tb : Addr} {fd dt dc db dm dx da ds dn do_ dg dtt drt : FuncData} (F : FunC K "law" "law" sLaw f c fd) (L : Law7 P w K mg base T cT cX ft fc fb fm fx fa fs fn fo fg ftt frt dt dc db dm dx da ds dn do_ dg dtt drt)
    (TB : TabB base mg c tb) (mT : (tb, qLaw) ∈ T) (uT : ∀ p ∈ T, p.1 = tb → p.2 = qLaw) (ml : mg "len" = none) (mx : mg "max" = none) (mn : mg "min" = none) (mI : mg "int" = none) (mr : mg "range" = none) (mp : mg "repr" = none) : FnG P w K mg base CX0 28 f fd ["_law_script"] (spLaw K T) := by
  refine F.okG scLaw (fun vs H Q E h => ?_) (fun A outer s H vs Q E hA hr h => ?_)
  · obtain ⟨a, ns, rfl, _⟩ := h
    rfl
  · obtain ⟨a, ns, rfl, hS, tT, q⟩ := h
    have hr1 := hr.mono (by omega : 1 ≤ 27)
    have hr2 := hr.mono (by omega : 2 ≤ 27)
    have hr9 := hr.mono (by omega : 9 ≤ 27)
    have hr11 := hr.mono (by omega : 11 ≤ 27)
    have hr24 := hr.mono (by omega : 24 ≤ 27)
    have hA' : (A.deeper (envOfC "law" (defScope sLaw) s.heap.objs.size f (.ref c))).guards = some [] := hA
    refine ⟨_, (pss_cons (ps_set (i := 1) scLaw.nd rfl (Or.inl rfl) pe_non)
        (pss_cons (ps_for PassesOwn.leaving rfl (pi_range1 (by rfl) mr (pa_cons (pe_callB (call_max2 rfl) (by rfl) mx (by decide +kernel) (pa_cons pe_int (pa_cons (pe_callB (call_min2 rfl) (by rfl) mn (by decide +kernel) (pa_cons pe_int (pa_cons (pe_callB call_len_seq (by rfl) ml PySem.boot_len (pa_cons (pv 0) pa_nil)) pa_nil))) pa_nil))) pa_nil)) (pg_name (i := 2) scLaw.nd rfl (Or.inl rfl)) (pss_cons (ps_set (i := 3) scLaw.nd rfl (Or.inl rfl) (pe_call L.GB hr1 (by rfl) L.DB.at_ L.DB.kp L.DB.bd .nil pass0 (pa_cons (pe_call L.GC hr1 (by rfl) L.DC.at_ L.DC.kp L.DC.bd .nil pass0 (pa_cons (pv 0) (pa_cons (pv 2) pa_nil))) pa_nil)))
        (pss_cons (ps_set (i := 4) scLaw.nd rfl (Or.inl rfl) (pe_call L.GM hr11 (by rfl) L.DM.at_ L.DM.kp L.DM.bd .nil pass0 (pa_cons (pv 3) (pa_cons (pe_call L.GT hr1 (by rfl) L.DT.at_ L.DT.kp L.DT.bd .nil pass0 (pa_cons (pv 3) (pa_cons (pe_ix ix_list (pe_lstN (pa_cons pe_int (pa_cons pe_int pa_nil))) (pe_callTy call_int1 (by rfl) mI (by decide +kernel) (pa_cons (pe_cmpR op_eq (pe_call L.GT hr1 (by rfl) L.DT.at_ L.DT.kp L.DT.bd .nil pass0 (pa_cons (pv 3) (pa_cons pe_int pa_nil))) pe_int (nomark _)) pa_nil)) (fun _ _ => rfl)) pa_nil))) pa_nil))))
        (pss_cons (ps_set (i := 5) scLaw.nd rfl (Or.inl rfl) (pe_call L.GX hr11 (by rfl) L.DX.at_ L.DX.kp L.DX.bd .nil pass0 (pa_cons (pv 4) pa_nil)))
        (pss_cons (ps_for PassesOwn.leaving rfl (pi_range1 (by rfl) mr (pa_cons pe_int pa_nil)) (pg_name (i := 6) scLaw.nd rfl (Or.inl rfl)) (pss_cons (ps_if (PW.pt (pw_or (pt_cmpR op_ne (pe_call L.Gt hr24 (by rfl) L.Dt.at_ L.Dt.kp L.Dt.bd .nil passL (pa_cons (pv 4) pa_nil)) (pv 5) (nomark _)) (pw_or1 (pt_cmpR op_ne (pe_callB (call_repr hA' hr.units) (by rfl) mp (by decide +kernel) (pa_cons (pe_call L.Gr hr9 (by rfl) L.Dr.at_ L.Dr.kp L.Dr.bd .nil passL (pa_cons (pv 5) pa_nil)) pa_nil)) (pe_callB (call_repr hA' hr.units) (by rfl) mp (by decide +kernel) (pa_cons (pv 4) pa_nil)) (nomark _))))) (pss_one (ps_ret pe_bl)) pss_nil)
        (pss_one (ps_if (PW.pt (pw_and (pt_cmpR op_notN (pv 1) pe_non (nomark _)) (pw_and1 (pt_cmpR op_ne (pe_callB (call_repr hA' hr.units) (by rfl) mp (by decide +kernel) (pa_cons (pe_call L.Gr hr9 (by rfl) L.Dr.at_ L.Dr.kp L.Dr.bd .nil passL (pa_cons (pe_call L.Gt hr24 (by rfl) L.Dt.at_ L.Dt.kp L.Dt.bd .nil passL (pa_cons (pv 1) pa_nil)) pa_nil)) pa_nil)) (pe_callB (call_repr hA' hr.units) (by rfl) mp (by decide +kernel) (pa_cons (pv 1) pa_nil)) (nomark _))))) (pss_one (ps_ret pe_bl)) pss_nil))))
        (pss_cons (ps_if (pt_cmpR op_ne (pe_callB (call_repr hA' hr.units) (by rfl) mp (by decide +kernel) (pa_cons (pe_call L.Gr hr9 (by rfl) L.Dr.at_ L.Dr.kp L.Dr.bd .nil passL (pa_cons (pe_call L.GA hr2 (by rfl) L.DA.at_ L.DA.kp L.DA.bd .nil pass0 (pa_cons (pv 3) (pa_cons (pv 5) pa_nil))) pa_nil)) pa_nil)) (pe_callB (call_repr hA' hr.units) (by rfl) mp (by decide +kernel) (pa_cons (pv 4) pa_nil)) (nomark _)) (pss_one (ps_ret pe_bl)) pss_nil)
        (pss_cons (ps_for PassesOwn.leaving rfl (pi_list (pe_lstN (pa_cons (pe_call L.GS hr2 (by rfl) L.DS.at_ L.DS.kp L.DS.bd .nil pass0 (pa_cons (pv 3) (pa_cons (pv 5) pa_nil))) (pa_cons (pe_call L.GS hr2 (by rfl) L.DS.at_ L.DS.kp L.DS.bd .nil pass0 (pa_cons (pv 3) (pa_cons (pv 5) pa_nil))) (pa_cons (pe_call L.GN hr2 (by rfl) L.DN.at_ L.DN.kp L.DN.bd .nil pass0 (pa_cons (pv 3) pa_nil)) pa_nil))))) (pg_name (i := 7) scLaw.nd rfl (Or.inl rfl)) (pss_one (ps_if (pt_cmpR (op_neD hr.units) (pe_call L.GG hr11 (by rfl) L.DG.at_ L.DG.kp L.DG.bd .nil pass0 (pa_cons (pe_lam TB rfl mT uT rfl (by decide +kernel) rfl) (pa_cons (pv 7) pa_nil))) (pe_lstN (pa_cons pe_str (pa_cons (pv 7) pa_nil))) (nomark _)) (pss_one (ps_ret pe_bl)) pss_nil)))
        (pss_cons (ps_if (pt_not (pt_val (pe_callG L.GO hA' hr (by rfl) L.DO.at_ L.DO.kp L.DO.bd pass0 (pa_cons (pv 3) pa_nil)))) (pss_one (ps_ret pe_bl)) pss_nil)
        (pss_one (ps_set (i := 1) scLaw.nd rfl (Or.inl rfl) (pv 4)))))))))))
        (pss_one (ps_ret pe_bl)))), ?_⟩
    have nb : ∃ N : Int, 0 ≤ N ∧ N ≤ 8 ∧ (if (if ((ns.map V.int).length : Int) < 8 then ((ns.map V.int).length : Int) else 8) > 2 then (if ((ns.map V.int).length : Int) < 8 then ((ns.map V.int).length : Int) else 8) else 2) = N := by
      refine ⟨_, ?_, ?_, rfl⟩
      · split
        · omega
        · omega
      · split
        · split
          · omega
          · omega
        · omega
    obtain ⟨N, N0, N8, eN⟩ := nb
    refine ⟨_, rfl, a, _, rfl, .inl hS, _, _, rfl, _, _, rfl, N, congrArg (fun z => [V.int z]) eN, by omega, by omega, ?_⟩
    refine for_range (lo := 0) (n := N.toNat) (fun k σ G => ∃ av u2 u3 u4 u5 u6 u7, σ = [some (.ref a), some av, u2, u3, u4, u5, u6, u7] ∧ ExtN H G ∧ Tabs T G ∧ (av = .non ∨ ∃ d j, LT j d ∧ j ≤ 7 ∧ Sh G (fun _ => True) true av d))
      ⟨_, _, _, _, _, _, _, rfl, ExtN.refl H, tT, .inl rfl⟩ (fun k σ G hk pv => ?_) fun σ G pv => q G
    obtain ⟨av, u2, u3, u4, u5, u6, u7, rfl, eG, tG, hav⟩ := pv
    dsimp only [gName]
    refine ⟨_, rfl, _, rfl, a, ns, _, rfl, sqL_ext eG hS, by omega, by omega, fun z => ⟨z, rfl, fun p G0 hp np eq0 pu0 => ?_⟩⟩
    have x0 : ∀ b o, G b = some o → G0 b = some o := fun b o e => by rw [eq0 b (ne_of_none e hp)]; exact e
    have t0 : Tabs T G0 := tG.ext x0
    have e0 : ExtN G G0 := ExtN.of x0
    dsimp only [gName]
    refine ⟨_, rfl, _, rfl, by show 2 ≤ 1000; decide, fun M hM nM => ?_⟩
    have sM : Same G0 (upd G0 M (.lst [.int 4, .int 8])) := same_new hM
    have gM : (upd G0 M (.lst [.int 4, .int 8])) M = some (.lst [.int 4, .int 8]) := upd_same
    have nMp := pu0.ne hM
    have puM := pu0.same sM
    generalize upd G0 M (.lst [.int 4, .int 8]) = GM at sM gM puM
    refine take_ok (i := 3) rfl puM (by omega) (by decide) (by decide) (fun d1 G1 d10 d16 k1 pu1 => ?_)
    obtain ⟨m, hm, hm2⟩ : ∃ m : Int, atI [V.int 4, .int 8] (if decide (V.int d1 = V.int 0) = true then 1 else 0) = some (.int m) ∧ (m = 4 ∨ m = 8) := by
      cases decide (V.int d1 = V.int 0) with
      | true => exact ⟨8, rfl, .inr rfl⟩
      | false => exact ⟨4, rfl, .inl rfl⟩
    refine ⟨rfl, .inr ⟨_, rfl, M, _, _, .int m, rfl, rfl, SqL.of (k1 _ _ nMp gM), hm, p, m, _, rfl, pu1, by omega, by omega, by omega, fun d2 G2 d20 d2m pu2 eq2 => ?_⟩⟩
    have k2 := kp_take eq2
    have T7 : ∀ j, j ≤ 7 → K7.T j ≤ 1363 := by decide
    have hj : d2.toNat ≤ 7 := by omega
    have Tj := T7 d2.toNat hj
    refine ⟨p, _, d2, d2.toNat, rfl, by omega, by omega, pu2, by omega, fun v d G3 sh lt k3 pu3 => ?_⟩
    have l7 := lt.mono7 hj
    have sz7 := l7.len
    have hsh := l7.show_
    have sh3 : Sh G3 (· ≠ p) true v d := Sh.on (fun a o f _ => pu2.ne f) (fun _ _ _ e => e) d v sh
    have k03 : KpN p G0 G3 := (kpN_same sM).trans ((kpN_kp k1).trans ((kpN_kp k2).trans (kpN_kp k3)))
    have t3 : Tabs T G3 := tabs_kp pu2 k3 (tabs_kp pu1 k2 (tabs_kp puM k1 (t0.ext sM)))
    have x3 : ExtN G G3 := fun b o e n => k03 b o (fun z => by rw [z, hp] at e; cases e) (x0 b o e) n
    have dav : ∀ {G' : Hp}, ExtN G3 G' → Da G' v d := fun e => sh_da (by decide : 4 ≤ 1000) d v lt.size.fit (sh_ext e sh3)
    have ahd : ∀ {G' : Hp} {d' : PyData} {j : Nat}, ExtN G3 G' → LT j d' → Sh G (fun _ => True) true av d' → Da G' av d' ∧ Sh G' (fun _ => True) true av d' := fun {G' d' j} e l h =>
      have h' := sh_ext (x3.trans e) h
      ⟨sh_da (by decide : 4 ≤ 1000) d' av l.size.fit h', h'⟩
    dsimp only [gName]
    refine ⟨_, rfl, v, d, d2.toNat, rfl, dav (ExtN.refl G3), lt, by omega, by omega, fun G4 s4 => ?_⟩
    have e4 : ExtN G3 G4 := ExtN.of s4
    dsimp only [gName]
    refine ⟨2, rfl, by decide, by decide, ?_⟩
    refine for_range (lo := 0) (n := 2) (fun i σ G' => ∃ w6, σ = [some (.ref a), some av, some (.int (0 + (k : Int))), some (.ref p), some v, some (.str (textS d)), w6, u7] ∧ Same G4 G') ⟨_, rfl, Same.refl _⟩ (fun i σ G' hi pv => ?_) fun σ G' pv => ?_
    · obtain ⟨w6, rfl, s4'⟩ := pv
      have e5 := e4.trans (ExtN.of s4')
      dsimp only [gName]
      refine ttx_c (i := 4) rfl (dav e5) l7 (fun G6 s6 => ⟨_, rfl, rfl, _, rfl, iteNS rfl ?_⟩)
      have e6 := e5.trans (ExtN.of s6)
      refine rd_c (i := 5) rfl (read_text l7.term) (by omega) (fun v' G7 s7 da' => ⟨v', _, false, d, rfl, da_sh d v' da' lt.noD, hsh.1, hsh.2.1, hsh.2.2, _, rfl, v, _, true, d, rfl, sh_ext (e6.trans (ExtN.of s7)) sh3, hsh.1, hsh.2.1, hsh.2.2, rfl, _, rfl, iteNS rfl ?_⟩)
      have e7 := e6.trans (ExtN.of s7)
      have s47 := s4'.trans (s6.trans s7)
      refine ⟨_, rfl, rfl, _, rfl, ?_⟩
      rcases hav with rfl | ⟨d', j, l', jl, sha⟩
      · exact iteNS rfl (iteF ⟨_, rfl, s47⟩)
      · have nav : av ≠ .non := fun e => by
          subst e
          obtain ⟨c, r, ed⟩ := l'.tup
          rw [ed] at sha
          cases sha
        have l7' := l'.mono7 jl
        have sz7' := l7'.len
        have hsh' := l7'.show_
        refine iteB (by rw [decide_eq_false nav]; rfl) ?_
        refine ttx_c (i := 1) rfl (ahd e7 l' sha).1 l7' (fun G8 s8 => ?_)
        show spRead cX [V.str (textS d')] G8 _ _
        refine rd_ok (read_text l7'.term) (by omega) (fun v' G9 s9 da' => ⟨v', _, false, d', rfl, da_sh d' v' da' l'.noD, hsh'.1, hsh'.2.1, hsh'.2.2, _, rfl, av, _, true, d', rfl, (ahd (e7.trans ((ExtN.of s8).trans (ExtN.of s9))) l' sha).2, hsh'.1, hsh'.2.1, hsh'.2.2, rfl, _, rfl, iteNS rfl ⟨_, rfl, s47.trans (s8.trans s9)⟩⟩)
    · obtain ⟨w6, rfl, s4'⟩ := pv
      have s5 : Same G3 G' := s4.trans s4'
      clear s4 s4' e4 G4
      have e5 : ExtN G3 G' := ExtN.of s5
      have pu5 := pu3.same s5
      have t5 : Tabs T G' := t3.ext s5
      refine ⟨_, rfl, _, rfl, p, textS d, _, rfl, pu5, by omega, by omega, fun y G6 hy ly k6 pu6 => ?_⟩
      obtain ⟨b, i, j, ey, sp⟩ := hy
      have e6 : KpN p G3 G6 := (kpN_ext e5).trans (kpN_kp k6)
      have t6 := tabs_kp pu5 k6 t5
      have sh6 : Sh G6 (· ≠ p) true v d := Sh.onN (fun a o n h nt => e6 a o n h nt) d v sh3
      show spRead cX [V.str y] G6 _ _
      refine rd_ok (read_blanks l7.term ey sp) (by omega) (fun v' G7 s7 da' => ⟨v', _, false, d, rfl, da_sh d v' da' lt.noD, hsh.1, hsh.2.1, hsh.2.2, _, rfl, v, _, true, d, rfl, sh_ext (ExtN.of s7) sh6, hsh.1, hsh.2.1, hsh.2.2, rfl, _, rfl, iteNS rfl ?_⟩)
      have pu7 := pu6.same s7
      have t7 := t6.ext s7
      have e7 : KpN p G3 G7 := e6.trans (kpN_same s7)
      clear ey sp ly
      refine ⟨_, rfl, _, rfl, p, d, _, rfl, pu7, by omega, l7.term, by omega, lt.sm, fun z1 G8 r1 b1 c1 k8 pu8 => ⟨_, rfl, _, rfl, p, d, _, rfl, pu8, by omega, l7.term, by omega, lt.sm, fun z2 G9 r2 b2 c2 k9 pu9 => ⟨_, rfl, p, _, rfl, pu9, by omega, fun z3 GA r3 kA puA => ⟨by show 3 ≤ 1000; decide, fun LB hLB nLB => ?_⟩⟩⟩⟩
      have t9 : Tabs T GA := tabs_kp pu9 kA (tabs_kp pu8 k9 (tabs_kp pu7 k8 t7))
      have eA : KpN p G3 GA := e7.trans ((kpN_kp k8).trans ((kpN_kp k9).trans (kpN_kp kA)))
      have sB : Same GA (upd GA LB (.lst [.str z1, .str z2, .str z3])) := same_new hLB
      have gB : (upd GA LB (.lst [.str z1, .str z2, .str z3])) LB = some (.lst [.str z1, .str z2, .str z3]) := upd_same
      have puB := puA.same sB
      have tB := t9.ext sB
      have eB : KpN p G3 (upd GA LB (.lst [.str z1, .str z2, .str z3])) := eA.trans (kpN_same sB)
      generalize upd GA LB (.lst [.str z1, .str z2, .str z3]) = GB at sB gB puB tB eB
      have bad : ∀ z ∈ ([z1, z2, z3] : List Str), readD (TL.tl z) = none ∧ z.length ≤ 17000 ∧ Sm z := by
        intro z m
        simp only [List.mem_cons, List.not_mem_nil, or_false] at m
        rcases m with rfl | rfl | rfl
        · exact ⟨r1, b1, c1⟩
        · exact ⟨r2, b2, c2⟩
        · have n1 := List.all_eq_true.mp un_nearly _ r3
          have n2 := List.all_eq_true.mp near_len _ r3
          exact ⟨by simpa using n1, Nat.le_trans (of_decide_eq_true n2) (by decide), sm_of (List.all_eq_true.mp near_sm _ r3)⟩
      refine ⟨LB, rfl, ⟨_, SqL.of gB⟩, for_list (K := K) (a := LB) (xs := [.str z1, .str z2, .str z3]) (fun i σ G' => ∃ w7, σ = [some (.ref a), some av, some (.int (0 + (k : Int))), some (.ref p), some v, some (.str (textS d)), w6, w7] ∧ ExtN GB G' ∧ Tabs T G') ⟨_, rfl, ExtN.refl GB, tB⟩
        (fun i σ G' _ pv => ?_) (fun i x σ G' hx pv => ?_) fun σ G' pv => ?_⟩
      · obtain ⟨w7, rfl, eX, _⟩ := pv
        exact SqL.of (eX _ _ gB (fun _ z => nomatch z))
      · obtain ⟨w7, rfl, eX, tX⟩ := pv
        obtain ⟨z, mz, rfl⟩ : ∃ z, z ∈ ([z1, z2, z3] : List Str) ∧ x = .str z := by
          have m := List.mem_of_getElem? hx
          simp only [List.mem_cons, List.not_mem_nil, or_false] at m
          rcases m with rfl | rfl | rfl
          · exact ⟨z1, by simp, rfl⟩
          · exact ⟨z2, by simp, rfl⟩
          · exact ⟨z3, by simp, rfl⟩
        obtain ⟨hz, lz, sz'⟩ := bad z mz
        have smt : Sm "text" := sm_of (by decide +kernel)
        dsimp only [gName]
        refine ⟨tX, fun fl c' H1 eN t1 hf hc => ⟨_, rfl, fl, c', .str z, rfl, upd_same, (upd_ne fun q => by rw [q, hf] at hc; cases hc).trans hc, fun E' Q' rf => ⟨.str z, .str z, rfl, .str z (by omega), fun y e => by cases e; omega, .inl ⟨hz, rf⟩⟩, fun r G5 hr' nr sG gr => ?_⟩⟩
        have o1 : Same H1 G5 := (same_new (o := LamO fl c' qLaw (lamA lam3) (lamB lam3) (lamS lam3)) hf).trans sG
        refine ⟨_, rfl, by show 2 ≤ 1000; decide, fun M2 hM2 nM2 => ⟨.list [.str "text", .str z], .list [.str "text", .str z], .lst (SqL.of (same_new hM2 _ _ gr)) (.cons (.str _) (.cons (.str _) .nil)), .lst (SqL.of upd_same) (.cons (.str _) (.cons (.str _) .nil)), two_shaped smt sz', two_shaped smt sz', _, rfl, ?_⟩⟩
        rw [two_eqv]
        exact iteF ⟨_, rfl, eX.trans (eN.trans (ExtN.of (o1.trans (same_new hM2)))), (t1.ext o1).ext (same_new hM2)⟩
      · obtain ⟨w7, rfl, eX, tX⟩ := pv
        have puC : Purse G' p _ := purse_ext puB eX
        have eC : KpN p G3 G' := eB.trans (kpN_ext eX)
        refine ⟨_, rfl, p, _, rfl, puC, by omega, tX, fun GE kE puE tE => ⟨true, rfl, iteF ⟨_, rfl, ?_⟩⟩⟩
        have eE : KpN p G3 GE := eC.trans kE
        have eH : ExtN G GE := fun b o e n => (k03.trans eE) b o (fun z => by rw [z, hp] at e; cases e) (x0 b o e) n
        exact ⟨_, _, _, _, _, _, _, rfl, eG.trans eH, tE, .inr ⟨d, d2.toNat, lt, hj, Sh.on (fun _ _ _ _ => trivial) (fun _ _ _ e => e) d v (Sh.onN (fun a o n h nt => eE a o n h nt) d v sh3)⟩⟩
end
end K7
end Bf

set_option linter.all false
/-! Own: the end of a law that asks repr and makes lambdas: the tables of its codes. -/
namespace Bf
open PySem PySem.Spec PyProof.Rows L2 LamX
open PySem.W
variable {l : PySem.W.OpenLaw} {n k : Nat} {q : Program} {loose : List Str} {XP : (Str → Option Value) → Heap → Prop} {YP : World → Heap → Prop} {d : DefRec} {K : Params → PySem.W.Frag} {x : Str}
/-- what the head tells of the law -/
def LawG (l : PySem.W.OpenLaw) (w : World) (K : PySem.W.Frag) (k : Nat) (x : Str) (mg : Str → Option Value) (fa : Addr) (h : Heap) : Prop :=
  ∃ (fd : FuncData) (cs : List (Addr × Addr)) (sp : Sp), (∀ p ∈ cs, h.get? p.2 = some { cls := .none, data := .fields #[] } ∧ K.lookup p.2 = none ∧ CodeHd h p.1 p.2) ∧ (∀ (s : Shared) (u : Value), BindsTo s fd ⟨[u], []⟩ [(x, u)]) ∧
    (∀ (H : Hp) (a : Addr) (ns : List Int), (∀ p ∈ cs, H p.2 = some (.tbl #[])) → SqL K H a (ns.map V.int) → sp [.ref a] H (fun v _ => v = .bl true) fun _ _ _ => False) ∧
    ∀ base : Heap, K.In base → base.Ns mainGlobals mg → (∀ p ∈ cs, TabB base mg p.1 p.2) → FnG l.prog w K mg base CX0 k fa fd [x] sp
/-- a def's code, and its empty table -/
def TabOf (mg : Str → Option Value) (h : Heap) (nm : Str) : Prop := ∃ a c P o fd, mg nm = some (.ref a) ∧ h.get? a = some o ∧ o.data = .func fd ∧ fd.code = .ref c ∧ CodeHd h c P ∧ h.get? P = some { cls := .none, data := .fields #[] } ∧
  ∃ oc vc, h.get? c = some oc ∧ oc.data = .fields vc ∧ vc[11]? = some (.ref P)
/-- the table that a code of the head names, where the head leaves it open -/
def tabIn (K : PySem.W.Frag) : Value → Option Addr
  | .ref c => match K.lookup c with
    | some ob => match ob.data with
      | .fields vs => match (vs[11]? : Option Value) with
        | some (Value.ref P) => if (K.lookup P).isNone = true then some P else none
        | _ => none
      | _ => none
    | none => none
  | _ => none
theorem tabIn_inv {K : PySem.W.Frag} {v : Value} {P : Addr} (h : tabIn K v = some P) : ∃ c ob vs, v = .ref c ∧ K.lookup c = some ob ∧ ob.data = .fields vs ∧ vs[11]? = some (.ref P) ∧ K.lookup P = none := by
  unfold tabIn at h
  split at h
  · rename_i c
    split at h
    · rename_i ob hob
      split at h
      · rename_i vs hvs
        split at h
        · rename_i P' hP'
          split at h
          · rename_i hn
            cases h
            exact ⟨c, ob, vs, rfl, hob, hvs, hP', by simpa using hn⟩
          · cases h
        · cases h
      · cases h
    · cases h
  · cases h
/-- .. the very table -/
theorem TabOf.is {K : PySem.W.Frag} {mg : Str → Option Value} {h : Heap} {nm : Str} {f P : Addr} {oc : Value} {od : Option Addr} {fd : FuncData} {sl : Array (Option Value)} (t : TabOf mg h nm) (X : K.In h) (hm : mg nm = some (.ref f)) (lk : K.lookup f = some ⟨oc, od, .func fd, sl⟩) (ht : tabIn K fd.code = some P) :
    ∃ c, fd.code = .ref c ∧ h.get? P = some { cls := .none, data := .fields #[] } ∧ K.lookup P = none ∧ CodeHd h c P := by
  obtain ⟨a, c, P', o, fd', h1, h2, h3, h4, h5, h6, ob, vc, h7, h8, h9⟩ := t
  rw [hm] at h1
  cases h1
  have e := (X _ _ lk).symm.trans h2
  cases e
  cases h3
  obtain ⟨c', ob', vs, k1, k2, k3, k4, k5⟩ := tabIn_inv ht
  rw [h4] at k1
  cases k1
  have e2 := (X _ _ k2).symm.trans h7
  cases e2
  rw [k3] at h8
  cases h8
  rw [k4] at h9
  cases h9
  exact ⟨c, h4, h6, k5, h5⟩
theorem walkGT {names : List Str} (hrec : ∀ nm ∈ names, ((recsOf q).any fun e => e.name == nm) = true) (hn : l.most = some n) (hn2 : n ≤ 1000) (hdf : d.params.defaults = []) (hr : Room k callerA) (hY : ∀ (w : World) (h : Heap), YP w h → (K w.params).In h)
    (F : ∀ (w : World) (mg : Str → Option Value) (fa : Addr) (h : Heap), YP w h → (K w.params).In h → h.Ns mainGlobals mg → mg d.name = some (.ref fa) → (∀ nm ∈ names, TabOf mg h nm) → LawG l w (K w.params) k x mg fa h) :
    WalkO q loose XP YP l.row.toRowW d [] (fun f vs => PySem.call f vs) := by
  refine Att.attach_call hn hdf fun w s0 s1 mg mb fa o pm cd doc a vs ns G Y _ _ _ hmg ha hi hl hg => ?_
  have KX := hY w _ Y
  have tabOf : ∀ nm ∈ names, TabOf mg s1.heap nm := fun nm m => by
    obtain ⟨dL, hm, e⟩ := List.any_eq_true.mp (hrec nm m)
    have e : dL.name = nm := beq_iff_eq.mp e
    obtain ⟨f', o', fd', c', P', h1, h2, h3, h4, h5, h6⟩ := G.T.tab dL hm
    rw [e] at h1
    have C := CodeHd.of h5 h6
    obtain ⟨⟨oc, vc, e1, _, e3, e4⟩, hP⟩ := h6
    exact ⟨f', c', P', o', fd', h1, h2, h3, h4, C, hP, oc, vc, e1, e3, e4⟩
  obtain ⟨fd, cs, sp, hcs, bind, hsp, go⟩ := F w mg fa _ Y KX G.T.g hmg tabOf
  generalize hW : K w.params = W at KX hsp go hcs
  have hle : ns.length ≤ sizeLine := Nat.le_trans hl (Nat.le_trans hn2 (by decide))
  have rv := vals_ints hi
  -- the abstract heap: the empty tables, and the script where it isn't the module's own
  obtain ⟨H, hTb, hSc, hNo⟩ : ∃ H : Hp, (∀ b, (∃ p ∈ cs, p.2 = b) → H b = some (.tbl #[])) ∧ ((¬ ∃ p ∈ cs, p.2 = a) → W.lookup a = none → H a = some (.frz { cls := .type "list", data := .seq vs.toArray } (.lst (ns.map V.int)))) ∧
      ∀ b u, H b = some u → ((∃ p ∈ cs, p.2 = b) ∧ u = .tbl #[]) ∨ (b = a ∧ W.lookup a = none ∧ u = .frz { cls := .type "list", data := .seq vs.toArray } (.lst (ns.map V.int))) := by
    refine ⟨fun b => open Classical in if ∃ p ∈ cs, p.2 = b then some (.tbl #[]) else if b = a ∧ W.lookup a = none then some (.frz { cls := .type "list", data := .seq vs.toArray } (.lst (ns.map V.int))) else none, fun b h => if_pos h, fun h1 h2 => ?_, fun b u h => ?_⟩
    · exact (if_neg h1).trans (if_pos ⟨rfl, h2⟩)
    · by_cases h1 : ∃ p ∈ cs, p.2 = b
      · exact .inl ⟨h1, (Option.some.inj ((if_pos h1).symm.trans h)).symm⟩
      · have h := (if_neg h1).symm.trans h
        by_cases h2 : b = a ∧ W.lookup a = none
        · exact .inr ⟨h2.1, h2.2, (Option.some.inj ((if_pos h2).symm.trans h)).symm⟩
        · cases (if_neg h2).symm.trans h
  have tabAt : ∀ b, (∃ p ∈ cs, p.2 = b) → s1.heap.get? b = some { cls := .none, data := .fields #[] } := fun b ⟨p, hp, e⟩ => e ▸ (hcs p hp).1
  have aT : ¬ ∃ p ∈ cs, p.2 = a := fun h => by
    have e := (tabAt a h).symm.trans ha
    cases e
  have off : ∀ {b : Addr} {ob : Obj}, s1.heap.get? b = some ob → ob.data ≠ .fields #[] → (∀ vs n, ob.data ≠ .seq vs n) → H b = none := fun {b ob} e h1 h2 => by
    cases hb : H b with
    | none => rfl
    | some u =>
      rcases hNo b u hb with ⟨t, _⟩ | ⟨rfl, _, _⟩
      · have := Option.some.inj ((tabAt b t).symm.trans e)
        exact absurd (by rw [← this]) h1
      · have := Option.some.inj (ha.symm.trans e)
        exact absurd (by rw [← this]) (h2 vs.toArray 0)
  have there : ∀ {b : Addr} {ob : Obj}, s1.heap.get? b = some ob → H b = none → (hidT s1.heap H).get? b = some ob := fun e z => hidT_get e z
  have nsT : ∀ {b : Addr} {m : Str → Option Value}, s1.heap.Ns b m → (hidT s1.heap H).Ns b m := fun {b m} z => by
    obtain ⟨ob, es, ep, e, dd, r⟩ := z
    exact ⟨ob, es, ep, there e (off e (fun y => by rw [dd] at y; cases y) fun _ _ y => by rw [dd] at y; cases y), dd, r⟩
  have kin : W.In (hidT s1.heap H) := fun b ob e => by
    refine there (KX b ob e) ?_
    cases hb : H b with
    | none => rfl
    | some u =>
      rcases hNo b u hb with ⟨⟨p, hp, pb⟩, _⟩ | ⟨rfl, z, _⟩
      · have := (hcs p hp).2.1
        rw [pb, e] at this
        cases this
      · rw [z] at e
        cases e
  have md : Mod W mg (hidT s1.heap H) := ⟨kin, nsT G.T.g, ⟨mb, nsT G.T.b, G.T.builtins⟩, let ⟨mc, m1, m2⟩ := G.T.nolimit; ⟨mc, nsT m1, m2⟩⟩
  have ok : HOk l.prog w H s1.heap := fun b u hb => by
    rcases hNo b u hb with ⟨t, rfl⟩ | ⟨rfl, _, rfl⟩
    · exact tabAt b t
    · exact ⟨ha, by rw [List.length_map]; exact hle, vs, _, rv, ha⟩
  have hS : SqL W H a (ns.map V.int) := by
    cases hk : W.lookup a with
    | none => exact .inl (.inr ⟨_, hSc aT hk⟩)
    | some ob =>
      have e := (KX a ob hk).symm.trans ha
      cases e
      exact .inr ⟨_, vs.toArray, _, hk, rfl, rfl, rfl, by rw [List.size_toArray, hi.length]; exact hle, by simpa using rv⟩
  have tabs : ∀ p ∈ cs, TabB (hidT s1.heap H) mg p.1 p.2 := fun p hp => by
    obtain ⟨tAt, _, C⟩ := hcs p hp
    refine ⟨?_, ?_, fun z => ?_⟩
    · obtain ⟨ob, us, file, tf, flags, tg, inF, text, tt, c1, c2, c3, c4, rest⟩ := C
      refine ⟨ob, us, file, tf, flags, tg, inF, text, tt, there c1 (off c1 (fun y => ?_) fun _ _ y => ?_), c2, c3, c4, rest⟩
      · rw [c3] at y
        cases y
        simp at c4
      · rw [c3] at y
        cases y
    · obtain ⟨bm, ob, b1, b2, b3, b4, b5, b6⟩ := G.T.bmain
      refine ⟨bm, ob, b1, b2, fun y => ?_, fun y => ?_, there b3 (off b3 (fun y => ?_) fun _ _ y => ?_), b4, b5, b6⟩
      · obtain ⟨og, es, ep, e, dd, _⟩ := G.T.g
        rw [y, e] at b3
        cases b3
        rw [dd] at b6
        cases b6
      · rw [y, tAt] at b3
        cases b3
        cases b6
      · rw [b6] at y
        cases y
      · rw [b6] at y
        cases y
    · obtain ⟨og, es, ep, e, dd, _⟩ := G.T.g
      rw [z, tAt] at e
      cases e
      cases dd
  refine codeAny_mono ((go _ kin (nsT G.T.g) tabs).go callerA [] s1 H ⟨[.ref a], []⟩ [.ref a] [.ref a] _ _ rfl hr
    ⟨rfl, md, fun _ _ e => of_hidT e, Nat.le_of_eq (hidT_size _ _), trivial, (fun _ z => nomatch z), ok, .of_eq hg⟩ (bind s1 (.ref a)) (.cons rfl .nil) (hsp H a ns (fun p hp => hTb _ ⟨p, hp, rfl⟩) hS)) fun r s' h => ?_
  cases r with
  | error e => exact h.elim
  | ok fl =>
    cases fl with
    | next => exact h.elim
    | brk => exact h.elim
    | cont => exact h.elim
    | ret u =>
      obtain ⟨v, H', os, bare, un, ok', rv', e⟩ := h
      cases (show v = .bl true from e)
      cases (show u = .bool true from rv')
      have grown : ∀ b, (∃ p ∈ cs, p.2 = b) → ∃ more : Array Value, s'.heap.get? b = some { cls := .none, data := .fields more } := fun b t => by
        obtain ⟨more, z⟩ := un.tbls b #[] (hTb b t)
        exact ⟨_, ok' b _ z⟩
      have kept : ∀ b ob, (¬ ∃ p ∈ cs, p.2 = b) → s1.heap.get? b = some ob → s'.heap.get? b = some ob := fun b ob nt e => by
        cases hb : H b with
        | none => exact un.keep b ob e hb (fun y => nomatch y) (fun y => nomatch y)
        | some u =>
          rcases hNo b u hb with ⟨t, _⟩ | ⟨rfl, _, rfl⟩
          · exact absurd t nt
          · have e1 := (ok _ _ hb).1
            rw [e] at e1
            cases e1
            exact (ok' _ _ (un.frzs _ _ _ hb)).1
      refine ⟨rfl, ⟨fun b ob e => ?_, fun b ob e => ?_⟩, os, bare⟩
      · by_cases t : ∃ p ∈ cs, p.2 = b
        · obtain ⟨more, hm⟩ := grown b t
          have e2 := (tabAt b t).symm.trans e
          cases e2
          obtain ⟨p, hp, rfl⟩ := t
          obtain ⟨tAt, _, C⟩ := hcs p hp
          exact .inr (.inl ⟨(C.tab tAt).isCodeTable, rfl, #[], more, rfl, by rw [Array.empty_append]; exact hm⟩)
        · exact .inl (kept b ob t e)
      · by_cases t : ∃ p ∈ cs, p.2 = b
        · obtain ⟨more, hm⟩ := grown b t
          exact ⟨_, hm⟩
        · exact ⟨ob, kept b ob t e⟩
end Bf

set_option linter.all false
namespace Bf
open PySem PySem.Spec PyProof.Rows L2 LamX
namespace K7
set_option maxHeartbeats 4000000 in
theorem all_mk {l : PySem.W.OpenLaw} {w : World} {K : PySem.W.Frag} {h : Heap} {mg : Str → Option Value} {fa : Addr} (X : K.In h) (G : h.Ns mainGlobals mg) (hfa : mg "law" = some (.ref fa)) (tabs : ∀ nm ∈ (["law", "_law_odd_right"] : List Str), TabOf mg h nm)
    {fnb : Addr} {odnb annb : Option Addr} {slnb : Array (Option Value)} {ocnb kVnb dcnb pmnb cdnb ctnb : Value}
    {fwh : Addr} {odwh anwh : Option Addr} {slwh : Array (Option Value)} {ocwh kVwh dcwh pmwh cdwh ctwh : Value}
    {fna : Addr} {odna anna : Option Addr} {slna : Array (Option Value)} {ocna kVna dcna pmna cdna ctna : Value}
    {fwi : Addr} {odwi anwi : Option Addr} {slwi : Array (Option Value)} {ocwi kVwi dcwi pmwi cdwi ctwi : Value}
    {ftr : Addr} {odtr antr : Option Addr} {sltr : Array (Option Value)} {octr kVtr dctr pmtr cdtr cttr : Value}
    {fki : Addr} {odki anki : Option Addr} {slki : Array (Option Value)} {ocki kVki dcki pmki cdki ctki : Value}
    {fiw : Addr} {odiw aniw : Option Addr} {sliw : Array (Option Value)} {ociw kViw dciw pmiw cdiw ctiw : Value}
    {fgr : Addr} {odgr angr : Option Addr} {slgr : Array (Option Value)} {ocgr kVgr dcgr pmgr cdgr ctgr : Value}
    {fwo : Addr} {odwo anwo : Option Addr} {slwo : Array (Option Value)} {ocwo kVwo dcwo pmwo cdwo ctwo : Value}
    {far : Addr} {odar anar : Option Addr} {slar : Array (Option Value)} {ocar kVar dcar pmar cdar ctar : Value}
    {fit : Addr} {odit anit : Option Addr} {slit : Array (Option Value)} {ocit kVit dcit pmit cdit ctit : Value}
    {fnn : Addr} {odnn annn : Option Addr} {slnn : Array (Option Value)} {ocnn kVnn dcnn pmnn cdnn ctnn : Value}
    {fic : Addr} {odic anic : Option Addr} {slic : Array (Option Value)} {ocic kVic dcic pmic cdic ctic : Value}
    {fat : Addr} {odat anat : Option Addr} {slat : Array (Option Value)} {ocat kVat dcat pmat cdat ctat : Value}
    {ffo : Addr} {odfo anfo : Option Addr} {slfo : Array (Option Value)} {ocfo kVfo dcfo pmfo cdfo ctfo : Value}
    {ffi : Addr} {odfi anfi : Option Addr} {slfi : Array (Option Value)} {ocfi kVfi dcfi pmfi cdfi ctfi : Value}
    {ftw : Addr} {odtw antw : Option Addr} {sltw : Array (Option Value)} {octw kVtw dctw pmtw cdtw cttw : Value}
    {fro : Addr} {odro anro : Option Addr} {slro : Array (Option Value)} {ocro kVro dcro pmro cdro ctro : Value}
    {fno : Addr} {odno anno : Option Addr} {slno : Array (Option Value)} {ocno kVno dcno pmno cdno ctno : Value}
    {fwt : Addr} {odwt anwt : Option Addr} {slwt : Array (Option Value)} {ocwt kVwt dcwt pmwt cdwt ctwt : Value}
    {fkt : Addr} {odkt ankt : Option Addr} {slkt : Array (Option Value)} {ockt kVkt dckt pmkt cdkt ctkt : Value}
    {fcl : Addr} {odcl ancl : Option Addr} {slcl : Array (Option Value)} {occl kVcl dccl pmcl cdcl ctcl : Value}
    {fsl : Addr} {odsl ansl : Option Addr} {slsl : Array (Option Value)} {ocsl kVsl dcsl pmsl cdsl ctsl : Value}
    {fwr : Addr} {odwr anwr : Option Addr} {slwr : Array (Option Value)} {ocwr kVwr dcwr pmwr cdwr ctwr : Value}
    {fww : Addr} {odww anww : Option Addr} {slww : Array (Option Value)} {ocww kVww dcww pmww cdww ctww : Value}
    {fbr : Addr} {odbr anbr : Option Addr} {slbr : Array (Option Value)} {ocbr kVbr dcbr pmbr cdbr ctbr : Value}
    {fwk : Addr} {odwk anwk : Option Addr} {slwk : Array (Option Value)} {ocwk kVwk dcwk pmwk cdwk ctwk : Value}
    {ftt : Addr} {odtt antt : Option Addr} {sltt : Array (Option Value)} {octt kVtt dctt pmtt cdtt cttt : Value}
    {frt : Addr} {odrt anrt : Option Addr} {slrt : Array (Option Value)} {ocrt kVrt dcrt pmrt cdrt ctrt : Value}
    {fce : Addr} {odce ance : Option Addr} {slce : Array (Option Value)} {occe kVce dcce pmce cdce ctce : Value}
    {fbo : Addr} {odbo anbo : Option Addr} {slbo : Array (Option Value)} {ocbo kVbo dcbo pmbo cdbo ctbo : Value}
    {fta : Addr} {odta anta : Option Addr} {slta : Array (Option Value)} {octa kVta dcta pmta cdta ctta : Value}
    {fln : Addr} {odln anln : Option Addr} {slln : Array (Option Value)} {ocln kVln dcln pmln cdln ctln : Value}
    {flk : Addr} {odlk anlk : Option Addr} {sllk : Array (Option Value)} {oclk kVlk dclk pmlk cdlk ctlk : Value}
    {flw : Addr} {odlw anlw : Option Addr} {sllw : Array (Option Value)} {oclw kVlw dclw pmlw cdlw ctlw : Value}
    {flm : Addr} {odlm anlm : Option Addr} {sllm : Array (Option Value)} {oclm kVlm dclm pmlm cdlm ctlm : Value}
    {flx : Addr} {odlx anlx : Option Addr} {sllx : Array (Option Value)} {oclx kVlx dclx pmlx cdlx ctlx : Value}
    {fbl : Addr} {odbl anbl : Option Addr} {slbl : Array (Option Value)} {ocbl kVbl dcbl pmbl cdbl ctbl : Value}
    {fsp : Addr} {odsp ansp : Option Addr} {slsp : Array (Option Value)} {ocsp kVsp dcsp pmsp cdsp ctsp : Value}
    {fne : Addr} {odne anne : Option Addr} {slne : Array (Option Value)} {ocne kVne dcne pmne cdne ctne : Value}
    {fca : Addr} {odca anca : Option Addr} {slca : Array (Option Value)} {occa kVca dcca pmca cdca ctca : Value}
    {fod : Addr} {odod anod : Option Addr} {slod : Array (Option Value)} {ocod kVod dcod pmod cdod ctod : Value}
    {fla : Addr} {odla anla : Option Addr} {slla : Array (Option Value)} {ocla kVla dcla pmla cdla ctla : Value}
    {Pla Pod : Addr}
    {dF : Addr} {esdF : Array DictEntry} {ndF : Nat} {qdF0 qdF1 qdF2 qdF3 qdF4 qdF5 qdF6 qdF7 qdF8 qdF9 qdF10 qdF11 qdF12 qdF13 qdF14 qdF15 qdF16 qdF17 qdF18 qdF19 qdF20 qdF21 qdF22 : Addr}
    {odqdF0t : Option Addr} {slqdF0t : Array (Option Value)} {nqdF0t : Nat} {twqdF0x0 twqdF0x1 : Tok}
    {odqdF1t : Option Addr} {slqdF1t : Array (Option Value)} {nqdF1t : Nat} {twqdF1x0 : Tok}
    {odqdF2t : Option Addr} {slqdF2t : Array (Option Value)} {nqdF2t : Nat} {twqdF2x0 : Tok}
    {odqdF3t : Option Addr} {slqdF3t : Array (Option Value)} {nqdF3t : Nat} {twqdF3x0 twqdF3x1 : Tok}
    {odqdF4t : Option Addr} {slqdF4t : Array (Option Value)} {nqdF4t : Nat} {twqdF4x0 : Tok}
    {odqdF5t : Option Addr} {slqdF5t : Array (Option Value)} {nqdF5t : Nat} {twqdF5x0 twqdF5x1 : Tok}
    {odqdF6t : Option Addr} {slqdF6t : Array (Option Value)} {nqdF6t : Nat} {twqdF6x0 twqdF6x1 : Tok}
    {odqdF7t : Option Addr} {slqdF7t : Array (Option Value)} {nqdF7t : Nat} {twqdF7x0 twqdF7x1 : Tok}
    {odqdF8t : Option Addr} {slqdF8t : Array (Option Value)} {nqdF8t : Nat} {twqdF8x0 twqdF8x1 : Tok}
    {odqdF9t : Option Addr} {slqdF9t : Array (Option Value)} {nqdF9t : Nat} {twqdF9x0 twqdF9x1 : Tok}
    {odqdF10t : Option Addr} {slqdF10t : Array (Option Value)} {nqdF10t : Nat} {twqdF10x0 twqdF10x1 : Tok}
    {odqdF11t : Option Addr} {slqdF11t : Array (Option Value)} {nqdF11t : Nat} {twqdF11x0 twqdF11x1 : Tok}
    {odqdF12t : Option Addr} {slqdF12t : Array (Option Value)} {nqdF12t : Nat} {twqdF12x0 twqdF12x1 : Tok}
    {odqdF13t : Option Addr} {slqdF13t : Array (Option Value)} {nqdF13t : Nat} {twqdF13x0 twqdF13x1 : Tok}
    {odqdF14t : Option Addr} {slqdF14t : Array (Option Value)} {nqdF14t : Nat} {twqdF14x0 twqdF14x1 twqdF14x2 : Tok}
    {odqdF15t : Option Addr} {slqdF15t : Array (Option Value)} {nqdF15t : Nat} {twqdF15x0 twqdF15x1 twqdF15x2 : Tok}
    {odqdF16t : Option Addr} {slqdF16t : Array (Option Value)} {nqdF16t : Nat} {twqdF16x0 twqdF16x1 twqdF16x2 : Tok}
    {odqdF17t : Option Addr} {slqdF17t : Array (Option Value)} {nqdF17t : Nat} {twqdF17x0 : Tok}
    {odqdF18t : Option Addr} {slqdF18t : Array (Option Value)} {nqdF18t : Nat} {twqdF18x0 twqdF18x1 : Tok}
    {odqdF19t : Option Addr} {slqdF19t : Array (Option Value)} {nqdF19t : Nat} {twqdF19x0 twqdF19x1 twqdF19x2 : Tok}
    {odqdF20t : Option Addr} {slqdF20t : Array (Option Value)} {nqdF20t : Nat} {twqdF20x0 twqdF20x1 twqdF20x2 : Tok}
    {odqdF21t : Option Addr} {slqdF21t : Array (Option Value)} {nqdF21t : Nat} {twqdF21x0 twqdF21x1 twqdF21x2 twqdF21x3 : Tok}
    {odqdF22t : Option Addr} {slqdF22t : Array (Option Value)} {nqdF22t : Nat} {twqdF22x0 twqdF22x1 twqdF22x2 : Tok}
    {dS : Addr} {esdS : Array DictEntry} {ndS : Nat} {qdS0 qdS1 qdS2 : Addr}
    {odqdS0t : Option Addr} {slqdS0t : Array (Option Value)} {nqdS0t : Nat} {twqdS0x0 twqdS0x1 : Tok}
    {odqdS1t : Option Addr} {slqdS1t : Array (Option Value)} {nqdS1t : Nat} {twqdS1x0 twqdS1x1 : Tok}
    {odqdS2t : Option Addr} {slqdS2t : Array (Option Value)} {nqdS2t : Nat} {twqdS2x0 twqdS2x1 : Tok}
    {dC : Addr} {oddCt : Option Addr} {sldCt : Array (Option Value)} {ndCt : Nat} {twdCx0 twdCx1 twdCx2 twdCx3 : Tok}
    {dN : Addr} {oddNt : Option Addr} {sldNt : Array (Option Value)} {ndNt : Nat} {twdNx0 twdNx1 twdNx2 twdNx3 : Tok}
    {tkM : Tok}
    {CF fF : Addr} {odF anF : Option Addr} {slF : Array (Option Value)} {ocF kVF dcF pmF cdF ctF : Value}
    {CT fT : Addr} {odT anT : Option Addr} {slT : Array (Option Value)} {ocT kVT dcT pmT cdT ctT : Value} {nmT qT : Str} {NT : Addr} {bsT bmT : List Value} {snT : List Str} {subT : List Value} {abT : Bool} {colT : Option Bool} {ddT : Option Addr} {m0T m1T m2T m3T m5T : Option Value}
    {CX fX : Addr} {odX anX : Option Addr} {slX : Array (Option Value)} {ocX kVX dcX pmX cdX ctX : Value} {nmX qX : Str} {NX : Addr} {bsX bmX : List Value} {snX : List Str} {subX : List Value} {abX : Bool} {colX : Option Bool} {ddX : Option Addr} {m0X m1X m2X m3X m5X : Option Value}
    (anb : PySem.W.nsIn K mainGlobals "is_number" = some (some (.ref fnb)))
    (lnb : K.lookup fnb = some ⟨ocnb, odnb, .func (PySem.W.fnOf "is_number" "is_number" (defArgs sNumber) (defBody sNumber) (defScope sNumber) .none kVnb dcnb pmnb annb cdnb ctnb), slnb⟩)
    (cnb : PySem.W.codeIn K cdnb "is_number" = true)
    (knb : PySem.W.keepIn K (.ref fnb) = true)
    (awh : PySem.W.nsIn K mainGlobals "is_whole" = some (some (.ref fwh)))
    (lwh : K.lookup fwh = some ⟨ocwh, odwh, .func (PySem.W.fnOf "is_whole" "is_whole" (defArgs sWhole) (defBody sWhole) (defScope sWhole) .none kVwh dcwh pmwh anwh cdwh ctwh), slwh⟩)
    (cwh : PySem.W.codeIn K cdwh "is_whole" = true)
    (kwh : PySem.W.keepIn K (.ref fwh) = true)
    (ana : PySem.W.nsIn K mainGlobals "is_name" = some (some (.ref fna)))
    (lna : K.lookup fna = some ⟨ocna, odna, .func (PySem.W.fnOf "is_name" "is_name" (defArgs sName) (defBody sName) (defScope sName) .none kVna dcna pmna anna cdna ctna), slna⟩)
    (cna : PySem.W.codeIn K cdna "is_name" = true)
    (kna : PySem.W.keepIn K (.ref fna) = true)
    (awi : PySem.W.nsIn K mainGlobals "is_width" = some (some (.ref fwi)))
    (lwi : K.lookup fwi = some ⟨ocwi, odwi, .func (PySem.W.fnOf "is_width" "is_width" (defArgs sWidth) (defBody sWidth) (defScope sWidth) .none kVwi dcwi pmwi anwi cdwi ctwi), slwi⟩)
    (cwi : PySem.W.codeIn K cdwi "is_width" = true)
    (kwi : PySem.W.keepIn K (.ref fwi) = true)
    (atr : PySem.W.nsIn K mainGlobals "is_truth" = some (some (.ref ftr)))
    (ltr : K.lookup ftr = some ⟨octr, odtr, .func (PySem.W.fnOf "is_truth" "is_truth" (defArgs sTruth) (defBody sTruth) (defScope sTruth) .none kVtr dctr pmtr antr cdtr cttr), sltr⟩)
    (ctr : PySem.W.codeIn K cdtr "is_truth" = true)
    (ktr : PySem.W.keepIn K (.ref ftr) = true)
    (aki : PySem.W.nsIn K mainGlobals "is_kind" = some (some (.ref fki)))
    (lki : K.lookup fki = some ⟨ocki, odki, .func (PySem.W.fnOf "is_kind" "is_kind" (defArgs sKind) (defBody sKind) (defScope sKind) .none kVki dcki pmki anki cdki ctki), slki⟩)
    (cki : PySem.W.codeIn K cdki "is_kind" = true)
    (kki : PySem.W.keepIn K (.ref fki) = true)
    (aiw : PySem.W.nsIn K mainGlobals "is_worth" = some (some (.ref fiw)))
    (liw : K.lookup fiw = some ⟨ociw, odiw, .func (PySem.W.fnOf "is_worth" "is_worth" (defArgs sIsWorth) (defBody sIsWorth) (defScope sIsWorth) .none kViw dciw pmiw aniw cdiw ctiw), sliw⟩)
    (ciw : PySem.W.codeIn K cdiw "is_worth" = true)
    (kiw : PySem.W.keepIn K (.ref fiw) = true)
    (agr : PySem.W.nsIn K mainGlobals "_greatest" = some (some (.ref fgr)))
    (lgr : K.lookup fgr = some ⟨ocgr, odgr, .func (PySem.W.fnOf "_greatest" "_greatest" (defArgs sGreat) (defBody sGreat) (defScope sGreat) .none kVgr dcgr pmgr angr cdgr ctgr), slgr⟩)
    (cgr : PySem.W.codeIn K cdgr "_greatest" = true)
    (kgr : PySem.W.keepIn K (.ref fgr) = true)
    (awo : PySem.W.nsIn K mainGlobals "_is_worth_of_width" = some (some (.ref fwo)))
    (lwo : K.lookup fwo = some ⟨ocwo, odwo, .func (PySem.W.fnOf "_is_worth_of_width" "_is_worth_of_width" (defArgs sWorthOf) (defBody sWorthOf) (defScope sWorthOf) .none kVwo dcwo pmwo anwo cdwo ctwo), slwo⟩)
    (cwo : PySem.W.codeIn K cdwo "_is_worth_of_width" = true)
    (kwo : PySem.W.keepIn K (.ref fwo) = true)
    (aar : PySem.W.nsIn K mainGlobals "_are_worths_of_width" = some (some (.ref far)))
    (lar : K.lookup far = some ⟨ocar, odar, .func (PySem.W.fnOf "_are_worths_of_width" "_are_worths_of_width" (defArgs sAre) (defBody sAre) (defScope sAre) .none kVar dcar pmar anar cdar ctar), slar⟩)
    (car : PySem.W.codeIn K cdar "_are_worths_of_width" = true)
    (kar : PySem.W.keepIn K (.ref far) = true)
    (ait : PySem.W.nsIn K mainGlobals "is_term" = some (some (.ref fit)))
    (lit : K.lookup fit = some ⟨ocit, odit, .func (PySem.W.fnOf "is_term" "is_term" (defArgs sIsTerm) (defBody sIsTerm) (defScope sIsTerm) .none kVit dcit pmit anit cdit ctit), slit⟩)
    (cit : PySem.W.codeIn K cdit "is_term" = true)
    (kit : PySem.W.keepIn K (.ref fit) = true)
    (ann : PySem.W.nsIn K mainGlobals "is_node_name" = some (some (.ref fnn)))
    (lnn : K.lookup fnn = some ⟨ocnn, odnn, .func (PySem.W.fnOf "is_node_name" "is_node_name" (defArgs sNodeName) (defBody sNodeName) (defScope sNodeName) .none kVnn dcnn pmnn annn cdnn ctnn), slnn⟩)
    (cnn : PySem.W.codeIn K cdnn "is_node_name" = true)
    (knn : PySem.W.keepIn K (.ref fnn) = true)
    (aic : PySem.W.nsIn K mainGlobals "is_call" = some (some (.ref fic)))
    (lic : K.lookup fic = some ⟨ocic, odic, .func (PySem.W.fnOf "is_call" "is_call" (defArgs sIsCall) (defBody sIsCall) (defScope sIsCall) .none kVic dcic pmic anic cdic ctic), slic⟩)
    (cic : PySem.W.codeIn K cdic "is_call" = true)
    (kic : PySem.W.keepIn K (.ref fic) = true)
    (aat : PySem.W.nsIn K mainGlobals "_are_terms" = some (some (.ref fat)))
    (lat : K.lookup fat = some ⟨ocat, odat, .func (PySem.W.fnOf "_are_terms" "_are_terms" (defArgs sAreTerms) (defBody sAreTerms) (defScope sAreTerms) .none kVat dcat pmat anat cdat ctat), slat⟩)
    (cat : PySem.W.codeIn K cdat "_are_terms" = true)
    (kat : PySem.W.keepIn K (.ref fat) = true)
    (afo : PySem.W.nsIn K mainGlobals "_is_formed" = some (some (.ref ffo)))
    (lfo : K.lookup ffo = some ⟨ocfo, odfo, .func (PySem.W.fnOf "_is_formed" "_is_formed" (defArgs sFormed) (defBody sFormed) (defScope sFormed) .none kVfo dcfo pmfo anfo cdfo ctfo), slfo⟩)
    (cfo : PySem.W.codeIn K cdfo "_is_formed" = true)
    (kfo : PySem.W.keepIn K (.ref ffo) = true)
    (afi : PySem.W.nsIn K mainGlobals "_fits" = some (some (.ref ffi)))
    (lfi : K.lookup ffi = some ⟨ocfi, odfi, .func (PySem.W.fnOf "_fits" "_fits" (defArgs sFits) (defBody sFits) (defScope sFits) .none kVfi dcfi pmfi anfi cdfi ctfi), slfi⟩)
    (cfi : PySem.W.codeIn K cdfi "_fits" = true)
    (kfi : PySem.W.keepIn K (.ref ffi) = true)
    (atw : PySem.W.nsIn K mainGlobals "terms_within" = some (some (.ref ftw)))
    (ltw : K.lookup ftw = some ⟨octw, odtw, .func (PySem.W.fnOf "terms_within" "terms_within" (defArgs sWithin) (defBody sWithin) (defScope sWithin) .none kVtw dctw pmtw antw cdtw cttw), sltw⟩)
    (ctw : PySem.W.codeIn K cdtw "terms_within" = true)
    (ktw : PySem.W.keepIn K (.ref ftw) = true)
    (aro : PySem.W.nsIn K mainGlobals "words_of_row" = some (some (.ref fro)))
    (lro : K.lookup fro = some ⟨ocro, odro, .func (PySem.W.fnOf "words_of_row" "words_of_row" (defArgs sRows) (defBody sRows) (defScope sRows) .none kVro dcro pmro anro cdro ctro), slro⟩)
    (cro : PySem.W.codeIn K cdro "words_of_row" = true)
    (kro : PySem.W.keepIn K (.ref fro) = true)
    (ano : PySem.W.nsIn K mainGlobals "number_of" = some (some (.ref fno)))
    (lno : K.lookup fno = some ⟨ocno, odno, .func (PySem.W.fnOf "number_of" "number_of" (defArgs sNo) (defBody sNo) (defScope sNo) .none kVno dcno pmno anno cdno ctno), slno⟩)
    (cno : PySem.W.codeIn K cdno "number_of" = true)
    (kno : PySem.W.keepIn K (.ref fno) = true)
    (awt : PySem.W.nsIn K mainGlobals "worth_of" = some (some (.ref fwt)))
    (lwt : K.lookup fwt = some ⟨ocwt, odwt, .func (PySem.W.fnOf "worth_of" "worth_of" (defArgs sWorthOfW) (defBody sWorthOfW) (defScope sWorthOfW) .none kVwt dcwt pmwt anwt cdwt ctwt), slwt⟩)
    (cwt : PySem.W.codeIn K cdwt "worth_of" = true)
    (kwt : PySem.W.keepIn K (.ref fwt) = true)
    (akt : PySem.W.nsIn K mainGlobals "kind_of_word" = some (some (.ref fkt)))
    (lkt : K.lookup fkt = some ⟨ockt, odkt, .func (PySem.W.fnOf "kind_of_word" "kind_of_word" (defArgs sKindOfW) (defBody sKindOfW) (defScope sKindOfW) .none kVkt dckt pmkt ankt cdkt ctkt), slkt⟩)
    (ckt : PySem.W.codeIn K cdkt "kind_of_word" = true)
    (kkt : PySem.W.keepIn K (.ref fkt) = true)
    (acl : PySem.W.nsIn K mainGlobals "_closed" = some (some (.ref fcl)))
    (lcl : K.lookup fcl = some ⟨occl, odcl, .func (PySem.W.fnOf "_closed" "_closed" (defArgs sClosed) (defBody sClosed) (defScope sClosed) .none kVcl dccl pmcl ancl cdcl ctcl), slcl⟩)
    (ccl : PySem.W.codeIn K cdcl "_closed" = true)
    (kcl : PySem.W.keepIn K (.ref fcl) = true)
    (asl : PySem.W.nsIn K mainGlobals "_read_slot" = some (some (.ref fsl)))
    (lsl : K.lookup fsl = some ⟨ocsl, odsl, .func (PySem.W.fnOf "_read_slot" "_read_slot" (defArgs sSlot) (defBody sSlot) (defScope sSlot) .none kVsl dcsl pmsl ansl cdsl ctsl), slsl⟩)
    (csl : PySem.W.codeIn K cdsl "_read_slot" = true)
    (ksl : PySem.W.keepIn K (.ref fsl) = true)
    (awr : PySem.W.nsIn K mainGlobals "written_right" = some (some (.ref fwr)))
    (lwr : K.lookup fwr = some ⟨ocwr, odwr, .func (PySem.W.fnOf "written_right" "written_right" (defArgs sWRight) (defBody sWRight) (defScope sWRight) .none kVwr dcwr pmwr anwr cdwr ctwr), slwr⟩)
    (cwr : PySem.W.codeIn K cdwr "written_right" = true)
    (kwr : PySem.W.keepIn K (.ref fwr) = true)
    (aww : PySem.W.nsIn K mainGlobals "written_worth" = some (some (.ref fww)))
    (lww : K.lookup fww = some ⟨ocww, odww, .func (PySem.W.fnOf "written_worth" "written_worth" (defArgs sWWorth) (defBody sWWorth) (defScope sWWorth) .none kVww dcww pmww anww cdww ctww), slww⟩)
    (cww : PySem.W.codeIn K cdww "written_worth" = true)
    (kww : PySem.W.keepIn K (.ref fww) = true)
    (abr : PySem.W.nsIn K mainGlobals "_bracketed" = some (some (.ref fbr)))
    (lbr : K.lookup fbr = some ⟨ocbr, odbr, .func (PySem.W.fnOf "_bracketed" "_bracketed" (defArgs sBrack) (defBody sBrack) (defScope sBrack) .none kVbr dcbr pmbr anbr cdbr ctbr), slbr⟩)
    (cbr : PySem.W.codeIn K cdbr "_bracketed" = true)
    (kbr : PySem.W.keepIn K (.ref fbr) = true)
    (awk : PySem.W.nsIn K mainGlobals "_written_kind" = some (some (.ref fwk)))
    (lwk : K.lookup fwk = some ⟨ocwk, odwk, .func (PySem.W.fnOf "_written_kind" "_written_kind" (defArgs sWKind) (defBody sWKind) (defScope sWKind) .none kVwk dcwk pmwk anwk cdwk ctwk), slwk⟩)
    (cwk : PySem.W.codeIn K cdwk "_written_kind" = true)
    (kwk : PySem.W.keepIn K (.ref fwk) = true)
    (att : PySem.W.nsIn K mainGlobals "term_text" = some (some (.ref ftt)))
    (ltt : K.lookup ftt = some ⟨octt, odtt, .func (PySem.W.fnOf "term_text" "term_text" (defArgs sTText) (defBody sTText) (defScope sTText) .none kVtt dctt pmtt antt cdtt cttt), sltt⟩)
    (ctt : PySem.W.codeIn K cdtt "term_text" = true)
    (ktt : PySem.W.keepIn K (.ref ftt) = true)
    (art : PySem.W.nsIn K mainGlobals "read_term" = some (some (.ref frt)))
    (lrt : K.lookup frt = some ⟨ocrt, odrt, .func (PySem.W.fnOf "read_term" "read_term" (defArgs sRTerm) (defBody sRTerm) (defScope sRTerm) .none kVrt dcrt pmrt anrt cdrt ctrt), slrt⟩)
    (crt : PySem.W.codeIn K cdrt "read_term" = true)
    (krt : PySem.W.keepIn K (.ref frt) = true)
    (ace : PySem.W.nsIn K mainGlobals "_law_cell" = some (some (.ref fce)))
    (lce : K.lookup fce = some ⟨occe, odce, .func (PySem.W.fnOf "_law_cell" "_law_cell" (defArgs sCell) (defBody sCell) (defScope sCell) .none kVce dcce pmce ance cdce ctce), slce⟩)
    (cce : PySem.W.codeIn K cdce "_law_cell" = true)
    (kce : PySem.W.keepIn K (.ref fce) = true)
    (abo : PySem.W.nsIn K mainGlobals "_law_box" = some (some (.ref fbo)))
    (lbo : K.lookup fbo = some ⟨ocbo, odbo, .func (PySem.W.fnOf "_law_box" "_law_box" (defArgs sBox) (defBody sBox) (defScope sBox) .none kVbo dcbo pmbo anbo cdbo ctbo), slbo⟩)
    (cbo : PySem.W.codeIn K cdbo "_law_box" = true)
    (kbo : PySem.W.keepIn K (.ref fbo) = true)
    (ata : PySem.W.nsIn K mainGlobals "_law_take" = some (some (.ref fta)))
    (lta : K.lookup fta = some ⟨octa, odta, .func (PySem.W.fnOf "_law_take" "_law_take" (defArgs sTake) (defBody sTake) (defScope sTake) .none kVta dcta pmta anta cdta ctta), slta⟩)
    (cta : PySem.W.codeIn K cdta "_law_take" = true)
    (kta : PySem.W.keepIn K (.ref fta) = true)
    (aln : PySem.W.nsIn K mainGlobals "_law_name" = some (some (.ref fln)))
    (lln : K.lookup fln = some ⟨ocln, odln, .func (PySem.W.fnOf "_law_name" "_law_name" (defArgs sLName) (defBody sLName) (defScope sLName) .none kVln dcln pmln anln cdln ctln), slln⟩)
    (cln : PySem.W.codeIn K cdln "_law_name" = true)
    (kln : PySem.W.keepIn K (.ref fln) = true)
    (alk : PySem.W.nsIn K mainGlobals "_law_kind" = some (some (.ref flk)))
    (llk : K.lookup flk = some ⟨oclk, odlk, .func (PySem.W.fnOf "_law_kind" "_law_kind" (defArgs sLKind) (defBody sLKind) (defScope sLKind) .none kVlk dclk pmlk anlk cdlk ctlk), sllk⟩)
    (clk : PySem.W.codeIn K cdlk "_law_kind" = true)
    (klk : PySem.W.keepIn K (.ref flk) = true)
    (alw : PySem.W.nsIn K mainGlobals "_law_worth" = some (some (.ref flw)))
    (llw : K.lookup flw = some ⟨oclw, odlw, .func (PySem.W.fnOf "_law_worth" "_law_worth" (defArgs sLWorth) (defBody sLWorth) (defScope sLWorth) .none kVlw dclw pmlw anlw cdlw ctlw), sllw⟩)
    (clw : PySem.W.codeIn K cdlw "_law_worth" = true)
    (klw : PySem.W.keepIn K (.ref flw) = true)
    (alm : PySem.W.nsIn K mainGlobals "_law_term" = some (some (.ref flm)))
    (llm : K.lookup flm = some ⟨oclm, odlm, .func (PySem.W.fnOf "_law_term" "_law_term" (defArgs sLTerm) (defBody sLTerm) (defScope sLTerm) .none kVlm dclm pmlm anlm cdlm ctlm), sllm⟩)
    (clm : PySem.W.codeIn K cdlm "_law_term" = true)
    (klm : PySem.W.keepIn K (.ref flm) = true)
    (alx : PySem.W.nsIn K mainGlobals "_law_term_text" = some (some (.ref flx)))
    (llx : K.lookup flx = some ⟨oclx, odlx, .func (PySem.W.fnOf "_law_term_text" "_law_term_text" (defArgs sLText) (defBody sLText) (defScope sLText) .none kVlx dclx pmlx anlx cdlx ctlx), sllx⟩)
    (clx : PySem.W.codeIn K cdlx "_law_term_text" = true)
    (klx : PySem.W.keepIn K (.ref flx) = true)
    (abl : PySem.W.nsIn K mainGlobals "_law_blanks" = some (some (.ref fbl)))
    (lbl : K.lookup fbl = some ⟨ocbl, odbl, .func (PySem.W.fnOf "_law_blanks" "_law_blanks" (defArgs sBlanks) (defBody sBlanks) (defScope sBlanks) .none kVbl dcbl pmbl anbl cdbl ctbl), slbl⟩)
    (cbl : PySem.W.codeIn K cdbl "_law_blanks" = true)
    (kbl : PySem.W.keepIn K (.ref fbl) = true)
    (asp : PySem.W.nsIn K mainGlobals "_law_spoilt" = some (some (.ref fsp)))
    (lsp : K.lookup fsp = some ⟨ocsp, odsp, .func (PySem.W.fnOf "_law_spoilt" "_law_spoilt" (defArgs sSpoilt) (defBody sSpoilt) (defScope sSpoilt) .none kVsp dcsp pmsp ansp cdsp ctsp), slsp⟩)
    (csp : PySem.W.codeIn K cdsp "_law_spoilt" = true)
    (ksp : PySem.W.keepIn K (.ref fsp) = true)
    (ane : PySem.W.nsIn K mainGlobals "_law_nearly" = some (some (.ref fne)))
    (lne : K.lookup fne = some ⟨ocne, odne, .func (PySem.W.fnOf "_law_nearly" "_law_nearly" (defArgs sNearly) (defBody sNearly) (defScope sNearly) .none kVne dcne pmne anne cdne ctne), slne⟩)
    (cne : PySem.W.codeIn K cdne "_law_nearly" = true)
    (kne : PySem.W.keepIn K (.ref fne) = true)
    (aca : PySem.W.nsIn K mainGlobals "_law_caught" = some (some (.ref fca)))
    (lca : K.lookup fca = some ⟨occa, odca, .func (PySem.W.fnOf "_law_caught" "_law_caught" (defArgs sCaught) (defBody sCaught) (defScope sCaught) .none kVca dcca pmca anca cdca ctca), slca⟩)
    (cca : PySem.W.codeIn K cdca "_law_caught" = true)
    (kca : PySem.W.keepIn K (.ref fca) = true)
    (aod : PySem.W.nsIn K mainGlobals "_law_odd_right" = some (some (.ref fod)))
    (lod : K.lookup fod = some ⟨ocod, odod, .func (PySem.W.fnOf "_law_odd_right" "_law_odd_right" (defArgs sOdd) (defBody sOdd) (defScope sOdd) .none kVod dcod pmod anod cdod ctod), slod⟩)
    (cod : PySem.W.codeIn K cdod "_law_odd_right" = true)
    (kod : PySem.W.keepIn K (.ref fod) = true)
    (ala : PySem.W.nsIn K mainGlobals "law" = some (some (.ref fla)))
    (lla : K.lookup fla = some ⟨ocla, odla, .func (PySem.W.fnOf "law" "law" (defArgs sLaw) (defBody sLaw) (defScope sLaw) .none kVla dcla pmla anla cdla ctla), slla⟩)
    (cla : PySem.W.codeIn K cdla "law" = true)
    (kla : PySem.W.keepIn K (.ref fla) = true)
    (tla : tabIn K cdla = some Pla)
    (tod : tabIn K cdod = some Pod)
    (dPP : (Pla == Pod) = false)
    (gdF : PySem.W.nsIn K mainGlobals "FORMS" = some (some (.ref dF)))
    (ldF : K.lookup dF = some ⟨.type "dict", none, .dict esdF ndF, #[]⟩)
    (ydF : PySem.W.KeysLit w.params esdF.toList)
    (lowdF : (dF == sysModules) = false)
    (wdF : Rows esdF.toList [("lit", V.ref qdF0), ("name", V.ref qdF1), ("last", V.ref qdF2), ("first", V.ref qdF3), ("not", V.ref qdF4), ("and", V.ref qdF5), ("or", V.ref qdF6), ("xor", V.ref qdF7), ("add", V.ref qdF8), ("sub", V.ref qdF9), ("less", V.ref qdF10), ("same", V.ref qdF11), ("wide", V.ref qdF12), ("bit", V.ref qdF13), ("pick", V.ref qdF14), ("when", V.ref qdF15), ("merge", V.ref qdF16), ("row", V.ref qdF17), ("at", V.ref qdF18), ("call", V.ref qdF19), ("map", V.ref qdF20), ("fold", V.ref qdF21), ("pairs", V.ref qdF22)])
    (lqdF0t : K.lookup qdF0 = some ⟨.type "tuple", odqdF0t, .seq #[.str "kind" twqdF0x0, .str "worth" twqdF0x1] nqdF0t, slqdF0t⟩)
    (lqdF1t : K.lookup qdF1 = some ⟨.type "tuple", odqdF1t, .seq #[.str "name" twqdF1x0] nqdF1t, slqdF1t⟩)
    (lqdF2t : K.lookup qdF2 = some ⟨.type "tuple", odqdF2t, .seq #[.str "name" twqdF2x0] nqdF2t, slqdF2t⟩)
    (lqdF3t : K.lookup qdF3 = some ⟨.type "tuple", odqdF3t, .seq #[.str "term" twqdF3x0, .str "term" twqdF3x1] nqdF3t, slqdF3t⟩)
    (lqdF4t : K.lookup qdF4 = some ⟨.type "tuple", odqdF4t, .seq #[.str "term" twqdF4x0] nqdF4t, slqdF4t⟩)
    (lqdF5t : K.lookup qdF5 = some ⟨.type "tuple", odqdF5t, .seq #[.str "term" twqdF5x0, .str "term" twqdF5x1] nqdF5t, slqdF5t⟩)
    (lqdF6t : K.lookup qdF6 = some ⟨.type "tuple", odqdF6t, .seq #[.str "term" twqdF6x0, .str "term" twqdF6x1] nqdF6t, slqdF6t⟩)
    (lqdF7t : K.lookup qdF7 = some ⟨.type "tuple", odqdF7t, .seq #[.str "term" twqdF7x0, .str "term" twqdF7x1] nqdF7t, slqdF7t⟩)
    (lqdF8t : K.lookup qdF8 = some ⟨.type "tuple", odqdF8t, .seq #[.str "term" twqdF8x0, .str "term" twqdF8x1] nqdF8t, slqdF8t⟩)
    (lqdF9t : K.lookup qdF9 = some ⟨.type "tuple", odqdF9t, .seq #[.str "term" twqdF9x0, .str "term" twqdF9x1] nqdF9t, slqdF9t⟩)
    (lqdF10t : K.lookup qdF10 = some ⟨.type "tuple", odqdF10t, .seq #[.str "term" twqdF10x0, .str "term" twqdF10x1] nqdF10t, slqdF10t⟩)
    (lqdF11t : K.lookup qdF11 = some ⟨.type "tuple", odqdF11t, .seq #[.str "term" twqdF11x0, .str "term" twqdF11x1] nqdF11t, slqdF11t⟩)
    (lqdF12t : K.lookup qdF12 = some ⟨.type "tuple", odqdF12t, .seq #[.str "width" twqdF12x0, .str "term" twqdF12x1] nqdF12t, slqdF12t⟩)
    (lqdF13t : K.lookup qdF13 = some ⟨.type "tuple", odqdF13t, .seq #[.str "bit" twqdF13x0, .str "term" twqdF13x1] nqdF13t, slqdF13t⟩)
    (lqdF14t : K.lookup qdF14 = some ⟨.type "tuple", odqdF14t, .seq #[.str "term" twqdF14x0, .str "term" twqdF14x1, .str "term" twqdF14x2] nqdF14t, slqdF14t⟩)
    (lqdF15t : K.lookup qdF15 = some ⟨.type "tuple", odqdF15t, .seq #[.str "term" twqdF15x0, .str "name" twqdF15x1, .str "truth" twqdF15x2] nqdF15t, slqdF15t⟩)
    (lqdF16t : K.lookup qdF16 = some ⟨.type "tuple", odqdF16t, .seq #[.str "name" twqdF16x0, .str "term" twqdF16x1, .str "term" twqdF16x2] nqdF16t, slqdF16t⟩)
    (lqdF17t : K.lookup qdF17 = some ⟨.type "tuple", odqdF17t, .seq #[.str "parts" twqdF17x0] nqdF17t, slqdF17t⟩)
    (lqdF18t : K.lookup qdF18 = some ⟨.type "tuple", odqdF18t, .seq #[.str "place" twqdF18x0, .str "term" twqdF18x1] nqdF18t, slqdF18t⟩)
    (lqdF19t : K.lookup qdF19 = some ⟨.type "tuple", odqdF19t, .seq #[.str "node" twqdF19x0, .str "args" twqdF19x1, .str "every" twqdF19x2] nqdF19t, slqdF19t⟩)
    (lqdF20t : K.lookup qdF20 = some ⟨.type "tuple", odqdF20t, .seq #[.str "node" twqdF20x0, .str "rows" twqdF20x1, .str "every" twqdF20x2] nqdF20t, slqdF20t⟩)
    (lqdF21t : K.lookup qdF21 = some ⟨.type "tuple", odqdF21t, .seq #[.str "node" twqdF21x0, .str "term" twqdF21x1, .str "rows" twqdF21x2, .str "every" twqdF21x3] nqdF21t, slqdF21t⟩)
    (lqdF22t : K.lookup qdF22 = some ⟨.type "tuple", odqdF22t, .seq #[.str "node" twqdF22x0, .str "term" twqdF22x1, .str "every" twqdF22x2] nqdF22t, slqdF22t⟩)
    (gdS : PySem.W.nsIn K mainGlobals "SLOTS_OF_TERMS" = some (some (.ref dS)))
    (ldS : K.lookup dS = some ⟨.type "dict", none, .dict esdS ndS, #[]⟩)
    (ydS : PySem.W.KeysLit w.params esdS.toList)
    (lowdS : (dS == sysModules) = false)
    (wdS : Rows esdS.toList [("parts", V.ref qdS0), ("args", V.ref qdS1), ("rows", V.ref qdS2)])
    (lqdS0t : K.lookup qdS0 = some ⟨.type "tuple", odqdS0t, .seq #[.int 2 twqdS0x0, .int 4 twqdS0x1] nqdS0t, slqdS0t⟩)
    (lqdS1t : K.lookup qdS1 = some ⟨.type "tuple", odqdS1t, .seq #[.int 0 twqdS1x0, .int 6 twqdS1x1] nqdS1t, slqdS1t⟩)
    (lqdS2t : K.lookup qdS2 = some ⟨.type "tuple", odqdS2t, .seq #[.int 1 twqdS2x0, .int 4 twqdS2x1] nqdS2t, slqdS2t⟩)
    (gdC : PySem.W.nsIn K mainGlobals "CALLS" = some (some (.ref dC)))
    (ldCt : K.lookup dC = some ⟨.type "tuple", oddCt, .seq #[.str "call" twdCx0, .str "map" twdCx1, .str "fold" twdCx2, .str "pairs" twdCx3] ndCt, sldCt⟩)
    (gdN : PySem.W.nsIn K mainGlobals "SLOTS_OF_NUMBERS" = some (some (.ref dN)))
    (ldNt : K.lookup dN = some ⟨.type "tuple", oddNt, .seq #[.str "truth" twdNx0, .str "width" twdNx1, .str "bit" twdNx2, .str "place" twdNx3] ndNt, sldNt⟩)
    (gdM : PySem.W.nsIn K mainGlobals "MOST_FIGURES" = some (some (.int 30 tkM)))
    (aF : PySem.W.nsIn K mainGlobals "FlowError" = some (some (.ref CF)))
    (rF : PySem.W.readsIn K CF (.type "type") = true)
    (gF : PySem.W.specialIn K (.ref CF) "__getattribute__" = some (some (.builtin "type.__getattribute__")))
    (vF : PySem.W.findCls K (.ref CF) (.type "type") "__init__" = some (.val (.ref fF)))
    (lF : K.lookup fF = some ⟨ocF, odF, .func (PySem.W.fnOf "__init__" "FlowError.__init__" (defArgs sFE) (defBody sFE) (defScope sFE) .none kVF dcF pmF anF cdF ctF), slF⟩)
    (cF : PySem.W.codeIn K cdF "FlowError.__init__" = true)
    (kF : PySem.W.keepIn K (.ref fF) = true)
    (vV : PySem.W.findCls K (.type "ValueError") (.type "type") "__init__" = some (.val (.builtin "ValueError.__init__")))
    (aT : PySem.W.nsIn K mainGlobals "NoTerm" = some (some (.ref CT)))
    (xT : K.lookup CT = some (excClassObj nmT qT CT NT bsT bmT true snT subT abT colT ddT m0T m1T m2T m3T m5T "ValueError.__new__"))
    (veT : PySem.HandSPX.refsVE bmT = true)
    (saT : PySem.W.findIn K (.ref CT) "__setattr__" = some (some (.builtin "object.__setattr__")))
    (gaT : PySem.W.findIn K (.ref CT) "__getattribute__" = some (some (.builtin "BaseException.__getattribute__")))
    (ggT : PySem.W.findIn K (.ref CT) "__getattr__" = some none)
    (nfT : PySem.W.findIn K (.ref CT) "found" = some none)
    (iT : PySem.W.findIn K (.ref CT) "__init__" = some (some (.ref fT)))
    (tT : PySem.W.typeIn K (.ref fT) = some (.type "function"))
    (lT : K.lookup fT = some ⟨ocT, odT, .func (PySem.W.fnOf "__init__" "NoTerm.__init__" (defArgs sNT) (defBody sNT) (defScope sNT) .none kVT dcT pmT anT cdT ctT), slT⟩)
    (cT : PySem.W.codeIn K cdT "NoTerm.__init__" = true)
    (kT : PySem.W.keepIn K (.ref fT) = true)
    (kCT : PySem.W.keepIn K (.ref CT) = true)
    (eCT : PySem.W.subIn K (.ref CT) (.type "BaseException") = some true)
    (tCT : PySem.W.typeIn K (.ref CT) = some (.type "type"))
    (hCT : PySem.W.hasDictIn K CT = true)
    (aX : PySem.W.nsIn K mainGlobals "NoText" = some (some (.ref CX)))
    (xX : K.lookup CX = some (excClassObj nmX qX CX NX bsX bmX true snX subX abX colX ddX m0X m1X m2X m3X m5X "ValueError.__new__"))
    (veX : PySem.HandSPX.refsVE bmX = true)
    (saX : PySem.W.findIn K (.ref CX) "__setattr__" = some (some (.builtin "object.__setattr__")))
    (gaX : PySem.W.findIn K (.ref CX) "__getattribute__" = some (some (.builtin "BaseException.__getattribute__")))
    (ggX : PySem.W.findIn K (.ref CX) "__getattr__" = some none)
    (nfX : PySem.W.findIn K (.ref CX) "found" = some none)
    (iX : PySem.W.findIn K (.ref CX) "__init__" = some (some (.ref fX)))
    (tX : PySem.W.typeIn K (.ref fX) = some (.type "function"))
    (lX : K.lookup fX = some ⟨ocX, odX, .func (PySem.W.fnOf "__init__" "NoText.__init__" (defArgs sNX) (defBody sNX) (defScope sNX) .none kVX dcX pmX anX cdX ctX), slX⟩)
    (cX : PySem.W.codeIn K cdX "NoText.__init__" = true)
    (kX : PySem.W.keepIn K (.ref fX) = true)
    (kCX : PySem.W.keepIn K (.ref CX) = true)
    (eCX : PySem.W.subIn K (.ref CX) (.type "BaseException") = some true)
    (tCX : PySem.W.typeIn K (.ref CX) = some (.type "type"))
    (hCX : PySem.W.hasDictIn K CX = true)
    (uTT : PySem.W.subIn K (.ref CT) (.ref CT) = some true)
    (uXT : PySem.W.subIn K (.ref CX) (.ref CT) = some false)
    (uXX : PySem.W.subIn K (.ref CX) (.ref CX) = some true)
    (zisinstance : PySem.W.nsIn K mainGlobals "isinstance" = some none)
    (zint : PySem.W.nsIn K mainGlobals "int" = some none)
    (zbool : PySem.W.nsIn K mainGlobals "bool" = some none)
    (zlist : PySem.W.nsIn K mainGlobals "list" = some none)
    (ztuple : PySem.W.nsIn K mainGlobals "tuple" = some none)
    (zrange : PySem.W.nsIn K mainGlobals "range" = some none)
    (zlen : PySem.W.nsIn K mainGlobals "len" = some none)
    (zall : PySem.W.nsIn K mainGlobals "all" = some none)
    (zValueError : PySem.W.nsIn K mainGlobals "ValueError" = some none)
    (zmax : PySem.W.nsIn K mainGlobals "max" = some none)
    (zmin : PySem.W.nsIn K mainGlobals "min" = some none)
    (zrepr : PySem.W.nsIn K mainGlobals "repr" = some none)
    (zzip : PySem.W.nsIn K mainGlobals "zip" = some none)
    (zstr : PySem.W.nsIn K mainGlobals "str" = some none)
    (zenumerate : PySem.W.nsIn K mainGlobals "enumerate" = some none) : LawG l w K 28 "_law_script" mg fa h := by
  have e := hfa.symm.trans (PySem.W.mg_of X G ala)
  cases e
  have Fnb := fun_mk (st := sNumber) lnb cnb knb
  have bnb := Fnb.binds (ps := ["thing"]) fun _ _ _ _ _ _ us hl => match us, hl with | [_], _ => rfl
  have Dnb : Df K mg "is_number" fnb _ ["thing"] := ⟨PySem.W.mg_of X G anb, knb, bnb⟩
  have Fwh := fun_mk (st := sWhole) lwh cwh kwh
  have bwh := Fwh.binds (ps := ["thing", "low", "high"]) fun _ _ _ _ _ _ us hl => match us, hl with | [_, _, _], _ => rfl
  have Dwh : Df K mg "is_whole" fwh _ ["thing", "low", "high"] := ⟨PySem.W.mg_of X G awh, kwh, bwh⟩
  have Fna := fun_mk (st := sName) lna cna kna
  have bna := Fna.binds (ps := ["thing"]) fun _ _ _ _ _ _ us hl => match us, hl with | [_], _ => rfl
  have Dna : Df K mg "is_name" fna _ ["thing"] := ⟨PySem.W.mg_of X G ana, kna, bna⟩
  have Fwi := fun_mk (st := sWidth) lwi cwi kwi
  have bwi := Fwi.binds (ps := ["thing"]) fun _ _ _ _ _ _ us hl => match us, hl with | [_], _ => rfl
  have Dwi : Df K mg "is_width" fwi _ ["thing"] := ⟨PySem.W.mg_of X G awi, kwi, bwi⟩
  have Ftr := fun_mk (st := sTruth) ltr ctr ktr
  have btr := Ftr.binds (ps := ["thing"]) fun _ _ _ _ _ _ us hl => match us, hl with | [_], _ => rfl
  have Dtr : Df K mg "is_truth" ftr _ ["thing"] := ⟨PySem.W.mg_of X G atr, ktr, btr⟩
  have Fki := fun_mk (st := sKind) lki cki kki
  have bki := Fki.binds (ps := ["thing"]) fun _ _ _ _ _ _ us hl => match us, hl with | [_], _ => rfl
  have Dki : Df K mg "is_kind" fki _ ["thing"] := ⟨PySem.W.mg_of X G aki, kki, bki⟩
  have Fiw := fun_mk (st := sIsWorth) liw ciw kiw
  have biw := Fiw.binds (ps := ["thing", "kind"]) fun _ _ _ _ _ _ us hl => match us, hl with | [_, _], _ => rfl
  have Diw : Df K mg "is_worth" fiw _ ["thing", "kind"] := ⟨PySem.W.mg_of X G aiw, kiw, biw⟩
  have Fgr := fun_mk (st := sGreat) lgr cgr kgr
  have bgr := Fgr.binds (ps := ["width"]) fun _ _ _ _ _ _ us hl => match us, hl with | [_], _ => rfl
  have Dgr : Df K mg "_greatest" fgr _ ["width"] := ⟨PySem.W.mg_of X G agr, kgr, bgr⟩
  have Fwo := fun_mk (st := sWorthOf) lwo cwo kwo
  have bwo := Fwo.binds (ps := ["thing", "width"]) fun _ _ _ _ _ _ us hl => match us, hl with | [_, _], _ => rfl
  have Dwo : Df K mg "_is_worth_of_width" fwo _ ["thing", "width"] := ⟨PySem.W.mg_of X G awo, kwo, bwo⟩
  have Far := fun_mk (st := sAre) lar car kar
  have bar := Far.binds (ps := ["things", "width"]) fun _ _ _ _ _ _ us hl => match us, hl with | [_, _], _ => rfl
  have Dar : Df K mg "_are_worths_of_width" far _ ["things", "width"] := ⟨PySem.W.mg_of X G aar, kar, bar⟩
  have Fit := fun_mk (st := sIsTerm) lit cit kit
  have bit := Fit.binds (ps := ["thing"]) fun _ _ _ _ _ _ us hl => match us, hl with | [_], _ => rfl
  have Dit : Df K mg "is_term" fit _ ["thing"] := ⟨PySem.W.mg_of X G ait, kit, bit⟩
  have Fnn := fun_mk (st := sNodeName) lnn cnn knn
  have bnn := Fnn.binds (ps := ["thing"]) fun _ _ _ _ _ _ us hl => match us, hl with | [_], _ => rfl
  have Dnn : Df K mg "is_node_name" fnn _ ["thing"] := ⟨PySem.W.mg_of X G ann, knn, bnn⟩
  have Fic := fun_mk (st := sIsCall) lic cic kic
  have bic := Fic.binds (ps := ["right"]) fun _ _ _ _ _ _ us hl => match us, hl with | [_], _ => rfl
  have Dic : Df K mg "is_call" fic _ ["right"] := ⟨PySem.W.mg_of X G aic, kic, bic⟩
  have Fat := fun_mk (st := sAreTerms) lat cat kat
  have bat := Fat.binds (ps := ["things"]) fun _ _ _ _ _ _ us hl => match us, hl with | [_], _ => rfl
  have Dat : Df K mg "_are_terms" fat _ ["things"] := ⟨PySem.W.mg_of X G aat, kat, bat⟩
  have Ffo := fun_mk (st := sFormed) lfo cfo kfo
  have bfo := Ffo.binds (ps := ["thing"]) fun _ _ _ _ _ _ us hl => match us, hl with | [_], _ => rfl
  have Dfo : Df K mg "_is_formed" ffo _ ["thing"] := ⟨PySem.W.mg_of X G afo, kfo, bfo⟩
  have Ffi := fun_mk (st := sFits) lfi cfi kfi
  have bfi := Ffi.binds (ps := ["slot", "thing"]) fun _ _ _ _ _ _ us hl => match us, hl with | [_, _], _ => rfl
  have Dfi : Df K mg "_fits" ffi _ ["slot", "thing"] := ⟨PySem.W.mg_of X G afi, kfi, bfi⟩
  have Ftw := fun_mk (st := sWithin) ltw ctw ktw
  have btw := Ftw.binds (ps := ["right"]) fun _ _ _ _ _ _ us hl => match us, hl with | [_], _ => rfl
  have Dtw : Df K mg "terms_within" ftw _ ["right"] := ⟨PySem.W.mg_of X G atw, ktw, btw⟩
  have Fro := fun_mk (st := sRows) lro cro kro
  have bro := Fro.binds (ps := ["row"]) fun _ _ _ _ _ _ us hl => match us, hl with | [_], _ => rfl
  have Dro : Df K mg "words_of_row" fro _ ["row"] := ⟨PySem.W.mg_of X G aro, kro, bro⟩
  have Fno := fun_mk (st := sNo) lno cno kno
  have bno := Fno.binds (ps := ["word"]) fun _ _ _ _ _ _ us hl => match us, hl with | [_], _ => rfl
  have Dno : Df K mg "number_of" fno _ ["word"] := ⟨PySem.W.mg_of X G ano, kno, bno⟩
  have Fwt := fun_mk (st := sWorthOfW) lwt cwt kwt
  have bwt := Fwt.binds (ps := ["word"]) fun _ _ _ _ _ _ us hl => match us, hl with | [_], _ => rfl
  have Dwt : Df K mg "worth_of" fwt _ ["word"] := ⟨PySem.W.mg_of X G awt, kwt, bwt⟩
  have Fkt := fun_mk (st := sKindOfW) lkt ckt kkt
  have bkt := Fkt.binds (ps := ["word"]) fun _ _ _ _ _ _ us hl => match us, hl with | [_], _ => rfl
  have Dkt : Df K mg "kind_of_word" fkt _ ["word"] := ⟨PySem.W.mg_of X G akt, kkt, bkt⟩
  have Fcl := fun_mk (st := sClosed) lcl ccl kcl
  have bcl := Fcl.binds (ps := ["held"]) fun _ _ _ _ _ _ us hl => match us, hl with | [_], _ => rfl
  have Dcl : Df K mg "_closed" fcl _ ["held"] := ⟨PySem.W.mg_of X G acl, kcl, bcl⟩
  have Fsl := fun_mk (st := sSlot) lsl csl ksl
  have bsl := Fsl.binds (ps := ["slot", "given"]) fun _ _ _ _ _ _ us hl => match us, hl with | [_, _], _ => rfl
  have Dsl : Df K mg "_read_slot" fsl _ ["slot", "given"] := ⟨PySem.W.mg_of X G asl, ksl, bsl⟩
  have Fwr := fun_mk (st := sWRight) lwr cwr kwr
  have bwr := Fwr.binds (ps := ["right"]) fun _ _ _ _ _ _ us hl => match us, hl with | [_], _ => rfl
  have Dwr : Df K mg "written_right" fwr _ ["right"] := ⟨PySem.W.mg_of X G awr, kwr, bwr⟩
  have Fww := fun_mk (st := sWWorth) lww cww kww
  have bww := Fww.binds (ps := ["worth"]) fun _ _ _ _ _ _ us hl => match us, hl with | [_], _ => rfl
  have Dww : Df K mg "written_worth" fww _ ["worth"] := ⟨PySem.W.mg_of X G aww, kww, bww⟩
  have Fbr := fun_mk (st := sBrack) lbr cbr kbr
  have bbr := Fbr.binds (ps := ["words"]) fun _ _ _ _ _ _ us hl => match us, hl with | [_], _ => rfl
  have Dbr : Df K mg "_bracketed" fbr _ ["words"] := ⟨PySem.W.mg_of X G abr, kbr, bbr⟩
  have Fwk := fun_mk (st := sWKind) lwk cwk kwk
  have bwk := Fwk.binds (ps := ["kind"]) fun _ _ _ _ _ _ us hl => match us, hl with | [_], _ => rfl
  have Dwk : Df K mg "_written_kind" fwk _ ["kind"] := ⟨PySem.W.mg_of X G awk, kwk, bwk⟩
  have Ftt := fun_mk (st := sTText) ltt ctt ktt
  have btt := Ftt.binds (ps := ["term"]) fun _ _ _ _ _ _ us hl => match us, hl with | [_], _ => rfl
  have Dtt : Df K mg "term_text" ftt _ ["term"] := ⟨PySem.W.mg_of X G att, ktt, btt⟩
  have Frt := fun_mk (st := sRTerm) lrt crt krt
  have brt := Frt.binds (ps := ["text"]) fun _ _ _ _ _ _ us hl => match us, hl with | [_], _ => rfl
  have Drt : Df K mg "read_term" frt _ ["text"] := ⟨PySem.W.mg_of X G art, krt, brt⟩
  have Fce := fun_mk (st := sCell) lce cce kce
  have bce := Fce.binds (ps := ["_law_script", "_law_k"]) fun _ _ _ _ _ _ us hl => match us, hl with | [_, _], _ => rfl
  have Dce : Df K mg "_law_cell" fce _ ["_law_script", "_law_k"] := ⟨PySem.W.mg_of X G ace, kce, bce⟩
  have Fbo := fun_mk (st := sBox) lbo cbo kbo
  have bbo := Fbo.binds (ps := ["_law_cell_here"]) fun _ _ _ _ _ _ us hl => match us, hl with | [_], _ => rfl
  have Dbo : Df K mg "_law_box" fbo _ ["_law_cell_here"] := ⟨PySem.W.mg_of X G abo, kbo, bbo⟩
  have Fta := fun_mk (st := sTake) lta cta kta
  have bta := Fta.binds (ps := ["_law_box_here", "_law_many"]) fun _ _ _ _ _ _ us hl => match us, hl with | [_, _], _ => rfl
  have Dta : Df K mg "_law_take" fta _ ["_law_box_here", "_law_many"] := ⟨PySem.W.mg_of X G ata, kta, bta⟩
  have Fln := fun_mk (st := sLName) lln cln kln
  have bln := Fln.binds (ps := ["_law_box_here"]) fun _ _ _ _ _ _ us hl => match us, hl with | [_], _ => rfl
  have Dln : Df K mg "_law_name" fln _ ["_law_box_here"] := ⟨PySem.W.mg_of X G aln, kln, bln⟩
  have Flk := fun_mk (st := sLKind) llk clk klk
  have blk := Flk.binds (ps := ["_law_box_here"]) fun _ _ _ _ _ _ us hl => match us, hl with | [_], _ => rfl
  have Dlk : Df K mg "_law_kind" flk _ ["_law_box_here"] := ⟨PySem.W.mg_of X G alk, klk, blk⟩
  have Flw := fun_mk (st := sLWorth) llw clw klw
  have blw := Flw.binds (ps := ["_law_box_here", "_law_kind_here"]) fun _ _ _ _ _ _ us hl => match us, hl with | [_, _], _ => rfl
  have Dlw : Df K mg "_law_worth" flw _ ["_law_box_here", "_law_kind_here"] := ⟨PySem.W.mg_of X G alw, klw, blw⟩
  have Flm := fun_mk (st := sLTerm) llm clm klm
  have blm := Flm.binds (ps := ["_law_box_here", "_law_deep"]) fun _ _ _ _ _ _ us hl => match us, hl with | [_, _], _ => rfl
  have Dlm : Df K mg "_law_term" flm _ ["_law_box_here", "_law_deep"] := ⟨PySem.W.mg_of X G alm, klm, blm⟩
  have Flx := fun_mk (st := sLText) llx clx klx
  have blx := Flx.binds (ps := ["_law_term_here"]) fun _ _ _ _ _ _ us hl => match us, hl with | [_], _ => rfl
  have Dlx : Df K mg "_law_term_text" flx _ ["_law_term_here"] := ⟨PySem.W.mg_of X G alx, klx, blx⟩
  have Fbl := fun_mk (st := sBlanks) lbl cbl kbl
  have bbl := Fbl.binds (ps := ["_law_box_here", "_law_text"]) fun _ _ _ _ _ _ us hl => match us, hl with | [_, _], _ => rfl
  have Dbl : Df K mg "_law_blanks" fbl _ ["_law_box_here", "_law_text"] := ⟨PySem.W.mg_of X G abl, kbl, bbl⟩
  have Fsp := fun_mk (st := sSpoilt) lsp csp ksp
  have bsp := Fsp.binds (ps := ["_law_box_here", "_law_text"]) fun _ _ _ _ _ _ us hl => match us, hl with | [_, _], _ => rfl
  have Dsp : Df K mg "_law_spoilt" fsp _ ["_law_box_here", "_law_text"] := ⟨PySem.W.mg_of X G asp, ksp, bsp⟩
  have Fne := fun_mk (st := sNearly) lne cne kne
  have bne := Fne.binds (ps := ["_law_box_here"]) fun _ _ _ _ _ _ us hl => match us, hl with | [_], _ => rfl
  have Dne : Df K mg "_law_nearly" fne _ ["_law_box_here"] := ⟨PySem.W.mg_of X G ane, kne, bne⟩
  have Fca := fun_mk (st := sCaught) lca cca kca
  have bca := Fca.binds (ps := ["_law_ask", "_law_thing"]) fun _ _ _ _ _ _ us hl => match us, hl with | [_, _], _ => rfl
  have Dca : Df K mg "_law_caught" fca _ ["_law_ask", "_law_thing"] := ⟨PySem.W.mg_of X G aca, kca, bca⟩
  have Fod := fun_mk (st := sOdd) lod cod kod
  have bod := Fod.binds (ps := ["_law_box_here"]) fun _ _ _ _ _ _ us hl => match us, hl with | [_], _ => rfl
  have Dod : Df K mg "_law_odd_right" fod _ ["_law_box_here"] := ⟨PySem.W.mg_of X G aod, kod, bod⟩
  have Fla := fun_mk (st := sLaw) lla cla kla
  obtain ⟨ccla, ecla, tAla, nTla, CHla⟩ := (tabs "law" (by simp)).is X (PySem.W.mg_of X G ala) lla tla
  obtain ⟨ccod, ecod, tAod, nTod, CHod⟩ := (tabs "_law_odd_right" (by simp)).is X (PySem.W.mg_of X G aod) lod tod
  have ecla : cdla = .ref ccla := ecla
  have ecod : cdod = .ref ccod := ecod
  subst ecla ecod
  have CLA : FunC K "law" "law" sLaw fa ccla _ := ⟨⟨_, _, _, _, _, _, _, _, rfl, lla, cla⟩, kla⟩
  have COD : FunC K "_law_odd_right" "_law_odd_right" sOdd fod ccod _ := ⟨⟨_, _, _, _, _, _, _, _, rfl, lod, cod⟩, kod⟩
  have nPP : Pla ≠ Pod := by simpa using dPP
  have sqdF0t : ∀ H, SqT K H qdF0 [V.str "kind", V.str "worth"] := fun _ => .inr ⟨_, _, _, lqdF0t, rfl, rfl, by show 2 ≤ sizeLine; decide, .cons ⟨_, rfl⟩ (.cons ⟨_, rfl⟩ (.nil))⟩
  have sqdF1t : ∀ H, SqT K H qdF1 [V.str "name"] := fun _ => .inr ⟨_, _, _, lqdF1t, rfl, rfl, by show 1 ≤ sizeLine; decide, .cons ⟨_, rfl⟩ (.nil)⟩
  have sqdF2t : ∀ H, SqT K H qdF2 [V.str "name"] := fun _ => .inr ⟨_, _, _, lqdF2t, rfl, rfl, by show 1 ≤ sizeLine; decide, .cons ⟨_, rfl⟩ (.nil)⟩
  have sqdF3t : ∀ H, SqT K H qdF3 [V.str "term", V.str "term"] := fun _ => .inr ⟨_, _, _, lqdF3t, rfl, rfl, by show 2 ≤ sizeLine; decide, .cons ⟨_, rfl⟩ (.cons ⟨_, rfl⟩ (.nil))⟩
  have sqdF4t : ∀ H, SqT K H qdF4 [V.str "term"] := fun _ => .inr ⟨_, _, _, lqdF4t, rfl, rfl, by show 1 ≤ sizeLine; decide, .cons ⟨_, rfl⟩ (.nil)⟩
  have sqdF5t : ∀ H, SqT K H qdF5 [V.str "term", V.str "term"] := fun _ => .inr ⟨_, _, _, lqdF5t, rfl, rfl, by show 2 ≤ sizeLine; decide, .cons ⟨_, rfl⟩ (.cons ⟨_, rfl⟩ (.nil))⟩
  have sqdF6t : ∀ H, SqT K H qdF6 [V.str "term", V.str "term"] := fun _ => .inr ⟨_, _, _, lqdF6t, rfl, rfl, by show 2 ≤ sizeLine; decide, .cons ⟨_, rfl⟩ (.cons ⟨_, rfl⟩ (.nil))⟩
  have sqdF7t : ∀ H, SqT K H qdF7 [V.str "term", V.str "term"] := fun _ => .inr ⟨_, _, _, lqdF7t, rfl, rfl, by show 2 ≤ sizeLine; decide, .cons ⟨_, rfl⟩ (.cons ⟨_, rfl⟩ (.nil))⟩
  have sqdF8t : ∀ H, SqT K H qdF8 [V.str "term", V.str "term"] := fun _ => .inr ⟨_, _, _, lqdF8t, rfl, rfl, by show 2 ≤ sizeLine; decide, .cons ⟨_, rfl⟩ (.cons ⟨_, rfl⟩ (.nil))⟩
  have sqdF9t : ∀ H, SqT K H qdF9 [V.str "term", V.str "term"] := fun _ => .inr ⟨_, _, _, lqdF9t, rfl, rfl, by show 2 ≤ sizeLine; decide, .cons ⟨_, rfl⟩ (.cons ⟨_, rfl⟩ (.nil))⟩
  have sqdF10t : ∀ H, SqT K H qdF10 [V.str "term", V.str "term"] := fun _ => .inr ⟨_, _, _, lqdF10t, rfl, rfl, by show 2 ≤ sizeLine; decide, .cons ⟨_, rfl⟩ (.cons ⟨_, rfl⟩ (.nil))⟩
  have sqdF11t : ∀ H, SqT K H qdF11 [V.str "term", V.str "term"] := fun _ => .inr ⟨_, _, _, lqdF11t, rfl, rfl, by show 2 ≤ sizeLine; decide, .cons ⟨_, rfl⟩ (.cons ⟨_, rfl⟩ (.nil))⟩
  have sqdF12t : ∀ H, SqT K H qdF12 [V.str "width", V.str "term"] := fun _ => .inr ⟨_, _, _, lqdF12t, rfl, rfl, by show 2 ≤ sizeLine; decide, .cons ⟨_, rfl⟩ (.cons ⟨_, rfl⟩ (.nil))⟩
  have sqdF13t : ∀ H, SqT K H qdF13 [V.str "bit", V.str "term"] := fun _ => .inr ⟨_, _, _, lqdF13t, rfl, rfl, by show 2 ≤ sizeLine; decide, .cons ⟨_, rfl⟩ (.cons ⟨_, rfl⟩ (.nil))⟩
  have sqdF14t : ∀ H, SqT K H qdF14 [V.str "term", V.str "term", V.str "term"] := fun _ => .inr ⟨_, _, _, lqdF14t, rfl, rfl, by show 3 ≤ sizeLine; decide, .cons ⟨_, rfl⟩ (.cons ⟨_, rfl⟩ (.cons ⟨_, rfl⟩ (.nil)))⟩
  have sqdF15t : ∀ H, SqT K H qdF15 [V.str "term", V.str "name", V.str "truth"] := fun _ => .inr ⟨_, _, _, lqdF15t, rfl, rfl, by show 3 ≤ sizeLine; decide, .cons ⟨_, rfl⟩ (.cons ⟨_, rfl⟩ (.cons ⟨_, rfl⟩ (.nil)))⟩
  have sqdF16t : ∀ H, SqT K H qdF16 [V.str "name", V.str "term", V.str "term"] := fun _ => .inr ⟨_, _, _, lqdF16t, rfl, rfl, by show 3 ≤ sizeLine; decide, .cons ⟨_, rfl⟩ (.cons ⟨_, rfl⟩ (.cons ⟨_, rfl⟩ (.nil)))⟩
  have sqdF17t : ∀ H, SqT K H qdF17 [V.str "parts"] := fun _ => .inr ⟨_, _, _, lqdF17t, rfl, rfl, by show 1 ≤ sizeLine; decide, .cons ⟨_, rfl⟩ (.nil)⟩
  have sqdF18t : ∀ H, SqT K H qdF18 [V.str "place", V.str "term"] := fun _ => .inr ⟨_, _, _, lqdF18t, rfl, rfl, by show 2 ≤ sizeLine; decide, .cons ⟨_, rfl⟩ (.cons ⟨_, rfl⟩ (.nil))⟩
  have sqdF19t : ∀ H, SqT K H qdF19 [V.str "node", V.str "args", V.str "every"] := fun _ => .inr ⟨_, _, _, lqdF19t, rfl, rfl, by show 3 ≤ sizeLine; decide, .cons ⟨_, rfl⟩ (.cons ⟨_, rfl⟩ (.cons ⟨_, rfl⟩ (.nil)))⟩
  have sqdF20t : ∀ H, SqT K H qdF20 [V.str "node", V.str "rows", V.str "every"] := fun _ => .inr ⟨_, _, _, lqdF20t, rfl, rfl, by show 3 ≤ sizeLine; decide, .cons ⟨_, rfl⟩ (.cons ⟨_, rfl⟩ (.cons ⟨_, rfl⟩ (.nil)))⟩
  have sqdF21t : ∀ H, SqT K H qdF21 [V.str "node", V.str "term", V.str "rows", V.str "every"] := fun _ => .inr ⟨_, _, _, lqdF21t, rfl, rfl, by show 4 ≤ sizeLine; decide, .cons ⟨_, rfl⟩ (.cons ⟨_, rfl⟩ (.cons ⟨_, rfl⟩ (.cons ⟨_, rfl⟩ (.nil))))⟩
  have sqdF22t : ∀ H, SqT K H qdF22 [V.str "node", V.str "term", V.str "every"] := fun _ => .inr ⟨_, _, _, lqdF22t, rfl, rfl, by show 3 ≤ sizeLine; decide, .cons ⟨_, rfl⟩ (.cons ⟨_, rfl⟩ (.cons ⟨_, rfl⟩ (.nil)))⟩
  have fdF : FTab K FMv [("lit", V.ref qdF0), ("name", V.ref qdF1), ("last", V.ref qdF2), ("first", V.ref qdF3), ("not", V.ref qdF4), ("and", V.ref qdF5), ("or", V.ref qdF6), ("xor", V.ref qdF7), ("add", V.ref qdF8), ("sub", V.ref qdF9), ("less", V.ref qdF10), ("same", V.ref qdF11), ("wide", V.ref qdF12), ("bit", V.ref qdF13), ("pick", V.ref qdF14), ("when", V.ref qdF15), ("merge", V.ref qdF16), ("row", V.ref qdF17), ("at", V.ref qdF18), ("call", V.ref qdF19), ("map", V.ref qdF20), ("fold", V.ref qdF21), ("pairs", V.ref qdF22)] := .cons sqdF0t (.cons sqdF1t (.cons sqdF2t (.cons sqdF3t (.cons sqdF4t (.cons sqdF5t (.cons sqdF6t (.cons sqdF7t (.cons sqdF8t (.cons sqdF9t (.cons sqdF10t (.cons sqdF11t (.cons sqdF12t (.cons sqdF13t (.cons sqdF14t (.cons sqdF15t (.cons sqdF16t (.cons sqdF17t (.cons sqdF18t (.cons sqdF19t (.cons sqdF20t (.cons sqdF21t (.cons sqdF22t (.nil)))))))))))))))))))))))
  have DdF : Dct K w dF [("lit", V.ref qdF0), ("name", V.ref qdF1), ("last", V.ref qdF2), ("first", V.ref qdF3), ("not", V.ref qdF4), ("and", V.ref qdF5), ("or", V.ref qdF6), ("xor", V.ref qdF7), ("add", V.ref qdF8), ("sub", V.ref qdF9), ("less", V.ref qdF10), ("same", V.ref qdF11), ("wide", V.ref qdF12), ("bit", V.ref qdF13), ("pick", V.ref qdF14), ("when", V.ref qdF15), ("merge", V.ref qdF16), ("row", V.ref qdF17), ("at", V.ref qdF18), ("call", V.ref qdF19), ("map", V.ref qdF20), ("fold", V.ref qdF21), ("pairs", V.ref qdF22)] := ⟨⟨_, _, ⟨ldF, ydF, lowdF⟩, wdF⟩⟩
  have sqdS0t : ∀ H, SqT K H qdS0 [V.int 2, V.int 4] := fun _ => .inr ⟨_, _, _, lqdS0t, rfl, rfl, by show 2 ≤ sizeLine; decide, .cons ⟨_, rfl⟩ (.cons ⟨_, rfl⟩ (.nil))⟩
  have sqdS1t : ∀ H, SqT K H qdS1 [V.int 0, V.int 6] := fun _ => .inr ⟨_, _, _, lqdS1t, rfl, rfl, by show 2 ≤ sizeLine; decide, .cons ⟨_, rfl⟩ (.cons ⟨_, rfl⟩ (.nil))⟩
  have sqdS2t : ∀ H, SqT K H qdS2 [V.int 1, V.int 4] := fun _ => .inr ⟨_, _, _, lqdS2t, rfl, rfl, by show 2 ≤ sizeLine; decide, .cons ⟨_, rfl⟩ (.cons ⟨_, rfl⟩ (.nil))⟩
  have fdS : FTab K STv [("parts", V.ref qdS0), ("args", V.ref qdS1), ("rows", V.ref qdS2)] := .cons sqdS0t (.cons sqdS1t (.cons sqdS2t (.nil)))
  have DdS : Dct K w dS [("parts", V.ref qdS0), ("args", V.ref qdS1), ("rows", V.ref qdS2)] := ⟨⟨_, _, ⟨ldS, ydS, lowdS⟩, wdS⟩⟩
  have sdCt : ∀ H, SqT K H dC [V.str "call", V.str "map", V.str "fold", V.str "pairs"] := fun _ => .inr ⟨_, _, _, ldCt, rfl, rfl, by show 4 ≤ sizeLine; decide, .cons ⟨_, rfl⟩ (.cons ⟨_, rfl⟩ (.cons ⟨_, rfl⟩ (.cons ⟨_, rfl⟩ (.nil))))⟩
  have sdNt : ∀ H, SqT K H dN [V.str "truth", V.str "width", V.str "bit", V.str "place"] := fun _ => .inr ⟨_, _, _, ldNt, rfl, rfl, by show 4 ≤ sizeLine; decide, .cons ⟨_, rfl⟩ (.cons ⟨_, rfl⟩ (.cons ⟨_, rfl⟩ (.cons ⟨_, rfl⟩ (.nil))))⟩
  have TB : Tbs K w mg dF dS dC := ⟨PySem.W.mg_of X G gdF, PySem.W.mg_of X G gdS, PySem.W.mg_of X G gdC, ⟨_, DdF, fdF⟩, ⟨_, DdS, fdS⟩, sdCt⟩
  have FF := fun_mk (st := sFE) lF cF kF
  have bF := FF.binds (ps := ["self", "text"]) fun _ _ _ _ _ _ us hl => match us, hl with | [_, _], _ => rfl
  have FT := fun_mk (st := sNT) lT cT kT
  have bT := FT.binds (ps := ["self", "found"]) fun _ _ _ _ _ _ us hl => match us, hl with | [_, _], _ => rfl
  have OT : OexC K CT := ⟨⟨_, _, _, _, _, _, _, _, _, _, _, _, _, _, _, xT, veT⟩, saT, eCT, tCT, kCT⟩
  have TT : ExT K mg "NoTerm" CT fT _ := ⟨PySem.W.mg_of X G aT, OT, iT, tT, nfT, ⟨gaT, ggT, eCT, hCT⟩, bT⟩
  have FX := fun_mk (st := sNX) lX cX kX
  have bX := FX.binds (ps := ["self", "found"]) fun _ _ _ _ _ _ us hl => match us, hl with | [_, _], _ => rfl
  have OX : OexC K CX := ⟨⟨_, _, _, _, _, _, _, _, _, _, _, _, _, _, _, xX, veX⟩, saX, eCX, tCX, kCX⟩
  have TX : ExT K mg "NoText" CX fX _ := ⟨PySem.W.mg_of X G aX, OX, iX, tX, nfX, ⟨gaX, ggX, eCX, hCX⟩, bX⟩
  have EX : Exm7 K CT CX := ⟨PySem.W.exm_ref eCT hCT tCT uTT, PySem.W.exm_ref eCT hCT tCT uXT, PySem.W.exm_ref eCX hCX tCX uXX⟩
  have misinstance := PySem.W.mg_none_of X G zisinstance
  have mint := PySem.W.mg_none_of X G zint
  have mbool := PySem.W.mg_none_of X G zbool
  have mlist := PySem.W.mg_none_of X G zlist
  have mtuple := PySem.W.mg_none_of X G ztuple
  have mrange := PySem.W.mg_none_of X G zrange
  have mlen := PySem.W.mg_none_of X G zlen
  have mall := PySem.W.mg_none_of X G zall
  have mValueError := PySem.W.mg_none_of X G zValueError
  have mmax := PySem.W.mg_none_of X G zmax
  have mmin := PySem.W.mg_none_of X G zmin
  have mrepr := PySem.W.mg_none_of X G zrepr
  have mzip := PySem.W.mg_none_of X G zzip
  have mstr := PySem.W.mg_none_of X G zstr
  have menumerate := PySem.W.mg_none_of X G zenumerate
  refine ⟨PySem.W.fnOf "law" "law" (defArgs sLaw) (defBody sLaw) (defScope sLaw) .none kVla dcla pmla anla (.ref ccla) ctla, [(ccla, Pla), (ccod, Pod)], spLaw K [(Pla, qLaw), (Pod, qOd)], fun p hp => ?_, fun s v => .of_eq rfl, fun H a ns ht hS => ⟨a, ns, rfl, hS, fun p hp => ?_, fun _ => rfl⟩, fun base _ _ htb => ?_⟩
  · simp only [List.mem_cons, List.not_mem_nil, or_false] at hp
    rcases hp with rfl | rfl
    · exact ⟨tAla, nTla, CHla⟩
    · exact ⟨tAod, nTod, CHod⟩
  · simp only [List.mem_cons, List.not_mem_nil, or_false] at hp
    rcases hp with rfl | rfl
    · exact TabS.nil (ht (ccla, Pla) (by simp))
    · exact TabS.nil (ht (ccod, Pod) (by simp))
  have BT : BaseT l.prog w K mg base (.type "type") CF fF _ := ⟨PySem.W.mg_of X G aF, ⟨rF, gF⟩, vF, kF, bF, ok_FE FF mValueError vV⟩
  have Gnb : FnOk l.prog w K mg base CX0 1 fnb _ _ _ := ok_num Fnb misinstance mint mbool
  have Gwh : FnOk l.prog w K mg base CX0 2 fwh _ _ _ := ok_whole Fwh Dnb Gnb
  have Gna : FnOk l.prog w K mg base CX0 2 fna _ _ _ := ok_name Fna misinstance mstr mlen mall
  have Gwi : FnOk l.prog w K mg base CX0 3 fwi _ _ _ := ok_width Fwi Dwh Gwh
  have Gtr : FnOk l.prog w K mg base CX0 3 ftr _ _ _ := ok_truth Ftr Dwh Gwh
  have Gki : FnOk l.prog w K mg base CX0 4 fki _ _ _ := ok_kind Fki Dwi Gwi Dwh Gwh misinstance mtuple mlen
  have Ggr : FnOk l.prog w K mg base CX0 2 fgr _ _ _ := ok_great Fgr
  have Gwo : FnOk l.prog w K mg base CX0 3 fwo _ _ _ := ok_worthOf Fwo Dwh Gwh Dgr Ggr
  have Gar : FnOk l.prog w K mg base CX0 4 far _ _ _ := ok_are Far Dwo Gwo mall
  have Giw : FnOk l.prog w K mg base CX0 5 fiw _ _ _ := ok_isWorth Fiw Dki Gki Dwo Gwo Dar Gar misinstance mtuple mlen
  have Gnn : FnOk l.prog w K mg base CX0 3 fnn _ _ _ := ok_node Fnn Dna Gna misinstance mstr mlen mall
  have SM : Sml l.prog w K mg base fwh fwi ftr fna fki fnn _ _ _ _ _ _ := ⟨Dwh, Gwh, Dwi, Gwi, Dtr, Gtr, Dna, Gna, Dki, Gki, Dnn, Gnn, misinstance, mtuple, mstr, mlen, mall, mzip, mlist⟩
  have Gfi : FnOk l.prog w K mg base CX0 5 ffi _ _ _ := ok_fits Ffi TB SM
  have Gfo : FnOk l.prog w K mg base CX0 6 ffo _ _ _ := ok_formed Ffo TB SM Dfi Gfi Diw Giw
  have Gic : FnOk l.prog w K mg base CX0 2 fic _ _ _ := ok_call Fic TB
  have Gtw : FnOk l.prog w K mg base CX0 2 ftw _ _ _ := ok_within Ftw TB mzip
  have Gat : FnOk l.prog w K mg base CX0 7 fat _ _ _ := ok_areTerms Fat Dfo Gfo Dic Gic Dtw Gtw mlist
  have Git : FnOk l.prog w K mg base CX0 8 fit _ _ _ := ok_isTerm Fit Dat Gat
  have GT : FnOk l.prog w K mg base CX0 3 fT _ _ _ := ok_NT FT BT OT nfT
  have GX : FnOk l.prog w K mg base CX0 3 fX _ _ _ := ok_NX FX BT OX nfX
  have Gno : FnOk l.prog w K mg base CX0 1 fno _ _ _ := ok_no Fno (PySem.W.mg_of X G gdM) mlen mall mint
  have Gwt : FnOk l.prog w K mg base CX0 2 fwt _ _ _ := ok_wo Fwt Dno Gno mlen mtuple
  have Gkt : FnOk l.prog w K mg base CX0 2 fkt _ _ _ := ok_ko Fkt Dno Gno mlen mtuple
  have Gsl : FnOk l.prog w K mg base CX0 3 fsl _ _ _ := ok_sl Fsl Dno Gno Dwt Gwt Dkt Gkt (PySem.W.mg_of X G gdN) sdNt misinstance mtuple mstr mlist
  have Gcl : FnOk l.prog w K mg base CX0 4 fcl _ _ _ := ok_cl Fcl TB Dsl Gsl misinstance mtuple mstr mlen mzip
  have Gro : FnOk l.prog w K mg base CX0 5 fro _ _ _ := ok_ro Fro Dcl Gcl mlen mrange
  have Grt : FnOk l.prog w K mg base (CXL l.prog w) 9 frt _ _ _ := ok_rt Frt TX GX Dro Gro Dit Git misinstance mstr mlen
  have Gbr : FnOk l.prog w K mg base CX0 1 fbr _ _ _ := ok_br Fbr
  have Gww : FnOk l.prog w K mg base CX0 1 fww _ _ _ := ok_ww Fww misinstance mtuple mstr
  have Gwk : FnOk l.prog w K mg base CX0 1 fwk _ _ _ := ok_wk Fwk misinstance mtuple mstr
  have Gwr : FnOk l.prog w K mg base CX0 23 fwr _ _ (spWr 20) := ok_wr Fwr Dwr TB Dbr Gbr Dwk Gwk Dww Gww mstr mzip 20
  have Gtt : FnOk l.prog w K mg base (CXL l.prog w) 24 ftt _ _ _ := ok_tt Ftt TT GT Dwr Gwr Dit Git
  have Gce : FnOk l.prog w K mg base CX0 1 fce _ _ _ := ok_cell Fce mlen
  have Gbo : FnOk l.prog w K mg base CX0 1 fbo _ _ _ := ok_purse Fbo mmax
  have Gta : FnOk l.prog w K mg base CX0 1 fta _ _ _ := ok_take Fta
  have Gln : FnOk l.prog w K mg base CX0 2 fln _ _ _ := ok_lname Fln Dta Gta mrange
  have Glk : FnOk l.prog w K mg base CX0 2 flk _ _ _ := ok_lkind Flk Dta Gta
  have Glw : FnOk l.prog w K mg base CX0 2 flw _ _ _ := ok_lworth Flw Dta Gta misinstance mtuple mrange
  have MK : Mkr l.prog w K mg base fta fln flk flw _ _ _ _ := ⟨Dta, Gta, Dln, Gln, Dlk, Glk, Dlw, Glw⟩
  have Glm : FnOk l.prog w K mg base CX0 11 flm _ _ (spTm 8) := ok_ltm Flm Dlm MK mmin mint mtuple mrange 8
  have Glx : FnOk l.prog w K mg base CX0 11 flx _ _ (spLX 8) := ok_ltx Flx Dlx mstr misinstance mtuple 8
  have Gbl : FnOk l.prog w K mg base CX0 2 fbl _ _ _ := ok_bl Fbl Dta Gta
  have Gsp : FnOk l.prog w K mg base CX0 2 fsp _ _ _ := ok_sp Fsp Dta Gta mlen menumerate
  have Gne : FnOk l.prog w K mg base CX0 2 fne _ _ _ := ok_ne Fne Dta Gta mlen
  have Gc1 : FnOk l.prog w K mg base CX0 26 fca _ _ (spCa qOd (lamA lam1) (lamB lam1) (lamS lam1) (spTText CT) CT "term") := ok_ca Fca TT TX EX (lam1_ok Dtt Gtt qOd) (.inl ⟨rfl, rfl⟩)
  have Gc2 : FnOk l.prog w K mg base CX0 11 fca _ _ (spCa qOd (lamA lam2) (lamB lam2) (lamS lam2) (spRead CX) CX "text") := ok_ca Fca TT TX EX (lam2_ok Drt Grt qOd) (.inr ⟨rfl, rfl⟩)
  have Gc3 : FnOk l.prog w K mg base CX0 11 fca _ _ (spCa qLaw (lamA lam3) (lamB lam3) (lamS lam3) (spRead CX) CX "text") := ok_ca Fca TT TX EX (lam3_ok Drt Grt qLaw) (.inr ⟨rfl, rfl⟩)
  have God : FnG l.prog w K mg base CX0 27 fod _ _ (spOd [(Pla, qLaw), (Pod, qOd)]) := ok_od COD Dta Gta Dca Gc1 Gc2 (htb (ccod, Pod) (by simp)) (by simp) (fun p hp e => by
    simp only [List.mem_cons, List.not_mem_nil, or_false] at hp
    rcases hp with rfl | rfl
    · exact absurd e nPP
    · rfl) misinstance mlist mrepr
  exact ok_law (T := [(Pla, qLaw), (Pod, qOd)]) (cT := CT) (cX := CX) CLA ⟨Dta, Gta, Dce, Gce, Dbo, Gbo, Dlm, Glm, Dlx, Glx, Dbl, Gbl, Dsp, Gsp, Dne, Gne, Dod, God, Dca, Gc3, Dtt, Gtt, Drt, Grt⟩ (htb (ccla, Pla) (by simp)) (by simp) (fun p hp e => by
    simp only [List.mem_cons, List.not_mem_nil, or_false] at hp
    rcases hp with rfl | rfl
    · rfl
    · exact absurd e.symm nPP) mlen mmax mmin mint mrange mrepr
end K7
end Bf

open PySem PySem.W PyProof.Rows in
set_option maxRecDepth 100000 in
set_option maxHeartbeats 0 in
theorem PySem.Challenge.cw_beatflows_k73_terms_as_texts_holds : PySem.Challenge.rw_beatflows_k73_terms_as_texts.Holds := by
  w_on; o_law; k_head; (case hw => w_witness2)
  k_fill
  refine Bf.walkGT (l := PySem.Challenge.rw_beatflows_k73_terms_as_texts) (n := 63) (k := 28) (x := "_law_script") (names := ["law", "_law_odd_right"]) (by decide +kernel) rfl (by decide) rfl ⟨rfl, by decide, by decide⟩ (fun w h Y => PySem.W.km_in_of Y) ?F
  case F =>
    intro w mg fa h Y KX G hmg tabs
    refine' Bf.K7.all_mk KX G hmg tabs ?zz_anb ?zz_lnb ?zz_cnb ?zz_knb ?zz_awh ?zz_lwh ?zz_cwh ?zz_kwh ?zz_ana ?zz_lna ?zz_cna ?zz_kna ?zz_awi ?zz_lwi ?zz_cwi ?zz_kwi ?zz_atr ?zz_ltr ?zz_ctr ?zz_ktr ?zz_aki ?zz_lki ?zz_cki ?zz_kki ?zz_aiw ?zz_liw ?zz_ciw ?zz_kiw ?zz_agr ?zz_lgr ?zz_cgr ?zz_kgr ?zz_awo ?zz_lwo ?zz_cwo ?zz_kwo ?zz_aar ?zz_lar ?zz_car ?zz_kar ?zz_ait ?zz_lit ?zz_cit ?zz_kit ?zz_ann ?zz_lnn ?zz_cnn ?zz_knn ?zz_aic ?zz_lic ?zz_cic ?zz_kic ?zz_aat ?zz_lat ?zz_cat ?zz_kat ?zz_afo ?zz_lfo ?zz_cfo ?zz_kfo ?zz_afi ?zz_lfi ?zz_cfi ?zz_kfi ?zz_atw ?zz_ltw ?zz_ctw ?zz_ktw ?zz_aro ?zz_lro ?zz_cro ?zz_kro ?zz_ano ?zz_lno ?zz_cno ?zz_kno ?zz_awt ?zz_lwt ?zz_cwt ?zz_kwt ?zz_akt ?zz_lkt ?zz_ckt ?zz_kkt ?zz_acl ?zz_lcl ?zz_ccl ?zz_kcl ?zz_asl ?zz_lsl ?zz_csl ?zz_ksl ?zz_awr ?zz_lwr ?zz_cwr ?zz_kwr ?zz_aww ?zz_lww ?zz_cww ?zz_kww ?zz_abr ?zz_lbr ?zz_cbr ?zz_kbr ?zz_awk ?zz_lwk ?zz_cwk ?zz_kwk ?zz_att ?zz_ltt ?zz_ctt ?zz_ktt ?zz_art ?zz_lrt ?zz_crt ?zz_krt ?zz_ace ?zz_lce ?zz_cce ?zz_kce ?zz_abo ?zz_lbo ?zz_cbo ?zz_kbo ?zz_ata ?zz_lta ?zz_cta ?zz_kta ?zz_aln ?zz_lln ?zz_cln ?zz_kln ?zz_alk ?zz_llk ?zz_clk ?zz_klk ?zz_alw ?zz_llw ?zz_clw ?zz_klw ?zz_alm ?zz_llm ?zz_clm ?zz_klm ?zz_alx ?zz_llx ?zz_clx ?zz_klx ?zz_abl ?zz_lbl ?zz_cbl ?zz_kbl ?zz_asp ?zz_lsp ?zz_csp ?zz_ksp ?zz_ane ?zz_lne ?zz_cne ?zz_kne ?zz_aca ?zz_lca ?zz_cca ?zz_kca ?zz_aod ?zz_lod ?zz_cod ?zz_kod ?zz_ala ?zz_lla ?zz_cla ?zz_kla ?zz_tla ?zz_tod ?zz_dPP ?zz_gdF ?zz_ldF ?zz_ydF ?zz_lowdF ?zz_wdF ?zz_lqdF0t ?zz_lqdF1t ?zz_lqdF2t ?zz_lqdF3t ?zz_lqdF4t ?zz_lqdF5t ?zz_lqdF6t ?zz_lqdF7t ?zz_lqdF8t ?zz_lqdF9t ?zz_lqdF10t ?zz_lqdF11t ?zz_lqdF12t ?zz_lqdF13t ?zz_lqdF14t ?zz_lqdF15t ?zz_lqdF16t ?zz_lqdF17t ?zz_lqdF18t ?zz_lqdF19t ?zz_lqdF20t ?zz_lqdF21t ?zz_lqdF22t ?zz_gdS ?zz_ldS ?zz_ydS ?zz_lowdS ?zz_wdS ?zz_lqdS0t ?zz_lqdS1t ?zz_lqdS2t ?zz_gdC ?zz_ldCt ?zz_gdN ?zz_ldNt ?zz_gdM ?zz_aF ?zz_rF ?zz_gF ?zz_vF ?zz_lF ?zz_cF ?zz_kF ?zz_vV ?zz_aT ?zz_xT ?zz_veT ?zz_saT ?zz_gaT ?zz_ggT ?zz_nfT ?zz_iT ?zz_tT ?zz_lT ?zz_cT ?zz_kT ?zz_kCT ?zz_eCT ?zz_tCT ?zz_hCT ?zz_aX ?zz_xX ?zz_veX ?zz_saX ?zz_gaX ?zz_ggX ?zz_nfX ?zz_iX ?zz_tX ?zz_lX ?zz_cX ?zz_kX ?zz_kCX ?zz_eCX ?zz_tCX ?zz_hCX ?zz_uTT ?zz_uXT ?zz_uXX ?zz_zisinstance ?zz_zint ?zz_zbool ?zz_zlist ?zz_ztuple ?zz_zrange ?zz_zlen ?zz_zall ?zz_zValueError ?zz_zmax ?zz_zmin ?zz_zrepr ?zz_zzip ?zz_zstr ?zz_zenumerate
    (case zz_anb => k_is)
    (case zz_lnb => k_is)
    (case zz_cnb => k_is)
    (case zz_knb => k_is)
    (case zz_awh => k_is)
    (case zz_lwh => k_is)
    (case zz_cwh => k_is)
    (case zz_kwh => k_is)
    (case zz_ana => k_is)
    (case zz_lna => k_is)
    (case zz_cna => k_is)
    (case zz_kna => k_is)
    (case zz_awi => k_is)
    (case zz_lwi => k_is)
    (case zz_cwi => k_is)
    (case zz_kwi => k_is)
    (case zz_atr => k_is)
    (case zz_ltr => k_is)
    (case zz_ctr => k_is)
    (case zz_ktr => k_is)
    (case zz_aki => k_is)
    (case zz_lki => k_is)
    (case zz_cki => k_is)
    (case zz_kki => k_is)
    (case zz_aiw => k_is)
    (case zz_liw => k_is)
    (case zz_ciw => k_is)
    (case zz_kiw => k_is)
    (case zz_agr => k_is)
    (case zz_lgr => k_is)
    (case zz_cgr => k_is)
    (case zz_kgr => k_is)
    (case zz_awo => k_is)
    (case zz_lwo => k_is)
    (case zz_cwo => k_is)
    (case zz_kwo => k_is)
    (case zz_aar => k_is)
    (case zz_lar => k_is)
    (case zz_car => k_is)
    (case zz_kar => k_is)
    (case zz_ait => k_is)
    (case zz_lit => k_is)
    (case zz_cit => k_is)
    (case zz_kit => k_is)
    (case zz_ann => k_is)
    (case zz_lnn => k_is)
    (case zz_cnn => k_is)
    (case zz_knn => k_is)
    (case zz_aic => k_is)
    (case zz_lic => k_is)
    (case zz_cic => k_is)
    (case zz_kic => k_is)
    (case zz_aat => k_is)
    (case zz_lat => k_is)
    (case zz_cat => k_is)
    (case zz_kat => k_is)
    (case zz_afo => k_is)
    (case zz_lfo => k_is)
    (case zz_cfo => k_is)
    (case zz_kfo => k_is)
    (case zz_afi => k_is)
    (case zz_lfi => k_is)
    (case zz_cfi => k_is)
    (case zz_kfi => k_is)
    (case zz_atw => k_is)
    (case zz_ltw => k_is)
    (case zz_ctw => k_is)
    (case zz_ktw => k_is)
    (case zz_aro => k_is)
    (case zz_lro => k_is)
    (case zz_cro => k_is)
    (case zz_kro => k_is)
    (case zz_ano => k_is)
    (case zz_lno => k_is)
    (case zz_cno => k_is)
    (case zz_kno => k_is)
    (case zz_awt => k_is)
    (case zz_lwt => k_is)
    (case zz_cwt => k_is)
    (case zz_kwt => k_is)
    (case zz_akt => k_is)
    (case zz_lkt => k_is)
    (case zz_ckt => k_is)
    (case zz_kkt => k_is)
    (case zz_acl => k_is)
    (case zz_lcl => k_is)
    (case zz_ccl => k_is)
    (case zz_kcl => k_is)
    (case zz_asl => k_is)
    (case zz_lsl => k_is)
    (case zz_csl => k_is)
    (case zz_ksl => k_is)
    (case zz_awr => k_is)
    (case zz_lwr => k_is)
    (case zz_cwr => k_is)
    (case zz_kwr => k_is)
    (case zz_aww => k_is)
    (case zz_lww => k_is)
    (case zz_cww => k_is)
    (case zz_kww => k_is)
    (case zz_abr => k_is)
    (case zz_lbr => k_is)
    (case zz_cbr => k_is)
    (case zz_kbr => k_is)
    (case zz_awk => k_is)
    (case zz_lwk => k_is)
    (case zz_cwk => k_is)
    (case zz_kwk => k_is)
    (case zz_att => k_is)
    (case zz_ltt => k_is)
    (case zz_ctt => k_is)
    (case zz_ktt => k_is)
    (case zz_art => k_is)
    (case zz_lrt => k_is)
    (case zz_crt => k_is)
    (case zz_krt => k_is)
    (case zz_ace => k_is)
    (case zz_lce => k_is)
    (case zz_cce => k_is)
    (case zz_kce => k_is)
    (case zz_abo => k_is)
    (case zz_lbo => k_is)
    (case zz_cbo => k_is)
    (case zz_kbo => k_is)
    (case zz_ata => k_is)
    (case zz_lta => k_is)
    (case zz_cta => k_is)
    (case zz_kta => k_is)
    (case zz_aln => k_is)
    (case zz_lln => k_is)
    (case zz_cln => k_is)
    (case zz_kln => k_is)
    (case zz_alk => k_is)
    (case zz_llk => k_is)
    (case zz_clk => k_is)
    (case zz_klk => k_is)
    (case zz_alw => k_is)
    (case zz_llw => k_is)
    (case zz_clw => k_is)
    (case zz_klw => k_is)
    (case zz_alm => k_is)
    (case zz_llm => k_is)
    (case zz_clm => k_is)
    (case zz_klm => k_is)
    (case zz_alx => k_is)
    (case zz_llx => k_is)
    (case zz_clx => k_is)
    (case zz_klx => k_is)
    (case zz_abl => k_is)
    (case zz_lbl => k_is)
    (case zz_cbl => k_is)
    (case zz_kbl => k_is)
    (case zz_asp => k_is)
    (case zz_lsp => k_is)
    (case zz_csp => k_is)
    (case zz_ksp => k_is)
    (case zz_ane => k_is)
    (case zz_lne => k_is)
    (case zz_cne => k_is)
    (case zz_kne => k_is)
    (case zz_aca => k_is)
    (case zz_lca => k_is)
    (case zz_cca => k_is)
    (case zz_kca => k_is)
    (case zz_aod => k_is)
    (case zz_lod => k_is)
    (case zz_cod => k_is)
    (case zz_kod => k_is)
    (case zz_ala => k_is)
    (case zz_lla => k_is)
    (case zz_cla => k_is)
    (case zz_kla => k_is)
    (case zz_tla => first | rfl | k_is | kernel_rfl)
    (case zz_tod => first | rfl | k_is | kernel_rfl)
    (case zz_dPP => first | rfl | decide)
    (case zz_gdF => k_is)
    (case zz_ldF => k_is)
    (case zz_ydF => repeat (first | exact trivial | refine ⟨⟨_, _, rfl, rfl⟩, ?_⟩))
    (case zz_lowdF => rfl)
    (case zz_wdF => repeat (first | exact .nil | refine .cons rfl rfl ?_))
    (case zz_lqdF0t => k_is)
    (case zz_lqdF1t => k_is)
    (case zz_lqdF2t => k_is)
    (case zz_lqdF3t => k_is)
    (case zz_lqdF4t => k_is)
    (case zz_lqdF5t => k_is)
    (case zz_lqdF6t => k_is)
    (case zz_lqdF7t => k_is)
    (case zz_lqdF8t => k_is)
    (case zz_lqdF9t => k_is)
    (case zz_lqdF10t => k_is)
    (case zz_lqdF11t => k_is)
    (case zz_lqdF12t => k_is)
    (case zz_lqdF13t => k_is)
    (case zz_lqdF14t => k_is)
    (case zz_lqdF15t => k_is)
    (case zz_lqdF16t => k_is)
    (case zz_lqdF17t => k_is)
    (case zz_lqdF18t => k_is)
    (case zz_lqdF19t => k_is)
    (case zz_lqdF20t => k_is)
    (case zz_lqdF21t => k_is)
    (case zz_lqdF22t => k_is)
    (case zz_gdS => k_is)
    (case zz_ldS => k_is)
    (case zz_ydS => repeat (first | exact trivial | refine ⟨⟨_, _, rfl, rfl⟩, ?_⟩))
    (case zz_lowdS => rfl)
    (case zz_wdS => repeat (first | exact .nil | refine .cons rfl rfl ?_))
    (case zz_lqdS0t => k_is)
    (case zz_lqdS1t => k_is)
    (case zz_lqdS2t => k_is)
    (case zz_gdC => k_is)
    (case zz_ldCt => k_is)
    (case zz_gdN => k_is)
    (case zz_ldNt => k_is)
    (case zz_gdM => k_is)
    (case zz_aF => k_is)
    (case zz_rF => k_is)
    (case zz_gF => k_is)
    (case zz_vF => k_is)
    (case zz_lF => k_is)
    (case zz_cF => k_is)
    (case zz_kF => k_is)
    (case zz_vV => k_is)
    (case zz_aT => k_is)
    (case zz_xT => k_is)
    (case zz_veT => first | rfl | decide +kernel)
    (case zz_saT => k_is)
    (case zz_gaT => k_is)
    (case zz_ggT => k_is)
    (case zz_nfT => k_is)
    (case zz_iT => k_is)
    (case zz_tT => k_is)
    (case zz_lT => k_is)
    (case zz_cT => k_is)
    (case zz_kT => k_is)
    (case zz_kCT => k_is)
    (case zz_eCT => k_is)
    (case zz_tCT => k_is)
    (case zz_hCT => k_is)
    (case zz_aX => k_is)
    (case zz_xX => k_is)
    (case zz_veX => first | rfl | decide +kernel)
    (case zz_saX => k_is)
    (case zz_gaX => k_is)
    (case zz_ggX => k_is)
    (case zz_nfX => k_is)
    (case zz_iX => k_is)
    (case zz_tX => k_is)
    (case zz_lX => k_is)
    (case zz_cX => k_is)
    (case zz_kX => k_is)
    (case zz_kCX => k_is)
    (case zz_eCX => k_is)
    (case zz_tCX => k_is)
    (case zz_hCX => k_is)
    (case zz_uTT => first | k_is | rfl)
    (case zz_uXT => first | k_is | rfl)
    (case zz_uXX => first | k_is | rfl)
    (case zz_zisinstance => k_is)
    (case zz_zint => k_is)
    (case zz_zbool => k_is)
    (case zz_zlist => k_is)
    (case zz_ztuple => k_is)
    (case zz_zrange => k_is)
    (case zz_zlen => k_is)
    (case zz_zall => k_is)
    (case zz_zValueError => k_is)
    (case zz_zmax => k_is)
    (case zz_zmin => k_is)
    (case zz_zrepr => k_is)
    (case zz_zzip => k_is)
    (case zz_zstr => k_is)
    (case zz_zenumerate => k_is)
