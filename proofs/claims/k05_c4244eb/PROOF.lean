import PyProof.Rows.All
import Wide.All
import OpenK.AllK
import Wide.FinOn
import HandS.ForMost
import HandS.ForExc
import HandS.ExcInit
import HandS.ExcField
import HandS.IsInst
import HandS.ClsMeth
import HandS.ForSpec
import KE.GoesMore
import HandS.Style
import HandS.TupAny
import HandS.Zip
import HandS.MakeKwOnly
import KE.DataCmp
import HandS.CallSlots
import HandS.More
import HandS.Proxy
import PyProof.NeData
import HandS.NoneIn
import HandS.DictComp
import HandS.CallLocal
import HandS.Conv
import HandS.Star
import PyProof.StrOps2
import HandS.WideBits
import HandS.Text
import PyProof.ReprLen
import PyProof.Rows.ReprOcc
import PyProof.FitsReplace
import HandS.Walk
import HandS.Evl
import PyProof.StrLawsChain
import PyProof.P3Eq
import PyProof.ReprDict
import HandS.ExcIs
import PySem.Challenge.RW_beatflows_k05_names_in_terms
set_option Elab.async false
set_option maxRecDepth 100000

/-! Own rules over the hand layer, for all laws of this program: calls by keywords alone, a base's __init__ by its class's name, several except clauses with names, repr of data. -/
namespace Bf
open PySem PySem.Spec PyProof.Rows L2

/-! ### f(k = v, ..) -/
section
variable {X : Cx} {CX : CXT} {k : Nat} {f : Addr} {fd : FuncData} {ps ks : List Str} {sp : Sp} {E : XK} {x : Str} {p pos : Pos} {kws : List Keyword} {tk : TA}
  {g : List Value → List Value → List Value} {gV : List V → List V → List V}
def tKw (sp : Sp) (gV : List V → List V → List V) (E : XK) (tk : TA) : TE := fun σ H Q => tk σ H fun zs H2 => sp (gV [] zs) H2 Q E
theorem pe_kw (F : FnOk X.prog X.w X.K X.mg X.base CX k f fd ps sp) (hr : Room k X.A) (hg : Gl X x) (hm : X.mg x = some (.ref f))
    (hk : PySem.W.keepIn X.K (.ref f) = true) (hb : KBinds X.K fd ps ks g gV) (hx : Passes CX X E) (hkw : PK X kws tk)
    (h1 : (backToKw pos (keywordEach kws X.env)).all (·.1.isSome) = true := by rfl)
    (h2 : (backToKw pos (keywordEach kws X.env)).filterMap (·.1) = ks := by rfl)
    (h3 : (x == ("__debug__" : Str)) = false := by decide)
    (h4 : ((backTo pos (starEach [] X.env)).any (·.1) || (backToKw pos (keywordEach kws X.env)).any (·.1.isNone)) = false := by rfl) :
    PE X (.Call (.Name x p) [] kws pos) (tKw sp gV E tk) := ⟨fun pins s σ H Q I h => by
  refine wpAny_Call_Name_kw (ld_glob I hg hm (PySem.W.callWith_KW0 (h₀ := X.base) I.ok.mod.kin hk h1 (thn (hkw.run pos pins s σ H _ I h) ?_) h4) h3)
  intro ws s2 q
  obtain ⟨zs, H2, I2, rz, q2⟩ := q
  refine ⟨I2.kIn, ?_⟩
  rw [h2]
  exact run_fnk (us := []) (vs := []) F hr hb hx I2 .nil rz q2⟩
end

/-! ### C.m(e, ..), C a class of the text, m a def of it -/
section
variable {X : Cx} {CX : CXT} {k : Nat} {f C : Addr} {fd : FuncData} {ps : List Str} {sp : Sp} {E : XK} {x m : Str} {p1 p2 pos : Pos} {e : Expr} {es : List Expr} {t : TA} {mc : Value}
theorem pe_clsFn {pl : Sem Bool} (F : FnOk X.prog X.w X.K X.mg X.base CX k f fd ps sp) (hr : Room k X.A) (hg : Gl X x) (hm : X.mg x = some (.ref C))
    (rd : ClX.CRead X.K C mc) (va : PySem.W.findCls X.K (.ref C) mc m = some (.val (.ref f))) (hk : PySem.W.keepIn X.K (.ref f) = true) (hb : Binds X.K fd ps []) (hx : Passes CX X E) (ha : PA X (e :: es) t)
    (hc : eval (.Call (.Attribute (.Name x p1) m p2) (e :: es) [] pos) X.env = (do
      let ov ← eval (.Name x p1) X.env
      standAt p2.atName
      let (g, first) ← holding [ov] (getMethod ov m pl)
      callWith pos g first (backTo pos (starEach (e :: es) X.env)) (backToKw pos (keywordEach [] X.env))) := by rfl)
    (hdb : (x == ("__debug__" : Str)) = false := by decide)
    (he : starEach (e :: es) X.env = (false, eval e X.env) :: starEach es X.env := by rfl) (hpl : (backTo pos (starEach es X.env)).any (·.1) = false := by rfl) :
    PE X (.Call (.Attribute (.Name x p1) m p2) (e :: es) [] pos) (tCall sp [] E t) := ⟨fun pins s σ H Q I h => by
  refine PySem.W.methodCall_KW (ld_glob I hg hm ?_ hdb) hc
  refine PySem.W.method_cls I.kIn rd.ga (PySem.W.cls_value I.kIn rd.rd va rfl ?_)
  have I' := I.tok (X := X) (s.toks + 1)
  exact PySem.W.callWith_K (h₀ := X.base) I.ok.mod.kin hk (thn (ha.run pos pins _ σ H _ I' h) fun us s1 ⟨vs, H1, I1, r, q⟩ => ⟨I1.kIn, run_fn F hr hb .nil hx I1 r q⟩) he hpl⟩
end

/-! ### try: body, several clauses «except C as n: suite»; what follows them is never reached -/
structure Arm where
  c : Value
  i : Nat
  ts : Addr → Value → Option Addr → TS
/-- behind a suite the clause's name is gone -/
def Gone (i : Nat) (D : Ends) : Ends where
  nx := fun σ H => D.nx (σ.set i none) H
  rt := D.rt
  bk := fun σ H => D.bk (σ.set i none) H
  ct := fun σ H => D.ct (σ.set i none) H
def wArms (K : PySem.W.Frag) (D : Ends) : List Arm → WX
  | [] => fun _ _ _ _ => False
  | m :: r => fun cls d σ H => ∃ b, PySem.W.exmOne K cls m.c = some b ∧ (b = true → ∀ a, H a = none → m.ts a cls d (Gone m.i D) (σ.set m.i (some (.ref a))) H) ∧ (b = false → wArms K D r cls d σ H)
inductive Arms (X : Cx) : List ExceptHandler → List Arm → Prop
  | nil {hds : List ExceptHandler} : Arms X hds []
  | cons {x n : Str} {c : Value} {i : Nat} {ts : Addr → Value → Option Addr → TS} {b0 : Stmt} {suite : List Stmt} {np pos' : Pos} {hds : List ExceptHandler} {l : List Arm}
      (hc : Names X x c) (hi : X.N[i]? = some n) (hl : X.env.kindOf n = some .local)
      (hsu : ∀ (a : Addr) (oe : Obj) (cls : Value) (d : Option Addr) (pn : List (Addr × Obj)), Zc cls d oe → (∃ vs, oe.data = .fields vs) → PSs (X.suite a ((a, oe) :: pn)) (b0 :: suite) (ts a cls d))
      (r : Arms X hds l) : Arms X (.ExceptHandler (some (.Name x np)) (some n) (b0 :: suite) pos' :: hds) (⟨c, i, ts⟩ :: l)

section
variable {X : Cx} {pins : List (Addr × Obj)} {σ : L2.St} {H : Hp} {sI s' : Shared} {B : Heap} {a : Addr} {cls : Value} {d : Option Addr} {D : Ends}
/-- an exception noted and landed meets the clauses -/
theorem arms_go (hs : X.stack = X.env :: X.outer) (hf : X.env.frame = some X.env.locals) (hN : X.N.Nodup) (J : L2.Inv X pins σ H sI) (na : H a = none)
    (nb : ∀ b o, sI.heap.get? b = some o → b ∉ frs X.stack → B.get? b = some o) (os : s'.os = sI.os) (ag : AllBare s'.gens) (up : sI.heap.UpToSlots s'.heap)
    (fl : HandSPX.FlyingZ B (X.env :: X.outer) a (Zc cls d) s'.heap) {hds : List ExceptHandler} {l : List Arm} (hh : Arms X hds l) (w : wArms X.K D l cls d σ H) :
    wpAny (model X.prog X.w) X.A (handleBy (.ref a) X.env hds) (SP X pins D) X.xe s' := by
  induction hh with
  | nil => exact w.elim
  | @cons x n c i ts b0 suite np pos' hds' l' hc hi hl hsu r ih =>
    obtain ⟨b, hb, yes, no⟩ := w
    -- what stands in the heap of the exception, wherever it has landed
    have site : ∀ {h : Heap}, HandSPX.FlyingZ B (X.env :: X.outer) a (Zc cls d) h → sI.heap.UpToSlots h →
        ∃ oe vs, h.get? a = some oe ∧ Zc cls d oe ∧ oe.data = .fields vs ∧ L2.Inv (X.suite a ((a, oe) :: (X.pn ++ pins))) [] σ H { s' with heap := h } := fun {h} z u => by
      obtain ⟨oe, vs, e1, e2, e3⟩ := z.there
      have nofr : a ∉ frs (X.env :: X.outer) := fun hm => by
        obtain ⟨_, o', e', hnf⟩ := z.2.2.1.mem hm
        rw [e1] at e'
        cases e'
        exact hnf _ e3
      refine ⟨oe, vs, e1, e2, e3, (J.landed (s' := { s' with heap := h }) nb z.1 u os ag).suite e1 e3 na (fun z => nofr (List.mem_filterMap.mpr ⟨X.env, List.mem_cons_self, by rw [hf, z]⟩)) fun hm => nofr ?_⟩
      obtain ⟨e, he, q⟩ := List.mem_filterMap.mp hm
      exact List.mem_filterMap.mpr ⟨e, List.mem_cons_of_mem _ he, q⟩
    obtain ⟨oe, vs, e1, e2, e3, S⟩ := site fl up
    refine wpAny_handleBy_cons (codeAny_handlers_test ?_) (fun q => nomatch q)
    have ty : PySem.W.Looks (model X.prog X.w) s'.heap (typeOf (.ref a)) cls := fun A Q E s k q => wpAny_typeOf_ref (k _ _ e1) (by rw [e2.1]; exact q)
    have mt := PySem.W.exm_one (M := model X.prog X.w) S.kIn ty hb
    have nm : ∀ {Q : Value → Shared → Prop} {E : Value → Shared → Prop}, Q c s' → wpAny (model X.prog X.w) (X.A.mark (some (.ref a))) (eval (.Name x np) X.env) Q E s' := fun {Q E} q =>
      hc.2.2.elim (fun hm => ld_glob (X := X.suite a ((a, oe) :: (X.pn ++ pins))) S hc.1 hm q hc.2.1) fun hm => ld_blt (X := X.suite a ((a, oe) :: (X.pn ++ pins))) S hc.1 hm.1 hm.2.1 q hm.2.2 hc.2.1
    refine nm (mt.here ?_)
    cases b with
    | false => exact ih (no rfl)
    | true =>
      refine codeAny_handlers_suite_as (HandSPX.lands_againZ fl fun h4 fl4 up4 => ?_)
      obtain ⟨oe4, vs4, g1, g2, g3, S4⟩ := site fl4 (up.trans up4)
      refine store_ok (X := X.suite a ((a, oe4) :: (X.pn ++ pins))) (v := .ref a) S4 hN hi (.inl hl) rfl (fun s5 S5 => ?_) (.inr hl)
      refine wpAny_mono ((hsu a oe4 cls d (X.pn ++ pins) g2 ⟨_, g3⟩).run [] s5 _ H _ S5 (yes rfl a na)) (fun f s6 sp => ?_) (fun _ _ z => z.elim)
      have fin : ∀ {σ6 : L2.St} {H6 : Hp} {R : Shared → Prop}, L2.Inv (X.suite a ((a, oe4) :: (X.pn ++ pins))) [] σ6 H6 s6 → (∀ s7, L2.Inv X pins (σ6.set i none) H6 s7 → R s7) →
          wpAny (model X.prog X.w) X.A (do bindName X.env n .none; unbindBehindTheSuite X.env n pos') (fun _ s7 => R s7) X.xe s6 := fun {_ _ _} S6 q => gone_ok (S6.unsuite J.ok) hN hi hl q
      cases f with
      | next => exact let ⟨_, _, S6, q6⟩ := sp; fin S6 fun _ J7 => ⟨_, _, J7, q6⟩
      | brk => exact let ⟨_, _, S6, q6⟩ := sp; fin S6 fun _ J7 => ⟨_, _, J7, q6⟩
      | cont => exact let ⟨_, _, S6, q6⟩ := sp; fin S6 fun _ J7 => ⟨_, _, J7, q6⟩
      | ret u => exact let ⟨_, _, _, S6, r6, q6⟩ := sp; fin S6 fun _ J7 => ⟨_, _, _, J7, r6, q6⟩
end
section
variable {X : Cx} {body : List Stmt} {h0 : ExceptHandler} {hds : List ExceptHandler} {l : List Arm} {pos : Pos} {tb : WX → TS}
theorem ps_arms (hs : X.stack = X.env :: X.outer) (hf : X.env.frame = some X.env.locals) (hN : X.N.Nodup)
    (hb : ∀ (W : WX) (pn : List (Addr × Obj)) (xe : Value → Shared → Prop), Takes (X.tr pn xe) W → PassesOwn (model X.prog X.w) X.A X.env xe → PSs (X.tr pn xe) body (tb W))
    (hh : Arms X (h0 :: hds) l) : PS X (.Try body (h0 :: hds) [] [] pos) (fun D σ H => tb (wArms X.K D l) D σ H) := ⟨fun pins s σ H D I h => by
  have fr : X.A.frames = some (X.env :: X.outer) := I.ok.frames.trans (by rw [hs])
  refine wpAny_Try_except (wpAny_mono ((hb (wArms X.K D l) (X.pn ++ pins) (fun e t1 => wpAny (model X.prog X.w) X.A (noteFrame e X.env) (fun _ t2 => wpAny (model X.prog X.w) X.A (setFlight e none)
    (fun _ t3 => wpAny (model X.prog X.w) X.A (handleBy e X.env (h0 :: hds)) (SP X pins D) X.xe t3) X.xe t2) X.xe t1) (fun u s' q => ?_) PassesOwn.looking).run [] s σ H D (I.toTry _) h) (fun f s1 q => ?_) fun _ _ z => z)
  · obtain ⟨a, B, sI, pins', σ', H', cls, d, rfl, J, nb, up, sky, na, os, ag, w⟩ := q
    refine Sky.land Zc.steady fr hf (show Sky B (X.env :: X.outer) a (Zc cls d) X.env.locals s'.heap from by rw [← hs]; exact sky) fun h3 fl up3 => ?_
    exact arms_go (s' := { s' with heap := h3 }) hs hf hN (J.ofTry I.ok) na nb os ag (up.trans up3) fl hh w
  · cases f with
    | next => exact let ⟨_, _, J, z⟩ := q; wpAny_execs_nil ⟨_, _, J.ofTry I.ok, z⟩
    | brk => exact let ⟨_, _, J, z⟩ := q; ⟨_, _, J.ofTry I.ok, z⟩
    | cont => exact let ⟨_, _, J, z⟩ := q; ⟨_, _, J.ofTry I.ok, z⟩
    | ret u => exact let ⟨_, _, _, J, r, z⟩ := q; ⟨_, _, _, J.ofTry I.ok, r, z⟩⟩
end
end Bf

/-! Own rules: defs that call repr. A repr asks that none is under way around it (Around.guards); the promise FnG is given under that. -/
namespace Bf
open PySem PySem.Spec PyProof.Rows L2

/-! ### promises where no repr is under way -/
structure FnG (P : Program) (w : World) (K : PySem.W.Frag) (mg : Str → Option Value) (base : Heap) (CX : CXT) (k : Nat) (f : Addr) (fd : FuncData) (ps : List Str) (sp : Sp) : Prop where
  len : ∀ vs H Q E, sp vs H Q E → vs.length = ps.length
  go : ∀ (A : Around) (outer : List Env) (s : Shared) (H : Hp) (args : Args) (us : List Value) (vs : List V) (Q : VK) (E : XK), A.guards = some [] → Room k A →
    Env0 P w K mg base A outer s H → BindsTo s fd args (ps.zip us) → Vals vs us → sp vs H Q E → codeAny (model P w) A (.call (.ref f) args) (CR CX outer P w H s Q E) s

section
variable {P : Program} {w : World} {K : PySem.W.Frag} {mg : Str → Option Value} {base : Heap} {CX : CXT}
theorem Fun.okG {x qual : Str} {st : Stmt} {f : Addr} {fd : FuncData} {N ps : List Str} {k : Nat} {sp : Sp} (F : Fun K x qual st f fd) (S : FnScope N ps (defScope st))
    (len : ∀ vs H Q E, sp vs H Q E → vs.length = ps.length)
    (hbody : ∀ (cdv : Value) (A : Around) (outer : List Env) (s : Shared) (H : Hp) (vs : List V) (Q : VK) (E : XK), A.guards = some [] → Room k (A.deeper (envOfC qual (defScope st) s.heap.objs.size f cdv)) → sp vs H Q E →
      ∃ t, PSs (cxOf CX P w K mg base N qual (defScope st) f cdv A outer s H E) (defBody st) t ∧ t { nx := fun _ H' => Q .non H', rt := Q } (start N vs) H) :
    FnG P w K mg base CX (k + 1) f fd ps sp := by
  obtain ⟨oc, od, kV, doc, pm, an, cdv, ct, osl, rfl, lk, hcd⟩ := F.ex
  refine ⟨len, fun A outer s H args us vs Q E hA hr e0 hb r hsp => ?_⟩
  have bk : ∀ b o, base.get? b = some o → s.heap.get? b = some o := fun b o e => (e0.bs b o e).1
  have KX := e0.mod.kin.keeps bk
  refine codeAny_call_function hr.depth (KX _ _ lk) rfl S.co S.gen rfl (PySem.W.codeRec_of KX hcd) (hb _ _ _ _ (wpAny_newFunctionEnv_cells S.kind (fun y hy => ?_) fun env he s1 x => ?_))
  · rcases S.par y.1 (List.of_mem_zip (show (y.1, y.2) ∈ _ from hy)).1 with q | q
    · exact .inl q
    · exact .inr ⟨q, PySem.W.cellsFrom_some _ _ _ (.inl q)⟩
  · cases he
    obtain ⟨t, ht, hq⟩ := hbody cdv A outer s H vs Q E hA (hr.deeper _) hsp
    refine ⟨(e0.mod.nolimit.keeps bk).keeps x.toInCall.keep, codeAny_func (wpAny_mono (ht.run [] s1 _ H _ (inv_start S hr.hd e0 (len _ _ _ _ hsp) r x) hq) (fun fl s' z => ?_) fun _ _ z => z)⟩
    cases fl with
    | next => exact let ⟨_, H', J, q⟩ := z; ⟨.non, H', J.os, J.bare, J.base, J.hok, rfl, q⟩
    | ret u => exact let ⟨v, _, H', J, rv, q⟩ := z; ⟨v, H', J.os, J.bare, J.base, J.hok, rv, q⟩
    | brk => exact let ⟨_, _, _, q⟩ := z; q.elim
    | cont => exact let ⟨_, _, _, q⟩ := z; q.elim
end
section
variable {X : Cx} {CX : CXT} {k : Nat} {f : Addr} {fd : FuncData} {ps : List Str} {sp : Sp} {E : XK} {x : Str} {p pos : Pos} {e : Expr} {es : List Expr} {t : TA}
theorem pe_callG (F : FnG X.prog X.w X.K X.mg X.base CX k f fd ps sp) (hA : X.A.guards = some []) (hr : Room k X.A) (hg : Gl X x) (hm : X.mg x = some (.ref f)) (hk : PySem.W.keepIn X.K (.ref f) = true)
    (hb : Binds X.K fd ps []) (hx : Passes CX X E) (ha : PA X (e :: es) t) (hdb : (x == ("__debug__" : Str)) = false := by decide)
    (he : starEach (e :: es) X.env = (false, eval e X.env) :: starEach es X.env := by rfl) (hpl : (backTo pos (starEach es X.env)).any (·.1) = false := by rfl) :
    PE X (.Call (.Name x p) (e :: es) [] pos) (tCall sp [] E t) := ⟨fun pins s σ H Q I h => by
  refine wpAny_Call_Name_kw (ld_glob I hg hm (PySem.W.callWith_K (h₀ := X.base) I.ok.mod.kin hk (thn (ha.run pos pins s σ H _ I h) fun us s1 ⟨vs, H1, I1, r, q⟩ => ⟨I1.kIn, ?_⟩) he hpl) hdb)
  have q : sp (vs ++ []) H1 Q E := q
  rw [List.append_nil] at q
  have hl : us.length = ps.length := r.length.symm.trans (F.len _ _ _ _ q)
  have bd : BindsTo s1 fd ⟨us, []⟩ (ps.zip us) := by
    have z := hb s1 us I1.kIn (by rw [List.append_nil]; exact hl)
    rw [List.append_nil] at z
    exact z
  refine wpAny_call (codeAny_mono (F.go X.A X.stack s1 H1 ⟨us, []⟩ us vs Q E hA hr I1.env0 bd r q) fun r s' hq => ?_)
  cases r with
  | error e => exact hx pins σ H1 s1 e s' I1 hq
  | ok fl =>
    cases fl with
    | ret u => exact I1.after hq
    | next => exact hq.elim
    | brk => exact hq.elim
    | cont => exact hq.elim⟩
end

/-! ### data as repr shows it -/
mutual
/-- x stands for the data d; every list, tuple and dict in it is tracked, at an address of which P holds; b: there may be an empty dict in it, then no list is the module table -/
inductive Sh (H : Hp) (P : Addr → Prop) (b : Bool) : V → PyData → Prop
  | non : Sh H P b .non .none
  | bl (c : Bool) : Sh H P b (.bl c) (.bool c)
  | int (i : Int) : Sh H P b (.int i) (.int i)
  | str (z : Str) : Sh H P b (.str z) (.str z)
  | lst {a : Addr} {xs : List V} {ds : List PyData} (h : H a = some (.lst xs)) (p : P a) (q : b = true → a ≠ sysModules) (r : ShAll H P b xs ds) : Sh H P b (.ref a) (.list ds)
  | tup {a : Addr} {xs : List V} {ds : List PyData} (h : H a = some (.tup xs)) (p : P a) (r : ShAll H P b xs ds) : Sh H P b (.ref a) (.tuple ds)
  | emp {a : Addr} (hb : b = true) (h : H a = some (.dK [])) (p : P a) : Sh H P b (.ref a) (.dict [])
inductive ShAll (H : Hp) (P : Addr → Prop) (b : Bool) : List V → List PyData → Prop
  | nil : ShAll H P b [] []
  | cons {v : V} {vs : List V} {d : PyData} {ds : List PyData} (h : Sh H P b v d) (r : ShAll H P b vs ds) : ShAll H P b (v :: vs) (d :: ds)
end

section
variable {X : Cx} {pins : List (Addr × Obj)} {σ : L2.St} {H : Hp} {s : Shared} {P : Addr → Prop} {b : Bool}
mutual
theorem Sh.reads (I : L2.Inv X pins σ H s) : ∀ (d : PyData) (v : V) (u : Value), Sh H P b v d → RelV v u → ∃ as, Reads s.heap u d as ∧ (b = true → ∀ a ∈ as, a ≠ sysModules)
  | .none, _, _, h, r => by
    cases h; cases r
    exact ⟨_, .none, fun _ _ z => nomatch z⟩
  | .bool c, _, _, h, r => by
    cases h; cases r
    exact ⟨_, .bool c, fun _ _ z => nomatch z⟩
  | .int i, _, _, h, r => by
    cases h; obtain ⟨t, rfl⟩ := r
    exact ⟨_, .int i t, fun _ _ z => nomatch z⟩
  | .str x, _, _, h, r => by
    cases h; obtain ⟨t, rfl⟩ := r
    exact ⟨_, .str x t, fun _ _ z => nomatch z⟩
  | .list ds, _, _, h, r => by
    cases h with
    | lst h p q ha =>
      cases r
      obtain ⟨_, its, n, rv, e⟩ := I.hok _ _ h
      obtain ⟨as, hr, hp⟩ := Sh.readsAll I ds _ its ha rv
      exact ⟨_, .list e rfl rfl hr, fun hb a z => (List.mem_cons.mp z).elim (fun y => y ▸ q hb) (hp hb a)⟩
  | .tuple ds, _, _, h, r => by
    cases h with
    | tup h p ha =>
      cases r
      obtain ⟨_, its, rv, o, e1, e2, n, e3⟩ := I.hok _ _ h
      obtain ⟨as, hr, hp⟩ := Sh.readsAll I ds _ its ha rv
      exact ⟨_, .tuple e1 e2 e3 hr, hp⟩
  | .dict _, _, _, h, r => by
    cases h with
    | emp hb h p =>
      cases r
      obtain ⟨_, sm, vs, kv, o, es, ep, e1, e2, e3, _, e4, _⟩ := I.hok _ _ h
      cases kv
      have en : es.toList = [] := by
        cases q : es.toList with
        | nil => rfl
        | cons x r => rw [q] at e4; cases e4
      refine ⟨_, .dict e1 e2.1 e3 (kvs := []) (as := []) (bs := []) (by rw [en]; exact .nil) (by rw [en]; exact .nil), fun _ a z => ?_⟩
      rcases List.mem_cons.mp z with e | e
      · exact e ▸ beq_eq_false_iff_ne.mp sm
      · cases e
theorem Sh.readsAll (I : L2.Inv X pins σ H s) : ∀ (ds : List PyData) (vs : List V) (us : List Value), ShAll H P b vs ds → Vals vs us → ∃ as, ReadsAll s.heap us ds as ∧ (b = true → ∀ a ∈ as, a ≠ sysModules)
  | [], _, _, h, r => by
    cases h; cases r
    exact ⟨_, .nil, fun _ _ z => nomatch z⟩
  | d :: ds, _, _, h, r => by
    cases h with
    | cons h1 h2 =>
      cases r with
      | cons r1 r2 =>
        obtain ⟨as, q1, p1⟩ := Sh.reads I d _ _ h1 r1
        obtain ⟨bs, q2, p2⟩ := Sh.readsAll I ds _ _ h2 r2
        exact ⟨_, .cons q1 q2, fun hb a z => (List.mem_append.mp z).elim (p1 hb a) (p2 hb a)⟩
end
end
mutual
theorem Sh.nodict {H : Hp} {P : Addr → Prop} : ∀ (d : PyData) (v : V), Sh H P false v d → d.hasDict = false
  | .none, _, _ => by simp only [PyData.hasDict]
  | .bool _, _, _ => by simp only [PyData.hasDict]
  | .int _, _, _ => by simp only [PyData.hasDict]
  | .str _, _, _ => by simp only [PyData.hasDict]
  | .list ds, _, h => by
    cases h with
    | lst _ _ _ r => simp only [PyData.hasDict]; exact ShAll.nodict ds _ r
  | .tuple ds, _, h => by
    cases h with
    | tup _ _ r => simp only [PyData.hasDict]; exact ShAll.nodict ds _ r
  | .dict _, _, h => by
    cases h with
    | emp hb _ _ => cases hb
theorem ShAll.nodict {H : Hp} {P : Addr → Prop} : ∀ (ds : List PyData) (vs : List V), ShAll H P false vs ds → PyData.hasDictAll ds = false
  | [], _, _ => by simp only [PyData.hasDictAll]
  | d :: ds, _, h => by
    cases h with
    | cons h r =>
      simp only [PyData.hasDictAll, Sh.nodict d _ h, ShAll.nodict ds _ r, Bool.or_self]
end
section
variable {X : Cx}
/-- repr(x) -/
def rRepr : List V → Hp → VK → Prop := fun xs H Q => ∃ (x : V) (P : Addr → Prop) (b : Bool) (d : PyData), xs = [x] ∧ Sh H P b x d ∧ d.showable = true ∧ d.depth ≤ 60 ∧ d.shown.length ≤ sizeLine ∧ Q (.str d.shown) H
theorem call_repr (hA : X.A.guards = some []) (hu : X.A.units + 64 < cLine) : CallR X (.builtin "repr") rRepr := by
  intro pins s σ H xs us Q I r h
  obtain ⟨x, P, b, d, rfl, hs, sw, dp, sz, q⟩ := h
  obtain ⟨u, rfl, rx⟩ := vals1 r
  obtain ⟨as, rd, hp⟩ := Sh.reads I d x u hs rx
  have nodict : d.hasDict = true → sysModules ∉ as := fun hd z => by
    cases b with
    | false => rw [Sh.nodict d x hs] at hd; cases hd
    | true => exact hp rfl _ z rfl
  have fin : ∀ (t : Tok) (tk : Nat), EP X pins σ Q (.str d.shown t) { s with toks := tk } := fun t tk => ⟨.str d.shown, H, I.tok tk, ⟨t, rfl⟩, q⟩
  have finH : ∀ h' t tk, (∀ b o, s.heap.get? b = some o → h'.get? b = some o) → EP X pins σ Q (.str d.shown t) { s with heap := h', toks := tk } := fun h' t tk k => ⟨.str d.shown, H, I.kept k, ⟨t, rfl⟩, q⟩
  have big : ∀ {a : Addr}, u = .ref a → wpAny (model X.prog X.w) X.A (call (.builtin "repr") [u]) (EP X pins σ Q) X.xe s := fun {a} e => by
    subst e
    exact repr_of_reads' rd sw nodict hA (by omega) (fun _ _ z => z) finH sz
  cases rd with
  | none => exact PySem.P.repr_of_none (by have z := fin s.toks (s.toks + 1); simp only [PyData.shown] at z; exact z)
  | bool c => exact PySem.P.repr_of_bool (by have z := fin s.toks (s.toks + 1); simp only [PyData.shown] at z; exact z)
  | int i t => exact PySem.P.repr_of_int (by simpa [PyData.showable] using sw) (by have z := fin s.toks (s.toks + 1); simp only [PyData.shown] at z; exact z)
  | str z t => exact PySem.P.repr_of_str (by have z := fin s.toks (s.toks + 1); simp only [PyData.shown] at z; exact z) (by simp only [PyData.shown] at sz; exact sz)
  | list _ _ _ _ => exact big rfl
  | tuple _ _ _ _ => exact big rfl
  | dict _ _ _ _ _ => exact big rfl
/-- a list of written items, not the module table -/
def tLstN (t : TA) : TE := fun σ H Q => t σ H fun xs H1 => xs.length ≤ 1000 ∧ ∀ p, H1 p = none → p ≠ sysModules → Q (.ref p) (upd H1 p (.lst xs))
theorem pe_lstN {es : List Expr} {pos : Pos} {t : TA} (h : PA X es t) : PE X (.List es pos) (tLstN t) := ⟨fun pins s σ H Q I hq => by
  refine wpAny_List_spliced (thn (h.run pos pins s σ H _ I hq) fun us s1 z => ?_)
  obtain ⟨xs, H1, I1, r, sz, q⟩ := z
  have le : xs.length ≤ sizeLine := Nat.le_trans sz (by decide)
  refine ⟨r.length ▸ le, .ref s1.heap.objs.size, upd H1 s1.heap.objs.size (.lst xs), I1.laid (t' := s1.toks) (fun _ _ e => Heap.get?_push_of_some _ e) (Nat.le_refl _) ⟨le, us, 0, r, Heap.get?_push_size _ rfl⟩, rfl, ?_⟩
  exact q _ (I1.hok.fresh (Nat.le_refl _)) (Nat.ne_of_gt I1.big)⟩
end

/-! ### the law's end -/
section
open PySem.W
variable {l : PySem.W.OpenLaw} {n k : Nat} {q : Program} {loose : List Str} {XP : (Str → Option Value) → Heap → Prop} {YP : World → Heap → Prop} {d : DefRec} {K : Params → PySem.W.Frag} {sp : PySem.W.Frag → Sp} {x : Str}
theorem walkG (hn : l.most = some n) (hn2 : n ≤ 1000) (hdf : d.params.defaults = []) (hr : Room k callerA) (hY : ∀ (w : World) (h : Heap), YP w h → (K w.params).In h)
    (F : ∀ (w : World) (mg : Str → Option Value) (fa : Addr) (h : Heap), (K w.params).In h → h.Ns mainGlobals mg → mg d.name = some (.ref fa) →
      ∃ fd : FuncData, (∀ (s : Shared) (u : Value), BindsTo s fd ⟨[u], []⟩ [(x, u)]) ∧ ∀ base : Heap, (K w.params).In base → base.Ns mainGlobals mg → FnG l.prog w (K w.params) mg base CX0 k fa fd [x] (sp (K w.params)))
    (hsp : ∀ (K : PySem.W.Frag) (H : Hp) (a : Addr) (ns : List Int), ns.length ≤ n → SqL K H a (ns.map V.int) → (∀ b, H b = none ∨ b = a) → sp K [.ref a] H (fun v _ => v = .bl true) fun _ _ _ => False) :
    WalkO q loose XP YP l.row.toRowW d [] (fun f vs => PySem.call f vs) := by
  refine Att.attach_call hn hdf fun w s0 s1 mg mb fa o pm cd doc a vs ns G Y _ _ _ hmg ha hi hl hg => ?_
  have KX := hY w _ Y
  obtain ⟨fd, bind, go⟩ := F w mg fa _ KX G.T.g hmg
  have hle : ns.length ≤ sizeLine := Nat.le_trans hl (Nat.le_trans hn2 (by decide))
  have rv := vals_ints hi
  -- the abstract heap: the script, locked, unless it is the module's own
  have mid : ∀ H : Hp, SqL (K w.params) H a (ns.map V.int) → HOk l.prog w H s1.heap → (∀ b, H b = none ∨ (b = a ∧ (K w.params).lookup a = none ∧ ∃ o xs, H a = some (.frz o (.lst xs)))) →
      codeAny (model l.prog w) callerA (.call (.ref fa) ⟨[.ref a], []⟩) (fun r s' => r = .ok (.ret (.bool true)) ∧ OldK s1.heap s'.heap ∧ s'.os = s1.os ∧ AllBare s'.gens) s1 := fun H hS ok hA => by
    have nsK : ∀ {b : Addr} {m : Str → Option Value}, s1.heap.Ns b m → (hidT s1.heap H).Ns b m := fun {b m} z => by
      obtain ⟨o, es, ep, e, dd, r⟩ := z
      refine ⟨o, es, ep, hidT_get e ((hA b).resolve_right fun y => ?_), dd, r⟩
      rw [y.1, ha] at e
      cases e
      cases dd
    have kin : (K w.params).In (hidT s1.heap H) := fun b o e => hidT_get (KX b o e) ((hA b).resolve_right fun y => by
      rw [y.1, y.2.1] at e
      cases e)
    have md : Mod (K w.params) mg (hidT s1.heap H) := ⟨kin, nsK G.T.g, ⟨mb, nsK G.T.b, G.T.builtins⟩, let ⟨mc, h1, h2⟩ := G.T.nolimit; ⟨mc, nsK h1, h2⟩⟩
    refine codeAny_mono ((go _ kin (nsK G.T.g)).go callerA [] s1 H ⟨[.ref a], []⟩ [.ref a] [.ref a] _ _ rfl hr
      ⟨rfl, md, fun _ _ e => of_hidT e, Nat.le_of_eq (hidT_size _ _), trivial, (fun _ z => nomatch z), ok, .of_eq hg⟩ (bind s1 (.ref a)) (.cons rfl .nil) (hsp _ H a ns hl hS fun b => (hA b).imp_right (·.1))) fun r s' h => ?_
    cases r with
    | error e => exact h.elim
    | ok fl =>
      cases fl with
      | next => exact h.elim
      | brk => exact h.elim
      | cont => exact h.elim
      | ret u =>
        obtain ⟨v, H', os, bare, un, ok', rv', e⟩ := h
        cases (show v = .bl true from e)
        cases (show u = .bool true from rv')
        refine ⟨rfl, OldK.of_keep fun b o e => ?_, os, bare⟩
        rcases hA b with z | ⟨rfl, _, ob, xs, z⟩
        · exact un.keep b o e z (fun y => nomatch y) (fun y => nomatch y)
        · have e1 := (ok _ _ z).1
          rw [e] at e1
          cases e1
          exact (ok' _ _ (un.frzs _ _ _ z)).1
  cases hk : (K w.params).lookup a with
  | some o =>
    have e := KX a o hk
    rw [ha] at e
    cases e
    exact mid (fun _ => none) (.inr ⟨_, vs.toArray, _, hk, rfl, rfl, rfl, by rw [List.size_toArray, hi.length]; exact hle, by simpa using rv⟩) (fun _ _ z => nomatch z) fun _ => .inl rfl
  | none =>
    have at_ : ∀ b, b = a → (fun c => if c = a then some (HO.frz { cls := .type "list", data := .seq vs.toArray } (.lst (ns.map V.int))) else none) b = some (HO.frz { cls := .type "list", data := .seq vs.toArray } (.lst (ns.map V.int))) := fun b e => if_pos e
    refine mid (fun c => if c = a then some (.frz { cls := .type "list", data := .seq vs.toArray } (.lst (ns.map V.int))) else none) (.inl (.inr ⟨_, at_ a rfl⟩)) (fun b u z => ?_) fun b => ?_
    · by_cases hb : b = a
      · cases (at_ b hb).symm.trans z
        cases hb
        exact ⟨ha, by rw [List.length_map]; exact hle, vs, _, rv, ha⟩
      · cases (if_neg hb).symm.trans z
    · by_cases hb : b = a
      · exact .inr ⟨hb, hk, _, _, at_ a rfl⟩
      · exact .inl (if_neg hb)
end
end Bf

/-! Own rule: enumerate over a tuple. -/
namespace Bf
open PySem PySem.Spec PyProof.Rows L2

/-- the tuple's cells behind enumerate(t) -/
theorem enum_new_tup (t : Addr) (items : Array Value) (n : Nat) (dct : Option Addr) (sl : Array (Option Value)) :
    Meets (Builtin.«enumerate.__new__» ⟨[.type "enumerate", .ref t], []⟩) (fun _ R s => s.heap.get? t = some { cls := .type "tuple", dict := dct, data := .seq items n, slots := sl } ∧
      R (.ok (.ret (.ref (s.heap.push { cls := .type "tuple_iterator", data := .fields #[.ref t, .int 0 0] }).objs.size)))
        { s with heap := (s.heap.push { cls := .type "tuple_iterator", data := .fields #[.ref t, .int 0 0] }).push { cls := .type "enumerate", data := .fields #[.none, .bool false, .ref s.heap.objs.size, rawInt 0, .none, .none] } }) :=
  .of_wp fun prog w A R s h => by
    obtain ⟨hp, g, d, tk, os⟩ := s
    obtain ⟨ht, h⟩ := h
    have sub := sub_enumerate
    have it : ∀ {A' : Around} {E : Value → Shared → Prop} {Q : Value → Shared → Prop}, Q (.ref hp.objs.size) ⟨hp.push { cls := .type "tuple_iterator", data := .fields #[.ref t, .int 0 0] }, g, d, tk, os⟩ →
        wpAny (model prog w) A' (pyIter (.ref t)) Q E ⟨hp, g, d, tk, os⟩ := fun q => wpAny_pyIter_tuple (s := ⟨hp, g, d, tk, os⟩) ⟨_, ht, rfl, n, rfl⟩ q
    wp_walk using it
    refine wpAny_stack_any fun st => wpAny_pure ?_
    split
    · rename_i c _ _ _ _ _
      cases (c == Value.type "enumerate") <;> (wp_walk using it; exact ⟨_, rfl, h⟩)
    · wp_walk using it
      exact ⟨_, rfl, h⟩

section
variable {prog : Program} {w : World} {A : Around} {E : Value → Shared → Prop} {s : Shared}
theorem enum_tup {t : Addr} {items : Array Value} {Q : Value → Shared → Prop} (T : s.heap.IsTuple t items)
    (h : ∀ h' : Heap, IsEnum h' (s.heap.objs.size + 1) s.heap.objs.size 0 .none → h'.IsTupleIter s.heap.objs.size t 0 → (∀ b o, s.heap.get? b = some o → h'.get? b = some o) → Q (.ref (s.heap.objs.size + 1)) { s with heap := h' }) :
    wpAny (model prog w) A (call (.type "enumerate") [.ref t]) Q E s := by
  obtain ⟨⟨c, dct, dt, sl⟩, e1, e2, n, e3⟩ := T
  cases (show c = .type "tuple" from e2)
  cases (show dt = .seq items n from e3)
  refine callType_new F.called_enumerate (by decide) (F.typeCall_enumerate_1 _) (F.newCall_enumerate_1 _) (fun obj => F.args_object_init_2 obj _) F.entry_enumerate_new (enum_new_tup t items n dct sl) ⟨e1, ?_⟩
  have sz : (s.heap.push { cls := .type "tuple_iterator", data := .fields #[.ref t, .int 0 0] }).objs.size = s.heap.objs.size + 1 := Heap.size_push ..
  have en := Heap.get?_push_size (s.heap.push { cls := .type "tuple_iterator", data := .fields #[.ref t, .int 0 0] })
    (o := { cls := .type "enumerate", data := .fields #[.none, .bool false, .ref s.heap.objs.size, rawInt 0, .none, .none] }) rfl
  rw [sz] at en
  show _ ∧ _
  rw [sz]
  exact ⟨⟨_, en, rfl⟩, h _ en ⟨_, Heap.get?_push_of_some _ (Heap.get?_push_size _ rfl), rfl, rfl⟩ fun b o x => Heap.get?_push_of_some _ (Heap.get?_push_of_some _ x)⟩
end

/-- the tuple at a, each item in a new pair -/
def Iet (K : PySem.W.Frag) (a : Addr) : It where
  go i H := ∃ (xs : List V) (x : V), SqT K H a xs ∧ xs[i]? = some x
  yld i H v H' := ∃ T x, v = .ref T ∧ H T = none ∧ H' = upd H T (.tup [.int (i : Nat), x]) ∧ ∀ xs, SqT K H a xs → xs[i]? = some x
  stop i H := ∃ xs : List V, SqT K H a xs ∧ i = xs.length
theorem turn_iet {P : Program} {w : World} {K : PySem.W.Frag} {elts : List Expr} {kk : Nat} {tpos : Pos} (a e it : Addr) :
    Turn P w K (.Tuple elts kk tpos) (Iet K a) [e, it] e (fun i h => (∃ old, IsEnum h e it ((i : Nat) : Int) old) ∧ h.IsTupleIter it a i ∧ e ≠ it) where
  mem := List.mem_cons_self
  obj i h st b hb := by
    obtain ⟨⟨old, he⟩, ⟨o, ho, hc, hd⟩, _⟩ := st
    rcases List.mem_cons.mp hb with z | z
    · cases z
      exact ⟨_, he, fun v q => nomatch q⟩
    · have z := List.mem_singleton.mp z
      exact ⟨o, z ▸ ho, fun v q => by rw [hd] at q; cases q⟩
  keep i h h' st k := by
    obtain ⟨⟨old, he⟩, hi, ne⟩ := st
    exact ⟨⟨old, k e (by simp) _ he⟩, hi.at fun o q => k it (by simp) o q, ne⟩
  item := by
    rintro X rfl rfl rfl hc i pins s σ H E I hf ⟨⟨old, he⟩, hit, ne⟩ ⟨xs, x, hq, hx⟩
    obtain ⟨its, rv, p, hz⟩ := I.tuple hq
    obtain ⟨u, hu, ru⟩ := rv.get hx
    have p' : s.heap.IsTuple a its.toArray := p
    obtain ⟨oa, hoa, hca, na, hda⟩ := id p'
    have nia : a ≠ it := fun z => by
      obtain ⟨o, ho, hc', hd'⟩ := hit
      rw [← z, hoa] at ho
      cases ho
      rw [hda] at hd'
      cases hd'
    have nea : e ≠ a := fun z => by
      have he2 : s.heap.get? e = _ := he
      rw [z, hoa] at he2
      cases he2
      cases hda
    have hel : e < s.heap.objs.size := Heap.lt_size he
    have hil : it < s.heap.objs.size := let ⟨_, q, _⟩ := hit; Heap.lt_size q
    refine wpAny_pyNext_enum_itemD (D := Draws.tuple (A := X.A.in1) (show X.A.in1.handled = none from I.ok.hd hc) it a nia its.toArray) he ⟨hit, p'⟩ (by have := (List.getElem?_eq_some_iff.mp hu).1; simpa using this) ne (by simp [ne, nea]) fun y h' tk hy ho hit' hT hsz hk => ?_
    have ey : y = u := by
      have z : its[i]? = some y := by simpa using hy
      rw [hu] at z
      exact (Option.some.inj z).symm
    subst ey
    refine ⟨_, rfl, wpAny_letOwnedTupleGo_enum (s := { s with heap := h', toks := tk + 1 }) ho fun h2 he2 sb => ?_⟩
    have hT2 : h2.get? s.heap.objs.size = some { cls := .type "tuple", data := .seq #[.int i tk, y] } := (sb.2 _ (Nat.ne_of_gt hel)).trans hT
    have low : ∀ b, b ∈ [e, it] → b < s.heap.objs.size := fun b hb => (List.mem_cons.mp hb).elim (fun z => z ▸ hel) fun z => List.mem_singleton.mp z ▸ hil
    have I1 : L2.Inv X pins σ (upd H s.heap.objs.size (.tup [.int (i : Nat), x])) { s with heap := h2, toks := tk + 1 } :=
      I.turnedNew (ch := [e, it]) (fun b ob hb q => (sb.2 b (fun z => hb (by simp [z]))).trans (hk b ob (fun z => hb (by simp [z])) (fun z => hb (by simp [z])) q)) hf (Nat.le_refl _)
        ⟨by show 2 ≤ sizeLine; decide, [.int i tk, y], .cons ⟨_, rfl⟩ (.cons ru .nil), ⟨_, hT2, rfl, _, rfl⟩⟩
    refine ⟨.ref s.heap.objs.size, _, I1, rfl, ⟨_, x, rfl, I.hok.fresh (Nat.le_refl _), rfl, fun ys hy => by rw [I.tuple_inj hy hq]; exact hx⟩, ⟨⟨y, ?_⟩, hit'.1.at fun o q => (sb.2 it (Ne.symm ne)).trans q, ne⟩, fun b hb => ?_⟩
    · rw [show ((i + 1 : Nat) : Int) = (i : Int) + 1 from by omega]
      exact he2
    · rw [upd_ne (Nat.ne_of_lt (low b hb))]
      exact (hf b hb).1
  done := by
    rintro X rfl rfl rfl hc i pins s σ H E I hf ⟨⟨old, he⟩, hit, ne⟩ ⟨xs, hq, rfl⟩
    obtain ⟨its, rv, p, hz⟩ := I.tuple hq
    have p' : s.heap.IsTuple a its.toArray := p
    obtain ⟨oa, hoa, hca, na, hda⟩ := id p'
    have nia : a ≠ it := fun z => by
      obtain ⟨o, ho, hc', hd'⟩ := hit
      rw [← z, hoa] at ho
      cases ho
      rw [hda] at hd'
      cases hd'
    obtain ⟨f0, f1, f2, f3, f4, f5⟩ := hf it (by simp)
    refine wpAny_pyNext_enum_endD (D := Draws.tuple (A := X.A.in1) (show X.A.in1.handled = none from I.ok.hd hc) it a nia its.toArray) he ⟨by rw [List.size_toArray, ← rv.length]; exact hit, p'⟩ fun h' eb => ⟨rfl, I.turned (t' := s.toks) (fun b o hb q => eb b o hb q) f0 f1 f3 f4 f5⟩
  self A i s Q E st h := let ⟨⟨_, he⟩, _⟩ := st; wpAny_pyIter_enum he h
def iEnumT (K : PySem.W.Frag) (ta : TA) : TI := fun σ H R => ta σ H fun vs H1 => ∃ a xs, vs = [.ref a] ∧ SqT K H1 a xs ∧ R (Iet K a) H1
theorem pi_enumT {X : Cx} {e : Expr} {ta : TA} {p pos tpos : Pos} {elts : List Expr} {kk : Nat} (hg : Gl X "enumerate") (hm : X.mg "enumerate" = none) (ha : PA X [e] ta)
    (hs : starEach [e] X.env = [(false, eval e X.env)] := by rfl) : PI X (.Tuple elts kk tpos) (.Call (.Name "enumerate" p) [e] [] pos) (iEnumT X.K ta) := ⟨fun pins s σ H R I h => by
  refine Call_ (ld_blt I hg hm boot_enumerate (PyProof.Rows.callWith_type1 (thn (ha.run pos pins s σ H _ I h) fun us s1 z => ?_) hs rfl))
  obtain ⟨vs, H1, I1, r1, a, xs, rfl, hq, q⟩ := z
  cases r1 with
  | cons r rr =>
    cases rr
    cases r
    obtain ⟨its, rv, p', hz⟩ := I1.tuple hq
    refine enum_tup (show s1.heap.IsTuple a its.toArray from p') fun h' he hit hk => wpAny_pyIter_enum he ?_
    refine ⟨s1.heap.objs.size + 1, [s1.heap.objs.size + 1, s1.heap.objs.size], _, _, H1, rfl, I1.kept (t' := s1.toks) hk, turn_iet a (s1.heap.objs.size + 1) s1.heap.objs.size, ⟨⟨.none, he⟩, hit, Nat.succ_ne_self _⟩, fun b hb => ?_, q⟩
    have le : s1.heap.objs.size ≤ b := (List.mem_cons.mp hb).elim (fun z => z ▸ Nat.le_succ _) fun z => List.mem_singleton.mp z ▸ Nat.le_refl _
    have I2 : L2.Inv X pins σ H1 { s1 with heap := h' } := I1.kept (t' := s1.toks) hk
    exact I1.fpOk le (I1.hok.fresh le)⟩
/-- the loop's reading -/
theorem for_iet {K : PySem.W.Frag} {a : Addr} {xs : List V} {g : TG} {tb : TS} {D : Ends} {σ : L2.St} {H : Hp} (Pv : Nat → L2.St → Hp → Prop) (h0 : Pv 0 σ H) (hl : ∀ i σ H, i ≤ xs.length → Pv i σ H → SqT K H a xs)
    (hs : ∀ i x σ H T, xs[i]? = some x → Pv i σ H → H T = none → g (.ref T) σ (upd H T (.tup [.int (i : Nat), x])) fun σ2 H2 => tb { D with nx := Pv (i + 1), ct := Pv (i + 1), bk := D.nx } σ2 H2) (hd : ∀ σ H, Pv xs.length σ H → D.nx σ H) :
    ∃ W : Nat → Nat → L2.St → Hp → Prop, (∃ m, W 0 m σ H) ∧ ∀ i m σ H, W i m σ H →
      ((Iet K a).stop i H ∧ D.nx σ H) ∨ ((Iet K a).go i H ∧ ∃ N : L2.St → Hp → Prop, (∀ σ' H', N σ' H' → ∃ m', m' < m ∧ W (i + 1) m' σ' H') ∧ ∀ x H', (Iet K a).yld i H x H' → g x σ H' fun σ2 H2 => tb { D with nx := N, ct := N, bk := D.nx } σ2 H2) := by
  refine ⟨fun i m σ H => m = xs.length - i ∧ i ≤ xs.length ∧ Pv i σ H, ⟨xs.length, by simp, Nat.zero_le _, h0⟩, ?_⟩
  rintro i m σ H ⟨rfl, hi, p⟩
  have q := hl i σ H hi p
  rcases Nat.lt_or_ge i xs.length with lt | ge
  · refine .inr ⟨⟨xs, xs[i], q, List.getElem?_eq_getElem lt⟩, Pv (i + 1), fun σ' H' p' => ⟨xs.length - (i + 1), by omega, rfl, lt, p'⟩, ?_⟩
    rintro x H' ⟨T, y, rfl, nT, rfl, hy⟩
    exact hs i y σ H T (hy xs q) p nT
  · have e : i = xs.length := Nat.le_antisymm hi ge
    exact .inl ⟨⟨xs, q, e⟩, hd σ H (e ▸ p)⟩
end Bf

/-! Own rules: x not in t, t a tuple of texts, x any thing; xs < ys of lists; comprehensions over enumerate and zip. -/
namespace Bf
open PySem PySem.Spec PyProof.Rows L2

theorem dict_eq_declines_str (l : Addr) (dt : Data) (dd : Option Addr) (sl : Array (Option Value)) (b : Str) (u : Tok) :
    Meets (Builtin.«dict.__eq__» ⟨[.ref l, .str b u], []⟩) (fun _ R s => s.heap.get? l = some { cls := .type "dict", dict := dd, data := dt, slots := sl } ∧ R (.ok (.ret .notImplemented)) s) :=
  .of_wp fun prog w A R s h => by
    obtain ⟨hp, g, d, tk, os⟩ := s
    obtain ⟨hl, h⟩ := h
    have f1 := F.sub_str_dict
    wp_walk using wpAny_loadPart' hl
    exact ⟨_, rfl, h⟩
theorem str_eq_declines_dict (b : Str) (u : Tok) (l : Addr) (es : Array DictEntry) (n : Nat) (dd : Option Addr) (sl : Array (Option Value)) :
    Meets (Builtin.«str.__eq__» ⟨[.str b u, .ref l], []⟩) (fun _ R s => s.heap.get? l = some { cls := .type "dict", dict := dd, data := .dict es n, slots := sl } ∧ R (.ok (.ret .notImplemented)) s) :=
  .of_wp fun prog w A R s h => by
    obtain ⟨hp, g, d, tk, os⟩ := s
    obtain ⟨hl, h⟩ := h
    wp_walk using wpAny_loadPart' hl, wpAny_load hl
    exact ⟨_, rfl, h⟩
theorem eqAt_str_dict {A : Around} {s : Shared} {l : Addr} {o : Obj} {es : Array DictEntry} {n : Nat} (b : Str) (u : Tok) (ho : s.heap.get? l = some o) (hc : o.cls = .type "dict") (hd : o.data = .dict es n) (hu : A.units < cLine) :
    SeqAt.EqAt A s (.str b u) (.ref l) false := fun prog w E Q h => by
  obtain ⟨cls, dd, data, sl⟩ := o
  simp only at hc hd
  subst hc hd
  unfold eqBool
  refine wpAny_holding ?_
  refine wpAny_ite_split (fun hab => absurd (eq_of_beq hab) nofun) (fun _ => ?_)
  refine wpAny_bind (SeqAt.rc_eq_decline_or (k := false) (typeIs_str s b u) ⟨_, ho, rfl⟩ (by decide) F.sub_dict_str F.slot_str_eq F.slot_dict_eq_refl
    (fun _ hq => call_meets F.slot_str_eq (typeIs_str s b u) F.entry_str_eq (F.args_str_eq_2 _ _) (str_eq_declines_dict b u l es n dd sl) ⟨ho, hq⟩)
    (fun _ hq => call_meets F.slot_dict_eq_refl ⟨_, ho, rfl⟩ F.entry_dict_eq (F.args_dict_eq_2 _ _) (dict_eq_declines_str l _ dd sl b u) ⟨ho, hq⟩)
    (fun _ hq => wpAny_of_eq (rfl : isSame (.str b u) (.ref l) = pure false) hq) (.inr hu) (wpAny_truthy_bool h))

/-- a thing that is compared with texts -/
inductive Odd (H : Hp) : V → Prop
  | non : Odd H .non
  | bl (b : Bool) : Odd H (.bl b)
  | int (i : Int) : Odd H (.int i)
  | str (z : Str) : Odd H (.str z)
  | lst {a : Addr} {xs : List V} (h : H a = some (.lst xs)) : Odd H (.ref a)
  | tup {a : Addr} {xs : List V} (h : H a = some (.tup xs)) : Odd H (.ref a)
  | emp {a : Addr} (h : H a = some (.dK [])) : Odd H (.ref a)
section
variable {X : Cx}
theorem eqAt_odd {pins : List (Addr × Obj)} {σ : L2.St} {H : Hp} {s : Shared} {x : V} {v : Value} {z : Str} {t : Tok} {A : Around} (hu : A.units < cLine) (I : L2.Inv X pins σ H s) (h : Odd H x) (r : RelV x v) :
    SeqAt.EqAt A s (.str z t) v (eqV (.str z) x) := by
  have fl : flatV x = true → SeqAt.EqAt A s (.str z t) v (eqV (.str z) x) := fun f => eqAt_V (y := .str z) ⟨t, rfl⟩ r rfl f
  cases h with
  | non => exact fl rfl
  | bl b => exact fl rfl
  | int i => exact fl rfl
  | str z => exact fl rfl
  | lst h =>
    cases r
    obtain ⟨_, its, n, rv, e⟩ := I.hok _ _ h
    exact SeqAt.EqAt.str_list z t (items := its.toArray) ⟨_, e, rfl, _, rfl⟩ hu
  | tup h =>
    cases r
    obtain ⟨_, its, rv, o, e1, e2, n, e3⟩ := I.hok _ _ h
    exact SeqAt.EqAt.str_tuple z t ⟨o, e1, e2, n, e3⟩ hu
  | emp h =>
    cases r
    obtain ⟨_, sm, vs, kv, o, es, ep, e1, e2, e3, _, e4, _⟩ := I.hok _ _ h
    exact eqAt_str_dict z t e1 e2.1 e3 hu
def rNotInW (K : PySem.W.Frag) : R2 := fun x y H Q => ∃ (p : Addr) (ws : List Str), y = .ref p ∧ SqT K H p (ws.map V.str) ∧ Odd H x ∧ Q (.bl (!inV x (ws.map V.str))) H
theorem op_notInW (hu : X.A.units + 64 < cLine) : OpR X (compareOp .NotIn) (rNotInW X.K) := by
  intro pins s σ H x y v u Q I rx ry h
  obtain ⟨p, ws, rfl, hq, od, q⟩ := h
  cases ry
  obtain ⟨its, r, pl, hz⟩ := I.tuple hq
  have fs : (ws.map V.str).all flatV = true := by
    rw [List.all_map, List.all_eq_true]
    intro z _
    rfl
  have each : ∀ {vs : List V} {us : List Value}, Vals vs us → (∀ y ∈ vs, ∃ z, y = V.str z) → ∀ w ∈ us, SeqAt.EqAt X.A.in1 s w v (eqU x w) := by
    intro vs us r
    induction r with
    | nil => exact fun _ _ m => nomatch m
    | cons r1 r2 ih =>
      intro hv w m
      rcases List.mem_cons.mp m with rfl | m
      · obtain ⟨z, rfl⟩ := hv _ List.mem_cons_self
        obtain ⟨t, rfl⟩ := r1
        exact eqAt_odd (by show X.A.units + 1 < cLine; omega) I od rx
      · exact ih (fun y my => hv y (List.mem_cons_of_mem _ my)) w m
  refine SeqAt.notIn_tupleAt (eqU x) pl (fun w hw => each r (fun y my => by obtain ⟨z, _, rfl⟩ := List.mem_map.mp my; exact ⟨z, rfl⟩) w (by simpa using hw)) ⟨.bl _, H, I, rfl, ?_⟩
  rw [show its.toArray.any (eqU x) = its.any (eqU x) by simp, any_eqU r fs]
  exact q
/-- xs < ys, lists of whole numbers -/
theorem alike_ints : ∀ ns ms : List Int, PySem.W.alikeAll (ns.map PyData.int) (ms.map PyData.int) = true
  | [], [] => by simp only [List.map_nil, PySem.W.alikeAll]
  | [], _ :: _ => by simp only [List.map_nil, PySem.W.alikeAll]
  | _ :: _, [] => by simp only [List.map_nil, List.map_cons, PySem.W.alikeAll]
  | a :: ns, b :: ms => by simp only [List.map_cons, PySem.W.alikeAll, PySem.W.alike, alike_ints ns ms, Bool.and_self]
theorem dpI {K : PySem.W.Frag} {H : Hp} : ∀ is : List Int, DpAll K H (is.map V.int) (is.map PyData.int)
  | [] => .nil
  | i :: r => .cons (.int i) (dpI r)
theorem depth_ints : ∀ ns : List Int, PyData.depthAll (ns.map PyData.int) = 0
  | [] => by simp only [List.map_nil, PyData.depthAll]
  | n :: r => by simp only [List.map_cons, PyData.depthAll, PyData.depth, depth_ints r]; decide
def ltI (ns ms : List Int) : Bool := PySem.W.dataLt (.list (ns.map PyData.int)) (.list (ms.map PyData.int))
def rLtI (K : PySem.W.Frag) : R2 := fun x y H Q => ∃ (a b : Addr) (ns ms : List Int), x = .ref a ∧ y = .ref b ∧ SqL K H a (ns.map V.int) ∧ SqL K H b (ms.map V.int) ∧ Q (.bl (ltI ns ms)) H
theorem op_ltI (hu : X.A.units + 64 < cLine) : OpR X (compareOp .Lt) (rLtI X.K) := by
  intro pins s σ H x y v u Q I rx ry h
  obtain ⟨a, b, ns, ms, rfl, rfl, ha, hb, q⟩ := h
  obtain ⟨as, r1⟩ := Dp.reads I (.list (ns.map PyData.int)) (.ref a) v (.lst ha (dpI ns)) rx
  obtain ⟨bs, r2⟩ := Dp.reads I (.list (ms.map PyData.int)) (.ref b) u (.lst hb (dpI ms)) ry
  refine PySem.W.lt_data r1 r2 (by simp only [PySem.W.alike]; exact alike_ints ns ms) (fun z => nomatch z) ?_ ⟨.bl (ltI ns ms), H, I, rfl, q⟩
  have d1 : PyData.depth (.list (ns.map PyData.int)) = 1 := by simp only [PyData.depth, depth_ints]
  have : min (PyData.depth (.list (ns.map PyData.int))) (PyData.depth (.list (ms.map PyData.int))) ≤ 1 := by rw [d1]; exact Nat.min_le_left _ _
  omega
end

/-! ### comprehensions over enumerate(list) and zip(list, list) -/
theorem lc_ite {K : PySem.W.Frag} {a : Addr} {xs : List V} {g : TG} {tt : TT} {te : TE} {vs : List Nat} {σ : L2.St} {H1 : Hp} {D : Addr} {Qd : Hp → Prop} (Pv : Nat → Hp → Prop) (h0 : Pv 0 (upd H1 D (.lst []))) (hl : ∀ i H, i ≤ xs.length → Pv i H → SqL K H a xs)
    (hs : ∀ i x H T, xs[i]? = some x → Pv i H → H T = none → g (.ref T) (wipe σ vs) (upd H T (.tup [.int (i : Nat), x])) fun σ2 H2 => wipe σ2 vs = wipe σ vs ∧ tt σ2 H2 fun b H3 =>
      if b = true then te σ2 H3 fun y H4 => ∃ acc, H4 D = some (.lst acc) ∧ acc.length < sizeLine ∧ Pv (i + 1) (upd H4 D (.lst (acc ++ [y]))) else Pv (i + 1) H3) (hd : ∀ H, Pv xs.length H → Qd H) :
    ∃ W : Nat → Nat → Hp → Prop, (∃ m, W 0 m (upd H1 D (.lst []))) ∧ ∀ i m H, W i m H →
      ((Ite K a).stop i H ∧ Qd H) ∨ ((Ite K a).go i H ∧ ∃ Nx : Hp → Prop, (∀ H', Nx H' → ∃ m', m' < m ∧ W (i + 1) m' H') ∧ ∀ x H', (Ite K a).yld i H x H' → g x (wipe σ vs) H' fun σ2 H2 => wipe σ2 vs = wipe σ vs ∧ tt σ2 H2 fun b H3 =>
        if b = true then te σ2 H3 fun y H4 => ∃ acc, H4 D = some (.lst acc) ∧ acc.length < sizeLine ∧ Nx (upd H4 D (.lst (acc ++ [y]))) else Nx H3) := by
  refine ⟨fun i m H => m = xs.length - i ∧ i ≤ xs.length ∧ Pv i H, ⟨xs.length, by simp, Nat.zero_le _, h0⟩, ?_⟩
  rintro i m H ⟨rfl, hi, p⟩
  have q := hl i H hi p
  by_cases hlt : i < xs.length
  · refine .inr ⟨⟨xs, xs[i], q, by simp [hlt]⟩, Pv (i + 1), fun H' p' => ⟨xs.length - (i + 1), by omega, rfl, hlt, p'⟩, fun x H' y => ?_⟩
    obtain ⟨T, z, rfl, nT, rfl, hy⟩ := y
    exact hs i z H T (hy xs q) p nT
  · have e : i = xs.length := by omega
    subst e
    exact .inl ⟨⟨xs, q, Nat.le_refl _⟩, hd H p⟩
theorem lc_itz {K : PySem.W.Frag} {a b : Addr} {xs ys : List V} {g : TG} {tt : TT} {te : TE} {vs : List Nat} {σ : L2.St} {H1 : Hp} {D : Addr} {Qd : Hp → Prop} (hxy : xs.length = ys.length) (Pv : Nat → Hp → Prop) (h0 : Pv 0 (upd H1 D (.lst [])))
    (hl : ∀ i H, i ≤ xs.length → Pv i H → SqL K H a xs ∧ SqL K H b ys)
    (hs : ∀ i x y H T, xs[i]? = some x → ys[i]? = some y → Pv i H → H T = none → g (.ref T) (wipe σ vs) (upd H T (.tup [x, y])) fun σ2 H2 => wipe σ2 vs = wipe σ vs ∧ tt σ2 H2 fun b H3 =>
      if b = true then te σ2 H3 fun y H4 => ∃ acc, H4 D = some (.lst acc) ∧ acc.length < sizeLine ∧ Pv (i + 1) (upd H4 D (.lst (acc ++ [y]))) else Pv (i + 1) H3) (hd : ∀ H, Pv xs.length H → Qd H) :
    ∃ W : Nat → Nat → Hp → Prop, (∃ m, W 0 m (upd H1 D (.lst []))) ∧ ∀ i m H, W i m H →
      ((Itz K a b).stop i H ∧ Qd H) ∨ ((Itz K a b).go i H ∧ ∃ Nx : Hp → Prop, (∀ H', Nx H' → ∃ m', m' < m ∧ W (i + 1) m' H') ∧ ∀ x H', (Itz K a b).yld i H x H' → g x (wipe σ vs) H' fun σ2 H2 => wipe σ2 vs = wipe σ vs ∧ tt σ2 H2 fun b H3 =>
        if b = true then te σ2 H3 fun y H4 => ∃ acc, H4 D = some (.lst acc) ∧ acc.length < sizeLine ∧ Nx (upd H4 D (.lst (acc ++ [y]))) else Nx H3) := by
  refine ⟨fun i m H => m = xs.length - i ∧ i ≤ xs.length ∧ Pv i H, ⟨xs.length, by simp, Nat.zero_le _, h0⟩, ?_⟩
  rintro i m H ⟨rfl, hi, p⟩
  obtain ⟨q1, q2⟩ := hl i H hi p
  by_cases hlt : i < xs.length
  · have h2 : i < ys.length := by omega
    refine .inr ⟨⟨xs, ys, xs[i], ys[i], q1, q2, List.getElem?_eq_getElem hlt, List.getElem?_eq_getElem h2⟩, Pv (i + 1), fun H' p' => ⟨xs.length - (i + 1), by omega, rfl, hlt, p'⟩, fun x H' y => ?_⟩
    obtain ⟨T, z, z2, rfl, nT, rfl, hy, hy2⟩ := y
    exact hs i z z2 H T (hy xs q1) (hy2 ys q2) p nT
  · have e : i = xs.length := by omega
    subst e
    exact .inl ⟨⟨xs, ys, q1, q2, .inl (Nat.le_refl _)⟩, hd H p⟩
end Bf

/-! Own rules: f(e, .., k = v, ..) within a try's body. -/
namespace Bf
open PySem PySem.Spec PyProof.Rows L2
def tCallNS (n m : Nat) (sp : Sp) (gV : List V → List V → List V) (E : L2.St → XK) (t tk : TA) : TE := fun σ H Q => t σ H fun vs H1 => tk σ H1 fun zs H2 => vs.length = n ∧ zs.length = m ∧ sp (gV vs zs) H2 Q (E σ)
section
variable {X : Cx} {CX : CXT} {k n : Nat} {f : Addr} {fd : FuncData} {ps ks : List Str} {sp : Sp} {E : L2.St → XK} {x : Str} {p pos : Pos} {e : Expr} {es : List Expr} {kws : List Keyword} {t tk : TA} {g : List Value → List Value → List Value} {gV : List V → List V → List V}
theorem pe_callNS (F : FnOk X.prog X.w X.K X.mg X.base CX k f fd ps sp) (hr : Room k X.A) (hg : Gl X x) (hm : X.mg x = some (.ref f)) (hk : PySem.W.keepIn X.K (.ref f) = true) (hb : KBn X.K fd ps n ks g gV) (hx : ∀ σ, PassesAt CX X σ (E σ))
    (ha : PA X (e :: es) t) (hkw : PK X kws tk) (hall : (backToKw pos (keywordEach kws X.env)).all (·.1.isSome) = true := by rfl) (hks : (backToKw pos (keywordEach kws X.env)).filterMap (·.1) = ks := by rfl)
    (hdb : (x == ("__debug__" : Str)) = false := by decide) (he : starEach (e :: es) X.env = (false, eval e X.env) :: starEach es X.env := by rfl)
    (hpl : ((backTo pos (starEach (e :: es) X.env)).any (·.1) || (backToKw pos (keywordEach kws X.env)).any (·.1.isNone)) = false := by rfl) :
    PE X (.Call (.Name x p) (e :: es) kws pos) (tCallNS n ks.length sp gV E t tk) := by
  refine ⟨fun pins s σ H Q I h => ?_⟩
  refine wpAny_Call_Name_kw (ld_glob I hg hm ?_ hdb)
  refine PySem.W.callWith_KW (h₀ := X.base) I.ok.mod.kin hk hall (thn (ha.run pos pins s σ H _ I h) fun us s1 ⟨vs, H1, I1, r, q⟩ => ?_) hpl he
  refine thn (hkw.run pos pins s1 σ H1 _ I1 q) fun ws s2 ⟨zs, H2, I2, rz, l1, l2, q2⟩ => ⟨I2.kIn, ?_⟩
  rw [hks]
  have r2 := hb.rel r rz
  refine wpAny_call (codeAny_mono (F.run X.A X.stack s2 H2 ⟨us, ks.zip ws⟩ (g us ws) (gV vs zs) Q (E σ) hr I2.env0 (hb.to s2 us ws I2.kIn (r.length.symm.trans l1) (rz.length.symm.trans l2)) r2 q2) fun r s' hq => ?_)
  cases r with
  | error e => exact hx σ pins H2 s2 e s' I2 hq
  | ok fl =>
    cases fl with
    | ret u => exact I2.after hq
    | next => exact False.elim hq
    | brk => exact False.elim hq
    | cont => exact False.elim hq
end
end Bf
namespace Bf
open PySem PySem.Spec PyProof.Rows L2
/-! ### new lists, not the module table -/
section
variable {X : Cx}
def rCatN : R2 := fun x y H Q => ∃ (l b : Addr) (xs zs : List V), x = .ref l ∧ y = .ref b ∧ H l = some (.lst xs) ∧ H b = some (.lst zs) ∧ xs.length + zs.length ≤ sizeLine ∧ ∀ p, H p = none → p ≠ sysModules → Q (.ref p) (upd H p (.lst (xs ++ zs)))
theorem op_catN : OpR X (binaryOp .Add) rCatN := by
  intro pins s σ H x y v u Q I rx ry h
  obtain ⟨l, b, xs, zs, rfl, rfl, hH, hB, hz, q⟩ := h
  cases rx
  cases ry
  obtain ⟨z, its, n, r, hl, e⟩ := I.lstM hH
  obtain ⟨z2, its2, n2, r2, hl2, e2⟩ := I.lstM hB
  refine PySem.P.add_list e e2 ?_ (by rw [List.size_toArray, List.size_toArray]; omega)
  have ea : its.toArray ++ its2.toArray = (its ++ its2).toArray := by simp
  rw [ea]
  exact ⟨.ref _, _, I.lnew (t' := s.toks) (r.append r2) (by rw [List.length_append]; omega), rfl, q _ I.fresh (Nat.ne_of_gt I.big)⟩
def rSlN (K : PySem.W.Frag) : V → Option Int → Option Int → Hp → VK → Prop := fun x lo hi H Q => ∃ (a : Addr) (xs : List V), x = .ref a ∧ SqL K H a xs ∧ ∀ p, H p = none → p ≠ sysModules → Q (.ref p) (upd H p (.lst (cutV xs lo hi)))
theorem sl_listN : SlR X (rSlN X.K) := by
  intro pins s σ H x v vl vu lo hi sl Q I rx hs pl pu h
  obtain ⟨a, xs, rfl, hx, q⟩ := h
  cases rx
  obtain ⟨its, r, ht, hz⟩ := I.list hx
  have hlen := r.length
  refine ⟨"list", _, slot_list_getitem.lookup, ht.isList.typeIs, ?_⟩
  refine wpAny_getItem_list_slice ht.isList hs pl pu .none (by simp) ?_ (by rw [List.size_toArray] <;> omega)
  rw [slicePick_cut, ← hlen]
  refine ⟨.ref s.heap.objs.size, _, I.laid (t' := s.toks) (o := .lst (cutV xs lo hi)) (fun b ob q => Heap.get?_push_of_some _ q) (Nat.le_refl _) ?_, rfl, q _ (I.hok.fresh (Nat.le_refl _)) (Nat.ne_of_gt I.big)⟩
  exact ⟨Nat.le_trans (cutV_length xs lo hi) hz, _, 0, (r.drop (HT.sIx xs.length 0 lo)).take (HT.sIx xs.length xs.length hi - HT.sIx xs.length 0 lo), Heap.get?_push_size _ rfl⟩
def rRepN : R2 := fun x y H Q => ∃ (l : Addr) (k : Int) (xs : List V), x = .ref l ∧ y = .int k ∧ H l = some (.lst xs) ∧ -(2 ^ 63) ≤ k ∧ k < 2 ^ 63 ∧ xs.length * k.toNat ≤ sizeLine ∧
  ∀ p, H p = none → p ≠ sysModules → Q (.ref p) (upd H p (.lst (List.replicate k.toNat xs).flatten))
theorem op_repN : OpR X (binaryOp .Mult) rRepN := by
  intro pins s σ H x y v u Q I rx ry h
  obtain ⟨l, k, xs, rfl, rfl, hH, h1, h2, hz, q⟩ := h
  cases rx
  obtain ⟨t, rfl⟩ := ry
  obtain ⟨z, its, n, r, hl, e⟩ := I.lstM hH
  have hlen : its.toArray.size * k.toNat ≤ sizeLine := by rw [List.size_toArray, ← hl]; exact hz
  have hcap : ¬ its.toArray.size * k.toNat > (2 ^ 63 - 1) / 8 := by
    have : (sizeLine : Nat) ≤ (2 ^ 63 - 1) / 8 := by decide
    omega
  have hfit : ¬ (!Builtin.List.listFitsIndex k) = true := by
    rw [fitsIndex_both h1 h2]
    exact Bool.false_ne_true
  have hlong : ¬ Builtin.List.listTooLong (its.toArray.size * k.toNat) = true := by
    rw [notLongL hlen]
    exact Bool.false_ne_true
  have hnew : List.foldl (fun x1 x2 => x1 ++ x2) #[] (List.replicate (if its.toArray.isEmpty = true then 0 else k.toNat) its.toArray) = (List.replicate k.toNat its).flatten.toArray := by
    have f0 : ∀ m : Nat, List.foldl (fun x1 x2 => x1 ++ x2) #[] (List.replicate m its.toArray) = (List.replicate m its).flatten.toArray := fun m => by
      have := foldl_rep its m []
      rw [List.nil_append] at this
      exact this
    rw [f0]
    cases its with
    | nil => simp
    | cons a r' => rw [if_neg (by simp)]
  refine wpAny_binaryOp_repeat_ref (T := "list") (U := "int") (by decide) ⟨_, e, rfl⟩ (fun s' => typeIs_int s' k t) noFill_list_mul F.fills_int_mul F.slot_int_rmul repeat_list F.slot_int_index.lookup
    (call_meets F.slot_int_rmul (typeIs_int s k t) F.entry_int_rmul (F.args_int_rmul_2 _ _) (int___rmul___int_list k t l its.toArray n)
      ⟨e, rfl, ⟨_, e, rfl⟩, call_meets F.slot_list_mul ⟨_, e, rfl⟩ F.entry_list_mul (F.args_list_mul_2 _ _) (AutoListH.list___mul___list_int_3 l its.toArray n k t hfit hcap hlong) ⟨e, ?_⟩⟩)
  rw [hnew]
  exact ⟨.ref _, _, I.lnew (t' := s.toks) (r.rep k.toNat) (by rw [PyProof.Rows.lm_len_rep_flat, Nat.mul_comm]; exact hz), rfl, q _ I.fresh (Nat.ne_of_gt I.big)⟩
end
end Bf

/-! Own rules: dicts of the module by their tables; xs.extend(t); comprehensions over zip of tuples. -/
namespace Bf
open PySem PySem.Spec PyProof.Rows L2
/-- the rows of a written dict -/
inductive Rows : List DictEntry → List (Str × V) → Prop
  | nil : Rows [] []
  | cons {e : DictEntry} {k : Str} {t : Tok} {v : V} {es : List DictEntry} {tb : List (Str × V)} (hk : e.key = .str k t) (r : RelV v e.val) (rs : Rows es tb) : Rows (e :: es) ((k, v) :: tb)
def lk {α : Type} (z : Str) : List (Str × α) → Option α
  | [] => none
  | (k, v) :: r => if (k == z) = true then some v else lk z r
theorem rows_find (z : Str) : ∀ {es : List DictEntry} {tb : List (Str × V)}, Rows es tb → (lk z tb = none ∧ es.find? (fun x => x.key.isStr z) = none ∧ (es.any fun x => x.refKey) = false) ∨ ∃ v e, lk z tb = some v ∧ es.find? (fun x => x.key.isStr z) = some e ∧ RelV v e.val
  | _, _, .nil => .inl ⟨rfl, rfl, rfl⟩
  | _, _, .cons (e := e) (k := k) (t := t) hk r rs => by
    have hs : e.key.isStr z = (k == z) := by rw [hk]; rfl
    have hr : e.refKey = false := by unfold DictEntry.refKey; rw [hk]
    by_cases h : (k == z) = true
    · refine .inr ⟨_, e, by unfold lk; rw [if_pos h], ?_, r⟩
      rw [List.find?_cons_of_pos (by rw [hs]; exact h)]
    · rcases rows_find z rs with ⟨a, b, c⟩ | ⟨v, e', a, b, c⟩
      · exact .inl ⟨by unfold lk; rw [if_neg h]; exact a, by rw [List.find?_cons_of_neg (by rw [hs]; exact h)]; exact b, by rw [List.any_cons, hr, c]; rfl⟩
      · exact .inr ⟨v, e', by unfold lk; rw [if_neg h]; exact a, by rw [List.find?_cons_of_neg (by rw [hs]; exact h)]; exact b, c⟩
/-- a written dict and its table -/
structure Dct (K : PySem.W.Frag) (w : World) (a : Addr) (tb : List (Str × V)) : Prop where
  ex : ∃ es n, KDict K w a es n ∧ Rows es.toList tb
theorem Dct.get {K : PySem.W.Frag} {w : World} {a : Addr} {tb : List (Str × V)} (D : Dct K w a tb) (z : Str) : (lk z tb = none → PySem.W.nsIn K a z = some none) ∧ ∀ v, lk z tb = some v → ∃ u, PySem.W.nsIn K a z = some (some u) ∧ RelV v u := by
  obtain ⟨es, n, kd, rs⟩ := D.ex
  have un : PySem.W.nsIn K a z = (match es.toList.find? (fun x => x.key.isStr z) with | some e => some (some e.val) | none => if (es.toList.any fun x => x.refKey) = true then none else some none) := by
    unfold PySem.W.nsIn
    rw [kd.at_]
    rfl
  rcases rows_find z rs with ⟨h1, h2, h3⟩ | ⟨v, e, h1, h2, h3⟩
  · refine ⟨fun _ => ?_, fun v h => by rw [h1] at h; cases h⟩
    rw [un, h2, h3]
    rfl
  · refine ⟨(fun h => by rw [h1] at h; cases h), fun v' h => ?_⟩
    rw [h1] at h
    cases h
    exact ⟨e.val, by rw [un, h2], h3⟩
section
variable {X : Cx} {a : Addr} {tb : List (Str × V)}
theorem op_in_dct (D : Dct X.K X.w a tb) : OpR X (compareOp .In) (fun x y H Q => ∃ z : Str, x = .str z ∧ y = .ref a ∧ Q (.bl (lk z tb).isSome) H) := by
  obtain ⟨es, n, kd, rs⟩ := id D.ex
  intro pins s σ H x y v u Q I rx ry h
  obtain ⟨z, rfl, rfl, q⟩ := h
  cases e : lk z tb with
  | none =>
    rw [e] at q
    exact op_in_kd kd pins s σ H _ _ v u Q I rx ry ⟨z, none, rfl, rfl, (D.get z).1 e, q⟩
  | some w =>
    rw [e] at q
    obtain ⟨u', h1, h2⟩ := (D.get z).2 w e
    exact op_in_kd kd pins s σ H _ _ v u Q I rx ry ⟨z, some u', rfl, rfl, h1, q⟩
theorem op_notIn_dct (D : Dct X.K X.w a tb) : OpR X (compareOp .NotIn) (fun x y H Q => ∃ z : Str, x = .str z ∧ y = .ref a ∧ Q (.bl (!(lk z tb).isSome)) H) := by
  obtain ⟨es, n, kd, rs⟩ := id D.ex
  intro pins s σ H x y v u Q I rx ry h
  obtain ⟨z, rfl, rfl, q⟩ := h
  cases e : lk z tb with
  | none =>
    rw [e] at q
    exact op_notIn_kd kd pins s σ H _ _ v u Q I rx ry ⟨z, none, rfl, rfl, (D.get z).1 e, q⟩
  | some w =>
    rw [e] at q
    obtain ⟨u', h1, h2⟩ := (D.get z).2 w e
    exact op_notIn_kd kd pins s σ H _ _ v u Q I rx ry ⟨z, some u', rfl, rfl, h1, q⟩
theorem op_item_dct (D : Dct X.K X.w a tb) : OpR X getItem (fun x y H Q => ∃ (z : Str) (v : V), x = .ref a ∧ y = .str z ∧ lk z tb = some v ∧ Q v H) := by
  obtain ⟨es, n, kd, rs⟩ := id D.ex
  intro pins s σ H x y v u Q I rx ry h
  obtain ⟨z, v', rfl, rfl, e, q⟩ := h
  obtain ⟨u', h1, h2⟩ := (D.get z).2 v' e
  exact op_item_kd kd pins s σ H _ _ v u Q I rx ry ⟨z, u', v', rfl, rfl, h1, h2, q⟩
theorem extend_tup (l : Addr) (items : Array Value) (n : Nat) (b : Addr) (items2 : Array Value) (n2 : Nat) (dd : Option Addr) (sl : Array (Option Value)) (hs0 : ¬(!items.isEmpty && Builtin.List.listTooLong (items.size + items2.size)) = true) (hs1 : items.size ≤ sizeLine) (hs2 : items.size + items2.size ≤ sizeLine + 1) :
    Meets (Builtin.«list.extend» ⟨[.ref l, .ref b], []⟩) (fun _ R s => s.heap.get? l = some { cls := .type "list", data := .seq items n } ∧ s.heap.get? b = some { cls := .type "tuple", dict := dd, data := .seq items2 n2, slots := sl } ∧
      R (.ok (.ret Value.none)) { s with heap := s.heap.update l (Obj.mapSeq fun x => x ++ items2), toks := s.toks }) :=
  .of_wp fun prog w A R s h => by
    obtain ⟨hp, g, d, tk, os⟩ := s
    obtain ⟨hl, hb, h⟩ := h
    have f1 := AutoSeq1.idx_int
    have f2 := AutoSeq1.sub_tuple_tuple
    have f3 := AutoSeq1.sub_list_list
    have f4 := AutoSeq1.sub_tuple_list
    have f5 := AutoSeq1.sub_list_tuple
    have hz' : (items ++ items2).size ≤ sizeLine + 1 := by rw [Array.size_append]; exact hs2
    wp_walk using (wpAny_updateSeq hl rfl (hz := hs1) (_hz' := hz')), wpAny_loadPart' hl, wpAny_loadPart' hb
    exact ⟨_, rfl, h⟩
/-- d[key] -/
theorem ix_dct (D : Dct X.K X.w a tb) : IxR X (fun x y H Q => ∃ (z : Str) (v : V), x = .ref a ∧ y = .str z ∧ lk z tb = some v ∧ Q v H) := by
  obtain ⟨es, n, kd, rs⟩ := id D.ex
  intro value slice pins s σ H x y v u Q I rx ry h hs
  obtain ⟨z, v', rfl, rfl, e, q⟩ := h
  obtain ⟨u', h1, h2⟩ := (D.get z).2 v' e
  cases rx
  obtain ⟨t, rfl⟩ := ry
  refine tail_any (kd_type kd I) PySem.F.slot_dict_getitem.lookup ?_ hs
  exact wpAny_getItem_of (PySem.strKind_is X.prog X.w z t) (PySem.W.mapOf_K (prog := X.prog) I.kIn kd.at_ kd.lit) (PySem.W.find_K kd.at_ h1) ⟨v', H, I.tok _, h2, q⟩
/-- xs.extend(t), t a tuple -/
def rExtT : V → List V → Hp → VK → Prop := fun x vs H Q => ∃ (l b : Addr) (xs zs : List V), x = .ref l ∧ vs = [.ref b] ∧ H l = some (.lst xs) ∧ H b = some (.tup zs) ∧ xs.length + zs.length ≤ sizeLine ∧ Q .non (upd H l (.lst (xs ++ zs)))
theorem mt_extT : MtM X "list.extend" rExtT := by
  intro pins s σ H x vs v us Q I rx rv h
  obtain ⟨l, b, xs, zs, rfl, rfl, hH, hB, hz, q⟩ := h
  cases rx
  obtain ⟨u, rfl, ru⟩ := rv.one
  cases ru
  obtain ⟨z, its, n, r, hl, e⟩ := I.lstM hH
  obtain ⟨_, its2, r2, ⟨cls, dd, data, sl⟩, e2, c2, n2, d2⟩ := I.hok _ _ hB
  simp only at c2 d2
  subst c2 d2
  have hl2 := r2.length
  have hsz : its.toArray.size + its2.toArray.size ≤ sizeLine := by rw [List.size_toArray, List.size_toArray]; omega
  have hlong : ¬ (!its.toArray.isEmpty && Builtin.List.listTooLong (its.toArray.size + its2.toArray.size)) = true := by
    rw [notLongL hsz, Bool.and_false]
    exact Bool.false_ne_true
  refine call_meets F.slot_list_extend ⟨_, e, rfl⟩ F.entry_list_extend (F.args_list_extend_2 _ _)
    (extend_tup l its.toArray n b its2.toArray n2 dd sl hlong (by rw [List.size_toArray]; omega) (by omega)) ⟨e, e2, ?_⟩
  refine ⟨.non, _, I.lset (its' := its ++ its2) hH e (by simp) (r.append r2) ?_, rfl, q⟩
  rw [List.length_append]
  omega
end
/-- comprehensions over zip of two tuples of one length -/
theorem lc_itzT {K : PySem.W.Frag} {a b : Addr} {xs ys : List V} {g : TG} {tt : TT} {te : TE} {vs : List Nat} {σ : L2.St} {H1 : Hp} {D : Addr} {Qd : Hp → Prop} (hxy : xs.length = ys.length) (Pv : Nat → Hp → Prop) (h0 : Pv 0 (upd H1 D (.lst [])))
    (hl : ∀ i H, i ≤ xs.length → Pv i H → SqT K H a xs ∧ SqT K H b ys)
    (hs : ∀ i x y H T, xs[i]? = some x → ys[i]? = some y → Pv i H → H T = none → g (.ref T) (wipe σ vs) (upd H T (.tup [x, y])) fun σ2 H2 => wipe σ2 vs = wipe σ vs ∧ tt σ2 H2 fun b H3 =>
      if b = true then te σ2 H3 fun y H4 => ∃ acc, H4 D = some (.lst acc) ∧ acc.length < sizeLine ∧ Pv (i + 1) (upd H4 D (.lst (acc ++ [y]))) else Pv (i + 1) H3) (hd : ∀ H, Pv xs.length H → Qd H) :
    ∃ W : Nat → Nat → Hp → Prop, (∃ m, W 0 m (upd H1 D (.lst []))) ∧ ∀ i m H, W i m H →
      ((RZ.ItzT K a b).stop i H ∧ Qd H) ∨ ((RZ.ItzT K a b).go i H ∧ ∃ Nx : Hp → Prop, (∀ H', Nx H' → ∃ m', m' < m ∧ W (i + 1) m' H') ∧ ∀ x H', (RZ.ItzT K a b).yld i H x H' → g x (wipe σ vs) H' fun σ2 H2 => wipe σ2 vs = wipe σ vs ∧ tt σ2 H2 fun b H3 =>
        if b = true then te σ2 H3 fun y H4 => ∃ acc, H4 D = some (.lst acc) ∧ acc.length < sizeLine ∧ Nx (upd H4 D (.lst (acc ++ [y]))) else Nx H3) := by
  refine ⟨fun i m H => m = xs.length - i ∧ i ≤ xs.length ∧ Pv i H, ⟨xs.length, by simp, Nat.zero_le _, h0⟩, ?_⟩
  rintro i m H ⟨rfl, hi, p⟩
  obtain ⟨q1, q2⟩ := hl i H hi p
  by_cases hlt : i < xs.length
  · have h2 : i < ys.length := by omega
    refine .inr ⟨⟨xs, ys, xs[i], ys[i], q1, q2, List.getElem?_eq_getElem hlt, List.getElem?_eq_getElem h2⟩, Pv (i + 1), fun H' p' => ⟨xs.length - (i + 1), by omega, rfl, hlt, p'⟩, fun x H' y => ?_⟩
    obtain ⟨T, z, z2, rfl, nT, rfl, hy, hy2⟩ := y
    exact hs i z z2 H T (hy xs q1) (hy2 ys q2) p nT
  · have e : i = xs.length := by omega
    subst e
    exact .inl ⟨⟨xs, ys, q1, q2, .inl (Nat.le_refl _)⟩, hd H p⟩
end Bf

/-! Own rules: a list or a tuple held against an empty one; any thing held against a text; list(t) and lists that are no module table. -/
namespace Bf
open PySem PySem.Spec PyProof.Rows L2
section
variable {X : Cx}
theorem isEmpty_size {xs : List V} {its : List Value} (h : xs.length = its.length) : xs.isEmpty = (its.toArray.size == ([] : List Value).toArray.size) := by
  rw [List.size_toArray, ← h]
  cases xs <;> rfl
/-- xs == [] -/
def rEqNil (K : PySem.W.Frag) : R2 := fun x y H Q => ∃ (a b : Addr) (xs : List V), x = .ref a ∧ y = .ref b ∧ SqL K H a xs ∧ SqL K H b [] ∧ Q (.bl xs.isEmpty) H
theorem op_eqNil (hu : X.A.units + 64 < cLine) : OpR X (compareOp .Eq) (rEqNil X.K) := by
  intro pins s σ H x y v u Q I rx ry h
  obtain ⟨a, b, xs, rfl, rfl, hx, hy, q⟩ := h
  cases rx
  cases ry
  obtain ⟨its, r, pl, hz⟩ := I.list hx
  obtain ⟨its2, r2, pl2, hz2⟩ := I.list hy
  cases r2
  have u0 : X.A.units < cLine := by omega
  cases r with
  | nil => exact SeqAt.eq_listAt (e := fun _ => true) pl.isList pl2.isList rfl u0 (fun j h1 _ => absurd h1 (by simp)) ⟨.bl true, H, I, rfl, q⟩
  | cons _ _ => exact SeqAt.eq_list_lengthsAt pl.isList pl2.isList (by simp) u0 ⟨.bl false, H, I, rfl, q⟩
/-- xs != [] -/
def rNeNil (K : PySem.W.Frag) : R2 := fun x y H Q => ∃ (a b : Addr) (xs : List V), x = .ref a ∧ y = .ref b ∧ SqL K H a xs ∧ SqL K H b [] ∧ Q (.bl (!xs.isEmpty)) H
theorem op_neNil (hu : X.A.units + 64 < cLine) : OpR X (compareOp .NotEq) (rNeNil X.K) := by
  intro pins s σ H x y v u Q I rx ry h
  obtain ⟨a, b, xs, rfl, rfl, hx, hy, q⟩ := h
  cases rx
  cases ry
  obtain ⟨its, r, pl, hz⟩ := I.list hx
  obtain ⟨its2, r2, pl2, hz2⟩ := I.list hy
  cases r2
  have u0 : X.A.units < cLine := by omega
  cases r with
  | nil => exact SeqAt.RcNeAt.lists (e := fun _ => true) pl.isList pl2.isList rfl u0 (fun j h1 _ => absurd h1 (by simp)) _ _ _ _ ⟨.bl false, H, I, rfl, q⟩
  | cons _ _ => exact SeqAt.RcNeAt.lists_lengths pl.isList pl2.isList (by simp) u0 _ _ _ _ ⟨.bl true, H, I, rfl, q⟩
/-- t == () -/
def rEqNilT (K : PySem.W.Frag) : R2 := fun x y H Q => ∃ (a b : Addr) (xs : List V), x = .ref a ∧ y = .ref b ∧ SqT K H a xs ∧ SqT K H b [] ∧ Q (.bl xs.isEmpty) H
theorem op_eqNilT (hu : X.A.units + 64 < cLine) : OpR X (compareOp .Eq) (rEqNilT X.K) := by
  intro pins s σ H x y v u Q I rx ry h
  obtain ⟨a, b, xs, rfl, rfl, hx, hy, q⟩ := h
  cases rx
  cases ry
  obtain ⟨its, r, pl, hz⟩ := I.tuple hx
  obtain ⟨its2, r2, pl2, hz2⟩ := I.tuple hy
  cases r2
  have u0 : X.A.units < cLine := by omega
  have e : xs.isEmpty = ((List.range (min its.toArray.size ([] : List Value).toArray.size)).all (fun _ => true) && its.toArray.size == ([] : List Value).toArray.size) := by
    rw [isEmpty_size r.length]
    simp
  rw [e] at q
  exact SeqAt.eq_tupleAt (e := fun _ => true) pl pl2 u0 (fun j _ h2 => absurd h2 (by simp)) ⟨.bl _, H, I, rfl, q⟩
theorem rc_dict_str {A : Around} {s : Shared} {l : Addr} {o : Obj} {es : Array DictEntry} {n : Nat} (b : Str) (u : Tok) (ho : s.heap.get? l = some o) (hc : o.cls = .type "dict") (hd : o.data = .dict es n) (hu : A.units < cLine) :
    SeqAt.RcAt A s (.ref l) (.str b u) false := fun prog w E Q h => by
  obtain ⟨cls, dd, data, sl⟩ := o
  simp only at hc hd
  subst hc hd
  exact SeqAt.rc_eq_decline_or (k := false) ⟨_, ho, rfl⟩ (typeIs_str s b u) (by decide) F.sub_str_dict F.slot_dict_eq F.slot_str_eq_refl
    (fun _ hq => call_meets F.slot_dict_eq ⟨_, ho, rfl⟩ F.entry_dict_eq (F.args_dict_eq_2 _ _) (dict_eq_declines_str l _ dd sl b u) ⟨ho, hq⟩)
    (fun _ hq => call_meets F.slot_str_eq_refl (typeIs_str s b u) F.entry_str_eq (F.args_str_eq_2 _ _) (str_eq_declines_dict b u l es n dd sl) ⟨ho, hq⟩)
    (fun _ hq => wpAny_of_eq (rfl : isSame (.ref l) (.str b u) = pure false) hq) (.inr hu) h
/-- x == "…", x any thing -/
def rEqS : R2 := fun x y H Q => ∃ z : Str, y = .str z ∧ Odd H x ∧ Q (.bl (decide (x = .str z))) H
theorem op_eqS (hu : X.A.units + 64 < cLine) : OpR X (compareOp .Eq) rEqS := by
  intro pins s σ H x y v u Q I rx ry h
  obtain ⟨z, rfl, od, q⟩ := h
  have u0 : X.A.units < cLine := by omega
  cases od with
  | non => exact op_eq pins s σ H _ _ v u Q I rx ry ⟨rfl, q⟩
  | bl b => exact op_eq pins s σ H _ _ v u Q I rx ry ⟨rfl, q⟩
  | int i => exact op_eq pins s σ H _ _ v u Q I rx ry ⟨rfl, q⟩
  | str y => exact op_eq pins s σ H _ _ v u Q I rx ry ⟨rfl, q⟩
  | lst h =>
    cases rx
    obtain ⟨t, rfl⟩ := ry
    obtain ⟨_, its, n, rv, e⟩ := I.hok _ _ h
    exact SeqAt.RcAt.list_str z t (items := its.toArray) ⟨_, e, rfl, _, rfl⟩ u0 _ _ _ _ ⟨.bl false, H, I, rfl, q⟩
  | tup h =>
    cases rx
    obtain ⟨t, rfl⟩ := ry
    obtain ⟨_, its, rv, o, e1, e2, n, e3⟩ := I.hok _ _ h
    exact SeqAt.RcAt.tuple_str z t ⟨o, e1, e2, n, e3⟩ u0 _ _ _ _ ⟨.bl false, H, I, rfl, q⟩
  | emp h =>
    cases rx
    obtain ⟨t, rfl⟩ := ry
    obtain ⟨_, sm, vs, kv, o, es, ep, e1, e2, e3, _, e4, _⟩ := I.hok _ _ h
    exact rc_dict_str z t e1 e2.1 e3 u0 _ _ _ _ ⟨.bl false, H, I, rfl, q⟩
/-- list(x): a new list, not the module table -/
def rListN (K : PySem.W.Frag) : List V → Hp → VK → Prop := fun xs H Q => ∃ p ys, xs = [.ref p] ∧ (SqL K H p ys ∨ SqT K H p ys) ∧ ∀ l, H l = none → l ≠ sysModules → Q (.ref l) (upd H l (.lst ys))
theorem call_listN : CallR X (.type "list") (rListN X.K) := by
  intro pins s σ H xs us Q I rv w
  obtain ⟨p, ys, rfl, seq, ask⟩ := w
  obtain ⟨u, rfl, ru⟩ := vals1 rv
  cases ru
  obtain ⟨its, rel, small, o, at_, n, dat, cl⟩ : ∃ (its : List Value), Vals ys its ∧ ys.length ≤ sizeLine ∧ ∃ (o : Obj), s.heap.get? p = some o ∧ ∃ n, o.data = .seq its.toArray n ∧ (o.cls = .type "list" ∨ o.cls = .type "tuple") := by
    rcases seq with seq | seq
    · obtain ⟨its, rel, pl, small⟩ := I.list seq
      obtain ⟨o, at_, cl, n, dat⟩ := pl.isList
      exact ⟨its, rel, small, o, at_, n, dat, .inl cl⟩
    · obtain ⟨its, rel, ⟨o, at_, cl, n, dat⟩, small⟩ := I.tuple seq
      exact ⟨its, rel, small, o, at_, n, dat, .inr cl⟩
  have len := rel.length
  have fits : its.toArray.size ≤ sizeLine := by rw [List.size_toArray]; omega
  have done : ∀ (G : Heap) (m : Nat), (∀ b z, s.heap.get? b = some z → G.get? b = some z) → G.get? s.heap.objs.size = some { cls := .type "list", dict := none, data := .seq its.toArray m, slots := #[] } → EP X pins σ Q (.ref s.heap.objs.size) { s with heap := G } := fun G m kp e =>
    ⟨.ref s.heap.objs.size, _, I.laid (t' := s.toks) (o := .lst ys) kp (Nat.le_refl _) ⟨small, its, m, rel, e⟩, rfl, ask _ (I.hok.fresh (Nat.le_refl _)) (Nat.ne_of_gt I.big)⟩
  rcases cl with cl | cl
  · exact call_list_seq p (.inl rfl) at_ cl dat done (by omega)
  · exact call_list_seq p (.inr rfl) at_ cl dat done (by omega)
end
end Bf

namespace Bf
open PySem PySem.Spec PyProof.Rows L2
section
variable {X : Cx}
/-- repr(x), x a list of any address -/
def rReprL : List V → Hp → VK → Prop := fun xs H Q => ∃ (a : Addr) (ys : List V) (P : Addr → Prop) (b : Bool) (ds : List PyData), xs = [.ref a] ∧ H a = some (.lst ys) ∧ ShAll H P b ys ds ∧ (PyData.list ds).showable = true ∧ (PyData.list ds).depth ≤ 60 ∧ (PyData.list ds).shown.length ≤ sizeLine ∧ Q (.str (PyData.list ds).shown) H
theorem call_reprL (hA : X.A.guards = some []) (hu : X.A.units + 64 < cLine) : CallR X (.builtin "repr") rReprL := by
  intro pins s σ H xs us Q I r h
  obtain ⟨a, ys, P, b, ds, rfl, ha, hs, sw, dp, sz, q⟩ := h
  obtain ⟨u, rfl, rx⟩ := vals1 r
  cases rx
  obtain ⟨_, its, n, rv, e⟩ := I.hok _ _ ha
  obtain ⟨as, rd, hp⟩ := Sh.readsAll I ds ys its hs rv
  have nodict : PyData.hasDictAll ds = true → sysModules ∉ as := fun hd z => by
    cases b with
    | false => rw [ShAll.nodict ds ys hs] at hd; cases hd
    | true => exact hp rfl _ z rfl
  have sz' : (listText (PyData.shownAll ds)).length ≤ sizeLine := by simpa only [PyData.shown] using sz
  have sw' : PyData.showableAll ds = true := by simpa only [PyData.showable] using sw
  obtain ⟨bs, hb, hk⟩ := ReprAllK.of_readsAll (prog := X.prog) (w := X.w) rd sw' nodict (fun t ht => Nat.le_trans (listText_mem_le ht) sz')
  have whole : Reads s.heap (.ref a) (.list ds) (a :: as) := .list e rfl rfl (by simpa using rd)
  have hna : a ∉ bs := not_mem_of_deeper whole (by simp only [PyData.depth]; omega) hb
  simp only [PyData.depth] at dp
  have fin : ∀ h' u tk, (∀ b o, s.heap.get? b = some o → h'.get? b = some o) → EP X pins σ Q (.str (PyData.list ds).shown u) { s with heap := h', toks := tk } := fun h' u tk k => ⟨.str (PyData.list ds).shown, H, I.kept k, ⟨u, rfl⟩, q⟩
  simp only [PyData.shown] at fin
  refine call_repr_slot (by omega) ⟨_, e, rfl⟩ F.slot_list_repr.toG ?_
  cases its with
  | nil =>
    cases rd
    simp only [PyData.shownAll, listText_nil] at fin
    exact call_list_repr_empty ⟨_, e, rfl⟩ e rfl ⟨_, _, rfl, fin s.heap _ _ fun _ _ e => e⟩
  | cons x l =>
    exact call_list_reprK e rfl rfl hna (by simpa using hk.length_eq) (fun i y e => hk.item i y (by simpa using e)) hA (fun b _ => Clear.nil b) (by show X.A.units + 1 + _ < cLine; omega) (fun _ _ e => e) (fun h' u tk hk => ⟨_, _, rfl, fin h' u tk hk⟩) sz'
end
end Bf

/-! Own rules: d.get(None, x); dict comprehensions over a list; repr of a list in which dicts of flat values stand. -/
namespace Bf
open PySem PySem.Spec PyProof.Rows L2
section
variable {X : Cx} {pins : List (Addr × Obj)} {σ : L2.St} {H : Hp} {s : Shared} {a : Addr} {kvs : List (Key × V)} {A : Around} {E : Value → Shared → Prop}
theorem d_get2None {d : V} {r : Value} {Q : Value → Shared → Prop} (I : L2.Inv X pins σ H s) (e : Rd H a (.dK kvs)) (rd : RelV d r) (h : ∀ w' s', L2.Inv X pins σ H s' → RelV d w' → Q w' s') :
    wpAny (model X.prog X.w) A (call (.builtin "dict.get") [.ref a, .none, r]) Q E s := by
  obtain ⟨_, hd, vs, _, dd⟩ := dk_rd I.hok e
  obtain ⟨f, hm, hf⟩ := none_map dd
  refine call_meetsIn PySem.F.slot_dict_get dd.typeIs PySem.F.entry_dict_get (PySem.F.args_dict_get_3 _ _ _) (meets_dict_get_default (noneKind X.prog X.w) a (show (noneKind X.prog X.w).is none .none = true from rfl) hd r) ⟨_, hm, ?_⟩
  rw [hf]
  exact h _ _ (I.tok _) rd
end
/-- d.get(y, x), y perhaps None -/
def tDGet2N (td ty tx : TE) : TE := fun σ H Q => td σ H fun x H1 => ∃ a, x = .ref a ∧ IsD H1 a ∧ ty σ H1 fun y H2 => tx σ H2 fun z H3 => (∃ o, DGet H3 a y o ∧ Q (o.getD z) H3) ∨ (y = .non ∧ ∃ kvs, Rd H3 a (.dK kvs) ∧ Q z H3)
theorem pe_dget2N {X : Cx} {o e f : Expr} {apos cpos : Pos} {td ty tx : TE} (hu : X.A.units + 1 < cLine) (ho : PE X o td) (he : PE X e ty) (hf : PE X f tx) (m : M2 X o "get" apos e f cpos) : PE X (.Call (.Attribute o "get" apos) [e, f] [] cpos) (tDGet2N td ty tx) := by
  refine ⟨fun pins s σ H Q I h => ?_⟩
  refine wpAny_Call_method m.base m.few m.line PySem.F.plainAttrs_dict PySem.F.slot_dict_get PySem.F.type_dict_get (thn (ho.run pins s σ H _ I h) fun u s1 ⟨x, H1, I1, rx, a, ex, d, q1⟩ => ?_)
  subst ex
  obtain rfl : u = Value.ref a := rx
  obtain ⟨t1, t2, _⟩ := isD_at I1 d
  refine ⟨t1, t2, ?_⟩
  rw [m.trees]
  refine Calls.callWith_builtin rfl (Calls.evalArgs_plain (Calls.spliced_cons (thn (he.run pins s1 σ H1 _ I1 q1) fun iv s2 ⟨y, H2, I2, ry, q2⟩ =>
    Calls.spliced_cons (thn (hf.run pins s2 σ H2 _ I2 q2) fun fv s3 ⟨z, H3, I3, rz, q3⟩ => Calls.spliced_nil ?_))))
  rcases q3 with ⟨ov, g, q3⟩ | ⟨rfl, kvs, g, q3⟩
  · exact d_get2 hu I3 g ry rz fun w' s4 I4 rw' => ⟨_, H3, I4, rw', q3⟩
  · cases ry
    exact d_get2None I3 g rz fun w' s4 I4 rw' => ⟨_, H3, I4, rw', q3⟩
/-- dict comprehensions over a list that stays -/
theorem dc_list {K : PySem.W.Frag} {a : Addr} {xs : List V} {g : TG} {tt : TT} {tk tv : TE} {vs : List Nat} {σ : L2.St} {H1 : Hp} {D : Addr} {Qd : Hp → Prop} (Pv : Nat → Hp → Prop) (h0 : Pv 0 (upd H1 D (.dK []))) (hl : ∀ i H, i ≤ xs.length → Pv i H → SqL K H a xs)
    (hs : ∀ i x H, xs[i]? = some x → Pv i H → g x (wipe σ vs) H fun σ2 H2 => wipe σ2 vs = wipe σ vs ∧ tt σ2 H2 fun b H3 =>
      if b = true then tk σ2 H3 fun y H4 => tv σ2 H4 fun z H5 => ∃ kvs k, y = kV k ∧ H5 D = some (.dK kvs) ∧ kvs.length < sizeLine ∧ Pv (i + 1) (upd H5 D (.dK (putK kvs k z))) else Pv (i + 1) H3) (hd : ∀ H, Pv xs.length H → Qd H) :
    ∃ W : Nat → Nat → Hp → Prop, (∃ m, W 0 m (upd H1 D (.dK []))) ∧ ∀ i m H, W i m H →
      ((Itl K a).stop i H ∧ Qd H) ∨ ((Itl K a).go i H ∧ ∃ Nx : Hp → Prop, (∀ H', Nx H' → ∃ m', m' < m ∧ W (i + 1) m' H') ∧ ∀ x H', (Itl K a).yld i H x H' → g x (wipe σ vs) H' fun σ2 H2 => wipe σ2 vs = wipe σ vs ∧ tt σ2 H2 fun b H3 =>
        if b = true then tk σ2 H3 fun y H4 => tv σ2 H4 fun z H5 => ∃ kvs k, y = kV k ∧ H5 D = some (.dK kvs) ∧ kvs.length < sizeLine ∧ Nx (upd H5 D (.dK (putK kvs k z))) else Nx H3) := by
  refine ⟨fun i m H => m = xs.length - i ∧ i ≤ xs.length ∧ Pv i H, ⟨xs.length, by simp, Nat.zero_le _, h0⟩, ?_⟩
  rintro i m H ⟨rfl, hi, p⟩
  have q := hl i H hi p
  by_cases hlt : i < xs.length
  · refine .inr ⟨⟨xs, xs[i], q, by simp [hlt]⟩, Pv (i + 1), fun H' p' => ⟨xs.length - (i + 1), by omega, rfl, hlt, p'⟩, fun x H' y => ?_⟩
    obtain ⟨e, y⟩ := y
    subst e
    exact hs i x _ (y xs q) p
  · have e : i = xs.length := by omega
    subst e
    exact .inl ⟨⟨xs, q, Nat.le_refl _⟩, hd H p⟩

/-! ### repr of lists in which dicts of flat values stand -/
inductive Fl : V → PyData → Prop
  | non : Fl .non .none
  | bl (b : Bool) : Fl (.bl b) (.bool b)
  | int (i : Int) : Fl (.int i) (.int i)
  | str (z : Str) : Fl (.str z) (.str z)
def keyD : Key → PyData
  | .inl i => .int i
  | .inr x => .str x
inductive DicAll : List (Key × V) → List (PyData × PyData) → Prop
  | nil : DicAll [] []
  | cons {k : Key} {v : V} {d : PyData} {kvs : List (Key × V)} {ds : List (PyData × PyData)} (h : Fl v d) (r : DicAll kvs ds) : DicAll ((k, v) :: kvs) ((keyD k, d) :: ds)
theorem Fl.reads {h : Heap} {v : V} {d : PyData} {u : Value} (f : Fl v d) (r : RelV v u) : Reads h u d [] := by
  cases f with
  | non => cases r; exact .none
  | bl b => cases r; exact .bool b
  | int i => obtain ⟨t, rfl⟩ := r; exact .int i t
  | str z => obtain ⟨t, rfl⟩ := r; exact .str z t
theorem key_reads {h : Heap} {k : Key} {u : Value} (r : keyIs k u = true) : Reads h u (keyD k) [] := by
  rcases keyIs_shape r with ⟨i, t, rfl, rfl⟩ | ⟨x, t, rfl, rfl⟩
  · exact .int i t
  · exact .str x t
theorem DicAll.reads {P : Program} {w : World} {h : Heap} : ∀ {kvs : List (Key × V)} {ds : List (PyData × PyData)} {vs : List (Key × Value)} {es : List DictEntry}, DicAll kvs ds → KV kvs vs → Pairs (mixKind P w) es vs →
    ReadsAll h (es.map (·.key)) (ds.map (·.1)) [] ∧ ReadsAll h (es.map (·.val)) (ds.map (·.2)) []
  | _, _, _, _, .nil, kv, pr => by
    cases kv
    cases pr
    exact ⟨.nil, .nil⟩
  | _, _, _, _, .cons f r, kv, pr => by
    cases kv with
    | cons q kv =>
      cases pr with
      | cons h1 h2 pr =>
        obtain ⟨a, b⟩ := r.reads kv pr
        obtain ⟨q1, q2⟩ := q
        refine ⟨ReadsAll.cons (as := []) (bs := []) (key_reads ?_) a, ReadsAll.cons (as := []) (bs := []) (f.reads ?_) b⟩
        · have z : keyIs _ _ = true := h1
          rw [← q1] at z
          exact z
        · have z := h2 ▸ q2
          exact z

/-- a thing to be shown: data, or a dict of flat values -/
inductive Sd (H : Hp) (P : Addr → Prop) : V → PyData → Prop
  | sh {x : V} {d : PyData} (h : Sh H P true x d) : Sd H P x d
  | dic {a : Addr} {kvs : List (Key × V)} {ds : List (PyData × PyData)} (h : H a = some (.dK kvs)) (r : DicAll kvs ds) : Sd H P (.ref a) (.dict ds)
inductive SdAll (H : Hp) (P : Addr → Prop) : List V → List PyData → Prop
  | nil : SdAll H P [] []
  | cons {v : V} {vs : List V} {d : PyData} {ds : List PyData} (h : Sd H P v d) (r : SdAll H P vs ds) : SdAll H P (v :: vs) (d :: ds)
section
variable {X : Cx} {pins : List (Addr × Obj)} {σ : L2.St} {H : Hp} {s : Shared} {P : Addr → Prop}
theorem Sd.reads (I : L2.Inv X pins σ H s) {d : PyData} {v : V} {u : Value} (h : Sd H P v d) (r : RelV v u) : ∃ as, Reads s.heap u d as ∧ (∀ a ∈ as, a ≠ sysModules) := by
  cases h with
  | sh h =>
    obtain ⟨as, q, p⟩ := Sh.reads I d v u h r
    exact ⟨as, q, p rfl⟩
  | dic h da =>
    cases r
    obtain ⟨_, sm, vs, kv, o, es, ep, e1, e2, e3, _, e4, _⟩ := I.hok _ _ h
    obtain ⟨r1, r2⟩ := da.reads (h := s.heap) kv e4
    refine ⟨_, .dict e1 e2.1 e3 r1 r2, fun a z => ?_⟩
    rcases List.mem_cons.mp z with e | e
    · exact e ▸ beq_eq_false_iff_ne.mp sm
    · cases e
theorem SdAll.reads (I : L2.Inv X pins σ H s) : ∀ {ds : List PyData} {vs : List V} {us : List Value}, SdAll H P vs ds → Vals vs us → ∃ as, ReadsAll s.heap us ds as ∧ (∀ a ∈ as, a ≠ sysModules)
  | _, _, _, .nil, r => by
    cases r
    exact ⟨_, .nil, fun _ z => nomatch z⟩
  | _, _, _, .cons h1 h2, r => by
    cases r with
    | cons r1 r2 =>
      obtain ⟨as, q1, p1⟩ := Sd.reads I h1 r1
      obtain ⟨bs, q2, p2⟩ := SdAll.reads I h2 r2
      exact ⟨_, .cons q1 q2, fun a z => (List.mem_append.mp z).elim (p1 a) (p2 a)⟩
end
section
variable {X : Cx}
/-- repr(x), x a list of any address, dicts of flat values in it -/
def rReprD : List V → Hp → VK → Prop := fun xs H Q => ∃ (a : Addr) (ys : List V) (P : Addr → Prop) (ds : List PyData), xs = [.ref a] ∧ H a = some (.lst ys) ∧ SdAll H P ys ds ∧ (PyData.list ds).showable = true ∧ (PyData.list ds).depth ≤ 60 ∧ (PyData.list ds).shown.length ≤ sizeLine ∧ Q (.str (PyData.list ds).shown) H
theorem call_reprD (hA : X.A.guards = some []) (hu : X.A.units + 64 < cLine) : CallR X (.builtin "repr") rReprD := by
  intro pins s σ H xs us Q I r h
  obtain ⟨a, ys, P, ds, rfl, ha, hs, sw, dp, sz, q⟩ := h
  obtain ⟨u, rfl, rx⟩ := vals1 r
  cases rx
  obtain ⟨_, its, n, rv, e⟩ := I.hok _ _ ha
  obtain ⟨as, rd, hp⟩ := SdAll.reads I hs rv
  have nodict : PyData.hasDictAll ds = true → sysModules ∉ as := fun hd z => hp _ z rfl
  have sz' : (listText (PyData.shownAll ds)).length ≤ sizeLine := by simpa only [PyData.shown] using sz
  have sw' : PyData.showableAll ds = true := by simpa only [PyData.showable] using sw
  obtain ⟨bs, hb, hk⟩ := ReprAllK.of_readsAll (prog := X.prog) (w := X.w) rd sw' nodict (fun t ht => Nat.le_trans (listText_mem_le ht) sz')
  have whole : Reads s.heap (.ref a) (.list ds) (a :: as) := .list e rfl rfl (by simpa using rd)
  have hna : a ∉ bs := not_mem_of_deeper whole (by simp only [PyData.depth]; omega) hb
  simp only [PyData.depth] at dp
  have fin : ∀ h' u tk, (∀ b o, s.heap.get? b = some o → h'.get? b = some o) → EP X pins σ Q (.str (PyData.list ds).shown u) { s with heap := h', toks := tk } := fun h' u tk k => ⟨.str (PyData.list ds).shown, H, I.kept k, ⟨u, rfl⟩, q⟩
  simp only [PyData.shown] at fin
  refine call_repr_slot (by omega) ⟨_, e, rfl⟩ F.slot_list_repr.toG ?_
  cases its with
  | nil =>
    cases rd
    simp only [PyData.shownAll, listText_nil] at fin
    exact call_list_repr_empty ⟨_, e, rfl⟩ e rfl ⟨_, _, rfl, fin s.heap _ _ fun _ _ e => e⟩
  | cons x l =>
    exact call_list_reprK e rfl rfl hna (by simpa using hk.length_eq) (fun i y e => hk.item i y (by simpa using e)) hA (fun b _ => Clear.nil b) (by show X.A.units + 1 + _ < cLine; omega) (fun _ _ e => e) (fun h' u tk hk => ⟨_, _, rfl, fin h' u tk hk⟩) sz'
end
end Bf

/-! Own rules: a call whose callee is an expression that gives one of some defs, where what is raised is wished for at the caller's slots; what an expression makes; a dict of one pair. -/
namespace Bf
open PySem PySem.Spec PyProof.Rows L2
def tCallES (S : Addr → Sp) (ok : Addr → Prop) (E : L2.St → XK) (tf : TE) (t : TA) : TE := fun σ H Q => tf σ H fun y H1 => ∃ f, y = V.ref f ∧ ok f ∧ t σ H1 fun vs H2 => S f vs H2 Q (E σ)
theorem pe_callES {X : Cx} {CX : CXT} {k : Nat} {S : Addr → Sp} {ok : Addr → Prop} {E : L2.St → XK} {fe e : Expr} {es : List Expr} {pos : Pos} {tf : TE} {t : TA} (hf : PE X fe tf)
    (A : ∀ f, ok f → ∃ fd ps, FnOk X.prog X.w X.K X.mg X.base CX k f fd ps (S f) ∧ PySem.W.keepIn X.K (.ref f) = true ∧ Binds X.K fd ps []) (hr : Room k X.A) (hx : ∀ σ, PassesAt CX X σ (E σ)) (ha : PA X (e :: es) t)
    (ht : eval (.Call fe (e :: es) [] pos) X.env = (do callWith pos (← eval fe X.env) [] (backTo pos (starEach (e :: es) X.env)) (backToKw pos (keywordEach [] X.env))) := by rfl)
    (he : starEach (e :: es) X.env = (false, eval e X.env) :: starEach es X.env := by rfl) (hpl : (backTo pos (starEach es X.env)).any (·.1) = false := by rfl) : PE X (.Call fe (e :: es) [] pos) (tCallES S ok E tf t) := by
  refine ⟨fun pins s σ H Q I h => ?_⟩
  rw [ht]
  refine wpAny_bind (thn (hf.run pins s σ H _ I h) fun u s1 ⟨y, H1, I1, ry, f, ey, okf, q⟩ => ?_)
  subst ey
  obtain rfl : u = Value.ref f := ry
  obtain ⟨fd, ps, F, hk, hb⟩ := A f okf
  refine PySem.W.callWith_K (h₀ := X.base) I1.ok.mod.kin hk (thn (ha.run pos pins s1 σ H1 _ I1 q) fun us s2 ⟨vs, H2, I2, r, q2⟩ => ⟨I2.kIn, ?_⟩) he hpl
  exact run_fnSD F hr hb .nil (hx σ) I2 r (by rw [List.append_nil]; exact q2)
/-! ### what an expression makes -/
def Mks (t : TE) (σ : L2.St) (H : Hp) (Φ : V → Hp → Prop) : Prop := ∀ Q : VK, (∀ v G, Same H G → Φ v G → Q v G) → t σ H Q
def MksA (t : TA) (σ : L2.St) (H : Hp) (n : Nat) (Φ : V → Hp → Prop) : Prop := ∀ Q : List V → Hp → Prop, (∀ vs G, Same H G → vs.length = n → (∀ v ∈ vs, Φ v G) → Q vs G) → t σ H Q
def MkE (σ : L2.St) (H0 : Hp) (t : TE) (Φ : V → Hp → Prop) : Prop := ∀ G, Same H0 G → Mks t σ G Φ
def MkA (σ : L2.St) (H0 : Hp) (t : TA) (n : Nat) (Φ : V → Hp → Prop) : Prop := ∀ G, Same H0 G → MksA t σ G n Φ
section
variable {σ : L2.St} {H0 : Hp} {Φ : V → Hp → Prop} {t : TE} {u : TA} {n : Nat}
theorem mk_nil : MkA σ H0 tNil 0 Φ := fun G _ Q q => q [] G (fun _ _ e => e) rfl fun _ m => nomatch m
theorem mk_cons (hΦ : ∀ v G G', Same G G' → Φ v G → Φ v G') (h1 : MkE σ H0 t Φ) (h2 : MkA σ H0 u n Φ) : MkA σ H0 (tCons t u) (n + 1) Φ := fun G s Q q =>
  h1 G s _ fun v G1 s1 p1 => h2 G1 (fun b o e => s1 _ _ (s _ _ e)) _ fun vs G2 s2 l p2 => q (v :: vs) G2 (fun b o e => s2 _ _ (s1 _ _ e)) (by rw [List.length_cons, l]) fun x m => (List.mem_cons.mp m).elim (fun e => e ▸ hΦ v G1 G2 s2 p1) (p2 x)
theorem new_same {H : Hp} {p : Addr} {o : HO} (h : H p = none) : Same H (upd H p o) := fun b u e => by
  have nb : b ≠ p := fun z => by rw [z, h] at e; cases e
  rw [upd_ne nb]
  exact e
theorem free_of {H G : Hp} {a : Addr} (s : Same H G) (h : G a = none) : H a = none := by
  cases z : H a with
  | none => rfl
  | some o => rw [s _ _ z] at h; cases h
theorem mk_c {v : V} (h : ∀ G, Same H0 G → Φ v G) : MkE σ H0 (tC v) Φ := fun G s Q q => q v G (fun _ _ e => e) (h G s)
theorem mk_emp (h : ∀ a G, Same H0 G → H0 a = none → G a = some (.dK []) → Φ (.ref a) G) : MkE σ H0 tDNewK Φ := fun G s Q q a ha =>
  q _ _ (new_same ha) (h a _ (fun b o e => new_same ha _ _ (s _ _ e)) (free_of s ha) upd_same)
theorem mk_dic1 {kx v : V} {key : Key} (ek : kx = kV key) (h : ∀ a G, Same H0 G → H0 a = none → G a = some (.dK [(key, v)]) → Φ (.ref a) G) : MkE σ H0 (tDisp [(tC kx, tC v)]) Φ := fun G s Q q a ha => by
  refine ⟨upd_same, [(key, v)], by rw [ek]; rfl, by show 1 ≤ 15; decide, ?_⟩
  have e : Same G (upd (upd G a (.dK [])) a (.dK (mergeK [] [(key, v)]))) := fun b o e => by
    have nb : b ≠ a := fun z => by rw [z, ha] at e; cases e
    rw [upd_ne nb, upd_ne nb]
    exact e
  exact q _ _ e (h a _ (fun b o z => e _ _ (s _ _ z)) (free_of s ha) upd_same)
theorem mk_list (hu : ∀ G, Same H0 G → ∀ Q : List V → Hp → Prop, (∀ vs G', Same G G' → vs.length ≤ 1000 → (∀ a, G' a = none → a ≠ sysModules → Φ (.ref a) (upd G' a (.lst vs))) → Q vs G') → u σ G Q) : MkE σ H0 (tLstN u) Φ := fun G s Q q =>
  hu G s _ fun vs G' s' l h => ⟨l, fun a ha na => q _ _ (fun b o e => new_same ha _ _ (s' _ _ e)) (h a ha na)⟩
theorem mk_tup (hu : ∀ G, Same H0 G → ∀ Q : List V → Hp → Prop, (∀ vs G', Same G G' → vs.length ≤ sizeLine → (∀ a, G' a = none → Φ (.ref a) (upd G' a (.tup vs))) → Q vs G') → u σ G Q) : MkE σ H0 (tTup u) Φ := fun G s Q q =>
  hu G s _ fun vs G' s' l h => ⟨l, fun a ha => q _ _ (fun b o e => new_same ha _ _ (s' _ _ e)) (h a ha)⟩
end
end Bf

/-! Own rules: a text taken never or once; `!=` of data. -/
namespace Bf
open PySem PySem.Spec PyProof.Rows L2
def rMulS : R2 := fun x y H Q => ∃ (z : Str) (k : Int), x = .str z ∧ y = .int k ∧ ((k = 0 ∧ Q (.str Str.empty) H) ∨ (k = 1 ∧ Q (.str z) H))
theorem op_mulS {X : Cx} : OpR X (binaryOp .Mult) rMulS := by
  intro pins s σ H x y v u Q I rx ry h
  obtain ⟨z, k, rfl, rfl, h⟩ := h
  obtain ⟨t, rfl⟩ := rx
  obtain ⟨t', rfl⟩ := ry
  rcases h with ⟨rfl, q⟩ | ⟨rfl, q⟩
  · exact P.mul_str_none (by decide) (by decide) ⟨.str Str.empty, H, I.tok _, ⟨_, rfl⟩, q⟩
  · refine P.mul_str (by decide) (fun _ e => ?_) (fun _ e => ?_) ?_
    · cases e
    · cases e
    · rw [if_neg (by decide), if_pos (by rfl)]
      exact ⟨.str z, H, I, ⟨_, rfl⟩, q⟩
def rNeSh : R2 := fun x y H Q => ∃ (P1 P2 : Addr → Prop) (b1 b2 : Bool) (d e : PyData), Sh H P1 b1 x d ∧ Sh H P2 b2 y e ∧ SeqAt.shaped d = true ∧ SeqAt.shaped e = true ∧ Q (.bl (!PyData.eqv d e)) H
theorem op_neSh {X : Cx} (hu : X.A.units + 64 < cLine) : OpR X (compareOp .NotEq) rNeSh := by
  intro pins s σ H x y v u Q I rx ry h
  obtain ⟨P1, P2, b1, b2, d, e, hd, he, sd, se, q⟩ := h
  obtain ⟨as, r1, _⟩ := Sh.reads I d x v hd rx
  obtain ⟨bs, r2, _⟩ := Sh.reads I e y u he ry
  exact SeqAt.compareNe_shaped r1 r2 sd se hu ⟨.bl _, H, I, rfl, q⟩
end Bf

namespace Bf
open PySem PySem.Spec PyProof.Rows L2

/-! ### things by their types -/
inductive Kn (K : PySem.W.Frag) (H : Hp) : V → String → Prop
  | non : Kn K H .non "NoneType"
  | bl (b : Bool) : Kn K H (.bl b) "bool"
  | int (i : Int) : Kn K H (.int i) "int"
  | str (z : Str) : Kn K H (.str z) "str"
  | lst {a : Addr} (h : TyX K H (.ref a) (.type "list")) : Kn K H (.ref a) "list"
  | tup {a : Addr} (h : TyX K H (.ref a) (.type "tuple")) : Kn K H (.ref a) "tuple"
  | dic {a : Addr} (h : TyX K H (.ref a) (.type "dict")) : Kn K H (.ref a) "dict"
theorem Kn.ty {K : PySem.W.Frag} {H : Hp} {x : V} {n : String} (h : Kn K H x n) : TyX K H x (.type n) := by
  cases h with
  | non => exact .base .non
  | bl b => exact .base (.bl b)
  | int i => exact .base (.int i)
  | str z => exact .base (.str z)
  | lst h => exact h
  | tup h => exact h
  | dic h => exact h
def wholeB (x : V) (lo hi : Int) : Bool := match x with
  | .int i => decide (lo ≤ i) && decide (i ≤ hi)
  | _ => false
theorem wholeB_int {x : V} {lo hi : Int} (h : wholeB x lo hi = true) : ∃ i, x = .int i ∧ lo ≤ i ∧ i ≤ hi := by
  cases x with
  | int i =>
    have z : (decide (lo ≤ i) && decide (i ≤ hi)) = true := h
    obtain ⟨a, b⟩ := Bool.and_eq_true_iff.mp z
    exact ⟨i, rfl, of_decide_eq_true a, of_decide_eq_true b⟩
  | _ => cases h
theorem wholeB_of {i lo hi : Int} (a : lo ≤ i) (b : i ≤ hi) : wholeB (.int i) lo hi = true := by
  show (decide (lo ≤ i) && decide (i ≤ hi)) = true
  rw [decide_eq_true a, decide_eq_true b]; rfl

/-- a def of the text as its callers need it -/
structure Df (K : PySem.W.Frag) (mg : Str → Option Value) (x : Str) (f : Addr) (fd : FuncData) (ps : List Str) : Prop where
  at_ : mg x = some (.ref f)
  kp : PySem.W.keepIn K (.ref f) = true
  bd : Binds K fd ps []
abbrev CXL (P : Program) (w : World) : CXT := L2.CX P w

namespace K5
def top (i : Nat) : Stmt := PySem.Challenge.pw_beatflows_k05_names_in_terms.main.body.getD i (.Pass ⟨0, 0, 0, 0⟩)
abbrev sFE : Stmt := inClass (top 1) 0
abbrev sNK : Stmt := inClass (top 4) 0
abbrev sNT : Stmt := inClass (top 5) 0
abbrev sWhole : Stmt := top 8
abbrev sName : Stmt := top 10
abbrev sWidth : Stmt := top 11
abbrev sTruth : Stmt := top 12
abbrev sKind : Stmt := top 13
abbrev sIsWorth : Stmt := top 14
abbrev sGreat : Stmt := top 15
abbrev sWorthOf : Stmt := top 16
abbrev sAre : Stmt := top 17
abbrev sIsRight : Stmt := top 22
abbrev sPartsOf : Stmt := top 23
abbrev sNodeName : Stmt := top 28
abbrev sNeedRight : Stmt := top 29
abbrev sIsCall : Stmt := top 30
abbrev sAreTerms : Stmt := top 31
abbrev sFormed : Stmt := top 32
abbrev sFits : Stmt := top 33
abbrev sWithin : Stmt := top 34
abbrev sParts : Stmt := top 35
abbrev sCell : Stmt := top 41
abbrev sPurse : Stmt := top 42
abbrev sTake : Stmt := top 43
abbrev sOf : Stmt := top 44
abbrev sLName : Stmt := top 45
abbrev sLKind : Stmt := top 46
abbrev sLWorth : Stmt := top 47
abbrev sAny : Stmt := top 48
abbrev sSide : Stmt := top 49
abbrev sAsked : Stmt := top 55
abbrev sLaw : Stmt := top 58
abbrev sNumber : Stmt := top 9
abbrev sNN : Stmt := inClass (top 6) 0
abbrev sNamesIn : Stmt := top 24
abbrev sLastsIn : Stmt := top 25
abbrev sFirstsIn : Stmt := top 26
abbrev sRenamed : Stmt := top 27
abbrev sOnce : Stmt := top 36
abbrev sDictOf : Stmt := top 37
abbrev sCalledO : Stmt := top 38
abbrev sHeldO : Stmt := top 39
abbrev sLNamed : Stmt := top 50
abbrev sLOnce : Stmt := top 51
abbrev sLCalled : Stmt := top 52
abbrev sLTermC : Stmt := top 53
abbrev sLSideC : Stmt := top 54
abbrev sLRefused : Stmt := top 56
abbrev sLLists : Stmt := top 57

section
variable {P : Program} {w : World} {K : PySem.W.Frag} {mg : Str → Option Value} {base : Heap}

/-! ### is_whole and what stands on it -/
def numB (x : V) : Bool := match x with
  | .int _ => true
  | _ => false
def spNum (K : PySem.W.Frag) : Sp := fun vs H Q _ => ∃ (x : V) (n : String), vs = [x] ∧ Kn K H x n ∧ Q (.bl (numB x)) H
theorem scNum : FnScope ["thing"] ["thing"] (defScope sNumber) := ⟨rfl, rfl, rfl, by decide +kernel, rfl, by decide +kernel, by decide +kernel⟩
theorem ok_num {f : Addr} {fd : FuncData} (F : Fun K "is_number" "is_number" sNumber f fd) (mi : mg "isinstance" = none) (mt : mg "int" = none) (mb : mg "bool" = none) :
    FnOk P w K mg base CX0 1 f fd ["thing"] (spNum K) := by
  refine F.ok scNum (fun vs H Q E h => ?_) (fun cdv A outer s H vs Q E hr h => ?_)
  · obtain ⟨x, n, rfl, _⟩ := h
    rfl
  · obtain ⟨x, n, rfl, kn, q⟩ := h
    refine ⟨_, pss_one (ps_ret (pe_and (pe_callB call_isi (by rfl) mi (by decide +kernel) (pa_cons (pv 0) (pa_cons (pe_bltn (v := .ty "int") (by rfl) mt (by decide +kernel) rfl) pa_nil)))
      (pe_one (pe_not (pe_callB call_isi (by rfl) mi (by decide +kernel) (pa_cons (pv 0) (pa_cons (pe_bltn (v := .ty "bool") (by rfl) mb (by decide +kernel) rfl) pa_nil))))))), ?_⟩
    cases kn with
    | int i =>
      refine ⟨_, rfl, _, _, _, _, _, rfl, .ty "int", .base (.int i), kit_ty (by decide +kernel), _, rfl, iteT ?_⟩
      exact ⟨_, rfl, _, _, _, _, false, rfl, .ty "bool", .base (.int i), kit_ty (by decide +kernel), _, rfl, q⟩
    | bl b =>
      refine ⟨_, rfl, _, _, _, _, _, rfl, .ty "int", .base (.bl b), kit_ty (by decide +kernel), _, rfl, iteT ?_⟩
      exact ⟨_, rfl, _, _, _, _, true, rfl, .ty "bool", .base (.bl b), kit_ty (by decide +kernel), _, rfl, q⟩
    | non => exact ⟨_, rfl, _, _, _, _, _, rfl, .ty "int", .base .non, kit_ty (by decide +kernel), _, rfl, iteF q⟩
    | str z => exact ⟨_, rfl, _, _, _, _, _, rfl, .ty "int", .base (.str z), kit_ty (by decide +kernel), _, rfl, iteF q⟩
    | lst t => exact ⟨_, rfl, _, _, _, _, _, rfl, .ty "int", t, kit_ty (by decide +kernel), _, rfl, iteF q⟩
    | tup t => exact ⟨_, rfl, _, _, _, _, _, rfl, .ty "int", t, kit_ty (by decide +kernel), _, rfl, iteF q⟩
    | dic t => exact ⟨_, rfl, _, _, _, _, _, rfl, .ty "int", t, kit_ty (by decide +kernel), _, rfl, iteF q⟩
def spWhole (K : PySem.W.Frag) : Sp := fun vs H Q _ => ∃ (x : V) (n : String) (lo hi : Int), vs = [x, .int lo, .int hi] ∧ Kn K H x n ∧ Q (.bl (wholeB x lo hi)) H
theorem scWhole : FnScope ["thing", "low", "high"] ["thing", "low", "high"] (defScope sWhole) := ⟨rfl, rfl, rfl, by decide +kernel, rfl, by decide +kernel, by decide +kernel⟩
theorem ok_whole {f fn : Addr} {fd fdn : FuncData} (F : Fun K "is_whole" "is_whole" sWhole f fd) (Dn : Df K mg "is_number" fn fdn ["thing"]) (Gn : FnOk P w K mg base CX0 1 fn fdn ["thing"] (spNum K)) :
    FnOk P w K mg base CX0 2 f fd ["thing", "low", "high"] (spWhole K) := by
  refine F.ok scWhole (fun vs H Q E h => ?_) (fun cdv A outer s H vs Q E hr h => ?_)
  · obtain ⟨x, n, lo, hi, rfl, _⟩ := h
    rfl
  · obtain ⟨x, n, lo, hi, rfl, kn, q⟩ := h
    refine ⟨_, pss_one (ps_ret (pe_and (pe_call Gn hr (by rfl) Dn.at_ Dn.kp Dn.bd .nil pass0 (pa_cons (pv 0) pa_nil))
        (pe_one (pe_chain op_le op_le (pv 1) (pv 0) (pv 2))))), ?_⟩
    refine ⟨_, rfl, x, n, rfl, kn, _, rfl, ?_⟩
    cases x with
    | int i =>
      refine iteT ⟨_, rfl, _, rfl, _, _, rfl, rfl, _, rfl, ite2 (fun h1 => ?_) (fun h1 => ?_)⟩
      · refine ⟨_, rfl, _, _, rfl, rfl, ?_⟩
        have e : wholeB (.int i) lo hi = decide (i ≤ hi) := by
          show (decide (lo ≤ i) && decide (i ≤ hi)) = _
          rw [h1]; rfl
        rw [e] at q; exact q
      · have e : wholeB (.int i) lo hi = false := by
          show (decide (lo ≤ i) && decide (i ≤ hi)) = _
          rw [Bool.eq_false_iff.mpr h1]; rfl
        rw [e] at q; exact q
    | _ => exact iteF q

/-- a def of one thing that asks is_whole between two written bounds -/
def spOne (K : PySem.W.Frag) (lo hi : Int) : Sp := fun vs H Q _ => ∃ (x : V) (n : String), vs = [x] ∧ Kn K H x n ∧ Q (.bl (wholeB x lo hi)) H
theorem scWidth : FnScope ["thing"] ["thing"] (defScope sWidth) := ⟨rfl, rfl, rfl, by decide +kernel, rfl, by decide +kernel, by decide +kernel⟩
theorem ok_width {f fw : Addr} {fd fdw : FuncData} (F : Fun K "is_width" "is_width" sWidth f fd) (D : Df K mg "is_whole" fw fdw ["thing", "low", "high"])
    (G : FnOk P w K mg base CX0 2 fw fdw ["thing", "low", "high"] (spWhole K)) : FnOk P w K mg base CX0 3 f fd ["thing"] (spOne K 1 8) := by
  refine F.ok scWidth (fun vs H Q E h => ?_) (fun cdv A outer s H vs Q E hr h => ?_)
  · obtain ⟨x, n, rfl, _⟩ := h
    rfl
  · obtain ⟨x, n, rfl, kn, q⟩ := h
    exact ⟨_, pss_one (ps_ret (pe_call G hr (by rfl) D.at_ D.kp D.bd .nil pass0 (pa_cons (pv 0) (pa_cons pe_int (pa_cons pe_int pa_nil))))), _, rfl, _, n, 1, 8, rfl, kn, q⟩
theorem scTruth : FnScope ["thing"] ["thing"] (defScope sTruth) := ⟨rfl, rfl, rfl, by decide +kernel, rfl, by decide +kernel, by decide +kernel⟩
theorem ok_truth {f fw : Addr} {fd fdw : FuncData} (F : Fun K "is_truth" "is_truth" sTruth f fd) (D : Df K mg "is_whole" fw fdw ["thing", "low", "high"])
    (G : FnOk P w K mg base CX0 2 fw fdw ["thing", "low", "high"] (spWhole K)) : FnOk P w K mg base CX0 3 f fd ["thing"] (spOne K 0 1) := by
  refine F.ok scTruth (fun vs H Q E h => ?_) (fun cdv A outer s H vs Q E hr h => ?_)
  · obtain ⟨x, n, rfl, _⟩ := h
    rfl
  · obtain ⟨x, n, rfl, kn, q⟩ := h
    exact ⟨_, pss_one (ps_ret (pe_call G hr (by rfl) D.at_ D.kp D.bd .nil pass0 (pa_cons (pv 0) (pa_cons pe_int (pa_cons pe_int pa_nil))))), _, rfl, _, n, 0, 1, rfl, kn, q⟩
def topW (z : Int) : Int := 2 ^ z.toNat - 1
def spGreat : Sp := fun vs H Q _ => ∃ z : Int, vs = [.int z] ∧ 0 ≤ z ∧ z ≤ 1000 ∧ Q (.int (topW z)) H
theorem scGreat : FnScope ["width"] ["width"] (defScope sGreat) := ⟨rfl, rfl, rfl, by decide +kernel, rfl, by decide +kernel, by decide +kernel⟩
theorem ok_great {f : Addr} {fd : FuncData} (F : Fun K "_greatest" "_greatest" sGreat f fd) : FnOk P w K mg base CX0 2 f fd ["width"] spGreat := by
  refine F.ok scGreat (fun vs H Q E h => ?_) (fun cdv A outer s H vs Q E hr h => ?_)
  · obtain ⟨x, rfl, _⟩ := h
    rfl
  · obtain ⟨z, rfl, h0, h1, q⟩ := h
    refine ⟨_, pss_one (ps_ret (pe_op op_sub (pe_op op_shl pe_int (pv 0)) pe_int)), ?_⟩
    refine ⟨_, rfl, _, _, rfl, rfl, ⟨h0, Int.le_trans h1 (by decide), by decide⟩, _, _, rfl, rfl, ?_⟩
    rw [Int.one_mul]
    exact q
def spWorthOf (K : PySem.W.Frag) : Sp := fun vs H Q _ => ∃ (x : V) (n : String) (z : Int), vs = [x, .int z] ∧ Kn K H x n ∧ 0 ≤ z ∧ z ≤ 1000 ∧ Q (.bl (wholeB x 0 (topW z))) H
theorem scWorthOf : FnScope ["thing", "width"] ["thing", "width"] (defScope sWorthOf) := ⟨rfl, rfl, rfl, by decide +kernel, rfl, by decide +kernel, by decide +kernel⟩
theorem ok_worthOf {f fw fg : Addr} {fd fdw fdg : FuncData} (F : Fun K "_is_worth_of_width" "_is_worth_of_width" sWorthOf f fd) (D : Df K mg "is_whole" fw fdw ["thing", "low", "high"])
    (G : FnOk P w K mg base CX0 2 fw fdw ["thing", "low", "high"] (spWhole K)) (Dg : Df K mg "_greatest" fg fdg ["width"]) (Gg : FnOk P w K mg base CX0 2 fg fdg ["width"] spGreat) :
    FnOk P w K mg base CX0 3 f fd ["thing", "width"] (spWorthOf K) := by
  refine F.ok scWorthOf (fun vs H Q E h => ?_) (fun cdv A outer s H vs Q E hr h => ?_)
  · obtain ⟨x, n, z, rfl, _⟩ := h
    rfl
  · obtain ⟨x, n, z, rfl, kn, h0, h1, q⟩ := h
    exact ⟨_, pss_one (ps_ret (pe_call G hr (by rfl) D.at_ D.kp D.bd .nil pass0 (pa_cons (pv 0) (pa_cons pe_int (pa_cons (pe_call Gg hr (by rfl) Dg.at_ Dg.kp Dg.bd .nil pass0 (pa_cons (pv 1) pa_nil)) pa_nil))))),
      _, rfl, _, rfl, z, rfl, h0, h1, _, n, 0, topW z, rfl, kn, q⟩
theorem same_new {H : Hp} {p : Addr} {o : HO} (h : H p = none) : Same H (upd H p o) := fun b u e => by
  rw [upd_ne (ne_of_none e h)]
  exact e
theorem kn_same {H H' : Hp} {x : V} {n : String} (e : Same H H') (h : Kn K H x n) : Kn K H' x n := by
  have T : ∀ {a : Addr} {t : Value}, TyX K H (.ref a) t → TyX K H' (.ref a) t := fun {a t} h => by
    cases h with
    | base h =>
      cases h with
      | lst q => exact .base (.lst (e _ _ q))
      | frz q => exact .base (.frz (e _ _ q))
      | tup q => exact .base (.tup (e _ _ q))
      | dK q => exact .base (.dK (e _ _ q))
      | dT q => exact .base (.dT (e _ _ q))
      | ins q cl ha hn ht hm => exact .base (.ins (e _ _ q) cl ha hn ht hm)
    | set q => exact .set (e _ _ q)
    | kList q c => exact .kList q c
    | kTuple q c => exact .kTuple q c
    | kDict q c => exact .kDict q c
    | fTuple q => exact .fTuple (e _ _ q)
    | fDict q => exact .fDict (e _ _ q)
  cases h with
  | non => exact .non
  | bl b => exact .bl b
  | int i => exact .int i
  | str z => exact .str z
  | lst h => exact .lst (T h)
  | tup h => exact .tup (T h)
  | dic h => exact .dic (T h)
end
end K5
end Bf

namespace Bf
open PySem PySem.Spec PyProof.Rows L2

/-! ### refusals of one field -/
structure ExT (K : PySem.W.Frag) (mg : Str → Option Value) (x : Str) (C fI : Addr) (fdI : FuncData) : Prop where
  gC : mg x = some (.ref C)
  ox : OexC K C
  iC : PySem.W.findIn K (.ref C) "__init__" = some (some (.ref fI))
  tI : PySem.W.typeIn K (.ref fI) = some (.type "function")
  nf : PySem.W.findIn K (.ref C) "found" = some none
  xf : XfC K C
  bd : Binds K fdI ["self", "found"] []
/-- self is an exception that is being made, without fields as yet -/
def spBase (K : PySem.W.Frag) : Sp := fun vs H Q _ => ∃ (a C : Addr) (v : V), vs = [.ref a, v] ∧ OexC K C ∧ H a = some (exo a C none) ∧ Q .non H
def spInit (K : PySem.W.Frag) (C : Addr) : Sp := fun vs H Q _ => ∃ (a : Addr) (v : V), vs = [.ref a, v] ∧ H a = some (exo a C none) ∧
  ∀ dx, H dx = none → dx ≠ a → Q .non (upd (upd H dx (exd dx [("found", v)])) a (exo a C (some dx)))
/-- the wish that a refusal with this field comes -/
def Refuses (C : Addr) (v : V) (H : Hp) (E : XK) : Prop := ∀ d H', Same H H' → H d = none → H' d = some (.xd [("found", v)]) → E (.ref C) (some d) H'
theorem same_raise {H1 : Hp} {a d : Addr} {o1 o2 o3 o4 : HO} (ha : H1 a = none) (hd : H1 d = none) : Same H1 (upd (del (upd (upd (upd H1 a o1) d o2) a o3) a) d o4) := fun b o e => by
  have nba : b ≠ a := ne_of_none e ha
  have nbd : b ≠ d := ne_of_none e hd
  rw [upd_ne nbd, del_ne nba, upd_ne nba, upd_ne nbd, upd_ne nba]
  exact e

namespace K5
section
variable {P : Program} {w : World} {K : PySem.W.Frag} {mg : Str → Option Value} {base : Heap}
theorem scFE : FnScope ["self", "text"] ["self", "text"] (defScope sFE) := ⟨rfl, rfl, rfl, by decide +kernel, rfl, by decide +kernel, by decide +kernel⟩
theorem ok_FE {f : Addr} {fd : FuncData} (F : Fun K "__init__" "FlowError.__init__" sFE f fd) (mV : mg "ValueError" = none)
    (vV : PySem.W.findCls K (.type "ValueError") (.type "type") "__init__" = some (.val (.builtin "ValueError.__init__"))) : FnOk P w K mg base CX0 2 f fd ["self", "text"] (spBase K) := by
  refine F.ok scFE (fun vs H Q E h => ?_) (fun cdv A outer s H vs Q E hr h => ?_)
  · obtain ⟨a, C, v, rfl, _⟩ := h
    rfl
  · obtain ⟨a, C, v, rfl, ox, ea, q⟩ := h
    exact ⟨_, pss_one (ps_expr (pe_veinit (by rfl) mV vV (pa_cons (pv 0) (pa_cons (pv 1) pa_nil)))), _, rfl, _, rfl, a, C, [v], rfl, by show 1 ≤ 1000; decide, ox, ea, q⟩
/-- what an __init__ needs of the base's class -/
structure BaseT (P : Program) (w : World) (K : PySem.W.Frag) (mg : Str → Option Value) (base : Heap) (mc : Value) (CF fF : Addr) (fdF : FuncData) : Prop where
  g : mg "FlowError" = some (.ref CF)
  rd : ClX.CRead K CF mc
  va : PySem.W.findCls K (.ref CF) mc "__init__" = some (.val (.ref fF))
  kp : PySem.W.keepIn K (.ref fF) = true
  bd : Binds K fdF ["self", "text"] []
  ok : FnOk P w K mg base CX0 2 fF fdF ["self", "text"] (spBase K)
theorem scNK : FnScope ["self", "found"] ["self", "found"] (defScope sNK) := ⟨rfl, rfl, rfl, by decide +kernel, rfl, by decide +kernel, by decide +kernel⟩
theorem ok_NK {f C CF fF : Addr} {fd fdF : FuncData} {mc : Value} (F : Fun K "__init__" "NoKind.__init__" sNK f fd) (B : BaseT P w K mg base mc CF fF fdF) (ox : OexC K C) (nf : PySem.W.findIn K (.ref C) "found" = some none) :
    FnOk P w K mg base CX0 3 f fd ["self", "found"] (spInit K C) := by
  refine F.ok scNK (fun vs H Q E h => ?_) (fun cdv A outer s H vs Q E hr h => ?_)
  · obtain ⟨a, v, rfl, _⟩ := h
    rfl
  · obtain ⟨a, v, rfl, ea, q⟩ := h
    exact ⟨_, pss_cons (ps_expr (pe_clsFn B.ok hr (by rfl) B.g B.rd B.va B.kp B.bd pass0 (pa_cons (pv 0) (pa_cons pe_str pa_nil)))) (pss_one (ps_ost (pv 0) (pv 1))),
      _, rfl, a, C, _, rfl, ox, ea, _, rfl, _, rfl, a, C, rfl, ox, nf, .inl ⟨ea, fun dx n ne => q dx n ne⟩⟩
theorem scNT : FnScope ["self", "found"] ["self", "found"] (defScope sNT) := ⟨rfl, rfl, rfl, by decide +kernel, rfl, by decide +kernel, by decide +kernel⟩
theorem ok_NT {f C CF fF : Addr} {fd fdF : FuncData} {mc : Value} (F : Fun K "__init__" "NoTerm.__init__" sNT f fd) (B : BaseT P w K mg base mc CF fF fdF) (ox : OexC K C) (nf : PySem.W.findIn K (.ref C) "found" = some none) :
    FnOk P w K mg base CX0 3 f fd ["self", "found"] (spInit K C) := by
  refine F.ok scNT (fun vs H Q E h => ?_) (fun cdv A outer s H vs Q E hr h => ?_)
  · obtain ⟨a, v, rfl, _⟩ := h
    rfl
  · obtain ⟨a, v, rfl, ea, q⟩ := h
    exact ⟨_, pss_cons (ps_expr (pe_clsFn B.ok hr (by rfl) B.g B.rd B.va B.kp B.bd pass0 (pa_cons (pv 0) (pa_cons pe_str pa_nil)))) (pss_one (ps_ost (pv 0) (pv 1))),
      _, rfl, a, C, _, rfl, ox, ea, _, rfl, _, rfl, a, C, rfl, ox, nf, .inl ⟨ea, fun dx n ne => q dx n ne⟩⟩
/-- what stands behind «raise C(v)», v already reckoned: the reading from the arguments on -/
theorem raise_reads {C : Addr} {v : V} {H : Hp} {E : XK} (q : Refuses C v H E) :
    ([v] : List V).length ≤ 1000 ∧ ∀ a, H a = none → spInit K C (.ref a :: ([v] ++ [])) (upd H a (exo a C none)) (fun z H2 => z = .non ∧ ∃ (d : Addr) (fs : List (Str × V)), H2 a = some (exo a C (some d)) ∧ H2 d = some (exd d fs) ∧ H d = none ∧
      E (.ref C) (some d) (upd (del H2 a) d (.xd fs))) fun _ _ _ => False := by
  refine ⟨by show 1 ≤ 1000; decide, fun a ha => ⟨a, v, rfl, upd_same, fun dx hdx ne => ⟨rfl, dx, [("found", v)], upd_same, ?_, ?_, ?_⟩⟩⟩
  · rw [upd_ne ne, upd_same]
  · rw [upd_ne ne] at hdx
    exact hdx
  · have hd : H dx = none := by
      rw [upd_ne ne] at hdx
      exact hdx
    exact q _ _ (same_raise ha hd) hd upd_same

end
end K5
end Bf

namespace Bf
open PySem PySem.Spec PyProof.Rows L2

/-- a loop over enumerate(list) -/
theorem for_ite {K : PySem.W.Frag} {a : Addr} {xs : List V} {g : TG} {tb : TS} {D : Ends} {σ : L2.St} {H : Hp} (Pv : Nat → L2.St → Hp → Prop) (h0 : Pv 0 σ H) (hl : ∀ i σ H, i ≤ xs.length → Pv i σ H → SqL K H a xs)
    (hs : ∀ i x σ H T, xs[i]? = some x → Pv i σ H → H T = none → g (.ref T) σ (upd H T (.tup [.int (i : Nat), x])) fun σ2 H2 => tb { D with nx := Pv (i + 1), ct := Pv (i + 1), bk := D.nx } σ2 H2) (hd : ∀ σ H, Pv xs.length σ H → D.nx σ H) :
    ∃ W : Nat → Nat → L2.St → Hp → Prop, (∃ m, W 0 m σ H) ∧ ∀ i m σ H, W i m σ H →
      ((Ite K a).stop i H ∧ D.nx σ H) ∨ ((Ite K a).go i H ∧ ∃ N : L2.St → Hp → Prop, (∀ σ' H', N σ' H' → ∃ m', m' < m ∧ W (i + 1) m' σ' H') ∧ ∀ x H', (Ite K a).yld i H x H' → g x σ H' fun σ2 H2 => tb { D with nx := N, ct := N, bk := D.nx } σ2 H2) := by
  refine ⟨fun i m σ H => m = xs.length - i ∧ i ≤ xs.length ∧ Pv i σ H, ⟨xs.length, by simp, Nat.zero_le _, h0⟩, ?_⟩
  rintro i m σ H ⟨rfl, hi, p⟩
  have q := hl i σ H hi p
  rcases Nat.lt_or_ge i xs.length with lt | ge
  · refine .inr ⟨⟨xs, xs[i], q, List.getElem?_eq_getElem lt⟩, Pv (i + 1), fun σ' H' p' => ⟨xs.length - (i + 1), by omega, rfl, lt, p'⟩, ?_⟩
    rintro x H' ⟨T, y, rfl, nT, rfl, hy⟩
    exact hs i y σ H T (hy xs q) p nT
  · exact .inl ⟨⟨xs, q, ge⟩, hd σ H (Nat.le_antisymm hi ge ▸ p)⟩

/-- the worth of bits, the lowest first -/
def valB : List Int → Int
  | [] => 0
  | b :: r => b + 2 * valB r
theorem valB_snoc : ∀ (l : List Int) (b : Int), valB (l ++ [b]) = valB l + b * 2 ^ l.length
  | [], b => by simp [valB]
  | a :: l, b => by
    show a + 2 * valB (l ++ [b]) = a + 2 * valB l + b * 2 ^ (l.length + 1)
    rw [valB_snoc l b, Int.pow_succ]
    have e : b * (2 ^ l.length * 2) = 2 * (b * 2 ^ l.length) := by rw [← Int.mul_assoc, Int.mul_comm]
    rw [e]
    omega
theorem same_trans_new {H H1 : Hp} {p : Addr} {o : HO} (s : Same H H1) (h : H1 p = none) : Same H (upd H1 p o) := fun b u e => by
  rw [upd_ne (ne_of_none (s _ _ e) h)]
  exact s _ _ e
theorem Same.sqT {K : PySem.W.Frag} {H H' : Hp} {a : Addr} {xs : List V} (e : Same H H') (h : SqT K H a xs) : SqT K H' a xs := by
  rcases h with (h | ⟨o, h⟩) | h
  · exact .inl (.inl (e _ _ h))
  · exact .inl (.inr ⟨o, e _ _ h⟩)
  · exact .inr h
/-- a list (k = true) or a tuple -/
def SqB (K : PySem.W.Frag) (k : Bool) (H : Hp) (a : Addr) (xs : List V) : Prop := if k = true then SqL K H a xs else SqT K H a xs
theorem SqB.same {K : PySem.W.Frag} {k : Bool} {H H' : Hp} {a : Addr} {xs : List V} (e : Same H H') (h : SqB K k H a xs) : SqB K k H' a xs := by
  cases k with
  | true => exact Same.seq e h
  | false => exact Same.sqT e h

theorem SqB.or {K : PySem.W.Frag} {k : Bool} {H : Hp} {a : Addr} {xs : List V} (h : SqB K k H a xs) : SqL K H a xs ∨ SqT K H a xs := by
  cases k with
  | true => exact .inl h
  | false => exact .inr h
theorem iteB {b : Bool} {A B : Prop} (e : b = true) (h : A) : if b = true then A else B := by
  rw [if_pos e]
  exact h
theorem iteN {b : Bool} {A B : Prop} (e : b = false) (h : B) : if b = true then A else B := by
  rw [if_neg (by rw [e]; exact Bool.false_ne_true)]
  exact h
theorem ix_at {K : PySem.W.Frag} {k : Bool} {H : Hp} {a : Addr} {xs : List V} {i : Nat} {v : V} {Q : VK} (s : SqB K k H a xs) (e : xs[i]? = some v) (q : Q v H) : rIx K (.ref a) (.int (i : Nat)) H Q := by
  cases k with
  | true => exact .inl ⟨a, xs, _, v, rfl, rfl, s, atI_nat e, q⟩
  | false => exact .inr (.inl ⟨a, xs, _, v, rfl, rfl, s, atI_nat e, q⟩)

/-! ### things as data -/
mutual
/-- x stands for the data d; its texts and lists are short -/
inductive Da (H : Hp) : V → PyData → Prop
  | non : Da H .non .none
  | bl (c : Bool) : Da H (.bl c) (.bool c)
  | int (i : Int) : Da H (.int i) (.int i)
  | str (z : Str) (h : z.length ≤ 1000) : Da H (.str z) (.str z)
  | lst {a : Addr} {xs : List V} {ds : List PyData} (h : H a = some (.lst xs)) (l : xs.length ≤ 1000) (r : DaAll H xs ds) : Da H (.ref a) (.list ds)
  | tup {a : Addr} {xs : List V} {ds : List PyData} (h : H a = some (.tup xs)) (l : xs.length ≤ 1000) (r : DaAll H xs ds) : Da H (.ref a) (.tuple ds)
  | emp {a : Addr} (h : H a = some (.dK [])) : Da H (.ref a) (.dict [])
inductive DaAll (H : Hp) : List V → List PyData → Prop
  | nil : DaAll H [] []
  | cons {v : V} {vs : List V} {d : PyData} {ds : List PyData} (h : Da H v d) (r : DaAll H vs ds) : DaAll H (v :: vs) (d :: ds)
end
mutual
theorem Da.same {H H' : Hp} (s : Same H H') : ∀ (d : PyData) (v : V), Da H v d → Da H' v d
  | .none, _, h => by cases h; exact .non
  | .bool _, _, h => by cases h; exact .bl _
  | .int _, _, h => by cases h; exact .int _
  | .str _, _, h => by
    cases h with
    | str _ h => exact .str _ h
  | .list ds, _, h => by
    cases h with
    | lst h l r => exact .lst (s _ _ h) l (DaAll.same s ds _ r)
  | .tuple ds, _, h => by
    cases h with
    | tup h l r => exact .tup (s _ _ h) l (DaAll.same s ds _ r)
  | .dict _, _, h => by
    cases h with
    | emp h => exact .emp (s _ _ h)
theorem DaAll.same {H H' : Hp} (s : Same H H') : ∀ (ds : List PyData) (vs : List V), DaAll H vs ds → DaAll H' vs ds
  | [], _, h => by cases h; exact .nil
  | d :: ds, _, h => by
    cases h with
    | cons h r => exact .cons (Da.same s d _ h) (DaAll.same s ds _ r)
end
theorem DaAll.len {H : Hp} : ∀ {vs : List V} {ds : List PyData}, DaAll H vs ds → vs.length = ds.length
  | _, _, .nil => rfl
  | _, _, .cons _ r => congrArg (· + 1) (DaAll.len r)
theorem DaAll.get {H : Hp} : ∀ {vs : List V} {ds : List PyData}, DaAll H vs ds → ∀ {i : Nat} {v : V}, vs[i]? = some v → ∃ d, ds[i]? = some d ∧ Da H v d
  | _, _, .cons h r, 0, _, e => by cases e; exact ⟨_, rfl, h⟩
  | _, _, .cons h r, i + 1, _, e => DaAll.get r (i := i) e
theorem DaAll.getD {H : Hp} : ∀ {vs : List V} {ds : List PyData}, DaAll H vs ds → ∀ {i : Nat} {d : PyData}, ds[i]? = some d → ∃ v, vs[i]? = some v ∧ Da H v d
  | _, _, .cons h r, 0, _, e => by cases e; exact ⟨_, rfl, h⟩
  | _, _, .cons h r, i + 1, _, e => DaAll.getD r (i := i) e
theorem DaAll.append {H : Hp} : ∀ {vs : List V} {ds : List PyData} {ws : List V} {es : List PyData}, DaAll H vs ds → DaAll H ws es → DaAll H (vs ++ ws) (ds ++ es)
  | _, _, _, _, .nil, r => r
  | _, _, _, _, .cons h t, r => .cons h (DaAll.append t r)
theorem DaAll.drop {H : Hp} : ∀ {vs : List V} {ds : List PyData} (n : Nat), DaAll H vs ds → DaAll H (vs.drop n) (ds.drop n)
  | _, _, 0, r => r
  | _, _, _ + 1, .nil => .nil
  | _, _, n + 1, .cons _ r => DaAll.drop n r
theorem DaAll.snoc {H : Hp} {v : V} {d : PyData} {vs : List V} {ds : List PyData} (r : DaAll H vs ds) (h : Da H v d) : DaAll H (vs ++ [v]) (ds ++ [d]) := r.append (.cons h .nil)
theorem DaAll.rev {H : Hp} : ∀ {vs : List V} {ds : List PyData}, DaAll H vs ds → DaAll H vs.reverse ds.reverse
  | _, _, .nil => .nil
  | _, _, .cons h r => by
    rw [List.reverse_cons, List.reverse_cons]
    exact (DaAll.rev r).snoc h
def tyD : PyData → String
  | .none => "NoneType"
  | .bool _ => "bool"
  | .int _ => "int"
  | .str _ => "str"
  | .list _ => "list"
  | .tuple _ => "tuple"
  | .dict _ => "dict"
theorem Da.kn {K : PySem.W.Frag} {H : Hp} {x : V} {d : PyData} (h : Da H x d) : Kn K H x (tyD d) := by
  cases h with
  | non => exact .non
  | bl c => exact .bl c
  | int i => exact .int i
  | str z _ => exact .str z
  | lst h _ _ => exact .lst (.base (.lst h))
  | tup h _ _ => exact .tup (.base (.tup h))
  | emp h => exact .dic (.base (.dK h))
theorem DaAll.kn {K : PySem.W.Frag} {H : Hp} : ∀ {vs : List V} {ds : List PyData}, DaAll H vs ds → ∀ y ∈ vs, ∃ m, Kn K H y m
  | _, _, .nil, _, m => nomatch m
  | _, _, .cons h r, y, m => (List.mem_cons.mp m).elim (fun e => ⟨_, e ▸ h.kn⟩) (DaAll.kn r y)
/-- is a whole number within, of data -/
def wholeD (d : PyData) (lo hi : Int) : Bool := match d with
  | .int i => decide (lo ≤ i) && decide (i ≤ hi)
  | _ => false
theorem Da.whole {H : Hp} {x : V} {d : PyData} (h : Da H x d) (lo hi : Int) : wholeB x lo hi = wholeD d lo hi := by
  cases h <;> rfl
/-- the built-in types, asked of data -/
theorem kit_of (n : String) (hn : ∀ m ∈ ["NoneType", "bool", "int", "str", "list", "tuple", "dict"], kitB m n = some (m == n || (m == "bool" && n == "int"))) (d : PyData) : kitB (tyD d) n = some (tyD d == n || (tyD d == "bool" && n == "int")) := by
  cases d <;> exact hn _ (by simp [tyD])
theorem kit_str (d : PyData) : kitB (tyD d) "str" = some (tyD d == "str") := by
  rw [kit_of "str" (by decide +kernel) d]
  cases d <;> rfl
theorem kit_tup (d : PyData) : kitB (tyD d) "tuple" = some (tyD d == "tuple") := by
  rw [kit_of "tuple" (by decide +kernel) d]
  cases d <;> rfl
theorem kit_list (d : PyData) : kitB (tyD d) "list" = some (tyD d == "list") := by
  rw [kit_of "list" (by decide +kernel) d]
  cases d <;> rfl
/-- comprehensions over a text -/
theorem lc_its {x : Str} {g : TG} {tt : TT} {te : TE} {vs : List Nat} {σ : L2.St} {H1 : Hp} {D : Addr} {Qd : Hp → Prop} (Pv : Nat → Hp → Prop) (h0 : Pv 0 (upd H1 D (.lst [])))
    (hs : ∀ i c H, x.cps[i]? = some c → Pv i H → g (.str ⟨#[c]⟩) (wipe σ vs) H fun σ2 H2 => wipe σ2 vs = wipe σ vs ∧ tt σ2 H2 fun b H3 =>
      if b = true then te σ2 H3 fun y H4 => ∃ acc, H4 D = some (.lst acc) ∧ acc.length < sizeLine ∧ Pv (i + 1) (upd H4 D (.lst (acc ++ [y]))) else Pv (i + 1) H3) (hd : ∀ H, Pv x.cps.size H → Qd H) :
    ∃ W : Nat → Nat → Hp → Prop, (∃ m, W 0 m (upd H1 D (.lst []))) ∧ ∀ i m H, W i m H →
      ((Its x).stop i H ∧ Qd H) ∨ ((Its x).go i H ∧ ∃ Nx : Hp → Prop, (∀ H', Nx H' → ∃ m', m' < m ∧ W (i + 1) m' H') ∧ ∀ v H', (Its x).yld i H v H' → g v (wipe σ vs) H' fun σ2 H2 => wipe σ2 vs = wipe σ vs ∧ tt σ2 H2 fun b H3 =>
        if b = true then te σ2 H3 fun y H4 => ∃ acc, H4 D = some (.lst acc) ∧ acc.length < sizeLine ∧ Nx (upd H4 D (.lst (acc ++ [y]))) else Nx H3) := by
  refine ⟨fun i m H => m = x.cps.size - i ∧ i ≤ x.cps.size ∧ Pv i H, ⟨x.cps.size, by simp, Nat.zero_le _, h0⟩, ?_⟩
  rintro i m H ⟨rfl, hi, p⟩
  by_cases hlt : i < x.cps.size
  · refine .inr ⟨hlt, Pv (i + 1), fun H' p' => ⟨x.cps.size - (i + 1), by omega, rfl, hlt, p'⟩, fun v H' y => ?_⟩
    obtain ⟨rfl, c, hc, rfl⟩ := y
    exact hs i c _ hc p
  · have e : i = x.cps.size := by omega
    subst e
    exact .inl ⟨Nat.le_refl _, hd H p⟩
end Bf

namespace Bf
open PySem PySem.Spec PyProof.Rows L2
def signB (c : Nat) : Bool := !decide (([c] : List Nat) < ("a" : Str).cps.toList) && !decide (("z" : Str).cps.toList < ([c] : List Nat))
def nameS (z : Str) : Bool := (decide (1 ≤ z.length) && decide (z.length ≤ 8)) && z.cps.toList.all signB
def nameD : PyData → Bool
  | .str z => nameS z
  | _ => false
namespace K5
section
variable {P : Program} {w : World} {K : PySem.W.Frag} {mg : Str → Option Value} {base : Heap}
/-! ### is_name -/
def spName : Sp := fun vs H Q _ => ∃ (x : V) (d : PyData), vs = [x] ∧ Da H x d ∧ ∀ H', Same H H' → Q (.bl (nameD d)) H'
theorem scName : FnScope ["thing", "sign"] ["thing"] (defScope sName) := ⟨rfl, rfl, rfl, by decide +kernel, rfl, by decide +kernel, by decide +kernel⟩
theorem ok_name {f : Addr} {fd : FuncData} (F : Fun K "is_name" "is_name" sName f fd) (mi : mg "isinstance" = none) (ms : mg "str" = none) (ml : mg "len" = none) (ma : mg "all" = none) : FnOk P w K mg base CX0 2 f fd ["thing"] spName := by
  refine F.ok scName (fun vs H Q E h => ?_) (fun cdv A outer s H vs Q E hr h => ?_)
  · obtain ⟨x, d, rfl, _⟩ := h
    rfl
  · obtain ⟨x, d, rfl, da, q⟩ := h
    refine ⟨_, pss_cons (ps_if (PW.pt (pw_or (pt_not (pt_val (pe_callB call_isi (by rfl) mi (by decide +kernel) (pa_cons (pv 0) (pa_cons (pe_bltn (v := .ty "str") (by rfl) ms (by decide +kernel) rfl) pa_nil)))))
        (pw_or1 (pt_not (pt_chain op_le op_le pe_int (pe_callB call_len_str (by rfl) ml PySem.boot_len (pa_cons (pv 0) pa_nil)) pe_int))))) (pss_one (ps_ret pe_bl)) pss_nil)
      (pss_one (ps_ret (pe_callB (cr_all rfl) (by rfl) ma (by decide +kernel) (pa_cons (pe_lc (own := [("sign", 1)]) (g := gName 1) (tt := tYes) rfl scName.nd (pi_str (pv 0)) (blkOk_by (N := ["thing", "sign"]) (sc := defScope sName) (by decide +kernel))
        (fun _ _ _ _ _ => pg_name (i := 1) scName.nd rfl (Or.inl rfl)) (fun _ _ _ _ _ => pts_nil) (fun _ _ _ _ _ => pe_chain op_le_str op_le_str pe_str (pv 1) pe_str)) pa_nil)))), ?_⟩
    refine ⟨_, rfl, x, .ty "str", _, _, _, rfl, .ty "str", da.kn.ty, kit_ty (kit_str d), _, rfl, ?_⟩
    cases da with
    | str z hz =>
      refine iteF ?_
      have lz : z.length = z.cps.size := rfl
      refine ⟨_, rfl, z, rfl, Nat.le_trans hz (by decide), _, _, rfl, rfl, _, rfl, ?_⟩
      by_cases h1 : 1 ≤ z.length
      · rw [decide_eq_true (show (1 : Int) ≤ (z.length : Int) by omega)]
        refine iteT ⟨_, _, rfl, rfl, _, rfl, ?_⟩
        by_cases h8 : z.length ≤ 8
        · rw [decide_eq_true (show (z.length : Int) ≤ 8 by omega)]
          refine iteF ⟨_, rfl, z, rfl, fun D hD => ?_⟩
          refine lc_its (x := z) (fun i H' => Same H H' ∧ H' D = some (.lst (((z.cps.toList.take i).map signB).map V.bl))) ⟨same_new hD, upd_same⟩ (fun i c H' hc pv => ?_) fun H' pv => ?_
          · have hi : i < z.cps.size := (Array.getElem?_eq_some_iff.mp hc).1
            have fin : ∀ b, b = signB c → ∃ acc, H' D = some (.lst acc) ∧ acc.length < sizeLine ∧ (Same H (upd H' D (.lst (acc ++ [.bl b]))) ∧ upd H' D (.lst (acc ++ [.bl b])) D = some (.lst (((z.cps.toList.take (i + 1)).map signB).map V.bl))) := fun b e => by
              refine ⟨_, pv.2, ?_, fun a o h => ?_, ?_⟩
              · rw [List.length_map, List.length_map, List.length_take]
                exact small1000 (by omega)
              · rw [upd_ne (ne_of_none h hD)]; exact pv.1 _ _ h
              · have hc' : z.cps.toList[i]? = some c := by rw [Array.getElem?_toList]; exact hc
                rw [upd_same, List.take_add_one, hc', List.map_append, List.map_append, e]
                rfl
            refine ⟨rfl, _, rfl, _, _, rfl, rfl, _, rfl, ite2 (fun h => ⟨_, _, rfl, rfl, fin _ ?_⟩) (fun h => fin _ ?_)⟩
            · unfold signB
              rw [show (!decide (([c] : List Nat) < ("a" : Str).cps.toList)) = true from h, Bool.true_and]
            · unfold signB
              rw [show (!decide (([c] : List Nat) < ("a" : Str).cps.toList)) = false from Bool.eq_false_iff.mpr h, Bool.false_and]
          · have e : (z.cps.toList.take z.cps.size) = z.cps.toList := by rw [← Array.length_toList, List.take_length]
            rw [e] at pv
            refine ⟨D, _, rfl, SqL.of pv.2, ?_⟩
            have e2 : nameD (.str z) = (z.cps.toList.map signB).all id := by
              show ((decide (1 ≤ z.length) && decide (z.length ≤ 8)) && z.cps.toList.all signB) = _
              rw [decide_eq_true h1, decide_eq_true h8, List.all_map]
              rfl
            rw [← e2]
            exact q _ pv.1
        · rw [decide_eq_false (show ¬ (z.length : Int) ≤ 8 by omega)]
          have e2 : nameD (.str z) = false := by
            show ((decide (1 ≤ z.length) && decide (z.length ≤ 8)) && z.cps.toList.all signB) = _
            rw [decide_eq_false h8, Bool.and_false, Bool.false_and]
          exact iteT (by rw [e2] at q; exact q _ (Same.refl _))
      · rw [decide_eq_false (show ¬ (1 : Int) ≤ (z.length : Int) by omega)]
        have e2 : nameD (.str z) = false := by
          show ((decide (1 ≤ z.length) && decide (z.length ≤ 8)) && z.cps.toList.all signB) = _
          rw [decide_eq_false h1, Bool.false_and, Bool.false_and]
        exact iteF ⟨_, rfl, iteT (by rw [e2] at q; exact q _ (Same.refl _))⟩
    | _ => exact iteT (q _ (Same.refl _))
/-! ### is_kind -/
def kindD : PyData → Bool
  | .tuple [a, b] => wholeD a 2 4 && wholeD b 1 8
  | .int i => wholeD (.int i) 1 8
  | _ => false
def spKind : Sp := fun vs H Q _ => ∃ (x : V) (d : PyData), vs = [x] ∧ Da H x d ∧ Q (.bl (kindD d)) H
theorem scKind : FnScope ["thing"] ["thing"] (defScope sKind) := ⟨rfl, rfl, rfl, by decide +kernel, rfl, by decide +kernel, by decide +kernel⟩
theorem ok_kind {f fw fh : Addr} {fd fdw fdh : FuncData} (F : Fun K "is_kind" "is_kind" sKind f fd) (Dw : Df K mg "is_width" fw fdw ["thing"]) (Gw : FnOk P w K mg base CX0 3 fw fdw ["thing"] (spOne K 1 8))
    (Dh : Df K mg "is_whole" fh fdh ["thing", "low", "high"]) (Gh : FnOk P w K mg base CX0 2 fh fdh ["thing", "low", "high"] (spWhole K)) (mi : mg "isinstance" = none) (mt : mg "tuple" = none) (ml : mg "len" = none) : FnOk P w K mg base CX0 4 f fd ["thing"] spKind := by
  refine F.ok scKind (fun vs H Q E h => ?_) (fun cdv A outer s H vs Q E hr h => ?_)
  · obtain ⟨x, d, rfl, _⟩ := h
    rfl
  · obtain ⟨x, d, rfl, da, q⟩ := h
    have hr1 := hr.mono (by decide : 2 ≤ 3)
    refine ⟨_, pss_cons (ps_if (pt_not (pt_val (pe_callB call_isi (by rfl) mi (by decide +kernel) (pa_cons (pv 0) (pa_cons (pe_bltn (v := .ty "tuple") (by rfl) mt (by decide +kernel) rfl) pa_nil))))) (pss_one (ps_ret (pe_call Gw hr (by rfl) Dw.at_ Dw.kp Dw.bd .nil pass0 (pa_cons (pv 0) pa_nil)))) pss_nil)
      (pss_one (ps_ret (pe_and (pe_cmpR op_eq (pe_callB call_len_seq (by rfl) ml PySem.boot_len (pa_cons (pv 0) pa_nil)) pe_int (nomark _)) (pe_and (pe_call Gh hr1 (by rfl) Dh.at_ Dh.kp Dh.bd .nil pass0 (pa_cons (pe_ix ix_tup (pv 0) pe_int (fun _ _ => rfl)) (pa_cons pe_int (pa_cons pe_int pa_nil))))
        (pe_one (pe_call Gw hr (by rfl) Dw.at_ Dw.kp Dw.bd .nil pass0 (pa_cons (pe_ix ix_tup (pv 0) pe_int (fun _ _ => rfl)) pa_nil))))))), ?_⟩
    refine ⟨_, rfl, x, .ty "tuple", _, _, _, rfl, .ty "tuple", da.kn.ty, kit_ty (kit_tup d), _, rfl, ?_⟩
    have out : ∀ d, Da H x d → (tyD d == "tuple") = false → kindD d = wholeB x 1 8 := fun d da e => by
      cases da with
      | tup _ _ _ => cases e
      | int i => rfl
      | _ => rfl
    by_cases e : (tyD d == "tuple") = true
    · rw [e]
      refine iteF ?_
      cases da with
      | @tup a xs ds h l r =>
        refine ⟨_, rfl, a, xs, rfl, .inr (SqT.of h), rfl, ?_⟩
        by_cases e2 : xs.length = 2
        · match xs, e2, r with
          | [u, v], _, .cons (d := du) h1 (.cons (d := dv) h2 .nil) =>
            refine ⟨_, rfl, iteB (by rfl) ?_⟩
            refine ⟨_, rfl, a, _, 0, _, rfl, rfl, SqT.of h, rfl, u, _, 2, 4, rfl, h1.kn, ?_⟩
            have k : kindD (.tuple [du, dv]) = (wholeB u 2 4 && wholeB v 1 8) := by
              show (wholeD du 2 4 && wholeD dv 1 8) = _
              rw [h1.whole, h2.whole]
            rw [k] at q
            refine ⟨_, rfl, ite2 (fun w1 => ?_) (fun w1 => ?_)⟩
            · rw [w1, Bool.true_and] at q
              exact ⟨_, rfl, a, _, 1, _, rfl, rfl, SqT.of h, rfl, v, _, rfl, h2.kn, q⟩
            · rw [Bool.eq_false_iff.mpr w1, Bool.false_and] at q
              exact q
        · have nl : ¬ V.int ((xs.length : Nat) : Int) = V.int 2 := fun z => e2 (by have := V.int.inj z; omega)
          have k : kindD (.tuple ds) = false := by
            have ld := r.len
            match ds, ld with
            | [], _ => rfl
            | [_], _ => rfl
            | [_, _], ld => exact absurd ld e2
            | _ :: _ :: _ :: _, _ => rfl
          rw [k] at q
          exact ⟨_, rfl, iteN (decide_eq_false nl) q⟩
      | _ => cases e
    · have e' := Bool.eq_false_iff.mpr e
      rw [e']
      rw [out d da e'] at q
      exact iteT ⟨_, rfl, x, _, rfl, da.kn, q⟩
end
end K5
end Bf

namespace Bf
open PySem PySem.Spec PyProof.Rows L2
theorem split_short {a b y : Str} (m : y ∈ Txt.split a b) : y.length ≤ a.length := by
  unfold Txt.split at m
  split at m
  · rw [List.mem_singleton.mp m]; exact Nat.le_refl _
  · split at m
    · rw [List.mem_singleton.mp m]; exact Nat.le_refl _
    · unfold Builtin.Str.partsBetween at m
      obtain ⟨⟨i, j⟩, _, rfl⟩ := List.mem_map.mp m
      show (a.cps.extract i j).size ≤ a.cps.size
      rw [Array.size_extract]
      omega
def nodeS (z : Str) : Bool := decide ((Txt.split z ".").length ≤ 2) && (Txt.split z ".").all nameS
def nodeD : PyData → Bool
  | .str z => nodeS z
  | _ => false
theorem Da.str_inv {H : Hp} {v : V} {z : Str} (h : Da H v (.str z)) : v = .str z := by
  cases h; rfl
theorem Da.tup_inv {H : Hp} {v : V} {ds : List PyData} (h : Da H v (.tuple ds)) : ∃ a xs, v = .ref a ∧ H a = some (.tup xs) ∧ xs.length ≤ 1000 ∧ DaAll H xs ds := by
  cases h with
  | tup h l r => exact ⟨_, _, rfl, h, l, r⟩
namespace K5
section
variable {P : Program} {w : World} {K : PySem.W.Frag} {mg : Str → Option Value} {base : Heap}
/-! ### _are_worths_of_width -/
def goodB (z : Int) (xs : List V) : Bool := (xs.map fun y => wholeB y 0 (topW z)).all id
def spAre (K : PySem.W.Frag) : Sp := fun vs H Q _ => ∃ (a : Addr) (z : Int) (k : Bool) (xs : List V), vs = [.ref a, .int z] ∧ 0 ≤ z ∧ z ≤ 1000 ∧ SqB K k H a xs ∧ xs.length ≤ 1000 ∧ (∀ y ∈ xs, ∃ m, Kn K H y m) ∧ ∀ H', Same H H' → Q (.bl (goodB z xs)) H'
theorem scAre : FnScope ["things", "width", "thing"] ["things", "width"] (defScope sAre) := ⟨rfl, rfl, rfl, by decide +kernel, rfl, by decide +kernel, by decide +kernel⟩
theorem ok_are {f fo : Addr} {fd fdo : FuncData} (F : Fun K "_are_worths_of_width" "_are_worths_of_width" sAre f fd) (Do : Df K mg "_is_worth_of_width" fo fdo ["thing", "width"]) (Go : FnOk P w K mg base CX0 3 fo fdo ["thing", "width"] (spWorthOf K)) (ma : mg "all" = none) :
    FnOk P w K mg base CX0 4 f fd ["things", "width"] (spAre K) := by
  refine F.ok scAre (fun vs H Q E h => ?_) (fun cdv A outer s H vs Q E hr h => ?_)
  · obtain ⟨a, z, k, xs, rfl, _⟩ := h
    rfl
  · obtain ⟨a, z, k, xs, rfl, z0, z1, hS, hz, hk, q⟩ := h
    cases k with
    | true =>
      refine ⟨_, pss_one (ps_ret (pe_callB (cr_all rfl) (by rfl) ma (by decide +kernel) (pa_cons (pe_lc (own := [("thing", 2)]) (g := gName 2) (tt := tYes) rfl scAre.nd (pi_list (pv 0)) (blkOk_by (N := ["things", "width", "thing"]) (sc := defScope sAre) (by decide +kernel))
            (fun _ _ _ _ _ => pg_name (i := 2) scAre.nd rfl (Or.inl rfl)) (fun _ _ _ _ _ => pts_nil) (fun _ _ _ _ _ => pe_call Go hr (by rfl) Do.at_ Do.kp Do.bd .nil pass0 (pa_cons (pv 2) (pa_cons (pv 1) pa_nil)))) pa_nil))), ?_⟩
      have hS' : SqL K H a xs := hS
      refine ⟨_, rfl, a, rfl, ⟨xs, hS'⟩, fun D hD => lc_list (K := K) (a := a) (xs := xs) (fun i H' => Same H H' ∧ H' D = some (.lst ((xs.take i).map fun y => V.bl (wholeB y 0 (topW z))))) ⟨same_new hD, upd_same⟩
            (fun i H' _ pv => Same.seq pv.1 hS') (fun i y H' hy pv => ?_) fun H' pv => ?_⟩
      · obtain ⟨m, km⟩ := hk y (List.mem_of_getElem? hy)
        have hi := (List.getElem?_eq_some_iff.mp hy).1
        refine ⟨rfl, _, rfl, _, rfl, y, m, z, rfl, kn_same pv.1 km, z0, z1, _, pv.2, by rw [List.length_map, List.length_take]; exact Nat.lt_of_le_of_lt (Nat.le_trans (Nat.min_le_left _ _) (Nat.le_of_lt hi)) (small1000 hz), fun b o e => ?_, ?_⟩
        · rw [upd_ne (ne_of_none e hD)]
          exact pv.1 _ _ e
        · rw [upd_same, List.take_add_one, hy, List.map_append]
          rfl
      · have pv2 : H' D = some (.lst ((xs.map fun y => wholeB y 0 (topW z)).map V.bl)) := by rw [pv.2, List.take_length, List.map_map]; rfl
        exact ⟨D, _, rfl, SqL.of pv2, q _ pv.1⟩
    | false =>
      refine ⟨_, pss_one (ps_ret (pe_callB (cr_all rfl) (by rfl) ma (by decide +kernel) (pa_cons (pe_lc (own := [("thing", 2)]) (g := gName 2) (tt := tYes) rfl scAre.nd (pi_tup (pv 0)) (blkOk_by (N := ["things", "width", "thing"]) (sc := defScope sAre) (by decide +kernel))
            (fun _ _ _ _ _ => pg_name (i := 2) scAre.nd rfl (Or.inl rfl)) (fun _ _ _ _ _ => pts_nil) (fun _ _ _ _ _ => pe_call Go hr (by rfl) Do.at_ Do.kp Do.bd .nil pass0 (pa_cons (pv 2) (pa_cons (pv 1) pa_nil)))) pa_nil))), ?_⟩
      have hS' : SqT K H a xs := hS
      refine ⟨_, rfl, a, rfl, ⟨xs, hS'⟩, fun D hD => lc_tup (K := K) (a := a) (xs := xs) (fun i H' => Same H H' ∧ H' D = some (.lst ((xs.take i).map fun y => V.bl (wholeB y 0 (topW z))))) ⟨same_new hD, upd_same⟩
            (fun i H' _ pv => Same.sqT pv.1 hS') (fun i y H' hy pv => ?_) fun H' pv => ?_⟩
      · obtain ⟨m, km⟩ := hk y (List.mem_of_getElem? hy)
        have hi := (List.getElem?_eq_some_iff.mp hy).1
        refine ⟨rfl, _, rfl, _, rfl, y, m, z, rfl, kn_same pv.1 km, z0, z1, _, pv.2, by rw [List.length_map, List.length_take]; exact Nat.lt_of_le_of_lt (Nat.le_trans (Nat.min_le_left _ _) (Nat.le_of_lt hi)) (small1000 hz), fun b o e => ?_, ?_⟩
        · rw [upd_ne (ne_of_none e hD)]
          exact pv.1 _ _ e
        · rw [upd_same, List.take_add_one, hy, List.map_append]
          rfl
      · have pv2 : H' D = some (.lst ((xs.map fun y => wholeB y 0 (topW z)).map V.bl)) := by rw [pv.2, List.take_length, List.map_map]; rfl
        exact ⟨D, _, rfl, SqL.of pv2, q _ pv.1⟩


/-! ### is_worth, of a kind that is one -/
def worthD (d : PyData) : PyData → Bool
  | .int z => wholeD d 0 (topW z)
  | .tuple [.int m, .int z] => match d with
    | .tuple ds => decide ((ds.length : Int) = m) && ds.all fun e => wholeD e 0 (topW z)
    | _ => false
  | _ => false
theorem good_da {H : Hp} {z : Int} : ∀ {xs : List V} {ds : List PyData}, DaAll H xs ds → goodB z xs = ds.all fun e => wholeD e 0 (topW z)
  | _, _, .nil => rfl
  | _, _, .cons h r => by
    have ih := good_da (z := z) r
    unfold goodB at ih ⊢
    rw [List.map_cons, List.all_cons, List.all_cons, ih, h.whole]
    rfl
theorem kind_inv {d : PyData} (h : kindD d = true) : (∃ z, d = .int z ∧ 1 ≤ z ∧ z ≤ 8) ∨ ∃ m z, d = .tuple [.int m, .int z] ∧ 2 ≤ m ∧ m ≤ 4 ∧ 1 ≤ z ∧ z ≤ 8 := by
  unfold kindD at h
  split at h
  · rename_i a b
    obtain ⟨h1, h2⟩ := Bool.and_eq_true_iff.mp h
    cases a with
    | int m =>
      cases b with
      | int z =>
        have a1 : (decide (2 ≤ m) && decide (m ≤ 4)) = true := h1
        have a2 : (decide (1 ≤ z) && decide (z ≤ 8)) = true := h2
        obtain ⟨b1, b2⟩ := Bool.and_eq_true_iff.mp a1
        obtain ⟨b3, b4⟩ := Bool.and_eq_true_iff.mp a2
        exact .inr ⟨m, z, rfl, of_decide_eq_true b1, of_decide_eq_true b2, of_decide_eq_true b3, of_decide_eq_true b4⟩
      | _ => cases h2
    | _ => cases h1
  · rename_i z
    have a2 : (decide (1 ≤ z) && decide (z ≤ 8)) = true := h
    obtain ⟨b3, b4⟩ := Bool.and_eq_true_iff.mp a2
    exact .inl ⟨z, rfl, of_decide_eq_true b3, of_decide_eq_true b4⟩
  · cases h
def spIsWorth : Sp := fun vs H Q _ => ∃ (x k : V) (d e : PyData), vs = [x, k] ∧ Da H x d ∧ Da H k e ∧ kindD e = true ∧ ∀ H', Same H H' → Q (.bl (worthD d e)) H'
theorem scIsWorth : FnScope ["thing", "kind", "many", "width"] ["thing", "kind"] (defScope sIsWorth) := ⟨rfl, rfl, rfl, by decide +kernel, rfl, by decide +kernel, by decide +kernel⟩
theorem ok_isWorth {f fk fo fr : Addr} {fd fdk fdo fdr : FuncData} (F : Fun K "is_worth" "is_worth" sIsWorth f fd) (Dk : Df K mg "is_kind" fk fdk ["thing"]) (Gk : FnOk P w K mg base CX0 4 fk fdk ["thing"] spKind)
    (Do : Df K mg "_is_worth_of_width" fo fdo ["thing", "width"]) (Go : FnOk P w K mg base CX0 3 fo fdo ["thing", "width"] (spWorthOf K)) (Dr : Df K mg "_are_worths_of_width" fr fdr ["things", "width"]) (Gr : FnOk P w K mg base CX0 4 fr fdr ["things", "width"] (spAre K))
    (mi : mg "isinstance" = none) (mt : mg "tuple" = none) (ml : mg "len" = none) : FnOk P w K mg base CX0 5 f fd ["thing", "kind"] spIsWorth := by
  refine F.ok scIsWorth (fun vs H Q E h => ?_) (fun cdv A outer s H vs Q E hr h => ?_)
  · obtain ⟨x, k, d, e, rfl, _⟩ := h
    rfl
  · obtain ⟨x, k, d, e, rfl, da, db, hk, q⟩ := h
    have hr2 := hr.mono (by decide : 3 ≤ 4)
    refine ⟨_, pss_cons (ps_if (pt_not (pt_val (pe_call Gk hr (by rfl) Dk.at_ Dk.kp Dk.bd .nil pass0 (pa_cons (pv 1) pa_nil)))) (pss_one ps_never) pss_nil)
      (pss_cons (ps_if (pt_not (pt_val (pe_callB call_isi (by rfl) mi (by decide +kernel) (pa_cons (pv 1) (pa_cons (pe_bltn (v := .ty "tuple") (by rfl) mt (by decide +kernel) rfl) pa_nil))))) (pss_one (ps_ret (pe_call Go hr2 (by rfl) Do.at_ Do.kp Do.bd .nil pass0 (pa_cons (pv 0) (pa_cons (pv 1) pa_nil))))) pss_nil)
      (pss_cons (ps_asg (pv 1) (pg_tup rfl (pgs_cons (pg_name (i := 2) scIsWorth.nd rfl (Or.inl rfl)) (pgs_cons (pg_name (i := 3) scIsWorth.nd rfl (Or.inl rfl)) pgs_nil))))
      (pss_cons (ps_if (PW.pt (pw_or (pt_not (pt_val (pe_callB call_isi (by rfl) mi (by decide +kernel) (pa_cons (pv 0) (pa_cons (pe_bltn (v := .ty "tuple") (by rfl) mt (by decide +kernel) rfl) pa_nil)))))
          (pw_or1 (pt_cmpR op_ne (pe_callB call_len_seq (by rfl) ml PySem.boot_len (pa_cons (pv 0) pa_nil)) (pv 2) (nomark _))))) (pss_one (ps_ret pe_bl)) pss_nil)
      (pss_one (ps_ret (pe_call Gr hr (by rfl) Dr.at_ Dr.kp Dr.bd .nil pass0 (pa_cons (pv 0) (pa_cons (pv 3) pa_nil)))))))), ?_⟩
    refine ⟨_, rfl, k, e, rfl, db, _, rfl, iteN (by rw [hk]; rfl) ?_⟩
    refine ⟨_, rfl, k, .ty "tuple", _, _, _, rfl, .ty "tuple", db.kn.ty, kit_ty (kit_tup e), _, rfl, ?_⟩
    rcases kind_inv hk with ⟨z, rfl, z1, z8⟩ | ⟨m, z, rfl, m2, m4, z1, z8⟩
    · cases db
      refine iteT ⟨_, rfl, _, rfl, x, _, z, rfl, da.kn, by omega, by omega, ?_⟩
      rw [da.whole]
      exact q _ (Same.refl _)
    · obtain ⟨kb, ks, rfl, hkb, -, rk⟩ := db.tup_inv
      cases rk with
      | cons r1 rk =>
        cases rk with
        | cons r2 rk =>
          cases rk
          cases r1
          cases r2
          refine iteF ⟨_, rfl, kb, _, rfl, SqT.of hkb, rfl, _, _, rfl, _, _, rfl, rfl, ?_⟩
          refine ⟨_, rfl, x, .ty "tuple", _, _, _, rfl, .ty "tuple", da.kn.ty, kit_ty (kit_tup d), _, rfl, ?_⟩
          cases da with
          | @tup a xs ds h l r =>
            refine iteF ?_
            refine ⟨_, rfl, a, xs, rfl, .inr (SqT.of h), _, rfl, rfl, _, rfl, ?_⟩
            have w0 : worthD (.tuple ds) (.tuple [.int m, .int z]) = (decide ((ds.length : Int) = m) && ds.all fun e => wholeD e 0 (topW z)) := rfl
            by_cases e2 : (xs.length : Int) = m
            · refine iteN (by rw [e2, decide_eq_true rfl]; rfl) ?_
              refine ⟨_, rfl, _, rfl, a, z, false, xs, rfl, by omega, by omega, SqT.of h, l, r.kn, fun H' s' => ?_⟩
              rw [good_da r]
              rw [w0, ← r.len, decide_eq_true e2, Bool.true_and] at q
              exact q _ s'
            · have nl : ¬ V.int ((xs.length : Nat) : Int) = V.int m := fun z => e2 (V.int.inj z)
              refine iteB (by rw [decide_eq_false nl]; rfl) ?_
              rw [w0, ← r.len, decide_eq_false e2, Bool.false_and] at q
              exact q _ (Same.refl _)
          | _ => exact iteT (iteT (q _ (Same.refl _)))
/-! ### is_node_name -/
def spNode : Sp := fun vs H Q _ => ∃ (x : V) (d : PyData), vs = [x] ∧ Da H x d ∧ ∀ H', Same H H' → Q (.bl (nodeD d)) H'
theorem scNode : FnScope ["thing", "names", "name"] ["thing"] (defScope sNodeName) := ⟨rfl, rfl, rfl, by decide +kernel, rfl, by decide +kernel, by decide +kernel⟩
theorem ok_node {f fn : Addr} {fd fdn : FuncData} (F : Fun K "is_node_name" "is_node_name" sNodeName f fd) (Dn : Df K mg "is_name" fn fdn ["thing"]) (Gn : FnOk P w K mg base CX0 2 fn fdn ["thing"] spName) (mi : mg "isinstance" = none) (ms : mg "str" = none) (ml : mg "len" = none) (ma : mg "all" = none) :
    FnOk P w K mg base CX0 3 f fd ["thing"] spNode := by
  refine F.ok scNode (fun vs H Q E h => ?_) (fun cdv A outer s H vs Q E hr h => ?_)
  · obtain ⟨x, d, rfl, _⟩ := h
    rfl
  · obtain ⟨x, d, rfl, da, q⟩ := h
    refine ⟨_, pss_cons (ps_if (pt_not (pt_val (pe_callB call_isi (by rfl) mi (by decide +kernel) (pa_cons (pv 0) (pa_cons (pe_bltn (v := .ty "str") (by rfl) ms (by decide +kernel) rfl) pa_nil))))) (pss_one (ps_ret pe_bl)) pss_nil)
      (pss_cons (ps_set (i := 1) scNode.nd rfl (Or.inl rfl) (pe_split (pv 0) pe_str))
      (pss_one (ps_ret (pe_and (pe_cmpR op_le (pe_callB call_len_seq (by rfl) ml PySem.boot_len (pa_cons (pv 1) pa_nil)) pe_int (nomark _)) (pe_one (pe_callB (cr_all rfl) (by rfl) ma (by decide +kernel) (pa_cons (pe_lc (own := [("name", 2)]) (g := gName 2) (tt := tYes) rfl scNode.nd (pi_list (pv 1))
        (blkOk_by (N := ["thing", "names", "name"]) (sc := defScope sNodeName) (by decide +kernel)) (fun _ _ _ _ _ => pg_name (i := 2) scNode.nd rfl (Or.inl rfl)) (fun _ _ _ _ _ => pts_nil) (fun _ _ _ _ _ => pe_call Gn hr (by rfl) Dn.at_ Dn.kp Dn.bd .nil pass0 (pa_cons (pv 2) pa_nil))) pa_nil))))))), ?_⟩
    refine ⟨_, rfl, x, .ty "str", _, _, _, rfl, .ty "str", da.kn.ty, kit_ty (kit_str d), _, rfl, ?_⟩
    cases da with
    | str z hz =>
      refine iteF ⟨_, rfl, ⟨_, rfl⟩, z, ".", rfl, rfl, by decide +kernel, Nat.le_trans (Nat.add_le_add_right hz 2) (by decide), fun p hp => ?_⟩
      have s1 : Same H (upd H p (.lst ((Txt.split z ".").map V.str))) := same_new hp
      refine ⟨_, rfl, p, _, rfl, .inl (SqL.of upd_same), _, _, rfl, rfl, _, rfl, ?_⟩
      have nd : nodeD (.str z) = (decide ((Txt.split z ".").length ≤ 2) && (Txt.split z ".").all nameS) := rfl
      by_cases e : (Txt.split z ".").length ≤ 2
      · refine iteB (decide_eq_true (by rw [List.length_map]; omega)) ?_
        rw [nd, decide_eq_true e, Bool.true_and] at q
        refine ⟨_, rfl, p, rfl, ⟨_, SqL.of upd_same⟩, fun D hD => lc_list (K := K) (a := p) (xs := (Txt.split z ".").map V.str) (fun i H' => Same (upd H p (.lst ((Txt.split z ".").map V.str))) H' ∧ H' D = some (.lst ((((Txt.split z ".").take i).map nameS).map V.bl))) ⟨same_new hD, upd_same⟩
          (fun i H' _ pv => SqL.of (pv.1 _ _ upd_same)) (fun i y H' hy pv => ?_) fun H' pv => ?_⟩
        · rw [List.getElem?_map] at hy
          cases hj : (Txt.split z ".")[i]? with
          | none => rw [hj] at hy; cases hy
          | some b =>
            rw [hj] at hy
            cases hy
            have hi := (List.getElem?_eq_some_iff.mp hj).1
            have sh := split_short (List.mem_of_getElem? hj)
            refine ⟨rfl, _, rfl, .str b, .str b, rfl, .str b (Nat.le_trans sh hz), fun H'' s'' => ⟨_, s'' _ _ pv.2, ?_, fun c o h => ?_, ?_⟩⟩
            · rw [List.length_map, List.length_map, List.length_take]
              exact small1000 (by omega)
            · rw [upd_ne (ne_of_none h hD)]; exact s'' _ _ (pv.1 _ _ h)
            · rw [upd_same, List.take_add_one, hj, List.map_append, List.map_append]
              rfl
        · rw [List.length_map, List.take_length] at pv
          refine ⟨D, _, rfl, SqL.of pv.2, ?_⟩
          have e2 : (Txt.split z ".").all nameS = ((Txt.split z ".").map nameS).all id := by rw [List.all_map]; rfl
          rw [e2] at q
          exact q _ (s1.trans pv.1)
      · refine iteN (decide_eq_false (by rw [List.length_map]; omega)) ?_
        rw [nd, decide_eq_false e, Bool.false_and] at q
        exact q _ s1
    | _ => exact iteT (q _ (Same.refl _))
end
end K5
end Bf

namespace Bf
open PySem PySem.Spec PyProof.Rows L2
/-- a table of tuples that are written in the program -/
inductive FTab (K : PySem.W.Frag) : List (Str × List V) → List (Str × V) → Prop
  | nil : FTab K [] []
  | cons {k : Str} {xs : List V} {a : Addr} {t : List (Str × List V)} {tb : List (Str × V)} (h : ∀ H, SqT K H a xs) (r : FTab K t tb) : FTab K ((k, xs) :: t) ((k, .ref a) :: tb)
theorem FTab.none {K : PySem.W.Frag} {z : Str} : ∀ {t : List (Str × List V)} {tb : List (Str × V)}, FTab K t tb → lk z t = none → lk z tb = none
  | _, _, .nil, _ => rfl
  | _, _, .cons (k := k) h r, e => by
    unfold lk at e ⊢
    by_cases c : (k == z) = true
    · rw [if_pos c] at e; cases e
    · rw [if_neg c] at e ⊢
      exact FTab.none r e
theorem FTab.some {K : PySem.W.Frag} {z : Str} {xs : List V} : ∀ {t : List (Str × List V)} {tb : List (Str × V)}, FTab K t tb → lk z t = some xs → ∃ a, lk z tb = some (.ref a) ∧ ∀ H, SqT K H a xs
  | _, _, .nil, e => by cases e
  | _, _, .cons (k := k) (a := a) h r, e => by
    unfold lk at e ⊢
    by_cases c : (k == z) = true
    · rw [if_pos c] at e ⊢
      cases e
      exact ⟨a, rfl, h⟩
    · rw [if_neg c] at e ⊢
      exact FTab.some r e
namespace K5
def FM : List (Str × List Str) := [("lit", ["kind", "worth"]), ("name", ["name"]), ("last", ["name"]), ("first", ["term", "term"]), ("not", ["term"]), ("and", ["term", "term"]), ("or", ["term", "term"]), ("xor", ["term", "term"]), ("add", ["term", "term"]), ("sub", ["term", "term"]),
  ("less", ["term", "term"]), ("same", ["term", "term"]), ("wide", ["width", "term"]), ("bit", ["bit", "term"]), ("pick", ["term", "term", "term"]), ("when", ["term", "name", "truth"]), ("merge", ["name", "term", "term"]), ("row", ["parts"]), ("at", ["place", "term"]), ("call", ["node", "args", "every"]),
  ("map", ["node", "rows", "every"]), ("fold", ["node", "term", "rows", "every"]), ("pairs", ["node", "term", "every"])]
def ST : List (Str × (Int × Int)) := [("parts", 2, 4), ("args", 0, 6), ("rows", 1, 4)]
def CL : List Str := ["call", "map", "fold", "pairs"]
def FMv : List (Str × List V) := FM.map fun p => (p.1, p.2.map V.str)
def STv : List (Str × List V) := ST.map fun p => (p.1, [.int p.2.1, .int p.2.2])
theorem lk_map {α β : Type} (f : α → β) (z : Str) : ∀ l : List (Str × α), lk z (l.map fun p => (p.1, f p.2)) = (lk z l).map f
  | [] => rfl
  | (k, v) :: r => by
    show lk z ((k, f v) :: r.map fun p => (p.1, f p.2)) = _
    unfold lk
    split
    · rfl
    · exact lk_map f z r
/-- the tables of the program -/
structure Tbs (K : PySem.W.Frag) (w : World) (mg : Str → Option Value) (aF aS aC : Addr) : Prop where
  gF : mg "FORMS" = some (.ref aF)
  gS : mg "SLOTS_OF_TERMS" = some (.ref aS)
  gC : mg "CALLS" = some (.ref aC)
  tF : ∃ tb, Dct K w aF tb ∧ FTab K FMv tb
  tS : ∃ tb, Dct K w aS tb ∧ FTab K STv tb
  sC : ∀ H, SqT K H aC (CL.map V.str)
section
variable {P : Program} {w : World} {K : PySem.W.Frag} {mg : Str → Option Value} {base : Heap} {aF aS aC : Addr}
/-! ### _fits -/
def rangeD (lo hi : Int) : PyData → Bool
  | .tuple ds => decide (lo ≤ (ds.length : Int)) && decide ((ds.length : Int) ≤ hi)
  | _ => false
def fitsD (slot : Str) (d : PyData) : Bool :=
  match lk slot ST with
  | some (lo, hi) => rangeD lo hi d
  | none =>
    if decide (V.str slot = V.str "kind") = true then kindD d else if decide (V.str slot = V.str "name") = true then nameD d else if decide (V.str slot = V.str "node") = true then nodeD d else
    if decide (V.str slot = V.str "every") = true then (match d with | .none => true | d => nameD d) else if decide (V.str slot = V.str "width") = true then wholeD d 1 8 else
    if decide (V.str slot = V.str "truth") = true then wholeD d 0 1 else if decide (V.str slot = V.str "bit") = true then wholeD d 0 7 else if decide (V.str slot = V.str "place") = true then wholeD d 0 3 else true
def spFits : Sp := fun vs H Q _ => ∃ (slot : Str) (x : V) (d : PyData), vs = [.str slot, x] ∧ Da H x d ∧ ∀ H', Same H H' → Q (.bl (fitsD slot d)) H'
theorem scFits : FnScope ["slot", "thing", "fewest", "most"] ["slot", "thing"] (defScope sFits) := ⟨rfl, rfl, rfl, by decide +kernel, rfl, by decide +kernel, by decide +kernel⟩
/-- the small defs that are called -/
structure Sml (P : Program) (w : World) (K : PySem.W.Frag) (mg : Str → Option Value) (base : Heap) (fh fw ft fn fk fd_ : Addr) (dh dw dt dn dk dd : FuncData) : Prop where
  Dh : Df K mg "is_whole" fh dh ["thing", "low", "high"]
  Gh : FnOk P w K mg base CX0 2 fh dh ["thing", "low", "high"] (spWhole K)
  Dw : Df K mg "is_width" fw dw ["thing"]
  Gw : FnOk P w K mg base CX0 3 fw dw ["thing"] (spOne K 1 8)
  Dt : Df K mg "is_truth" ft dt ["thing"]
  Gt : FnOk P w K mg base CX0 3 ft dt ["thing"] (spOne K 0 1)
  Dn : Df K mg "is_name" fn dn ["thing"]
  Gn : FnOk P w K mg base CX0 2 fn dn ["thing"] spName
  Dk : Df K mg "is_kind" fk dk ["thing"]
  Gk : FnOk P w K mg base CX0 4 fk dk ["thing"] spKind
  Dd : Df K mg "is_node_name" fd_ dd ["thing"]
  Gd : FnOk P w K mg base CX0 3 fd_ dd ["thing"] spNode
  mi : mg "isinstance" = none
  mt : mg "tuple" = none
  ms : mg "str" = none
  ml : mg "len" = none
  ma : mg "all" = none
  mz : mg "zip" = none
  mL : mg "list" = none
theorem ok_fits {f fh fw ft fn fk fd_ : Addr} {fd dh dw dt dn dk dd : FuncData} (F : Fun K "_fits" "_fits" sFits f fd) (T : Tbs K w mg aF aS aC) (S : Sml P w K mg base fh fw ft fn fk fd_ dh dw dt dn dk dd) : FnOk P w K mg base CX0 5 f fd ["slot", "thing"] spFits := by
  obtain ⟨tb, DS, FS⟩ := T.tS
  refine F.ok scFits (fun vs H Q E h => ?_) (fun cdv A outer s H vs Q E hr h => ?_)
  · obtain ⟨slot, x, d, rfl, _⟩ := h
    rfl
  · obtain ⟨slot, x, d, rfl, da, q⟩ := h
    have hr1 := hr.mono (by decide : 2 ≤ 4)
    have hr2 := hr.mono (by decide : 3 ≤ 4)
    refine ⟨_, pss_cons (ps_if (pt_cmpR (op_in_dct DS) (pv 0) (pe_glob (v := .ref aS) (by rfl) T.gS rfl) (by rfl))
        (pss_cons (ps_asg (pe_ix (ix_dct DS) (pe_glob (v := .ref aS) (by rfl) T.gS rfl) (pv 0) (fun _ _ => rfl)) (pg_tup rfl (pgs_cons (pg_name (i := 2) scFits.nd rfl (Or.inl rfl)) (pgs_cons (pg_name (i := 3) scFits.nd rfl (Or.inl rfl)) pgs_nil))))
        (pss_one (ps_ret (pe_and (pe_callB call_isi (by rfl) S.mi (by decide +kernel) (pa_cons (pv 1) (pa_cons (pe_bltn (v := .ty "tuple") (by rfl) S.mt (by decide +kernel) rfl) pa_nil))) (pe_one (pe_chain op_le op_le (pv 2) (pe_callB call_len_seq (by rfl) S.ml PySem.boot_len (pa_cons (pv 1) pa_nil)) (pv 3))))))) pss_nil)
      (pss_cons (ps_if (pt_cmpR op_eq (pv 0) pe_str (nomark _)) (pss_one (ps_ret (pe_call S.Gk hr (by rfl) S.Dk.at_ S.Dk.kp S.Dk.bd .nil pass0 (pa_cons (pv 1) pa_nil)))) pss_nil)
      (pss_cons (ps_if (pt_cmpR op_eq (pv 0) pe_str (nomark _)) (pss_one (ps_ret (pe_call S.Gn hr1 (by rfl) S.Dn.at_ S.Dn.kp S.Dn.bd .nil pass0 (pa_cons (pv 1) pa_nil)))) pss_nil)
      (pss_cons (ps_if (pt_cmpR op_eq (pv 0) pe_str (nomark _)) (pss_one (ps_ret (pe_call S.Gd hr2 (by rfl) S.Dd.at_ S.Dd.kp S.Dd.bd .nil pass0 (pa_cons (pv 1) pa_nil)))) pss_nil)
      (pss_cons (ps_if (pt_cmpR op_eq (pv 0) pe_str (nomark _)) (pss_one (ps_ret (pe_or (pe_cmpR op_isN (pv 1) pe_non (nomark _)) (pe_one (pe_call S.Gn hr1 (by rfl) S.Dn.at_ S.Dn.kp S.Dn.bd .nil pass0 (pa_cons (pv 1) pa_nil)))))) pss_nil)
      (pss_cons (ps_if (pt_cmpR op_eq (pv 0) pe_str (nomark _)) (pss_one (ps_ret (pe_call S.Gw hr2 (by rfl) S.Dw.at_ S.Dw.kp S.Dw.bd .nil pass0 (pa_cons (pv 1) pa_nil)))) pss_nil)
      (pss_cons (ps_if (pt_cmpR op_eq (pv 0) pe_str (nomark _)) (pss_one (ps_ret (pe_call S.Gt hr2 (by rfl) S.Dt.at_ S.Dt.kp S.Dt.bd .nil pass0 (pa_cons (pv 1) pa_nil)))) pss_nil)
      (pss_cons (ps_if (pt_cmpR op_eq (pv 0) pe_str (nomark _)) (pss_one (ps_ret (pe_call S.Gh hr1 (by rfl) S.Dh.at_ S.Dh.kp S.Dh.bd .nil pass0 (pa_cons (pv 1) (pa_cons pe_int (pa_cons pe_int pa_nil)))))) pss_nil)
      (pss_cons (ps_if (pt_cmpR op_eq (pv 0) pe_str (nomark _)) (pss_one (ps_ret (pe_call S.Gh hr1 (by rfl) S.Dh.at_ S.Dh.kp S.Dh.bd .nil pass0 (pa_cons (pv 1) (pa_cons pe_int (pa_cons pe_int pa_nil)))))) pss_nil)
      (pss_one (ps_ret pe_bl)))))))))), ?_⟩
    have q0 := q H (Same.refl H)
    unfold fitsD at q q0
    have eS : lk slot STv = (lk slot ST).map fun p => [.int p.1, .int p.2] := lk_map (fun p : Int × Int => [V.int p.1, V.int p.2]) slot ST
    cases e : lk slot ST with
    | some p =>
      obtain ⟨lo, hi⟩ := p
      rw [e] at eS q q0
      obtain ⟨a, la, sa⟩ := FS.some eS
      refine ⟨_, rfl, slot, rfl, rfl, _, rfl, iteB (by rw [la]; rfl) ?_⟩
      refine ⟨_, rfl, slot, .ref a, rfl, rfl, la, a, _, rfl, sa _, rfl, _, _, rfl, _, _, rfl, rfl, ?_⟩
      refine ⟨_, rfl, x, .ty "tuple", _, _, _, rfl, .ty "tuple", da.kn.ty, kit_ty (kit_tup d), _, rfl, ?_⟩
      cases da with
      | @tup b xs ds h l r =>
        refine iteT ?_
        have q1 : Q (.bl (decide (lo ≤ (ds.length : Int)) && decide ((ds.length : Int) ≤ hi))) H := q0
        rw [← r.len] at q1
        refine ⟨_, rfl, _, rfl, b, xs, rfl, .inr (SqT.of h), _, _, rfl, rfl, _, rfl, ite2 (fun h1 => ⟨_, rfl, _, _, rfl, rfl, ?_⟩) (fun h1 => ?_)⟩
        · rw [h1, Bool.true_and] at q1
          exact q1
        · rw [Bool.eq_false_iff.mpr h1, Bool.false_and] at q1
          exact q1
      | _ => exact iteF q0
    | none =>
      rw [e] at eS q q0
      refine ⟨_, rfl, slot, rfl, rfl, _, rfl, iteN (by rw [FS.none eS]; rfl) ?_⟩
      dsimp only at q q0
      refine ⟨_, rfl, rfl, _, rfl, ite2 (fun h => ?_) (fun h => ?_)⟩
      · rw [if_pos h] at q0
        exact ⟨_, rfl, x, d, rfl, da, q0⟩
      rw [if_neg h] at q q0
      refine ⟨_, rfl, rfl, _, rfl, ite2 (fun h => ?_) (fun h => ?_)⟩
      · rw [if_pos h] at q
        exact ⟨_, rfl, x, d, rfl, da, q⟩
      rw [if_neg h] at q q0
      refine ⟨_, rfl, rfl, _, rfl, ite2 (fun h => ?_) (fun h => ?_)⟩
      · rw [if_pos h] at q
        exact ⟨_, rfl, x, d, rfl, da, q⟩
      rw [if_neg h] at q q0
      refine ⟨_, rfl, rfl, _, rfl, ite2 (fun h => ?_) (fun h => ?_)⟩
      · rw [if_pos h] at q q0
        refine ⟨_, rfl, rfl, _, rfl, ?_⟩
        cases da with
        | non => exact iteT q0
        | bl c => exact iteF ⟨_, rfl, _, _, rfl, .bl c, q⟩
        | int i => exact iteF ⟨_, rfl, _, _, rfl, .int i, q⟩
        | str z hz => exact iteF ⟨_, rfl, _, _, rfl, .str z hz, q⟩
        | lst h l r => exact iteF ⟨_, rfl, _, _, rfl, .lst h l r, q⟩
        | tup h l r => exact iteF ⟨_, rfl, _, _, rfl, .tup h l r, q⟩
        | emp h => exact iteF ⟨_, rfl, _, _, rfl, .emp h, q⟩
      rw [if_neg h] at q q0
      refine ⟨_, rfl, rfl, _, rfl, ite2 (fun h => ?_) (fun h => ?_)⟩
      · rw [if_pos h, ← da.whole] at q0
        exact ⟨_, rfl, x, _, rfl, da.kn, q0⟩
      rw [if_neg h] at q q0
      refine ⟨_, rfl, rfl, _, rfl, ite2 (fun h => ?_) (fun h => ?_)⟩
      · rw [if_pos h, ← da.whole] at q0
        exact ⟨_, rfl, x, _, rfl, da.kn, q0⟩
      rw [if_neg h] at q q0
      refine ⟨_, rfl, rfl, _, rfl, ite2 (fun h => ?_) (fun h => ?_)⟩
      · rw [if_pos h, ← da.whole] at q0
        exact ⟨_, rfl, x, _, 0, 7, rfl, da.kn, q0⟩
      rw [if_neg h] at q q0
      refine ⟨_, rfl, rfl, _, rfl, ite2 (fun h => ?_) (fun h => ?_)⟩
      · rw [if_pos h, ← da.whole] at q0
        exact ⟨_, rfl, x, _, 0, 3, rfl, da.kn, q0⟩
      rw [if_neg h] at q0
      exact q0
end
end K5
end Bf

namespace Bf
open PySem PySem.Spec PyProof.Rows L2
theorem cut_from {xs : List V} {k : Nat} : cutV xs (some (k : Int)) none = xs.drop k := by
  unfold cutV
  rw [HT.sIx_none, HT.sIx_nat]
  by_cases h : k ≤ xs.length
  · rw [Nat.min_eq_left h]
    have e : xs.length - k = (xs.drop k).length := by rw [List.length_drop]
    rw [e, List.take_length]
  · rw [Nat.min_eq_right (by omega), Nat.sub_self, List.take_zero, List.drop_eq_nil_of_le (by omega)]
theorem not_whole {xs : List V} {k : Nat} (hk : 0 < k) (h : 0 < xs.length) : ¬ (HT.sIx xs.length 0 (some (k : Int)) = 0 ∧ HT.sIx xs.length xs.length none = xs.length) := by
  rw [HT.sIx_nat]
  omega
theorem zw_get {α β γ : Type} (f : α → β → γ) : ∀ {as : List α} {bs : List β} {i : Nat} {a : α} {b : β}, as[i]? = some a → bs[i]? = some b → (List.zipWith f as bs)[i]? = some (f a b) := by
  intro as bs i a b h1 h2
  rw [List.getElem?_zipWith, h1, h2]
namespace K5
def litD : List PyData → Bool
  | k :: x :: _ => worthD x k
  | _ => false
def formedD : PyData → Bool
  | .tuple (.str w :: rest) => match lk w FM with
    | some ss => decide (rest.length = ss.length) && (List.zipWith fitsD ss rest).all id && (!decide (V.str w = V.str "lit") || litD rest)
    | none => false
  | _ => false
def callS (c : Str) : Bool := inV (.str c) (CL.map V.str)
def oneD (slot : Str) (d : PyData) : List PyData := if decide (V.str slot = V.str "term") = true then [d] else match lk slot ST with
  | some _ => match d with
    | .tuple ds => ds
    | _ => []
  | none => []
def withinD : PyData → List PyData
  | .tuple (.str w :: rest) => match lk w FM with
    | some ss => (List.zipWith oneD ss rest).flatten
    | none => []
  | _ => []
/-- what is formed, taken apart -/
theorem formed_inv {d : PyData} (h : formedD d = true) : ∃ c rest ss, d = .tuple (.str c :: rest) ∧ lk c FM = some ss ∧ rest.length = ss.length ∧ (List.zipWith fitsD ss rest).all id = true ∧ (!decide (V.str c = V.str "lit") || litD rest) = true := by
  unfold formedD at h
  split at h
  · rename_i c rest
    cases e : lk c FM with
    | none => rw [e] at h; cases h
    | some ss =>
      rw [e] at h
      obtain ⟨h1, h3⟩ := Bool.and_eq_true_iff.mp h
      obtain ⟨h1, h2⟩ := Bool.and_eq_true_iff.mp h1
      exact ⟨c, rest, ss, rfl, e, of_decide_eq_true h1, h2, h3⟩
  · cases h
theorem formed_eq {c : Str} {rest : List PyData} {ss : List Str} (e : lk c FM = some ss) : formedD (.tuple (.str c :: rest)) = (decide (rest.length = ss.length) && (List.zipWith fitsD ss rest).all id && (!decide (V.str c = V.str "lit") || litD rest)) := by
  show (match lk c FM with | some ss => _ | none => false) = _
  rw [e]
theorem within_eq {c : Str} {rest : List PyData} {ss : List Str} (e : lk c FM = some ss) : withinD (.tuple (.str c :: rest)) = (List.zipWith oneD ss rest).flatten := by
  show (match lk c FM with | some ss => (List.zipWith oneD ss rest).flatten | none => []) = _
  rw [e]
theorem fm_len {c : Str} {ss : List Str} (e : lk c FM = some ss) : 1 ≤ ss.length ∧ ss.length ≤ 4 := by
  have all : ∀ p ∈ FM, 1 ≤ p.2.length ∧ p.2.length ≤ 4 := by decide +kernel
  have key : ∀ (l : List (Str × List Str)), lk c l = some ss → ∃ p ∈ l, p.2 = ss := by
    intro l
    induction l with
    | nil => intro h; cases h
    | cons p r ih =>
      obtain ⟨k, v⟩ := p
      intro h
      unfold lk at h
      split at h
      · cases h; exact ⟨_, List.mem_cons_self, rfl⟩
      · obtain ⟨p, m, e⟩ := ih h
        exact ⟨p, List.mem_cons_of_mem _ m, e⟩
  obtain ⟨p, m, rfl⟩ := key FM e
  exact all p m
section
variable {P : Program} {w : World} {K : PySem.W.Frag} {mg : Str → Option Value} {base : Heap} {aF aS aC : Addr}
def spFormed : Sp := fun vs H Q _ => ∃ (x : V) (d : PyData), vs = [x] ∧ Da H x d ∧ ∀ H', Same H H' → Q (.bl (formedD d)) H'
theorem scFormed : FnScope ["thing", "word", "slots", "slot", "held"] ["thing"] (defScope sFormed) := ⟨rfl, rfl, rfl, by decide +kernel, rfl, by decide +kernel, by decide +kernel⟩
theorem ok_formed {f fh fw ft fn fk fd_ ff fo : Addr} {fd dh dw dt dn dk dd df do_ : FuncData} (F : Fun K "_is_formed" "_is_formed" sFormed f fd) (T : Tbs K w mg aF aS aC) (S : Sml P w K mg base fh fw ft fn fk fd_ dh dw dt dn dk dd)
    (Df_ : Df K mg "_fits" ff df ["slot", "thing"]) (Gf : FnOk P w K mg base CX0 5 ff df ["slot", "thing"] spFits) (Do : Df K mg "is_worth" fo do_ ["thing", "kind"]) (Go : FnOk P w K mg base CX0 5 fo do_ ["thing", "kind"] spIsWorth) : FnOk P w K mg base CX0 6 f fd ["thing"] spFormed := by
  obtain ⟨tb, DF, FF⟩ := T.tF
  refine F.ok scFormed (fun vs H Q E h => ?_) (fun cdv A outer s H vs Q E hr h => ?_)
  · obtain ⟨x, d, rfl, _⟩ := h
    rfl
  · obtain ⟨x, d, rfl, da, q⟩ := h
    refine ⟨_, pss_cons (ps_if (PW.pt (pw_or (pt_not (pt_val (pe_callB call_isi (by rfl) S.mi (by decide +kernel) (pa_cons (pv 0) (pa_cons (pe_bltn (v := .ty "tuple") (by rfl) S.mt (by decide +kernel) rfl) pa_nil)))))
          (pw_or1 (pt_cmpR op_eq (pe_callB call_len_seq (by rfl) S.ml PySem.boot_len (pa_cons (pv 0) pa_nil)) pe_int (nomark _))))) (pss_one (ps_ret pe_bl)) pss_nil)
      (pss_cons (ps_set (i := 1) scFormed.nd rfl (Or.inl rfl) (pe_ix ix_tup (pv 0) pe_int (fun _ _ => rfl)))
      (pss_cons (ps_if (PW.pt (pw_or (pt_not (pt_val (pe_callB call_isi (by rfl) S.mi (by decide +kernel) (pa_cons (pv 1) (pa_cons (pe_bltn (v := .ty "str") (by rfl) S.ms (by decide +kernel) rfl) pa_nil)))))
          (pw_or1 (pt_cmpR (op_notIn_dct DF) (pv 1) (pe_glob (v := .ref aF) (by rfl) T.gF rfl) (by rfl))))) (pss_one (ps_ret pe_bl)) pss_nil)
      (pss_cons (ps_set (i := 2) scFormed.nd rfl (Or.inl rfl) (pe_ix (ix_dct DF) (pe_glob (v := .ref aF) (by rfl) T.gF rfl) (pv 1) (fun _ _ => rfl)))
      (pss_cons (ps_if (pt_cmpR op_ne (pe_callB call_len_seq (by rfl) S.ml PySem.boot_len (pa_cons (pv 0) pa_nil)) (pe_op op_add (pe_callB call_len_seq (by rfl) S.ml PySem.boot_len (pa_cons (pv 2) pa_nil)) pe_int) (nomark _)) (pss_one (ps_ret pe_bl)) pss_nil)
      (pss_cons (ps_if (pt_not (pt_val (pe_callB (cr_all rfl) (by rfl) S.ma (by decide +kernel) (pa_cons (pe_lc (own := [("slot", 3), ("held", 4)]) (g := gTup K 2 (gCons (gName 3) (gCons (gName 4) gNil))) (tt := tYes) rfl scFormed.nd (RZ.pi_zipA (by rfl) S.mz (pa_cons (pv 2) (pa_cons (pe_slice sl_tupA (pv 0) (po_some pe_int) po_none) pa_nil)))
          (blkOk_by (N := ["thing", "word", "slots", "slot", "held"]) (sc := defScope sFormed) (by decide +kernel)) (fun _ _ _ _ _ => pg_tup rfl (pgs_cons (pg_name (i := 3) scFormed.nd rfl (Or.inl rfl)) (pgs_cons (pg_name (i := 4) scFormed.nd rfl (Or.inl rfl)) pgs_nil))) (fun _ _ _ _ _ => pts_nil)
          (fun _ _ _ _ _ => pe_call Gf hr (by rfl) Df_.at_ Df_.kp Df_.bd .nil pass0 (pa_cons (pv 3) (pa_cons (pv 4) pa_nil)))) pa_nil)))) (pss_one (ps_ret pe_bl)) pss_nil)
      (pss_one (ps_ret (pe_or (pe_cmpR op_ne (pv 1) pe_str (nomark _)) (pe_one (pe_call Go hr (by rfl) Do.at_ Do.kp Do.bd .nil pass0 (pa_cons (pe_ix ix_tup (pv 0) pe_int (fun _ _ => rfl)) (pa_cons (pe_ix ix_tup (pv 0) pe_int (fun _ _ => rfl)) pa_nil)))))))))))), ?_⟩
    refine ⟨_, rfl, x, .ty "tuple", _, _, _, rfl, .ty "tuple", da.kn.ty, kit_ty (kit_tup d), _, rfl, ?_⟩
    have q0 := q H (Same.refl H)
    cases da with
    | @tup a xs ds h l r =>
      refine iteF ⟨_, rfl, a, xs, rfl, .inr (SqT.of h), rfl, _, rfl, ?_⟩
      cases r with
      | nil => exact iteB (by rfl) q0
      | @cons v vs d1 rest hv rv =>
        have nz : ¬ V.int (((v :: vs).length : Nat) : Int) = V.int 0 := fun z => by have := V.int.inj z; rw [List.length_cons] at this; omega
        refine iteN (decide_eq_false nz) ?_
        refine ⟨_, rfl, a, _, ((0 : Nat) : Int), v, rfl, rfl, SqT.of h, atI_nat rfl, ?_⟩
        refine ⟨_, rfl, v, .ty "str", _, _, _, rfl, .ty "str", hv.kn.ty, kit_ty (kit_str d1), _, rfl, ?_⟩
        cases hv with
        | str c hc =>
          refine iteF ⟨_, rfl, c, rfl, rfl, _, rfl, ?_⟩
          have eF : lk c FMv = (lk c FM).map fun p => p.map V.str := lk_map (fun p : List Str => p.map V.str) c FM
          cases e : lk c FM with
          | none =>
            rw [e] at eF
            refine iteB (by rw [FF.none eF]; rfl) ?_
            have e0 : formedD (.tuple (.str c :: rest)) = false := by
              show (match lk c FM with | some ss => _ | none => false) = _
              rw [e]
            rw [e0] at q0
            exact q0
          | some ss =>
            rw [e] at eF
            obtain ⟨b, lb, sb⟩ := FF.some eF
            rw [formed_eq e] at q q0
            refine iteN (by rw [lb]; rfl) ?_
            refine ⟨_, rfl, c, .ref b, rfl, rfl, lb, ?_⟩
            refine ⟨_, rfl, a, _, rfl, .inr (SqT.of h), _, rfl, b, _, rfl, .inr (sb _), _, _, rfl, rfl, rfl, _, rfl, ?_⟩
            have lv := rv.len
            by_cases hl : rest.length = ss.length
            · rw [decide_eq_true hl, Bool.true_and] at q q0
              refine iteN (by rw [decide_eq_true (show V.int (((V.str c :: vs).length : Nat) : Int) = V.int (((ss.map V.str).length : Nat) + 1) by rw [List.length_cons, List.length_map, lv, hl]; rfl)]; rfl) ?_
              refine ⟨_, rfl, _, rfl, 1, rfl, a, _, rfl, SqT.of h, (fun z => absurd z (not_whole (k := 1) (by decide) (by simp))), fun _ t ht => ?_⟩
              have ec : cutV (V.str c :: vs) (some (1 : Int)) none = vs := cut_from (k := 1)
              rw [ec]
              have s1 : Same H (upd H t (.tup vs)) := same_new ht
              have rv1 := rv.same s1
              refine ⟨b, t, ss.map V.str, vs, rfl, .inr ⟨sb _, SqT.of upd_same, fun D hD => ?_⟩⟩
              refine lc_itzT (K := K) (a := b) (b := t) (xs := ss.map V.str) (ys := vs) (by rw [List.length_map, lv, hl]) (fun i H' => Same (upd H t (.tup vs)) H' ∧ H' D = some (.lst (((List.zipWith fitsD ss rest).take i).map V.bl))) ⟨same_new hD, upd_same⟩
                (fun i H' _ pv => ⟨sb _, SqT.of (pv.1 _ _ upd_same)⟩) (fun i x y H' T' hx hy pv hT => ?_) fun H' pv => ?_
              · rw [List.getElem?_map] at hx
                cases hj : ss[i]? with
                | none => rw [hj] at hx; cases hx
                | some sl =>
                  rw [hj] at hx
                  cases hx
                  obtain ⟨dy, hdy, day⟩ := (rv1.same pv.1).get hy
                  have nTD : T' ≠ D := fun e => by rw [e, pv.2] at hT; cases hT
                  have sT : Same H' (upd H' T' (.tup [.str sl, y])) := same_new hT
                  refine ⟨T', _, rfl, SqT.of upd_same, rfl, _, _, rfl, _, _, rfl, rfl, rfl, _, rfl, _, rfl, sl, y, dy, rfl, day.same sT, fun H'' s'' => ⟨_, s'' _ _ ((upd_ne nTD.symm).trans pv.2), ?_, fun c o e => ?_, ?_⟩⟩
                  · rw [List.length_map, List.length_take]
                    have := (fm_len e).2
                    have := (List.getElem?_eq_some_iff.mp hj).1
                    exact small1000 (by omega)
                  · rw [upd_ne (ne_of_none e hD)]
                    exact s'' _ _ (sT _ _ (pv.1 _ _ e))
                  · rw [upd_same, List.take_add_one, zw_get fitsD hj hdy, List.map_append]
                    rfl
              · have lz : (List.zipWith fitsD ss rest).length = ss.length := by rw [List.length_zipWith, hl, Nat.min_self]
                rw [List.length_map, ← lz, List.take_length] at pv
                have s2 : Same H H' := s1.trans pv.1
                refine ⟨D, _, rfl, SqL.of pv.2, _, rfl, ?_⟩
                by_cases hf : (List.zipWith fitsD ss rest).all id = true
                · rw [hf, Bool.true_and] at q q0
                  rw [hf]
                  refine iteF ⟨_, rfl, rfl, _, rfl, ite2 (fun h1 => ?_) (fun h1 => ?_)⟩
                  · rw [show (!decide (V.str c = V.str "lit")) = true from h1, Bool.true_or] at q
                    exact q _ s2
                  · have h1' : (!decide (V.str c = V.str "lit")) = false := Bool.eq_false_iff.mpr h1
                    rw [h1', Bool.false_or] at q
                    have cl : c = "lit" := by
                      have := of_decide_eq_true (show decide (V.str c = V.str "lit") = true by simpa using h1')
                      exact V.str.inj this
                    subst cl
                    have ess : ss = (["kind", "worth"] : List Str) := by
                      have e2 : lk "lit" FM = some (["kind", "worth"] : List Str) := by decide +kernel
                      rw [e2] at e
                      exact (Option.some.inj e).symm
                    subst ess
                    match rest, hl, rv, hf with
                    | [dk, dx], _, .cons (v := vk) hk (.cons (v := vx) hx .nil), hf =>
                      have fk : kindD dk = true := by
                        have := (List.all_eq_true.mp hf) (fitsD "kind" dk) List.mem_cons_self
                        have e3 : fitsD "kind" dk = kindD dk := rfl
                        rw [e3] at this
                        exact this
                      exact ⟨_, rfl, a, _, 2, _, rfl, rfl, SqT.of (s2 _ _ h), rfl, _, rfl, a, _, 1, _, rfl, rfl, SqT.of (s2 _ _ h), rfl, vx, vk, dx, dk, rfl, hx.same s2, hk.same s2, fk, fun H'' s'' => q _ (s2.trans s'')⟩
                · have hf' := Bool.eq_false_iff.mpr hf
                  rw [hf', Bool.false_and] at q
                  rw [hf']
                  exact iteT (q _ s2)
            · rw [decide_eq_false hl, Bool.false_and, Bool.false_and] at q0
              refine iteB (by rw [decide_eq_false (fun z => hl (by have := V.int.inj z; rw [List.length_cons, List.length_map] at this; omega))]; rfl) q0
        | _ => exact iteT q0
    | _ => exact iteT q0
end
end K5
end Bf

namespace Bf
open PySem PySem.Spec PyProof.Rows L2
namespace K5
mutual
def sz : PyData → Nat
  | .list ds => 1 + szA ds
  | .tuple ds => 1 + szA ds
  | .none => 1
  | .bool _ => 1
  | .int _ => 1
  | .str _ => 1
  | .dict _ => 1
def szA : List PyData → Nat
  | [] => 0
  | d :: r => sz d + szA r
end
theorem sz_tup (ds : List PyData) : sz (.tuple ds) = 1 + szA ds := by simp only [sz]
theorem sz_str (c : Str) : sz (.str c) = 1 := by simp only [sz]
theorem szA_nil : szA [] = 0 := by simp only [szA]
theorem szA_cons (d : PyData) (r : List PyData) : szA (d :: r) = sz d + szA r := by simp only [szA]
theorem sz_pos (d : PyData) : 1 ≤ sz d := by
  cases d <;> simp only [sz] <;> omega
theorem szA_app : ∀ a b : List PyData, szA (a ++ b) = szA a + szA b
  | [], b => by rw [List.nil_append, szA_nil, Nat.zero_add]
  | d :: r, b => by rw [List.cons_append, szA_cons, szA_cons, szA_app r b, Nat.add_assoc]
theorem szA_mem {e : PyData} : ∀ {l : List PyData}, e ∈ l → sz e ≤ szA l
  | d :: r, m => by
    rw [szA_cons]
    rcases List.mem_cons.mp m with rfl | m
    · omega
    · have := szA_mem m; omega
theorem szA_len : ∀ l : List PyData, l.length ≤ szA l
  | [] => by rw [szA_nil]; exact Nat.le_refl _
  | d :: r => by
    rw [szA_cons, List.length_cons]
    have := szA_len r
    have := sz_pos d
    omega
theorem szA_rev : ∀ l : List PyData, szA l.reverse = szA l
  | [] => rfl
  | d :: r => by rw [List.reverse_cons, szA_app, szA_cons, szA_cons, szA_nil, szA_rev r]; omega
theorem one_sz (s : Str) (d : PyData) : szA (oneD s d) ≤ sz d := by
  unfold oneD
  split
  · rw [szA_cons, szA_nil]; omega
  · split
    · split
      · rw [sz_tup]; omega
      · rw [szA_nil]; omega
    · rw [szA_nil]; omega
theorem ones_sz : ∀ (ss : List Str) (ds : List PyData), szA (List.zipWith oneD ss ds).flatten ≤ szA ds
  | [], ds => by rw [List.zipWith_nil_left, List.flatten_nil, szA_nil]; omega
  | _ :: _, [] => by rw [List.zipWith_nil_right, List.flatten_nil, szA_nil]; omega
  | s :: ss, d :: ds => by
    rw [List.zipWith_cons_cons, List.flatten_cons, szA_app, szA_cons]
    have := one_sz s d
    have := ones_sz ss ds
    omega
theorem within_sz (d : PyData) : szA (withinD d) < sz d := by
  unfold withinD
  split
  · rename_i c rest
    have h2 : sz (.tuple (.str c :: rest)) = 1 + (1 + szA rest) := by rw [sz_tup, szA_cons, sz_str]
    rw [h2]
    split
    · rename_i ss _
      have := ones_sz ss rest
      omega
    · rw [szA_nil]; omega
  · rw [szA_nil]; have := sz_pos d; omega
/-! ### terms -/
def callX : PyData → Bool
  | .tuple (.str c :: _) => callS c
  | _ => false
def termF : Nat → PyData → Bool
  | 0, _ => false
  | n + 1, d => (formedD d && !callX d) && (withinD d).all (termF n)
def termD (d : PyData) : Bool := termF (sz d) d
theorem all_congr' {α : Type} {f g : α → Bool} : ∀ {l : List α}, (∀ x ∈ l, f x = g x) → l.all f = l.all g
  | [], _ => rfl
  | a :: r, h => by rw [List.all_cons, List.all_cons, h a List.mem_cons_self, all_congr' fun x m => h x (List.mem_cons_of_mem _ m)]
theorem termF_eq : ∀ (n m : Nat) (d : PyData), sz d ≤ n → sz d ≤ m → termF n d = termF m d
  | 0, _, d, h, _ => absurd h (by have := sz_pos d; omega)
  | _, 0, d, _, h => absurd h (by have := sz_pos d; omega)
  | n + 1, m + 1, d, h1, h2 => by
    unfold termF
    have ws := within_sz d
    rw [all_congr' fun e me => termF_eq n m e (by have := szA_mem me; omega) (by have := szA_mem me; omega)]
theorem termD_eq (d : PyData) : termD d = ((formedD d && !callX d) && (withinD d).all termD) := by
  unfold termD
  obtain ⟨n, e⟩ : ∃ n, sz d = n + 1 := ⟨sz d - 1, by have := sz_pos d; omega⟩
  rw [e]
  show ((formedD d && !callX d) && (withinD d).all (termF n)) = _
  have ws := within_sz d
  rw [all_congr' fun x mx => termF_eq n (sz x) x (by have := szA_mem mx; omega) (Nat.le_refl _)]
def rightD (d : PyData) : Bool := formedD d && (withinD d).all termD
/-! ### parts, each ahead of those within it -/
def partF : Nat → PyData → List PyData
  | 0, _ => []
  | n + 1, d => d :: ((withinD d).map (partF n)).flatten
def partD (d : PyData) : List PyData := partF (sz d) d
theorem map_congr' {α β : Type} {f g : α → β} : ∀ {l : List α}, (∀ x ∈ l, f x = g x) → l.map f = l.map g
  | [], _ => rfl
  | a :: r, h => by rw [List.map_cons, List.map_cons, h a List.mem_cons_self, map_congr' fun x m => h x (List.mem_cons_of_mem _ m)]
theorem partF_eq : ∀ (n m : Nat) (d : PyData), sz d ≤ n → sz d ≤ m → partF n d = partF m d
  | 0, _, d, h, _ => absurd h (by have := sz_pos d; omega)
  | _, 0, d, _, h => absurd h (by have := sz_pos d; omega)
  | n + 1, m + 1, d, h1, h2 => by
    unfold partF
    have ws := within_sz d
    rw [map_congr' fun e me => partF_eq n m e (by have := szA_mem me; omega) (by have := szA_mem me; omega)]
theorem partD_eq (d : PyData) : partD d = d :: ((withinD d).map partD).flatten := by
  unfold partD
  obtain ⟨n, e⟩ : ∃ n, sz d = n + 1 := ⟨sz d - 1, by have := sz_pos d; omega⟩
  rw [e]
  show d :: ((withinD d).map (partF n)).flatten = _
  have ws := within_sz d
  rw [map_congr' fun x mx => partF_eq n (sz x) x (by have := szA_mem mx; omega) (Nat.le_refl _)]
def partsD (d : PyData) : List PyData := if callX d = true then ((withinD d).map partD).flatten else partD d
section
variable {P : Program} {w : World} {K : PySem.W.Frag} {mg : Str → Option Value} {base : Heap} {aF aS aC : Addr}
/-! ### _is_call -/
def spCall : Sp := fun vs H Q _ => ∃ (x : V) (c : Str) (rest : List PyData), vs = [x] ∧ Da H x (.tuple (.str c :: rest)) ∧ Q (.bl (callS c)) H
theorem scCall : FnScope ["right"] ["right"] (defScope sIsCall) := ⟨rfl, rfl, rfl, by decide +kernel, rfl, by decide +kernel, by decide +kernel⟩
theorem ok_call {f : Addr} {fd : FuncData} (F : Fun K "is_call" "is_call" sIsCall f fd) (T : Tbs K w mg aF aS aC) : FnOk P w K mg base CX0 2 f fd ["right"] spCall := by
  refine F.ok scCall (fun vs H Q E h => ?_) (fun cdv A outer s H vs Q E hr h => ?_)
  · obtain ⟨x, c, rest, rfl, _⟩ := h
    rfl
  · obtain ⟨x, c, rest, rfl, da, q⟩ := h
    refine ⟨_, pss_one (ps_ret (pe_cmpR op_in_seq (pe_ix ix_tup (pv 0) pe_int (fun _ _ => rfl)) (pe_glob (v := .ref aC) (by rfl) T.gC rfl) (by rfl))), ?_⟩
    obtain ⟨a, xs, rfl, h, l, r⟩ := da.tup_inv
    cases r with
    | cons h1 r1 =>
      cases h1
      exact ⟨_, rfl, a, _, ((0 : Nat) : Int), _, rfl, rfl, SqT.of h, atI_nat rfl, aC, _, rfl, .inr (T.sC _), rfl, by decide +kernel, q⟩
/-! ### _terms_within -/
def spWithin : Sp := fun vs H Q _ => ∃ (x : V) (d : PyData) (Hs : Hp), vs = [x] ∧ Same Hs H ∧ Da Hs x d ∧ formedD d = true ∧ ∀ p H' xs, Same H H' → H p = none → H' p = some (.lst xs) → DaAll Hs xs (withinD d) → Q (.ref p) H'
abbrev nWithin : List Str := ["right", "terms", "slot", "held"]
theorem scWithin : FnScope nWithin ["right"] (defScope sWithin) := ⟨rfl, rfl, rfl, by decide +kernel, rfl, by decide +kernel, by decide +kernel⟩
theorem range_inv {lo hi : Int} {d : PyData} (h : rangeD lo hi d = true) : ∃ ds, d = .tuple ds := by
  cases d with
  | tuple ds => exact ⟨ds, rfl⟩
  | _ => cases h
theorem ok_within {f : Addr} {fd : FuncData} (F : Fun K "terms_within" "terms_within" sWithin f fd) (T : Tbs K w mg aF aS aC) (mz : mg "zip" = none) : FnOk P w K mg base CX0 2 f fd ["right"] spWithin := by
  obtain ⟨tf, DF, FF⟩ := T.tF
  obtain ⟨ts, DS, FS⟩ := T.tS
  refine F.ok scWithin (fun vs H Q E h => ?_) (fun cdv A outer s H vs Q E hr h => ?_)
  · obtain ⟨x, d, Hs, rfl, _⟩ := h
    rfl
  · obtain ⟨x, d, Hs, rfl, sH, da, fo, q⟩ := h
    refine ⟨_, pss_cons (ps_set (i := 1) scWithin.nd rfl (Or.inl rfl) (pe_lst pa_nil))
      (pss_cons (ps_for PassesOwn.never rfl (RZ.pi_zipA (by rfl) mz (pa_cons (pe_ix (ix_dct DF) (pe_glob (v := .ref aF) (by rfl) T.gF rfl) (pe_ix ix_tup (pv 0) pe_int (fun _ _ => rfl)) (fun _ _ => rfl)) (pa_cons (pe_slice sl_tupA (pv 0) (po_some pe_int) po_none) pa_nil)))
          (pg_tup rfl (pgs_cons (pg_name (i := 2) scWithin.nd rfl (Or.inl rfl)) (pgs_cons (pg_name (i := 3) scWithin.nd rfl (Or.inl rfl)) pgs_nil)))
        (pss_one (ps_if (pt_cmpR op_eq (pv 2) pe_str (nomark _)) (pss_one (ps_expr (pe_bm PySem.F.plainAttrs_list PySem.F.slot_list_append PySem.F.type_list_append mt_append (pv 1) (pa_cons (pv 3) pa_nil))))
          (pss_one (ps_if (pt_cmpR (op_in_dct DS) (pv 2) (pe_glob (v := .ref aS) (by rfl) T.gS rfl) (by rfl)) (pss_one (ps_expr (pe_bm PySem.F.plainAttrs_list PySem.F.slot_list_extend PySem.F.type_list_extend mt_extT (pv 1) (pa_cons (pv 3) pa_nil)))) pss_nil)))))
      (pss_one (ps_ret (pv 1)))), ?_⟩
    obtain ⟨c, rest, ss, rfl, e, hl, hf, _⟩ := formed_inv fo
    obtain ⟨a, xs, rfl, hs, l, r⟩ := da.tup_inv
    rw [within_eq e] at q
    cases r with
    | @cons v vs d1 _ hv rv =>
      cases hv
      have eF : lk c FMv = (lk c FM).map fun p => p.map V.str := lk_map (fun p : List Str => p.map V.str) c FM
      rw [e] at eF
      obtain ⟨b, lb, sb⟩ := FF.some eF
      have lv := rv.len
      have l4 := fm_len e
      refine ⟨by show 0 ≤ sizeLine; decide, fun W hW => ?_⟩
      have sW : Same Hs (upd H W (.lst [])) := sH.trans (same_new hW)
      refine ⟨_, rfl, a, _, ((0 : Nat) : Int), _, rfl, rfl, SqT.of (sW _ _ hs), atI_nat rfl, c, .ref b, rfl, rfl, lb, ?_⟩
      refine ⟨_, rfl, 1, rfl, a, _, rfl, SqT.of (sW _ _ hs), (fun z => absurd z (not_whole (k := 1) (by decide) (by simp))), fun _ t ht => ?_⟩
      have ec : cutV (V.str c :: vs) (some (1 : Int)) none = vs := cut_from (k := 1)
      rw [ec]
      have st : Same (upd H W (.lst [])) (upd (upd H W (.lst [])) t (.tup vs)) := same_new ht
      have hWs : Hs W = none := by
        cases z : Hs W with
        | none => rfl
        | some o => rw [sH _ _ z] at hW; cases hW
      have zl : (ss.map V.str).length = vs.length := by rw [List.length_map, lv, hl]
      refine ⟨b, t, ss.map V.str, vs, rfl, .inr ⟨sb _, SqT.of upd_same, RZ.for_zipT (K := K) (a := b) (b := t) zl
        (fun i σ H' => ∃ u2 u3 xs', σ = [some (.ref a), some (.ref W), u2, u3] ∧ H' W = some (.lst xs') ∧ DaAll Hs xs' ((List.zipWith oneD ss rest).take i).flatten ∧ xs'.length ≤ 1001 * i ∧ Same H H' ∧ H' t = some (.tup vs))
        ⟨_, _, [], rfl, st _ _ upd_same, .nil, Nat.zero_le _, (same_new hW).trans st, upd_same⟩ (fun i σ H' pv => ?_) (fun i x y T' σ H' hx hy pv hT => ?_) fun σ H' pv => ?_⟩⟩
      · obtain ⟨u2, u3, xs', rfl, gW, _, _, _, gt⟩ := pv
        exact ⟨sb _, SqT.of gt⟩
      · obtain ⟨u2, u3, xs', rfl, gW, dx, lx, sx, gt⟩ := pv
        rw [List.getElem?_map] at hx
        cases hj : ss[i]? with
        | none => rw [hj] at hx; cases hx
        | some sl =>
          rw [hj] at hx
          cases hx
          obtain ⟨dy, hdy, day⟩ := rv.get hy
          have hi := (List.getElem?_eq_some_iff.mp hj).1
          have nTW : T' ≠ W := fun e => by rw [e, gW] at hT; cases hT
          have nTt : T' ≠ t := fun e => by rw [e, gt] at hT; cases hT
          have sT : Same H' (upd H' T' (.tup [.str sl, y])) := same_new hT
          have gW' := sT _ _ gW
          have gt' := sT _ _ gt
          have tk : ((List.zipWith oneD ss rest).take (i + 1)).flatten = ((List.zipWith oneD ss rest).take i).flatten ++ oneD sl dy := by
            rw [List.take_add_one, zw_get oneD hj hdy, List.flatten_append]
            show _ ++ [oneD sl dy].flatten = _
            rw [List.flatten_cons, List.flatten_nil, List.append_nil]
          have ntW : t ≠ W := fun e => by rw [e, gW] at gt; cases gt
          have sz1 : xs'.length < sizeLine ∧ xs'.length + 1000 ≤ sizeLine := by rw [sizeLine_eq]; omega
          have keep : ∀ ys, Same H (upd (upd H' T' (.tup [.str sl, y])) W (.lst ys)) := fun ys b o h => by
            have nb : b ≠ W := ne_of_none h hW
            rw [upd_ne nb]
            exact sT _ _ (sx _ _ h)
          refine ⟨T', _, rfl, SqT.of upd_same, rfl, _, _, rfl, _, _, rfl, rfl, ?_⟩
          refine ⟨_, rfl, rfl, _, rfl, ite2 (fun h1 => ?_) (fun h1 => ?_)⟩
          · have eo : oneD sl dy = [dy] := by unfold oneD; rw [if_pos h1]
            refine ⟨_, rfl, .inl ⟨rfl, _, SqL.of gW'⟩, _, rfl, W, _, _, rfl, rfl, gW', sz1.1, ?_⟩
            refine ⟨_, _, _, rfl, upd_same, ?_, ?_, keep _, ?_⟩
            · rw [tk, eo]; exact dx.snoc day
            · rw [List.length_append, List.length_singleton]; omega
            · rw [upd_ne ntW]; exact gt'
          · have eS : lk sl STv = (lk sl ST).map fun p => [.int p.1, .int p.2] := lk_map (fun p : Int × Int => [V.int p.1, V.int p.2]) sl ST
            cases e2 : lk sl ST with
            | none =>
              rw [e2] at eS
              have eo : oneD sl dy = [] := by unfold oneD; rw [if_neg h1, e2]
              refine ⟨_, rfl, sl, rfl, rfl, _, rfl, iteN (by rw [FS.none eS]; rfl) ?_⟩
              refine ⟨_, _, xs', rfl, gW', ?_, by omega, sx.trans sT, gt'⟩
              rw [tk, eo, List.append_nil]; exact dx
            | some pr =>
              obtain ⟨lo, hi2⟩ := pr
              rw [e2] at eS
              obtain ⟨as, las, _⟩ := FS.some eS
              have fy : fitsD sl dy = true := by
                have zg := zw_get fitsD hj hdy
                exact (List.all_eq_true.mp hf) _ (List.mem_of_getElem? zg)
              have ry : rangeD lo hi2 dy = true := by
                unfold fitsD at fy
                rw [e2] at fy
                exact fy
              obtain ⟨es, rfl⟩ := range_inv ry
              obtain ⟨ay, ys, rfl, hay, lys, rys⟩ := day.tup_inv
              have eo : oneD sl (.tuple es) = es := by unfold oneD; rw [if_neg h1, e2]
              refine ⟨_, rfl, sl, rfl, rfl, _, rfl, iteB (by rw [las]; rfl) ?_⟩
              refine ⟨_, rfl, .inl ⟨rfl, _, SqL.of gW'⟩, _, rfl, W, ay, _, ys, rfl, rfl, gW', sT _ _ (sx _ _ (sH _ _ hay)), by omega, ?_⟩
              refine ⟨_, _, _, rfl, upd_same, ?_, ?_, keep _, ?_⟩
              · rw [tk, eo]; exact dx.append rys
              · rw [List.length_append]; omega
              · rw [upd_ne ntW]; exact gt'
      · obtain ⟨u2, u3, xs', rfl, gW, dx, lx, sx, gt⟩ := pv
        have lz : (List.zipWith oneD ss rest).length = ss.length := by rw [List.length_zipWith, hl, Nat.min_self]
        rw [List.length_map, ← lz, List.take_length] at dx
        exact ⟨_, rfl, q W H' xs' sx hW gW dx⟩
end
end K5
end Bf

namespace Bf
open PySem PySem.Spec PyProof.Rows L2
theorem last_of {vs : List V} {ds : List PyData} {H : Hp} (r : DaAll H vs ds) (n : vs ≠ []) : ∃ v d ds', vs[vs.length - 1]? = some v ∧ ds = ds' ++ [d] ∧ Da H v d ∧ DaAll H vs.dropLast ds' := by
  have hl := r.len
  obtain ⟨v, ev⟩ : ∃ v, vs[vs.length - 1]? = some v := by
    cases vs with
    | nil => exact absurd rfl n
    | cons a t => exact ⟨_, List.getElem?_eq_getElem (by simp)⟩
  have nd : ds ≠ [] := fun e => by rw [e] at hl; exact n (List.eq_nil_of_length_eq_zero hl)
  obtain ⟨d, ed, da⟩ := r.get ev
  have el : ds = ds.dropLast ++ [ds.getLast nd] := (List.dropLast_concat_getLast nd).symm
  have eg : ds.getLast nd = d := by
    rw [hl] at ed
    rw [← List.getLast?_eq_getElem?, List.getLast?_eq_some_getLast nd] at ed
    exact Option.some.inj ed
  refine ⟨v, d, ds.dropLast, ev, by rw [← eg]; exact el, da, ?_⟩
  have key : ∀ {vs : List V} {ds : List PyData}, DaAll H vs ds → DaAll H vs.dropLast ds.dropLast := by
    intro vs ds r
    have := (r.rev.drop 1).rev
    rw [List.drop_one, List.drop_one, List.tail_reverse, List.tail_reverse, List.reverse_reverse, List.reverse_reverse] at this
    exact this
  exact key r
namespace K5
section
variable {P : Program} {w : World} {K : PySem.W.Frag} {mg : Str → Option Value} {base : Heap} {aF aS aC : Addr}
/-! ### _are_terms -/
def spAreTerms (K : PySem.W.Frag) : Sp := fun vs H Q _ => ∃ (a : Addr) (xs : List V) (ds : List PyData), vs = [.ref a] ∧ SqL K H a xs ∧ DaAll H xs ds ∧ szA ds ≤ 1000000 ∧ ∀ H', Same H H' → Q (.bl (ds.all termD)) H'
abbrev nAreTerms : List Str := ["things", "waiting", "thing"]
theorem scAreTerms : FnScope nAreTerms ["things"] (defScope sAreTerms) := ⟨rfl, rfl, rfl, by decide +kernel, rfl, by decide +kernel, by decide +kernel⟩
theorem ok_areTerms {f ff fc fw : Addr} {fd df dc dw : FuncData} (F : Fun K "_are_terms" "_are_terms" sAreTerms f fd) (Df_ : Df K mg "_is_formed" ff df ["thing"]) (Gf : FnOk P w K mg base CX0 6 ff df ["thing"] spFormed)
    (Dc : Df K mg "is_call" fc dc ["right"]) (Gc : FnOk P w K mg base CX0 2 fc dc ["right"] spCall) (Dw : Df K mg "terms_within" fw dw ["right"]) (Gw : FnOk P w K mg base CX0 2 fw dw ["right"] spWithin) (mL : mg "list" = none) :
    FnOk P w K mg base CX0 7 f fd ["things"] (spAreTerms K) := by
  refine F.ok scAreTerms (fun vs H Q E h => ?_) (fun cdv A outer s H vs Q E hr h => ?_)
  · obtain ⟨a, xs, ds, rfl, _⟩ := h
    rfl
  · obtain ⟨a, xs, ds, rfl, hS, r, hz, q⟩ := h
    have hr1 := hr.mono (by decide : 2 ≤ 6)
    refine ⟨_, pss_cons (ps_set (i := 1) scAreTerms.nd rfl (Or.inl rfl) (pe_callTy call_list_of (by rfl) mL (by decide +kernel) (pa_cons (pv 0) pa_nil)))
      (pss_cons (ps_while PassesOwn.never (pt_truth (pv 1) (by intro _; rfl))
        (pss_cons (ps_set (i := 2) scAreTerms.nd rfl (Or.inl rfl) (pe_bm0 PySem.F.plainAttrs_list PySem.F.slot_list_pop PySem.F.type_list_pop mt_pop (pv 1)))
        (pss_cons (ps_if (PW.pt (pw_or (pt_not (pt_val (pe_call Gf hr (by rfl) Df_.at_ Df_.kp Df_.bd .nil pass0 (pa_cons (pv 2) pa_nil)))) (pw_or1 (pt_val (pe_call Gc hr1 (by rfl) Dc.at_ Dc.kp Dc.bd .nil pass0 (pa_cons (pv 2) pa_nil)))))) (pss_one (ps_ret pe_bl)) pss_nil)
        (pss_one (ps_expr (pe_bm PySem.F.plainAttrs_list PySem.F.slot_list_extend PySem.F.type_list_extend mt_extend (pv 1) (pa_cons (pe_call Gw hr1 (by rfl) Dw.at_ Dw.kp Dw.bd .nil pass0 (pa_cons (pv 2) pa_nil)) pa_nil)))))))
      (pss_one (ps_ret pe_bl))), ?_⟩
    refine ⟨_, rfl, a, xs, rfl, .inl hS, fun W hW => ?_⟩
    dsimp only [gName, tSeq, tAsg]
    refine ⟨fun m σ H' => ∃ u xs' es, σ = [some (.ref a), some (.ref W), u] ∧ H' W = some (.lst xs') ∧ DaAll H xs' es ∧ Same H H' ∧ es.all termD = ds.all termD ∧ m = szA es ∧ m ≤ szA ds, ⟨_, _, xs, ds, rfl, upd_same, r, same_new hW, rfl, rfl, Nat.le_refl _⟩, fun m σ H' hw => ?_⟩
    obtain ⟨u, xs', es, rfl, gW, rx, sx, ea, rfl, le⟩ := hw
    have lx := rx.len
    have ls := szA_len es
    have keep : ∀ {G : Hp} (o : HO), Same H G → Same H (upd G W o) := fun {G} o s b o' h => by
      rw [upd_ne (ne_of_none h hW)]
      exact s _ _ h
    refine ⟨_, rfl, !xs'.isEmpty, .inl ⟨xs', SqL.of gW, rfl⟩, ?_⟩
    by_cases hx : xs' = []
    · subst hx
      have ee : es = [] := List.eq_nil_of_length_eq_zero (by rw [← lx]; rfl)
      refine iteF ?_
      rw [ee] at ea
      rw [← ea] at q
      exact q _ sx
    · have ne : xs' ≠ [] := hx
      refine iteB (by cases xs' with | nil => exact absurd rfl ne | cons _ _ => rfl) ?_
      obtain ⟨v, d, es', ev, rfl, da, rd⟩ := last_of rx ne
      rw [szA_app, szA_cons, szA_nil] at le ls
      have ea' : ((es'.all termD) && termD d) = ds.all termD := by
        rw [← ea, List.all_append, List.all_cons, List.all_nil, Bool.and_true]
      refine ⟨fun σ H2 => ∃ u xs2 es2, σ = [some (.ref a), some (.ref W), u] ∧ H2 W = some (.lst xs2) ∧ DaAll H xs2 es2 ∧ Same H H2 ∧ es2.all termD = ds.all termD ∧ szA es2 < szA (es' ++ [d]) ∧ szA es2 ≤ szA ds,
        fun σ2 H2 ⟨u, xs2, es2, e1, e2, e3, e4, e5, e6, e7⟩ => ⟨_, e6, u, xs2, es2, e1, e2, e3, e4, e5, rfl, e7⟩, ?_⟩
      refine ⟨_, rfl, .inl ⟨rfl, _, SqL.of gW⟩, W, xs', v, rfl, rfl, gW, ev, ?_⟩
      have s1 : Same H (upd H' W (.lst xs'.dropLast)) := keep _ sx
      refine ⟨_, rfl, v, d, rfl, Da.same s1 _ _ da, fun H2 s2 => ⟨_, rfl, ?_⟩⟩
      have te := termD_eq d
      by_cases hf : formedD d = true
      · rw [hf]
        refine iteF ?_
        obtain ⟨c, rest, ss, ed, el, _⟩ := formed_inv hf
        have s3 : Same H H2 := s1.trans s2
        refine ⟨_, rfl, v, c, rest, rfl, by rw [← ed]; exact Da.same s3 _ _ da, _, rfl, ?_⟩
        have cx : callX d = callS c := by rw [ed]; rfl
        by_cases hc : callS c = true
        · rw [hc]
          rw [te, hf, cx, hc] at ea'
          refine iteT ?_
          have e0 : ds.all termD = false := by rw [← ea']; simp
          rw [e0] at q
          exact q _ s3
        · have hc' := Bool.eq_false_iff.mpr hc
          rw [hc']
          rw [te, hf, cx, hc'] at ea'
          refine iteF ?_
          have gW2 : H2 W = some (.lst xs'.dropLast) := s2 _ _ upd_same
          refine ⟨_, rfl, .inl ⟨rfl, _, SqL.of gW2⟩, _, rfl, v, d, H, rfl, s3, da, hf, fun p H3 ys s4 hp gp ry => ?_⟩
          have ly := ry.len
          have lyz := szA_len (withinD d)
          have wz := within_sz d
          have ld := rd.len
          have lz' := szA_len es'
          refine ⟨W, p, _, ys, rfl, rfl, s4 _ _ gW2, gp, by rw [sizeLine_eq]; omega, ?_⟩
          refine ⟨_, _, es' ++ withinD d, rfl, upd_same, rd.append ry, keep _ (s3.trans s4), ?_, ?_, ?_⟩
          · rw [← ea', List.all_append]
            simp
          · rw [szA_app, szA_app, szA_cons, szA_nil]; omega
          · rw [szA_app]; omega
      · have hf' := Bool.eq_false_iff.mpr hf
        rw [hf']
        rw [te, hf'] at ea'
        have e0 : ds.all termD = false := by rw [← ea']; simp
        rw [e0] at q
        exact iteT (iteT (q _ (s1.trans s2)))
end
end K5
end Bf

namespace Bf
open PySem PySem.Spec PyProof.Rows L2
namespace K5
theorem refuses_later {C : Addr} {v : V} {H H1 : Hp} {E : XK} (q : Refuses C v H E) (s : Same H H1) : Refuses C v H1 E := fun d H' s' hd h => q d H' (s.trans s') (s.free hd) h
theorem right_inv {d : PyData} (h : rightD d = true) : formedD d = true ∧ ∀ e ∈ withinD d, termD e = true := by
  obtain ⟨h1, h2⟩ := Bool.and_eq_true_iff.mp h
  exact ⟨h1, List.all_eq_true.mp h2⟩
theorem term_inv {d : PyData} (h : termD d = true) : formedD d = true ∧ callX d = false ∧ ∀ e ∈ withinD d, termD e = true := by
  rw [termD_eq] at h
  obtain ⟨h1, h2⟩ := Bool.and_eq_true_iff.mp h
  obtain ⟨h1, h3⟩ := Bool.and_eq_true_iff.mp h1
  exact ⟨h1, by simpa using h3, List.all_eq_true.mp h2⟩
section
variable {P : Program} {w : World} {K : PySem.W.Frag} {mg : Str → Option Value} {base : Heap} {aF aS aC : Addr}
def spIsTerm : Sp := fun vs H Q _ => ∃ (x : V) (d : PyData), vs = [x] ∧ Da H x d ∧ sz d ≤ 900000 ∧ ∀ H', Same H H' → Q (.bl (termD d)) H'
def spIsRight : Sp := fun vs H Q _ => ∃ (x : V) (d : PyData), vs = [x] ∧ Da H x d ∧ sz d ≤ 900000 ∧ ∀ H', Same H H' → Q (.bl (rightD d)) H'
theorem scIsRight : FnScope ["thing"] ["thing"] (defScope sIsRight) := ⟨rfl, rfl, rfl, by decide +kernel, rfl, by decide +kernel, by decide +kernel⟩
theorem ok_isRight {f fa ff fw : Addr} {fd da_ df dw : FuncData} (F : Fun K "is_right" "is_right" sIsRight f fd) (Dt : Df K mg "_are_terms" fa da_ ["things"]) (Gt : FnOk P w K mg base CX0 7 fa da_ ["things"] (spAreTerms K))
    (Df_ : Df K mg "_is_formed" ff df ["thing"]) (Gf : FnOk P w K mg base CX0 6 ff df ["thing"] spFormed) (Dw : Df K mg "terms_within" fw dw ["right"]) (Gw : FnOk P w K mg base CX0 2 fw dw ["right"] spWithin) : FnOk P w K mg base CX0 8 f fd ["thing"] spIsRight := by
  refine F.ok scIsRight (fun vs H Q E h => ?_) (fun cdv A outer s H vs Q E hr h => ?_)
  · obtain ⟨x, d, rfl, _⟩ := h
    rfl
  · obtain ⟨x, d, rfl, da, hz, q⟩ := h
    have hr5 := hr.mono (by decide : 6 ≤ 7)
    have hr1 := hr.mono (by decide : 2 ≤ 7)
    refine ⟨_, pss_one (ps_ret (pe_and (pe_call Gf hr5 (by rfl) Df_.at_ Df_.kp Df_.bd .nil pass0 (pa_cons (pv 0) pa_nil)) (pe_one (pe_call Gt hr (by rfl) Dt.at_ Dt.kp Dt.bd .nil pass0 (pa_cons (pe_call Gw hr1 (by rfl) Dw.at_ Dw.kp Dw.bd .nil pass0 (pa_cons (pv 0) pa_nil)) pa_nil))))), ?_⟩
    refine ⟨_, rfl, x, d, rfl, da, fun H1 s1 => ⟨_, rfl, ?_⟩⟩
    unfold rightD at q
    by_cases hf : formedD d = true
    · rw [hf] at q ⊢
      refine iteT ⟨_, rfl, x, d, H, rfl, s1, da, hf, fun p H2 ys s2 hp gp ry => ?_⟩
      have wz := within_sz d
      refine ⟨p, ys, withinD d, rfl, SqL.of gp, ry.same (s1.trans s2), by omega, fun H3 s3 => ?_⟩
      rw [Bool.true_and] at q
      exact q _ ((s1.trans s2).trans s3)
    · have hf' := Bool.eq_false_iff.mpr hf
      rw [hf'] at q ⊢
      rw [Bool.false_and] at q
      exact iteF (q _ s1)
/-! ### _need_right -/
def spNeed (cT : Addr) : Sp := fun vs H Q E => ∃ (x : V) (d : PyData), vs = [x] ∧ Da H x d ∧ sz d ≤ 900000 ∧ ((rightD d = false ∧ Refuses cT x H E) ∨ (rightD d = true ∧ ∀ H', Same H H' → Q .non H'))
theorem scNeed : FnScope ["thing"] ["thing"] (defScope sNeedRight) := ⟨rfl, rfl, rfl, by decide +kernel, rfl, by decide +kernel, by decide +kernel⟩
theorem ok_need {f fr cT fT : Addr} {fd dr fdT : FuncData} (F : Fun K "_need_right" "_need_right" sNeedRight f fd) (TT : ExT K mg "NoTerm" cT fT fdT) (GT : FnOk P w K mg base CX0 3 fT fdT ["self", "found"] (spInit K cT))
    (Dr : Df K mg "is_right" fr dr ["thing"]) (Gr : FnOk P w K mg base CX0 8 fr dr ["thing"] spIsRight) : FnOk P w K mg base (CXL P w) 9 f fd ["thing"] (spNeed cT) := by
  refine F.okX scNeed (fun vs H Q E h => ?_) (fun cdv A outer s H vs Q E hr h => ?_)
  · obtain ⟨x, d, rfl, _⟩ := h
    rfl
  · obtain ⟨x, d, rfl, da, hz, q⟩ := h
    have hr3 := hr.mono (by decide : 4 ≤ 8)
    refine ⟨_, pss_one (ps_if (pt_not (pt_val (pe_call Gr hr (by rfl) Dr.at_ Dr.kp Dr.bd .nil pass0 (pa_cons (pv 0) pa_nil)))) (pss_one (ps_raise rfl (takes_of rfl rfl rfl rfl) (pmk_oex TT.ox TT.iC TT.tI GT hr3 TT.bd .nil pass0 (by rfl) TT.gC (pa_cons (pv 0) pa_nil)))) pss_nil), ?_⟩
    refine ⟨_, rfl, x, d, rfl, da, hz, fun H1 s1 => ⟨_, rfl, ?_⟩⟩
    rcases q with ⟨e, q⟩ | ⟨e, q⟩
    · rw [e]
      exact iteT ⟨_, rfl, raise_reads (refuses_later q s1)⟩
    · rw [e]
      exact iteF (q _ s1)
/-! ### _parts -/
def spParts : Sp := fun vs H Q _ => ∃ (x : V) (d : PyData) (Hs : Hp), vs = [x] ∧ Same Hs H ∧ Da Hs x d ∧ sz d ≤ 900000 ∧ rightD d = true ∧ ∀ p H' xs, Same H H' → H p = none → H' p = some (.lst xs) → DaAll Hs xs (partsD d) → Q (.ref p) H'
abbrev nParts : List Str := ["right", "waiting", "parts", "part"]
theorem scParts : FnScope nParts ["right"] (defScope sParts) := ⟨rfl, rfl, rfl, by decide +kernel, rfl, by decide +kernel, by decide +kernel⟩
theorem partD_le : ∀ (n : Nat) (d : PyData), sz d ≤ n → (partD d).length ≤ sz d
  | 0, d, h => absurd h (by have := sz_pos d; omega)
  | n + 1, d, h => by
    have ws := within_sz d
    have key : ∀ l : List PyData, szA l ≤ n → ((l.map partD).flatten).length ≤ szA l := by
      intro l
      induction l with
      | nil => intro _; rw [List.map_nil, List.flatten_nil, szA_nil]; exact Nat.le_refl _
      | cons e r ih =>
        intro hl
        rw [szA_cons] at hl ⊢
        rw [List.map_cons, List.flatten_cons, List.length_append]
        have := partD_le n e (by omega)
        have := ih (by omega)
        omega
    rw [partD_eq, List.length_cons]
    have := key (withinD d) (by omega)
    omega
theorem ok_parts {f fc fw : Addr} {fd dc dw : FuncData} (F : Fun K "_parts" "_parts" sParts f fd) (Dc : Df K mg "is_call" fc dc ["right"]) (Gc : FnOk P w K mg base CX0 2 fc dc ["right"] spCall) (Dw : Df K mg "terms_within" fw dw ["right"]) (Gw : FnOk P w K mg base CX0 2 fw dw ["right"] spWithin) :
    FnOk P w K mg base CX0 3 f fd ["right"] spParts := by
  refine F.ok scParts (fun vs H Q E h => ?_) (fun cdv A outer s H vs Q E hr h => ?_)
  · obtain ⟨x, d, Hs, rfl, _⟩ := h
    rfl
  · obtain ⟨x, d, Hs, rfl, sH, da, hz, rd, q⟩ := h
    refine ⟨_, pss_cons (ps_set (i := 1) scParts.nd rfl (Or.inl rfl) (pe_ifExp (pt_val (pe_call Gc hr (by rfl) Dc.at_ Dc.kp Dc.bd .nil pass0 (pa_cons (pv 0) pa_nil))) (pe_revL (pe_call Gw hr (by rfl) Dw.at_ Dw.kp Dw.bd .nil pass0 (pa_cons (pv 0) pa_nil))) (pe_lst (pa_cons (pv 0) pa_nil))))
      (pss_cons (ps_set (i := 2) scParts.nd rfl (Or.inl rfl) (pe_lst pa_nil))
      (pss_cons (ps_while PassesOwn.never (pt_truth (pv 1) (by intro _; rfl))
        (pss_cons (ps_set (i := 3) scParts.nd rfl (Or.inl rfl) (pe_bm0 PySem.F.plainAttrs_list PySem.F.slot_list_pop PySem.F.type_list_pop mt_pop (pv 1)))
        (pss_cons (ps_expr (pe_bm PySem.F.plainAttrs_list PySem.F.slot_list_append PySem.F.type_list_append mt_append (pv 2) (pa_cons (pv 3) pa_nil)))
        (pss_one (ps_expr (pe_bm PySem.F.plainAttrs_list PySem.F.slot_list_extend PySem.F.type_list_extend mt_extend (pv 1) (pa_cons (pe_revL (pe_call Gw hr (by rfl) Dw.at_ Dw.kp Dw.bd .nil pass0 (pa_cons (pv 3) pa_nil))) pa_nil)))))))
      (pss_one (ps_ret (pv 2))))), ?_⟩
    obtain ⟨fo, wt⟩ := right_inv rd
    obtain ⟨c, rest, ss, ed, el, _⟩ := formed_inv fo
    have cx : callX d = callS c := by rw [ed]; rfl
    -- from the first list on
    have go : ∀ (W : Addr) (xw : List V) (ew : List PyData) (H1 : Hp), H W = none → Same H H1 → H1 W = some (.lst xw) → DaAll Hs xw ew → (∀ e ∈ ew, termD e = true) → szA ew ≤ 900000 → (ew.reverse.map partD).flatten = partsD d →
        tSeq (tAsg (tLst tNil) (gName 2)) (tSeq (tWhile (fun σ H_1 Q => tVar 1 σ H_1 fun x H' => ∃ k, TruV K x H' k ∧ Q k H') (tSeq (tAsg (tBM0 K "list" rPop (tVar 1)) (gName 3)) (tSeq (tDrop (tBM K "list" rAppend (tVar 2) (tCons (tVar 3) tNil)))
          (tDrop (tBM K "list" rExtend (tVar 1) (tCons (tRevL K (tCall spWithin [] E0 (tCons (tVar 3) tNil))) tNil)))))) (tRet (tVar 2))) { nx := fun _ H' => Q .non H', rt := Q } [some x, some (.ref W), none, none] H1 := by
      intro W xw ew H1 hW s1 gW rw_ tw zw pw
      refine ⟨by show 0 ≤ sizeLine; decide, fun R hR => ?_⟩
      dsimp only [gName]
      have nWR : W ≠ R := fun e => by rw [← e, gW] at hR; cases hR
      have hRH : H R = none := by
        cases z : H R with
        | none => rfl
        | some o => rw [s1 _ _ z] at hR; cases hR
      have keep : ∀ {G : Hp} (a : Addr) (o : HO), H a = none → Same H G → Same H (upd G a o) := fun {G} a o ha s b o' h => by
        rw [upd_ne (ne_of_none h ha)]
        exact s _ _ h
      refine ⟨fun m σ H' => ∃ u xs' es xr dn, σ = [some x, some (.ref W), some (.ref R), u] ∧ H' W = some (.lst xs') ∧ H' R = some (.lst xr) ∧ DaAll Hs xs' es ∧ DaAll Hs xr dn ∧ Same H H' ∧ (∀ e ∈ es, termD e = true) ∧ dn ++ (es.reverse.map partD).flatten = partsD d ∧ m = szA es ∧ m + xr.length ≤ 900000,
        ⟨_, _, xw, ew, [], [], rfl, by rw [upd_ne nWR]; exact gW, upd_same, rw_, .nil, keep _ _ hRH s1, tw, pw, rfl, by rw [List.length_nil]; omega⟩, fun m σ H' hw => ?_⟩
      obtain ⟨u, xs', es, xr, dn, rfl, gW', gR', rx, rr, sx, te, pe, rfl, le⟩ := hw
      have lx := rx.len
      have ls := szA_len es
      refine ⟨_, rfl, !xs'.isEmpty, .inl ⟨xs', SqL.of gW', rfl⟩, ?_⟩
      by_cases hx : xs' = []
      · subst hx
        have ee : es = [] := List.eq_nil_of_length_eq_zero (by rw [← lx]; rfl)
        subst ee
        refine iteF ⟨_, rfl, q R H' xr sx hRH gR' ?_⟩
        rw [List.reverse_nil, List.map_nil, List.flatten_nil, List.append_nil] at pe
        rw [← pe]
        exact rr
      · have ne : xs' ≠ [] := hx
        refine iteB (by cases xs' with | nil => exact absurd rfl ne | cons _ _ => rfl) ?_
        obtain ⟨v, d1, es', ev, rfl, da1, rd1⟩ := last_of rx ne
        rw [szA_app, szA_cons, szA_nil] at le ls
        have p1 := sz_pos d1
        obtain ⟨f1, _, w1⟩ := term_inv (te d1 (List.mem_append.mpr (.inr List.mem_cons_self)))
        refine ⟨fun σ H2 => ∃ u xs2 es2 xr2 dn2, σ = [some x, some (.ref W), some (.ref R), u] ∧ H2 W = some (.lst xs2) ∧ H2 R = some (.lst xr2) ∧ DaAll Hs xs2 es2 ∧ DaAll Hs xr2 dn2 ∧ Same H H2 ∧ (∀ e ∈ es2, termD e = true) ∧ dn2 ++ (es2.reverse.map partD).flatten = partsD d ∧ szA es2 < szA (es' ++ [d1]) ∧ szA es2 + xr2.length ≤ 900000,
          fun σ2 H2 ⟨u, xs2, es2, xr2, dn2, z1, z2, z3, z4, z5, z6, z7, z8, z9, z10⟩ => ⟨_, z9, u, xs2, es2, xr2, dn2, z1, z2, z3, z4, z5, z6, z7, z8, rfl, z10⟩, ?_⟩
        refine ⟨_, rfl, .inl ⟨rfl, _, SqL.of gW'⟩, W, xs', v, rfl, rfl, gW', ev, ?_⟩
        have s2 : Same H (upd H' W (.lst xs'.dropLast)) := keep _ _ hW sx
        have gR2 : upd H' W (.lst xs'.dropLast) R = some (.lst xr) := by rw [upd_ne nWR.symm]; exact gR'
        refine ⟨_, rfl, .inl ⟨rfl, _, SqL.of gR2⟩, _, rfl, R, _, _, rfl, rfl, gR2, by rw [sizeLine_eq]; omega, ?_⟩
        have s3 : Same H (upd (upd H' W (.lst xs'.dropLast)) R (.lst (xr ++ [v]))) := keep _ _ hRH s2
        have gW3 : upd (upd H' W (.lst xs'.dropLast)) R (.lst (xr ++ [v])) W = some (.lst xs'.dropLast) := by rw [upd_ne nWR, upd_same]
        refine ⟨_, rfl, .inl ⟨rfl, _, SqL.of gW3⟩, _, rfl, v, d1, Hs, rfl, sH.trans s3, da1, f1, fun p G ys s4 hp gp ry => ?_⟩
        refine ⟨p, ys, rfl, SqL.of gp, fun k hk => ?_⟩
        have ly := ry.len
        have lyz := szA_len (withinD d1)
        have wz := within_sz d1
        have ld := rd1.len
        have lz' := szA_len es'
        have s34 := s3.trans s4
        have sk : Same G (upd G k (.lst ys.reverse)) := same_new hk
        refine ⟨W, k, _, ys.reverse, rfl, rfl, sk _ _ (s4 _ _ gW3), upd_same, by rw [sizeLine_eq, List.length_reverse]; omega, ?_⟩
        refine ⟨_, _, es' ++ (withinD d1).reverse, _, dn ++ [d1], rfl, upd_same, ?_, rd1.append ry.rev, rr.snoc da1, keep _ _ hW (s34.trans sk), ?_, ?_, ?_, ?_⟩
        · rw [upd_ne nWR.symm]
          exact sk _ _ (s4 _ _ upd_same)
        · intro e m
          rcases List.mem_append.mp m with m | m
          · exact te e (List.mem_append.mpr (.inl m))
          · exact w1 e (List.mem_reverse.mp m)
        · rw [← pe, List.reverse_append, List.reverse_append, List.reverse_reverse, List.map_append, List.map_append, List.flatten_append, List.flatten_append]
          show dn ++ [d1] ++ _ = dn ++ ((partD d1 :: []).flatten ++ _)
          rw [List.flatten_cons, List.flatten_nil, List.append_nil, partD_eq d1]
          simp [List.append_assoc]
        · rw [szA_app, szA_app, szA_rev, szA_cons, szA_nil]; omega
        · rw [szA_app, szA_rev, List.length_append, List.length_singleton]; omega
    refine ⟨_, rfl, x, c, rest, rfl, by rw [← ed]; exact da.same sH, _, rfl, ?_⟩
    by_cases hc : callS c = true
    · rw [hc]
      refine iteT ⟨_, rfl, x, d, Hs, rfl, sH, da, fo, fun p G ys s1 hp gp ry => ⟨p, ys, rfl, SqL.of gp, fun k hk => ?_⟩⟩
      have wz := within_sz d
      have sk : Same G (upd G k (.lst ys.reverse)) := same_new hk
      have hkH : H k = none := by
        cases z : H k with
        | none => rfl
        | some o => rw [s1 _ _ z] at hk; cases hk
      exact go k ys.reverse (withinD d).reverse _ hkH (s1.trans sk) upd_same ry.rev (fun e m => wt e (List.mem_reverse.mp m)) (by rw [szA_rev]; omega) (by
        rw [List.reverse_reverse]
        unfold partsD
        rw [cx, if_pos hc])
    · have hc' := Bool.eq_false_iff.mpr hc
      rw [hc']
      refine iteF ⟨_, rfl, by show 1 ≤ sizeLine; decide, fun k hk => ?_⟩
      refine go k [x] [d] _ hk (same_new hk) upd_same (.cons da .nil) (fun e m => ?_) (by rw [szA_cons, szA_nil]; omega) ?_
      · rw [List.mem_singleton.mp m, termD_eq, fo, cx, hc']
        simp only [Bool.not_false, Bool.and_true, Bool.true_and]
        exact List.all_eq_true.mpr wt
      · unfold partsD
        rw [cx, if_neg hc]
        simp
/-! ### parts_of, size_of -/
def spPartsOf (cT : Addr) : Sp := fun vs H Q E => ∃ (x : V) (d : PyData) (Hs : Hp), vs = [x] ∧ Same Hs H ∧ Da Hs x d ∧ sz d ≤ 900000 ∧ ((rightD d = false ∧ Refuses cT x H E) ∨ (rightD d = true ∧ ∀ p H' xs, Same H H' → H p = none → H' p = some (.lst xs) → DaAll Hs xs (partsD d) → Q (.ref p) H'))
theorem scPartsOf : FnScope ["right"] ["right"] (defScope sPartsOf) := ⟨rfl, rfl, rfl, by decide +kernel, rfl, by decide +kernel, by decide +kernel⟩
theorem none_back {H H' : Hp} {p : Addr} (s : Same H H') (h : H' p = none) : H p = none := by
  cases z : H p with
  | none => rfl
  | some o => rw [s _ _ z] at h; cases h
theorem ok_partsOf {f fn fp cT : Addr} {fd dn dp : FuncData} (F : Fun K "parts_of" "parts_of" sPartsOf f fd) (Dn : Df K mg "_need_right" fn dn ["thing"]) (Gn : FnOk P w K mg base (CXL P w) 9 fn dn ["thing"] (spNeed cT)) (Dp : Df K mg "_parts" fp dp ["right"]) (Gp : FnOk P w K mg base CX0 3 fp dp ["right"] spParts) :
    FnOk P w K mg base (CXL P w) 10 f fd ["right"] (spPartsOf cT) := by
  refine F.okX scPartsOf (fun vs H Q E h => ?_) (fun cdv A outer s H vs Q E hr h => ?_)
  · obtain ⟨x, d, Hs, rfl, _⟩ := h
    rfl
  · obtain ⟨x, d, Hs, rfl, sH, da, hz, q⟩ := h
    have hr2 := hr.mono (by decide : 3 ≤ 9)
    refine ⟨_, pss_cons (ps_expr (pe_call (E := E) Gn hr (by rfl) Dn.at_ Dn.kp Dn.bd .nil (passes_call (takes_of rfl rfl rfl rfl) (fun _ _ _ _ h => h)) (pa_cons (pv 0) pa_nil))) (pss_one (ps_ret (pe_call Gp hr2 (by rfl) Dp.at_ Dp.kp Dp.bd .nil pass0 (pa_cons (pv 0) pa_nil)))), ?_⟩
    refine ⟨_, rfl, x, d, rfl, da.same sH, hz, ?_⟩
    rcases q with ⟨e, q⟩ | ⟨e, q⟩
    · exact .inl ⟨e, q⟩
    · exact .inr ⟨e, fun H1 s1 => ⟨_, rfl, x, d, Hs, rfl, sH.trans s1, da, hz, e, fun p H' xs s2 hp gp ry => q p H' xs (s1.trans s2) (none_back s1 hp) gp ry⟩⟩
def sizeD (d : PyData) : Nat := (partsD d).length + if callX d = true then 1 else 0
def spSizeOf (cT : Addr) : Sp := fun vs H Q E => ∃ (x : V) (d : PyData), vs = [x] ∧ Da H x d ∧ sz d ≤ 900000 ∧ ((rightD d = false ∧ Refuses cT x H E) ∨ (rightD d = true ∧ ∀ H', Same H H' → Q (.int (sizeD d)) H'))
end
end K5
end Bf

namespace Bf
open PySem PySem.Spec PyProof.Rows L2
/-- the law's purse: a list of three numbers -/
def Purse (H : Hp) (p : Addr) (n : Int) : Prop := ∃ x y z : Int, H p = some (.lst [.int x, .int y, .int z]) ∧ 0 ≤ y ∧ y < 2147483629 ∧ 0 ≤ z ∧ z ≤ n
theorem Purse.mono {H : Hp} {p : Addr} {n m : Int} (h : Purse H p n) (l : n ≤ m) : Purse H p m := let ⟨x, y, z, a, b, c, d, e⟩ := h; ⟨x, y, z, a, b, c, d, Int.le_trans e l⟩
theorem Purse.of {H H' : Hp} {p : Addr} {n : Int} (h : Purse H p n) (e : H' p = H p) : Purse H' p n := let ⟨x, y, z, a, b⟩ := h; ⟨x, y, z, e.trans a, b⟩
/-- all that was tracked, but at p, is as it was -/
def SameX (p : Addr) (H H' : Hp) : Prop := ∀ b o, b ≠ p → H b = some o → H' b = some o
def spCell (K : PySem.W.Frag) : Sp := fun vs H Q _ => ∃ (a : Addr) (ns : List Int) (i : Int), vs = [.ref a, .int i] ∧ SqL K H a (ns.map V.int) ∧ 0 ≤ i ∧ i ≤ 100 ∧ ∀ z, Q (.int z) H
def spPurse : Sp := fun vs H Q _ => ∃ z : Int, vs = [.int z] ∧ ∀ p H', H p = none → p ≠ sysModules → (∀ b, b ≠ p → H' b = H b) → Purse H' p 0 → Q (.ref p) H'
def spTake : Sp := fun vs H Q _ => ∃ (p : Addr) (m n : Int), vs = [.ref p, .int m] ∧ Purse H p n ∧ n ≤ 100000 ∧ 0 < m ∧ m < 1000000 ∧ ∀ d H', 0 ≤ d → d < m → Purse H' p (n + 1) → (∀ b, b ≠ p → H' b = H b) → Q (.int d) H'

namespace K5
section
variable {P : Program} {w : World} {K : PySem.W.Frag} {mg : Str → Option Value} {base : Heap}
theorem scCell : FnScope ["_law_script", "_law_k"] ["_law_script", "_law_k"] (defScope sCell) := ⟨rfl, rfl, rfl, by decide +kernel, rfl, by decide +kernel, by decide +kernel⟩
theorem ok_cell {f : Addr} {fd : FuncData} (F : Fun K "_law_cell" "_law_cell" sCell f fd) (ml : mg "len" = none) : FnOk P w K mg base CX0 1 f fd ["_law_script", "_law_k"] (spCell K) := by
  refine F.ok scCell (fun vs H Q E h => ?_) (fun cdv A outer s H vs Q E hr h => ?_)
  · obtain ⟨a, ns, i, rfl, _⟩ := h
    rfl
  · obtain ⟨a, ns, i, rfl, hS, h0, h1, q⟩ := h
    refine ⟨_, pss_cons (ps_if (pt_cmpR op_lt (pv 1) (pe_callB call_len_seq (by rfl) ml PySem.boot_len (pa_cons (pv 0) pa_nil)) (nomark _)) (pss_one (ps_ret (pe_ix ix_list (pv 0) (pv 1) (fun _ _ => rfl)))) pss_nil)
      (pss_one (ps_ret (pe_op op_add (pe_op op_mul pe_int (pv 1)) pe_int))), ?_⟩
    refine ⟨_, rfl, _, rfl, a, _, rfl, .inl hS, _, _, rfl, rfl, _, rfl, ite2 (fun c => ?_) (fun c => ?_)⟩
    · have lt : i < (((ns.map V.int).length : Nat) : Int) := of_decide_eq_true c
      rw [List.length_map] at lt
      have lt' : i.toNat < ns.length := by omega
      refine ⟨_, rfl, _, rfl, a, _, i, .int ns[i.toNat], rfl, rfl, hS, ?_, q _⟩
      have e : atI (ns.map V.int) ((i.toNat : Nat) : Int) = some (V.int ns[i.toNat]) := atI_nat (by rw [List.getElem?_map, List.getElem?_eq_getElem lt']; rfl)
      rw [← e]
      congr 1
      omega
    · exact ⟨_, rfl, _, _, rfl, rfl, .inl ⟨by decide, by decide⟩, _, _, rfl, rfl, q _⟩
theorem scPurse : FnScope ["_law_cell_here"] ["_law_cell_here"] (defScope sPurse) := ⟨rfl, rfl, rfl, by decide +kernel, rfl, by decide +kernel, by decide +kernel⟩
theorem ok_purse {f : Addr} {fd : FuncData} (F : Fun K "_law_purse" "_law_purse" sPurse f fd) (mx : mg "max" = none) : FnOk P w K mg base CX0 1 f fd ["_law_cell_here"] spPurse := by
  refine F.ok scPurse (fun vs H Q E h => ?_) (fun cdv A outer s H vs Q E hr h => ?_)
  · obtain ⟨z, rfl, _⟩ := h
    rfl
  · obtain ⟨z, rfl, q⟩ := h
    refine ⟨_, pss_one (ps_ret (pe_lstN (pa_cons (pe_callB (call_max2 rfl) (by rfl) mx (by decide +kernel) (pa_cons pe_int (pa_cons (pe_op op_sub (pv 0) (pe_op op_pow pe_int pe_int)) pa_nil)))
      (pa_cons (pe_op op_mod (pv 0) pe_int) (pa_cons pe_int pa_nil))))), ?_⟩
    refine ⟨_, rfl, _, _, rfl, rfl, ⟨by decide, by decide, by decide⟩, _, _, rfl, rfl, _, _, rfl, _, rfl, _, _, rfl, rfl, (by show (0 : Int) < 2147483629; decide), by show 3 ≤ 1000; decide, fun p hp np => ?_⟩
    refine q p _ hp np (fun b hb => upd_ne hb) ⟨_, _, _, upd_same, Int.emod_nonneg _ (by decide), Int.emod_lt_of_pos _ (by decide), Int.le_refl _, Int.le_refl _⟩
theorem scTake : FnScope ["_law_purse_here", "_law_many", "_law_digit", "_law_one", "_law_other"] ["_law_purse_here", "_law_many"] (defScope sTake) := ⟨rfl, rfl, rfl, by decide +kernel, rfl, by decide +kernel, by decide +kernel⟩
theorem ok_take {f : Addr} {fd : FuncData} (F : Fun K "_law_take" "_law_take" sTake f fd) : FnOk P w K mg base CX0 1 f fd ["_law_purse_here", "_law_many"] spTake := by
  refine F.ok scTake (fun vs H Q E h => ?_) (fun cdv A outer s H vs Q E hr h => ?_)
  · obtain ⟨p, m, n, rfl, _⟩ := h
    rfl
  · obtain ⟨p, m, n, rfl, ⟨x, y, z, hp, y0, y1, z0, z1⟩, n1, m0, m1, q⟩ := h
    refine ⟨_, pss_cons (ps_if (pt_cmpR op_gt (pe_ix ix_list (pv 0) pe_int (fun _ _ => rfl)) pe_int (nomark _))
        (pss_cons (ps_set (i := 2) scTake.nd rfl (Or.inl rfl) (pe_op op_mod (pe_ix ix_list (pv 0) pe_int (fun _ _ => rfl)) (pv 1)))
        (pss_cons (ps_asg (pe_op op_fdiv (pe_ix ix_list (pv 0) pe_int (fun _ _ => rfl)) (pv 1)) (pg_sub (pv 0) pe_int set_list)) (pss_one (ps_ret (pv 2))))) pss_nil)
      (pss_cons (ps_asg (pe_op op_add (pe_ix ix_list (pv 0) pe_int (fun _ _ => rfl)) pe_int) (pg_sub (pv 0) pe_int set_list))
      (pss_cons (ps_set (i := 3) scTake.nd rfl (Or.inl rfl) (pe_op op_mod (pe_op op_pow (pe_op op_add (pe_op op_add (pe_ix ix_list (pv 0) pe_int (fun _ _ => rfl)) (pe_op op_mul pe_int (pe_ix ix_list (pv 0) pe_int (fun _ _ => rfl)))) pe_int) pe_int) pe_int))
      (pss_cons (ps_set (i := 4) scTake.nd rfl (Or.inl rfl) (pe_op op_mod (pe_op op_pow (pe_op op_add (pe_op op_mul (pe_ix ix_list (pv 0) pe_int (fun _ _ => rfl)) (pe_ix ix_list (pv 0) pe_int (fun _ _ => rfl))) pe_int) pe_int) pe_int))
      (pss_one (ps_ret (pe_op op_mod (pe_op op_fdiv (pe_op op_add (pe_op op_mul (pv 3) pe_int) (pv 4)) pe_int) (pv 1))))))), ?_⟩
    have L := SqL.of (K := K) hp
    refine ⟨_, rfl, p, _, 0, _, rfl, rfl, L, rfl, _, _, rfl, rfl, _, rfl, ite2 (fun _ => ?_) (fun _ => ?_)⟩
    · refine ⟨_, rfl, p, _, 0, _, rfl, rfl, L, rfl, _, rfl, _, _, rfl, rfl, m0, ?_⟩
      refine ⟨_, rfl, p, _, 0, _, rfl, rfl, L, rfl, _, rfl, _, _, rfl, rfl, ⟨m0, by omega⟩, _, rfl, p, _, 0, 0, rfl, rfl, hp, rfl, ?_⟩
      exact ⟨_, rfl, q _ _ (Int.emod_nonneg _ (by omega)) (Int.emod_lt_of_pos _ m0) ⟨_, _, _, upd_same, y0, y1, z0, by omega⟩ fun b hb => upd_ne hb⟩
    · refine ⟨_, rfl, p, _, 2, _, rfl, rfl, L, rfl, _, _, rfl, rfl, _, rfl, p, _, 2, 2, rfl, rfl, hp, rfl, ?_⟩
      have L2 : SqL K (upd H p (.lst [.int x, .int y, .int (z + 1)])) p [.int x, .int y, .int (z + 1)] := SqL.of upd_same
      have b1 : (y + 6007 * (z + 1) + 29).natAbs < 2 ^ 64 := by omega
      have b2 : (y * (z + 1) + 91193).natAbs < 2 ^ 64 := by
        have h1 : 0 ≤ y * (z + 1) := Int.mul_nonneg y0 (by omega)
        have h2 : y * (z + 1) ≤ 2147483629 * 100001 := Int.mul_le_mul (by omega) (by omega) (by omega) (by decide)
        omega
      refine ⟨_, rfl, p, _, 1, _, rfl, rfl, L2, rfl, _, rfl, p, _, 2, _, rfl, rfl, L2, rfl, _, _, rfl, rfl, .inl ⟨by decide, by decide⟩, _, _, rfl, rfl, _, _, rfl, rfl, _, _, rfl, rfl, ⟨by decide, by decide, b1⟩, _, _, rfl, rfl, (by show (0 : Int) < 2147483647; decide), ?_⟩
      refine ⟨_, rfl, p, _, 1, _, rfl, rfl, L2, rfl, _, rfl, p, _, 2, _, rfl, rfl, L2, rfl, _, _, rfl, rfl, .inl ⟨by omega, by omega⟩, _, _, rfl, rfl, _, _, rfl, rfl, ⟨by decide, by decide, b2⟩, _, _, rfl, rfl, (by show (0 : Int) < 2147483587; decide), ?_⟩
      refine ⟨_, rfl, _, _, rfl, rfl, .inr ⟨by decide, by decide⟩, _, rfl, _, _, rfl, rfl, _, _, rfl, rfl, ⟨by decide, by decide⟩, _, rfl, _, _, rfl, rfl, m0, ?_⟩
      exact q _ _ (Int.emod_nonneg _ (by omega)) (Int.emod_lt_of_pos _ m0) ⟨_, _, _, upd_same, y0, y1, by omega, by omega⟩ fun b hb => upd_ne hb
end
/-! ### data of bounded size -/
def strOk (z : Str) : Bool := (z.cps.toList.all fun c => decide (c < 16 ^ 8)) && decide (z.cps.size ≤ 40)
def intOk (i : Int) : Prop := i.natAbs < 10 ^ 12 ∨ i = 10 ^ 29
/-- nested at most k deep, at most w things each -/
def fit (w : Nat) : Nat → PyData → Prop
  | _, .none => True
  | _, .bool _ => True
  | _, .int i => intOk i
  | _, .str z => strOk z = true
  | k + 1, .list ds => ds.length ≤ w ∧ ∀ d ∈ ds, fit w k d
  | k + 1, .tuple ds => ds.length ≤ w ∧ ∀ d ∈ ds, fit w k d
  | _ + 1, .dict kv => kv = []
  | 0, .list _ => False
  | 0, .tuple _ => False
  | 0, .dict _ => False
theorem fit_tup {w k : Nat} {ds : List PyData} : fit w (k + 1) (.tuple ds) ↔ ds.length ≤ w ∧ ∀ d ∈ ds, fit w k d := by rw [fit]
theorem fit_lst {w k : Nat} {ds : List PyData} : fit w (k + 1) (.list ds) ↔ ds.length ≤ w ∧ ∀ d ∈ ds, fit w k d := by rw [fit]
theorem fit_mono {w w' : Nat} (hw : w ≤ w') : ∀ {k k' : Nat} (d : PyData), k ≤ k' → fit w k d → fit w' k' d
  | k, k', .none, _, _ => by cases k' <;> simp only [fit]
  | k, k', .bool _, _, _ => by cases k' <;> simp only [fit]
  | k, k', .int i, _, h => by
    have h' : intOk i := by cases k <;> simpa only [fit] using h
    cases k' <;> simpa only [fit] using h'
  | k, k', .str z, _, h => by
    have h' : strOk z = true := by cases k <;> simpa only [fit] using h
    cases k' <;> simpa only [fit] using h'
  | 0, _, .list _, _, h => by simp only [fit] at h
  | 0, _, .tuple _, _, h => by simp only [fit] at h
  | 0, _, .dict _, _, h => by simp only [fit] at h
  | k + 1, 0, _, hk, _ => absurd hk (by omega)
  | k + 1, k' + 1, .list ds, hk, h => by
    obtain ⟨a, b⟩ := fit_lst.mp h
    exact fit_lst.mpr ⟨Nat.le_trans a hw, fun d m => fit_mono hw d (Nat.le_of_succ_le_succ hk) (b d m)⟩
  | k + 1, k' + 1, .tuple ds, hk, h => by
    obtain ⟨a, b⟩ := fit_tup.mp h
    exact fit_tup.mpr ⟨Nat.le_trans a hw, fun d m => fit_mono hw d (Nat.le_of_succ_le_succ hk) (b d m)⟩
  | k + 1, k' + 1, .dict kv, hk, h => by
    simp only [fit] at h ⊢
    exact h
theorem fit_int {w k : Nat} {i : Int} : fit w k (.int i) ↔ intOk i := by cases k <;> simp only [fit]
theorem fit_str {w k : Nat} {z : Str} : fit w k (.str z) ↔ strOk z = true := by cases k <;> simp only [fit]
theorem fit_non {w k : Nat} : fit w k .none := by cases k <;> simp only [fit]
theorem fit_bl {w k : Nat} {b : Bool} : fit w k (.bool b) := by cases k <;> simp only [fit]
mutual
/-- no text that repr shows is longer -/
def sl : PyData → Nat
  | .none => 5
  | .bool _ => 6
  | .int i => (PyData.shown (.int i)).length + 1
  | .str z => 10 * z.cps.size + 3
  | .list ds => slA ds + 3
  | .tuple ds => slA ds + 3
  | .dict _ => 4
def slA : List PyData → Nat
  | [] => 0
  | d :: r => sl d + 2 + slA r
end
theorem sl_tup (ds : List PyData) : sl (.tuple ds) = slA ds + 3 := by simp only [sl]
theorem sl_lst (ds : List PyData) : sl (.list ds) = slA ds + 3 := by simp only [sl]
theorem slA_nil : slA [] = 0 := by simp only [slA]
theorem slA_cons (d : PyData) (r : List PyData) : slA (d :: r) = sl d + 2 + slA r := by simp only [slA]
theorem slA_app : ∀ a b : List PyData, slA (a ++ b) = slA a + slA b
  | [], b => by rw [List.nil_append, slA_nil, Nat.zero_add]
  | d :: r, b => by rw [List.cons_append, slA_cons, slA_cons, slA_app r b]; omega
theorem slA_le {n : Nat} : ∀ {l : List PyData}, (∀ d ∈ l, sl d ≤ n) → slA l ≤ (n + 2) * l.length
  | [], _ => by rw [slA_nil]; exact Nat.zero_le _
  | d :: r, h => by
    have h1 := h d List.mem_cons_self
    have h2 := slA_le (n := n) (l := r) fun x m => h x (List.mem_cons_of_mem _ m)
    rw [slA_cons, List.length_cons, Nat.mul_add]
    omega
theorem slA_mem {e : PyData} : ∀ {l : List PyData}, e ∈ l → sl e + 2 ≤ slA l
  | d :: r, m => by
    rw [slA_cons]
    rcases List.mem_cons.mp m with rfl | m
    · omega
    · have := slA_mem m; omega
theorem sl_int {i : Int} (h : i.natAbs < 10 ^ 12) : sl (.int i) ≤ 14 := by
  have := PyData.shown_int_le h
  simp only [sl]
  omega
mutual
theorem sz_sl : ∀ d : PyData, sz d ≤ sl d
  | .none => by simp only [sz, sl]; omega
  | .bool _ => by simp only [sz, sl]; omega
  | .int _ => by simp only [sz, sl]; omega
  | .str _ => by simp only [sz, sl]; omega
  | .list ds => by simp only [sz, sl]; have := szA_slA ds; omega
  | .tuple ds => by simp only [sz, sl]; have := szA_slA ds; omega
  | .dict _ => by simp only [sz, sl]; omega
theorem szA_slA : ∀ l : List PyData, szA l ≤ slA l
  | [] => by simp only [szA, slA]; omega
  | d :: r => by simp only [szA, slA]; have := sz_sl d; have := szA_slA r; omega
end

theorem showAll {w k : Nat} (ih : ∀ d, fit w k d → d.showable = true ∧ d.depth ≤ k ∧ d.shown.length ≤ sl d) : ∀ {ds : List PyData}, (∀ d ∈ ds, fit w k d) →
    PyData.showableAll ds = true ∧ PyData.depthAll ds ≤ k ∧ ((PyData.shownAll ds).map (·.length)).sum + 2 * ds.length ≤ slA ds
  | [], _ => ⟨by simp only [PyData.showableAll], by simp only [PyData.depthAll]; omega, by simp only [PyData.shownAll, List.map_nil, List.sum_nil, List.length_nil, slA]; omega⟩
  | d :: r, h => by
    obtain ⟨a1, a2, a3⟩ := ih d (h d List.mem_cons_self)
    obtain ⟨b1, b2, b3⟩ := showAll ih (ds := r) fun x m => h x (List.mem_cons_of_mem _ m)
    simp only [PyData.showableAll, PyData.depthAll, PyData.shownAll, List.map_cons, List.sum_cons, List.length_cons, slA, a1, b1, Bool.and_self]
    exact ⟨trivial, Nat.max_le.mpr ⟨a2, b2⟩, by omega⟩
theorem fit_shows {w : Nat} : ∀ {k : Nat} (d : PyData), fit w k d → d.showable = true ∧ d.depth ≤ k ∧ d.shown.length ≤ sl d
  | k, .none, _ => ⟨by simp only [PyData.showable], by simp only [PyData.depth]; omega, by show 4 ≤ sl .none; simp only [sl]; omega⟩
  | k, .bool b, _ => ⟨by simp only [PyData.showable], by simp only [PyData.depth]; omega, by
      have e : (PyData.shown (.bool b)).length ≤ 5 := by cases b <;> decide
      simp only [sl]; omega⟩
  | k, .int i, h => by
    refine ⟨?_, by simp only [PyData.depth]; omega, by simp only [sl]; omega⟩
    rcases fit_int.mp h with h | rfl
    · have l : i.natAbs.log2 ≤ 40 := by
        rcases Nat.eq_zero_or_pos i.natAbs with z | z
        · rw [z]; decide
        · exact Nat.le_of_lt_succ ((Nat.log2_lt (by omega)).mpr (Nat.lt_trans h (by decide)))
      simp only [PyData.showable]; exact decide_eq_true (by omega)
    · decide +kernel
  | k, .str z, h => by
    refine ⟨by simp only [PyData.showable], by simp only [PyData.depth]; omega, ?_⟩
    obtain ⟨a, b⟩ := Bool.and_eq_true_iff.mp (fit_str.mp h)
    have hx : ∀ c ∈ z.cps.toList, c < 16 ^ 8 := by simpa only [List.all_eq_true, decide_eq_true_eq] using a
    have e := StrLaws.reprText_len z hx
    have e2 : z.length = z.cps.size := rfl
    simp only [PyData.shown, sl]
    omega
  | 0, .list _, h => by simp only [fit] at h
  | 0, .tuple _, h => by simp only [fit] at h
  | 0, .dict _, h => by simp only [fit] at h
  | k + 1, .list ds, h => by
    obtain ⟨_, hd⟩ := fit_lst.mp h
    obtain ⟨a, b, c⟩ := showAll (fun d hd => fit_shows d hd) hd
    have h2 := listText_len_le (PyData.shownAll ds)
    have h3 := PyData.shownAll_length ds
    refine ⟨by simp only [PyData.showable]; exact a, by simp only [PyData.depth]; omega, ?_⟩
    simp only [PyData.shown, sl]
    omega
  | k + 1, .tuple ds, h => by
    obtain ⟨_, hd⟩ := fit_tup.mp h
    obtain ⟨a, b, c⟩ := showAll (fun d hd => fit_shows d hd) hd
    have h2 := tupleText_len_le (PyData.shownAll ds)
    have h3 := PyData.shownAll_length ds
    refine ⟨by simp only [PyData.showable]; exact a, by simp only [PyData.depth]; omega, ?_⟩
    simp only [PyData.shown, sl]
    omega
  | k + 1, .dict kv, h => by
    have e : kv = [] := by simpa only [fit] using h
    subst e
    refine ⟨?_, ?_, ?_⟩
    · simp only [PyData.showable, PyData.showableKv]
    · simp only [PyData.depth, PyData.depthKv]; omega
    · show (2 : Nat) ≤ sl (.dict []); simp only [sl]; omega
/-- tracked data are data -/
theorem sh_daAll {H : Hp} {P : Addr → Prop} {b : Bool} {w k : Nat} (ih : ∀ d v, fit w k d → Sh H P b v d → Da H v d) : ∀ {ds : List PyData} {vs : List V}, (∀ d ∈ ds, fit w k d) → ShAll H P b vs ds → DaAll H vs ds
  | [], _, _, h => by cases h; exact .nil
  | d :: r, _, hf, h => by
    cases h with
    | cons h1 h2 => exact .cons (ih d _ (hf d List.mem_cons_self) h1) (sh_daAll ih (fun x m => hf x (List.mem_cons_of_mem _ m)) h2)
theorem shAll_len {H : Hp} {P : Addr → Prop} {b : Bool} : ∀ {vs : List V} {ds : List PyData}, ShAll H P b vs ds → vs.length = ds.length
  | _, _, .nil => rfl
  | _, _, .cons _ r => congrArg (· + 1) (shAll_len r)
theorem sh_da {H : Hp} {P : Addr → Prop} {b : Bool} {w : Nat} (hw : w ≤ 1000) : ∀ {k : Nat} (d : PyData) (v : V), fit w k d → Sh H P b v d → Da H v d
  | _, .none, _, _, h => by cases h; exact .non
  | _, .bool _, _, _, h => by cases h; exact .bl _
  | _, .int _, _, _, h => by cases h; exact .int _
  | _, .str z, _, f, h => by
    cases h
    obtain ⟨a, b⟩ := Bool.and_eq_true_iff.mp (fit_str.mp f)
    have b := of_decide_eq_true b
    exact .str _ (by show z.cps.size ≤ 1000; omega)
  | 0, .list _, _, f, _ => by simp only [fit] at f
  | 0, .tuple _, _, f, _ => by simp only [fit] at f
  | 0, .dict _, _, f, _ => by simp only [fit] at f
  | k + 1, .list ds, _, f, h => by
    obtain ⟨l, hd⟩ := fit_lst.mp f
    cases h with
    | lst h _ _ r => exact .lst h (by rw [shAll_len r]; omega) (sh_daAll (fun d v f h => sh_da hw d v f h) hd r)
  | k + 1, .tuple ds, _, f, h => by
    obtain ⟨l, hd⟩ := fit_tup.mp f
    cases h with
    | tup h _ r => exact .tup h (by rw [shAll_len r]; omega) (sh_daAll (fun d v f h => sh_da hw d v f h) hd r)
  | k + 1, .dict kv, _, f, h => by
    cases h with
    | emp _ h _ => exact .emp h
mutual
/-- carried on: P may be sharpened by what is tracked -/
theorem Sh.on {H H' : Hp} {P P' : Addr → Prop} {b : Bool} (hp : ∀ a o, P a → H a = some o → P' a) (k : ∀ a o, P a → H a = some o → H' a = some o) : ∀ (d : PyData) (v : V), Sh H P b v d → Sh H' P' b v d
  | .none, _, h => by cases h; exact .non
  | .bool _, _, h => by cases h; exact .bl _
  | .int _, _, h => by cases h; exact .int _
  | .str _, _, h => by cases h; exact .str _
  | .list ds, _, h => by
    cases h with
    | lst h p q r => exact .lst (k _ _ p h) (hp _ _ p h) q (ShAll.on hp k ds _ r)
  | .tuple ds, _, h => by
    cases h with
    | tup h p r => exact .tup (k _ _ p h) (hp _ _ p h) (ShAll.on hp k ds _ r)
  | .dict _, _, h => by
    cases h with
    | emp q h p => exact .emp q (k _ _ p h) (hp _ _ p h)
theorem ShAll.on {H H' : Hp} {P P' : Addr → Prop} {b : Bool} (hp : ∀ a o, P a → H a = some o → P' a) (k : ∀ a o, P a → H a = some o → H' a = some o) : ∀ (ds : List PyData) (vs : List V), ShAll H P b vs ds → ShAll H' P' b vs ds
  | [], _, h => by cases h; exact .nil
  | d :: ds, _, h => by
    cases h with
    | cons h r => exact .cons (Sh.on hp k d _ h) (ShAll.on hp k ds _ r)
end
/-- all but at p is as it was -/
abbrev Kp (P : Addr → Prop) (H H' : Hp) : Prop := ∀ a o, P a → H a = some o → H' a = some o
abbrev Fr (H : Hp) : Addr → Prop := fun a => H a = none
theorem fr_back {p : Addr} {H G : Hp} {o : HO} (k : Kp (· ≠ p) H G) (hp : G p = some o) {a : Addr} (h : Fr G a) : Fr H a := by
  have na : a ≠ p := fun e => by
    rw [e] at h
    exact absurd (hp.symm.trans h) (fun z => nomatch z)
  cases e : H a with
  | none => exact e
  | some u => exact absurd ((k a u na e).symm.trans h) (fun z => nomatch z)
theorem fr_ne {p : Addr} {H : Hp} {o : HO} (hp : H p = some o) {a : Addr} (h : Fr H a) : a ≠ p := fun e => by
  rw [e] at h
  exact absurd (hp.symm.trans h) (fun z => nomatch z)
theorem Kp.trans {P : Addr → Prop} {H1 H2 H3 : Hp} (a : Kp P H1 H2) (b : Kp P H2 H3) : Kp P H1 H3 := fun x o p e => b x o p (a x o p e)
theorem kp_take {H H' : Hp} {p : Addr} (eq : ∀ b, b ≠ p → H' b = H b) : Kp (· ≠ p) H H' := fun a o n h => (eq a n).trans h
theorem kp_same {P : Addr → Prop} {G G' : Hp} (s : Same G G') : Kp P G G' := fun a o _ h => s a o h
theorem ne_free {H : Hp} {a b : Addr} {o : HO} (h : H a = some o) (n : H b = none) : b ≠ a := fun e => by
  rw [e, h] at n
  cases n
theorem pick {xs : List V} {d : Int} (d0 : 0 ≤ d) (d1 : d < (xs.length : Nat)) : ∃ v, v ∈ xs ∧ atI xs d = some v := by
  have lt : d.toNat < xs.length := by omega
  exact ⟨xs[d.toNat], List.getElem_mem lt, at_of (by omega) (List.getElem?_eq_getElem lt)⟩
end K5
end Bf

namespace Bf
open PySem PySem.Spec PyProof.Rows L2
namespace K5
section
variable {P : Program} {w : World} {K : PySem.W.Frag} {mg : Str → Option Value} {base : Heap}
abbrev pTake : List Str := ["_law_purse_here", "_law_many"]
/-- a digit is taken -/
theorem take_ok {σ : L2.St} {i : Nat} {p : Addr} {N n : Int} {E : XK} {H : Hp} {Q : VK} (hσ : σ[i]? = some (some (.ref p))) (pu : Purse H p n) (hn : n ≤ 100000) (h0 : 0 < N) (h1 : N < 1000000)
    (q : ∀ d G, 0 ≤ d → d < N → Kp (· ≠ p) H G → Purse G p (n + 1) → Q (.int d) G) : tCall spTake [] E (tCons (tVar i) (tCons (tC (.int N)) tNil)) σ H Q :=
  ⟨_, hσ, p, N, n, rfl, pu, hn, h0, h1, fun d G d0 d1 pu eq => q d G d0 d1 (kp_take eq) pu⟩
theorem _root_.Bf.Purse.ne {H : Hp} {p a : Addr} {n : Int} (pu : Purse H p n) (h : H a = none) : a ≠ p := let ⟨_, _, _, e, _⟩ := pu; ne_free e h
theorem _root_.Bf.Purse.same {H G : Hp} {p : Addr} {n : Int} (pu : Purse H p n) (s : Same H G) : Purse G p n := let ⟨x, y, z, e, r⟩ := pu; ⟨x, y, z, s _ _ e, r⟩
theorem _root_.Bf.Purse.back {H G : Hp} {p a : Addr} {n : Int} (pu : Purse G p n) (k : Kp (· ≠ p) H G) (h : G a = none) : H a = none := let ⟨_, _, _, e, _⟩ := pu; fr_back k e h
/-! ### _law_of -/
def spOf (K : PySem.W.Frag) : Sp := fun vs H Q _ => ∃ (p L : Addr) (n : Int) (xs : List V), vs = [.ref p, .ref L] ∧ Purse H p n ∧ n ≤ 100000 ∧ H L = some (.lst xs) ∧ L ≠ p ∧ xs ≠ [] ∧ xs.length ≤ 1000 ∧ ∀ v G, v ∈ xs → Kp (· ≠ p) H G → Purse G p (n + 1) → Q v G
theorem scOf : FnScope ["_law_purse_here", "_law_some"] ["_law_purse_here", "_law_some"] (defScope sOf) := ⟨rfl, rfl, rfl, by decide +kernel, rfl, by decide +kernel, by decide +kernel⟩
theorem ok_of {f ft : Addr} {fd fdt : FuncData} (F : Fun K "_law_of" "_law_of" sOf f fd) (DT : Df K mg "_law_take" ft fdt pTake) (GT : FnOk P w K mg base CX0 1 ft fdt pTake spTake) (ml : mg "len" = none) :
    FnOk P w K mg base CX0 2 f fd ["_law_purse_here", "_law_some"] (spOf K) := by
  refine F.ok scOf (fun vs H Q E h => ?_) (fun cdv A outer s H vs Q E hr h => ?_)
  · obtain ⟨p, L, n, xs, rfl, _⟩ := h
    rfl
  · obtain ⟨p, L, n, xs, rfl, pu, hn, hL, nL, ne, l, q⟩ := h
    refine ⟨_, pss_one (ps_ret (pe_ix ix_list (pv 1) (pe_call GT hr (by rfl) DT.at_ DT.kp DT.bd .nil pass0 (pa_cons (pv 0) (pa_cons (pe_callB call_len_seq (by rfl) ml PySem.boot_len (pa_cons (pv 1) pa_nil)) pa_nil))) (fun _ _ => rfl))), ?_⟩
    have l0 : 0 < xs.length := List.length_pos_iff.mpr ne
    refine ⟨_, rfl, _, rfl, _, rfl, L, xs, rfl, .inl (SqL.of hL), p, _, n, rfl, pu, hn, by omega, by omega, fun d G d0 d1 pu2 eq => ?_⟩
    obtain ⟨v, mv, ev⟩ := pick (xs := xs) d0 d1
    exact ⟨L, xs, d, v, rfl, rfl, SqL.of ((eq L nL).trans hL), ev, q v G mv (kp_take eq) pu2⟩
/-! ### _law_name -/
abbrev LET : Str := "abcdefghijklmnopqrstuvwxyz"
def nmOk (z : Str) : Prop := (∀ c ∈ z.cps.toList, c < 16 ^ 8) ∧ z.cps.size ≤ 8 ∧ nameS z = true
/-- eight letters -/
def wdOk (z : Str) : Prop := (∀ c ∈ z.cps.toList, c ∈ LET.cps.toList) ∧ z.cps.size = 8
theorem let_small : ∀ c ∈ LET.cps.toList, c < 16 ^ 8 := by decide +kernel
theorem let_sign : ∀ c ∈ LET.cps.toList, signB c = true := by decide +kernel
theorem name_of {z : Str} (h : ∀ c ∈ z.cps.toList, c ∈ LET.cps.toList) (a : 1 ≤ z.cps.size) (b : z.cps.size ≤ 8) : nmOk z := by
  refine ⟨fun c m => let_small c (h c m), b, ?_⟩
  unfold nameS
  have a' : 1 ≤ z.length := a
  have b' : z.length ≤ 8 := b
  rw [decide_eq_true a', decide_eq_true b', List.all_eq_true.mpr fun c m => let_sign c (h c m)]
  rfl
def spLN : Sp := fun vs H Q _ => ∃ (p : Addr) (n : Int), vs = [.ref p] ∧ Purse H p n ∧ n ≤ 99980 ∧ ∀ z G, nmOk z → Kp (· ≠ p) H G → Purse G p (n + 11) → Q (.str z) G
abbrev nLN : List Str := ["_law_purse_here", "_law_letters", "_law_word", "_law_k"]
theorem scLN : FnScope nLN ["_law_purse_here"] (defScope sLName) := ⟨rfl, rfl, rfl, by decide +kernel, rfl, by decide +kernel, by decide +kernel⟩
theorem at_let {d N : Int} (d0 : 0 ≤ d) (d1 : d < N) (hN : N ≤ 26) : ∃ c, atI LET.cps.toList d = some c ∧ c ∈ LET.cps.toList := by
  have l : LET.cps.toList.length = 26 := by decide +kernel
  have lt : d.toNat < LET.cps.toList.length := by omega
  refine ⟨LET.cps.toList[d.toNat], ?_, List.getElem_mem lt⟩
  have e := atI_nat (List.getElem?_eq_getElem lt)
  rw [Int.toNat_of_nonneg d0] at e
  exact e
theorem one_ok {c : Nat} (h : c ∈ LET.cps.toList) : nmOk ⟨#[c]⟩ := name_of (fun x m => by rw [List.mem_singleton.mp (show x ∈ [c] from m)]; exact h) (by show 1 ≤ 1; decide) (by show 1 ≤ 8; decide)
/-- signs put together -/
theorem word_ok {cs : List Nat} (h : ∀ c ∈ cs, c ∈ LET.cps.toList) (l : cs.length = 8) : wdOk (Txt.join "" (cs.map fun c => (⟨#[c]⟩ : Str))) := by
  refine ⟨fun c m => ?_, ?_⟩
  · have e : Txt.join "" (cs.map fun c => (⟨#[c]⟩ : Str)) = Str.join "" (cs.map fun c => (⟨#[c]⟩ : Str)) := StrLaws.glued_eq_join _ _
    rw [e, mem_join] at m
    rcases m with ⟨t, mt, mc⟩ | ⟨_, mc⟩
    · obtain ⟨x, mx, rfl⟩ := List.mem_map.mp mt
      rw [List.mem_singleton.mp (show c ∈ [x] from mc)]
      exact h x mx
    · cases mc
  · have e := size_glued "" (cs.map fun c => (⟨#[c]⟩ : Str))
    have s0 : ∀ l : List Nat, ((l.map fun c => (⟨#[c]⟩ : Str)).map (·.length)).sum = l.length := by
      intro l
      induction l with
      | nil => rfl
      | cons a r ih => rw [List.map_cons, List.map_cons, List.sum_cons, ih, List.length_cons]; show 1 + r.length = _; omega
    rw [s0] at e
    show (Builtin.Str.glued "" _).length = 8
    rw [e, show (("" : Str)).length = 0 from rfl]
    omega
theorem cut_ok {z : Str} (h : wdOk z) {d : Int} (d0 : 0 ≤ d) (d1 : d < 8) : nmOk (cutS z none (some (1 + d))) := by
  obtain ⟨k, rfl⟩ : ∃ k : Nat, d = (k : Int) := ⟨d.toNat, by omega⟩
  have e1 : (1 + (k : Int)) = ((k + 1 : Nat) : Int) := by omega
  have ln : z.length = 8 := h.2
  have e : (cutS z none (some (1 + (k : Int)))).cps.toList = z.cps.toList.take (k + 1) := by
    unfold cutS
    rw [e1, HT.sIx_none, HT.sIx_nat, ln, Nat.sub_zero, List.drop_zero, Nat.min_eq_left (by omega)]
  have l8 : z.cps.toList.length = 8 := h.2
  have es : (cutS z none (some (1 + (k : Int)))).cps.size = k + 1 := by
    rw [← Array.length_toList, e, List.length_take]
    omega
  refine name_of (fun c m => ?_) (by rw [es]; omega) (by rw [es]; omega)
  rw [e] at m
  exact h.1 c (List.mem_of_mem_take m)
theorem ok_lname {f ft : Addr} {fd fdt : FuncData} (F : Fun K "_law_name" "_law_name" sLName f fd) (DT : Df K mg "_law_take" ft fdt pTake) (GT : FnOk P w K mg base CX0 1 ft fdt pTake spTake) (mr : mg "range" = none) :
    FnOk P w K mg base CX0 2 f fd ["_law_purse_here"] spLN := by
  refine F.ok scLN (fun vs H Q E h => ?_) (fun cdv A outer s H vs Q E hr h => ?_)
  · obtain ⟨p, n, rfl, _⟩ := h
    rfl
  · obtain ⟨p, n, rfl, pu, hn, q⟩ := h
    refine ⟨_, pss_cons (ps_set (i := 1) scLN.nd rfl (Or.inr rfl) pe_str)
      (pss_cons (ps_set (i := 2) scLN.nd rfl (Or.inl rfl) (pe_join pe_str (pe_lc (own := [("_law_k", 3)]) (g := gName 3) (tt := tYes) rfl scLN.nd (pi_range1 (by rfl) mr (pa_cons pe_int pa_nil)) (blkOk_by (N := nLN) (sc := defScope sLName) (by decide +kernel))
        (fun _ _ _ _ _ => pg_name (i := 3) scLN.nd rfl (Or.inl rfl)) (fun _ _ _ _ _ => pts_nil) (fun _ _ _ _ _ => pe_ix ix_str (pv 1) (pe_call GT hr (by rfl) DT.at_ DT.kp DT.bd .nil pass0 (pa_cons (pv 0) (pa_cons pe_int pa_nil))) (fun _ _ => rfl)))))
      (pss_cons (ps_set (i := 2) scLN.nd rfl (Or.inl rfl) (pe_slice sl_str (pv 2) po_none (po_some (pe_op op_add pe_int (pe_call GT hr (by rfl) DT.at_ DT.kp DT.bd .nil pass0 (pa_cons (pv 0) (pa_cons pe_int pa_nil)))))))
      (pss_one (ps_ret (pe_ifExp (pt_cmpR op_gt (pe_call GT hr (by rfl) DT.at_ DT.kp DT.bd .nil pass0 (pa_cons (pv 0) (pa_cons pe_int pa_nil))) pe_int (nomark _))
        (pe_ix ix_str (pv 1) (pe_call GT hr (by rfl) DT.at_ DT.kp DT.bd .nil pass0 (pa_cons (pv 0) (pa_cons pe_int pa_nil))) (fun _ _ => rfl)) (pv 2)))))), ?_⟩
    refine ⟨⟨_, rfl⟩, 8, rfl, by decide, by decide, fun D hD => ?_⟩
    have nD := pu.ne hD
    refine lc_range (lo := 0) (n := 8) (fun k G => ∃ cs : List Nat, cs.length = k ∧ (∀ c ∈ cs, c ∈ LET.cps.toList) ∧ G D = some (.lst ((cs.map fun c => (⟨#[c]⟩ : Str)).map V.str)) ∧ Kp (· ≠ p) H G ∧ Purse G p (n + (k : Int)))
      ⟨[], rfl, (fun _ m => nomatch m), upd_same, kp_same (same_new hD), by rw [show n + ((0 : Nat) : Int) = n by omega]; exact pu.of (upd_ne nD.symm)⟩ (fun k G hk pv => ?_) fun G pv => ?_
    · obtain ⟨cs, lc, hc, gD, kG, pG⟩ := pv
      refine ⟨rfl, _, rfl, take_ok (i := 0) rfl pG (by omega) (by decide) (by decide) (fun d G2 d0 d1 k2 pu2 => ?_)⟩
      obtain ⟨c, ec, mc⟩ := at_let d0 d1 (by decide)
      refine ⟨LET, d, c, rfl, rfl, by decide +kernel, ec, _, k2 _ _ nD gD, by rw [List.length_map, List.length_map, lc]; exact small1000 (by omega), cs ++ [c], by rw [List.length_append, lc]; rfl, fun x m => ?_, ?_, fun a o na h => ?_, ?_⟩
      · rcases List.mem_append.mp m with m | m
        · exact hc x m
        · rw [List.mem_singleton.mp m]; exact mc
      · rw [upd_same, List.map_append, List.map_append]; rfl
      · rw [upd_ne (ne_of_none h hD)]
        exact k2 a o na (kG a o na h)
      · rw [show n + ((k + 1 : Nat) : Int) = n + (k : Int) + 1 by omega]
        exact pu2.of (upd_ne nD.symm)
    · obtain ⟨cs, lc, hc, gD, kG, pG⟩ := pv
      have w0 := word_ok hc lc
      have sz0 : (((cs.map fun c => (⟨#[c]⟩ : Str))).map (·.length)).sum = cs.length := by
        have : ∀ l : List Nat, ((l.map fun c => (⟨#[c]⟩ : Str)).map (·.length)).sum = l.length := by
          intro l
          induction l with
          | nil => rfl
          | cons a r ih => rw [List.map_cons, List.map_cons, List.sum_cons, ih, List.length_cons]; show 1 + r.length = _; omega
        exact this cs
      refine ⟨"", D, _, rfl, rfl, .inl (SqL.of gD), ?_, ?_⟩
      · rw [sz0, lc, List.length_map, lc]; decide
      refine ⟨_, rfl, take_ok (i := 0) rfl pG (by omega) (by decide) (by decide) (fun d G2 d0 d1 k2 pu2 => ?_)⟩
      refine ⟨_, _, rfl, rfl, _, rfl, _, rfl, Nat.le_trans (Nat.le_of_eq w0.2) (by decide), ?_⟩
      have w1 := cut_ok w0 d0 d1
      generalize cutS (Txt.join "" (cs.map fun c => (⟨#[c]⟩ : Str))) none (some (1 + d)) = z at w1
      refine take_ok (i := 0) rfl pu2 (by omega) (by decide) (by decide) (fun e G3 e0 e1 k3 pu3 => ?_)
      have k03 : Kp (· ≠ p) H G3 := fun a o na h => k3 a o na (k2 a o na (kG a o na h))
      refine ⟨_, _, rfl, rfl, _, rfl, ite2 (fun _ => ?_) (fun _ => ?_)⟩
      · refine ⟨_, rfl, take_ok (i := 0) rfl pu3 (by omega) (by decide) (by decide) (fun u G4 u0 u1 k4 pu4 => ?_)⟩
        obtain ⟨c, ec, mc⟩ := at_let u0 u1 (by decide)
        exact ⟨LET, u, c, rfl, rfl, by decide +kernel, ec, q _ _ (one_ok mc) (fun a o na h => k4 a o na (k03 a o na h)) (pu4.mono (by omega))⟩
      · exact ⟨_, rfl, q _ _ w1 k03 (pu3.mono (by omega))⟩
end
end K5
end Bf

namespace Bf
open PySem PySem.Spec PyProof.Rows L2
theorem ixT {X : Cx} {K : PySem.W.Frag} (h : X.K = K) : IxR X (rIxT K) := by
  subst h
  exact ix_tup
theorem ixL {X : Cx} {K : PySem.W.Frag} (h : X.K = K) : IxR X (rIxL K) := by
  subst h
  exact ix_list
theorem lenK {X : Cx} {K : PySem.W.Frag} (h : X.K = K) : CallR X (.builtin "len") (fun xs H Q => ∃ p ys, xs = [.ref p] ∧ (SqL K H p ys ∨ SqT K H p ys) ∧ Q (.int ys.length) H) := by
  subst h
  exact call_len_seq
namespace K5
section
variable {P : Program} {w : World} {K : PySem.W.Frag} {mg : Str → Option Value} {base : Heap}
/-- a promise of nothing -/
theorem fn_false {f : Addr} {fd : FuncData} {ps : List Str} {k : Nat} : FnOk P w K mg base CX0 k f fd ps (fun _ _ _ _ => False) := ⟨fun _ _ _ _ h => h.elim, fun _ _ _ _ _ _ _ _ _ _ _ _ _ h => h.elim⟩
/-! ### _law_kind -/
def KindV (H G : Hp) (v : V) : Prop := (∃ z : Int, v = .int z ∧ 1 ≤ z ∧ z ≤ 8) ∨ ∃ (t : Addr) (m z : Int), v = .ref t ∧ H t = none ∧ G t = some (.tup [.int m, .int z]) ∧ 2 ≤ m ∧ m ≤ 4 ∧ 1 ≤ z ∧ z ≤ 8
def spLK : Sp := fun vs H Q _ => ∃ (p : Addr) (n : Int), vs = [.ref p] ∧ Purse H p n ∧ n ≤ 99980 ∧ ∀ v G, KindV H G v → Kp (· ≠ p) H G → Purse G p (n + 4) → Q v G
theorem scLK : FnScope ["_law_purse_here", "_law_width"] ["_law_purse_here"] (defScope sLKind) := ⟨rfl, rfl, rfl, by decide +kernel, rfl, by decide +kernel, by decide +kernel⟩
theorem ok_lkind {f ft : Addr} {fd fdt : FuncData} (F : Fun K "_law_kind" "_law_kind" sLKind f fd) (DT : Df K mg "_law_take" ft fdt pTake) (GT : FnOk P w K mg base CX0 1 ft fdt pTake spTake) : FnOk P w K mg base CX0 2 f fd ["_law_purse_here"] spLK := by
  refine F.ok scLK (fun vs H Q E h => ?_) (fun cdv A outer s H vs Q E hr h => ?_)
  · obtain ⟨p, n, rfl, _⟩ := h
    rfl
  · obtain ⟨p, n, rfl, pu, hn, q⟩ := h
    refine ⟨_, pss_cons (ps_set (i := 1) scLK.nd rfl (Or.inl rfl) (pe_ix ix_list (pe_lst (pa_cons pe_int (pa_cons pe_int (pa_cons (pe_op op_add pe_int (pe_call GT hr (by rfl) DT.at_ DT.kp DT.bd .nil pass0 (pa_cons (pv 0) (pa_cons pe_int pa_nil)))) pa_nil))))
        (pe_call GT hr (by rfl) DT.at_ DT.kp DT.bd .nil pass0 (pa_cons (pv 0) (pa_cons pe_int pa_nil))) (fun _ _ => rfl)))
      (pss_one (ps_ret (pe_ix ix_list (pe_lst (pa_cons (pv 1) (pa_cons (pv 1) (pa_cons (pe_tup (pa_cons (pe_op op_add pe_int (pe_call GT hr (by rfl) DT.at_ DT.kp DT.bd .nil pass0 (pa_cons (pv 0) (pa_cons pe_int pa_nil)))) (pa_cons (pv 1) pa_nil))) pa_nil))))
        (pe_call GT hr (by rfl) DT.at_ DT.kp DT.bd .nil pass0 (pa_cons (pv 0) (pa_cons pe_int pa_nil))) (fun _ _ => rfl)))), ?_⟩
    dsimp only [gName, tSeq, tAsg]
    refine take_ok (i := 0) rfl pu (by omega) (by decide) (by decide) (fun d H1 d0 d1 k1 pu1 => ⟨_, _, rfl, rfl, by show 3 ≤ sizeLine; decide, fun L hL => ?_⟩)
    have nL := pu1.ne hL
    refine take_ok (i := 0) rfl (pu1.of (upd_ne nL.symm)) (by omega) (by decide) (by decide) (fun e H2 e0 e1 k2 pu2 => ?_)
    obtain ⟨v, mv, ev⟩ := pick (xs := [.int 1, .int 8, .int (1 + d)]) e0 e1
    refine ⟨L, _, e, v, rfl, rfl, SqL.of (k2 _ _ nL upd_same), ev, ?_⟩
    have k02 : Kp (· ≠ p) H H2 := fun a o na h => k2 a o na (by rw [upd_ne (ne_of_none (k1 a o na h) hL)]; exact k1 a o na h)
    clear ev
    obtain ⟨z, rfl, z1, z8⟩ : ∃ z : Int, v = .int z ∧ 1 ≤ z ∧ z ≤ 8 := by
      simp only [List.mem_cons, List.not_mem_nil, or_false] at mv
      rcases mv with rfl | rfl | rfl
      · exact ⟨_, rfl, by decide, by decide⟩
      · exact ⟨_, rfl, by decide, by decide⟩
      · exact ⟨_, rfl, by omega, by omega⟩
    refine ⟨_, rfl, _, rfl, take_ok (i := 0) rfl pu2 (by omega) (by decide) (by decide) (fun d' H3 d0' d1' k3 pu3 => ⟨_, _, rfl, rfl, _, rfl, by show 2 ≤ sizeLine; decide, fun t ht => ⟨by show 3 ≤ sizeLine; decide, fun L2 hL2 => ?_⟩⟩)⟩
    have nt := pu3.ne ht
    have pu3' := pu3.of (H' := upd H3 t (.tup [.int (2 + d'), .int z])) (upd_ne nt.symm)
    have nL2 := pu3'.ne hL2
    have ntL : t ≠ L2 := fun e => by rw [← e, upd_same] at hL2; cases hL2
    refine take_ok (i := 0) rfl (pu3'.of (upd_ne nL2.symm)) (by omega) (by decide) (by decide) (fun e' H4 e0' e1' k4 pu4 => ?_)
    obtain ⟨v, mv, ev⟩ := pick (xs := [V.int z, .int z, .ref t]) e0' e1'
    refine ⟨L2, _, e', v, rfl, rfl, SqL.of (k4 _ _ nL2 upd_same), ev, ?_⟩
    clear ev
    have k03 : Kp (· ≠ p) H H3 := fun a o na h => k3 a o na (k02 a o na h)
    have s4 : Same H3 (upd (upd H3 t (.tup [.int (2 + d'), .int z])) L2 (.lst [.int z, .int z, .ref t])) := same_trans_new (same_new ht) hL2
    have k04 : Kp (· ≠ p) H H4 := fun a o na h => k4 a o na (s4 a o (k03 a o na h))
    have pu4' := pu4.mono (m := n + 4) (by omega)
    simp only [List.mem_cons, List.not_mem_nil, or_false] at mv
    rcases mv with rfl | rfl | rfl
    · exact q _ _ (.inl ⟨z, rfl, z1, z8⟩) k04 pu4'
    · exact q _ _ (.inl ⟨z, rfl, z1, z8⟩) k04 pu4'
    · exact q _ _ (.inr ⟨t, _, z, rfl, pu3.back k03 ht, k4 _ _ nt (by rw [upd_ne ntL, upd_same]), by omega, by omega, z1, z8⟩) k04 pu4'
/-! ### _law_worth -/
def spLW (m : Nat) : Sp := fun vs H Q _ => ∃ (p : Addr) (n : Int) (k : V), vs = [.ref p, k] ∧ Purse H p n ∧ n ≤ 99980 ∧
  ((0 < m ∧ ∃ z : Int, k = .int z ∧ 1 ≤ z ∧ z ≤ 8 ∧ ∀ i G, 0 ≤ i → i < 256 → i ≤ topW z → Kp (· ≠ p) H G → Purse G p (n + 2) → Q (.int i) G) ∨
   (1 < m ∧ n ≤ 99970 ∧ ∃ (t : Addr) (c z : Int), k = .ref t ∧ H t = some (.tup [.int c, .int z]) ∧ 2 ≤ c ∧ c ≤ 4 ∧ 1 ≤ z ∧ z ≤ 8 ∧
     ∀ (u : Addr) (js : List Int) G, (js.length : Int) = c → (∀ j ∈ js, (0 ≤ j ∧ j < 256) ∧ j ≤ topW z) → H u = none → G u = some (.tup (js.map V.int)) → Kp (· ≠ p) H G → Purse G p (n + 8) → Q (.ref u) G))
abbrev pLW : List Str := ["_law_purse_here", "_law_kind_here"]
abbrev nLW : List Str := ["_law_purse_here", "_law_kind_here", "_law_k"]
theorem scLW : FnScope nLW pLW (defScope sLWorth) := ⟨rfl, rfl, rfl, by decide +kernel, rfl, by decide +kernel, by decide +kernel⟩
theorem ok_lworth {f ft : Addr} {fd fdt : FuncData} (F : Fun K "_law_worth" "_law_worth" sLWorth f fd) (D : Df K mg "_law_worth" f fd pLW) (DT : Df K mg "_law_take" ft fdt pTake) (GT : FnOk P w K mg base CX0 1 ft fdt pTake spTake) (mi : mg "isinstance" = none) (mt : mg "tuple" = none) (mr : mg "range" = none) :
    ∀ m, FnOk P w K mg base CX0 (m + 1) f fd pLW (spLW m)
  | 0 => ⟨fun _ _ _ _ ⟨_, _, _, e, _⟩ => by rw [e]; rfl, fun _ _ _ _ _ _ _ _ _ _ _ _ _ ⟨_, _, _, _, _, _, h⟩ => by
      rcases h with ⟨z, _⟩ | ⟨z, _⟩
      · exact absurd z (by decide)
      · exact absurd z (by decide)⟩
  | m + 1 => by
    have GR := ok_lworth F D DT GT mi mt mr m
    refine F.ok scLW (fun vs H Q E h => ?_) (fun cdv A outer s H vs Q E hr h => ?_)
    · obtain ⟨p, n, k, rfl, _⟩ := h
      rfl
    · obtain ⟨p, n, k, rfl, pu, hn, q⟩ := h
      have hr1 := hr.mono (by omega : 1 ≤ m + 1)
      refine ⟨_, pss_cons (ps_if (pt_val (pe_callB call_isi (by rfl) mi (by decide +kernel) (pa_cons (pv 1) (pa_cons (pe_bltn (v := .ty "tuple") (by rfl) mt (by decide +kernel) rfl) pa_nil))))
          (pss_one (ps_ret (pe_callTy call_tuple_of (by rfl) mt (by decide +kernel) (pa_cons (pe_lc (own := [("_law_k", 2)]) (g := gName 2) (tt := tYes) rfl scLW.nd (pi_range1 (by rfl) mr (pa_cons (pe_ix ix_tup (pv 1) pe_int (fun _ _ => rfl)) pa_nil)) (blkOk_by (N := nLW) (sc := defScope sLWorth) (by decide +kernel))
            (fun _ _ _ _ _ => pg_name (i := 2) scLW.nd rfl (Or.inl rfl)) (fun _ _ _ _ _ => pts_nil) (fun _ _ _ _ _ => pe_call GR hr (by rfl) D.at_ D.kp D.bd .nil pass0 (pa_cons (pv 0) (pa_cons (pe_ix (ixT (K := K) rfl) (pv 1) pe_int (fun _ _ => rfl)) pa_nil)))) pa_nil)))) pss_nil)
        (pss_one (ps_ret (pe_ix ix_list (pe_lst (pa_cons pe_int (pa_cons (pe_op op_sub (pe_op op_shl pe_int (pv 1)) pe_int) (pa_cons (pe_call GT hr1 (by rfl) DT.at_ DT.kp DT.bd .nil pass0 (pa_cons (pv 0) (pa_cons (pe_op op_shl pe_int (pv 1)) pa_nil))) pa_nil))))
          (pe_call GT hr1 (by rfl) DT.at_ DT.kp DT.bd .nil pass0 (pa_cons (pv 0) (pa_cons pe_int pa_nil))) (fun _ _ => rfl)))), ?_⟩
      rcases q with ⟨-, z, rfl, z1, z8, q⟩ | ⟨m1, hn7, t, c, z, rfl, ht, c2, c4, z1, z8, q⟩
      · refine ⟨_, rfl, .int z, .ty "tuple", _, _, _, rfl, .ty "tuple", (Kn.int (K := K) (H := H) z).ty, kit_ty (by decide +kernel), _, rfl, iteF ?_⟩
        obtain ⟨T, hT, t2, t256⟩ : ∃ T : Int, (2 : Int) ^ z.toNat = T ∧ 2 ≤ T ∧ T ≤ 256 := by
          have c : z = 1 ∨ z = 2 ∨ z = 3 ∨ z = 4 ∨ z = 5 ∨ z = 6 ∨ z = 7 ∨ z = 8 := by omega
          rcases c with rfl | rfl | rfl | rfl | rfl | rfl | rfl | rfl <;> exact ⟨_, rfl, by decide, by decide⟩
        refine ⟨_, rfl, _, _, rfl, rfl, ⟨by omega, by omega, by decide⟩, _, _, rfl, rfl, ?_⟩
        refine ⟨_, rfl, _, rfl, _, _, rfl, rfl, ⟨by omega, by omega, by decide⟩, p, _, n, rfl, pu, by omega, by rw [hT]; omega, by rw [hT]; omega, fun d H1 d0 d1 pu1 eq1 => ?_⟩
        refine ⟨by show 3 ≤ sizeLine; decide, fun L hL => ?_⟩
        have nL := pu1.ne hL
        refine take_ok (i := 0) rfl (pu1.of (upd_ne nL.symm)) (by omega) (by decide) (by decide) (fun e H2 e0 e1 k2 pu2 => ?_)
        obtain ⟨v, mv, ev⟩ := pick (xs := [.int 0, .int (1 * 2 ^ z.toNat - 1), .int d]) e0 e1
        refine ⟨L, _, e, v, rfl, rfl, SqL.of (k2 _ _ nL upd_same), ev, ?_⟩
        have k02 : Kp (· ≠ p) H H2 := fun a o na h => k2 a o na (by rw [upd_ne (ne_of_none ((eq1 a na).trans h) hL)]; exact (eq1 a na).trans h)
        clear ev
        simp only [List.mem_cons, List.not_mem_nil, or_false] at mv
        rw [hT] at mv d1
        have hW : topW z = T - 1 := by unfold topW; rw [hT]
        have pu2' := pu2.mono (m := n + 2) (by omega)
        rcases mv with rfl | rfl | rfl
        · exact q _ _ (by omega) (by omega) (by omega) k02 pu2'
        · exact q _ _ (by omega) (by omega) (by omega) k02 pu2'
        · exact q _ _ (by omega) (by omega) (by omega) k02 pu2'
      · have ntp : t ≠ p := fun e => by
          obtain ⟨_, _, _, e2, _⟩ := id pu
          rw [← e, ht] at e2
          cases e2
        refine ⟨_, rfl, .ref t, .ty "tuple", _, _, _, rfl, .ty "tuple", (Kn.tup (K := K) (.base (.tup ht))).ty, kit_ty (by decide +kernel), _, rfl, iteT ?_⟩
        refine ⟨_, rfl, t, _, 0, _, rfl, rfl, SqT.of ht, rfl, c, rfl, by omega, by omega, fun D hD => ?_⟩
        have nD := pu.ne hD
        refine lc_range (lo := 0) (n := c.toNat) (fun k G => ∃ js : List Int, js.length = k ∧ (∀ j ∈ js, (0 ≤ j ∧ j < 256) ∧ j ≤ topW z) ∧ G D = some (.lst (js.map V.int)) ∧ Kp (· ≠ p) H G ∧ Purse G p (n + 2 * (k : Int)))
          ⟨[], rfl, (fun _ m => nomatch m), upd_same, kp_same (same_new hD), by rw [show n + 2 * ((0 : Nat) : Int) = n by omega]; exact pu.of (upd_ne nD.symm)⟩ (fun k G hk pv => ?_) fun G pv => ?_
        · obtain ⟨js, lj, hj, gD, kG, pG⟩ := pv
          refine ⟨rfl, _, rfl, _, rfl, t, _, 1, _, rfl, rfl, SqT.of (kG _ _ ntp ht), rfl, p, _, _, rfl, pG, by omega, .inl ⟨by omega, z, rfl, z1, z8, fun i G2 i0 i1 iW k2 pu2 => ?_⟩⟩
          refine ⟨_, k2 _ _ nD gD, by rw [List.length_map, lj]; exact small1000 (by omega), js ++ [i], by rw [List.length_append, lj]; rfl, fun x mx => ?_, ?_, fun a o na h => ?_, ?_⟩
          · rcases List.mem_append.mp mx with mx | mx
            · exact hj x mx
            · rw [List.mem_singleton.mp mx]; exact ⟨⟨i0, i1⟩, iW⟩
          · rw [upd_same, List.map_append]; rfl
          · rw [upd_ne (ne_of_none h hD)]
            exact k2 a o na (kG a o na h)
          · rw [show n + 2 * ((k + 1 : Nat) : Int) = n + 2 * (k : Int) + 2 by omega]
            exact pu2.of (upd_ne nD.symm)
        · obtain ⟨js, lj, hj, gD, kG, pG⟩ := pv
          refine ⟨D, _, rfl, .inl ⟨SqL.of gD, fun u hu => ?_⟩⟩
          exact q u js _ (by omega) hj (pG.back kG hu) upd_same (fun a o na h => same_new hu _ _ (kG a o na h)) ((pG.of (upd_ne (pG.ne hu).symm)).mono (by omega))
end
end K5
end Bf

namespace Bf
open PySem PySem.Spec PyProof.Rows L2
namespace K5
set_option linter.unusedSimpArgs false
/-! ### names with a point between -/
theorem nopoint {z : Str} (h : nameS z = true) : ∀ c ∈ TL.tl z, c ≠ 46 := fun c m e => by
  subst e
  obtain ⟨_, h2⟩ := Bool.and_eq_true_iff.mp h
  have z := List.all_eq_true.mp h2 46 m
  revert z
  decide +kernel
theorem str_nil (z : Str) : z ++ "" = z := Str.ext' (by show z.cps ++ #[] = z.cps; simp)
theorem str_assoc (a b c : Str) : a ++ b ++ c = a ++ (b ++ c) := Str.ext' (Array.append_assoc)
theorem node_one {z : Str} (h : nameS z = true) : nodeD (.str (z ++ "")) = true := by
  rw [str_nil]
  show nodeS z = true
  have e : Txt.split z "." = [z] := by
    have q := TL.split_join (y := ".") (s := 46) (S := []) (by decide +kernel) (by decide +kernel) (parts := [z]) (by simp) (fun p m => by
      rw [List.mem_singleton.mp m]
      exact fun k => nopoint h _ k rfl)
    rw [TL.join_eq] at q
    exact q
  unfold nodeS
  rw [e]
  show (decide (1 ≤ 2) && (nameS z && true)) = true
  rw [h]
  rfl
theorem node_two {z y : Str} (h : nameS z = true) (k : nameS y = true) : nodeD (.str (z ++ ("." ++ y))) = true := by
  show nodeS _ = true
  have e : Txt.split (z ++ ("." ++ y)) "." = [z, y] := by
    have q := TL.split_join (y := ".") (s := 46) (S := []) (by decide +kernel) (by decide +kernel) (parts := [z, y]) (by simp) (fun p m => by
      simp only [List.mem_cons, List.not_mem_nil, or_false] at m
      rcases m with rfl | rfl
      · exact fun m => nopoint h _ m rfl
      · exact fun m => nopoint k _ m rfl)
    rw [TL.join_eq] at q
    have j : Str.join "." [z, y] = z ++ ("." ++ y) := str_assoc _ _ _
    rw [j] at q
    exact q
  unfold nodeS
  rw [e]
  show (decide (2 ≤ 2) && (nameS z && (nameS y && true))) = true
  rw [h, k]
  rfl
/-! ### what fits, slot by slot; forms that are terms -/
def everyD : PyData → Bool
  | .none => true
  | d => nameD d
theorem fits_kind (d : PyData) : fitsD "kind" d = kindD d := by
  unfold fitsD
  rw [show lk ("kind" : Str) ST = none from by decide +kernel]
  show (if decide (V.str "kind" = V.str "kind") = true then _ else _) = _
  rw [if_pos (by decide +kernel)]
theorem fits_name (d : PyData) : fitsD "name" d = nameD d := by
  unfold fitsD
  rw [show lk ("name" : Str) ST = none from by decide +kernel]
  show (if decide (V.str "name" = V.str "kind") = true then _ else _) = _
  rw [if_neg (by decide +kernel), if_pos (by decide +kernel)]
theorem fits_node (d : PyData) : fitsD "node" d = nodeD d := by
  unfold fitsD
  rw [show lk ("node" : Str) ST = none from by decide +kernel]
  show (if decide (V.str "node" = V.str "kind") = true then _ else _) = _
  rw [if_neg (by decide +kernel), if_neg (by decide +kernel), if_pos (by decide +kernel)]
theorem fits_every (d : PyData) : fitsD "every" d = everyD d := by
  unfold fitsD
  rw [show lk ("every" : Str) ST = none from by decide +kernel]
  show (if decide (V.str "every" = V.str "kind") = true then _ else _) = _
  rw [if_neg (by decide +kernel), if_neg (by decide +kernel), if_neg (by decide +kernel), if_pos (by decide +kernel)]
  cases d <;> rfl
theorem fits_width (d : PyData) : fitsD "width" d = wholeD d 1 8 := by
  unfold fitsD
  rw [show lk ("width" : Str) ST = none from by decide +kernel]
  show (if decide (V.str "width" = V.str "kind") = true then _ else _) = _
  rw [if_neg (by decide +kernel), if_neg (by decide +kernel), if_neg (by decide +kernel), if_neg (by decide +kernel), if_pos (by decide +kernel)]
theorem fits_truth (d : PyData) : fitsD "truth" d = wholeD d 0 1 := by
  unfold fitsD
  rw [show lk ("truth" : Str) ST = none from by decide +kernel]
  show (if decide (V.str "truth" = V.str "kind") = true then _ else _) = _
  rw [if_neg (by decide +kernel), if_neg (by decide +kernel), if_neg (by decide +kernel), if_neg (by decide +kernel), if_neg (by decide +kernel), if_pos (by decide +kernel)]
theorem fits_bit (d : PyData) : fitsD "bit" d = wholeD d 0 7 := by
  unfold fitsD
  rw [show lk ("bit" : Str) ST = none from by decide +kernel]
  show (if decide (V.str "bit" = V.str "kind") = true then _ else _) = _
  rw [if_neg (by decide +kernel), if_neg (by decide +kernel), if_neg (by decide +kernel), if_neg (by decide +kernel), if_neg (by decide +kernel), if_neg (by decide +kernel), if_pos (by decide +kernel)]
theorem fits_place (d : PyData) : fitsD "place" d = wholeD d 0 3 := by
  unfold fitsD
  rw [show lk ("place" : Str) ST = none from by decide +kernel]
  show (if decide (V.str "place" = V.str "kind") = true then _ else _) = _
  rw [if_neg (by decide +kernel), if_neg (by decide +kernel), if_neg (by decide +kernel), if_neg (by decide +kernel), if_neg (by decide +kernel), if_neg (by decide +kernel), if_neg (by decide +kernel), if_pos (by decide +kernel)]
theorem fits_term (d : PyData) : fitsD "term" d = true := by
  unfold fitsD
  rw [show lk ("term" : Str) ST = none from by decide +kernel]
  show (if decide (V.str "term" = V.str "kind") = true then _ else _) = _
  rw [if_neg (by decide +kernel), if_neg (by decide +kernel), if_neg (by decide +kernel), if_neg (by decide +kernel), if_neg (by decide +kernel), if_neg (by decide +kernel), if_neg (by decide +kernel), if_neg (by decide +kernel)]
theorem fits_worth (d : PyData) : fitsD "worth" d = true := by
  unfold fitsD
  rw [show lk ("worth" : Str) ST = none from by decide +kernel]
  show (if decide (V.str "worth" = V.str "kind") = true then _ else _) = _
  rw [if_neg (by decide +kernel), if_neg (by decide +kernel), if_neg (by decide +kernel), if_neg (by decide +kernel), if_neg (by decide +kernel), if_neg (by decide +kernel), if_neg (by decide +kernel), if_neg (by decide +kernel)]
theorem fits_parts (d : PyData) : fitsD "parts" d = rangeD 2 4 d := by
  unfold fitsD
  rw [show lk ("parts" : Str) ST = some (2, 4) from by decide +kernel]
theorem fits_args (d : PyData) : fitsD "args" d = rangeD 0 6 d := by
  unfold fitsD
  rw [show lk ("args" : Str) ST = some (0, 6) from by decide +kernel]
theorem fits_rows (d : PyData) : fitsD "rows" d = rangeD 1 4 d := by
  unfold fitsD
  rw [show lk ("rows" : Str) ST = some (1, 4) from by decide +kernel]
theorem one_term (d : PyData) : oneD "term" d = [d] := by
  unfold oneD
  rw [if_pos (by decide +kernel)]
theorem one_kind (d : PyData) : oneD "kind" d = [] := by
  unfold oneD
  rw [if_neg (by decide +kernel), show lk ("kind" : Str) ST = none from by decide +kernel]
theorem one_name (d : PyData) : oneD "name" d = [] := by
  unfold oneD
  rw [if_neg (by decide +kernel), show lk ("name" : Str) ST = none from by decide +kernel]
theorem one_node (d : PyData) : oneD "node" d = [] := by
  unfold oneD
  rw [if_neg (by decide +kernel), show lk ("node" : Str) ST = none from by decide +kernel]
theorem one_every (d : PyData) : oneD "every" d = [] := by
  unfold oneD
  rw [if_neg (by decide +kernel), show lk ("every" : Str) ST = none from by decide +kernel]
theorem one_width (d : PyData) : oneD "width" d = [] := by
  unfold oneD
  rw [if_neg (by decide +kernel), show lk ("width" : Str) ST = none from by decide +kernel]
theorem one_truth (d : PyData) : oneD "truth" d = [] := by
  unfold oneD
  rw [if_neg (by decide +kernel), show lk ("truth" : Str) ST = none from by decide +kernel]
theorem one_bit (d : PyData) : oneD "bit" d = [] := by
  unfold oneD
  rw [if_neg (by decide +kernel), show lk ("bit" : Str) ST = none from by decide +kernel]
theorem one_place (d : PyData) : oneD "place" d = [] := by
  unfold oneD
  rw [if_neg (by decide +kernel), show lk ("place" : Str) ST = none from by decide +kernel]
theorem one_worth (d : PyData) : oneD "worth" d = [] := by
  unfold oneD
  rw [if_neg (by decide +kernel), show lk ("worth" : Str) ST = none from by decide +kernel]
theorem one_parts (ds : List PyData) : oneD "parts" (.tuple ds) = ds := by
  unfold oneD
  rw [if_neg (by decide +kernel), show lk ("parts" : Str) ST = some (2, 4) from by decide +kernel]
theorem one_args (ds : List PyData) : oneD "args" (.tuple ds) = ds := by
  unfold oneD
  rw [if_neg (by decide +kernel), show lk ("args" : Str) ST = some (0, 6) from by decide +kernel]
theorem one_rows (ds : List PyData) : oneD "rows" (.tuple ds) = ds := by
  unfold oneD
  rw [if_neg (by decide +kernel), show lk ("rows" : Str) ST = some (1, 4) from by decide +kernel]
theorem term_mk {c : Str} {ss : List Str} {rest : List PyData} (e : lk c FM = some ss) (nc : callS c = false) (hl : rest.length = ss.length) (hf : (List.zipWith fitsD ss rest).all id = true) (li : (!decide (V.str c = V.str "lit") || litD rest) = true)
    (hw : ∀ x ∈ (List.zipWith oneD ss rest).flatten, termD x = true) : termD (.tuple (.str c :: rest)) = true := by
  rw [termD_eq, formed_eq e, within_eq e, hf, li, decide_eq_true hl, List.all_eq_true.mpr hw]
  show ((true && true && true) && !callS c && true) = true
  rw [nc]
  rfl
theorem right_mk {c : Str} {ss : List Str} {rest : List PyData} (e : lk c FM = some ss) (hl : rest.length = ss.length) (hf : (List.zipWith fitsD ss rest).all id = true) (li : (!decide (V.str c = V.str "lit") || litD rest) = true)
    (hw : ∀ x ∈ (List.zipWith oneD ss rest).flatten, termD x = true) : rightD (.tuple (.str c :: rest)) = true := by
  unfold rightD
  rw [formed_eq e, within_eq e, hf, li, decide_eq_true hl, List.all_eq_true.mpr hw]
  rfl
theorem term_right {d : PyData} (h : termD d = true) : rightD d = true := by
  obtain ⟨a, _, b⟩ := term_inv h
  unfold rightD
  rw [a, List.all_eq_true.mpr b]
  rfl
theorem whole_of {i lo hi : Int} (a : lo ≤ i) (b : i ≤ hi) : wholeD (.int i) lo hi = true := by
  show (decide (lo ≤ i) && decide (i ≤ hi)) = true
  rw [decide_eq_true a, decide_eq_true b]
  rfl
theorem range_of {lo hi : Int} {ds : List PyData} (a : lo ≤ (ds.length : Int)) (b : (ds.length : Int) ≤ hi) : rangeD lo hi (.tuple ds) = true := by
  show (decide _ && decide _) = true
  rw [decide_eq_true a, decide_eq_true b]
  rfl
theorem t_lit {d0 : PyData} (h0 : kindD d0 = true) {d1 : PyData} (h1 : worthD d1 d0 = true) : termD (.tuple [.str "lit", d0, d1]) = true := by
  refine term_mk (ss := ["kind", "worth"]) (by decide +kernel) (by decide +kernel) rfl ?_ ?_ fun x m => ?_
  · show (fitsD "kind" (d0) && (fitsD "worth" (d1) && true)) = true
    rw [fits_kind, h0, fits_worth]
    try rfl
  · show (!decide (V.str "lit" = V.str "lit") || worthD d1 d0) = true
    rw [h1, Bool.or_true]
  · simp only [List.zipWith_cons_cons, List.zipWith_nil_left, one_kind, one_worth, List.flatten_cons, List.flatten_nil, List.append_nil] at m
    cases m
theorem t_name {d0 : PyData} (h0 : nameD d0 = true) : termD (.tuple [.str "name", d0]) = true := by
  refine term_mk (ss := ["name"]) (by decide +kernel) (by decide +kernel) rfl ?_ ?_ fun x m => ?_
  · show (fitsD "name" (d0) && true) = true
    rw [fits_name, h0]
    try rfl
  · show (!decide (V.str "name" = V.str "lit") || _) = true
    rw [show decide (V.str "name" = V.str "lit") = false from by decide +kernel]
    rfl
  · simp only [List.zipWith_cons_cons, List.zipWith_nil_left, one_name, List.flatten_cons, List.flatten_nil, List.append_nil] at m
    cases m
theorem t_last {d0 : PyData} (h0 : nameD d0 = true) : termD (.tuple [.str "last", d0]) = true := by
  refine term_mk (ss := ["name"]) (by decide +kernel) (by decide +kernel) rfl ?_ ?_ fun x m => ?_
  · show (fitsD "name" (d0) && true) = true
    rw [fits_name, h0]
    try rfl
  · show (!decide (V.str "last" = V.str "lit") || _) = true
    rw [show decide (V.str "last" = V.str "lit") = false from by decide +kernel]
    rfl
  · simp only [List.zipWith_cons_cons, List.zipWith_nil_left, one_name, List.flatten_cons, List.flatten_nil, List.append_nil] at m
    cases m
theorem t_first {d0 : PyData} (h0 : termD d0 = true) {d1 : PyData} (h1 : termD d1 = true) : termD (.tuple [.str "first", d0, d1]) = true := by
  refine term_mk (ss := ["term", "term"]) (by decide +kernel) (by decide +kernel) rfl ?_ ?_ fun x m => ?_
  · show (fitsD "term" (d0) && (fitsD "term" (d1) && true)) = true
    rw [fits_term, fits_term]
    try rfl
  · show (!decide (V.str "first" = V.str "lit") || _) = true
    rw [show decide (V.str "first" = V.str "lit") = false from by decide +kernel]
    rfl
  · simp only [List.zipWith_cons_cons, List.zipWith_nil_left, one_term, List.flatten_cons, List.flatten_nil, List.append_nil, List.nil_append, List.mem_append, List.mem_cons, List.not_mem_nil, or_false, List.cons_append] at m
    rcases m with rfl | rfl
    · exact h0
    · exact h1

theorem t_not {d0 : PyData} (h0 : termD d0 = true) : termD (.tuple [.str "not", d0]) = true := by
  refine term_mk (ss := ["term"]) (by decide +kernel) (by decide +kernel) rfl ?_ ?_ fun x m => ?_
  · show (fitsD "term" (d0) && true) = true
    rw [fits_term]
    try rfl
  · show (!decide (V.str "not" = V.str "lit") || _) = true
    rw [show decide (V.str "not" = V.str "lit") = false from by decide +kernel]
    rfl
  · simp only [List.zipWith_cons_cons, List.zipWith_nil_left, one_term, List.flatten_cons, List.flatten_nil, List.append_nil, List.nil_append, List.mem_append, List.mem_cons, List.not_mem_nil, or_false, List.cons_append] at m
    rcases m with rfl
    · exact h0

theorem t_and {d0 : PyData} (h0 : termD d0 = true) {d1 : PyData} (h1 : termD d1 = true) : termD (.tuple [.str "and", d0, d1]) = true := by
  refine term_mk (ss := ["term", "term"]) (by decide +kernel) (by decide +kernel) rfl ?_ ?_ fun x m => ?_
  · show (fitsD "term" (d0) && (fitsD "term" (d1) && true)) = true
    rw [fits_term, fits_term]
    try rfl
  · show (!decide (V.str "and" = V.str "lit") || _) = true
    rw [show decide (V.str "and" = V.str "lit") = false from by decide +kernel]
    rfl
  · simp only [List.zipWith_cons_cons, List.zipWith_nil_left, one_term, List.flatten_cons, List.flatten_nil, List.append_nil, List.nil_append, List.mem_append, List.mem_cons, List.not_mem_nil, or_false, List.cons_append] at m
    rcases m with rfl | rfl
    · exact h0
    · exact h1

theorem t_or {d0 : PyData} (h0 : termD d0 = true) {d1 : PyData} (h1 : termD d1 = true) : termD (.tuple [.str "or", d0, d1]) = true := by
  refine term_mk (ss := ["term", "term"]) (by decide +kernel) (by decide +kernel) rfl ?_ ?_ fun x m => ?_
  · show (fitsD "term" (d0) && (fitsD "term" (d1) && true)) = true
    rw [fits_term, fits_term]
    try rfl
  · show (!decide (V.str "or" = V.str "lit") || _) = true
    rw [show decide (V.str "or" = V.str "lit") = false from by decide +kernel]
    rfl
  · simp only [List.zipWith_cons_cons, List.zipWith_nil_left, one_term, List.flatten_cons, List.flatten_nil, List.append_nil, List.nil_append, List.mem_append, List.mem_cons, List.not_mem_nil, or_false, List.cons_append] at m
    rcases m with rfl | rfl
    · exact h0
    · exact h1

theorem t_xor {d0 : PyData} (h0 : termD d0 = true) {d1 : PyData} (h1 : termD d1 = true) : termD (.tuple [.str "xor", d0, d1]) = true := by
  refine term_mk (ss := ["term", "term"]) (by decide +kernel) (by decide +kernel) rfl ?_ ?_ fun x m => ?_
  · show (fitsD "term" (d0) && (fitsD "term" (d1) && true)) = true
    rw [fits_term, fits_term]
    try rfl
  · show (!decide (V.str "xor" = V.str "lit") || _) = true
    rw [show decide (V.str "xor" = V.str "lit") = false from by decide +kernel]
    rfl
  · simp only [List.zipWith_cons_cons, List.zipWith_nil_left, one_term, List.flatten_cons, List.flatten_nil, List.append_nil, List.nil_append, List.mem_append, List.mem_cons, List.not_mem_nil, or_false, List.cons_append] at m
    rcases m with rfl | rfl
    · exact h0
    · exact h1

theorem t_add {d0 : PyData} (h0 : termD d0 = true) {d1 : PyData} (h1 : termD d1 = true) : termD (.tuple [.str "add", d0, d1]) = true := by
  refine term_mk (ss := ["term", "term"]) (by decide +kernel) (by decide +kernel) rfl ?_ ?_ fun x m => ?_
  · show (fitsD "term" (d0) && (fitsD "term" (d1) && true)) = true
    rw [fits_term, fits_term]
    try rfl
  · show (!decide (V.str "add" = V.str "lit") || _) = true
    rw [show decide (V.str "add" = V.str "lit") = false from by decide +kernel]
    rfl
  · simp only [List.zipWith_cons_cons, List.zipWith_nil_left, one_term, List.flatten_cons, List.flatten_nil, List.append_nil, List.nil_append, List.mem_append, List.mem_cons, List.not_mem_nil, or_false, List.cons_append] at m
    rcases m with rfl | rfl
    · exact h0
    · exact h1

theorem t_sub {d0 : PyData} (h0 : termD d0 = true) {d1 : PyData} (h1 : termD d1 = true) : termD (.tuple [.str "sub", d0, d1]) = true := by
  refine term_mk (ss := ["term", "term"]) (by decide +kernel) (by decide +kernel) rfl ?_ ?_ fun x m => ?_
  · show (fitsD "term" (d0) && (fitsD "term" (d1) && true)) = true
    rw [fits_term, fits_term]
    try rfl
  · show (!decide (V.str "sub" = V.str "lit") || _) = true
    rw [show decide (V.str "sub" = V.str "lit") = false from by decide +kernel]
    rfl
  · simp only [List.zipWith_cons_cons, List.zipWith_nil_left, one_term, List.flatten_cons, List.flatten_nil, List.append_nil, List.nil_append, List.mem_append, List.mem_cons, List.not_mem_nil, or_false, List.cons_append] at m
    rcases m with rfl | rfl
    · exact h0
    · exact h1

theorem t_less {d0 : PyData} (h0 : termD d0 = true) {d1 : PyData} (h1 : termD d1 = true) : termD (.tuple [.str "less", d0, d1]) = true := by
  refine term_mk (ss := ["term", "term"]) (by decide +kernel) (by decide +kernel) rfl ?_ ?_ fun x m => ?_
  · show (fitsD "term" (d0) && (fitsD "term" (d1) && true)) = true
    rw [fits_term, fits_term]
    try rfl
  · show (!decide (V.str "less" = V.str "lit") || _) = true
    rw [show decide (V.str "less" = V.str "lit") = false from by decide +kernel]
    rfl
  · simp only [List.zipWith_cons_cons, List.zipWith_nil_left, one_term, List.flatten_cons, List.flatten_nil, List.append_nil, List.nil_append, List.mem_append, List.mem_cons, List.not_mem_nil, or_false, List.cons_append] at m
    rcases m with rfl | rfl
    · exact h0
    · exact h1

theorem t_same {d0 : PyData} (h0 : termD d0 = true) {d1 : PyData} (h1 : termD d1 = true) : termD (.tuple [.str "same", d0, d1]) = true := by
  refine term_mk (ss := ["term", "term"]) (by decide +kernel) (by decide +kernel) rfl ?_ ?_ fun x m => ?_
  · show (fitsD "term" (d0) && (fitsD "term" (d1) && true)) = true
    rw [fits_term, fits_term]
    try rfl
  · show (!decide (V.str "same" = V.str "lit") || _) = true
    rw [show decide (V.str "same" = V.str "lit") = false from by decide +kernel]
    rfl
  · simp only [List.zipWith_cons_cons, List.zipWith_nil_left, one_term, List.flatten_cons, List.flatten_nil, List.append_nil, List.nil_append, List.mem_append, List.mem_cons, List.not_mem_nil, or_false, List.cons_append] at m
    rcases m with rfl | rfl
    · exact h0
    · exact h1

theorem t_wide {d0 : PyData} (h0 : wholeD d0 1 8 = true) {d1 : PyData} (h1 : termD d1 = true) : termD (.tuple [.str "wide", d0, d1]) = true := by
  refine term_mk (ss := ["width", "term"]) (by decide +kernel) (by decide +kernel) rfl ?_ ?_ fun x m => ?_
  · show (fitsD "width" (d0) && (fitsD "term" (d1) && true)) = true
    rw [fits_width, h0, fits_term]
    try rfl
  · show (!decide (V.str "wide" = V.str "lit") || _) = true
    rw [show decide (V.str "wide" = V.str "lit") = false from by decide +kernel]
    rfl
  · simp only [List.zipWith_cons_cons, List.zipWith_nil_left, one_term, one_width, List.flatten_cons, List.flatten_nil, List.append_nil, List.nil_append, List.mem_append, List.mem_cons, List.not_mem_nil, or_false, List.cons_append] at m
    rcases m with rfl
    · exact h1

theorem t_bit {d0 : PyData} (h0 : wholeD d0 0 7 = true) {d1 : PyData} (h1 : termD d1 = true) : termD (.tuple [.str "bit", d0, d1]) = true := by
  refine term_mk (ss := ["bit", "term"]) (by decide +kernel) (by decide +kernel) rfl ?_ ?_ fun x m => ?_
  · show (fitsD "bit" (d0) && (fitsD "term" (d1) && true)) = true
    rw [fits_bit, h0, fits_term]
    try rfl
  · show (!decide (V.str "bit" = V.str "lit") || _) = true
    rw [show decide (V.str "bit" = V.str "lit") = false from by decide +kernel]
    rfl
  · simp only [List.zipWith_cons_cons, List.zipWith_nil_left, one_bit, one_term, List.flatten_cons, List.flatten_nil, List.append_nil, List.nil_append, List.mem_append, List.mem_cons, List.not_mem_nil, or_false, List.cons_append] at m
    rcases m with rfl
    · exact h1

theorem t_pick {d0 : PyData} (h0 : termD d0 = true) {d1 : PyData} (h1 : termD d1 = true) {d2 : PyData} (h2 : termD d2 = true) : termD (.tuple [.str "pick", d0, d1, d2]) = true := by
  refine term_mk (ss := ["term", "term", "term"]) (by decide +kernel) (by decide +kernel) rfl ?_ ?_ fun x m => ?_
  · show (fitsD "term" (d0) && (fitsD "term" (d1) && (fitsD "term" (d2) && true))) = true
    rw [fits_term, fits_term, fits_term]
    try rfl
  · show (!decide (V.str "pick" = V.str "lit") || _) = true
    rw [show decide (V.str "pick" = V.str "lit") = false from by decide +kernel]
    rfl
  · simp only [List.zipWith_cons_cons, List.zipWith_nil_left, one_term, List.flatten_cons, List.flatten_nil, List.append_nil, List.nil_append, List.mem_append, List.mem_cons, List.not_mem_nil, or_false, List.cons_append] at m
    rcases m with rfl | rfl | rfl
    · exact h0
    · exact h1
    · exact h2

theorem t_when {d0 : PyData} (h0 : termD d0 = true) {d1 : PyData} (h1 : nameD d1 = true) {d2 : PyData} (h2 : wholeD d2 0 1 = true) : termD (.tuple [.str "when", d0, d1, d2]) = true := by
  refine term_mk (ss := ["term", "name", "truth"]) (by decide +kernel) (by decide +kernel) rfl ?_ ?_ fun x m => ?_
  · show (fitsD "term" (d0) && (fitsD "name" (d1) && (fitsD "truth" (d2) && true))) = true
    rw [fits_term, fits_name, h1, fits_truth, h2]
    try rfl
  · show (!decide (V.str "when" = V.str "lit") || _) = true
    rw [show decide (V.str "when" = V.str "lit") = false from by decide +kernel]
    rfl
  · simp only [List.zipWith_cons_cons, List.zipWith_nil_left, one_name, one_term, one_truth, List.flatten_cons, List.flatten_nil, List.append_nil, List.nil_append, List.mem_append, List.mem_cons, List.not_mem_nil, or_false, List.cons_append] at m
    rcases m with rfl
    · exact h0

theorem t_merge {d0 : PyData} (h0 : nameD d0 = true) {d1 : PyData} (h1 : termD d1 = true) {d2 : PyData} (h2 : termD d2 = true) : termD (.tuple [.str "merge", d0, d1, d2]) = true := by
  refine term_mk (ss := ["name", "term", "term"]) (by decide +kernel) (by decide +kernel) rfl ?_ ?_ fun x m => ?_
  · show (fitsD "name" (d0) && (fitsD "term" (d1) && (fitsD "term" (d2) && true))) = true
    rw [fits_name, h0, fits_term, fits_term]
    try rfl
  · show (!decide (V.str "merge" = V.str "lit") || _) = true
    rw [show decide (V.str "merge" = V.str "lit") = false from by decide +kernel]
    rfl
  · simp only [List.zipWith_cons_cons, List.zipWith_nil_left, one_name, one_term, List.flatten_cons, List.flatten_nil, List.append_nil, List.nil_append, List.mem_append, List.mem_cons, List.not_mem_nil, or_false, List.cons_append] at m
    rcases m with rfl | rfl
    · exact h1
    · exact h2

theorem t_row {d0 : List PyData} (h0 : ∀ x ∈ d0, termD x = true) (a0 : 2 ≤ (d0.length : Int)) (b0 : (d0.length : Int) ≤ 4) : termD (.tuple [.str "row", .tuple d0]) = true := by
  refine term_mk (ss := ["parts"]) (by decide +kernel) (by decide +kernel) rfl ?_ ?_ fun x m => ?_
  · show (fitsD "parts" (.tuple d0) && true) = true
    rw [fits_parts, range_of a0 b0]
    try rfl
  · show (!decide (V.str "row" = V.str "lit") || _) = true
    rw [show decide (V.str "row" = V.str "lit") = false from by decide +kernel]
    rfl
  · simp only [List.zipWith_cons_cons, List.zipWith_nil_left, one_parts, List.flatten_cons, List.flatten_nil, List.append_nil, List.nil_append, List.mem_append, List.mem_cons, List.not_mem_nil, or_false, List.cons_append] at m
    rcases m with m
    · exact h0 _ m

theorem t_at {d0 : PyData} (h0 : wholeD d0 0 3 = true) {d1 : PyData} (h1 : termD d1 = true) : termD (.tuple [.str "at", d0, d1]) = true := by
  refine term_mk (ss := ["place", "term"]) (by decide +kernel) (by decide +kernel) rfl ?_ ?_ fun x m => ?_
  · show (fitsD "place" (d0) && (fitsD "term" (d1) && true)) = true
    rw [fits_place, h0, fits_term]
    try rfl
  · show (!decide (V.str "at" = V.str "lit") || _) = true
    rw [show decide (V.str "at" = V.str "lit") = false from by decide +kernel]
    rfl
  · simp only [List.zipWith_cons_cons, List.zipWith_nil_left, one_place, one_term, List.flatten_cons, List.flatten_nil, List.append_nil, List.nil_append, List.mem_append, List.mem_cons, List.not_mem_nil, or_false, List.cons_append] at m
    rcases m with rfl
    · exact h1

theorem r_call {d0 : PyData} (h0 : nodeD d0 = true) {d1 : List PyData} (h1 : ∀ x ∈ d1, termD x = true) (a1 : 0 ≤ (d1.length : Int)) (b1 : (d1.length : Int) ≤ 6) {d2 : PyData} (h2 : fitsD "every" d2 = true) : rightD (.tuple [.str "call", d0, .tuple d1, d2]) = true := by
  refine right_mk (ss := ["node", "args", "every"]) (by decide +kernel) rfl ?_ ?_ fun x m => ?_
  · show (fitsD "node" (d0) && (fitsD "args" (.tuple d1) && (fitsD "every" (d2) && true))) = true
    rw [fits_node, h0, fits_args, range_of a1 b1, h2]
    try rfl
  · show (!decide (V.str "call" = V.str "lit") || _) = true
    rw [show decide (V.str "call" = V.str "lit") = false from by decide +kernel]
    rfl
  · simp only [List.zipWith_cons_cons, List.zipWith_nil_left, one_args, one_every, one_node, List.flatten_cons, List.flatten_nil, List.append_nil, List.nil_append, List.mem_append, List.mem_cons, List.not_mem_nil, or_false, List.cons_append] at m
    rcases m with m
    · exact h1 _ m

theorem r_map {d0 : PyData} (h0 : nodeD d0 = true) {d1 : List PyData} (h1 : ∀ x ∈ d1, termD x = true) (a1 : 1 ≤ (d1.length : Int)) (b1 : (d1.length : Int) ≤ 4) {d2 : PyData} (h2 : fitsD "every" d2 = true) : rightD (.tuple [.str "map", d0, .tuple d1, d2]) = true := by
  refine right_mk (ss := ["node", "rows", "every"]) (by decide +kernel) rfl ?_ ?_ fun x m => ?_
  · show (fitsD "node" (d0) && (fitsD "rows" (.tuple d1) && (fitsD "every" (d2) && true))) = true
    rw [fits_node, h0, fits_rows, range_of a1 b1, h2]
    try rfl
  · show (!decide (V.str "map" = V.str "lit") || _) = true
    rw [show decide (V.str "map" = V.str "lit") = false from by decide +kernel]
    rfl
  · simp only [List.zipWith_cons_cons, List.zipWith_nil_left, one_every, one_node, one_rows, List.flatten_cons, List.flatten_nil, List.append_nil, List.nil_append, List.mem_append, List.mem_cons, List.not_mem_nil, or_false, List.cons_append] at m
    rcases m with m
    · exact h1 _ m

theorem r_fold {d0 : PyData} (h0 : nodeD d0 = true) {d1 : PyData} (h1 : termD d1 = true) {d2 : List PyData} (h2 : ∀ x ∈ d2, termD x = true) (a2 : 1 ≤ (d2.length : Int)) (b2 : (d2.length : Int) ≤ 4) {d3 : PyData} (h3 : fitsD "every" d3 = true) : rightD (.tuple [.str "fold", d0, d1, .tuple d2, d3]) = true := by
  refine right_mk (ss := ["node", "term", "rows", "every"]) (by decide +kernel) rfl ?_ ?_ fun x m => ?_
  · show (fitsD "node" (d0) && (fitsD "term" (d1) && (fitsD "rows" (.tuple d2) && (fitsD "every" (d3) && true)))) = true
    rw [fits_node, h0, fits_term, fits_rows, range_of a2 b2, h3]
    try rfl
  · show (!decide (V.str "fold" = V.str "lit") || _) = true
    rw [show decide (V.str "fold" = V.str "lit") = false from by decide +kernel]
    rfl
  · simp only [List.zipWith_cons_cons, List.zipWith_nil_left, one_every, one_node, one_rows, one_term, List.flatten_cons, List.flatten_nil, List.append_nil, List.nil_append, List.mem_append, List.mem_cons, List.not_mem_nil, or_false, List.cons_append] at m
    rcases m with rfl | m
    · exact h1
    · exact h2 _ m

theorem r_pairs {d0 : PyData} (h0 : nodeD d0 = true) {d1 : PyData} (h1 : termD d1 = true) {d2 : PyData} (h2 : fitsD "every" d2 = true) : rightD (.tuple [.str "pairs", d0, d1, d2]) = true := by
  refine right_mk (ss := ["node", "term", "every"]) (by decide +kernel) rfl ?_ ?_ fun x m => ?_
  · show (fitsD "node" (d0) && (fitsD "term" (d1) && (fitsD "every" (d2) && true))) = true
    rw [fits_node, h0, fits_term, h2]
    try rfl
  · show (!decide (V.str "pairs" = V.str "lit") || _) = true
    rw [show decide (V.str "pairs" = V.str "lit") = false from by decide +kernel]
    rfl
  · simp only [List.zipWith_cons_cons, List.zipWith_nil_left, one_every, one_node, one_term, List.flatten_cons, List.flatten_nil, List.append_nil, List.nil_append, List.mem_append, List.mem_cons, List.not_mem_nil, or_false, List.cons_append] at m
    rcases m with rfl
    · exact h1

end K5
end Bf

namespace Bf
open PySem PySem.Spec PyProof.Rows L2
namespace K5
def S : Nat → Nat
  | 0 => 150
  | k + 1 => 4 * S k + 60
def T : Nat → Nat
  | 0 => 13
  | k + 1 => 3 * T k + 14
theorem S_ge : ∀ k, 150 ≤ S k
  | 0 => Nat.le_refl _
  | k + 1 => by have := S_ge k; show 150 ≤ 4 * S k + 60; omega
theorem T_ge : ∀ k, 13 ≤ T k
  | 0 => Nat.le_refl _
  | k + 1 => by have := T_ge k; show 13 ≤ 3 * T k + 14; omega
theorem slS {z : Str} {n : Nat} (h : z.cps.size ≤ n) : sl (.str z) ≤ 10 * n + 3 := by
  simp only [sl]; omega
theorem fitA_nil {w k : Nat} : ∀ d ∈ ([] : List PyData), fit w k d := fun _ m => nomatch m
theorem fitA_cons {w k : Nat} {d : PyData} {r : List PyData} (h : fit w k d) (t : ∀ d ∈ r, fit w k d) : ∀ e ∈ d :: r, fit w k e := fun e m => (List.mem_cons.mp m).elim (fun z => z ▸ h) (t e)
theorem nm_fit {w k : Nat} {z : Str} (h : nmOk z) : fit w k (.str z) := fit_str.mpr (Bool.and_eq_true_iff.mpr ⟨List.all_eq_true.mpr fun c m => decide_eq_true (h.1 c m), decide_eq_true (Nat.le_trans h.2.1 (by decide))⟩)
theorem int_fit {w k : Nat} {i : Int} (a : -1000 ≤ i) (b : i ≤ 1000) : fit w k (.int i) := fit_int.mpr (.inl (by omega))
theorem sl_small {i : Int} (a : -1000 ≤ i) (b : i ≤ 1000) : sl (.int i) ≤ 14 := sl_int (by omega)
section
variable {p : Addr} {H G G' : Hp} {v : V} {d : PyData} {n : Int}
theorem sh_step (pu : Purse H p n) (k : Kp (· ≠ p) G G') (h : Sh G (Fr H) true v d) : Sh G' (Fr H) true v d := Sh.on (fun _ _ f _ => f) (fun a o f e => k a o (pu.ne f) e) d v h
theorem sh_same {P : Addr → Prop} {b : Bool} (s : Same G G') (h : Sh G P b v d) : Sh G' P b v d := Sh.on (fun _ _ f _ => f) (fun a o _ e => s a o e) d v h
theorem sh_back (pu : Purse G p n) (k : Kp (· ≠ p) H G) (h : Sh G' (Fr G) true v d) : Sh G' (Fr H) true v d := Sh.on (fun _ _ f _ => pu.back k f) (fun _ _ _ e => e) d v h
theorem shAll_same {P : Addr → Prop} {b : Bool} {vs : List V} {ds : List PyData} (s : Same G G') (h : ShAll G P b vs ds) : ShAll G' P b vs ds := ShAll.on (fun _ _ f _ => f) (fun a o _ e => s a o e) ds vs h
theorem shAll_ints {P : Addr → Prop} {b : Bool} : ∀ ns : List Int, ShAll G P b (ns.map V.int) (ns.map PyData.int)
  | [] => .nil
  | n :: r => .cons (.int n) (shAll_ints r)
/-- a kind as data -/
theorem kind_data (h : KindV H G v) : ∃ d, Sh G (Fr H) true v d ∧ fit 4 1 d ∧ sl d ≤ 35 ∧ kindD d = true ∧ (∀ z, v = .int z → d = .int z) ∧ ∀ t m z, v = .ref t → G t = some (.tup [.int m, .int z]) → d = .tuple [.int m, .int z] := by
  rcases h with ⟨z, rfl, z1, z8⟩ | ⟨t, m, z, rfl, ht, gt, m2, m4, z1, z8⟩
  · exact ⟨_, .int z, int_fit (by omega) (by omega), Nat.le_trans (sl_small (by omega) (by omega)) (by decide), whole_of (i := z) z1 z8, fun y e => (by cases e; rfl), fun _ _ _ e => nomatch e⟩
  · refine ⟨.tuple [.int m, .int z], .tup gt ht (.cons (.int m) (.cons (.int z) .nil)), fit_tup.mpr ⟨by show 2 ≤ 4; decide, fitA_cons (int_fit (by omega) (by omega)) (fitA_cons (int_fit (by omega) (by omega)) fitA_nil)⟩, ?_, ?_, (fun _ e => nomatch e), fun t' m' z' e g => ?_⟩
    rotate_left
    · show (wholeD (.int m) 2 4 && wholeD (.int z) 1 8) = true
      rw [whole_of m2 m4, whole_of z1 z8]
      rfl
    · cases e
      rw [gt] at g
      cases g
      rfl
    have a := sl_small (i := m) (by omega) (by omega)
    have b := sl_small (i := z) (by omega) (by omega)
    rw [sl_tup, slA_cons, slA_cons, slA_nil]
    omega
theorem ints_data {t : Addr} {js : List Int} (l : js.length ≤ 4) (hj : ∀ j ∈ js, 0 ≤ j ∧ j < 256) (ht : H t = none) (gt : G t = some (.tup (js.map V.int))) : ∃ d, Sh G (Fr H) true (.ref t) d ∧ fit 4 1 d ∧ sl d ≤ 67 ∧ d = .tuple (js.map PyData.int) := by
  refine ⟨.tuple (js.map PyData.int), .tup gt ht (shAll_ints js), fit_tup.mpr ⟨by rw [List.length_map]; exact l, fun d m => ?_⟩, ?_⟩
  · obtain ⟨j, mj, rfl⟩ := List.mem_map.mp m
    have := hj j mj
    exact int_fit (by omega) (by omega)
  · refine ⟨?_, rfl⟩
    have a := slA_le (n := 14) (l := js.map PyData.int) fun d m => by
      obtain ⟨j, mj, rfl⟩ := List.mem_map.mp m
      have := hj j mj
      exact sl_small (by omega) (by omega)
    rw [List.length_map] at a
    rw [sl_tup]
    omega
end
def spAny (m : Nat) : Sp := fun vs H Q _ => ∃ (p : Addr) (n e : Int) (k : Nat), vs = [.ref p, .int e] ∧ e = (k : Int) ∧ k < m ∧ Purse H p n ∧ n + (T k : Int) ≤ 99900 ∧
  ∀ v d G, Sh G (Fr H) true v d → fit 4 (2 * k + 2) d → sl d ≤ S k → (∃ ds, d = .tuple ds ∧ ds ≠ []) → termD d = true → Kp (· ≠ p) H G → Purse G p (n + (T k : Int)) → Q v G
abbrev pAny : List Str := ["_law_purse_here", "_law_deep"]
abbrev nAny : List Str := ["_law_purse_here", "_law_deep", "_law_way", "_law_kind_here", "_law_one", "_law_other"]
theorem scAny : FnScope nAny pAny (defScope sAny) := ⟨rfl, rfl, rfl, by decide +kernel, rfl, by decide +kernel, by decide +kernel⟩
section
variable {P : Program} {w : World} {K : PySem.W.Frag} {mg : Str → Option Value} {base : Heap}
/-- the defs that the makers call -/
structure Mkr (P : Program) (w : World) (K : PySem.W.Frag) (mg : Str → Option Value) (base : Heap) (ft fn fk fo : Addr) (dt dn dk do_ : FuncData) : Prop where
  DT : Df K mg "_law_take" ft dt pTake
  GT : FnOk P w K mg base CX0 1 ft dt pTake spTake
  DN : Df K mg "_law_name" fn dn ["_law_purse_here"]
  GN : FnOk P w K mg base CX0 2 fn dn ["_law_purse_here"] spLN
  DK : Df K mg "_law_kind" fk dk ["_law_purse_here"]
  GK : FnOk P w K mg base CX0 2 fk dk ["_law_purse_here"] spLK
  DO : Df K mg "_law_worth" fo do_ pLW
  GO : FnOk P w K mg base CX0 3 fo do_ pLW (spLW 2)
theorem if_take {b : Bool} {σ : L2.St} {i : Nat} {p : Addr} {n : Int} {E : XK} {H : Hp} {Q : VK} (hσ : σ[i]? = some (some (.ref p))) (pu : Purse H p n) (hn : n ≤ 100000)
    (q : ∀ d G, 0 ≤ d → d < 12 → (b = true → d < 3) → Kp (· ≠ p) H G → Purse G p (n + 1) → Q (.int d) G) :
    if b = true then tCall spTake [] E (tCons (tVar i) (tCons (tC (.int 3)) tNil)) σ H Q else tCall spTake [] E (tCons (tVar i) (tCons (tC (.int 12)) tNil)) σ H Q := by
  cases b with
  | true => exact iteT (take_ok hσ pu hn (by decide) (by decide) fun d G d0 d1 => q d G d0 (by omega) fun _ => d1)
  | false => exact iteF (take_ok hσ pu hn (by decide) (by decide) fun d G d0 d1 => q d G d0 d1 fun z => nomatch z)
/-- [1, 8, 1 + a digit][a digit] -/
theorem size_ok {σ : L2.St} {i : Nat} {p : Addr} {n : Int} {E E2 : XK} {H : Hp} {Q : VK} (hσ : σ[i]? = some (some (.ref p))) (pu : Purse H p n) (hn : n ≤ 99990) (q : ∀ k G, 1 ≤ k → k ≤ 8 → Kp (· ≠ p) H G → Purse G p (n + 2) → Q (.int k) G) :
    tOp (rIxL K) (tLst (tCons (tC (.int 1)) (tCons (tC (.int 8)) (tCons (tOp (rI0 fun i j => .int (i + j)) (tC (.int 1)) (tCall spTake [] E (tCons (tVar i) (tCons (tC (.int 8)) tNil)))) tNil)))) (tCall spTake [] E2 (tCons (tVar i) (tCons (tC (.int 3)) tNil))) σ H Q := by
  refine take_ok hσ pu (by omega) (by decide) (by decide) (fun d H1 d0 d1 k1 pu1 => ⟨_, _, rfl, rfl, by show 3 ≤ sizeLine; decide, fun L hL => ?_⟩)
  have nL := pu1.ne hL
  refine take_ok hσ (pu1.of (upd_ne nL.symm)) (by omega) (by decide) (by decide) (fun e H2 e0 e1 k2 pu2 => ?_)
  obtain ⟨v, mv, ev⟩ := pick (xs := [.int 1, .int 8, .int (1 + d)]) e0 e1
  refine ⟨L, _, e, v, rfl, rfl, SqL.of (k2 _ _ nL upd_same), ev, ?_⟩
  have k02 : Kp (· ≠ p) H H2 := fun a o na h => k2 a o na (same_new hL _ _ (k1 a o na h))
  clear ev
  have pu3 := pu2.mono (m := n + 2) (by omega)
  simp only [List.mem_cons, List.not_mem_nil, or_false] at mv
  rcases mv with rfl | rfl | rfl
  · exact q _ _ (by decide) (by decide) k02 pu3
  · exact q _ _ (by decide) (by decide) k02 pu3
  · exact q _ _ (by omega) (by omega) k02 pu3
set_option maxHeartbeats 2000000 in
theorem ok_any {f ft fn fk fo : Addr} {fd dt dn dk do_ : FuncData} (F : Fun K "_law_any" "_law_any" sAny f fd) (D : Df K mg "_law_any" f fd pAny) (M : Mkr P w K mg base ft fn fk fo dt dn dk do_) : ∀ m, FnOk P w K mg base CX0 (m + 3) f fd pAny (spAny m)
  | 0 => ⟨fun _ _ _ _ ⟨_, _, _, _, e, _⟩ => by rw [e]; rfl, fun _ _ _ _ _ _ _ _ _ _ _ _ _ ⟨_, _, _, _, _, _, h, _⟩ => absurd h (Nat.not_lt_zero _)⟩
  | m + 1 => by
    have GR := ok_any F D M m
    refine F.ok scAny (fun vs H Q E h => ?_) (fun cdv A outer s H vs Q E hr h => ?_)
    · obtain ⟨p, n, e, k, rfl, _⟩ := h
      rfl
    · obtain ⟨p, n, e, k, rfl, he, hk, pu, hn, q⟩ := h
      have hr1 := hr.mono (by omega : 1 ≤ m + 3)
      have hr2 := hr.mono (by omega : 2 ≤ m + 3)
      have hr3 := hr.mono (by omega : 3 ≤ m + 3)
      refine ⟨_, (pss_cons (ps_set (i := 2) scAny.nd rfl (Or.inl rfl) (pe_ifExp (pt_cmpR op_eq (pv 1) pe_int (nomark _)) (pe_call M.GT hr1 (by rfl) M.DT.at_ M.DT.kp M.DT.bd .nil pass0 (pa_cons (pv 0) (pa_cons pe_int pa_nil))) (pe_call M.GT hr1 (by rfl) M.DT.at_ M.DT.kp M.DT.bd .nil pass0 (pa_cons (pv 0) (pa_cons pe_int pa_nil)))))
        (pss_cons (ps_if (pt_cmpR op_eq (pv 2) pe_int (nomark _)) (pss_cons (ps_set (i := 3) scAny.nd rfl (Or.inl rfl) (pe_call M.GK hr2 (by rfl) M.DK.at_ M.DK.kp M.DK.bd .nil pass0 (pa_cons (pv 0) pa_nil)))
        (pss_one (ps_ret (pe_tup (pa_cons pe_str (pa_cons (pv 3) (pa_cons (pe_call M.GO hr3 (by rfl) M.DO.at_ M.DO.kp M.DO.bd .nil pass0 (pa_cons (pv 0) (pa_cons (pv 3) pa_nil))) pa_nil))))))) pss_nil)
        (pss_cons (ps_if (pt_cmpR op_lt (pv 2) pe_int (nomark _)) (pss_one (ps_ret (pe_tup (pa_cons (pe_ix ix_list (pe_lst (pa_cons pe_str (pa_cons pe_str pa_nil))) (pe_op op_sub (pv 2) pe_int) (fun _ _ => rfl)) (pa_cons (pe_call M.GN hr2 (by rfl) M.DN.at_ M.DN.kp M.DN.bd .nil pass0 (pa_cons (pv 0) pa_nil)) pa_nil))))) pss_nil)
        (pss_cons (ps_par (i := 4) (j := 5) rfl scAny.nd rfl rfl (by decide) rfl rfl (pa_cons (pe_call GR hr (by rfl) D.at_ D.kp D.bd .nil pass0 (pa_cons (pv 0) (pa_cons (pe_op op_sub (pv 1) pe_int) pa_nil))) (pa_cons (pe_call GR hr (by rfl) D.at_ D.kp D.bd .nil pass0 (pa_cons (pv 0) (pa_cons (pe_op op_sub (pv 1) pe_int) pa_nil))) pa_nil)) rfl)
        (pss_cons (ps_if (pt_cmpR op_eq (pv 2) pe_int (nomark _)) (pss_one (ps_ret (pe_tup (pa_cons pe_str (pa_cons (pe_ix ix_list (pe_lst (pa_cons pe_int (pa_cons pe_int (pa_cons (pe_op op_add pe_int (pe_call M.GT hr1 (by rfl) M.DT.at_ M.DT.kp M.DT.bd .nil pass0 (pa_cons (pv 0) (pa_cons pe_int pa_nil)))) pa_nil)))) (pe_call M.GT hr1 (by rfl) M.DT.at_ M.DT.kp M.DT.bd .nil pass0 (pa_cons (pv 0) (pa_cons pe_int pa_nil))) (fun _ _ => rfl)) (pa_cons (pv 4) pa_nil)))))) pss_nil)
        (pss_cons (ps_if (pt_cmpR op_eq (pv 2) pe_int (nomark _)) (pss_one (ps_ret (pe_ix ix_list (pe_lst (pa_cons (pe_tup (pa_cons pe_str (pa_cons (pe_call M.GT hr1 (by rfl) M.DT.at_ M.DT.kp M.DT.bd .nil pass0 (pa_cons (pv 0) (pa_cons pe_int pa_nil))) (pa_cons (pv 4) pa_nil)))) (pa_cons (pe_tup (pa_cons pe_str (pa_cons (pe_call M.GT hr1 (by rfl) M.DT.at_ M.DT.kp M.DT.bd .nil pass0 (pa_cons (pv 0) (pa_cons pe_int pa_nil))) (pa_cons (pv 4) pa_nil)))) pa_nil))) (pe_call M.GT hr1 (by rfl) M.DT.at_ M.DT.kp M.DT.bd .nil pass0 (pa_cons (pv 0) (pa_cons pe_int pa_nil))) (fun _ _ => rfl)))) pss_nil)
        (pss_cons (ps_if (pt_cmpR op_eq (pv 2) pe_int (nomark _)) (pss_one (ps_ret (pe_tup (pa_cons pe_str (pa_cons (pv 4) (pa_cons (pe_call M.GN hr2 (by rfl) M.DN.at_ M.DN.kp M.DN.bd .nil pass0 (pa_cons (pv 0) pa_nil)) (pa_cons (pe_call M.GT hr1 (by rfl) M.DT.at_ M.DT.kp M.DT.bd .nil pass0 (pa_cons (pv 0) (pa_cons pe_int pa_nil))) pa_nil))))))) pss_nil)
        (pss_cons (ps_if (pt_cmpR op_eq (pv 2) pe_int (nomark _)) (pss_one (ps_ret (pe_tup (pa_cons pe_str (pa_cons (pe_call M.GN hr2 (by rfl) M.DN.at_ M.DN.kp M.DN.bd .nil pass0 (pa_cons (pv 0) pa_nil)) (pa_cons (pv 4) (pa_cons (pv 5) pa_nil))))))) pss_nil)
        (pss_cons (ps_if (pt_cmpR op_eq (pv 2) pe_int (nomark _)) (pss_one (ps_ret (pe_tup (pa_cons pe_str (pa_cons (pe_slice sl_tupA (pe_tup (pa_cons (pv 4) (pa_cons (pv 5) (pa_cons (pv 4) (pa_cons (pv 5) pa_nil))))) po_none (po_some (pe_op op_add pe_int (pe_call M.GT hr1 (by rfl) M.DT.at_ M.DT.kp M.DT.bd .nil pass0 (pa_cons (pv 0) (pa_cons pe_int pa_nil)))))) pa_nil))))) pss_nil)
        (pss_cons (ps_if (pt_cmpR op_eq (pv 2) pe_int (nomark _)) (pss_one (ps_ret (pe_tup (pa_cons pe_str (pa_cons (pv 4) (pa_cons (pv 5) (pa_cons (pe_call GR hr (by rfl) D.at_ D.kp D.bd .nil pass0 (pa_cons (pv 0) (pa_cons (pe_op op_sub (pv 1) pe_int) pa_nil))) pa_nil))))))) pss_nil)
        (pss_cons (ps_if (pt_cmpR op_eq (pv 2) pe_int (nomark _)) (pss_one (ps_ret (pe_tup (pa_cons pe_str (pa_cons (pv 4) pa_nil))))) pss_nil)
        (pss_one (ps_ret (pe_tup (pa_cons (pe_ix ix_list (pe_lst (pa_cons pe_str (pa_cons pe_str (pa_cons pe_str (pa_cons pe_str (pa_cons pe_str (pa_cons pe_str (pa_cons pe_str (pa_cons pe_str pa_nil))))))))) (pe_call M.GT hr1 (by rfl) M.DT.at_ M.DT.kp M.DT.bd .nil pass0 (pa_cons (pv 0) (pa_cons pe_int pa_nil))) (fun _ _ => rfl)) (pa_cons (pv 4) (pa_cons (pv 5) pa_nil))))))))))))))))), ?_⟩
      have T13 := T_ge k
      have S150 := S_ge k
      have fin2 : ∀ (G : Hp) (t : Addr) (vs : List V) (ds : List PyData) (n' : Int), Kp (· ≠ p) H G → Purse G p n' → n' ≤ n + (T k : Int) → H t = none → G t = some (.tup vs) → ShAll G (Fr H) true vs ds → (∀ d ∈ ds, fit 4 (2 * k + 1) d) → ds.length ≤ 4 → slA ds + 3 ≤ S k → ds ≠ [] → termD (.tuple ds) = true → Q (.ref t) G := fun G t vs ds n' kG pG ln ht gt sh ft l4 sl' ne hT =>
        q _ (.tuple ds) _ (.tup gt ht sh) (fit_tup.mpr ⟨l4, ft⟩) (by rw [sl_tup]; exact sl') ⟨ds, rfl, ne⟩ hT kG (pG.mono ln)
      have fin : ∀ (G : Hp) (vs : List V) (ds : List PyData) (n' : Int), Kp (· ≠ p) H G → Purse G p n' → n' ≤ n + (T k : Int) → ShAll G (Fr H) true vs ds → (∀ d ∈ ds, fit 4 (2 * k + 1) d) → ds.length ≤ 4 → slA ds + 3 ≤ S k → ds ≠ [] → termD (.tuple ds) = true → ∀ t, G t = none → Q (.ref t) (upd G t (.tup vs)) := fun G vs ds n' kG pG ln sh ft l4 sl' ne hT t ht =>
        fin2 _ t vs ds n' (fun a o na h => same_new ht _ _ (kG a o na h)) (pG.of (upd_ne (pG.ne ht).symm)) ln (pG.back kG ht) upd_same (shAll_same (same_new ht) sh) ft l4 sl' ne hT
      refine ⟨_, rfl, rfl, _, rfl, if_take (by rfl) pu (by omega) (fun d G1 d0 d12 dk k1 pu1 => ?_)⟩
      dsimp only [gName]
      have dk : k = 0 → d < 3 := fun z => dk (decide_eq_true (by rw [he, z]; rfl))
      refine ⟨_, rfl, rfl, _, rfl, ite2 (fun c => ?_) (fun c => ?_)⟩
      · -- lit
        refine ⟨_, rfl, p, _, rfl, pu1, by omega, fun v G2 kv k2 pu2 => ?_⟩
        have k02 : Kp (· ≠ p) H G2 := fun a o na h => k2 a o na (k1 a o na h)
        obtain ⟨dv, shv, fv, slv, kdv, kiv, ktv⟩ := kind_data kv
        have shv := sh_back pu1 k1 shv
        dsimp only [gName]
        have e1 : sl (.str "lit") ≤ 33 := slS (n := 3) (by decide)
        have fv' : fit 4 (2 * k + 1) dv := fit_mono (Nat.le_refl _) dv (by omega) fv
        refine ⟨_, rfl, _, rfl, _, rfl, p, _, _, rfl, pu2, by omega, ?_⟩
        rcases kv with ⟨z, rfl, z1, z8⟩ | ⟨t, m', z, rfl, ht, gt, m2, m4, z1, z8⟩
        · have ed := kiv z rfl
          refine .inl ⟨by decide, z, rfl, z1, z8, fun i G3 i0 i1 iW k3 pu3 => ⟨by show 3 ≤ sizeLine; decide, fin G3 _ [.str "lit", dv, .int i] _ (fun a o na h => k3 a o na (k02 a o na h)) pu3 (by omega) (.cons (.str _) (.cons (sh_step pu k3 shv) (.cons (.int i) .nil))) (fitA_cons (fit_str.mpr (by decide +kernel)) (fitA_cons fv' (fitA_cons (int_fit (by omega) (by omega)) fitA_nil))) (by show 3 ≤ 4; decide) ?_ (by simp) (t_lit kdv (by rw [ed]; exact whole_of (i := i) i0 iW))⟩⟩
          have := sl_small (i := i) (by omega) (by omega)
          rw [slA_cons, slA_cons, slA_cons, slA_nil]; omega
        · refine .inr ⟨by decide, by omega, t, m', z, rfl, gt, m2, m4, z1, z8, fun u js G3 lj hj hu gu k3 pu3 => ?_⟩
          obtain ⟨du, shu, fu, slu, edu⟩ := ints_data (by omega) (fun j m => (hj j m).1) hu gu
          have ed := ktv t m' z rfl gt
          have wd : worthD du dv = true := by
            rw [ed, edu]
            show (decide (((js.map PyData.int).length : Int) = m') && (js.map PyData.int).all fun e => wholeD e 0 (topW z)) = true
            rw [List.length_map, decide_eq_true lj, List.all_map, Bool.true_and]
            exact List.all_eq_true.mpr fun j m => whole_of (i := j) (hj j m).1.1 (hj j m).2
          refine ⟨by show 3 ≤ sizeLine; decide, fin G3 _ [.str "lit", dv, du] _ (fun a o na h => k3 a o na (k02 a o na h)) pu3 (by omega) (.cons (.str _) (.cons (sh_step pu k3 shv) (.cons (sh_back pu2 k02 shu) .nil))) (fitA_cons (fit_str.mpr (by decide +kernel)) (fitA_cons fv' (fitA_cons (fit_mono (Nat.le_refl _) du (by omega) fu) fitA_nil))) (by show 3 ≤ 4; decide) ?_ (by simp) (t_lit kdv wd)⟩
          rw [slA_cons, slA_cons, slA_cons, slA_nil]; omega
      have d1 : 1 ≤ d := by
        rcases Int.lt_or_le d 1 with h | h
        · exact absurd (decide_eq_true (by rw [show d = 0 by omega])) c
        · exact h
      refine ⟨_, rfl, _, _, rfl, rfl, _, rfl, ite2 (fun c3 => ?_) (fun c3 => ?_)⟩
      · -- name, last
        have d3 := of_decide_eq_true c3
        refine ⟨by show 2 ≤ sizeLine; decide, fun L hL => ⟨_, rfl, _, _, rfl, rfl, ?_⟩⟩
        have nL := pu1.ne hL
        obtain ⟨v, mv, ev⟩ := pick (xs := [.str "name", .str "last"]) (d := d - 1) (by omega) (by show d - 1 < 2; omega)
        refine ⟨L, _, d - 1, v, rfl, rfl, SqL.of upd_same, ev, _, rfl, p, _, rfl, pu1.of (upd_ne nL.symm), by omega, fun z G2 nz k2 pu2 => ?_⟩
        have k02 : Kp (· ≠ p) H G2 := fun a o na h => k2 a o na (same_new hL _ _ (k1 a o na h))
        clear ev
        have e4 : sl (.str z) ≤ 83 := slS (n := 8) nz.2.1
        obtain ⟨y, rfl, fy, sy, ty⟩ : ∃ y : Str, v = .str y ∧ strOk y = true ∧ sl (.str y) ≤ 43 ∧ termD (.tuple [.str y, .str z]) = true := by
          simp only [List.mem_cons, List.not_mem_nil, or_false] at mv
          rcases mv with rfl | rfl
          · exact ⟨_, rfl, by decide +kernel, slS (n := 4) (by decide), t_name (d0 := .str z) nz.2.2⟩
          · exact ⟨_, rfl, by decide +kernel, slS (n := 4) (by decide), t_last (d0 := .str z) nz.2.2⟩
        refine ⟨by show 2 ≤ sizeLine; decide, fin G2 _ [.str y, .str z] _ k02 pu2 (by omega) (.cons (.str _) (.cons (.str _) .nil)) (fitA_cons (fit_str.mpr fy) (fitA_cons (nm_fit nz) fitA_nil)) (by show 2 ≤ 4; decide) ?_ (by simp) ty⟩
        rw [slA_cons, slA_cons, slA_nil]; omega
      have d3 : 3 ≤ d := Int.not_lt.mp fun h => c3 (decide_eq_true h)
      obtain ⟨k', rfl⟩ : ∃ k', k = k' + 1 := ⟨k - 1, by
        rcases Nat.eq_zero_or_pos k with z | z
        · exact absurd (dk z) (by omega)
        · omega⟩
      have eT : T (k' + 1) = 3 * T k' + 14 := rfl
      have eS : S (k' + 1) = 4 * S k' + 60 := rfl
      have T13' := T_ge k'
      have S150' := S_ge k'
      refine ⟨_, rfl, _, rfl, _, _, rfl, rfl, p, _, _, k', rfl, by omega, by omega, pu1, by omega, fun v1 x1 G2 sh1 f1 s1 _ tm1 k2 pu2 => ?_⟩
      have k02 : Kp (· ≠ p) H G2 := fun a o na h => k2 a o na (k1 a o na h)
      refine ⟨_, rfl, _, rfl, _, _, rfl, rfl, p, _, _, k', rfl, by omega, by omega, pu2, by omega, fun v2 x2 G3 sh2 f2 s2 _ tm2 k3 pu3 => ⟨v1, v2, rfl, ?_⟩⟩
      have k03 : Kp (· ≠ p) H G3 := fun a o na h => k3 a o na (k02 a o na h)
      have sh1 : Sh G3 (Fr H) true v1 x1 := sh_step pu k3 (sh_back pu1 k1 sh1)
      have sh2 : Sh G3 (Fr H) true v2 x2 := sh_back pu2 k02 sh2
      have f1' : fit 4 (2 * (k' + 1) + 1) x1 := fit_mono (Nat.le_refl _) x1 (by omega) f1
      have f2' : fit 4 (2 * (k' + 1) + 1) x2 := fit_mono (Nat.le_refl _) x2 (by omega) f2
      refine ⟨_, rfl, rfl, _, rfl, ite2 (fun _ => ?_) (fun _ => ?_)⟩
      · -- wide
        refine size_ok (i := 0) rfl pu3 (by omega) (fun z G4 z1 z8 k4 pu4 => ⟨_, rfl, by show 3 ≤ sizeLine; decide, fin G4 _ [.str "wide", .int z, x1] _ (fun a o na h => k4 a o na (k03 a o na h)) pu4 (by omega) (.cons (.str _) (.cons (.int z) (.cons (sh_step pu k4 sh1) .nil))) (fitA_cons (fit_str.mpr (by decide +kernel)) (fitA_cons (int_fit (by omega) (by omega)) (fitA_cons f1' fitA_nil))) (by show 3 ≤ 4; decide) ?_ (by simp) (t_wide (whole_of z1 z8) tm1)⟩)
        have e1 : sl (.str "wide") ≤ 43 := slS (n := 4) (by decide)
        have := sl_small (i := z) (by omega) (by omega)
        rw [slA_cons, slA_cons, slA_cons, slA_nil]; omega
      refine ⟨_, rfl, rfl, _, rfl, ite2 (fun _ => ?_) (fun _ => ?_)⟩
      · -- bit, at
        refine take_ok (i := 0) rfl pu3 (by omega) (by decide) (by decide) (fun z G4 z0 z8 k4 pu4 => ⟨_, rfl, by show 3 ≤ sizeLine; decide, fun t1 h1 => ?_⟩)
        have n1 := pu4.ne h1
        have k04 : Kp (· ≠ p) H G4 := fun a o na h => k4 a o na (k03 a o na h)
        refine take_ok (i := 0) rfl (pu4.of (upd_ne n1.symm)) (by omega) (by decide) (by decide) (fun y G5 y0 y4 k5 pu5 => ⟨_, rfl, by show 3 ≤ sizeLine; decide, fun t2 h2 => ⟨by show 2 ≤ sizeLine; decide, fun L hL => ?_⟩⟩)
        have k45 : Kp (· ≠ p) G4 G5 := fun a o na h => k5 a o na (same_new h1 _ _ h)
        have k05 : Kp (· ≠ p) H G5 := fun a o na h => k45 a o na (k04 a o na h)
        have s2L : Same G5 (upd (upd G5 t2 (.tup [.str "at", .int y, v1])) L (.lst [.ref t1, .ref t2])) := same_trans_new (same_new h2) hL
        have puL := pu5.same s2L
        refine take_ok (i := 0) rfl puL (by omega) (by decide) (by decide) (fun u G6 u0 u1 k6 pu6 => ?_)
        have nL : L ≠ p := (pu5.same (same_new h2)).ne hL
        have n2 := pu5.ne h2
        obtain ⟨v, mv, ev⟩ := pick (xs := [V.ref t1, .ref t2]) u0 u1
        refine ⟨L, _, u, v, rfl, rfl, SqL.of (k6 _ _ nL upd_same), ev, ?_⟩
        have k56 : Kp (· ≠ p) G5 G6 := fun a o na h => k6 a o na (s2L _ _ h)
        have k06 : Kp (· ≠ p) H G6 := fun a o na h => k56 a o na (k05 a o na h)
        have k36 : Kp (· ≠ p) G3 G6 := fun a o na h => k56 a o na (k45 a o na (k4 a o na h))
        clear ev
        have e1 : sl (.str "bit") ≤ 33 := slS (n := 3) (by decide)
        have e2 : sl (.str "at") ≤ 23 := slS (n := 2) (by decide)
        simp only [List.mem_cons, List.not_mem_nil, or_false] at mv
        rcases mv with rfl | rfl
        · refine fin2 G6 t1 _ [.str "bit", .int z, x1] _ k06 pu6 (by omega) (pu4.back k04 h1) (k56 _ _ n1 (k5 _ _ n1 upd_same)) (.cons (.str _) (.cons (.int z) (.cons (sh_step pu k36 sh1) .nil))) (fitA_cons (fit_str.mpr (by decide +kernel)) (fitA_cons (int_fit (by omega) (by omega)) (fitA_cons f1' fitA_nil))) (by show 3 ≤ 4; decide) ?_ (by simp) (t_bit (whole_of z0 (by omega)) tm1)
          have := sl_small (i := z) (by omega) (by omega)
          rw [slA_cons, slA_cons, slA_cons, slA_nil]; omega
        · refine fin2 G6 t2 _ [.str "at", .int y, x1] _ k06 pu6 (by omega) (pu5.back k05 h2) (k6 _ _ n2 ((same_new hL) _ _ upd_same)) (.cons (.str _) (.cons (.int y) (.cons (sh_step pu k36 sh1) .nil))) (fitA_cons (fit_str.mpr (by decide +kernel)) (fitA_cons (int_fit (by omega) (by omega)) (fitA_cons f1' fitA_nil))) (by show 3 ≤ 4; decide) ?_ (by simp) (t_at (whole_of y0 (by omega)) tm1)
          have := sl_small (i := y) (by omega) (by omega)
          rw [slA_cons, slA_cons, slA_cons, slA_nil]; omega
      refine ⟨_, rfl, rfl, _, rfl, ite2 (fun _ => ?_) (fun _ => ?_)⟩
      · -- when
        refine ⟨_, rfl, _, rfl, p, _, rfl, pu3, by omega, fun z G4 nz k4 pu4 => take_ok (i := 0) rfl pu4 (by omega) (by decide) (by decide) (fun y G5 y0 y2 k5 pu5 => ⟨by show 4 ≤ sizeLine; decide, fin G5 _ [.str "when", x1, .str z, .int y] _ (fun a o na h => k5 a o na (k4 a o na (k03 a o na h))) pu5 (by omega) (.cons (.str _) (.cons (sh_step pu k5 (sh_step pu k4 sh1)) (.cons (.str _) (.cons (.int y) .nil)))) (fitA_cons (fit_str.mpr (by decide +kernel)) (fitA_cons f1' (fitA_cons (nm_fit nz) (fitA_cons (int_fit (by omega) (by omega)) fitA_nil)))) (by show 4 ≤ 4; decide) ?_ (by simp) (t_when tm1 (d1 := .str z) nz.2.2 (whole_of y0 (by omega)))⟩)⟩
        have e1 : sl (.str "when") ≤ 43 := slS (n := 4) (by decide)
        have e4 : sl (.str z) ≤ 83 := slS (n := 8) nz.2.1
        have := sl_small (i := y) (by omega) (by omega)
        rw [slA_cons, slA_cons, slA_cons, slA_cons, slA_nil]; omega
      refine ⟨_, rfl, rfl, _, rfl, ite2 (fun _ => ?_) (fun _ => ?_)⟩
      · -- merge
        refine ⟨_, rfl, p, _, rfl, pu3, by omega, fun z G4 nz k4 pu4 => ⟨_, rfl, _, rfl, by show 4 ≤ sizeLine; decide, fin G4 _ [.str "merge", .str z, x1, x2] _ (fun a o na h => k4 a o na (k03 a o na h)) pu4 (by omega) (.cons (.str _) (.cons (.str _) (.cons (sh_step pu k4 sh1) (.cons (sh_step pu k4 sh2) .nil)))) (fitA_cons (fit_str.mpr (by decide +kernel)) (fitA_cons (nm_fit nz) (fitA_cons f1' (fitA_cons f2' fitA_nil)))) (by show 4 ≤ 4; decide) ?_ (by simp) (t_merge (d0 := .str z) nz.2.2 tm1 tm2)⟩⟩
        have e1 : sl (.str "merge") ≤ 53 := slS (n := 5) (by decide)
        have e4 : sl (.str z) ≤ 83 := slS (n := 8) nz.2.1
        rw [slA_cons, slA_cons, slA_cons, slA_cons, slA_nil]; omega
      refine ⟨_, rfl, rfl, _, rfl, ite2 (fun _ => ?_) (fun _ => ?_)⟩
      · -- row
        have row : ∀ (G : Hp) (r : Addr) (ys : List V) (ds : List PyData) (n' : Int), Kp (· ≠ p) H G → Purse G p n' → n' ≤ n + (T (k' + 1) : Int) → H r = none → G r = some (.tup ys) → ShAll G (Fr H) true ys ds → (∀ d ∈ ds, d = x1 ∨ d = x2) → ds.length ≤ 4 → 2 ≤ ds.length → ∀ t, G t = none → Q (.ref t) (upd G t (.tup [.str "row", .ref r])) := fun G r ys ds n' kG pG ln hr gr sh mem l4 l2 t ht => by
          refine fin G _ [.str "row", .tuple ds] n' kG pG ln (.cons (.str _) (.cons (.tup gr hr sh) .nil)) (fitA_cons (fit_str.mpr (by decide +kernel)) (fitA_cons (fit_tup (k := 2 * k' + 2).mpr ⟨l4, fun d m => (mem d m).elim (fun e => e ▸ f1) fun e => e ▸ f2⟩) fitA_nil)) (by show 2 ≤ 4; decide) ?_ (by simp) (t_row (fun d m => (mem d m).elim (fun e => e ▸ tm1) fun e => e ▸ tm2) (by omega) (by omega)) t ht
          have a := slA_le (n := S k') (l := ds) fun d m => (mem d m).elim (fun e => e ▸ s1) fun e => e ▸ s2
          have b : (S k' + 2) * ds.length ≤ (S k' + 2) * 4 := Nat.mul_le_mul_left _ l4
          have e1 : sl (.str "row") ≤ 33 := slS (n := 3) (by decide)
          rw [slA_cons, slA_cons, slA_nil, sl_tup]; omega
        refine ⟨_, rfl, _, rfl, _, rfl, _, rfl, by show 4 ≤ sizeLine; decide, fun t ht => ?_⟩
        have nt := pu3.ne ht
        refine take_ok (i := 0) rfl (pu3.of (upd_ne nt.symm)) (by omega) (by decide) (by decide) (fun z G4 z0 z3 k4 pu4 => ⟨_, _, rfl, rfl, _, rfl, t, _, rfl, SqT.of (k4 _ _ nt upd_same), ?_, ?_⟩)
        · intro full
          have k34 : Kp (· ≠ p) G3 G4 := fun a o na h => k4 a o na (same_new ht _ _ h)
          have sh1' := sh_step pu k34 sh1
          have sh2' := sh_step pu k34 sh2
          refine ⟨by show 2 ≤ sizeLine; decide, row G4 t _ [x1, x2, x1, x2] _ (fun a o na h => k34 a o na (k03 a o na h)) pu4 (by omega) (pu3.back k03 ht) (k4 _ _ nt upd_same) (.cons sh1' (.cons sh2' (.cons sh1' (.cons sh2' .nil)))) (fun d m => by simp only [List.mem_cons, List.not_mem_nil, or_false] at m; rcases m with h | h | h | h <;> simp [h]) (by show 4 ≤ 4; decide) (by show 2 ≤ 4; decide)⟩
        · intro nf r hr'
          have k34 : Kp (· ≠ p) G3 G4 := fun a o na h => k4 a o na (same_new ht _ _ h)
          have sn := same_new (o := .tup (cutV [v1, v2, v1, v2] none (some (2 + z)))) hr'
          have sh1' := sh_same sn (sh_step pu k34 sh1)
          have sh2' := sh_same sn (sh_step pu k34 sh2)
          have k04 : Kp (· ≠ p) H G4 := fun a o na h => k34 a o na (k03 a o na h)
          have go : ∀ (ys : List V) (ds : List PyData), cutV [v1, v2, v1, v2] none (some (2 + z)) = ys → ShAll (upd G4 r (.tup (cutV [v1, v2, v1, v2] none (some (2 + z))))) (Fr H) true ys ds → (∀ d ∈ ds, d = x1 ∨ d = x2) → ds.length ≤ 4 → 2 ≤ ds.length → _ := fun ys ds e sh mem l4 l2 =>
            (⟨by show 2 ≤ sizeLine; decide, row _ r ys ds _ (fun a o na h => sn _ _ (k04 a o na h)) (pu4.same sn) (by omega) (pu4.back k04 hr') (by rw [← e, upd_same]) sh mem l4 l2⟩ : 2 ≤ sizeLine ∧ ∀ t', upd G4 r (.tup (cutV [v1, v2, v1, v2] none (some (2 + z)))) t' = none → Q (.ref t') (upd (upd G4 r (.tup (cutV [v1, v2, v1, v2] none (some (2 + z))))) t' (.tup [.str "row", .ref r])))
          rcases (by omega : z = 0 ∨ z = 1 ∨ z = 2) with rfl | rfl | rfl
          · exact go [v1, v2] [x1, x2] rfl (.cons sh1' (.cons sh2' .nil)) (fun d m => by simp only [List.mem_cons, List.not_mem_nil, or_false] at m; exact m) (by show 2 ≤ 4; decide) (by show 2 ≤ 2; decide)
          · exact go [v1, v2, v1] [x1, x2, x1] rfl (.cons sh1' (.cons sh2' (.cons sh1' .nil))) (fun d m => by simp only [List.mem_cons, List.not_mem_nil, or_false] at m; rcases m with h | h | h <;> simp [h]) (by show 3 ≤ 4; decide) (by show 2 ≤ 3; decide)
          · exact go [v1, v2, v1, v2] [x1, x2, x1, x2] rfl (.cons sh1' (.cons sh2' (.cons sh1' (.cons sh2' .nil)))) (fun d m => by simp only [List.mem_cons, List.not_mem_nil, or_false] at m; rcases m with h | h | h | h <;> simp [h]) (by show 4 ≤ 4; decide) (by show 2 ≤ 4; decide)
      refine ⟨_, rfl, rfl, _, rfl, ite2 (fun _ => ?_) (fun _ => ?_)⟩
      · -- pick
        refine ⟨_, rfl, _, rfl, _, rfl, _, rfl, _, _, rfl, rfl, p, _, _, k', rfl, by omega, by omega, pu3, by omega, fun v3 x3 G4 sh3 f3 s3 _ tm3 k4 pu4 => ⟨by show 4 ≤ sizeLine; decide, fin G4 _ [.str "pick", x1, x2, x3] _ (fun a o na h => k4 a o na (k03 a o na h)) pu4 (by omega) (.cons (.str _) (.cons (sh_step pu k4 sh1) (.cons (sh_step pu k4 sh2) (.cons (sh_back pu3 k03 sh3) .nil)))) (fitA_cons (fit_str.mpr (by decide +kernel)) (fitA_cons f1' (fitA_cons f2' (fitA_cons (fit_mono (Nat.le_refl _) x3 (by omega) f3) fitA_nil)))) (by show 4 ≤ 4; decide) ?_ (by simp) (t_pick tm1 tm2 tm3)⟩⟩
        have e1 : sl (.str "pick") ≤ 43 := slS (n := 4) (by decide)
        rw [slA_cons, slA_cons, slA_cons, slA_cons, slA_nil]; omega
      refine ⟨_, rfl, rfl, _, rfl, ite2 (fun _ => ?_) (fun _ => ?_)⟩
      · -- not
        refine ⟨_, rfl, by show 2 ≤ sizeLine; decide, fin G3 _ [.str "not", x1] _ k03 pu3 (by omega) (.cons (.str _) (.cons sh1 .nil)) (fitA_cons (fit_str.mpr (by decide +kernel)) (fitA_cons f1' fitA_nil)) (by show 2 ≤ 4; decide) ?_ (by simp) (t_not tm1)⟩
        have e1 : sl (.str "not") ≤ 33 := slS (n := 3) (by decide)
        rw [slA_cons, slA_cons, slA_nil]; omega
      · -- of two
        refine ⟨by show 8 ≤ sizeLine; decide, fun L hL => ?_⟩
        have nL := pu3.ne hL
        refine take_ok (i := 0) rfl (pu3.of (upd_ne nL.symm)) (by omega) (by decide) (by decide) (fun u G4 u0 u8 k4 pu4 => ?_)
        obtain ⟨v, mv, ev⟩ := pick (xs := [V.str "first", .str "and", .str "or", .str "xor", .str "add", .str "sub", .str "less", .str "same"]) u0 u8
        refine ⟨L, _, u, v, rfl, rfl, SqL.of (k4 _ _ nL upd_same), ev, ?_⟩
        have k34 : Kp (· ≠ p) G3 G4 := fun a o na h => k4 a o na (same_new hL _ _ h)
        clear ev
        obtain ⟨y, rfl, fy, sy, ty⟩ : ∃ y : Str, v = .str y ∧ strOk y = true ∧ sl (.str y) ≤ 53 ∧ termD (.tuple [.str y, x1, x2]) = true := by
          simp only [List.mem_cons, List.not_mem_nil, or_false] at mv
          rcases mv with rfl | rfl | rfl | rfl | rfl | rfl | rfl | rfl
          · exact ⟨_, rfl, by decide +kernel, slS (n := 5) (by decide), t_first tm1 tm2⟩
          · exact ⟨_, rfl, by decide +kernel, slS (n := 5) (by decide), t_and tm1 tm2⟩
          · exact ⟨_, rfl, by decide +kernel, slS (n := 5) (by decide), t_or tm1 tm2⟩
          · exact ⟨_, rfl, by decide +kernel, slS (n := 5) (by decide), t_xor tm1 tm2⟩
          · exact ⟨_, rfl, by decide +kernel, slS (n := 5) (by decide), t_add tm1 tm2⟩
          · exact ⟨_, rfl, by decide +kernel, slS (n := 5) (by decide), t_sub tm1 tm2⟩
          · exact ⟨_, rfl, by decide +kernel, slS (n := 5) (by decide), t_less tm1 tm2⟩
          · exact ⟨_, rfl, by decide +kernel, slS (n := 5) (by decide), t_same tm1 tm2⟩
        refine ⟨_, rfl, _, rfl, by show 3 ≤ sizeLine; decide, fin G4 _ [.str y, x1, x2] _ (fun a o na h => k34 a o na (k03 a o na h)) pu4 (by omega) (.cons (.str _) (.cons (sh_step pu k34 sh1) (.cons (sh_step pu k34 sh2) .nil))) (fitA_cons (fit_str.mpr fy) (fitA_cons f1' (fitA_cons f2' fitA_nil))) (by show 3 ≤ 4; decide) ?_ (by simp) ty⟩
        rw [slA_cons, slA_cons, slA_cons, slA_nil]; omega
end
end K5
end Bf

namespace Bf
open PySem PySem.Spec PyProof.Rows L2
namespace K5
/-- a node's name, or a text as long -/
def ndOk (z : Str) : Prop := ((∀ c ∈ z.cps.toList, c < 16 ^ 8) ∧ z.cps.size ≤ 17) ∧ nodeD (.str z) = true
theorem nd_fit {w k : Nat} {z : Str} (h : ndOk z) : fit w k (.str z) := fit_str.mpr (Bool.and_eq_true_iff.mpr ⟨List.all_eq_true.mpr fun c m => decide_eq_true (h.1.1 c m), decide_eq_true (Nat.le_trans h.1.2 (by decide))⟩)
theorem app_cps (a b : Str) : (a ++ b).cps = a.cps ++ b.cps := rfl
theorem app_ok {a b : Str} {n : Nat} (ha : ∀ c ∈ a.cps.toList, c < 16 ^ 8) (hb : ∀ c ∈ b.cps.toList, c < 16 ^ 8) (l : a.cps.size + b.cps.size ≤ n) : (∀ c ∈ (a ++ b).cps.toList, c < 16 ^ 8) ∧ (a ++ b).cps.size ≤ n := by
  rw [app_cps]
  refine ⟨fun c m => ?_, by rw [Array.size_append]; exact l⟩
  rw [Array.toList_append] at m
  exact (List.mem_append.mp m).elim (ha c) (hb c)
abbrev pSide : List Str := ["_law_purse_here", "_law_deep"]
abbrev nSide : List Str := ["_law_purse_here", "_law_deep", "_law_way", "_law_node", "_law_every", "_law_many", "_law_args", "_law_some", "_law_k"]
theorem scSide : FnScope nSide pSide (defScope sSide) := ⟨rfl, rfl, rfl, by decide +kernel, rfl, by decide +kernel, by decide +kernel⟩
def spSide : Sp := fun vs H Q _ => ∃ (p : Addr) (n e : Int) (k : Nat), vs = [.ref p, .int e] ∧ e = (k : Int) ∧ k ≤ 3 ∧ Purse H p n ∧ n ≤ 90000 ∧
  ∀ v d G, Sh G (Fr H) true v d → fit 6 10 d → sl d ≤ 77000 → (∃ ds, d = .tuple ds ∧ ds ≠ []) → rightD d = true → Kp (· ≠ p) H G → Purse G p (n + 8200) → Q v G
section
variable {P : Program} {w : World} {K : PySem.W.Frag} {mg : Str → Option Value} {base : Heap}
theorem _root_.Bf.ShAll.append {H : Hp} {P : Addr → Prop} {b : Bool} : ∀ {vs : List V} {ds : List PyData} {ws : List V} {es : List PyData}, ShAll H P b vs ds → ShAll H P b ws es → ShAll H P b (vs ++ ws) (ds ++ es)
  | _, _, _, _, .nil, r => r
  | _, _, _, _, .cons h t, r => .cons h (ShAll.append t r)
theorem anys_ok {p : Addr} {n e c : Int} {k m : Nat} {E : XK} {H : Hp} {Q : VK} {u2 u3 u4 u6 u7 u8 : Option V} (he : e = (k : Int)) (hm : k < m) (pu : Purse H p n) (hn : n + 6 * (T k : Int) ≤ 99900) (c0 : 0 ≤ c) (c6 : c ≤ 6)
    (q : ∀ (u : Addr) (xs : List V) (ds : List PyData) G, (ds.length : Int) = c → ShAll G (Fr H) true xs ds → (∀ d ∈ ds, (fit 4 (2 * k + 2) d ∧ sl d ≤ S k) ∧ termD d = true) → H u = none → G u = some (.tup xs) → Kp (· ≠ p) H G → Purse G p (n + 6 * (T k : Int)) → Q (.ref u) G) :
    tCB (fun xs H Q => ∃ p ys, xs = [.ref p] ∧ ((SqL K H p ys ∧ ∀ l, H l = none → Q (.ref l) (upd H l (.tup ys))) ∨ (SqT K H p ys ∧ Q (.ref p) H)))
      (tCons (tLc (iRng1 (tCons (tVar 5) tNil)) (gName 8) tYes (tCall (spAny m) [] E (tCons (tVar 0) (tCons (tVar 1) tNil))) [8]) tNil)
      [some (.ref p), some (.int e), u2, u3, u4, some (.int c), u6, u7, u8] H Q := by
  refine ⟨_, rfl, c, rfl, by omega, by omega, fun D hD => ?_⟩
  have nD := pu.ne hD
  have cle : (c.toNat : Int) ≤ 6 := by omega
  refine lc_range (lo := 0) (n := c.toNat) (fun i G => ∃ xs ds, ds.length = i ∧ ShAll G (fun a => Fr H a ∧ a ≠ D) true xs ds ∧ (∀ d ∈ ds, (fit 4 (2 * k + 2) d ∧ sl d ≤ S k) ∧ termD d = true) ∧ G D = some (.lst xs) ∧ Kp (· ≠ p) H G ∧ Purse G p (n + (i : Int) * (T k : Int)))
    ⟨[], [], rfl, .nil, (fun _ m => nomatch m), upd_same, kp_same (same_new hD), by rw [show n + ((0 : Nat) : Int) * (T k : Int) = n by simp]; exact pu.of (upd_ne nD.symm)⟩ (fun i G hi pv => ?_) fun G pv => ?_
  · obtain ⟨xs, ds, ld, sh, hd, gD, kG, pG⟩ := pv
    have bi : ((i + 1 : Nat) : Int) * (T k : Int) ≤ 6 * (T k : Int) := Int.mul_le_mul_of_nonneg_right (by omega) (by omega)
    have ei : ((i + 1 : Nat) : Int) * (T k : Int) = (i : Int) * (T k : Int) + (T k : Int) := by rw [Int.natCast_add, Int.add_mul]; simp
    refine ⟨rfl, _, rfl, _, rfl, p, _, e, k, rfl, he, hm, pG, by omega, fun v d G2 shv fv sv _ tv k2 pu2 => ?_⟩
    have lx := shAll_len sh
    refine ⟨xs, k2 _ _ nD gD, by rw [lx, ld]; exact small1000 (by omega), xs ++ [v], ds ++ [d], by rw [List.length_append, ld]; rfl, ?_, fun x mx => ?_, upd_same, fun a o na h => ?_, ?_⟩
    · refine (ShAll.on (fun _ _ f _ => f) (fun a o f e => ?_) ds xs sh).append (.cons (Sh.on (fun a o f _ => ⟨pG.back kG f, fun z => ?_⟩) (fun a o f e => ?_) d v shv) .nil)
      · rw [upd_ne f.2]; exact k2 a o (pu.ne f.1) e
      · rw [upd_ne (fun z => by rw [z] at f; exact absurd (gD.symm.trans f) (fun z => nomatch z))]; exact e
      · rw [z] at f; exact absurd (gD.symm.trans f) (fun z => nomatch z)
    · rcases List.mem_append.mp mx with mx | mx
      · exact hd x mx
      · rw [List.mem_singleton.mp mx]; exact ⟨⟨fv, sv⟩, tv⟩
    · rw [upd_ne (ne_of_none h hD)]
      exact k2 a o na (kG a o na h)
    · rw [ei, ← Int.add_assoc]
      exact pu2.of (upd_ne nD.symm)
  · obtain ⟨xs, ds, ld, sh, hd, gD, kG, pG⟩ := pv
    refine ⟨D, xs, rfl, .inl ⟨SqL.of gD, fun u hu => ?_⟩⟩
    have bi : (c.toNat : Int) * (T k : Int) ≤ 6 * (T k : Int) := Int.mul_le_mul_of_nonneg_right cle (by omega)
    exact q u xs ds _ (by omega) (ShAll.on (fun _ _ f _ => f.1) (fun a o _ e => same_new hu a o e) ds xs sh) hd (pG.back kG hu) upd_same (fun a o na h => same_new hu _ _ (kG a o na h)) ((pG.of (upd_ne (pG.ne hu).symm)).mono (by omega))
theorem ok_side {f fa ft fn fk fo : Addr} {fd da dt dn dk do_ : FuncData} (F : Fun K "_law_side" "_law_side" sSide f fd) (DA : Df K mg "_law_any" fa da pAny) (GA : FnOk P w K mg base CX0 8 fa da pAny (spAny 5)) (M : Mkr P w K mg base ft fn fk fo dt dn dk do_) (mr : mg "range" = none) (mt : mg "tuple" = none) :
    FnOk P w K mg base CX0 9 f fd pSide spSide := by
  refine F.ok scSide (fun vs H Q E h => ?_) (fun cdv A outer s H vs Q E hr h => ?_)
  · obtain ⟨p, n, e, k, rfl, _⟩ := h
    rfl
  · obtain ⟨p, n, e, k, rfl, he, hk, pu, hn, q⟩ := h
    have hr1 := hr.mono (by omega : 1 ≤ 8)
    have hr2 := hr.mono (by omega : 2 ≤ 8)
    have hr4 := hr
    refine ⟨_, (pss_cons (ps_set (i := 2) scSide.nd rfl (Or.inl rfl) (pe_call M.GT hr1 (by rfl) M.DT.at_ M.DT.kp M.DT.bd .nil pass0 (pa_cons (pv 0) (pa_cons pe_int pa_nil))))
        (pss_cons (ps_set (i := 3) scSide.nd rfl (Or.inl rfl) (pe_op op_add_str (pe_call M.GN hr2 (by rfl) M.DN.at_ M.DN.kp M.DN.bd .nil pass0 (pa_cons (pv 0) pa_nil)) (pe_ix ix_list (pe_lst (pa_cons pe_str (pa_cons (pe_op op_add_str pe_str (pe_call M.GN hr2 (by rfl) M.DN.at_ M.DN.kp M.DN.bd .nil pass0 (pa_cons (pv 0) pa_nil))) pa_nil))) (pe_call M.GT hr1 (by rfl) M.DT.at_ M.DT.kp M.DT.bd .nil pass0 (pa_cons (pv 0) (pa_cons pe_int pa_nil))) (fun _ _ => rfl))))
        (pss_cons (ps_set (i := 4) scSide.nd rfl (Or.inl rfl) (pe_ix ix_list (pe_lst (pa_cons pe_non (pa_cons (pe_call M.GN hr2 (by rfl) M.DN.at_ M.DN.kp M.DN.bd .nil pass0 (pa_cons (pv 0) pa_nil)) pa_nil))) (pe_call M.GT hr1 (by rfl) M.DT.at_ M.DT.kp M.DT.bd .nil pass0 (pa_cons (pv 0) (pa_cons pe_int pa_nil))) (fun _ _ => rfl)))
        (pss_cons (ps_set (i := 5) scSide.nd rfl (Or.inl rfl) (pe_ix ix_list (pe_lst (pa_cons pe_int (pa_cons pe_int (pa_cons (pe_call M.GT hr1 (by rfl) M.DT.at_ M.DT.kp M.DT.bd .nil pass0 (pa_cons (pv 0) (pa_cons pe_int pa_nil))) pa_nil)))) (pe_call M.GT hr1 (by rfl) M.DT.at_ M.DT.kp M.DT.bd .nil pass0 (pa_cons (pv 0) (pa_cons pe_int pa_nil))) (fun _ _ => rfl)))
        (pss_cons (ps_set (i := 6) scSide.nd rfl (Or.inl rfl) (pe_callTy call_tuple_of (by rfl) mt (by decide +kernel) (pa_cons (pe_lc (own := [("_law_k", 8)]) (g := gName 8) (tt := tYes) rfl scSide.nd (pi_range1 (by rfl) mr (pa_cons (pv 5) pa_nil)) (blkOk_by (N := nSide) (sc := defScope sSide) (by decide +kernel)) (fun _ _ _ _ _ => pg_name (i := 8) scSide.nd rfl (Or.inl rfl)) (fun _ _ _ _ _ => pts_nil) (fun _ _ _ _ _ => (pe_call GA hr4 (by rfl) DA.at_ DA.kp DA.bd .nil pass0 (pa_cons (pv 0) (pa_cons (pv 1) pa_nil))))) pa_nil)))
        (pss_cons (ps_set (i := 5) scSide.nd rfl (Or.inl rfl) (pe_ix ix_list (pe_lst (pa_cons pe_int (pa_cons pe_int (pa_cons (pe_op op_add pe_int (pe_call M.GT hr1 (by rfl) M.DT.at_ M.DT.kp M.DT.bd .nil pass0 (pa_cons (pv 0) (pa_cons pe_int pa_nil)))) pa_nil)))) (pe_call M.GT hr1 (by rfl) M.DT.at_ M.DT.kp M.DT.bd .nil pass0 (pa_cons (pv 0) (pa_cons pe_int pa_nil))) (fun _ _ => rfl)))
        (pss_cons (ps_set (i := 7) scSide.nd rfl (Or.inl rfl) (pe_callTy call_tuple_of (by rfl) mt (by decide +kernel) (pa_cons (pe_lc (own := [("_law_k", 8)]) (g := gName 8) (tt := tYes) rfl scSide.nd (pi_range1 (by rfl) mr (pa_cons (pv 5) pa_nil)) (blkOk_by (N := nSide) (sc := defScope sSide) (by decide +kernel)) (fun _ _ _ _ _ => pg_name (i := 8) scSide.nd rfl (Or.inl rfl)) (fun _ _ _ _ _ => pts_nil) (fun _ _ _ _ _ => (pe_call GA hr4 (by rfl) DA.at_ DA.kp DA.bd .nil pass0 (pa_cons (pv 0) (pa_cons (pv 1) pa_nil))))) pa_nil)))
        (pss_cons (ps_if (pt_cmpR op_lt (pv 2) pe_int (nomark _)) (pss_one (ps_ret (pe_call GA hr4 (by rfl) DA.at_ DA.kp DA.bd .nil pass0 (pa_cons (pv 0) (pa_cons (pe_op op_add (pv 1) pe_int) pa_nil))))) pss_nil)
        (pss_cons (ps_if (pt_cmpR op_eq (pv 2) pe_int (nomark _)) (pss_one (ps_ret (pe_tup (pa_cons pe_str (pa_cons (pv 3) (pa_cons (pv 6) (pa_cons (pv 4) pa_nil))))))) pss_nil)
        (pss_cons (ps_if (pt_cmpR op_eq (pv 2) pe_int (nomark _)) (pss_one (ps_ret (pe_tup (pa_cons pe_str (pa_cons (pv 3) (pa_cons (pv 7) (pa_cons (pv 4) pa_nil))))))) pss_nil)
        (pss_cons (ps_if (pt_cmpR op_eq (pv 2) pe_int (nomark _)) (pss_one (ps_ret (pe_tup (pa_cons pe_str (pa_cons (pv 3) (pa_cons (pe_call GA hr4 (by rfl) DA.at_ DA.kp DA.bd .nil pass0 (pa_cons (pv 0) (pa_cons (pv 1) pa_nil))) (pa_cons (pv 7) (pa_cons (pv 4) pa_nil)))))))) pss_nil)
        (pss_one (ps_ret (pe_tup (pa_cons pe_str (pa_cons (pv 3) (pa_cons (pe_call GA hr4 (by rfl) DA.at_ DA.kp DA.bd .nil pass0 (pa_cons (pv 0) (pa_cons (pv 1) pa_nil))) (pa_cons (pv 4) pa_nil)))))))))))))))))), ?_⟩
    have Tk : 12 * (T k : Int) + (T (k + 1) : Int) ≤ 8009 := by
      rcases (by omega : k = 0 ∨ k = 1 ∨ k = 2 ∨ k = 3) with rfl | rfl | rfl | rfl <;> decide
    have Tle : T k ≤ T (k + 1) := by show T k ≤ 3 * T k + 14; omega
    have Sk : S k ≤ 10860 ∧ S (k + 1) ≤ 43500 := by
      rcases (by omega : k = 0 ∨ k = 1 ∨ k = 2 ∨ k = 3) with rfl | rfl | rfl | rfl <;> decide
    refine take_ok (i := 0) rfl pu (by omega) (by decide) (by decide) (fun d G1 d0 d8 k1 pu1 => ?_)
    -- node
    refine ⟨_, rfl, p, _, rfl, pu1, by omega, fun z1 G2 nz1 k2 pu2 => ⟨_, rfl, p, _, rfl, pu2, by omega, fun z2 G3 nz2 k3 pu3 => ⟨_, _, rfl, rfl, Nat.le_trans (Nat.add_le_add_left nz2.2.1 1) (by decide), by show 2 ≤ sizeLine; decide, fun L hL => ?_⟩⟩⟩
    have nL := pu3.ne hL
    refine take_ok (i := 0) rfl (pu3.of (upd_ne nL.symm)) (by omega) (by decide) (by decide) (fun u G4 u0 u1 k4 pu4 => ?_)
    obtain ⟨v, mv, ev⟩ := pick (xs := [V.str "", .str ("." ++ z2)]) u0 u1
    obtain ⟨y, rfl, hy, ny⟩ : ∃ y : Str, v = .str y ∧ ((∀ c ∈ y.cps.toList, c < 16 ^ 8) ∧ y.cps.size ≤ 9) ∧ nodeD (.str (z1 ++ y)) = true := by
      simp only [List.mem_cons, List.not_mem_nil, or_false] at mv
      rcases mv with rfl | rfl
      · exact ⟨_, rfl, ⟨(fun _ m => nomatch m), by decide⟩, node_one nz1.2.2⟩
      · exact ⟨_, rfl, app_ok (by decide +kernel) nz2.1 (Nat.add_le_add_left nz2.2.1 1), node_two nz1.2.2 nz2.2.2⟩
    have k04 : Kp (· ≠ p) H G4 := fun a o na h => k4 a o na (same_new hL _ _ (k3 a o na (k2 a o na (k1 a o na h))))
    have nd : ndOk (z1 ++ y) := ⟨app_ok nz1.1 hy.1 (Nat.add_le_add nz1.2.1 hy.2), ny⟩
    refine ⟨L, _, u, _, rfl, rfl, SqL.of (k4 _ _ nL upd_same), ev, _, _, rfl, rfl, Nat.le_trans (Nat.add_le_add nz1.2.1 hy.2) (by decide), ?_⟩
    generalize z1 ++ y = nde at nd
    clear mv ev hL nL k1 k2 k3 k4
    -- every
    refine ⟨_, rfl, p, _, rfl, pu4, by omega, fun z3 G5 nz3 k5 pu5 => ⟨by show 2 ≤ sizeLine; decide, fun L hL => ?_⟩⟩
    have nL := pu5.ne hL
    refine take_ok (i := 0) rfl (pu5.of (upd_ne nL.symm)) (by omega) (by decide) (by decide) (fun u G6 u0 u1 k6 pu6 => ?_)
    obtain ⟨ev_, mv, eve⟩ := pick (xs := [V.non, .str z3]) u0 u1
    obtain ⟨de, she, fe, se, ve⟩ : ∃ de : PyData, (∀ G P, Sh G P true ev_ de) ∧ fit 6 9 de ∧ sl de ≤ 83 ∧ fitsD "every" de = true := by
      simp only [List.mem_cons, List.not_mem_nil, or_false] at mv
      rcases mv with rfl | rfl
      · exact ⟨_, fun _ _ => .non, fit_non, by simp only [sl]; omega, by rw [fits_every]; rfl⟩
      · exact ⟨_, fun _ _ => .str _, nm_fit nz3, slS (n := 8) nz3.2.1, by rw [fits_every]; exact nz3.2.2⟩
    have k06 : Kp (· ≠ p) H G6 := fun a o na h => k6 a o na (same_new hL _ _ (k5 a o na (k04 a o na h)))
    refine ⟨L, _, u, _, rfl, rfl, SqL.of (k6 _ _ nL upd_same), eve, ?_⟩
    clear mv eve hL nL k5 k6 k04
    dsimp only [gName]
    -- args
    refine take_ok (i := 0) rfl pu6 (by omega) (by decide) (by decide) (fun c1 G7 c0 c7 k7 pu7 => ⟨by show 3 ≤ sizeLine; decide, fun L hL => ?_⟩)
    have nL := pu7.ne hL
    refine take_ok (i := 0) rfl (pu7.of (upd_ne nL.symm)) (by omega) (by decide) (by decide) (fun u G8 u0 u1 k8 pu8 => ?_)
    obtain ⟨v, mv, ev⟩ := pick (xs := [V.int 0, .int 6, .int c1]) u0 u1
    obtain ⟨c, rfl, cl, ch⟩ : ∃ c : Int, v = .int c ∧ 0 ≤ c ∧ c ≤ 6 := by
      simp only [List.mem_cons, List.not_mem_nil, or_false] at mv
      rcases mv with rfl | rfl | rfl
      · exact ⟨_, rfl, by decide, by decide⟩
      · exact ⟨_, rfl, by decide, by decide⟩
      · exact ⟨_, rfl, by omega, by omega⟩
    have k08 : Kp (· ≠ p) H G8 := fun a o na h => k8 a o na (same_new hL _ _ (k7 a o na (k06 a o na h)))
    refine ⟨L, _, u, _, rfl, rfl, SqL.of (k8 _ _ nL upd_same), ev, ?_⟩
    clear mv ev hL nL k7 k8 k06
    dsimp only [gName, tSeq, tAsg]
    refine anys_ok (K := K) (m := 5) (k := k) he (by omega) pu8 (by omega) cl ch (fun ua xa da_ G9 la sha fa hua gua k9 pu9 => ?_)
    have k09 : Kp (· ≠ p) H G9 := fun a o na h => k9 a o na (k08 a o na h)
    have sha := ShAll.on (P' := Fr H) (fun _ _ f _ => pu8.back k08 f) (fun _ _ _ e => e) _ _ sha
    have hua := pu8.back k08 hua
    -- some
    refine take_ok (i := 0) rfl pu9 (by omega) (by decide) (by decide) (fun c1 G10 c0 c7 k10 pu10 => ⟨_, _, rfl, rfl, by show 3 ≤ sizeLine; decide, fun L hL => ?_⟩)
    have nL := pu10.ne hL
    refine take_ok (i := 0) rfl (pu10.of (upd_ne nL.symm)) (by omega) (by decide) (by decide) (fun u G11 u0 u1 k11 pu11 => ?_)
    obtain ⟨v, mv, ev⟩ := pick (xs := [V.int 1, .int 4, .int (1 + c1)]) u0 u1
    obtain ⟨e2, rfl, el, eh⟩ : ∃ c : Int, v = .int c ∧ 1 ≤ c ∧ c ≤ 4 := by
      simp only [List.mem_cons, List.not_mem_nil, or_false] at mv
      rcases mv with rfl | rfl | rfl
      · exact ⟨_, rfl, by decide, by decide⟩
      · exact ⟨_, rfl, by decide, by decide⟩
      · exact ⟨_, rfl, by omega, by omega⟩
    have k9b : Kp (· ≠ p) G9 G11 := fun a o na h => k11 a o na (same_new hL _ _ (k10 a o na h))
    have k011 : Kp (· ≠ p) H G11 := fun a o na h => k9b a o na (k09 a o na h)
    refine ⟨L, _, u, _, rfl, rfl, SqL.of (k11 _ _ nL upd_same), ev, ?_⟩
    clear mv ev hL nL k10 k11
    dsimp only [gName, tSeq, tAsg]
    refine anys_ok (K := K) (m := 5) (k := k) he (by omega) pu11 (by omega) (by omega) (by omega) (fun us xs ds_ G12 ls shs fs hus gus k12 pu12 => ?_)
    have k9c : Kp (· ≠ p) G9 G12 := fun a o na h => k12 a o na (k9b a o na h)
    have k012 : Kp (· ≠ p) H G12 := fun a o na h => k9c a o na (k09 a o na h)
    have shs := ShAll.on (P' := Fr H) (fun _ _ f _ => pu11.back k011 f) (fun _ _ _ e => e) _ _ shs
    have hus := pu11.back k011 hus
    have sha : ShAll G12 (Fr H) true xa da_ := ShAll.on (fun _ _ f _ => f) (fun a o f e => k9c a o (pu.ne f) e) _ _ sha
    have gua := k9c _ _ (pu.ne hua) gua
    have fit_mono' : ∀ d, fit 4 (2 * k + 2) d → fit 6 8 d := fun d h => fit_mono (by decide) d (by omega) h
    have ha : Sh G12 (Fr H) true (.ref ua) (.tuple da_) ∧ fit 6 9 (.tuple da_) ∧ sl (.tuple da_) ≤ 65180 := by
      refine ⟨.tup gua hua sha, fit_tup.mpr ⟨by omega, fun d m => fit_mono' d (fa d m).1.1⟩, ?_⟩
      have a := slA_le (n := S k) (l := da_) fun d m => (fa d m).1.2
      have b : (S k + 2) * da_.length ≤ (S k + 2) * 6 := Nat.mul_le_mul_left _ (by omega)
      rw [sl_tup]; omega
    have hs : Sh G12 (Fr H) true (.ref us) (.tuple ds_) ∧ fit 6 9 (.tuple ds_) ∧ sl (.tuple ds_) ≤ 65180 := by
      refine ⟨.tup gus hus shs, fit_tup.mpr ⟨by omega, fun d m => fit_mono' d (fs d m).1.1⟩, ?_⟩
      have a := slA_le (n := S k) (l := ds_) fun d m => (fs d m).1.2
      have b : (S k + 2) * ds_.length ≤ (S k + 2) * 6 := Nat.mul_le_mul_left _ (by omega)
      rw [sl_tup]; omega
    have en : sl (.str nde) ≤ 173 := slS (n := 17) nd.1.2
    have ta : ∀ x ∈ da_, termD x = true := fun x m => (fa x m).2
    have ts : ∀ x ∈ ds_, termD x = true := fun x m => (fs x m).2
    clear sha shs gua gus hua hus fa fs
    have fin : ∀ (G : Hp) (vs : List V) (ds : List PyData) (n' : Int), Kp (· ≠ p) H G → Purse G p n' → n' ≤ n + 8200 → ShAll G (Fr H) true vs ds → (∀ d ∈ ds, fit 6 9 d) → ds.length ≤ 6 → slA ds + 3 ≤ 77000 → ds ≠ [] → rightD (.tuple ds) = true → ∀ t, G t = none → Q (.ref t) (upd G t (.tup vs)) := fun G vs ds n' kG pG ln sh ft l4 sl' ne hR t ht =>
      q _ (.tuple ds) _ (.tup upd_same (pG.back kG ht) (shAll_same (same_new ht) sh)) (fit_tup.mpr ⟨l4, ft⟩) (by rw [sl_tup]; exact sl') ⟨ds, rfl, ne⟩ hR (fun a o na h => same_new ht _ _ (kG a o na h)) ((pG.of (upd_ne (pG.ne ht).symm)).mono ln)
    refine ⟨_, rfl, _, _, rfl, rfl, _, rfl, ite2 (fun _ => ?_) (fun _ => ?_)⟩
    · refine ⟨_, rfl, _, rfl, _, _, rfl, rfl, p, _, _, k + 1, rfl, by omega, by omega, pu12, by omega, fun v d G13 shv fv sv tv tm k13 pu13 => ?_⟩
      exact q _ d _ (sh_back pu12 k012 shv) (fit_mono (by decide) d (by omega) fv) (by omega) tv (term_right tm) (fun a o na h => k13 a o na (k012 a o na h)) (pu13.mono (by omega))
    refine ⟨_, rfl, rfl, _, rfl, ite2 (fun _ => ?_) (fun _ => ?_)⟩
    · refine ⟨_, rfl, _, rfl, _, rfl, by show 4 ≤ sizeLine; decide, fin G12 _ [.str "call", .str nde, .tuple da_, de] _ k012 pu12 (by omega) (.cons (.str _) (.cons (.str _) (.cons ha.1 (.cons (she _ _) .nil)))) (fitA_cons (fit_str.mpr (by decide +kernel)) (fitA_cons (nd_fit nd) (fitA_cons ha.2.1 (fitA_cons fe fitA_nil)))) (by show 4 ≤ 6; decide) ?_ (by simp) (r_call (d0 := .str nde) nd.2 ta (by omega) (by omega) ve)⟩
      have e1 : sl (.str "call") ≤ 43 := slS (n := 4) (by decide)
      have := ha.2.2
      rw [slA_cons, slA_cons, slA_cons, slA_cons, slA_nil]; omega
    refine ⟨_, rfl, rfl, _, rfl, ite2 (fun _ => ?_) (fun _ => ?_)⟩
    · refine ⟨_, rfl, _, rfl, _, rfl, by show 4 ≤ sizeLine; decide, fin G12 _ [.str "map", .str nde, .tuple ds_, de] _ k012 pu12 (by omega) (.cons (.str _) (.cons (.str _) (.cons hs.1 (.cons (she _ _) .nil)))) (fitA_cons (fit_str.mpr (by decide +kernel)) (fitA_cons (nd_fit nd) (fitA_cons hs.2.1 (fitA_cons fe fitA_nil)))) (by show 4 ≤ 6; decide) ?_ (by simp) (r_map (d0 := .str nde) nd.2 ts (by omega) (by omega) ve)⟩
      have e1 : sl (.str "map") ≤ 33 := slS (n := 3) (by decide)
      have := hs.2.2
      rw [slA_cons, slA_cons, slA_cons, slA_cons, slA_nil]; omega
    refine ⟨_, rfl, rfl, _, rfl, ite2 (fun _ => ?_) (fun _ => ?_)⟩
    · refine ⟨_, rfl, _, rfl, _, rfl, p, _, _, k, rfl, he, by omega, pu12, by omega, fun v d G13 shv fv sv tv tm k13 pu13 => ⟨_, rfl, _, rfl, by show 5 ≤ sizeLine; decide, fin G13 _ [.str "fold", .str nde, d, .tuple ds_, de] _ (fun a o na h => k13 a o na (k012 a o na h)) pu13 (by omega) (.cons (.str _) (.cons (.str _) (.cons (sh_back pu12 k012 shv) (.cons (sh_step pu k13 hs.1) (.cons (she _ _) .nil))))) (fitA_cons (fit_str.mpr (by decide +kernel)) (fitA_cons (nd_fit nd) (fitA_cons (fit_mono (by decide) d (by omega) fv) (fitA_cons hs.2.1 (fitA_cons fe fitA_nil))))) (by show 5 ≤ 6; decide) ?_ (by simp) (r_fold (d0 := .str nde) nd.2 tm ts (by omega) (by omega) ve)⟩⟩
      have e1 : sl (.str "fold") ≤ 43 := slS (n := 4) (by decide)
      have := hs.2.2
      rw [slA_cons, slA_cons, slA_cons, slA_cons, slA_cons, slA_nil]; omega
    · refine ⟨_, rfl, _, rfl, _, rfl, p, _, _, k, rfl, he, by omega, pu12, by omega, fun v d G13 shv fv sv tv tm k13 pu13 => ⟨_, rfl, by show 4 ≤ sizeLine; decide, fin G13 _ [.str "pairs", .str nde, d, de] _ (fun a o na h => k13 a o na (k012 a o na h)) pu13 (by omega) (.cons (.str _) (.cons (.str _) (.cons (sh_back pu12 k012 shv) (.cons (she _ _) .nil)))) (fitA_cons (fit_str.mpr (by decide +kernel)) (fitA_cons (nd_fit nd) (fitA_cons (fit_mono (by decide) d (by omega) fv) (fitA_cons fe fitA_nil)))) (by show 4 ≤ 6; decide) ?_ (by simp) (r_pairs (d0 := .str nde) nd.2 tm ve)⟩⟩
      have e1 : sl (.str "pairs") ≤ 53 := slS (n := 5) (by decide)
      rw [slA_cons, slA_cons, slA_cons, slA_cons, slA_nil]; omega
end
end K5
end Bf

namespace Bf
open PySem PySem.Spec PyProof.Rows L2
/-! ### each once, in their first order -/
def addS (acc : List Str) (z : Str) : List Str := if z ∈ acc then acc else acc ++ [z]
def onceS (l : List Str) : List Str := l.foldl addS []
def mkT (acc : List Str) : List (Key × V) := acc.map fun z => (.inr z, .bl true)
theorem mkT_any (acc : List Str) (z : Str) : ((mkT acc).any fun kv => decide (kv.1 = (.inr z : Key))) = decide (z ∈ acc) := by
  induction acc with
  | nil => rfl
  | cons a r ih =>
    show (decide ((.inr a : Key) = .inr z) || (mkT r).any _) = _
    rw [ih, key_rr]
    by_cases e : a = z
    · subst e
      rw [decide_eq_true rfl, decide_eq_true List.mem_cons_self]
      rfl
    · rw [decide_eq_false e, Bool.false_or]
      by_cases m : z ∈ r
      · rw [decide_eq_true m, decide_eq_true (List.mem_cons_of_mem _ m)]
      · rw [decide_eq_false m, decide_eq_false fun k => (List.mem_cons.mp k).elim (fun q => e q.symm) m]
theorem putK_mkT (acc : List Str) (z : Str) : putK (mkT acc) (.inr z) (.bl true) = mkT (addS acc z) := by
  unfold putK addS
  rw [mkT_any]
  by_cases m : z ∈ acc
  · rw [if_pos (decide_eq_true m), if_pos m]
    unfold mkT
    rw [List.map_map]
    refine List.map_congr_left fun a _ => ?_
    show (if (.inr a : Key) = .inr z then ((.inr a : Key), V.bl true) else (.inr a, .bl true)) = _
    split <;> rfl
  · rw [if_neg (by rw [decide_eq_false m]; exact Bool.false_ne_true), if_neg m]
    unfold mkT
    rw [List.map_append]
    rfl
theorem addS_len (acc : List Str) (z : Str) : (addS acc z).length ≤ acc.length + 1 := by
  unfold addS
  split
  · omega
  · rw [List.length_append, List.length_singleton]; omega
theorem foldS_len : ∀ (l acc : List Str), (l.foldl addS acc).length ≤ acc.length + l.length
  | [], acc => by rw [List.foldl_nil, List.length_nil]; omega
  | z :: r, acc => by
    rw [List.foldl_cons, List.length_cons]
    have := foldS_len r (addS acc z)
    have := addS_len acc z
    omega
theorem onceS_len (l : List Str) : (onceS l).length ≤ l.length := by
  have := foldS_len l []
  rw [List.length_nil] at this
  unfold onceS
  omega
theorem foldS_snoc (l : List Str) (z : Str) : onceS (l ++ [z]) = addS (onceS l) z := by
  unfold onceS
  rw [List.foldl_append]
  rfl
theorem foldS_mem : ∀ (l acc : List Str) (z : Str), z ∈ l.foldl addS acc ↔ z ∈ acc ∨ z ∈ l
  | [], acc, z => by simp
  | y :: r, acc, z => by
    rw [List.foldl_cons, foldS_mem r (addS acc y) z]
    unfold addS
    split
    · rename_i m
      constructor
      · rintro (h | h)
        · exact .inl h
        · exact .inr (List.mem_cons_of_mem _ h)
      · rintro (h | h)
        · exact .inl h
        · rcases List.mem_cons.mp h with rfl | h
          · exact .inl m
          · exact .inr h
    · constructor
      · rintro (h | h)
        · rcases List.mem_append.mp h with h | h
          · exact .inl h
          · exact .inr (List.mem_cons.mpr (.inl (List.mem_singleton.mp h)))
        · exact .inr (List.mem_cons_of_mem _ h)
      · rintro (h | h)
        · exact .inl (List.mem_append.mpr (.inl h))
        · rcases List.mem_cons.mp h with rfl | h
          · exact .inl (List.mem_append.mpr (.inr List.mem_cons_self))
          · exact .inr h
theorem onceS_mem (l : List Str) (z : Str) : z ∈ onceS l ↔ z ∈ l := by
  unfold onceS
  rw [foldS_mem]
  simp
namespace K5
section
variable {P : Program} {w : World} {K : PySem.W.Frag} {mg : Str → Option Value} {base : Heap}
def spOnce (K : PySem.W.Frag) : Sp := fun vs H Q _ => ∃ (a : Addr) (ss : List Str), vs = [.ref a] ∧ SqL K H a (ss.map V.str) ∧ ss.length ≤ 2000000 ∧ ∀ p H', Same H H' → H p = none → H' p = some (.lst ((onceS ss).map V.str)) → Q (.ref p) H'
theorem scOnce : FnScope ["names", "name"] ["names"] (defScope sOnce) := ⟨rfl, rfl, rfl, by decide +kernel, rfl, by decide +kernel, by decide +kernel⟩
theorem ok_once {f : Addr} {fd : FuncData} (F : Fun K "_each_once" "_each_once" sOnce f fd) (mL : mg "list" = none) : FnOk P w K mg base CX0 1 f fd ["names"] (spOnce K) := by
  refine F.ok scOnce (fun vs H Q E h => ?_) (fun cdv A outer s H vs Q E hr h => ?_)
  · obtain ⟨a, ss, rfl, _⟩ := h
    rfl
  · obtain ⟨a, ss, rfl, hS, hz, q⟩ := h
    refine ⟨_, pss_one (ps_ret (pe_callTy (call_list_dK rfl) (by rfl) mL (by decide +kernel) (pa_cons (pe_dc (own := [("name", 1)]) (g := gName 1) (tt := tYes) rfl scOnce.nd (pi_list (pv 0)) (blkOk_by (N := ["names", "name"]) (sc := defScope sOnce) (by decide +kernel))
            (fun _ _ _ _ _ => pg_name (i := 1) scOnce.nd rfl (Or.inl rfl)) (fun _ _ _ _ _ => pts_nil) (fun _ _ _ _ _ => pv 1) (fun _ _ _ _ _ => pe_bl)) pa_nil))), ?_⟩
    refine ⟨_, rfl, a, rfl, ⟨_, hS⟩, fun D hD => dc_list (K := K) (a := a) (xs := ss.map V.str) (fun i H' => Same H H' ∧ H' D = some (.dK (mkT (onceS (ss.take i))))) ⟨same_new hD, upd_same⟩
            (fun i H' _ pv => Same.seq pv.1 hS) (fun i y H' hy pv => ?_) fun H' pv => ?_⟩
    · rw [List.getElem?_map] at hy
      cases hj : ss[i]? with
      | none => rw [hj] at hy; cases hy
      | some z =>
        rw [hj] at hy
        cases hy
        have hi := (List.getElem?_eq_some_iff.mp hj).1
        have l1 := onceS_len (ss.take i)
        rw [List.length_take] at l1
        refine ⟨rfl, _, rfl, _, .inr z, rfl, pv.2, by unfold mkT; rw [List.length_map, sizeLine_eq]; omega, fun b o e => ?_, ?_⟩
        · rw [upd_ne (ne_of_none e hD)]
          exact pv.1 _ _ e
        · rw [upd_same, putK_mkT, List.take_add_one, hj]
          show _ = some (HO.dK (mkT (onceS (ss.take i ++ [z]))))
          rw [foldS_snoc]
    · rw [List.length_map, List.take_length] at pv
      refine ⟨D, _, rfl, pv.2, fun p hp => ?_⟩
      have e : ((mkT (onceS ss)).map fun kv => kV kv.1) = (onceS ss).map V.str := by
        unfold mkT
        rw [List.map_map]
        rfl
      rw [e]
      exact q p _ (same_trans_new pv.1 hp) (none_back pv.1 hp) upd_same
end
end K5
end Bf

namespace Bf
open PySem PySem.Spec PyProof.Rows L2
theorem decS {a b : Str} (h : decide (V.str a = V.str b) = true) : a = b := by
  have z := of_decide_eq_true h
  injection z
theorem decN {a b : Str} (h : ¬ decide (V.str a = V.str b) = true) : a ≠ b := fun e => h (by rw [e]; exact decide_eq_true rfl)
namespace K5
/-! ### parts are terms, and not many -/
theorem part_term : ∀ (n : Nat) (d : PyData), sz d ≤ n → termD d = true → ∀ e ∈ partD d, termD e = true
  | 0, d, h, _ => absurd h (by have := sz_pos d; omega)
  | n + 1, d, h, t => by
    intro e m
    rw [partD_eq] at m
    rcases List.mem_cons.mp m with rfl | m
    · exact t
    · obtain ⟨l, ml, me⟩ := List.mem_flatten.mp m
      obtain ⟨x, mx, rfl⟩ := List.mem_map.mp ml
      have ws := within_sz d
      have := szA_mem mx
      exact part_term n x (by omega) ((term_inv t).2.2 x mx) e me
theorem right_nocall {d : PyData} (h : rightD d = true) (c : callX d = false) : termD d = true := by
  obtain ⟨a, b⟩ := right_inv h
  rw [termD_eq, a, c, List.all_eq_true.mpr b]
  rfl
theorem parts_term {d : PyData} (h : rightD d = true) : ∀ e ∈ partsD d, termD e = true := by
  intro e m
  unfold partsD at m
  split at m
  · obtain ⟨l, ml, me⟩ := List.mem_flatten.mp m
    obtain ⟨x, mx, rfl⟩ := List.mem_map.mp ml
    exact part_term _ x (Nat.le_refl _) ((right_inv h).2 x mx) e me
  · rename_i c
    exact part_term _ d (Nat.le_refl _) (right_nocall h (by simpa using c)) e m
theorem flat_le : ∀ l : List PyData, ((l.map partD).flatten).length ≤ szA l
  | [] => Nat.zero_le _
  | d :: r => by
    rw [List.map_cons, List.flatten_cons, List.length_append, szA_cons]
    have := partD_le (sz d) d (Nat.le_refl _)
    have := flat_le r
    omega
theorem parts_le (d : PyData) : (partsD d).length ≤ sz d := by
  unfold partsD
  split
  · have := flat_le (withinD d)
    have := within_sz d
    omega
  · exact partD_le (sz d) d (Nat.le_refl _)
/-! ### names that stand in a term, and as every -/
def strAt (l : List PyData) (i : Nat) : List Str := match l[i]? with
  | some (.str z) => [z]
  | _ => []
def nmP : PyData → List Str
  | .tuple (.str c :: rest) => if (decide (V.str c = V.str "name") || decide (V.str c = V.str "merge")) = true then strAt rest 0 else if decide (V.str c = V.str "when") = true then strAt rest 1 else []
  | _ => []
def evS (rest : List PyData) : List Str := strAt rest (rest.length - 1)
def evD (d : PyData) : List Str := if callX d = true then match d with
    | .tuple (_ :: rest) => evS rest
    | _ => []
  else []
def namesD (d : PyData) : List Str := ((partsD d).map nmP).flatten ++ evD d
def lsP : PyData → List Str
  | .tuple (.str c :: rest) => if decide (V.str c = V.str "last") = true then strAt rest 0 else []
  | _ => []
def lastsD (d : PyData) : List Str := ((partsD d).map lsP).flatten
def fsP : PyData → Bool
  | .tuple (.str c :: _) => decide (V.str c = V.str "first")
  | _ => false
def firstsD (d : PyData) : Nat := ((partsD d).filter fsP).length
theorem nmP_tup (c : Str) (rest : List PyData) : nmP (.tuple (.str c :: rest)) = if (decide (V.str c = V.str "name") || decide (V.str c = V.str "merge")) = true then strAt rest 0 else if decide (V.str c = V.str "when") = true then strAt rest 1 else [] := rfl
theorem lsP_tup (c : Str) (rest : List PyData) : lsP (.tuple (.str c :: rest)) = if decide (V.str c = V.str "last") = true then strAt rest 0 else [] := rfl
theorem strAt_len (l : List PyData) (i : Nat) : (strAt l i).length ≤ 1 := by
  unfold strAt
  split <;> simp
theorem nmP_len (d : PyData) : (nmP d).length ≤ 1 := by
  unfold nmP
  split
  · split
    · exact strAt_len _ _
    · split
      · exact strAt_len _ _
      · simp
  · simp
theorem lsP_len (d : PyData) : (lsP d).length ≤ 1 := by
  unfold lsP
  split
  · split
    · exact strAt_len _ _
    · simp
  · simp
theorem slot_name {c : Str} {rest : List PyData} {ss : List Str} {i : Nat} (h : formedD (.tuple (.str c :: rest)) = true) (e : lk c FM = some ss) (hi : ss[i]? = some "name") : ∃ z, rest[i]? = some (.str z) ∧ nameS z = true := by
  obtain ⟨c', rest', ss', ed, el, hl, hf, _⟩ := formed_inv h
  cases ed
  rw [e] at el
  cases el
  have lt := (List.getElem?_eq_some_iff.mp hi).1
  have ey : rest[i]? = some rest[i] := List.getElem?_eq_getElem (by omega)
  have zg := zw_get fitsD hi ey
  have fy : fitsD "name" rest[i] = true := (List.all_eq_true.mp hf) _ (List.mem_of_getElem? zg)
  rw [fits_name] at fy
  cases z : rest[i] with
  | str y => rw [z] at fy ey; exact ⟨y, ey, fy⟩
  | _ => rw [z] at fy; cases fy
/-! ### the forms, word by word -/
theorem fm_lit : lk ("lit" : Str) FM = some (["kind", "worth"] : List Str) := by decide +kernel
theorem fm_name : lk ("name" : Str) FM = some (["name"] : List Str) := by decide +kernel
theorem fm_last : lk ("last" : Str) FM = some (["name"] : List Str) := by decide +kernel
theorem fm_first : lk ("first" : Str) FM = some (["term", "term"] : List Str) := by decide +kernel
theorem fm_not : lk ("not" : Str) FM = some (["term"] : List Str) := by decide +kernel
theorem fm_and : lk ("and" : Str) FM = some (["term", "term"] : List Str) := by decide +kernel
theorem fm_or : lk ("or" : Str) FM = some (["term", "term"] : List Str) := by decide +kernel
theorem fm_xor : lk ("xor" : Str) FM = some (["term", "term"] : List Str) := by decide +kernel
theorem fm_add : lk ("add" : Str) FM = some (["term", "term"] : List Str) := by decide +kernel
theorem fm_sub : lk ("sub" : Str) FM = some (["term", "term"] : List Str) := by decide +kernel
theorem fm_less : lk ("less" : Str) FM = some (["term", "term"] : List Str) := by decide +kernel
theorem fm_same : lk ("same" : Str) FM = some (["term", "term"] : List Str) := by decide +kernel
theorem fm_wide : lk ("wide" : Str) FM = some (["width", "term"] : List Str) := by decide +kernel
theorem fm_bit : lk ("bit" : Str) FM = some (["bit", "term"] : List Str) := by decide +kernel
theorem fm_pick : lk ("pick" : Str) FM = some (["term", "term", "term"] : List Str) := by decide +kernel
theorem fm_when : lk ("when" : Str) FM = some (["term", "name", "truth"] : List Str) := by decide +kernel
theorem fm_merge : lk ("merge" : Str) FM = some (["name", "term", "term"] : List Str) := by decide +kernel
theorem fm_row : lk ("row" : Str) FM = some (["parts"] : List Str) := by decide +kernel
theorem fm_at : lk ("at" : Str) FM = some (["place", "term"] : List Str) := by decide +kernel
theorem fm_call : lk ("call" : Str) FM = some (["node", "args", "every"] : List Str) := by decide +kernel
theorem fm_map : lk ("map" : Str) FM = some (["node", "rows", "every"] : List Str) := by decide +kernel
theorem fm_fold : lk ("fold" : Str) FM = some (["node", "term", "rows", "every"] : List Str) := by decide +kernel
theorem fm_pairs : lk ("pairs" : Str) FM = some (["node", "term", "every"] : List Str) := by decide +kernel
theorem w_name {rest : List PyData} (h : formedD (.tuple (.str "name" :: rest)) = true) : ∃ z, rest[0]? = some (.str z) ∧ nameS z = true := slot_name h fm_name rfl
theorem w_last {rest : List PyData} (h : formedD (.tuple (.str "last" :: rest)) = true) : ∃ z, rest[0]? = some (.str z) ∧ nameS z = true := slot_name h fm_last rfl
theorem w_merge {rest : List PyData} (h : formedD (.tuple (.str "merge" :: rest)) = true) : ∃ z, rest[0]? = some (.str z) ∧ nameS z = true := slot_name h fm_merge rfl
theorem w_when {rest : List PyData} (h : formedD (.tuple (.str "when" :: rest)) = true) : ∃ z, rest[1]? = some (.str z) ∧ nameS z = true := slot_name h fm_when rfl
theorem strAt_eq {l : List PyData} {i : Nat} {z : Str} (h : l[i]? = some (.str z)) : strAt l i = [z] := by
  unfold strAt
  rw [h]
theorem Da_at {H : Hp} {v : V} {c : Str} {rest : List PyData} (da : Da H v (.tuple (.str c :: rest))) : ∃ a vs, v = .ref a ∧ H a = some (.tup (.str c :: vs)) ∧ DaAll H vs rest ∧ vs.length ≤ 1000 := by
  obtain ⟨a, xs, rfl, h, l, r⟩ := da.tup_inv
  cases r with
  | cons h1 r1 =>
    cases h1
    exact ⟨a, _, rfl, h, r1, by rw [List.length_cons] at l; omega⟩
theorem call_words {c : Str} (h : callS c = true) : c = "call" ∨ c = "map" ∨ c = "fold" ∨ c = "pairs" := by
  obtain ⟨y, my, ey⟩ := List.any_eq_true.mp h
  have q : ∀ z : Str, y = .str z → z = c := fun z e => by
    rw [e] at ey
    exact eq_of_beq ey
  obtain ⟨z, mz, rfl⟩ := List.mem_map.mp my
  have e := q z rfl
  subst e
  simp only [CL, List.mem_cons, List.not_mem_nil, or_false] at mz
  exact mz
theorem ev_inv {c : Str} {rest : List PyData} (h : formedD (.tuple (.str c :: rest)) = true) (hc : callS c = true) : 1 ≤ rest.length ∧ (rest[rest.length - 1]? = some .none ∨ ∃ z, rest[rest.length - 1]? = some (.str z) ∧ nameS z = true) := by
  obtain ⟨c', rest', ss, ed, el, hl, hf, _⟩ := formed_inv h
  cases ed
  have hs : 1 ≤ ss.length ∧ ss[ss.length - 1]? = some "every" := by
    rcases call_words hc with rfl | rfl | rfl | rfl
    · rw [fm_call] at el; cases el; exact ⟨by decide, rfl⟩
    · rw [fm_map] at el; cases el; exact ⟨by decide, rfl⟩
    · rw [fm_fold] at el; cases el; exact ⟨by decide, rfl⟩
    · rw [fm_pairs] at el; cases el; exact ⟨by decide, rfl⟩
  refine ⟨by omega, ?_⟩
  have lt : rest.length - 1 < rest.length := by omega
  have ey : rest[rest.length - 1]? = some rest[rest.length - 1] := List.getElem?_eq_getElem lt
  have es : ss[rest.length - 1]? = some "every" := by rw [hl]; exact hs.2
  have zg := zw_get fitsD es ey
  have fy : fitsD "every" rest[rest.length - 1] = true := (List.all_eq_true.mp hf) _ (List.mem_of_getElem? zg)
  rw [fits_every] at fy
  cases z : rest[rest.length - 1] with
  | none => rw [z] at ey; exact .inl ey
  | str y => rw [z] at fy ey; exact .inr ⟨y, ey, fy⟩
  | _ => rw [z] at fy; cases fy
theorem evD_tup (c : Str) (rest : List PyData) : evD (.tuple (.str c :: rest)) = if callS c = true then strAt rest (rest.length - 1) else [] := rfl
end K5
theorem at_last {xs : List V} {v : V} (h : xs[xs.length - 1]? = some v) : atI xs (-1) = some v := by
  have l0 : 0 < xs.length := by
    cases xs with
    | nil => cases h
    | cons _ _ => simp
  unfold atI ixN
  rw [if_neg (by decide)]
  have e : (-1 + (xs.length : Int)).toNat = xs.length - 1 := by omega
  first
    | (rw [if_pos (by omega)]; show xs[_]? = _; rw [e]; exact h)
    | simp [h]
end Bf

namespace Bf
open PySem PySem.Spec PyProof.Rows L2
namespace K5
section
variable {P : Program} {w : World} {K : PySem.W.Frag} {mg : Str → Option Value} {base : Heap}
/-- what these defs call -/
structure Nmd (P : Program) (w : World) (K : PySem.W.Frag) (mg : Str → Option Value) (base : Heap) (cT fn fp fc fo : Addr) (dn dp dc do_ : FuncData) : Prop where
  Dn : Df K mg "_need_right" fn dn ["thing"]
  Gn : FnOk P w K mg base (CXL P w) 9 fn dn ["thing"] (spNeed cT)
  Dp : Df K mg "_parts" fp dp ["right"]
  Gp : FnOk P w K mg base CX0 3 fp dp ["right"] spParts
  Dc : Df K mg "is_call" fc dc ["right"]
  Gc : FnOk P w K mg base CX0 2 fc dc ["right"] spCall
  Do : Df K mg "_each_once" fo do_ ["names"]
  Go : FnOk P w K mg base CX0 1 fo do_ ["names"] (spOnce K)
  ml : mg "len" = none
/-- a refusal, or a list of names -/
def spNames (cT : Addr) (g : PyData → List Str) : Sp := fun vs H Q E => ∃ (x : V) (d : PyData) (Hs : Hp), vs = [x] ∧ Same Hs H ∧ Da Hs x d ∧ sz d ≤ 900000 ∧ ((rightD d = false ∧ Refuses cT x H E) ∨ (rightD d = true ∧ ∀ p H', Same H H' → H p = none → H' p = some (.lst ((onceS (g d)).map V.str)) → Q (.ref p) H'))
theorem flat_len {g : PyData → List Str} (h : ∀ d, (g d).length ≤ 1) : ∀ l : List PyData, ((l.map g).flatten).length ≤ l.length
  | [] => Nat.le_refl _
  | d :: r => by
    rw [List.map_cons, List.flatten_cons, List.length_append, List.length_cons]
    have := h d
    have := flat_len h r
    omega
/-! ### names_in -/
abbrev nNamesIn : List Str := ["right", "names", "part"]
theorem scNamesIn : FnScope nNamesIn ["right"] (defScope sNamesIn) := ⟨rfl, rfl, rfl, by decide +kernel, rfl, by decide +kernel, by decide +kernel⟩
theorem ok_namesIn {f cT fn fp fc fo : Addr} {fd dn dp dc do_ : FuncData} (F : Fun K "names_in" "names_in" sNamesIn f fd) (N : Nmd P w K mg base cT fn fp fc fo dn dp dc do_) : FnOk P w K mg base (CXL P w) 10 f fd ["right"] (spNames cT namesD) := by
  refine F.okX scNamesIn (fun vs H Q E h => ?_) (fun cdv A outer s H vs Q E hr h => ?_)
  · obtain ⟨x, d, Hs, rfl, _⟩ := h
    rfl
  · obtain ⟨x, d, Hs, rfl, sH, da, hz, q⟩ := h
    have hr3 := hr.mono (by decide : 3 ≤ 9)
    have hr2 := hr.mono (by decide : 2 ≤ 9)
    have hr1 := hr.mono (by decide : 1 ≤ 9)
    refine ⟨_, (pss_cons (ps_expr (pe_call (E := E) N.Gn hr (by rfl) N.Dn.at_ N.Dn.kp N.Dn.bd .nil (passes_call (takes_of rfl rfl rfl rfl) (fun _ _ _ _ h => h)) (pa_cons (pv 0) pa_nil)))
        (pss_cons (ps_set (i := 1) scNamesIn.nd rfl (Or.inl rfl) (pe_lst pa_nil))
        (pss_cons (ps_for PassesOwn.leaving rfl (pi_list (pe_call N.Gp hr3 (by rfl) N.Dp.at_ N.Dp.kp N.Dp.bd .nil pass0 (pa_cons (pv 0) pa_nil))) (pg_name (i := 2) scNamesIn.nd rfl (Or.inl rfl)) (pss_one (ps_if (PW.pt (pw_or (pt_cmpR op_eq (pe_ix ix_tup (pv 2) pe_int (fun _ _ => rfl)) pe_str (nomark _)) (pw_or1 (pt_cmpR op_eq (pe_ix ix_tup (pv 2) pe_int (fun _ _ => rfl)) pe_str (nomark _))))) (pss_one (ps_expr (pe_bm PySem.F.plainAttrs_list PySem.F.slot_list_append PySem.F.type_list_append mt_append (pv 1) (pa_cons (pe_ix ix_tup (pv 2) pe_int (fun _ _ => rfl)) pa_nil)))) (pss_one (ps_if (pt_cmpR op_eq (pe_ix ix_tup (pv 2) pe_int (fun _ _ => rfl)) pe_str (nomark _)) (pss_one (ps_expr (pe_bm PySem.F.plainAttrs_list PySem.F.slot_list_append PySem.F.type_list_append mt_append (pv 1) (pa_cons (pe_ix ix_tup (pv 2) pe_int (fun _ _ => rfl)) pa_nil)))) pss_nil)))))
        (pss_cons (ps_if (PW.pt (pw_and (pt_val (pe_call N.Gc hr2 (by rfl) N.Dc.at_ N.Dc.kp N.Dc.bd .nil pass0 (pa_cons (pv 0) pa_nil))) (pw_and1 (pt_cmpR op_notN (pe_ix ix_tup (pv 0) (pe_un un_neg pe_int) (fun _ _ => rfl)) pe_non (nomark _))))) (pss_one (ps_expr (pe_bm PySem.F.plainAttrs_list PySem.F.slot_list_append PySem.F.type_list_append mt_append (pv 1) (pa_cons (pe_ix ix_tup (pv 0) (pe_un un_neg pe_int) (fun _ _ => rfl)) pa_nil)))) pss_nil)
        (pss_one (ps_ret (pe_call N.Go hr1 (by rfl) N.Do.at_ N.Do.kp N.Do.bd .nil pass0 (pa_cons (pv 1) pa_nil)))))))), ?_⟩
    refine ⟨_, rfl, x, d, rfl, da.same sH, hz, ?_⟩
    rcases q with ⟨e, q⟩ | ⟨e, q⟩
    · exact .inl ⟨e, q⟩
    refine .inr ⟨e, fun H1 s1 => ⟨by show 0 ≤ sizeLine; decide, fun W hW => ?_⟩⟩
    dsimp only [gName]
    have hWH := none_back s1 hW
    have sW : Same H (upd H1 W (.lst [])) := same_trans_new s1 hW
    refine ⟨_, rfl, x, d, Hs, rfl, sH.trans sW, da, hz, e, fun p H2 xs s2 hp gp rx => ⟨p, rfl, ⟨xs, SqL.of gp⟩, ?_⟩⟩
    have nWp : W ≠ p := fun z => by rw [← z, upd_same] at hp; cases hp
    have lx := rx.len
    have lp := parts_le d
    have pt := parts_term e
    refine for_list (K := K) (a := p) (xs := xs) (fun i σ G => ∃ u, σ = [some x, some (.ref W), u] ∧ Same H G ∧ G p = some (.lst xs) ∧ G W = some (.lst (((((partsD d).take i).map nmP).flatten).map V.str)))
      ⟨_, rfl, sW.trans s2, gp, s2 _ _ upd_same⟩ (fun i σ G _ pv => ?_) (fun i y σ G hy pv => ?_) fun σ G pv => ?_
    · obtain ⟨_, _, _, h, _⟩ := pv
      exact SqL.of h
    · obtain ⟨u, rfl, sG, gG, gW⟩ := pv
      obtain ⟨e1, he1, day⟩ := rx.get hy
      have hi := (List.getElem?_eq_some_iff.mp hy).1
      obtain ⟨f1, c1, _⟩ := term_inv (pt e1 (List.mem_of_getElem? he1))
      obtain ⟨c, rest, ss, rfl, el, hl, hf, _⟩ := formed_inv f1
      obtain ⟨a, vs, rfl, ha, rv, lv⟩ := Da_at day
      have ha' : G a = some (.tup (.str c :: vs)) := sG _ _ (sH _ _ ha)
      have st : ((((partsD d).take (i + 1)).map nmP).flatten) = ((((partsD d).take i).map nmP).flatten) ++ nmP (.tuple (.str c :: rest)) := by
        rw [List.take_add_one, he1, List.map_append, List.flatten_append]
        show _ ++ (nmP _ :: []).flatten = _
        rw [List.flatten_cons, List.flatten_nil, List.append_nil]
      have lW : (((((partsD d).take i).map nmP).flatten).map V.str).length < sizeLine := by
        have := flat_len nmP_len ((partsD d).take i)
        rw [List.length_take] at this
        rw [List.length_map, sizeLine_eq]
        omega
      have keep : ∀ ys, Same H (upd G W (.lst ys)) := fun ys b o h => by
        rw [upd_ne (ne_of_none h hWH)]
        exact sG _ _ h
      have none_ : nmP (.tuple (.str c :: rest)) = [] → ∃ u', [some x, some (V.ref W), some (.ref a)] = [some x, some (.ref W), u'] ∧ Same H G ∧ G p = some (.lst xs) ∧ G W = some (.lst (((((partsD d).take (i + 1)).map nmP).flatten).map V.str)) := fun z => by
        refine ⟨_, rfl, sG, gG, ?_⟩
        rw [st, z, List.append_nil]
        exact gW
      have some_ : ∀ z, nmP (.tuple (.str c :: rest)) = [z] → ∃ u', [some x, some (V.ref W), some (.ref a)] = [some x, some (.ref W), u'] ∧ Same H (upd G W (.lst (((((partsD d).take i).map nmP).flatten).map V.str ++ [.str z]))) ∧ upd G W (.lst (((((partsD d).take i).map nmP).flatten).map V.str ++ [.str z])) p = some (.lst xs) ∧
          upd G W (.lst (((((partsD d).take i).map nmP).flatten).map V.str ++ [.str z])) W = some (.lst (((((partsD d).take (i + 1)).map nmP).flatten).map V.str)) := fun z ez => by
        refine ⟨_, rfl, keep _, ?_, ?_⟩
        · rw [upd_ne nWp.symm]; exact gG
        · rw [upd_same, st, ez, List.map_append]; rfl
      dsimp only [gName]
      -- part[0] == 'name' or part[0] == 'merge'
      refine ⟨_, rfl, a, _, ((0 : Nat) : Int), _, rfl, rfl, SqT.of ha', atI_nat rfl, rfl, _, rfl, ?_⟩
      have name_ : ∀ (j : Nat) (z : Str), rest[j]? = some (.str z) → ∃ y : V, (V.str c :: vs)[j + 1]? = some y ∧ y = .str z := fun j z ez => by
        obtain ⟨y, ey, dy⟩ := rv.getD ez
        refine ⟨y, ?_, dy.str_inv⟩
        rw [List.getElem?_cons_succ]
        exact ey
      by_cases h1 : decide (V.str c = V.str "name") = true
      · rw [h1]
        refine iteT (iteT ?_)
        have ec := decS h1
        subst ec
        obtain ⟨z, hz0, _⟩ := w_name f1
        obtain ⟨y, ey, rfl⟩ := name_ 0 z hz0
        refine ⟨_, rfl, .inl ⟨rfl, _, SqL.of gW⟩, _, rfl, a, _, ((1 : Nat) : Int), _, rfl, rfl, SqT.of ha', atI_nat ey, ?_⟩
        refine ⟨W, _, _, rfl, rfl, gW, lW, some_ z ?_⟩
        rw [nmP_tup, if_pos (by rw [h1]; rfl), strAt_eq hz0]
      rw [Bool.eq_false_iff.mpr h1]
      refine iteF ⟨_, rfl, a, _, ((0 : Nat) : Int), _, rfl, rfl, SqT.of ha', atI_nat rfl, rfl, _, rfl, ?_⟩
      by_cases h2 : decide (V.str c = V.str "merge") = true
      · rw [h2]
        refine iteT ?_
        have ec := decS h2
        subst ec
        obtain ⟨z, hz0, _⟩ := w_merge f1
        obtain ⟨y, ey, rfl⟩ := name_ 0 z hz0
        refine ⟨_, rfl, .inl ⟨rfl, _, SqL.of gW⟩, _, rfl, a, _, ((1 : Nat) : Int), _, rfl, rfl, SqT.of ha', atI_nat ey, ?_⟩
        refine ⟨W, _, _, rfl, rfl, gW, lW, some_ z ?_⟩
        rw [nmP_tup, if_pos (by rw [h2, Bool.or_true]), strAt_eq hz0]
      rw [Bool.eq_false_iff.mpr h2]
      have hn : ¬ (decide (V.str c = V.str "name") || decide (V.str c = V.str "merge")) = true := by
        rw [Bool.eq_false_iff.mpr h1, Bool.eq_false_iff.mpr h2]
        exact Bool.false_ne_true
      refine iteF ⟨_, rfl, a, _, ((0 : Nat) : Int), _, rfl, rfl, SqT.of ha', atI_nat rfl, rfl, _, rfl, ?_⟩
      by_cases h3 : decide (V.str c = V.str "when") = true
      · rw [h3]
        refine iteT ?_
        have ec := decS h3
        subst ec
        obtain ⟨z, hz0, _⟩ := w_when f1
        obtain ⟨y, ey, rfl⟩ := name_ 1 z hz0
        refine ⟨_, rfl, .inl ⟨rfl, _, SqL.of gW⟩, _, rfl, a, _, ((2 : Nat) : Int), _, rfl, rfl, SqT.of ha', atI_nat ey, ?_⟩
        refine ⟨W, _, _, rfl, rfl, gW, lW, some_ z ?_⟩
        rw [nmP_tup, if_neg hn, if_pos h3, strAt_eq hz0]
      · rw [Bool.eq_false_iff.mpr h3]
        refine iteF (none_ ?_)
        rw [nmP_tup, if_neg hn, if_neg h3]
    · obtain ⟨u, rfl, sG, gG, gW⟩ := pv
      have lx' : xs.length = (partsD d).length := lx
      rw [lx', List.take_length] at gW
      obtain ⟨fo, _⟩ := right_inv e
      obtain ⟨c, rest, ss, ed, el, hl, hf, _⟩ := formed_inv fo
      have cx : callX d = callS c := by rw [ed]; rfl
      have l1 := flat_len nmP_len (partsD d)
      have fin : ∀ (ys : List Str) (G2 : Hp), Same H G2 → G2 W = some (.lst (ys.map V.str)) → ys = namesD d → ys.length ≤ 2000000 → spOnce K (V.ref W :: []) G2 Q E0 := fun ys G2 s2 g2 ey ly =>
        ⟨W, ys, rfl, SqL.of g2, ly, fun p' H' s' hp' gp' => q p' H' (s2.trans s') (none_back s2 hp') (by rw [← ey]; exact gp')⟩
      refine ⟨_, rfl, x, c, rest, rfl, by rw [← ed]; exact da.same (sH.trans sG), _, rfl, ?_⟩
      by_cases hc : callS c = true
      · rw [hc]
        obtain ⟨a, vs, rfl, ha, rv, lv⟩ := Da_at (by rw [ed] at da; exact da)
        have ha' : G a = some (.tup (.str c :: vs)) := sG _ _ (sH _ _ ha)
        obtain ⟨l0, ev⟩ := ev_inv (by rw [ed] at fo; exact fo) hc
        have lr := rv.len
        have last_ : ∀ dy, rest[rest.length - 1]? = some dy → ∃ y, atI (V.str c :: vs) (-1) = some y ∧ Da Hs y dy := fun dy h => by
          obtain ⟨y, ey, dyy⟩ := rv.getD h
          refine ⟨y, at_last ?_, dyy⟩
          rw [List.length_cons, Nat.add_sub_cancel]
          obtain ⟨k, hk⟩ : ∃ k, vs.length = k + 1 := ⟨vs.length - 1, by omega⟩
          rw [hk, List.getElem?_cons_succ, ← ey, ← lr, hk]
          rfl
        have en : namesD d = ((partsD d).map nmP).flatten ++ strAt rest (rest.length - 1) := by
          unfold namesD
          rw [ed, evD_tup, if_pos hc]
        rcases ev with ev | ⟨z, ev, _⟩
        · obtain ⟨y, ey, dy⟩ := last_ _ ev
          cases dy
          refine iteT ⟨_, rfl, _, rfl, a, _, _, _, rfl, rfl, SqT.of ha', ey, rfl, _, rfl, iteF ⟨_, rfl, fin _ _ sG gW ?_ (by omega)⟩⟩
          rw [en]
          unfold strAt
          rw [ev, List.append_nil]
        · obtain ⟨y, ey, dy⟩ := last_ _ ev
          cases dy
          refine iteT ⟨_, rfl, _, rfl, a, _, _, _, rfl, rfl, SqT.of ha', ey, rfl, _, rfl, iteT ?_⟩
          refine ⟨_, rfl, .inl ⟨rfl, _, SqL.of gW⟩, _, rfl, _, rfl, a, _, _, _, rfl, rfl, SqT.of ha', ey, ?_⟩
          have lW : ((((partsD d).map nmP).flatten).map V.str).length < sizeLine := by
            rw [List.length_map, sizeLine_eq]
            omega
          refine ⟨W, _, _, rfl, rfl, gW, lW, ?_⟩
          refine ⟨_, rfl, ?_⟩
          refine fin (((partsD d).map nmP).flatten ++ [z]) _ (fun b o h => ?_) ?_ ?_ ?_
          · rw [upd_ne (ne_of_none h hWH)]
            exact sG _ _ h
          · rw [upd_same, List.map_append]; rfl
          · rw [en, strAt_eq ev]
          · rw [List.length_append, List.length_singleton]; omega
      · rw [Bool.eq_false_iff.mpr hc]
        refine iteF ⟨_, rfl, fin _ _ sG gW ?_ (by omega)⟩
        unfold namesD
        rw [ed, evD_tup, if_neg hc, List.append_nil]
/-! ### lasts_in -/
abbrev nLastsIn : List Str := ["right", "part"]
theorem scLastsIn : FnScope nLastsIn ["right"] (defScope sLastsIn) := ⟨rfl, rfl, rfl, by decide +kernel, rfl, by decide +kernel, by decide +kernel⟩
theorem ok_lastsIn {f cT fn fp fc fo : Addr} {fd dn dp dc do_ : FuncData} (F : Fun K "lasts_in" "lasts_in" sLastsIn f fd) (N : Nmd P w K mg base cT fn fp fc fo dn dp dc do_) : FnOk P w K mg base (CXL P w) 10 f fd ["right"] (spNames cT lastsD) := by
  refine F.okX scLastsIn (fun vs H Q E h => ?_) (fun cdv A outer s H vs Q E hr h => ?_)
  · obtain ⟨x, d, Hs, rfl, _⟩ := h
    rfl
  · obtain ⟨x, d, Hs, rfl, sH, da, hz, q⟩ := h
    have hr3 := hr.mono (by decide : 3 ≤ 9)
    have hr2 := hr.mono (by decide : 2 ≤ 9)
    have hr1 := hr.mono (by decide : 1 ≤ 9)
    refine ⟨_, (pss_cons (ps_expr (pe_call (E := E) N.Gn hr (by rfl) N.Dn.at_ N.Dn.kp N.Dn.bd .nil (passes_call (takes_of rfl rfl rfl rfl) (fun _ _ _ _ h => h)) (pa_cons (pv 0) pa_nil)))
        (pss_one (ps_ret (pe_call N.Go hr1 (by rfl) N.Do.at_ N.Do.kp N.Do.bd .nil pass0 (pa_cons (pe_lc (own := [("part", 1)]) (g := gName 1) (tt := _) rfl scLastsIn.nd (pi_list (pe_call N.Gp hr3 (by rfl) N.Dp.at_ N.Dp.kp N.Dp.bd .nil pass0 (pa_cons (pv 0) pa_nil))) (blkOk_by (N := nLastsIn) (sc := defScope sLastsIn) (by decide +kernel)) (fun _ _ _ _ _ => pg_name (i := 1) scLastsIn.nd rfl (Or.inl rfl)) (fun _ _ _ _ _ => (pts_one (pt_cmpR op_eq (pe_ix (ixT (K := K) rfl) (pv 1) pe_int (fun _ _ => rfl)) pe_str (nomark _)))) (fun _ _ _ _ _ => (pe_ix (ixT (K := K) rfl) (pv 1) pe_int (fun _ _ => rfl)))) pa_nil))))), ?_⟩
    refine ⟨_, rfl, x, d, rfl, da.same sH, hz, ?_⟩
    rcases q with ⟨e, q⟩ | ⟨e, q⟩
    · exact .inl ⟨e, q⟩
    refine .inr ⟨e, fun H1 s1 => ?_⟩
    refine ⟨_, rfl, x, d, Hs, rfl, sH.trans s1, da, hz, e, fun p H2 xs s2 hp gp rx => ⟨p, rfl, ⟨xs, SqL.of gp⟩, fun D hD => ?_⟩⟩
    have lx := rx.len
    have lp := parts_le d
    have pt := parts_term e
    have s02 := s1.trans s2
    have hDH := none_back s02 hD
    refine lc_list (K := K) (a := p) (xs := xs) (fun i G => Same H G ∧ Same H2 G ∧ G D = some (.lst (((((partsD d).take i).map lsP).flatten).map V.str)))
      ⟨same_trans_new s02 hD, same_new hD, upd_same⟩ (fun i G _ pv => SqL.of (pv.2.1 _ _ gp)) (fun i y G hy pv => ?_) fun G pv => ?_
    · obtain ⟨sG, s2G, gD⟩ := pv
      obtain ⟨e1, he1, day⟩ := rx.get hy
      have hi := (List.getElem?_eq_some_iff.mp hy).1
      obtain ⟨f1, c1, _⟩ := term_inv (pt e1 (List.mem_of_getElem? he1))
      obtain ⟨c, rest, ss, rfl, el, hl, hf, _⟩ := formed_inv f1
      obtain ⟨a, vs, rfl, ha, rv, lv⟩ := Da_at day
      have ha' : G a = some (.tup (.str c :: vs)) := sG _ _ (sH _ _ ha)
      have st : ((((partsD d).take (i + 1)).map lsP).flatten) = ((((partsD d).take i).map lsP).flatten) ++ lsP (.tuple (.str c :: rest)) := by
        rw [List.take_add_one, he1, List.map_append, List.flatten_append]
        show _ ++ (lsP _ :: []).flatten = _
        rw [List.flatten_cons, List.flatten_nil, List.append_nil]
      have lW : (((((partsD d).take i).map lsP).flatten).map V.str).length < sizeLine := by
        have := flat_len lsP_len ((partsD d).take i)
        rw [List.length_take] at this
        rw [List.length_map, sizeLine_eq]
        omega
      refine ⟨rfl, _, rfl, a, _, ((0 : Nat) : Int), _, rfl, rfl, SqT.of ha', atI_nat rfl, rfl, _, rfl, ?_⟩
      by_cases h1 : decide (V.str c = V.str "last") = true
      · refine iteB h1 ?_
        have ec := decS h1
        subst ec
        obtain ⟨z, hz0, _⟩ := w_last f1
        obtain ⟨y, ey, dy⟩ := rv.getD hz0
        cases dy
        refine ⟨_, rfl, a, _, ((1 : Nat) : Int), _, rfl, rfl, SqT.of ha', atI_nat (j := 1) (by rw [List.getElem?_cons_succ]; exact ey), _, gD, lW, fun b o h => ?_, fun b o h => ?_, ?_⟩
        · rw [upd_ne (ne_of_none h hDH)]
          exact sG _ _ h
        · rw [upd_ne (ne_of_none h hD)]
          exact s2G _ _ h
        · rw [upd_same, st, lsP_tup, if_pos h1, strAt_eq hz0, List.map_append]
          rfl
      · refine iteN (Bool.eq_false_iff.mpr h1) ⟨sG, s2G, ?_⟩
        rw [st, lsP_tup, if_neg h1, List.append_nil]
        exact gD
    · obtain ⟨sG, s2G, gD⟩ := pv
      have lx' : xs.length = (partsD d).length := lx
      rw [lx', List.take_length] at gD
      have l1 := flat_len lsP_len (partsD d)
      exact ⟨D, lastsD d, rfl, SqL.of gD, by unfold lastsD; omega, fun p' H' s' hp' gp' => q p' H' (sG.trans s') (none_back sG hp') gp'⟩
/-! ### firsts_in -/
abbrev nFirstsIn : List Str := ["right", "part"]
theorem scFirstsIn : FnScope nFirstsIn ["right"] (defScope sFirstsIn) := ⟨rfl, rfl, rfl, by decide +kernel, rfl, by decide +kernel, by decide +kernel⟩
def spFirsts (cT : Addr) : Sp := fun vs H Q E => ∃ (x : V) (d : PyData) (Hs : Hp), vs = [x] ∧ Same Hs H ∧ Da Hs x d ∧ sz d ≤ 900000 ∧ ((rightD d = false ∧ Refuses cT x H E) ∨ (rightD d = true ∧ ∀ H', Same H H' → Q (.int (firstsD d)) H'))
theorem ok_firstsIn {f cT fn fp fc fo : Addr} {fd dn dp dc do_ : FuncData} (F : Fun K "firsts_in" "firsts_in" sFirstsIn f fd) (N : Nmd P w K mg base cT fn fp fc fo dn dp dc do_) : FnOk P w K mg base (CXL P w) 10 f fd ["right"] (spFirsts cT) := by
  refine F.okX scFirstsIn (fun vs H Q E h => ?_) (fun cdv A outer s H vs Q E hr h => ?_)
  · obtain ⟨x, d, Hs, rfl, _⟩ := h
    rfl
  · obtain ⟨x, d, Hs, rfl, sH, da, hz, q⟩ := h
    have hr3 := hr.mono (by decide : 3 ≤ 9)
    have hr2 := hr.mono (by decide : 2 ≤ 9)
    have hr1 := hr.mono (by decide : 1 ≤ 9)
    refine ⟨_, (pss_cons (ps_expr (pe_call (E := E) N.Gn hr (by rfl) N.Dn.at_ N.Dn.kp N.Dn.bd .nil (passes_call (takes_of rfl rfl rfl rfl) (fun _ _ _ _ h => h)) (pa_cons (pv 0) pa_nil)))
        (pss_one (ps_ret (pe_callB call_len_seq (by rfl) N.ml PySem.boot_len (pa_cons (pe_lc (own := [("part", 1)]) (g := gName 1) (tt := _) rfl scFirstsIn.nd (pi_list (pe_call N.Gp hr3 (by rfl) N.Dp.at_ N.Dp.kp N.Dp.bd .nil pass0 (pa_cons (pv 0) pa_nil))) (blkOk_by (N := nFirstsIn) (sc := defScope sFirstsIn) (by decide +kernel)) (fun _ _ _ _ _ => pg_name (i := 1) scFirstsIn.nd rfl (Or.inl rfl)) (fun _ _ _ _ _ => (pts_one (pt_cmpR op_eq (pe_ix (ixT (K := K) rfl) (pv 1) pe_int (fun _ _ => rfl)) pe_str (nomark _)))) (fun _ _ _ _ _ => (pv 1))) pa_nil))))), ?_⟩
    refine ⟨_, rfl, x, d, rfl, da.same sH, hz, ?_⟩
    rcases q with ⟨e, q⟩ | ⟨e, q⟩
    · exact .inl ⟨e, q⟩
    refine .inr ⟨e, fun H1 s1 => ?_⟩
    refine ⟨_, rfl, x, d, Hs, rfl, sH.trans s1, da, hz, e, fun p H2 xs s2 hp gp rx => ⟨p, rfl, ⟨xs, SqL.of gp⟩, fun D hD => ?_⟩⟩
    have lx := rx.len
    have lp := parts_le d
    have pt := parts_term e
    have s02 := s1.trans s2
    have hDH := none_back s02 hD
    refine lc_list (K := K) (a := p) (xs := xs) (fun i G => Same H G ∧ Same H2 G ∧ ∃ ys, G D = some (.lst ys) ∧ ys.length = (((partsD d).take i).filter fsP).length)
      ⟨same_trans_new s02 hD, same_new hD, [], upd_same, rfl⟩ (fun i G _ pv => SqL.of (pv.2.1 _ _ gp)) (fun i y G hy pv => ?_) fun G pv => ?_
    · obtain ⟨sG, s2G, ys, gD, ly⟩ := pv
      obtain ⟨e1, he1, day⟩ := rx.get hy
      have hi := (List.getElem?_eq_some_iff.mp hy).1
      obtain ⟨f1, c1, _⟩ := term_inv (pt e1 (List.mem_of_getElem? he1))
      obtain ⟨c, rest, ss, rfl, el, hl, hf, _⟩ := formed_inv f1
      obtain ⟨a, vs, rfl, ha, rv, lv⟩ := Da_at day
      have ha' : G a = some (.tup (.str c :: vs)) := sG _ _ (sH _ _ ha)
      have st : (((partsD d).take (i + 1)).filter fsP) = (((partsD d).take i).filter fsP) ++ [PyData.tuple (.str c :: rest)].filter fsP := by
        rw [List.take_add_one, he1, List.filter_append]
        rfl
      have lf : (((partsD d).take i).filter fsP).length ≤ i := Nat.le_trans (List.length_filter_le _ _) (by rw [List.length_take]; omega)
      have f0 : fsP (PyData.tuple (.str c :: rest)) = decide (V.str c = V.str "first") := rfl
      refine ⟨rfl, _, rfl, a, _, ((0 : Nat) : Int), _, rfl, rfl, SqT.of ha', atI_nat rfl, rfl, _, rfl, ?_⟩
      by_cases h1 : decide (V.str c = V.str "first") = true
      · refine iteB h1 ⟨_, rfl, _, gD, by rw [sizeLine_eq]; omega, fun b o h => ?_, fun b o h => ?_, _, upd_same, ?_⟩
        · rw [upd_ne (ne_of_none h hDH)]
          exact sG _ _ h
        · rw [upd_ne (ne_of_none h hD)]
          exact s2G _ _ h
        · rw [st, List.length_append, List.length_append, ly, List.filter_cons_of_pos (by rw [f0]; exact h1)]
          rfl
      · refine iteN (Bool.eq_false_iff.mpr h1) ⟨sG, s2G, ys, gD, ?_⟩
        rw [st, List.filter_cons_of_neg (by rw [f0]; exact h1), List.filter_nil, List.append_nil]
        exact ly
    · obtain ⟨sG, s2G, ys, gD, ly⟩ := pv
      have lx' : xs.length = (partsD d).length := lx
      rw [lx', List.take_length] at ly
      refine ⟨D, ys, rfl, .inl (SqL.of gD), ?_⟩
      rw [ly]
      exact q G sG
end
end K5
end Bf

namespace Bf
open PySem PySem.Spec PyProof.Rows L2
theorem kit_dict (d : PyData) : kitB (tyD d) "dict" = some (tyD d == "dict") := by
  rw [kit_of "dict" (by decide +kernel) d]
  cases d <;> rfl
theorem Fl.da {H : Hp} {v : V} {d : PyData} (f : Fl v d) (h : ∀ z, d = .str z → z.length ≤ 1000) : Da H v d := by
  cases f with
  | non => exact .non
  | bl b => exact .bl b
  | int i => exact .int i
  | str z => exact .str z (h z rfl)
/-- texts of a dict are short -/
def shortD : PyData → Bool
  | .str z => decide (z.length ≤ 1000)
  | _ => true
theorem Fl.daS {H : Hp} {v : V} {d : PyData} (f : Fl v d) (h : shortD d = true) : Da H v d := f.da fun z e => by
  subst e
  exact of_decide_eq_true h
theorem key_da {H : Hp} (k : Key) (h : shortD (keyD k) = true) : Da H (kV k) (keyD k) := by
  cases k with
  | inl i => exact .int i
  | inr z => exact .str z (of_decide_eq_true h)
theorem DicAll.get : ∀ {kvs : List (Key × V)} {ds : List (PyData × PyData)} {i : Nat} {k : Key} {v : V}, DicAll kvs ds → kvs[i]? = some (k, v) → ∃ d, ds[i]? = some (keyD k, d) ∧ Fl v d
  | _, _, 0, _, _, .cons f r, e => by cases e; exact ⟨_, rfl, f⟩
  | _, _, i + 1, _, _, .cons f r, e => DicAll.get (i := i) r e
theorem DicAll.len : ∀ {kvs : List (Key × V)} {ds : List (PyData × PyData)}, DicAll kvs ds → kvs.length = ds.length
  | _, _, .nil => rfl
  | _, _, .cons _ r => congrArg (· + 1) r.len
def dictG (g : PyData → Bool) (ds : List (PyData × PyData)) : Bool := ds.all fun p => g p.1 && g p.2
/-- a def that tells of any data by a pure function -/
def spPd (g : PyData → Bool) : Sp := fun vs H Q _ => ∃ (x : V) (d : PyData), vs = [x] ∧ Da H x d ∧ ∀ H', Same H H' → Q (.bl (g d)) H'
namespace K5
section
variable {P : Program} {w : World} {K : PySem.W.Frag} {mg : Str → Option Value} {base : Heap}
/-- no dict, or a dict of flat values -/
def spDictOf (fg : Addr) (g : PyData → Bool) : Sp := fun vs H Q _ => ∃ x : V, vs = [x, .ref fg] ∧
  ((∃ d, Da H x d ∧ (∀ kv, d ≠ .dict kv) ∧ Q (.bl false) H) ∨
   ∃ (a : Addr) (kvs : List (Key × V)) (ds : List (PyData × PyData)), x = .ref a ∧ H a = some (.dK kvs) ∧ DicAll kvs ds ∧ (∀ p ∈ ds, shortD p.1 = true ∧ shortD p.2 = true) ∧ kvs.length ≤ 1000 ∧ (kvs.map (·.1)).Nodup ∧ ∀ H', Same H H' → Q (.bl (dictG g ds)) H')
abbrev nDictOf : List Str := ["thing", "is_good", "key"]
theorem scDictOf : FnScope nDictOf ["thing", "is_good"] (defScope sDictOf) := ⟨rfl, rfl, rfl, by decide +kernel, rfl, by decide +kernel, by decide +kernel⟩
theorem valV_at : ∀ {kvs : List (Key × V)} {i : Nat} {k : Key} {v : V}, (kvs.map (·.1)).Nodup → kvs[i]? = some (k, v) → valV kvs k = some v
  | p :: r, 0, k, v, _, e => by cases e; exact valV_pos rfl
  | p :: r, i + 1, k, v, nd, e => by
    rw [List.map_cons, List.nodup_cons] at nd
    have m : (k, v) ∈ r := List.mem_of_getElem? (i := i) e
    have ne : ¬ p.1 = k := fun z => nd.1 (z ▸ List.mem_map.mpr ⟨_, m, rfl⟩)
    rw [valV_neg ne]
    exact valV_at (i := i) nd.2 e
theorem ok_dictOf {f fg : Addr} {fd fdg : FuncData} {g : PyData → Bool} {k : Nat} (hk3 : k ≤ 3) (F : Fun K "_is_dict_of" "_is_dict_of" sDictOf f fd) (Gg : FnOk P w K mg base CX0 k fg fdg ["thing"] (spPd g)) (kg : PySem.W.keepIn K (.ref fg) = true) (bg : Binds K fdg ["thing"] [])
    (mi : mg "isinstance" = none) (md : mg "dict" = none) (ma : mg "all" = none) : FnOk P w K mg base CX0 4 f fd ["thing", "is_good"] (spDictOf fg g) := by
  refine F.ok scDictOf (fun vs H Q E h => ?_) (fun cdv A outer s H vs Q E hr h => ?_)
  · obtain ⟨x, rfl, _⟩ := h
    rfl
  · obtain ⟨x, rfl, q⟩ := h
    have hrg := hr.mono hk3
    refine ⟨_, pss_cons (ps_if (pt_not (pt_val (pe_callB call_isi (by rfl) mi (by decide +kernel) (pa_cons (pv 0) (pa_cons (pe_bltn (v := .ty "dict") (by rfl) md (by decide +kernel) rfl) pa_nil))))) (pss_one (ps_ret pe_bl)) pss_nil)
      (pss_one (ps_ret (pe_callB (cr_all rfl) (by rfl) ma (by decide +kernel) (pa_cons (pe_lock (pe_lc (own := [("key", 2)]) (g := gName 2) (tt := tYes) rfl scDictOf.nd (pi_keys (pv 0)) (blkOk_by (N := nDictOf) (sc := defScope sDictOf) (by decide +kernel))
        (fun _ _ _ _ _ => pg_name (i := 2) scDictOf.nd rfl (Or.inl rfl)) (fun _ _ _ _ _ => pts_nil) (fun _ _ _ _ _ => pe_and (pe_callL (i := 1) (f := fg) (sp := spPd g) (dvs := []) (E := E0) Gg hrg rfl (by first | exact Or.inl rfl | exact Or.inr (Or.inl rfl) | exact Or.inr (Or.inr rfl)) kg bg .nil pass0 (pa_cons (pv 2) pa_nil))
          (pe_one (pe_callL (i := 1) (f := fg) (sp := spPd g) (dvs := []) (E := E0) Gg hrg rfl (by first | exact Or.inl rfl | exact Or.inr (Or.inl rfl) | exact Or.inr (Or.inr rfl)) kg bg .nil pass0 (pa_cons (pe_dget (Nat.lt_of_le_of_lt (Nat.add_le_add_left (by decide) _) hr.units) (pv 0) (pv 2) (fun _ _ => rfl)) pa_nil)))))) pa_nil)))), ?_⟩
    rcases q with ⟨d, da, nd, q⟩ | ⟨a, kvs, ds, rfl, ha, dic, sh, lk, nk, q⟩
    · have e : (tyD d == "dict") = false := by
        cases d with
        | dict kv => exact absurd rfl (nd kv)
        | _ => rfl
      refine ⟨_, rfl, x, .ty "dict", _, _, _, rfl, .ty "dict", da.kn.ty, kit_ty (kit_dict d), _, rfl, ?_⟩
      rw [e]
      exact iteT q
    · refine ⟨_, rfl, .ref a, .ty "dict", _, _, _, rfl, .ty "dict", (Kn.dic (K := K) (.base (.dK ha))).ty, kit_ty (show kitB "dict" "dict" = some true by decide +kernel), _, rfl, iteF ?_⟩
      refine ⟨a, _, ha, trivial, fun od => ?_⟩
      have hF : (upd H a (.frz od (.dK kvs))) a = some (.frz od (.dK kvs)) := upd_same
      refine ⟨_, rfl, a, od, rfl, .inl ⟨kvs, hF, fun D hD => ?_⟩⟩
      have nDa : a ≠ D := fun z => by rw [← z, upd_same] at hD; cases hD
      have hDH : H D = none := by rw [upd_ne nDa.symm] at hD; exact hD
      have bits : ∀ i, (ds.take i).length ≤ 1000 := fun i => by
        have := dic.len
        rw [List.length_take]
        omega
      refine lc_it walk_keys (fun i G => (∀ b o, b ≠ a → H b = some o → G b = some o) ∧ G a = some (.frz od (.dK kvs)) ∧ G D = some (.lst (((ds.take i).map fun p => g p.1 && g p.2).map V.bl)))
        ⟨fun b o nb h => ?_, ?_, upd_same⟩ (fun i G _ pv => pv.2.1) (fun i y G G' hi pv yv => ?_) fun G pv => ?_
      · rw [upd_ne (ne_of_none h hDH), upd_ne nb]
        exact h
      · rw [upd_ne nDa]
        exact hF
      · obtain ⟨sG, gA, gD⟩ := pv
        obtain ⟨rfl, k', v, hkv, rfl⟩ := yv
        obtain ⟨d1, hd1, fl⟩ := dic.get hkv
        obtain ⟨s1, s2⟩ := sh _ (List.mem_of_getElem? hd1)
        have fin : ∀ bb G2, Same G' G2 → bb = (g (keyD k') && g d1) → ∃ acc, G2 D = some (.lst acc) ∧ acc.length < sizeLine ∧ ((∀ b o, b ≠ a → H b = some o → upd G2 D (.lst (acc ++ [.bl bb])) b = some o) ∧ upd G2 D (.lst (acc ++ [.bl bb])) a = some (.frz od (.dK kvs)) ∧ upd G2 D (.lst (acc ++ [.bl bb])) D = some (.lst (((ds.take (i + 1)).map fun p => g p.1 && g p.2).map V.bl))) := fun bb G2 s2 e => by
          refine ⟨_, s2 _ _ gD, ?_, fun b o nb h => ?_, ?_, ?_⟩
          · have := bits i
            rw [List.length_map, List.length_map]
            exact small1000 this
          · rw [upd_ne (ne_of_none h hDH)]
            exact s2 _ _ (sG b o nb h)
          · rw [upd_ne nDa]
            exact s2 _ _ gA
          · rw [upd_same, List.take_add_one, hd1, List.map_append, List.map_append, e]
            rfl
        refine ⟨rfl, ?_⟩
        refine ⟨rfl, _, rfl, _, _, rfl, key_da k' s1, fun G2 t2 => ⟨_, rfl, ?_⟩⟩
        by_cases h1 : g (keyD k') = true
        · rw [h1]
          refine iteT ⟨rfl, _, rfl, _, rfl, a, v, rfl, .inl ⟨kvs, k', .inr ⟨od, t2 _ _ gA⟩, rfl, (valV_at nk hkv).symm⟩, v, d1, rfl, fl.daS s2, fun G3 t3 => fin _ _ (t2.trans t3) ?_⟩
          rw [h1, Bool.true_and]
        · rw [Bool.eq_false_iff.mpr h1]
          exact iteF (fin _ _ t2 (by rw [Bool.eq_false_iff.mpr h1, Bool.false_and]))
      · obtain ⟨sG, gA, gD⟩ := pv
        rw [dic.len, List.take_length] at gD
        refine ⟨gA, D, _, rfl, SqL.of (by rw [upd_ne nDa.symm]; exact gD), ?_⟩
        have e : dictG g ds = (ds.map fun p => g p.1 && g p.2).all id := by
          unfold dictG
          rw [List.all_map]
          rfl
        rw [← e]
        refine q _ fun b o h => ?_
        by_cases nb : b = a
        · subst nb
          rw [upd_same]
          rw [ha] at h
          exact h
        · rw [upd_ne nb]
          exact sG b o nb h
end
end K5
end Bf

namespace Bf
open PySem PySem.Spec PyProof.Rows L2
namespace K5
/-! ### called otherwise, by pure functions -/
def nmC (f : Str → Str) : PyData → PyData
  | .str z => .str (f z)
  | d => d
def heldF (F : PyData → PyData) (f g : Str → Str) (slot : Str) (d : PyData) : PyData :=
  if decide (V.str slot = V.str "term") = true then F d else match lk slot ST with
  | some _ => (match d with
    | .tuple ds => .tuple (ds.map F)
    | d => d)
  | none => if (decide (V.str slot = V.str "name") || decide (V.str slot = V.str "every")) = true then nmC f d else if decide (V.str slot = V.str "node") = true then nmC g d else d
def calF (f g : Str → Str) : Nat → PyData → PyData
  | 0, d => d
  | n + 1, .tuple (.str c :: rest) => (match lk c FM with
    | some ss => .tuple (.str c :: List.zipWith (heldF (calF f g n) f g) ss rest)
    | none => .tuple (.str c :: rest))
  | _ + 1, d => d
def calD (f g : Str → Str) (d : PyData) : PyData := calF f g (sz d) d
abbrev heldD (f g : Str → Str) : Str → PyData → PyData := heldF (calD f g) f g
theorem zw_congr {α β γ : Type} {h h' : α → β → γ} : ∀ {as : List α} {bs : List β}, (∀ a, ∀ b ∈ bs, h a b = h' a b) → List.zipWith h as bs = List.zipWith h' as bs
  | [], _, _ => by rw [List.zipWith_nil_left, List.zipWith_nil_left]
  | _ :: _, [], _ => by rw [List.zipWith_nil_right, List.zipWith_nil_right]
  | a :: as, b :: bs, e => by rw [List.zipWith_cons_cons, List.zipWith_cons_cons, e a b List.mem_cons_self, zw_congr fun a b m => e a b (List.mem_cons_of_mem _ m)]
theorem held_congr {F F' : PyData → PyData} {f g : Str → Str} {slot : Str} {d : PyData} (h : ∀ x, sz x ≤ sz d → F x = F' x) : heldF F f g slot d = heldF F' f g slot d := by
  unfold heldF
  rw [h d (Nat.le_refl _)]
  split
  · rfl
  · split
    · split
      · rename_i ds
        rw [map_congr' fun x m => h x (by have := szA_mem m; rw [sz_tup]; omega)]
      · rfl
    · rfl
theorem calF_tup {f g : Str → Str} {n : Nat} {c : Str} {rest : List PyData} {ss : List Str} (e : lk c FM = some ss) : calF f g (n + 1) (.tuple (.str c :: rest)) = .tuple (.str c :: List.zipWith (heldF (calF f g n) f g) ss rest) := by
  show (match lk c FM with | some ss => _ | none => _) = _
  rw [e]
theorem calF_none {f g : Str → Str} {n : Nat} {c : Str} {rest : List PyData} (e : lk c FM = none) : calF f g (n + 1) (.tuple (.str c :: rest)) = .tuple (.str c :: rest) := by
  show (match lk c FM with | some ss => _ | none => _) = _
  rw [e]
theorem calF_eq {f g : Str → Str} : ∀ (n m : Nat) (d : PyData), sz d ≤ n → sz d ≤ m → calF f g n d = calF f g m d
  | 0, _, d, h, _ => absurd h (by have := sz_pos d; omega)
  | _, 0, d, _, h => absurd h (by have := sz_pos d; omega)
  | n + 1, m + 1, d, h1, h2 => by
    cases d with
    | tuple ds =>
      cases ds with
      | nil => rfl
      | cons x rest =>
        cases x with
        | str c =>
          cases e : lk c FM with
          | none => rw [calF_none e, calF_none e]
          | some ss =>
            rw [calF_tup e, calF_tup e]
            rw [sz_tup, szA_cons, sz_str] at h1 h2
            rw [zw_congr fun a b mb => held_congr fun x hx => calF_eq n m x (by have := szA_mem mb; omega) (by have := szA_mem mb; omega)]
        | _ => rfl
    | _ => rfl
theorem cal_eq {f g : Str → Str} {c : Str} {rest : List PyData} {ss : List Str} (e : lk c FM = some ss) : calD f g (.tuple (.str c :: rest)) = .tuple (.str c :: List.zipWith (heldD f g) ss rest) := by
  unfold calD
  rw [sz_tup, szA_cons, sz_str, Nat.add_comm 1, calF_tup e]
  rw [zw_congr fun a b mb => held_congr (F' := calD f g) fun x hx => calF_eq _ _ x (by have := szA_mem mb; omega) (Nat.le_refl _)]
/-! slot by slot -/
section
variable {F : PyData → PyData} {f g : Str → Str}
theorem held_term (d : PyData) : heldF F f g "term" d = F d := by
  unfold heldF
  rw [if_pos (by decide +kernel)]
theorem held_row {slot : Str} {p : Int × Int} (ds : List PyData) (n : ¬ decide (V.str slot = V.str "term") = true) (e : lk slot ST = some p) : heldF F f g slot (.tuple ds) = .tuple (ds.map F) := by
  unfold heldF
  rw [if_neg n, e]
theorem held_nm {slot : Str} (d : PyData) (n : ¬ decide (V.str slot = V.str "term") = true) (e : lk slot ST = none) (h : (decide (V.str slot = V.str "name") || decide (V.str slot = V.str "every")) = true) : heldF F f g slot d = nmC f d := by
  unfold heldF
  rw [if_neg n, e]
  exact if_pos h
theorem held_nd {slot : Str} (d : PyData) (n : ¬ decide (V.str slot = V.str "term") = true) (e : lk slot ST = none) (h : ¬ (decide (V.str slot = V.str "name") || decide (V.str slot = V.str "every")) = true) (h2 : decide (V.str slot = V.str "node") = true) : heldF F f g slot d = nmC g d := by
  unfold heldF
  rw [if_neg n, e]
  show (if _ then _ else _) = _
  rw [if_neg h, if_pos h2]
theorem held_id {slot : Str} (d : PyData) (n : ¬ decide (V.str slot = V.str "term") = true) (e : lk slot ST = none) (h : ¬ (decide (V.str slot = V.str "name") || decide (V.str slot = V.str "every")) = true) (h2 : ¬ decide (V.str slot = V.str "node") = true) : heldF F f g slot d = d := by
  unfold heldF
  rw [if_neg n, e]
  show (if _ then _ else _) = _
  rw [if_neg h, if_neg h2]
end
/-! ### what it comes to is as great -/
theorem nmC_fit {w k : Nat} {f : Str → Str} (hf : ∀ z, strOk z = true → strOk (f z) = true) {d : PyData} (h : fit w k d) : fit w k (nmC f d) := by
  cases d with
  | str z => exact fit_str.mpr (hf z (fit_str.mp h))
  | _ => exact h
theorem zw_len {α β γ : Type} (h : α → β → γ) (as : List α) (bs : List β) (e : as.length = bs.length) : (List.zipWith h as bs).length = bs.length := by rw [List.length_zipWith, e, Nat.min_self]
theorem zw_mem {α β γ : Type} {h : α → β → γ} {x : γ} : ∀ {as : List α} {bs : List β}, x ∈ List.zipWith h as bs → ∃ a ∈ as, ∃ b ∈ bs, x = h a b
  | [], _, m => by rw [List.zipWith_nil_left] at m; cases m
  | _ :: _, [], m => by rw [List.zipWith_nil_right] at m; cases m
  | a :: as, b :: bs, m => by
    rw [List.zipWith_cons_cons] at m
    rcases List.mem_cons.mp m with rfl | m
    · exact ⟨a, List.mem_cons_self, b, List.mem_cons_self, rfl⟩
    · obtain ⟨a', ma, b', mb, e⟩ := zw_mem m
      exact ⟨a', List.mem_cons_of_mem _ ma, b', List.mem_cons_of_mem _ mb, e⟩
theorem held_fit {w : Nat} {F : PyData → PyData} {f g : Str → Str} (hf : ∀ z, strOk z = true → strOk (f z) = true) (hg : ∀ z, strOk z = true → strOk (g z) = true) (hF : ∀ k d, fit w k d → fit w k (F d)) {k : Nat} {slot : Str} {d : PyData} (h : fit w k d) : fit w k (heldF F f g slot d) := by
  unfold heldF
  split
  · exact hF k d h
  · split
    · split
      · rename_i ds
        cases k with
        | zero => simp only [fit] at h
        | succ k =>
          obtain ⟨a, b⟩ := fit_tup.mp h
          refine fit_tup.mpr ⟨by rw [List.length_map]; exact a, fun x m => ?_⟩
          obtain ⟨y, my, rfl⟩ := List.mem_map.mp m
          exact hF k y (b y my)
      · exact h
    · split
      · exact nmC_fit hf h
      · split
        · exact nmC_fit hg h
        · exact h
theorem calF_fit {w : Nat} {f g : Str → Str} (hf : ∀ z, strOk z = true → strOk (f z) = true) (hg : ∀ z, strOk z = true → strOk (g z) = true) : ∀ (n k : Nat) (d : PyData), fit w k d → fit w k (calF f g n d)
  | 0, _, _, h => h
  | n + 1, k, d, h => by
    cases d with
    | tuple ds =>
      cases ds with
      | nil => exact h
      | cons x rest =>
        cases x with
        | str c =>
          cases e : lk c FM with
          | none => rw [calF_none e]; exact h
          | some ss =>
            rw [calF_tup e]
            cases k with
            | zero => simp only [fit] at h
            | succ k =>
              obtain ⟨a, b⟩ := fit_tup.mp h
              refine fit_tup.mpr ⟨?_, fun y m => ?_⟩
              · rw [List.length_cons] at a ⊢
                rw [List.length_zipWith]
                omega
              · rcases List.mem_cons.mp m with rfl | m
                · exact b _ List.mem_cons_self
                · obtain ⟨s, _, z, mz, rfl⟩ := zw_mem m
                  exact held_fit hf hg (fun k d => calF_fit hf hg n k d) (b z (List.mem_cons_of_mem _ mz))
        | _ => exact h
    | _ => exact h
theorem cal_fit {w k : Nat} {f g : Str → Str} (hf : ∀ z, strOk z = true → strOk (f z) = true) (hg : ∀ z, strOk z = true → strOk (g z) = true) {d : PyData} (h : fit w k d) : fit w k (calD f g d) := calF_fit hf hg _ _ _ h
end K5
end Bf

namespace Bf
open PySem PySem.Spec PyProof.Rows L2
theorem ShAll.get {H : Hp} {P : Addr → Prop} {b : Bool} : ∀ {vs : List V} {ds : List PyData}, ShAll H P b vs ds → ∀ {i : Nat} {v : V}, vs[i]? = some v → ∃ d, ds[i]? = some d ∧ Sh H P b v d
  | _, _, .cons h r, 0, _, e => by cases e; exact ⟨_, rfl, h⟩
  | _, _, .cons h r, i + 1, _, e => ShAll.get r (i := i) e
theorem ShAll.getD {H : Hp} {P : Addr → Prop} {b : Bool} : ∀ {vs : List V} {ds : List PyData}, ShAll H P b vs ds → ∀ {i : Nat} {d : PyData}, ds[i]? = some d → ∃ v, vs[i]? = some v ∧ Sh H P b v d
  | _, _, .cons h r, 0, _, e => by cases e; exact ⟨_, rfl, h⟩
  | _, _, .cons h r, i + 1, _, e => ShAll.getD r (i := i) e
theorem Sh.tup_inv {H : Hp} {P : Addr → Prop} {b : Bool} {v : V} {ds : List PyData} (h : Sh H P b v (.tuple ds)) : ∃ a xs, v = .ref a ∧ H a = some (.tup xs) ∧ P a ∧ ShAll H P b xs ds := by
  cases h with
  | tup h p r => exact ⟨_, _, rfl, h, p, r⟩
theorem ne_of_none' {H : Hp} {a b : Addr} {o : HO} (h : H a = none) (g : H b = some o) : a ≠ b := fun e => by
  rw [e, g] at h
  cases h
/-- a dict from texts and numbers to texts, at a -/
def StrD (H : Hp) (a : Addr) (kvs : List (Key × V)) : Prop := H a = some (.dK kvs) ∧ ∀ p ∈ kvs, ∃ y, p.2 = .str y
def dF (kvs : List (Key × V)) (z : Str) : Str := match valV kvs (.inr z) with
  | some (.str y) => y
  | _ => z
theorem valV_mem {kvs : List (Key × V)} {k : Key} {v : V} (h : valV kvs k = some v) : ∃ p ∈ kvs, p.1 = k ∧ p.2 = v := by
  unfold valV at h
  cases e : kvs.find? fun kv => decide (kv.1 = k) with
  | none => rw [e] at h; cases h
  | some p =>
    rw [e] at h
    cases h
    exact ⟨p, List.mem_of_find?_eq_some e, of_decide_eq_true (List.find?_some (p := fun kv : Key × V => decide (kv.1 = k)) e), rfl⟩
theorem dF_get {kvs : List (Key × V)} (h : ∀ p ∈ kvs, ∃ y, p.2 = .str y) (z : Str) : (valV kvs (.inr z)).getD (.str z) = .str (dF kvs z) := by
  unfold dF
  cases e : valV kvs (.inr z) with
  | none => rfl
  | some v =>
    obtain ⟨p, mp, _, rfl⟩ := valV_mem e
    obtain ⟨y, ey⟩ := h p mp
    rw [ey]
    rfl
theorem StrD.same {H H' : Hp} {a : Addr} {kvs : List (Key × V)} (s : Same H H') (h : StrD H a kvs) : StrD H' a kvs := ⟨s _ _ h.1, h.2⟩
namespace K5
section
variable {P : Program} {w : World} {K : PySem.W.Frag} {mg : Str → Option Value} {base : Heap} {aF aS aC : Addr}
def Pn (H : Hp) (P0 : Addr → Prop) : Addr → Prop := fun a => H a = none ∨ P0 a
def spCalledO (m : Nat) : Sp := fun vs H Q _ => ∃ (x : V) (d : PyData) (P0 : Addr → Prop) (aN aM : Addr) (kn km : List (Key × V)), vs = [x, .ref aN, .ref aM] ∧ fit 6 m d ∧ Sh H P0 true x d ∧ rightD d = true ∧ StrD H aN kn ∧ StrD H aM km ∧
  ∀ y H', Same H H' → Sh H' (Pn H P0) true y (calD (dF kn) (dF km) d) → Q y H'
def spHeldO (m : Nat) : Sp := fun vs H Q _ => ∃ (slot : Str) (x : V) (d : PyData) (P0 : Addr → Prop) (aN aM : Addr) (kn km : List (Key × V)), vs = [.str slot, x, .ref aN, .ref aM] ∧ fit 6 m d ∧ Sh H P0 true x d ∧ fitsD slot d = true ∧ (∀ e ∈ oneD slot d, termD e = true) ∧ StrD H aN kn ∧ StrD H aM km ∧
  ∀ y H', Same H H' → Sh H' (Pn H P0) true y (heldD (dF kn) (dF km) slot d) → Q y H'
abbrev pCalledO : List Str := ["right", "names", "nodes"]
abbrev nCalledO : List Str := ["right", "names", "nodes", "told", "slot", "held"]
theorem scCalledO : FnScope nCalledO pCalledO (defScope sCalledO) := ⟨rfl, rfl, rfl, by decide +kernel, rfl, by decide +kernel, by decide +kernel⟩
abbrev pHeldO : List Str := ["slot", "held", "names", "nodes"]
abbrev nHeldO : List Str := ["slot", "held", "names", "nodes", "term"]
theorem scHeldO : FnScope nHeldO pHeldO (defScope sHeldO) := ⟨rfl, rfl, rfl, by decide +kernel, rfl, by decide +kernel, by decide +kernel⟩
theorem sh_old {H G : Hp} {P0 : Addr → Prop} {v : V} {d : PyData} (k : ∀ a o, P0 a → H a = some o → G a = some o) (h : Sh H P0 true v d) : Sh G (fun a => P0 a ∧ H a ≠ none) true v d :=
  Sh.on (fun a o p e => ⟨p, fun z => by rw [e] at z; cases z⟩) k d v h
theorem calledO_zero {f : Addr} {fd : FuncData} {k : Nat} : FnOk P w K mg base CX0 k f fd pCalledO (spCalledO 0) :=
  ⟨fun _ _ _ _ ⟨_, _, _, _, _, _, _, e, _⟩ => by rw [e]; rfl, fun _ _ _ _ _ _ _ _ _ _ _ _ _ ⟨_, d, _, _, _, _, _, _, ft, _, rd, _⟩ => by
    obtain ⟨fo, _⟩ := right_inv rd
    obtain ⟨c, rest, ss, rfl, _⟩ := formed_inv fo
    simp only [fit] at ft⟩
theorem ok_calledO {f fh : Addr} {fd dh : FuncData} {m k : Nat} (F : Fun K "_called_otherwise" "_called_otherwise" sCalledO f fd) (T : Tbs K w mg aF aS aC) (DH : Df K mg "_held_otherwise" fh dh pHeldO) (GH : FnOk P w K mg base CX0 k fh dh pHeldO (spHeldO m)) (mz : mg "zip" = none) (mt : mg "tuple" = none) :
    FnOk P w K mg base CX0 (k + 1) f fd pCalledO (spCalledO (m + 1)) := by
  obtain ⟨tf, DF, FF⟩ := T.tF
  refine F.ok scCalledO (fun vs H Q E h => ?_) (fun cdv A outer s H vs Q E hr h => ?_)
  · obtain ⟨x, d, P0, aN, aM, kn, km, rfl, _⟩ := h
    rfl
  · obtain ⟨x, d, P0, aN, aM, kn, km, rfl, ft, sh, rd, hN, hM, q⟩ := h
    refine ⟨_, (pss_cons (ps_set (i := 3) scCalledO.nd rfl (Or.inl rfl) (pe_lst (pa_cons (pe_ix ix_tup (pv 0) pe_int (fun _ _ => rfl)) pa_nil)))
      (pss_cons (ps_for PassesOwn.never rfl (RZ.pi_zipA (by rfl) mz (pa_cons (pe_ix (ix_dct DF) (pe_glob (v := .ref aF) (by rfl) T.gF rfl) (pe_ix ix_tup (pv 0) pe_int (fun _ _ => rfl)) (fun _ _ => rfl)) (pa_cons (pe_slice sl_tupA (pv 0) (po_some pe_int) po_none) pa_nil)))
          (pg_tup rfl (pgs_cons (pg_name (i := 4) scCalledO.nd rfl (Or.inl rfl)) (pgs_cons (pg_name (i := 5) scCalledO.nd rfl (Or.inl rfl)) pgs_nil)))
        (pss_one (ps_expr (pe_bm PySem.F.plainAttrs_list PySem.F.slot_list_append PySem.F.type_list_append mt_append (pv 3) (pa_cons (pe_call GH hr (by rfl) DH.at_ DH.kp DH.bd .nil pass0 (pa_cons (pv 4) (pa_cons (pv 5) (pa_cons (pv 1) (pa_cons (pv 2) pa_nil))))) pa_nil)))))
      (pss_one (ps_ret (pe_callTy call_tuple_of (by rfl) mt (by decide +kernel) (pa_cons (pv 3) pa_nil)))))), ?_⟩
    obtain ⟨fo, wt⟩ := right_inv rd
    obtain ⟨c, rest, ss, rfl, e, hl, hf, _⟩ := formed_inv fo
    obtain ⟨a, xs, rfl, hs, pa, r⟩ := sh.tup_inv
    obtain ⟨fl, fa⟩ := fit_tup.mp ft
    cases r with
    | @cons v vs d1 _ hv rv =>
      cases hv
      have eF : lk c FMv = (lk c FM).map fun p => p.map V.str := lk_map (fun p : List Str => p.map V.str) c FM
      rw [e] at eF
      obtain ⟨b, lb, sb⟩ := FF.some eF
      have lv := shAll_len rv
      have l4 := fm_len e
      refine ⟨_, rfl, a, _, ((0 : Nat) : Int), _, rfl, rfl, SqT.of hs, atI_nat rfl, by show 1 ≤ sizeLine; decide, fun W hW => ?_⟩
      have sW : Same H (upd H W (.lst [V.str c])) := same_new hW
      refine ⟨_, rfl, a, _, ((0 : Nat) : Int), _, rfl, rfl, SqT.of (sW _ _ hs), atI_nat rfl, c, .ref b, rfl, rfl, lb, ?_⟩
      refine ⟨_, rfl, 1, rfl, a, _, rfl, SqT.of (sW _ _ hs), (fun z => absurd z (not_whole (k := 1) (by decide) (by simp))), fun _ t ht => ?_⟩
      have ec : cutV (V.str c :: vs) (some (1 : Int)) none = vs := cut_from (k := 1)
      rw [ec]
      have st : Same (upd H W (.lst [V.str c])) (upd (upd H W (.lst [V.str c])) t (.tup vs)) := same_new ht
      have zl : (ss.map V.str).length = vs.length := by rw [List.length_map, lv, hl]
      refine ⟨b, t, ss.map V.str, vs, rfl, .inr ⟨sb _, SqT.of upd_same, RZ.for_zipT (K := K) (a := b) (b := t) zl
        (fun i σ H' => ∃ u4 u5 ys, σ = [some (.ref a), some (.ref aN), some (.ref aM), some (.ref W), u4, u5] ∧ H' W = some (.lst (.str c :: ys)) ∧ ShAll H' (fun b => b ≠ W ∧ Pn H P0 b) true ys ((List.zipWith (heldD (dF kn) (dF km)) ss rest).take i) ∧ Same H H' ∧ H' t = some (.tup vs))
        ⟨_, _, [], rfl, st _ _ upd_same, .nil, (same_new hW).trans st, upd_same⟩ (fun i σ H' pv => ?_) (fun i x y T' σ H' hx hy pv hT => ?_) fun σ H' pv => ?_⟩⟩
      · obtain ⟨_, _, _, _, _, _, _, gt⟩ := pv
        exact ⟨sb _, SqT.of gt⟩
      · obtain ⟨u4, u5, ys, rfl, gW, sy, sx, gt⟩ := pv
        rw [List.getElem?_map] at hx
        cases hj : ss[i]? with
        | none => rw [hj] at hx; cases hx
        | some sl =>
          rw [hj] at hx
          cases hx
          obtain ⟨dy, hdy, day⟩ := rv.get hy
          have hi := (List.getElem?_eq_some_iff.mp hj).1
          have nTW : T' ≠ W := fun e => by rw [e, gW] at hT; cases hT
          have nTt : T' ≠ t := fun e => by rw [e, gt] at hT; cases hT
          have sT : Same H' (upd H' T' (.tup [.str sl, y])) := same_new hT
          have gW' := sT _ _ gW
          have gt' := sT _ _ gt
          have s1 := sx.trans sT
          have tk : (List.zipWith (heldD (dF kn) (dF km)) ss rest).take (i + 1) = (List.zipWith (heldD (dF kn) (dF km)) ss rest).take i ++ [heldD (dF kn) (dF km) sl dy] := by
            rw [List.take_add_one, zw_get _ hj hdy]
            rfl
          have ntW : t ≠ W := fun e => by rw [e, gW] at gt; cases gt
          have ly := shAll_len sy
          have lz : (List.zipWith (heldD (dF kn) (dF km)) ss rest).length = ss.length := by rw [List.length_zipWith, hl, Nat.min_self]
          have fy : fitsD sl dy = true := (List.all_eq_true.mp hf) _ (List.mem_of_getElem? (zw_get fitsD hj hdy))
          have oy : ∀ e ∈ oneD sl dy, termD e = true := fun x mx => by
            refine wt x ?_
            rw [within_eq e]
            exact List.mem_flatten.mpr ⟨_, List.mem_of_getElem? (zw_get oneD hj hdy), mx⟩
          refine ⟨T', _, rfl, SqT.of upd_same, rfl, _, _, rfl, _, _, rfl, rfl, ?_⟩
          refine ⟨_, rfl, .inl ⟨rfl, _, SqL.of gW'⟩, _, rfl, _, rfl, _, rfl, _, rfl, sl, y, dy, fun b => P0 b ∧ H b ≠ none, aN, aM, kn, km, rfl, fa _ (List.mem_cons_of_mem _ (List.mem_of_getElem? hdy)), sh_old (fun a o _ h => s1 _ _ h) day, fy, oy, hN.same s1, hM.same s1, fun y' G2 s2 sh2 => ?_⟩
          have gW2 := s2 _ _ gW'
          have nWH : ∀ b o, H b = some o → b ≠ W := fun b o h => ne_of_none h hW
          refine ⟨W, _, _, rfl, rfl, gW2, by rw [List.length_cons, sizeLine_eq, ly, List.length_take, lz]; omega, ?_⟩
          refine ⟨_, _, ys ++ [y'], rfl, upd_same, ?_, fun b o h => ?_, ?_⟩
          · rw [tk]
            refine ShAll.append (ShAll.on (fun _ _ h _ => h) (fun b o h z => ?_) _ _ sy) (.cons (Sh.on (fun b o h z => ?_) (fun b o h z => ?_) _ _ sh2) .nil)
            · rw [upd_ne h.1]
              exact s2 _ _ (sT _ _ z)
            · rcases h with h | ⟨h1, h2⟩
              · exact ⟨ne_of_none' h gW', .inl (none_back s1 h)⟩
              · exact ⟨fun z => h2 (z ▸ hW), .inr h1⟩
            · have nb : b ≠ W := by
                rcases h with h | ⟨h1, h2⟩
                · exact ne_of_none' h gW'
                · exact fun z => h2 (z ▸ hW)
              rw [upd_ne nb]
              exact z
          · rw [upd_ne (nWH b o h)]
            exact s2 _ _ (s1 _ _ h)
          · rw [upd_ne ntW]
            exact s2 _ _ gt'
      · obtain ⟨u4, u5, ys, rfl, gW, sy, sx, gt⟩ := pv
        have lz : (List.zipWith (heldD (dF kn) (dF km)) ss rest).length = ss.length := by rw [List.length_zipWith, hl, Nat.min_self]
        rw [List.length_map, ← lz, List.take_length] at sy
        refine ⟨_, rfl, W, _, rfl, .inl ⟨SqL.of gW, fun u hu => ?_⟩⟩
        refine q _ _ (same_trans_new sx hu) ?_
        rw [cal_eq e]
        exact .tup upd_same (.inl (none_back sx hu)) (.cons (.str c) (ShAll.on (fun _ _ h _ => h.2) (fun b o _ h => by rw [upd_ne (ne_of_none h hu)]; exact h) _ _ sy))
theorem ok_heldO {f fc : Addr} {fd dc : FuncData} {m k : Nat} (F : Fun K "_held_otherwise" "_held_otherwise" sHeldO f fd) (T : Tbs K w mg aF aS aC) (DC : Df K mg "_called_otherwise" fc dc pCalledO) (GC : FnOk P w K mg base CX0 k fc dc pCalledO (spCalledO m)) (mt : mg "tuple" = none) :
    FnOk P w K mg base CX0 (k + 1) f fd pHeldO (spHeldO m) := by
  obtain ⟨ts, DS, FS⟩ := T.tS
  refine F.ok scHeldO (fun vs H Q E h => ?_) (fun cdv A outer s H vs Q E hr h => ?_)
  · obtain ⟨slot, x, d, P0, aN, aM, kn, km, rfl, _⟩ := h
    rfl
  · obtain ⟨slot, x, d, P0, aN, aM, kn, km, rfl, ft, sh, fi, tm, hN, hM, q⟩ := h
    refine ⟨_, (pss_cons (ps_if (pt_cmpR op_eq (pv 0) pe_str (nomark _)) (pss_one (ps_ret (pe_call GC hr (by rfl) DC.at_ DC.kp DC.bd .nil pass0 (pa_cons (pv 1) (pa_cons (pv 2) (pa_cons (pv 3) pa_nil)))))) pss_nil)
      (pss_cons (ps_if (pt_cmpR (op_in_dct DS) (pv 0) (pe_glob (v := .ref aS) (by rfl) T.gS rfl) (by rfl)) (pss_one (ps_ret (pe_callTy call_tuple_of (by rfl) mt (by decide +kernel) (pa_cons (pe_lc (own := [("term", 4)]) (g := gName 4) (tt := tYes) rfl scHeldO.nd (pi_tup (pv 1)) (blkOk_by (N := nHeldO) (sc := defScope sHeldO) (by decide +kernel)) (fun _ _ _ _ _ => pg_name (i := 4) scHeldO.nd rfl (Or.inl rfl)) (fun _ _ _ _ _ => pts_nil) (fun _ _ _ _ _ => pe_call GC hr (by rfl) DC.at_ DC.kp DC.bd .nil pass0 (pa_cons (pv 4) (pa_cons (pv 2) (pa_cons (pv 3) pa_nil))))) pa_nil)))) pss_nil)
      (pss_cons (ps_if (PW.pt (pw_or (pt_cmpR op_eq (pv 0) pe_str (nomark _)) (pw_or1 (pt_cmpR op_eq (pv 0) pe_str (nomark _))))) (pss_one (ps_ret (pe_dget2N (Nat.lt_of_le_of_lt (Nat.add_le_add_left (by decide) _) hr.units) (pv 2) (pv 1) (pv 1) ⟨rfl, rfl, rfl, rfl⟩))) pss_nil)
      (pss_cons (ps_if (pt_cmpR op_eq (pv 0) pe_str (nomark _)) (pss_one (ps_ret (pe_dget2N (Nat.lt_of_le_of_lt (Nat.add_le_add_left (by decide) _) hr.units) (pv 3) (pv 1) (pv 1) ⟨rfl, rfl, rfl, rfl⟩))) pss_nil)
      (pss_one (ps_ret (pv 1))))))), ?_⟩
    refine ⟨_, rfl, rfl, _, rfl, ite2 (fun h1 => ?_) (fun h1 => ?_)⟩
    · have ec := decS h1
      subst ec
      have td : termD d = true := tm d (by rw [one_term]; exact List.mem_singleton.mpr rfl)
      exact ⟨_, rfl, _, rfl, _, rfl, x, d, P0, aN, aM, kn, km, rfl, ft, sh, term_right td, hN, hM, fun y H' s h => q y H' s (by rw [show heldD (dF kn) (dF km) "term" d = calD (dF kn) (dF km) d from held_term d]; exact h)⟩
    have eS : lk slot STv = (lk slot ST).map fun p => [.int p.1, .int p.2] := lk_map (fun p : Int × Int => [V.int p.1, V.int p.2]) slot ST
    cases e2 : lk slot ST with
    | some pr =>
      obtain ⟨lo, hi2⟩ := pr
      rw [e2] at eS
      obtain ⟨as, las, _⟩ := FS.some eS
      have rd : rangeD lo hi2 d = true := by
        unfold fitsD at fi
        rw [e2] at fi
        exact fi
      obtain ⟨ds, rfl⟩ := range_inv rd
      obtain ⟨a, xs, rfl, ha, pa, r⟩ := sh.tup_inv
      have eo : oneD slot (.tuple ds) = ds := by unfold oneD; rw [if_neg h1, e2]
      rw [eo] at tm
      obtain ⟨m', rfl⟩ : ∃ m', m = m' + 1 := by
        cases m with
        | zero => simp only [fit] at ft
        | succ m' => exact ⟨m', rfl⟩
      obtain ⟨fl, fa⟩ := fit_tup.mp ft
      have lx := shAll_len r
      refine ⟨_, rfl, slot, rfl, rfl, _, rfl, iteB (by rw [las]; rfl) ?_⟩
      refine ⟨_, rfl, a, rfl, ⟨xs, SqT.of ha⟩, fun D hD => lc_tup (K := K) (a := a) (xs := xs) (fun i G => ∃ ys, G D = some (.lst ys) ∧ ShAll G (fun b => b ≠ D ∧ Pn H P0 b) true ys ((ds.take i).map (calD (dF kn) (dF km))) ∧ Same H G)
        ⟨[], upd_same, .nil, same_new hD⟩ (fun i G _ pv => SqT.of (pv.elim fun _ z => z.2.2 _ _ ha)) (fun i y G hy pv => ?_) fun G pv => ?_⟩
      · obtain ⟨ys, gD, sy, sG⟩ := pv
        obtain ⟨dy, hdy, day⟩ := r.get hy
        have ly := shAll_len sy
        have mdy := List.mem_of_getElem? hdy
        refine ⟨rfl, _, rfl, _, rfl, _, rfl, y, dy, fun b => P0 b ∧ H b ≠ none, aN, aM, kn, km, rfl, fit_mono (Nat.le_refl _) dy (Nat.le_succ _) (fa dy mdy), sh_old (fun a o _ h => sG _ _ h) day, term_right (tm dy mdy), hN.same sG, hM.same sG, fun y' G2 s2 sh2 => ?_⟩
        have nb : ∀ b, Pn G (fun b => P0 b ∧ H b ≠ none) b → b ≠ D := fun b h => by
          rcases h with h | ⟨h1, h2⟩
          · exact ne_of_none' h gD
          · exact fun z => h2 (z ▸ hD)
        refine ⟨_, s2 _ _ gD, by rw [ly, List.length_map, List.length_take]; exact small1000 (by omega), ys ++ [y'], upd_same, ?_, fun b o h => ?_⟩
        · have tk : (ds.take (i + 1)).map (calD (dF kn) (dF km)) = (ds.take i).map (calD (dF kn) (dF km)) ++ [calD (dF kn) (dF km) dy] := by
            rw [List.take_add_one, hdy, List.map_append]
            rfl
          rw [tk]
          have pnx : ∀ b, Pn G (fun b => P0 b ∧ H b ≠ none) b → Pn H P0 b := fun b h => by
            rcases h with h | ⟨h1, h2⟩
            · exact .inl (none_back sG h)
            · exact .inr h1
          refine ShAll.append (ShAll.on (fun _ _ h _ => h) (fun b o h z => ?_) _ _ sy) (.cons (Sh.on (fun b o h z => ⟨nb b h, pnx b h⟩) (fun b o h z => ?_) _ _ sh2) .nil)
          · rw [upd_ne h.1]
            exact s2 _ _ z
          · rw [upd_ne (nb b h)]
            exact z
        · rw [upd_ne (ne_of_none h hD)]
          exact s2 _ _ (sG _ _ h)
      · obtain ⟨ys, gD, sy, sG⟩ := pv
        rw [lx, List.take_length] at sy
        refine ⟨D, _, rfl, .inl ⟨SqL.of gD, fun u hu => ?_⟩⟩
        refine q _ _ (same_trans_new sG hu) ?_
        have eh : heldD (dF kn) (dF km) slot (.tuple ds) = .tuple (ds.map (calD (dF kn) (dF km))) := held_row ds h1 e2
        rw [eh]
        exact .tup upd_same (.inl (none_back sG hu)) (ShAll.on (fun _ _ h _ => h.2) (fun b o _ h => by rw [upd_ne (ne_of_none h hu)]; exact h) _ _ sy)
    | none =>
      rw [e2] at eS
      refine ⟨_, rfl, slot, rfl, rfl, _, rfl, iteN (by rw [FS.none eS]; rfl) ?_⟩
      have get_ : ∀ (aX : Addr) (kx : List (Key × V)), StrD H aX kx → heldD (dF kn) (dF km) slot d = nmC (dF kx) d → (d = .none ∨ ∃ z, d = .str z) → (x = .non ∧ Q .non H) ∨ ∃ z, x = .str z ∧ Q ((valV kx (.inr z)).getD (.str z)) H := fun aX kx hX eh dd => by
        rcases dd with rfl | ⟨z, rfl⟩
        · cases sh
          refine .inl ⟨rfl, q _ _ (Same.refl _) ?_⟩
          rw [eh]
          exact .non
        · cases sh
          refine .inr ⟨z, rfl, ?_⟩
          rw [dF_get hX.2 z]
          refine q _ _ (Same.refl _) ?_
          rw [eh]
          exact .str _
      have done : ∀ (aX : Addr) (kx : List (Key × V)), StrD H aX kx → ((x = .non ∧ Q .non H) ∨ ∃ z, x = .str z ∧ Q ((valV kx (.inr z)).getD (.str z)) H) → ((∃ o, DGet H aX x o ∧ Q (o.getD x) H) ∨ (x = .non ∧ ∃ kvs, Rd H aX (.dK kvs) ∧ Q x H)) := fun aX kx hX h => by
        rcases h with ⟨rfl, h⟩ | ⟨z, rfl, h⟩
        · exact .inr ⟨rfl, kx, .inl hX.1, h⟩
        · exact .inl ⟨_, .inl ⟨kx, .inr z, .inl hX.1, rfl, rfl⟩, h⟩
      by_cases h2 : (decide (V.str slot = V.str "name") || decide (V.str slot = V.str "every")) = true
      · have dd : d = .none ∨ ∃ z, d = .str z := by
          rcases Bool.or_eq_true_iff.mp h2 with h | h
          · have ec := decS h
            subst ec
            rw [fits_name] at fi
            cases d with
            | str z => exact .inr ⟨z, rfl⟩
            | _ => cases fi
          · have ec := decS h
            subst ec
            rw [fits_every] at fi
            cases d with
            | str z => exact .inr ⟨z, rfl⟩
            | none => exact .inl rfl
            | _ => cases fi
        have g := done aN kn hN (get_ aN kn hN (held_nm d h1 e2 h2) dd)
        refine ⟨_, rfl, rfl, _, rfl, ?_⟩
        by_cases h3 : decide (V.str slot = V.str "name") = true
        · rw [h3]
          exact iteT (iteT ⟨_, rfl, aN, rfl, .inl ⟨kn, .inl hN.1⟩, _, rfl, _, rfl, g⟩)
        · rw [Bool.eq_false_iff.mpr h3] at h2 ⊢
          rw [Bool.false_or] at h2
          refine iteF ⟨_, rfl, rfl, _, rfl, ?_⟩
          rw [h2]
          exact iteT ⟨_, rfl, aN, rfl, .inl ⟨kn, .inl hN.1⟩, _, rfl, _, rfl, g⟩
      · have n1 : decide (V.str slot = V.str "name") = false := by
          cases z : decide (V.str slot = V.str "name") with
          | false => rfl
          | true => exact absurd (by rw [z]; rfl) h2
        have n2 : decide (V.str slot = V.str "every") = false := by
          cases z : decide (V.str slot = V.str "every") with
          | false => rfl
          | true => exact absurd (by rw [z, Bool.or_true]) h2
        refine ⟨_, rfl, rfl, _, rfl, ?_⟩
        rw [n1]
        refine iteF ⟨_, rfl, rfl, _, rfl, ?_⟩
        rw [n2]
        refine iteF ⟨_, rfl, rfl, _, rfl, ite2 (fun h3 => ?_) (fun h3 => ?_)⟩
        · have ec := decS h3
          subst ec
          rw [fits_node] at fi
          have dd : d = .none ∨ ∃ z, d = .str z := by
            cases d with
            | str z => exact .inr ⟨z, rfl⟩
            | _ => cases fi
          exact ⟨_, rfl, aM, rfl, .inl ⟨km, .inl hM.1⟩, _, rfl, _, rfl, done aM km hM (get_ aM km hM (held_nd d h1 e2 h2 h3) dd)⟩
        · have eh : heldD (dF kn) (dF km) slot d = d := held_id d h1 e2 h2 h3
          refine ⟨_, rfl, q _ _ (Same.refl _) ?_⟩
          rw [eh]
          exact Sh.on (fun b o h _ => .inr h) (fun _ _ _ e => e) _ _ sh
/-- both, however deep -/
theorem ok_bothO {f fh : Addr} {fd dh : FuncData} (F : Fun K "_called_otherwise" "_called_otherwise" sCalledO f fd) (FH : Fun K "_held_otherwise" "_held_otherwise" sHeldO fh dh) (T : Tbs K w mg aF aS aC) (DC : Df K mg "_called_otherwise" f fd pCalledO) (DH : Df K mg "_held_otherwise" fh dh pHeldO) (mz : mg "zip" = none) (mt : mg "tuple" = none) :
    ∀ m, FnOk P w K mg base CX0 (2 * m + 1) f fd pCalledO (spCalledO m)
  | 0 => calledO_zero
  | m + 1 => ok_calledO F T DH (ok_heldO FH T DC (ok_bothO F FH T DC DH mz mt m) mt) mz mt
end
end K5
end Bf

namespace Bf
open PySem PySem.Spec PyProof.Rows L2
namespace K5
section
variable {P : Program} {w : World} {K : PySem.W.Frag} {mg : Str → Option Value} {base : Heap} {aF aS aC : Addr}
/-- a dict of flat values, as g tells of all keys and values -/
structure FlatD (H : Hp) (v : V) (a : Addr) (kvs : List (Key × V)) (ds : List (PyData × PyData)) : Prop where
  ev : v = .ref a
  at_ : H a = some (.dK kvs)
  dic : DicAll kvs ds
  sh : ∀ p ∈ ds, shortD p.1 = true ∧ shortD p.2 = true
  len : kvs.length ≤ 1000
  nd : (kvs.map (·.1)).Nodup
def NoDict (g : PyData → Bool) (H : Hp) (v : V) : Prop := (∃ d, Da H v d ∧ ∀ kv, d ≠ .dict kv) ∨ ∃ a kvs ds, FlatD H v a kvs ds ∧ dictG g ds = false
def IsDict (g : PyData → Bool) (H : Hp) (v : V) (kvs : List (Key × V)) : Prop := ∃ a ds, FlatD H v a kvs ds ∧ dictG g ds = true
theorem FlatD.same {H H' : Hp} {v : V} {a : Addr} {kvs : List (Key × V)} {ds : List (PyData × PyData)} (s : Same H H') (h : FlatD H v a kvs ds) : FlatD H' v a kvs ds := ⟨h.ev, s _ _ h.at_, h.dic, h.sh, h.len, h.nd⟩
theorem NoDict.same {g : PyData → Bool} {H H' : Hp} {v : V} (s : Same H H') (h : NoDict g H v) : NoDict g H' v := by
  rcases h with ⟨d, da, n⟩ | ⟨a, kvs, ds, f, e⟩
  · exact .inl ⟨d, da.same s, n⟩
  · exact .inr ⟨a, kvs, ds, f.same s, e⟩
theorem IsDict.same {g : PyData → Bool} {H H' : Hp} {v : V} {kvs : List (Key × V)} (s : Same H H') (h : IsDict g H v kvs) : IsDict g H' v kvs := let ⟨a, ds, f, e⟩ := h; ⟨a, ds, f.same s, e⟩
/-- _is_dict_of, asked -/
theorem dict_no {fg : Addr} {g : PyData → Bool} {H : Hp} {v : V} {Q : VK} {E : XK} (h : NoDict g H v) (q : ∀ H', Same H H' → Q (.bl false) H') : spDictOf fg g [v, .ref fg] H Q E := by
  rcases h with ⟨d, da, n⟩ | ⟨a, kvs, ds, f, e⟩
  · exact ⟨v, rfl, .inl ⟨d, da, n, q _ (Same.refl _)⟩⟩
  · exact ⟨v, rfl, .inr ⟨a, kvs, ds, f.ev, f.at_, f.dic, f.sh, f.len, f.nd, fun H' s => by rw [e]; exact q H' s⟩⟩
theorem dict_yes {fg : Addr} {g : PyData → Bool} {H : Hp} {v : V} {kvs : List (Key × V)} {Q : VK} {E : XK} (h : IsDict g H v kvs) (q : ∀ H', Same H H' → Q (.bl true) H') : spDictOf fg g [v, .ref fg] H Q E := by
  obtain ⟨a, ds, f, e⟩ := h
  exact ⟨v, rfl, .inr ⟨a, kvs, ds, f.ev, f.at_, f.dic, f.sh, f.len, f.nd, fun H' s => by rw [e]; exact q H' s⟩⟩
theorem dic_strs {g : PyData → Bool} (hg : ∀ d, g d = true → ∃ z, d = .str z) : ∀ {kvs : List (Key × V)} {ds : List (PyData × PyData)}, DicAll kvs ds → dictG g ds = true → ∀ p ∈ kvs, ∃ y, p.2 = .str y
  | _, _, .nil, _, _, m => nomatch m
  | _, _, .cons (k := k) (v := v) (d := d) f r, e, p, m => by
    have e' : ((g (keyD k) && g d) && dictG g _) = true := e
    obtain ⟨e1, e2⟩ := Bool.and_eq_true_iff.mp e'
    rcases List.mem_cons.mp m with rfl | m
    · obtain ⟨z, rfl⟩ := hg d (Bool.and_eq_true_iff.mp e1).2
      cases f
      exact ⟨z, rfl⟩
    · exact dic_strs hg r e2 p m
theorem name_str (d : PyData) (h : nameD d = true) : ∃ z, d = .str z := by
  cases d with
  | str z => exact ⟨z, rfl⟩
  | _ => cases h
theorem node_str (d : PyData) (h : nodeD d = true) : ∃ z, d = .str z := by
  cases d with
  | str z => exact ⟨z, rfl⟩
  | _ => cases h
theorem IsDict.strD {g : PyData → Bool} (hg : ∀ d, g d = true → ∃ z, d = .str z) {H : Hp} {v : V} {kvs : List (Key × V)} (h : IsDict g H v kvs) : ∃ a, v = .ref a ∧ StrD H a kvs :=
  let ⟨a, _, f, e⟩ := h
  ⟨a, f.ev, f.at_, dic_strs hg f.dic e⟩
abbrev pRen : List Str := ["right", "names", "nodes"]
theorem scRen : FnScope pRen pRen (defScope sRenamed) := ⟨rfl, rfl, rfl, by decide +kernel, rfl, by decide +kernel, by decide +kernel⟩
def spRen (cT cN : Addr) : Sp := fun vs H Q E => ∃ (x nv mv : V) (d : PyData), vs = [x, nv, mv] ∧ Da H x d ∧ sz d ≤ 900000 ∧
  ((rightD d = false ∧ Refuses cT x H E) ∨
   (rightD d = true ∧ NoDict nameD H nv ∧ Refuses cN nv H E) ∨
   (rightD d = true ∧ (∃ kn, IsDict nameD H nv kn) ∧ mv ≠ .non ∧ NoDict nodeD H mv ∧ Refuses cN mv H E) ∨
   (rightD d = true ∧ fit 6 10 d ∧ ∃ (P0 : Addr → Prop) (kn km : List (Key × V)), Sh H P0 true x d ∧ IsDict nameD H nv kn ∧ ((mv = .non ∧ km = []) ∨ (mv ≠ .non ∧ IsDict nodeD H mv km)) ∧
     ∀ y H', Same H H' → Sh H' (Pn H P0) true y (calD (dF kn) (dF km) d) → Q y H'))
/-- what renamed calls -/
structure Rnm (P : Program) (w : World) (K : PySem.W.Frag) (mg : Str → Option Value) (base : Heap) (cT cN fN fn fd_ fc fg fh : Addr) (dN dn dd dc dg dh : FuncData) : Prop where
  TN : ExT K mg "NoNames" cN fN dN
  GN : FnOk P w K mg base CX0 3 fN dN ["self", "found"] (spInit K cN)
  Dn : Df K mg "_need_right" fn dn ["thing"]
  Gn : FnOk P w K mg base (CXL P w) 9 fn dn ["thing"] (spNeed cT)
  Dd : Df K mg "_is_dict_of" fd_ dd ["thing", "is_good"]
  G1 : FnOk P w K mg base CX0 4 fd_ dd ["thing", "is_good"] (spDictOf fg nameD)
  G2 : FnOk P w K mg base CX0 4 fd_ dd ["thing", "is_good"] (spDictOf fh nodeD)
  Dc : Df K mg "_called_otherwise" fc dc pCalledO
  Gc : FnOk P w K mg base CX0 21 fc dc pCalledO (spCalledO 10)
  Dg : Df K mg "is_name" fg dg ["thing"]
  Dh : Df K mg "is_node_name" fh dh ["thing"]
theorem ok_ren {f cT cN fN fn fd_ fc fg fh : Addr} {fd dN dn dd dc dg dh : FuncData} (F : FunD K "renamed" "renamed" (defArgs sRenamed) (defBody sRenamed) (defScope sRenamed) [] [("nodes", .non)] f fd) (N : Rnm P w K mg base cT cN fN fn fd_ fc fg fh dN dn dd dc dg dh) :
    FnOk P w K mg base (CXL P w) 22 f fd pRen (spRen cT cN) := by
  refine FunD.ok F scRen (fun vs H Q E h => ?_) (fun cdv A outer s H vs Q E hr h => ?_)
  · obtain ⟨x, nv, mv, d, rfl, _⟩ := h
    rfl
  · obtain ⟨x, nv, mv, d, rfl, da, hz, q⟩ := h
    have hr9 := hr.mono (by decide : 9 ≤ 21)
    have hr4 := hr.mono (by decide : 4 ≤ 21)
    have hr4' := hr.mono (by decide : 4 ≤ 21)
    refine ⟨_, (pss_cons (ps_expr (pe_call (E := E) N.Gn hr9 (by rfl) N.Dn.at_ N.Dn.kp N.Dn.bd .nil (passes_call (takes_of rfl rfl rfl rfl) (fun _ _ _ _ h => h)) (pa_cons (pv 0) pa_nil)))
      (pss_cons (ps_if (pt_not (pt_val (pe_call N.G1 hr4 (by rfl) N.Dd.at_ N.Dd.kp N.Dd.bd .nil pass0 (pa_cons (pv 1) (pa_cons (pe_glob (v := .ref fg) (by rfl) N.Dg.at_ rfl) pa_nil))))) (pss_one (ps_raise rfl (takes_of rfl rfl rfl rfl) (pmk_oex N.TN.ox N.TN.iC N.TN.tI N.GN hr4 N.TN.bd .nil pass0 (by rfl) N.TN.gC (pa_cons (pv 1) pa_nil)))) pss_nil)
      (pss_cons (ps_if (PW.pt (pw_and (pt_cmpR op_notN (pv 2) pe_non (nomark _)) (pw_and1 (pt_not (pt_val (pe_call N.G2 hr4 (by rfl) N.Dd.at_ N.Dd.kp N.Dd.bd .nil pass0 (pa_cons (pv 2) (pa_cons (pe_glob (v := .ref fh) (by rfl) N.Dh.at_ rfl) pa_nil)))))))) (pss_one (ps_raise rfl (takes_of rfl rfl rfl rfl) (pmk_oex N.TN.ox N.TN.iC N.TN.tI N.GN hr4 N.TN.bd .nil pass0 (by rfl) N.TN.gC (pa_cons (pv 2) pa_nil)))) pss_nil)
      (pss_one (ps_ret (pe_call N.Gc hr (by rfl) N.Dc.at_ N.Dc.kp N.Dc.bd .nil pass0 (pa_cons (pv 0) (pa_cons (pv 1) (pa_cons (pe_ifExp (pt_cmpR op_isN (pv 2) pe_non (nomark _)) pe_dnewK (pv 2)) pa_nil))))))))), ?_⟩
    refine ⟨_, rfl, x, d, rfl, da, hz, ?_⟩
    rcases q with ⟨e, q⟩ | ⟨e, nd, q⟩ | ⟨e, ⟨kn, gd⟩, nm, nd, q⟩ | ⟨e, ft, P0, kn, km, sh, gd, gm, q⟩
    · exact .inl ⟨e, q⟩
    · refine .inr ⟨e, fun H1 s1 => ⟨_, rfl, ?_⟩⟩
      dsimp only [tCons, tNil, tC, List.cons_append, List.nil_append]
      refine dict_no (nd.same s1) fun H2 s2 => ⟨_, rfl, ?_⟩
      exact iteT ⟨_, rfl, raise_reads (refuses_later q (s1.trans s2))⟩
    · refine .inr ⟨e, fun H1 s1 => ⟨_, rfl, ?_⟩⟩
      dsimp only [tCons, tNil, tC, List.cons_append, List.nil_append]
      refine dict_yes (gd.same s1) fun H2 s2 => ⟨_, rfl, ?_⟩
      refine iteF ⟨_, rfl, rfl, _, rfl, ?_⟩
      rw [decide_eq_false nm]
      refine iteT ⟨_, rfl, ?_⟩
      dsimp only [tCons, tNil, tC, List.cons_append, List.nil_append]
      refine dict_no (nd.same (s1.trans s2)) fun H3 s3 => ⟨_, rfl, ?_⟩
      exact iteT ⟨_, rfl, raise_reads (refuses_later q ((s1.trans s2).trans s3))⟩
    · refine .inr ⟨e, fun H1 s1 => ⟨_, rfl, ?_⟩⟩
      dsimp only [tCons, tNil, tC, List.cons_append, List.nil_append]
      refine dict_yes (gd.same s1) fun H2 s2 => ⟨_, rfl, ?_⟩
      refine iteF ⟨_, rfl, rfl, _, rfl, ?_⟩
      have s12 := s1.trans s2
      obtain ⟨aN, rfl, hN⟩ := gd.strD name_str
      rcases gm with ⟨rfl, rfl⟩ | ⟨nm, gm⟩
      · rw [decide_eq_true rfl]
        refine iteF ⟨_, rfl, _, rfl, _, rfl, rfl, _, rfl, ?_⟩
        rw [decide_eq_true rfl]
        refine iteT fun p hp => ?_
        have sp := same_trans_new (o := .dK []) s12 hp
        refine ⟨x, d, fun a => P0 a ∧ H a ≠ none, aN, p, kn, [], rfl, ft, sh_old (fun a o _ h => sp _ _ h) sh, e, hN.same sp, ⟨upd_same, fun _ m => nomatch m⟩, fun y H' s' h => q y H' (sp.trans s') (Sh.on (fun b o h z => ?_) (fun _ _ _ e => e) _ _ h)⟩
        rcases h with h | h
        · exact .inl (none_back sp h)
        · exact .inr h.1
      · obtain ⟨aM, rfl, hM⟩ := gm.strD node_str
        rw [decide_eq_false nm]
        refine iteT ⟨_, rfl, ?_⟩
        dsimp only [tCons, tNil, tC, List.cons_append, List.nil_append]
        refine dict_yes (gm.same s12) fun H3 s3 => ⟨_, rfl, ?_⟩
        have s13 := s12.trans s3
        refine iteF ⟨_, rfl, _, rfl, _, rfl, rfl, _, rfl, ?_⟩
        rw [decide_eq_false nm]
        refine iteF ⟨_, rfl, ?_⟩
        refine ⟨x, d, fun a => P0 a ∧ H a ≠ none, aN, aM, kn, km, rfl, ft, sh_old (fun a o _ h => s13 _ _ h) sh, e, hN.same s13, hM.same s13, fun y H' s' h => q y H' (s13.trans s') (Sh.on (fun b o h z => ?_) (fun _ _ _ e => e) _ _ h)⟩
        rcases h with h | h
        · exact .inl (none_back s13 h)
        · exact .inr h.1
end
end K5
end Bf

namespace Bf
open PySem PySem.Spec PyProof.Rows L2
theorem slN {X : Cx} {K : PySem.W.Frag} (h : X.K = K) : SlR X (rSlN K) := by
  subst h
  exact sl_listN
theorem notInK {X : Cx} {K : PySem.W.Frag} (h : X.K = K) : OpR X (compareOp .NotIn) (rIn K true) := by
  subst h
  exact op_notIn_seq
theorem inV_strs (z : Str) : ∀ l : List Str, inV (.str z) (l.map V.str) = decide (z ∈ l)
  | [] => rfl
  | a :: r => by
    show (eqV (.str a) (.str z) || inV (.str z) (r.map V.str)) = _
    rw [inV_strs z r]
    show ((a == z) || decide (z ∈ r)) = _
    by_cases e : a = z
    · subst e
      rw [beq_self_eq_true, Bool.true_or, decide_eq_true List.mem_cons_self]
    · rw [beq_eq_false_iff_ne.mpr e, Bool.false_or]
      by_cases m : z ∈ r
      · rw [decide_eq_true m, decide_eq_true (List.mem_cons_of_mem _ m)]
      · rw [decide_eq_false m, decide_eq_false fun k => (List.mem_cons.mp k).elim (fun q => e q.symm) m]
theorem flat_strs (l : List Str) : (l.map V.str).all flatV = true := by
  rw [List.all_map]
  exact List.all_eq_true.mpr fun _ _ => rfl
theorem cut_to {xs : List V} {k : Nat} (h : k ≤ xs.length) : cutV xs none (some (k : Int)) = xs.take k := by
  unfold cutV
  rw [HT.sIx_none, HT.sIx_nat, List.drop_zero, Nat.sub_zero, Nat.min_eq_left h]
theorem cut_one {x : V} {xs : List V} : cutV (x :: xs) (some (1 : Int)) (some (2 : Int)) = xs.take 1 := by
  unfold cutV
  rw [show (1 : Int) = ((1 : Nat) : Int) from rfl, show (2 : Int) = ((2 : Nat) : Int) from rfl, HT.sIx_nat, HT.sIx_nat]
  cases xs with
  | nil => rfl
  | cons y r =>
    rw [Nat.min_eq_left (by simp), Nat.min_eq_left (by simp)]
    rfl
theorem cut_two {x y : V} {xs : List V} : cutV (x :: y :: xs) (some (2 : Int)) (some (3 : Int)) = xs.take 1 := by
  unfold cutV
  rw [show (2 : Int) = ((2 : Nat) : Int) from rfl, show (3 : Int) = ((3 : Nat) : Int) from rfl, HT.sIx_nat, HT.sIx_nat]
  cases xs with
  | nil => rfl
  | cons z r =>
    rw [Nat.min_eq_left (by simp), Nat.min_eq_left (by simp)]
    rfl
theorem kne {a b : Str} {v : V} (h : a ≠ b) : ¬ ((.inr a : Key), v).1 = .inr b := fun e => h (by injection e)
theorem merge3 {k1 k2 k3 : Key} (a b c : V) (h12 : k1 ≠ k2) (h13 : k1 ≠ k3) (h23 : k2 ≠ k3) : mergeK [] [(k1, a), (k2, b), (k3, c)] = [(k1, a), (k2, b), (k3, c)] := by
  show putK (putK (putK [] k1 a) k2 b) k3 c = _
  rw [putK_new (kvs := []) a valV_nil, List.nil_append, putK_new b (by rw [valV_neg (p := (k1, a)) h12]; exact valV_nil), putK_new c (by
    show valV [(k1, a), (k2, b)] k3 = none
    rw [valV_neg (p := (k1, a)) h13, valV_neg (p := (k2, b)) h23]
    exact valV_nil)]
  rfl
namespace K5
section
variable {P : Program} {w : World} {K : PySem.W.Frag} {mg : Str → Option Value} {base : Heap} {aF aS aC : Addr}
/-! ### _law_named -/
def spLNamed : Sp := fun vs H Q _ => ∃ (x : V) (d : PyData) (Hs : Hp), vs = [x] ∧ Same Hs H ∧ Da Hs x d ∧ termD d = true ∧ ∀ t G, Same H G → G t = some (.tup ((nmP d).map V.str)) → Q (.ref t) G
theorem scLNamed : FnScope ["_law_part"] ["_law_part"] (defScope sLNamed) := ⟨rfl, rfl, rfl, by decide +kernel, rfl, by decide +kernel, by decide +kernel⟩
theorem ok_lnamed {f : Addr} {fd : FuncData} (F : Fun K "_law_named" "_law_named" sLNamed f fd) : FnOk P w K mg base CX0 1 f fd ["_law_part"] spLNamed := by
  refine F.ok scLNamed (fun vs H Q E h => ?_) (fun cdv A outer s H vs Q E hr h => ?_)
  · obtain ⟨x, d, Hs, rfl, _⟩ := h
    rfl
  · obtain ⟨x, d, Hs, rfl, sH, da, td, q⟩ := h
    refine ⟨_, pss_one (ps_ret (pe_dget2 (Nat.lt_of_le_of_lt (Nat.add_le_add_left (by decide) _) hr.units) (pe_disp (pps_cons pe_str (pe_slice sl_tupA (pv 0) (po_some pe_int) (po_some pe_int)) (pps_cons pe_str (pe_slice sl_tupA (pv 0) (po_some pe_int) (po_some pe_int)) (pps_cons pe_str (pe_slice sl_tupA (pv 0) (po_some pe_int) (po_some pe_int)) pps_nil))) rfl rfl (by simp) (by decide))
      (pe_ix ix_tup (pv 0) pe_int (fun _ _ => rfl)) (pe_tup pa_nil) ⟨rfl, rfl, rfl, rfl⟩)), ?_⟩
    obtain ⟨f1, c1, _⟩ := term_inv td
    obtain ⟨c, rest, ss, rfl, el, hl, hf, _⟩ := formed_inv f1
    obtain ⟨a, vs, rfl, ha, rv, lv⟩ := Da_at da
    have ha := sH _ _ ha
    have l1 : 1 ≤ vs.length := by
      have := fm_len el
      have := rv.len
      omega
    intro p hp
    have sp := same_new (o := .dK []) hp
    -- three slices
    obtain ⟨v1, vs', rfl⟩ : ∃ v1 vs', vs = v1 :: vs' := by
      cases vs with
      | nil => exact absurd l1 (by decide)
      | cons v1 vs' => exact ⟨v1, vs', rfl⟩
    have nf : ∀ (k : Nat) (hi : Option Int), ¬ (HT.sIx (V.str c :: v1 :: vs').length 0 (some ((k + 1 : Nat) : Int)) = 0 ∧ HT.sIx (V.str c :: v1 :: vs').length (V.str c :: v1 :: vs').length hi = (V.str c :: v1 :: vs').length) := fun k hi z => by
      have z1 := z.1
      rw [HT.sIx_nat, List.length_cons] at z1
      omega
    have npa : p ≠ a := fun e => by rw [e, ha] at hp; cases hp
    refine ⟨_, rfl, 1, rfl, 2, rfl, a, _, rfl, SqT.of (sp _ _ ha), fun z => absurd z (nf 0 _), fun _ t1 h1 => ?_⟩
    rw [cut_one] at *
    have s1 := same_trans_new (o := .tup ((v1 :: vs').take 1)) sp h1
    refine ⟨_, rfl, 2, rfl, 3, rfl, a, _, rfl, SqT.of (s1 _ _ ha), fun z => absurd z (nf 1 _), fun _ t2 h2 => ?_⟩
    rw [cut_two]
    have s2 := same_trans_new (o := .tup (vs'.take 1)) s1 h2
    refine ⟨_, rfl, 1, rfl, 2, rfl, a, _, rfl, SqT.of (s2 _ _ ha), fun z => absurd z (nf 0 _), fun _ t3 h3 => ?_⟩
    rw [cut_one]
    have s3 := same_trans_new (o := .tup ((v1 :: vs').take 1)) s2 h3
    have n1 : p ≠ t1 := fun e => by rw [← e, upd_same] at h1; cases h1
    have n2 : p ≠ t2 := fun e => by rw [← e, upd_ne n1, upd_same] at h2; cases h2
    have n3 : p ≠ t3 := fun e => by rw [← e, upd_ne n2, upd_ne n1, upd_same] at h3; cases h3
    have n12 : t1 ≠ t2 := fun e => by rw [← e, upd_same] at h2; cases h2
    have n13 : t1 ≠ t3 := fun e => by rw [← e, upd_ne n12, upd_same] at h3; cases h3
    have n23 : t2 ≠ t3 := fun e => by rw [← e, upd_same] at h3; cases h3
    refine ⟨by rw [upd_ne n3, upd_ne n2, upd_ne n1, upd_same], [(.inr "name", .ref t1), (.inr "when", .ref t2), (.inr "merge", .ref t3)], rfl, by show 3 ≤ 15; decide, ?_⟩
    rw [merge3 _ _ _ (fun e => by revert e; decide +kernel) (fun e => by revert e; decide +kernel) (fun e => by revert e; decide +kernel)]
    generalize hG : upd (upd (upd (upd (upd H p (HO.dK [])) t1 (HO.tup ((v1 :: vs').take 1))) t2 (HO.tup (vs'.take 1))) t3 (HO.tup ((v1 :: vs').take 1))) p (HO.dK [(.inr "name", .ref t1), (.inr "when", .ref t2), (.inr "merge", .ref t3)]) = G
    have gp : G p = some (.dK [(.inr "name", .ref t1), (.inr "when", .ref t2), (.inr "merge", .ref t3)]) := by rw [← hG, upd_same]
    have g1 : G t1 = some (.tup ((v1 :: vs').take 1)) := by rw [← hG, upd_ne n1.symm, upd_ne n13, upd_ne n12, upd_same]
    have g2 : G t2 = some (.tup (vs'.take 1)) := by rw [← hG, upd_ne n2.symm, upd_ne n23, upd_same]
    have g3 : G t3 = some (.tup ((v1 :: vs').take 1)) := by rw [← hG, upd_ne n3.symm, upd_same]
    have sG : Same H G := fun b o h => by
      rw [← hG, upd_ne (ne_of_none h hp)]
      exact s3 _ _ h
    clear hG
    refine ⟨p, rfl, .inl ⟨_, .inl gp⟩, _, rfl, a, _, ((0 : Nat) : Int), _, rfl, rfl, SqT.of (sG _ _ ha), atI_nat rfl, by show 0 ≤ sizeLine; decide, fun t0 h0 => ?_⟩
    have sn := same_new (o := .tup []) h0
    have s0 := sG.trans sn
    refine ⟨_, .inl ⟨_, .inr c, .inl (sn _ _ gp), rfl, rfl⟩, ?_⟩
    obtain ⟨d1, rest', rfl⟩ : ∃ d1 r, rest = d1 :: r := by
      cases rv with
      | cons _ _ => exact ⟨_, _, rfl⟩
    have lit1 : ∀ z, (d1 :: rest')[0]? = some (.str z) → (v1 :: vs').take 1 = [V.str z] := fun z e => by
      cases rv with
      | cons h r =>
        cases e
        cases h
        rfl
    by_cases h1' : decide (V.str c = V.str "name") = true
    · have ec := decS h1'
      subst ec
      rw [valV_pos (p := ((.inr "name" : Key), V.ref t1)) rfl]
      obtain ⟨z, hz0, _⟩ := w_name f1
      refine q t1 _ s0 ?_
      rw [nmP_tup, if_pos (by rw [h1']; rfl), strAt_eq hz0]
      have z1 := sn _ _ g1
      rw [lit1 z hz0] at z1
      exact z1
    by_cases h2' : decide (V.str c = V.str "when") = true
    · have ec := decS h2'
      subst ec
      rw [valV_neg (p := ((.inr "name" : Key), V.ref t1)) (kne (by decide +kernel)), valV_pos (p := ((.inr "when" : Key), V.ref t2)) rfl]
      obtain ⟨z, hz0, _⟩ := w_when f1
      refine q t2 _ s0 ?_
      rw [nmP_tup, if_neg (by decide +kernel), if_pos h2', strAt_eq hz0]
      have z1 := sn _ _ g2
      have e : vs'.take 1 = [V.str z] := by
        cases rv with
        | cons h r =>
          cases r with
          | nil => cases hz0
          | cons h2 r2 =>
            cases hz0
            cases h2
            rfl
      rw [e] at z1
      exact z1
    by_cases h3' : decide (V.str c = V.str "merge") = true
    · have ec := decS h3'
      subst ec
      rw [valV_neg (p := ((.inr "name" : Key), V.ref t1)) (kne (by decide +kernel)), valV_neg (p := ((.inr "when" : Key), V.ref t2)) (kne (by decide +kernel)), valV_pos (p := ((.inr "merge" : Key), V.ref t3)) rfl]
      obtain ⟨z, hz0, _⟩ := w_merge f1
      refine q t3 _ s0 ?_
      rw [nmP_tup, if_pos (by rw [h3', Bool.or_true]), strAt_eq hz0]
      have z1 := sn _ _ g3
      rw [lit1 z hz0] at z1
      exact z1
    · have ne : ∀ y : Str, ¬ decide (V.str c = V.str y) = true → ¬ (.inr y : Key) = .inr c := fun y h e => h (by
        injection e with e
        rw [e]
        exact decide_eq_true rfl)
      rw [valV_neg (p := ((.inr "name" : Key), V.ref t1)) (ne _ h1'), valV_neg (p := ((.inr "when" : Key), V.ref t2)) (ne _ h2'), valV_neg (p := ((.inr "merge" : Key), V.ref t3)) (ne _ h3'), valV_nil]
      refine q t0 _ s0 ?_
      rw [nmP_tup, if_neg (by rw [Bool.eq_false_iff.mpr h1', Bool.eq_false_iff.mpr h3']; exact Bool.false_ne_true), if_neg h2']
      exact upd_same
/-! ### _law_once -/
def spLOnce : Sp := fun vs H Q _ => ∃ (a : Addr) (ss : List Str), vs = [.ref a] ∧ H a = some (.lst (ss.map V.str)) ∧ ss.length ≤ 2000000 ∧ ∀ p G, Same H G → H p = none → G p = some (.lst ((onceS ss).map V.str)) → Q (.ref p) G
abbrev nLOnce : List Str := ["_law_names", "_law_k", "_law_name_here"]
theorem scLOnce : FnScope nLOnce ["_law_names"] (defScope sLOnce) := ⟨rfl, rfl, rfl, by decide +kernel, rfl, by decide +kernel, by decide +kernel⟩
theorem ok_lonce {f : Addr} {fd : FuncData} (F : Fun K "_law_once" "_law_once" sLOnce f fd) (me : mg "enumerate" = none) : FnOk P w K mg base CX0 1 f fd ["_law_names"] spLOnce := by
  refine F.ok scLOnce (fun vs H Q E h => ?_) (fun cdv A outer s H vs Q E hr h => ?_)
  · obtain ⟨a, ss, rfl, _⟩ := h
    rfl
  · obtain ⟨a, ss, rfl, ha, hz, q⟩ := h
    refine ⟨_, pss_one (ps_ret (pe_lc (own := [("_law_k", 1), ("_law_name_here", 2)]) (g := gTup K 2 (gCons (gName 1) (gCons (gName 2) gNil))) (tt := _) rfl scLOnce.nd (pi_enum (by rfl) me (pa_cons (pv 0) pa_nil)) (blkOk_by (N := nLOnce) (sc := defScope sLOnce) (by decide +kernel))
        (fun _ _ _ _ _ => pg_tup rfl (pgs_cons (pg_name (i := 1) scLOnce.nd rfl (Or.inl rfl)) (pgs_cons (pg_name (i := 2) scLOnce.nd rfl (Or.inl rfl)) pgs_nil)))
        (fun _ _ _ _ _ => pts_one (pt_cmpR (notInK (K := K) rfl) (pv 2) (pe_slice (slN (K := K) rfl) (pv 0) po_none (po_some (pv 1))) (by rfl))) (fun _ _ _ _ _ => pv 2))), ?_⟩
    refine ⟨_, rfl, a, _, rfl, SqL.of ha, fun D hD => ?_⟩
    refine lc_ite (K := K) (a := a) (xs := ss.map V.str) (fun i G => Same H G ∧ G D = some (.lst ((onceS (ss.take i)).map V.str))) ⟨same_new hD, upd_same⟩ (fun i G _ pv => SqL.of (pv.1 _ _ ha)) (fun i y G T hy pv hT => ?_) fun G pv => ?_
    · rw [List.getElem?_map] at hy
      cases hj : ss[i]? with
      | none => rw [hj] at hy; cases hy
      | some z =>
        rw [hj] at hy
        cases hy
        obtain ⟨sG, gD⟩ := pv
        have hi := (List.getElem?_eq_some_iff.mp hj).1
        have l1 := onceS_len (ss.take i)
        rw [List.length_take] at l1
        have sT := same_new (o := .tup [.int (i : Nat), .str z]) hT
        have s1 := sG.trans sT
        refine ⟨T, _, rfl, SqT.of upd_same, rfl, _, _, rfl, _, _, rfl, rfl, ?_⟩
        refine ⟨rfl, _, rfl, _, rfl, _, rfl, (i : Int), rfl, a, _, rfl, SqL.of (s1 _ _ ha), fun u hu _ => ?_⟩
        rw [cut_to (by rw [List.length_map]; omega), ← List.map_take]
        have s2 := same_trans_new (o := .lst ((ss.take i).map V.str)) s1 hu
        have st := sT.trans (same_new (o := .lst ((ss.take i).map V.str)) hu)
        refine ⟨u, _, rfl, .inl (SqL.of upd_same), rfl, flat_strs _, _, rfl, ?_⟩
        have tk : onceS (ss.take (i + 1)) = addS (onceS (ss.take i)) z := by
          rw [List.take_add_one, hj]
          exact foldS_snoc _ _
        rw [inV_strs]
        by_cases m : z ∈ ss.take i
        · rw [decide_eq_true m]
          refine iteF ⟨s2, ?_⟩
          rw [tk]
          unfold addS
          rw [if_pos ((onceS_mem _ _).mpr m)]
          exact st _ _ gD
        · rw [decide_eq_false m]
          refine iteT ⟨_, rfl, _, st _ _ gD, by rw [List.length_map, sizeLine_eq]; omega, fun b o h => ?_, ?_⟩
          · rw [upd_ne (ne_of_none h hD)]
            exact s2 _ _ h
          · rw [upd_same, tk]
            unfold addS
            rw [if_neg fun k => m ((onceS_mem _ _).mp k), List.map_append]
            rfl
    · obtain ⟨sG, gD⟩ := pv
      rw [List.length_map, List.take_length] at gD
      exact q D G sG hD gD
end
end K5
end Bf

set_option linter.unusedSimpArgs false
namespace Bf
open PySem PySem.Spec PyProof.Rows L2
namespace K5
/-! ### the forms taken apart, and called otherwise -/
theorem hd_kind {F : PyData → PyData} {f g : Str → Str} (d : PyData) : heldF F f g "kind" d = d := held_id d (by decide +kernel) (by decide +kernel) (by decide +kernel) (by decide +kernel)
theorem hd_worth {F : PyData → PyData} {f g : Str → Str} (d : PyData) : heldF F f g "worth" d = d := held_id d (by decide +kernel) (by decide +kernel) (by decide +kernel) (by decide +kernel)
theorem hd_width {F : PyData → PyData} {f g : Str → Str} (d : PyData) : heldF F f g "width" d = d := held_id d (by decide +kernel) (by decide +kernel) (by decide +kernel) (by decide +kernel)
theorem hd_truth {F : PyData → PyData} {f g : Str → Str} (d : PyData) : heldF F f g "truth" d = d := held_id d (by decide +kernel) (by decide +kernel) (by decide +kernel) (by decide +kernel)
theorem hd_bit {F : PyData → PyData} {f g : Str → Str} (d : PyData) : heldF F f g "bit" d = d := held_id d (by decide +kernel) (by decide +kernel) (by decide +kernel) (by decide +kernel)
theorem hd_place {F : PyData → PyData} {f g : Str → Str} (d : PyData) : heldF F f g "place" d = d := held_id d (by decide +kernel) (by decide +kernel) (by decide +kernel) (by decide +kernel)
theorem hd_name {F : PyData → PyData} {f g : Str → Str} (d : PyData) : heldF F f g "name" d = nmC f d := held_nm d (by decide +kernel) (by decide +kernel) (by decide +kernel)
theorem hd_every {F : PyData → PyData} {f g : Str → Str} (d : PyData) : heldF F f g "every" d = nmC f d := held_nm d (by decide +kernel) (by decide +kernel) (by decide +kernel)
theorem hd_node {F : PyData → PyData} {f g : Str → Str} (d : PyData) : heldF F f g "node" d = nmC g d := held_nd d (by decide +kernel) (by decide +kernel) (by decide +kernel) (by decide +kernel)
theorem hd_parts {F : PyData → PyData} {f g : Str → Str} (ds : List PyData) : heldF F f g "parts" (.tuple ds) = .tuple (ds.map F) := held_row (p := (2, 4)) ds (by decide +kernel) (by decide +kernel)
theorem hd_args {F : PyData → PyData} {f g : Str → Str} (ds : List PyData) : heldF F f g "args" (.tuple ds) = .tuple (ds.map F) := held_row (p := (0, 6)) ds (by decide +kernel) (by decide +kernel)
theorem hd_rows {F : PyData → PyData} {f g : Str → Str} (ds : List PyData) : heldF F f g "rows" (.tuple ds) = .tuple (ds.map F) := held_row (p := (1, 4)) ds (by decide +kernel) (by decide +kernel)
theorem every_inv {d : PyData} (h : fitsD "every" d = true) : d = .none ∨ ∃ z, d = .str z ∧ nameS z = true := by
  rw [fits_every] at h
  cases d with
  | none => exact .inl rfl
  | str z => exact .inr ⟨z, rfl, h⟩
  | _ => cases h
theorem cal_lit {f g : Str → Str} (d0 : PyData) (d1 : PyData) : calD f g (.tuple [.str "lit", d0, d1]) = .tuple [.str "lit", d0, d1] := by
  rw [cal_eq fm_lit]
  show PyData.tuple (.str "lit" :: [heldF (calD f g) f g "kind" (d0), heldF (calD f g) f g "worth" (d1)]) = _
  simp only [hd_kind, hd_worth]
  try rfl
theorem inv_lit {rest : List PyData} (h : termD (.tuple (.str "lit" :: rest)) = true) : ∃ (d0 : PyData) (d1 : PyData), rest = [d0, d1] := by
  have fo : formedD (.tuple (.str "lit" :: rest)) = true := (term_inv h).1
  have wi := (term_inv h).2.2
  obtain ⟨c', rest', ss, ed, el, hl, hf, _⟩ := formed_inv fo
  cases ed
  rw [fm_lit] at el
  cases el
  rw [within_eq fm_lit] at wi
  match rest, hl with
  | [x0, x1], _ =>
    have hf' : (fitsD "kind" x0 && (fitsD "worth" x1 && true)) = true := hf
    simp only [Bool.and_eq_true] at hf'
    obtain ⟨f0, f1, _⟩ := hf'
    have wi' : ∀ e ∈ (oneD "kind" (x0) ++ oneD "worth" (x1)), termD e = true := by
      intro e m
      refine wi e ?_
      simpa only [List.zipWith_cons_cons, List.zipWith_nil_left, List.flatten_cons, List.flatten_nil, List.append_nil, List.append_assoc] using m
    simp only [one_kind, one_worth, List.nil_append, List.append_nil, List.mem_append, List.mem_singleton, List.mem_cons, List.not_mem_nil, or_false, false_or] at wi'
    exact ⟨x0, x1, rfl⟩
theorem cal_name {f g : Str → Str} (z0 : Str) : calD f g (.tuple [.str "name", .str z0]) = .tuple [.str "name", .str (f z0)] := by
  rw [cal_eq fm_name]
  show PyData.tuple (.str "name" :: [heldF (calD f g) f g "name" (.str z0)]) = _
  simp only [hd_name]
  rfl
theorem inv_name {rest : List PyData} (h : termD (.tuple (.str "name" :: rest)) = true) : ∃ (z0 : Str), rest = [.str z0] ∧ nameS z0 = true := by
  have fo : formedD (.tuple (.str "name" :: rest)) = true := (term_inv h).1
  have wi := (term_inv h).2.2
  obtain ⟨c', rest', ss, ed, el, hl, hf, _⟩ := formed_inv fo
  cases ed
  rw [fm_name] at el
  cases el
  rw [within_eq fm_name] at wi
  match rest, hl with
  | [x0], _ =>
    have hf' : (fitsD "name" x0 && true) = true := hf
    simp only [Bool.and_eq_true] at hf'
    obtain ⟨f0, _⟩ := hf'
    obtain ⟨z0, rfl⟩ := name_str x0 (by rw [fits_name] at f0; exact f0)
    have n0 : nameS z0 = true := by rw [fits_name] at f0; exact f0
    have wi' : ∀ e ∈ (oneD "name" (PyData.str z0)), termD e = true := by
      intro e m
      refine wi e ?_
      simpa only [List.zipWith_cons_cons, List.zipWith_nil_left, List.flatten_cons, List.flatten_nil, List.append_nil, List.append_assoc] using m
    simp only [one_name, List.nil_append, List.append_nil, List.mem_append, List.mem_singleton, List.mem_cons, List.not_mem_nil, or_false, false_or] at wi'
    exact ⟨z0, rfl, n0⟩
theorem cal_last {f g : Str → Str} (z0 : Str) : calD f g (.tuple [.str "last", .str z0]) = .tuple [.str "last", .str (f z0)] := by
  rw [cal_eq fm_last]
  show PyData.tuple (.str "last" :: [heldF (calD f g) f g "name" (.str z0)]) = _
  simp only [hd_name]
  rfl
theorem inv_last {rest : List PyData} (h : termD (.tuple (.str "last" :: rest)) = true) : ∃ (z0 : Str), rest = [.str z0] ∧ nameS z0 = true := by
  have fo : formedD (.tuple (.str "last" :: rest)) = true := (term_inv h).1
  have wi := (term_inv h).2.2
  obtain ⟨c', rest', ss, ed, el, hl, hf, _⟩ := formed_inv fo
  cases ed
  rw [fm_last] at el
  cases el
  rw [within_eq fm_last] at wi
  match rest, hl with
  | [x0], _ =>
    have hf' : (fitsD "name" x0 && true) = true := hf
    simp only [Bool.and_eq_true] at hf'
    obtain ⟨f0, _⟩ := hf'
    obtain ⟨z0, rfl⟩ := name_str x0 (by rw [fits_name] at f0; exact f0)
    have n0 : nameS z0 = true := by rw [fits_name] at f0; exact f0
    have wi' : ∀ e ∈ (oneD "name" (PyData.str z0)), termD e = true := by
      intro e m
      refine wi e ?_
      simpa only [List.zipWith_cons_cons, List.zipWith_nil_left, List.flatten_cons, List.flatten_nil, List.append_nil, List.append_assoc] using m
    simp only [one_name, List.nil_append, List.append_nil, List.mem_append, List.mem_singleton, List.mem_cons, List.not_mem_nil, or_false, false_or] at wi'
    exact ⟨z0, rfl, n0⟩
theorem cal_wide {f g : Str → Str} (d0 : PyData) (d1 : PyData) : calD f g (.tuple [.str "wide", d0, d1]) = .tuple [.str "wide", d0, calD f g d1] := by
  rw [cal_eq fm_wide]
  show PyData.tuple (.str "wide" :: [heldF (calD f g) f g "width" (d0), heldF (calD f g) f g "term" (d1)]) = _
  simp only [hd_width, held_term]
  try rfl
theorem inv_wide {rest : List PyData} (h : termD (.tuple (.str "wide" :: rest)) = true) : ∃ (d0 : PyData) (d1 : PyData), rest = [d0, d1] ∧ termD d1 = true := by
  have fo : formedD (.tuple (.str "wide" :: rest)) = true := (term_inv h).1
  have wi := (term_inv h).2.2
  obtain ⟨c', rest', ss, ed, el, hl, hf, _⟩ := formed_inv fo
  cases ed
  rw [fm_wide] at el
  cases el
  rw [within_eq fm_wide] at wi
  match rest, hl with
  | [x0, x1], _ =>
    have hf' : (fitsD "width" x0 && (fitsD "term" x1 && true)) = true := hf
    simp only [Bool.and_eq_true] at hf'
    obtain ⟨f0, f1, _⟩ := hf'
    have wi' : ∀ e ∈ (oneD "width" (x0) ++ oneD "term" (x1)), termD e = true := by
      intro e m
      refine wi e ?_
      simpa only [List.zipWith_cons_cons, List.zipWith_nil_left, List.flatten_cons, List.flatten_nil, List.append_nil, List.append_assoc] using m
    simp only [one_term, one_width, List.nil_append, List.append_nil, List.mem_append, List.mem_singleton, List.mem_cons, List.not_mem_nil, or_false, false_or] at wi'
    exact ⟨x0, x1, rfl, (wi' _ rfl)⟩
theorem cal_bit {f g : Str → Str} (d0 : PyData) (d1 : PyData) : calD f g (.tuple [.str "bit", d0, d1]) = .tuple [.str "bit", d0, calD f g d1] := by
  rw [cal_eq fm_bit]
  show PyData.tuple (.str "bit" :: [heldF (calD f g) f g "bit" (d0), heldF (calD f g) f g "term" (d1)]) = _
  simp only [hd_bit, held_term]
  try rfl
theorem inv_bit {rest : List PyData} (h : termD (.tuple (.str "bit" :: rest)) = true) : ∃ (d0 : PyData) (d1 : PyData), rest = [d0, d1] ∧ termD d1 = true := by
  have fo : formedD (.tuple (.str "bit" :: rest)) = true := (term_inv h).1
  have wi := (term_inv h).2.2
  obtain ⟨c', rest', ss, ed, el, hl, hf, _⟩ := formed_inv fo
  cases ed
  rw [fm_bit] at el
  cases el
  rw [within_eq fm_bit] at wi
  match rest, hl with
  | [x0, x1], _ =>
    have hf' : (fitsD "bit" x0 && (fitsD "term" x1 && true)) = true := hf
    simp only [Bool.and_eq_true] at hf'
    obtain ⟨f0, f1, _⟩ := hf'
    have wi' : ∀ e ∈ (oneD "bit" (x0) ++ oneD "term" (x1)), termD e = true := by
      intro e m
      refine wi e ?_
      simpa only [List.zipWith_cons_cons, List.zipWith_nil_left, List.flatten_cons, List.flatten_nil, List.append_nil, List.append_assoc] using m
    simp only [one_bit, one_term, List.nil_append, List.append_nil, List.mem_append, List.mem_singleton, List.mem_cons, List.not_mem_nil, or_false, false_or] at wi'
    exact ⟨x0, x1, rfl, (wi' _ rfl)⟩
theorem cal_when {f g : Str → Str} (d0 : PyData) (z1 : Str) (d2 : PyData) : calD f g (.tuple [.str "when", d0, .str z1, d2]) = .tuple [.str "when", calD f g d0, .str (f z1), d2] := by
  rw [cal_eq fm_when]
  show PyData.tuple (.str "when" :: [heldF (calD f g) f g "term" (d0), heldF (calD f g) f g "name" (.str z1), heldF (calD f g) f g "truth" (d2)]) = _
  simp only [hd_name, hd_truth, held_term]
  rfl
theorem inv_when {rest : List PyData} (h : termD (.tuple (.str "when" :: rest)) = true) : ∃ (d0 : PyData) (z1 : Str) (d2 : PyData), rest = [d0, .str z1, d2] ∧ termD d0 = true ∧ nameS z1 = true := by
  have fo : formedD (.tuple (.str "when" :: rest)) = true := (term_inv h).1
  have wi := (term_inv h).2.2
  obtain ⟨c', rest', ss, ed, el, hl, hf, _⟩ := formed_inv fo
  cases ed
  rw [fm_when] at el
  cases el
  rw [within_eq fm_when] at wi
  match rest, hl with
  | [x0, x1, x2], _ =>
    have hf' : (fitsD "term" x0 && (fitsD "name" x1 && (fitsD "truth" x2 && true))) = true := hf
    simp only [Bool.and_eq_true] at hf'
    obtain ⟨f0, f1, f2, _⟩ := hf'
    obtain ⟨z1, rfl⟩ := name_str x1 (by rw [fits_name] at f1; exact f1)
    have n1 : nameS z1 = true := by rw [fits_name] at f1; exact f1
    have wi' : ∀ e ∈ (oneD "term" (x0) ++ oneD "name" (PyData.str z1) ++ oneD "truth" (x2)), termD e = true := by
      intro e m
      refine wi e ?_
      simpa only [List.zipWith_cons_cons, List.zipWith_nil_left, List.flatten_cons, List.flatten_nil, List.append_nil, List.append_assoc] using m
    simp only [one_name, one_term, one_truth, List.nil_append, List.append_nil, List.mem_append, List.mem_singleton, List.mem_cons, List.not_mem_nil, or_false, false_or] at wi'
    exact ⟨x0, z1, x2, rfl, (wi' _ rfl), n1⟩
theorem cal_merge {f g : Str → Str} (z0 : Str) (d1 : PyData) (d2 : PyData) : calD f g (.tuple [.str "merge", .str z0, d1, d2]) = .tuple [.str "merge", .str (f z0), calD f g d1, calD f g d2] := by
  rw [cal_eq fm_merge]
  show PyData.tuple (.str "merge" :: [heldF (calD f g) f g "name" (.str z0), heldF (calD f g) f g "term" (d1), heldF (calD f g) f g "term" (d2)]) = _
  simp only [hd_name, held_term]
  rfl
theorem inv_merge {rest : List PyData} (h : termD (.tuple (.str "merge" :: rest)) = true) : ∃ (z0 : Str) (d1 : PyData) (d2 : PyData), rest = [.str z0, d1, d2] ∧ nameS z0 = true ∧ termD d1 = true ∧ termD d2 = true := by
  have fo : formedD (.tuple (.str "merge" :: rest)) = true := (term_inv h).1
  have wi := (term_inv h).2.2
  obtain ⟨c', rest', ss, ed, el, hl, hf, _⟩ := formed_inv fo
  cases ed
  rw [fm_merge] at el
  cases el
  rw [within_eq fm_merge] at wi
  match rest, hl with
  | [x0, x1, x2], _ =>
    have hf' : (fitsD "name" x0 && (fitsD "term" x1 && (fitsD "term" x2 && true))) = true := hf
    simp only [Bool.and_eq_true] at hf'
    obtain ⟨f0, f1, f2, _⟩ := hf'
    obtain ⟨z0, rfl⟩ := name_str x0 (by rw [fits_name] at f0; exact f0)
    have n0 : nameS z0 = true := by rw [fits_name] at f0; exact f0
    have wi' : ∀ e ∈ (oneD "name" (PyData.str z0) ++ oneD "term" (x1) ++ oneD "term" (x2)), termD e = true := by
      intro e m
      refine wi e ?_
      simpa only [List.zipWith_cons_cons, List.zipWith_nil_left, List.flatten_cons, List.flatten_nil, List.append_nil, List.append_assoc] using m
    simp only [one_name, one_term, List.nil_append, List.append_nil, List.mem_append, List.mem_singleton, List.mem_cons, List.not_mem_nil, or_false, false_or] at wi'
    exact ⟨z0, x1, x2, rfl, n0, (wi' _ (.inl rfl)), (wi' _ (.inr rfl))⟩
theorem cal_row {f g : Str → Str} (e0 : List PyData) : calD f g (.tuple [.str "row", .tuple e0]) = .tuple [.str "row", .tuple (e0.map (calD f g))] := by
  rw [cal_eq fm_row]
  show PyData.tuple (.str "row" :: [heldF (calD f g) f g "parts" (.tuple e0)]) = _
  simp only [hd_parts]
  try rfl
theorem inv_row {rest : List PyData} (h : termD (.tuple (.str "row" :: rest)) = true) : ∃ (e0 : List PyData), rest = [.tuple e0] ∧ (∀ x ∈ e0, termD x = true) := by
  have fo : formedD (.tuple (.str "row" :: rest)) = true := (term_inv h).1
  have wi := (term_inv h).2.2
  obtain ⟨c', rest', ss, ed, el, hl, hf, _⟩ := formed_inv fo
  cases ed
  rw [fm_row] at el
  cases el
  rw [within_eq fm_row] at wi
  match rest, hl with
  | [x0], _ =>
    have hf' : (fitsD "parts" x0 && true) = true := hf
    simp only [Bool.and_eq_true] at hf'
    obtain ⟨f0, _⟩ := hf'
    rw [fits_parts] at f0
    obtain ⟨e0, rfl⟩ := range_inv f0
    have wi' : ∀ e ∈ (oneD "parts" (PyData.tuple e0)), termD e = true := by
      intro e m
      refine wi e ?_
      simpa only [List.zipWith_cons_cons, List.zipWith_nil_left, List.flatten_cons, List.flatten_nil, List.append_nil, List.append_assoc] using m
    simp only [one_parts, List.nil_append, List.append_nil, List.mem_append, List.mem_singleton, List.mem_cons, List.not_mem_nil, or_false, false_or] at wi'
    exact ⟨e0, rfl, (fun e m => wi' e m)⟩
theorem cal_at {f g : Str → Str} (d0 : PyData) (d1 : PyData) : calD f g (.tuple [.str "at", d0, d1]) = .tuple [.str "at", d0, calD f g d1] := by
  rw [cal_eq fm_at]
  show PyData.tuple (.str "at" :: [heldF (calD f g) f g "place" (d0), heldF (calD f g) f g "term" (d1)]) = _
  simp only [hd_place, held_term]
  try rfl
theorem inv_at {rest : List PyData} (h : termD (.tuple (.str "at" :: rest)) = true) : ∃ (d0 : PyData) (d1 : PyData), rest = [d0, d1] ∧ termD d1 = true := by
  have fo : formedD (.tuple (.str "at" :: rest)) = true := (term_inv h).1
  have wi := (term_inv h).2.2
  obtain ⟨c', rest', ss, ed, el, hl, hf, _⟩ := formed_inv fo
  cases ed
  rw [fm_at] at el
  cases el
  rw [within_eq fm_at] at wi
  match rest, hl with
  | [x0, x1], _ =>
    have hf' : (fitsD "place" x0 && (fitsD "term" x1 && true)) = true := hf
    simp only [Bool.and_eq_true] at hf'
    obtain ⟨f0, f1, _⟩ := hf'
    have wi' : ∀ e ∈ (oneD "place" (x0) ++ oneD "term" (x1)), termD e = true := by
      intro e m
      refine wi e ?_
      simpa only [List.zipWith_cons_cons, List.zipWith_nil_left, List.flatten_cons, List.flatten_nil, List.append_nil, List.append_assoc] using m
    simp only [one_place, one_term, List.nil_append, List.append_nil, List.mem_append, List.mem_singleton, List.mem_cons, List.not_mem_nil, or_false, false_or] at wi'
    exact ⟨x0, x1, rfl, (wi' _ rfl)⟩
theorem cal_call {f g : Str → Str} (z0 : Str) (e1 : List PyData) (d2 : PyData) : calD f g (.tuple [.str "call", .str z0, .tuple e1, d2]) = .tuple [.str "call", .str (g z0), .tuple (e1.map (calD f g)), nmC f d2] := by
  rw [cal_eq fm_call]
  show PyData.tuple (.str "call" :: [heldF (calD f g) f g "node" (.str z0), heldF (calD f g) f g "args" (.tuple e1), heldF (calD f g) f g "every" (d2)]) = _
  simp only [hd_args, hd_every, hd_node]
  rfl
theorem inv_call {rest : List PyData} (h : rightD (.tuple (.str "call" :: rest)) = true) : ∃ (z0 : Str) (e1 : List PyData) (d2 : PyData), rest = [.str z0, .tuple e1, d2] ∧ nodeS z0 = true ∧ (∀ x ∈ e1, termD x = true) ∧ (d2 = .none ∨ ∃ z, d2 = .str z ∧ nameS z = true) := by
  have fo : formedD (.tuple (.str "call" :: rest)) = true := (right_inv h).1
  have wi := (right_inv h).2
  obtain ⟨c', rest', ss, ed, el, hl, hf, _⟩ := formed_inv fo
  cases ed
  rw [fm_call] at el
  cases el
  rw [within_eq fm_call] at wi
  match rest, hl with
  | [x0, x1, x2], _ =>
    have hf' : (fitsD "node" x0 && (fitsD "args" x1 && (fitsD "every" x2 && true))) = true := hf
    simp only [Bool.and_eq_true] at hf'
    obtain ⟨f0, f1, f2, _⟩ := hf'
    obtain ⟨z0, rfl⟩ := node_str x0 (by rw [fits_node] at f0; exact f0)
    have n0 : nodeS z0 = true := by rw [fits_node] at f0; exact f0
    rw [fits_args] at f1
    obtain ⟨e1, rfl⟩ := range_inv f1
    have wi' : ∀ e ∈ (oneD "node" (PyData.str z0) ++ oneD "args" (PyData.tuple e1) ++ oneD "every" (x2)), termD e = true := by
      intro e m
      refine wi e ?_
      simpa only [List.zipWith_cons_cons, List.zipWith_nil_left, List.flatten_cons, List.flatten_nil, List.append_nil, List.append_assoc] using m
    simp only [one_args, one_every, one_node, List.nil_append, List.append_nil, List.mem_append, List.mem_singleton, List.mem_cons, List.not_mem_nil, or_false, false_or] at wi'
    exact ⟨z0, e1, x2, rfl, n0, (fun e m => wi' e m), (every_inv f2)⟩
theorem cal_map {f g : Str → Str} (z0 : Str) (e1 : List PyData) (d2 : PyData) : calD f g (.tuple [.str "map", .str z0, .tuple e1, d2]) = .tuple [.str "map", .str (g z0), .tuple (e1.map (calD f g)), nmC f d2] := by
  rw [cal_eq fm_map]
  show PyData.tuple (.str "map" :: [heldF (calD f g) f g "node" (.str z0), heldF (calD f g) f g "rows" (.tuple e1), heldF (calD f g) f g "every" (d2)]) = _
  simp only [hd_every, hd_node, hd_rows]
  rfl
theorem inv_map {rest : List PyData} (h : rightD (.tuple (.str "map" :: rest)) = true) : ∃ (z0 : Str) (e1 : List PyData) (d2 : PyData), rest = [.str z0, .tuple e1, d2] ∧ nodeS z0 = true ∧ (∀ x ∈ e1, termD x = true) ∧ (d2 = .none ∨ ∃ z, d2 = .str z ∧ nameS z = true) := by
  have fo : formedD (.tuple (.str "map" :: rest)) = true := (right_inv h).1
  have wi := (right_inv h).2
  obtain ⟨c', rest', ss, ed, el, hl, hf, _⟩ := formed_inv fo
  cases ed
  rw [fm_map] at el
  cases el
  rw [within_eq fm_map] at wi
  match rest, hl with
  | [x0, x1, x2], _ =>
    have hf' : (fitsD "node" x0 && (fitsD "rows" x1 && (fitsD "every" x2 && true))) = true := hf
    simp only [Bool.and_eq_true] at hf'
    obtain ⟨f0, f1, f2, _⟩ := hf'
    obtain ⟨z0, rfl⟩ := node_str x0 (by rw [fits_node] at f0; exact f0)
    have n0 : nodeS z0 = true := by rw [fits_node] at f0; exact f0
    rw [fits_rows] at f1
    obtain ⟨e1, rfl⟩ := range_inv f1
    have wi' : ∀ e ∈ (oneD "node" (PyData.str z0) ++ oneD "rows" (PyData.tuple e1) ++ oneD "every" (x2)), termD e = true := by
      intro e m
      refine wi e ?_
      simpa only [List.zipWith_cons_cons, List.zipWith_nil_left, List.flatten_cons, List.flatten_nil, List.append_nil, List.append_assoc] using m
    simp only [one_every, one_node, one_rows, List.nil_append, List.append_nil, List.mem_append, List.mem_singleton, List.mem_cons, List.not_mem_nil, or_false, false_or] at wi'
    exact ⟨z0, e1, x2, rfl, n0, (fun e m => wi' e m), (every_inv f2)⟩
theorem cal_fold {f g : Str → Str} (z0 : Str) (d1 : PyData) (e2 : List PyData) (d3 : PyData) : calD f g (.tuple [.str "fold", .str z0, d1, .tuple e2, d3]) = .tuple [.str "fold", .str (g z0), calD f g d1, .tuple (e2.map (calD f g)), nmC f d3] := by
  rw [cal_eq fm_fold]
  show PyData.tuple (.str "fold" :: [heldF (calD f g) f g "node" (.str z0), heldF (calD f g) f g "term" (d1), heldF (calD f g) f g "rows" (.tuple e2), heldF (calD f g) f g "every" (d3)]) = _
  simp only [hd_every, hd_node, hd_rows, held_term]
  rfl
theorem inv_fold {rest : List PyData} (h : rightD (.tuple (.str "fold" :: rest)) = true) : ∃ (z0 : Str) (d1 : PyData) (e2 : List PyData) (d3 : PyData), rest = [.str z0, d1, .tuple e2, d3] ∧ nodeS z0 = true ∧ termD d1 = true ∧ (∀ x ∈ e2, termD x = true) ∧ (d3 = .none ∨ ∃ z, d3 = .str z ∧ nameS z = true) := by
  have fo : formedD (.tuple (.str "fold" :: rest)) = true := (right_inv h).1
  have wi := (right_inv h).2
  obtain ⟨c', rest', ss, ed, el, hl, hf, _⟩ := formed_inv fo
  cases ed
  rw [fm_fold] at el
  cases el
  rw [within_eq fm_fold] at wi
  match rest, hl with
  | [x0, x1, x2, x3], _ =>
    have hf' : (fitsD "node" x0 && (fitsD "term" x1 && (fitsD "rows" x2 && (fitsD "every" x3 && true)))) = true := hf
    simp only [Bool.and_eq_true] at hf'
    obtain ⟨f0, f1, f2, f3, _⟩ := hf'
    obtain ⟨z0, rfl⟩ := node_str x0 (by rw [fits_node] at f0; exact f0)
    have n0 : nodeS z0 = true := by rw [fits_node] at f0; exact f0
    rw [fits_rows] at f2
    obtain ⟨e2, rfl⟩ := range_inv f2
    have wi' : ∀ e ∈ (oneD "node" (PyData.str z0) ++ oneD "term" (x1) ++ oneD "rows" (PyData.tuple e2) ++ oneD "every" (x3)), termD e = true := by
      intro e m
      refine wi e ?_
      simpa only [List.zipWith_cons_cons, List.zipWith_nil_left, List.flatten_cons, List.flatten_nil, List.append_nil, List.append_assoc] using m
    simp only [one_every, one_node, one_rows, one_term, List.nil_append, List.append_nil, List.mem_append, List.mem_singleton, List.mem_cons, List.not_mem_nil, or_false, false_or] at wi'
    exact ⟨z0, x1, e2, x3, rfl, n0, (wi' _ (.inl rfl)), (fun e m => wi' e (.inr m)), (every_inv f3)⟩
theorem cal_pairs {f g : Str → Str} (z0 : Str) (d1 : PyData) (d2 : PyData) : calD f g (.tuple [.str "pairs", .str z0, d1, d2]) = .tuple [.str "pairs", .str (g z0), calD f g d1, nmC f d2] := by
  rw [cal_eq fm_pairs]
  show PyData.tuple (.str "pairs" :: [heldF (calD f g) f g "node" (.str z0), heldF (calD f g) f g "term" (d1), heldF (calD f g) f g "every" (d2)]) = _
  simp only [hd_every, hd_node, held_term]
  rfl
theorem inv_pairs {rest : List PyData} (h : rightD (.tuple (.str "pairs" :: rest)) = true) : ∃ (z0 : Str) (d1 : PyData) (d2 : PyData), rest = [.str z0, d1, d2] ∧ nodeS z0 = true ∧ termD d1 = true ∧ (d2 = .none ∨ ∃ z, d2 = .str z ∧ nameS z = true) := by
  have fo : formedD (.tuple (.str "pairs" :: rest)) = true := (right_inv h).1
  have wi := (right_inv h).2
  obtain ⟨c', rest', ss, ed, el, hl, hf, _⟩ := formed_inv fo
  cases ed
  rw [fm_pairs] at el
  cases el
  rw [within_eq fm_pairs] at wi
  match rest, hl with
  | [x0, x1, x2], _ =>
    have hf' : (fitsD "node" x0 && (fitsD "term" x1 && (fitsD "every" x2 && true))) = true := hf
    simp only [Bool.and_eq_true] at hf'
    obtain ⟨f0, f1, f2, _⟩ := hf'
    obtain ⟨z0, rfl⟩ := node_str x0 (by rw [fits_node] at f0; exact f0)
    have n0 : nodeS z0 = true := by rw [fits_node] at f0; exact f0
    have wi' : ∀ e ∈ (oneD "node" (PyData.str z0) ++ oneD "term" (x1) ++ oneD "every" (x2)), termD e = true := by
      intro e m
      refine wi e ?_
      simpa only [List.zipWith_cons_cons, List.zipWith_nil_left, List.flatten_cons, List.flatten_nil, List.append_nil, List.append_assoc] using m
    simp only [one_every, one_node, one_term, List.nil_append, List.append_nil, List.mem_append, List.mem_singleton, List.mem_cons, List.not_mem_nil, or_false, false_or] at wi'
    exact ⟨z0, x1, x2, rfl, n0, (wi' _ rfl), (every_inv f2)⟩
/-! ### the others are of terms alone -/
def SPECIAL : List Str := ["lit", "name", "last", "when", "merge", "row", "wide", "bit", "at", "call", "map", "fold", "pairs"]
theorem lk_mem {α : Type} {c : Str} {v : α} : ∀ {l : List (Str × α)}, lk c l = some v → (c, v) ∈ l
  | (k, x) :: r, h => by
    unfold lk at h
    split at h
    · rename_i e
      cases h
      rw [show c = k from (eq_of_beq e).symm]
      exact List.mem_cons_self
    · exact List.mem_cons_of_mem _ (lk_mem h)
theorem all_terms {c : Str} {ss : List Str} (e : lk c FM = some ss) (n : c ∉ SPECIAL) : ∀ s ∈ ss, s = "term" := by
  have all : ∀ p ∈ FM, p.1 ∉ SPECIAL → ∀ s ∈ p.2, s = "term" := by decide +kernel
  exact all (c, ss) (lk_mem e) n
theorem zw_terms {F : PyData → PyData} {f g : Str → Str} : ∀ {ss : List Str} {rest : List PyData}, (∀ s ∈ ss, s = "term") → rest.length = ss.length → List.zipWith (heldF F f g) ss rest = rest.map F
  | [], [], _, _ => rfl
  | s :: ss, d :: r, h, l => by
    rw [List.zipWith_cons_cons, List.map_cons, h s List.mem_cons_self, held_term, zw_terms (fun x m => h x (List.mem_cons_of_mem _ m)) (Nat.succ.inj l)]
theorem one_terms : ∀ {ss : List Str} {rest : List PyData}, (∀ s ∈ ss, s = "term") → rest.length = ss.length → (List.zipWith oneD ss rest).flatten = rest
  | [], [], _, _ => rfl
  | s :: ss, d :: r, h, l => by
    rw [List.zipWith_cons_cons, List.flatten_cons, h s List.mem_cons_self, one_term, one_terms (fun x m => h x (List.mem_cons_of_mem _ m)) (Nat.succ.inj l)]
    rfl
theorem inv_other {c : Str} {rest : List PyData} (h : termD (.tuple (.str c :: rest)) = true) (n : c ∉ SPECIAL) : (∀ x ∈ rest, termD x = true) ∧ 1 ≤ rest.length ∧ ∀ f g, calD f g (.tuple (.str c :: rest)) = .tuple (.str c :: rest.map (calD f g)) := by
  obtain ⟨fo, _, wi⟩ := term_inv h
  obtain ⟨c', rest', ss, ed, el, hl, hf, _⟩ := formed_inv fo
  cases ed
  have a := all_terms el n
  rw [within_eq el, one_terms a hl] at wi
  have := fm_len el
  exact ⟨wi, by omega, fun f g => by rw [cal_eq el, zw_terms a hl]⟩
end K5
end Bf

namespace Bf
open PySem PySem.Spec PyProof.Rows L2
namespace K5
section
variable {P : Program} {w : World} {K : PySem.W.Frag} {mg : Str → Option Value} {base : Heap} {aF aS aC : Addr}
/-! ### _law_called -/
def spLCalled : Sp := fun vs H Q _ => ∃ (z : Str) (a : Addr) (kvs : List (Key × V)), vs = [.str z, .ref a] ∧ StrD H a kvs ∧ Q (.str (dF kvs z)) H
abbrev pLCalled : List Str := ["_law_thing", "_law_one"]
theorem scLCalled : FnScope pLCalled pLCalled (defScope sLCalled) := ⟨rfl, rfl, rfl, by decide +kernel, rfl, by decide +kernel, by decide +kernel⟩
theorem ok_lcalled {f : Addr} {fd : FuncData} (F : Fun K "_law_called" "_law_called" sLCalled f fd) : FnOk P w K mg base CX0 1 f fd pLCalled spLCalled := by
  refine F.ok scLCalled (fun vs H Q E h => ?_) (fun cdv A outer s H vs Q E hr h => ?_)
  · obtain ⟨z, a, kvs, rfl, _⟩ := h
    rfl
  · obtain ⟨z, a, kvs, rfl, hD, q⟩ := h
    have hu : (A.deeper (envOfC "_law_called" (defScope sLCalled) s.heap.objs.size f cdv)).units + 1 < cLine := Nat.lt_of_le_of_lt (Nat.add_le_add_left (by decide) _) hr.units
    refine ⟨_, pss_one (ps_ret (pe_ifExp (pt_cmp (pc_din hu (pv 0) (pv 1))) (pe_dget hu (pv 1) (pv 0) (fun _ _ => rfl)) (pv 0))), ?_⟩
    have g := DGet.k (k := .inr z) hD.1
    refine ⟨_, rfl, _, rfl, a, _, rfl, g, _, rfl, ?_⟩
    have e := dF_get hD.2 z
    cases v : valV kvs (.inr z) with
    | none =>
      rw [v] at e
      have e' : V.str z = .str (dF kvs z) := e
      exact iteF ⟨_, rfl, by rw [e']; exact q⟩
    | some y =>
      rw [v] at e g
      have e' : y = .str (dF kvs z) := e
      exact iteT ⟨_, rfl, _, rfl, a, y, rfl, g, by rw [e']; exact q⟩
/-! ### _law_term_called -/
abbrev pLTC : List Str := ["_law_term", "_law_one"]
abbrev nLTC : List Str := ["_law_term", "_law_one", "_law_word", "_law_part"]
theorem scLTC : FnScope nLTC pLTC (defScope sLTermC) := ⟨rfl, rfl, rfl, by decide +kernel, rfl, by decide +kernel, by decide +kernel⟩
def spLTC (m : Nat) : Sp := fun vs H Q _ => ∃ (x : V) (d : PyData) (P0 : Addr → Prop) (aO : Addr) (kn : List (Key × V)) (g : Str → Str), vs = [x, .ref aO] ∧ fit 6 m d ∧ Sh H P0 true x d ∧ termD d = true ∧ StrD H aO kn ∧
  ∀ y H', Same H H' → Sh H' (Pn H P0) true y (calD (dF kn) g d) → Q y H'
theorem ltc_zero {f : Addr} {fd : FuncData} {k : Nat} : FnOk P w K mg base CX0 k f fd pLTC (spLTC 0) :=
  ⟨fun _ _ _ _ ⟨_, _, _, _, _, _, e, _⟩ => by rw [e]; rfl, fun _ _ _ _ _ _ _ _ _ _ _ _ _ ⟨_, d, _, _, _, _, _, ft, _, td, _⟩ => by
    obtain ⟨fo, _⟩ := term_inv td
    obtain ⟨c, rest, ss, rfl, _⟩ := formed_inv fo
    simp only [fit] at ft⟩
/-- one after another, of a tuple's things -/
theorem tcs_W {b : Addr} {xs : List V} {ds : List PyData} {P0 : Addr → Prop} {aO : Addr} {kn : List (Key × V)} {g : Str → Str} {m j o : Nat} {σ : L2.St} {H : Hp} {D : Addr} {Qd : Hp → Prop} {E : XK} (hS : H b = some (.tup xs)) (sh : ShAll H P0 true xs ds) (ft : ∀ d ∈ ds, fit 6 m d) (tm : ∀ d ∈ ds, termD d = true)
    (hO : StrD H aO kn) (lx : ds.length ≤ 1000) (hj : ∀ y : V, ((wipe σ [j]).set j (some y))[j]? = some (some y)) (ho : ∀ y : V, ((wipe σ [j]).set j (some y))[o]? = some (some (.ref aO))) (hw : ∀ y : V, wipe ((wipe σ [j]).set j (some y)) [j] = wipe σ [j]) (hD : H D = none)
    (q : ∀ ys G, Same H G → G D = some (.lst ys) → ShAll G (fun b => b ≠ D ∧ Pn H P0 b) true ys (ds.map (calD (dF kn) g)) → Qd G) :
    ∃ W : Nat → Nat → Hp → Prop, (∃ m, W 0 m (upd H D (.lst []))) ∧ ∀ i m' H', W i m' H' → ((Itt K b).stop i H' ∧ Qd H') ∨ ((Itt K b).go i H' ∧ ∃ Nx : Hp → Prop, (∀ H'', Nx H'' → ∃ m'', m'' < m' ∧ W (i + 1) m'' H'') ∧ ∀ x H'', (Itt K b).yld i H' x H'' →
      (gName j) x (wipe σ [j]) H'' fun σ2 H2 => wipe σ2 [j] = wipe σ [j] ∧ tYes σ2 H2 fun b H3 => if b = true then (tCall (spLTC m) [] E (tCons (tVar j) (tCons (tVar o) tNil))) σ2 H3 fun y H4 => ∃ acc, H4 D = some (.lst acc) ∧ acc.length < sizeLine ∧ Nx (upd H4 D (.lst (acc ++ [y]))) else Nx H3) := by
  have lv := shAll_len sh
  refine lc_tup (K := K) (a := b) (xs := xs) (fun i G => ∃ ys, G D = some (.lst ys) ∧ ShAll G (fun b => b ≠ D ∧ Pn H P0 b) true ys ((ds.take i).map (calD (dF kn) g)) ∧ Same H G)
        ⟨[], upd_same, .nil, same_new hD⟩ (fun i G _ pv => SqT.of (pv.elim fun _ z => z.2.2 _ _ hS)) (fun i y G hy pv => ?_) fun G pv => ?_
  · obtain ⟨ys, gD, sy, sG⟩ := pv
    obtain ⟨dy, hdy, day⟩ := sh.get hy
    have ly := shAll_len sy
    have mdy := List.mem_of_getElem? hdy
    refine ⟨hw y, _, hj y, _, ho y, y, dy, fun b => P0 b ∧ H b ≠ none, aO, kn, g, rfl, ft dy mdy, sh_old (fun a o _ h => sG _ _ h) day, tm dy mdy, hO.same sG, fun y' G2 s2 sh2 => ?_⟩
    have nb : ∀ b, Pn G (fun b => P0 b ∧ H b ≠ none) b → b ≠ D := fun b h => by
      rcases h with h | ⟨h1, h2⟩
      · exact ne_of_none' h gD
      · exact fun z => h2 (z ▸ hD)
    have pnx : ∀ b, Pn G (fun b => P0 b ∧ H b ≠ none) b → Pn H P0 b := fun b h => by
      rcases h with h | ⟨h1, h2⟩
      · exact .inl (none_back sG h)
      · exact .inr h1
    refine ⟨_, s2 _ _ gD, by rw [ly, List.length_map, List.length_take]; exact small1000 (by omega), ys ++ [y'], upd_same, ?_, fun b o h => ?_⟩
    · have tk : (ds.take (i + 1)).map (calD (dF kn) g) = (ds.take i).map (calD (dF kn) g) ++ [calD (dF kn) g dy] := by
        rw [List.take_add_one, hdy, List.map_append]
        rfl
      rw [tk]
      refine ShAll.append (ShAll.on (fun _ _ h _ => h) (fun b o h z => ?_) _ _ sy) (.cons (Sh.on (fun b o h z => ⟨nb b h, pnx b h⟩) (fun b o h z => ?_) _ _ sh2) .nil)
      · rw [upd_ne h.1]
        exact s2 _ _ z
      · rw [upd_ne (nb b h)]
        exact z
    · rw [upd_ne (ne_of_none h hD)]
      exact s2 _ _ (sG _ _ h)
  · obtain ⟨ys, gD, sy, sG⟩ := pv
    rw [lv, List.take_length] at sy
    exact q ys G sG gD sy
/-- what is called here -/
structure Lct (K : PySem.W.Frag) (mg : Str → Option Value) : Prop where
  mt : mg "tuple" = none
  mi : mg "isinstance" = none
set_option maxHeartbeats 1000000 in
theorem ok_ltc {f fD : Addr} {fd dD : FuncData} (F : Fun K "_law_term_called" "_law_term_called" sLTermC f fd) (L : Lct K mg) (DT : Df K mg "_law_term_called" f fd pLTC) (DD : Df K mg "_law_called" fD dD pLCalled) (GD : FnOk P w K mg base CX0 1 fD dD pLCalled spLCalled) :
    ∀ m, FnOk P w K mg base CX0 (m + 2) f fd pLTC (spLTC m)
  | 0 => ltc_zero
  | m + 1 => by
    have GR := ok_ltc F L DT DD GD m
    refine F.ok scLTC (fun vs H Q E h => ?_) (fun cdv A outer s H vs Q E hr h => ?_)
    · obtain ⟨x, d, P0, aO, kn, g, rfl, _⟩ := h
      rfl
    · obtain ⟨x, d, P0, aO, kn, g, rfl, ft, sh, td, hO, q⟩ := h
      have hr1 := hr.mono (by omega : 1 ≤ m + 2)
      refine ⟨_, (pss_cons (ps_set (i := 2) scLTC.nd rfl (Or.inl rfl) (pe_ix ix_tup (pv 0) pe_int (fun _ _ => rfl)))
        (pss_cons (ps_if (pt_cmpR op_eq (pv 2) pe_str (nomark _)) (pss_one (ps_ret (pv 0))) pss_nil)
        (pss_cons (ps_if (pt_cmpR op_in_seq (pv 2) (pe_tup (pa_cons pe_str (pa_cons pe_str pa_nil))) (by rfl)) (pss_one (ps_ret (pe_tup (pa_cons (pv 2) (pa_cons (pe_call GD hr1 (by rfl) DD.at_ DD.kp DD.bd .nil pass0 (pa_cons (pe_ix ix_tup (pv 0) pe_int (fun _ _ => rfl)) (pa_cons (pv 1) pa_nil))) pa_nil))))) pss_nil)
        (pss_cons (ps_if (pt_cmpR op_eq (pv 2) pe_str (nomark _)) (pss_one (ps_ret (pe_tup (pa_cons (pv 2) (pa_cons (pe_call GR hr (by rfl) DT.at_ DT.kp DT.bd .nil pass0 (pa_cons (pe_ix ix_tup (pv 0) pe_int (fun _ _ => rfl)) (pa_cons (pv 1) pa_nil))) (pa_cons (pe_call GD hr1 (by rfl) DD.at_ DD.kp DD.bd .nil pass0 (pa_cons (pe_ix ix_tup (pv 0) pe_int (fun _ _ => rfl)) (pa_cons (pv 1) pa_nil))) (pa_cons (pe_ix ix_tup (pv 0) pe_int (fun _ _ => rfl)) pa_nil))))))) pss_nil)
        (pss_cons (ps_if (pt_cmpR op_eq (pv 2) pe_str (nomark _)) (pss_one (ps_ret (pe_op op_catA (pe_tup (pa_cons (pv 2) (pa_cons (pe_call GD hr1 (by rfl) DD.at_ DD.kp DD.bd .nil pass0 (pa_cons (pe_ix ix_tup (pv 0) pe_int (fun _ _ => rfl)) (pa_cons (pv 1) pa_nil))) pa_nil))) (pe_callTy call_tuple_of (by rfl) L.mt (by decide +kernel) (pa_cons (pe_lc (own := [("_law_part", 3)]) (g := gName 3) (tt := tYes) rfl scLTC.nd (pi_tup (pe_slice sl_tupA (pv 0) (po_some pe_int) po_none)) (blkOk_by (N := nLTC) (sc := defScope sLTermC) (by decide +kernel)) (fun _ _ _ _ _ => pg_name (i := 3) scLTC.nd rfl (Or.inl rfl)) (fun _ _ _ _ _ => pts_nil) (fun _ _ _ _ _ => (pe_call GR hr (by rfl) DT.at_ DT.kp DT.bd .nil pass0 (pa_cons (pv 3) (pa_cons (pv 1) pa_nil))))) pa_nil))))) pss_nil)
        (pss_cons (ps_if (pt_cmpR op_eq (pv 2) pe_str (nomark _)) (pss_one (ps_ret (pe_tup (pa_cons (pv 2) (pa_cons (pe_callTy call_tuple_of (by rfl) L.mt (by decide +kernel) (pa_cons (pe_lc (own := [("_law_part", 3)]) (g := gName 3) (tt := tYes) rfl scLTC.nd (pi_tup (pe_ix ix_tup (pv 0) pe_int (fun _ _ => rfl))) (blkOk_by (N := nLTC) (sc := defScope sLTermC) (by decide +kernel)) (fun _ _ _ _ _ => pg_name (i := 3) scLTC.nd rfl (Or.inl rfl)) (fun _ _ _ _ _ => pts_nil) (fun _ _ _ _ _ => (pe_call GR hr (by rfl) DT.at_ DT.kp DT.bd .nil pass0 (pa_cons (pv 3) (pa_cons (pv 1) pa_nil))))) pa_nil)) pa_nil))))) pss_nil)
        (pss_cons (ps_if (pt_cmpR op_in_seq (pv 2) (pe_tup (pa_cons pe_str (pa_cons pe_str (pa_cons pe_str pa_nil)))) (by rfl)) (pss_one (ps_ret (pe_tup (pa_cons (pv 2) (pa_cons (pe_ix ix_tup (pv 0) pe_int (fun _ _ => rfl)) (pa_cons (pe_call GR hr (by rfl) DT.at_ DT.kp DT.bd .nil pass0 (pa_cons (pe_ix ix_tup (pv 0) pe_int (fun _ _ => rfl)) (pa_cons (pv 1) pa_nil))) pa_nil)))))) pss_nil)
        (pss_one (ps_ret (pe_op op_catA (pe_tup (pa_cons (pv 2) pa_nil)) (pe_callTy call_tuple_of (by rfl) L.mt (by decide +kernel) (pa_cons (pe_lc (own := [("_law_part", 3)]) (g := gName 3) (tt := tYes) rfl scLTC.nd (pi_tup (pe_slice sl_tupA (pv 0) (po_some pe_int) po_none)) (blkOk_by (N := nLTC) (sc := defScope sLTermC) (by decide +kernel)) (fun _ _ _ _ _ => pg_name (i := 3) scLTC.nd rfl (Or.inl rfl)) (fun _ _ _ _ _ => pts_nil) (fun _ _ _ _ _ => (pe_call GR hr (by rfl) DT.at_ DT.kp DT.bd .nil pass0 (pa_cons (pv 3) (pa_cons (pv 1) pa_nil))))) pa_nil)))))))))))), ?_⟩
      obtain ⟨fo, cx, wi⟩ := term_inv td
      obtain ⟨c, rest, ss, rfl, el, hl, hf, _⟩ := formed_inv fo
      obtain ⟨a, xs, rfl, ha, pa, r⟩ := id sh.tup_inv
      obtain ⟨fl, fa⟩ := fit_tup.mp ft
      cases r with
      | @cons v vs d1 _ hv rv =>
      cases hv
      have lv := shAll_len rv
      have fr : ∀ x ∈ rest, fit 6 m x := fun x mx => fa x (List.mem_cons_of_mem _ mx)
      have lr : rest.length ≤ 5 := by rw [List.length_cons] at fl; omega
      -- things of old, at a later heap
      have old : ∀ {G : Hp} {y : V} {dy : PyData}, Same H G → Sh H P0 true y dy → Sh G (Pn H P0) true y dy := fun sG h => Sh.on (fun _ _ h _ => .inr h) (fun b o _ e => sG _ _ e) _ _ h
      have new_ : ∀ {G G' : Hp} {y : V} {dy : PyData}, Same H G → Sh G' (Pn G fun b => P0 b ∧ H b ≠ none) true y dy → Sh G' (Pn H P0) true y dy := fun sG h => Sh.on (fun b o h _ => by
        rcases h with h | h
        · exact .inl (none_back sG h)
        · exact .inr h.1) (fun _ _ _ e => e) _ _ h
      have newA : ∀ {G G' : Hp} {ys : List V} {ds : List PyData}, Same H G → ShAll G' (Pn G fun b => P0 b ∧ H b ≠ none) true ys ds → ShAll G' (Pn H P0) true ys ds := fun sG h => ShAll.on (fun b o h _ => by
        rcases h with h | h
        · exact .inl (none_back sG h)
        · exact .inr h.1) (fun _ _ _ e => e) _ _ h
      have fin : ∀ {G : Hp} {ys : List V} {es : List PyData}, Same H G → ShAll G (Pn H P0) true ys es → calD (dF kn) g (.tuple (.str c :: rest)) = .tuple es → ∀ t, G t = none → Q (.ref t) (upd G t (.tup ys)) := fun sG h e t ht => by
        refine q _ _ (same_trans_new sG ht) ?_
        rw [e]
        exact .tup upd_same (.inl (none_back sG ht)) (shAll_same (same_new ht) h)
      refine ⟨_, rfl, a, _, ((0 : Nat) : Int), _, rfl, rfl, SqT.of ha, atI_nat rfl, ?_⟩
      dsimp only [gName]
      refine ⟨_, rfl, rfl, _, rfl, ite2 (fun h1 => ?_) (fun h1 => ?_)⟩
      · -- lit
        have ec := decS h1
        subst ec
        obtain ⟨d0, d1, rfl⟩ := inv_lit td
        refine ⟨_, rfl, q _ _ (Same.refl _) ?_⟩
        rw [cal_lit]
        exact old (Same.refl _) sh
      have n1 := decN h1
      refine ⟨_, rfl, by show 2 ≤ sizeLine; decide, fun p1 hp1 => ⟨p1, _, rfl, .inr (SqT.of upd_same), rfl, by decide +kernel, _, rfl, ?_⟩⟩
      rw [show inV (.str c) [V.str "name", V.str "last"] = decide (c ∈ (["name", "last"] : List Str)) from inV_strs c ["name", "last"]]
      have s1 := same_new (o := .tup [V.str "name", V.str "last"]) hp1
      generalize upd H p1 (.tup [V.str "name", V.str "last"]) = H1 at s1
      by_cases h2 : c ∈ (["name", "last"] : List Str)
      · -- name, last
        rw [decide_eq_true h2]
        refine iteT ?_
        obtain ⟨z, hr, hc⟩ : ∃ z, rest = [.str z] ∧ calD (dF kn) g (.tuple (.str c :: rest)) = .tuple [.str c, .str (dF kn z)] := by
          simp only [List.mem_cons, List.not_mem_nil, or_false] at h2
          rcases h2 with rfl | rfl
          · obtain ⟨z, rfl, _⟩ := inv_name td
            exact ⟨z, rfl, cal_name z⟩
          · obtain ⟨z, rfl, _⟩ := inv_last td
            exact ⟨z, rfl, cal_last z⟩
        subst hr
        cases rv with
        | cons hv0 r0 =>
          cases hv0
          cases r0
          refine ⟨_, rfl, _, rfl, a, _, ((1 : Nat) : Int), _, rfl, rfl, SqT.of (s1 _ _ ha), atI_nat rfl, _, rfl, z, aO, kn, rfl, hO.same s1, by show 2 ≤ sizeLine; decide, ?_⟩
          exact fin s1 (.cons (.str _) (.cons (.str _) .nil)) hc
      rw [decide_eq_false h2]
      refine iteF ⟨_, rfl, rfl, _, rfl, ite2 (fun h3 => ?_) (fun h3 => ?_)⟩
      · -- when
        have ec := decS h3
        subst ec
        obtain ⟨d0, z1, d2, rfl, t0, _⟩ := inv_when td
        cases rv with
        | @cons v0 _ _ _ hv0 r0 =>
        cases r0 with
        | cons hv1 r1 =>
        cases r1 with
        | @cons v2 _ _ _ hv2 r2 =>
        cases r2
        cases hv1
        refine ⟨_, rfl, _, rfl, a, _, ((1 : Nat) : Int), _, rfl, rfl, SqT.of (s1 _ _ ha), atI_nat rfl, _, rfl, v0, d0, fun b => P0 b ∧ H b ≠ none, aO, kn, g, rfl, fr _ List.mem_cons_self, sh_old (fun b o _ h => s1 _ _ h) hv0, t0, hO.same s1, fun y G s2 sh2 => ?_⟩
        have s12 := s1.trans s2
        refine ⟨_, rfl, a, _, ((2 : Nat) : Int), _, rfl, rfl, SqT.of (s12 _ _ ha), atI_nat rfl, _, rfl, z1, aO, kn, rfl, hO.same s12, _, rfl, a, _, ((3 : Nat) : Int), _, rfl, rfl, SqT.of (s12 _ _ ha), atI_nat rfl, by show 4 ≤ sizeLine; decide, ?_⟩
        exact fin s12 (.cons (.str _) (.cons (new_ s1 sh2) (.cons (.str _) (.cons (old s12 hv2) .nil)))) (cal_when d0 z1 d2)
      refine ⟨_, rfl, rfl, _, rfl, ite2 (fun h4 => ?_) (fun h4 => ?_)⟩
      · -- merge
        have ec := decS h4
        subst ec
        obtain ⟨z0, d1, d2, rfl, _, t1, t2⟩ := inv_merge td
        cases rv with
        | cons hv0 r0 =>
        cases r0 with
        | @cons v1 _ _ _ hv1 r1 =>
        cases r1 with
        | @cons v2 _ _ _ hv2 r2 =>
        cases r2
        cases hv0
        refine ⟨_, rfl, _, rfl, a, _, ((1 : Nat) : Int), _, rfl, rfl, SqT.of (s1 _ _ ha), atI_nat rfl, _, rfl, z0, aO, kn, rfl, hO.same s1, by show 2 ≤ sizeLine; decide, fun p2 hp2 => ?_⟩
        have s2 := same_trans_new (o := .tup [V.str "merge", .str (dF kn z0)]) s1 hp2
        have gp2 : upd H1 p2 (.tup [V.str "merge", .str (dF kn z0)]) p2 = some (.tup [V.str "merge", .str (dF kn z0)]) := upd_same
        generalize upd H1 p2 (.tup [V.str "merge", .str (dF kn z0)]) = H2 at s2 gp2
        refine ⟨_, rfl, 2, rfl, a, _, rfl, SqT.of (s2 _ _ ha), (fun z => absurd z (not_whole (k := 2) (by decide) (by simp))), fun _ p3 hp3 => ?_⟩
        rw [show cutV [V.str "merge", .str z0, v1, v2] (some (2 : Int)) none = [v1, v2] from cut_from (k := 2)]
        have s3' := same_new (o := .tup [v1, v2]) hp3
        have s3 := s2.trans s3'
        have gp3 : upd H2 p3 (.tup [v1, v2]) p3 = some (.tup [v1, v2]) := upd_same
        have gp2' := s3' _ _ gp2
        generalize upd H2 p3 (.tup [v1, v2]) = H3 at s3 gp3 gp2' s3'
        refine ⟨p3, rfl, ⟨_, SqT.of gp3⟩, fun D hD => ?_⟩
        refine tcs_W (K := K) (P0 := fun b => P0 b ∧ H b ≠ none) (g := g) gp3 (.cons (sh_old (fun b o _ h => s3 _ _ h) hv1) (.cons (sh_old (fun b o _ h => s3 _ _ h) hv2) .nil)) (fun x mx => fr x (List.mem_cons_of_mem _ mx)) (fun x mx => by
          simp only [List.mem_cons, List.not_mem_nil, or_false] at mx
          rcases mx with rfl | rfl
          · exact t1
          · exact t2) (hO.same s3) (by show 2 ≤ 1000; decide) (fun _ => rfl) (fun _ => rfl) (fun _ => rfl) hD fun ys G sG gD sy => ?_
        have s4 := s3.trans sG
        have ly := shAll_len sy
        refine ⟨D, _, rfl, .inl ⟨SqL.of gD, fun u hu => ?_⟩⟩
        have s5 := same_trans_new (o := .tup ys) s4 hu
        have su := same_new (o := .tup ys) hu
        refine ⟨p2, u, _, ys, rfl, rfl, SqT.of (su _ _ (sG _ _ gp2')), SqT.of upd_same, by rw [ly, sizeLine_eq]; show 2 + 2 ≤ _; decide, (fun e => nomatch e), (fun _ e => by rw [e] at ly; cases ly), fun _ _ => ?_⟩
        refine fin s5 (.cons (.str _) (.cons (.str _) (newA s3 (ShAll.on (fun _ _ h _ => h.2) (fun b o _ h => su _ _ h) _ _ sy)))) (cal_merge z0 d1 d2)
      refine ⟨_, rfl, rfl, _, rfl, ite2 (fun h5 => ?_) (fun h5 => ?_)⟩
      · -- row
        have ec := decS h5
        subst ec
        obtain ⟨e0, rfl, t0⟩ := inv_row td
        cases rv with
        | cons hv0 r0 =>
        cases r0
        obtain ⟨b, xb, rfl, hb, pb, rb⟩ := hv0.tup_inv
        have fe := fr _ List.mem_cons_self
        have fe' : e0.length ≤ 6 ∧ ∀ x ∈ e0, fit 6 m x := by
          cases m with
          | zero => simp only [fit] at fe
          | succ m' =>
            obtain ⟨q1, q2⟩ := fit_tup.mp fe
            exact ⟨q1, fun x mx => fit_mono (Nat.le_refl _) x (Nat.le_succ _) (q2 x mx)⟩
        refine ⟨_, rfl, _, rfl, a, _, ((1 : Nat) : Int), _, rfl, rfl, SqT.of (s1 _ _ ha), atI_nat rfl, b, rfl, ⟨_, SqT.of (s1 _ _ hb)⟩, fun D hD => ?_⟩
        refine tcs_W (K := K) (P0 := fun b => P0 b ∧ H b ≠ none) (g := g) (s1 _ _ hb) (ShAll.on (fun b o h e => ⟨h, fun z => by rw [e] at z; cases z⟩) (fun b o _ h => s1 _ _ h) _ _ rb) fe'.2 t0 (hO.same s1) (by omega) (fun _ => rfl) (fun _ => rfl) (fun _ => rfl) hD fun ys G sG gD sy => ?_
        have s4 := s1.trans sG
        refine ⟨D, _, rfl, .inl ⟨SqL.of gD, fun u hu => ?_⟩⟩
        have s5 := same_trans_new (o := .tup ys) s4 hu
        have su := same_new (o := .tup ys) hu
        refine ⟨by show 2 ≤ sizeLine; decide, ?_⟩
        exact fin s5 (.cons (.str _) (.cons (.tup upd_same (.inl (none_back s4 hu)) (newA s1 (ShAll.on (fun _ _ h _ => h.2) (fun b o _ h => su _ _ h) _ _ sy))) .nil)) (cal_row e0)
      refine ⟨_, rfl, by show 3 ≤ sizeLine; decide, fun p6 hp6 => ⟨p6, _, rfl, .inr (SqT.of upd_same), rfl, by decide +kernel, _, rfl, ?_⟩⟩
      rw [show inV (.str c) [V.str "wide", V.str "bit", V.str "at"] = decide (c ∈ (["wide", "bit", "at"] : List Str)) from inV_strs c ["wide", "bit", "at"]]
      have s6 := same_trans_new (o := .tup [V.str "wide", V.str "bit", V.str "at"]) s1 hp6
      generalize upd H1 p6 (.tup [V.str "wide", V.str "bit", V.str "at"]) = H6 at s6
      by_cases h6 : c ∈ (["wide", "bit", "at"] : List Str)
      · -- wide, bit, at
        rw [decide_eq_true h6]
        refine iteT ?_
        obtain ⟨d0, d1, hr, t1, hc⟩ : ∃ d0 d1, rest = [d0, d1] ∧ termD d1 = true ∧ calD (dF kn) g (.tuple (.str c :: rest)) = .tuple [.str c, d0, calD (dF kn) g d1] := by
          simp only [List.mem_cons, List.not_mem_nil, or_false] at h6
          rcases h6 with rfl | rfl | rfl
          · obtain ⟨d0, d1, rfl, t⟩ := inv_wide td
            exact ⟨d0, d1, rfl, t, cal_wide d0 d1⟩
          · obtain ⟨d0, d1, rfl, t⟩ := inv_bit td
            exact ⟨d0, d1, rfl, t, cal_bit d0 d1⟩
          · obtain ⟨d0, d1, rfl, t⟩ := inv_at td
            exact ⟨d0, d1, rfl, t, cal_at d0 d1⟩
        subst hr
        cases rv with
        | @cons v0 _ _ _ hv0 r0 =>
        cases r0 with
        | @cons v1 _ _ _ hv1 r1 =>
        cases r1
        refine ⟨_, rfl, _, rfl, a, _, ((1 : Nat) : Int), _, rfl, rfl, SqT.of (s6 _ _ ha), atI_nat rfl, _, rfl, a, _, ((2 : Nat) : Int), _, rfl, rfl, SqT.of (s6 _ _ ha), atI_nat rfl, _, rfl, v1, d1, fun b => P0 b ∧ H b ≠ none, aO, kn, g, rfl, fr _ (List.mem_cons_of_mem _ List.mem_cons_self), sh_old (fun b o _ h => s6 _ _ h) hv1, t1, hO.same s6, fun y G s2 sh2 => ?_⟩
        have s7 := s6.trans s2
        refine ⟨by show 3 ≤ sizeLine; decide, ?_⟩
        exact fin s7 (.cons (.str _) (.cons (old s7 hv0) (.cons (new_ s6 sh2) .nil))) hc
      · -- of terms alone
        rw [decide_eq_false h6]
        have nc : callS c = false := cx
        have nS : c ∉ SPECIAL := by
          intro mS
          simp only [SPECIAL, List.mem_cons, List.not_mem_nil, or_false] at mS
          simp only [List.mem_cons, List.not_mem_nil, or_false] at h2 h6
          rcases mS with e | e | e | e | e | e | e | e | e | e | e | e | e
          · exact n1 e
          · exact h2 (.inl e)
          · exact h2 (.inr e)
          · exact decN h3 e
          · exact decN h4 e
          · exact decN h5 e
          · exact h6 (.inl e)
          · exact h6 (.inr (.inl e))
          · exact h6 (.inr (.inr e))
          all_goals (subst e; revert nc; decide +kernel)
        obtain ⟨tr, l1, hc⟩ := inv_other td nS
        refine iteF ⟨_, rfl, by show 1 ≤ sizeLine; decide, fun p2 hp2 => ?_⟩
        have s2 := same_trans_new (o := .tup [V.str c]) s6 hp2
        have gp2 : upd H6 p2 (.tup [V.str c]) p2 = some (.tup [V.str c]) := upd_same
        generalize upd H6 p2 (.tup [V.str c]) = H2 at s2 gp2
        refine ⟨_, rfl, 1, rfl, a, _, rfl, SqT.of (s2 _ _ ha), (fun z => absurd z (not_whole (k := 1) (by decide) (by simp))), fun _ p3 hp3 => ?_⟩
        rw [show cutV (V.str c :: vs) (some (1 : Int)) none = vs from cut_from (k := 1)]
        have s3' := same_new (o := .tup vs) hp3
        have s3 := s2.trans s3'
        have gp3 : upd H2 p3 (.tup vs) p3 = some (.tup vs) := upd_same
        have gp2' := s3' _ _ gp2
        generalize upd H2 p3 (.tup vs) = H3 at s3 gp3 gp2' s3'
        refine ⟨p3, rfl, ⟨_, SqT.of gp3⟩, fun D hD => ?_⟩
        refine tcs_W (K := K) (P0 := fun b => P0 b ∧ H b ≠ none) (g := g) gp3 (ShAll.on (fun b o h e => ⟨h, fun z => by rw [e] at z; cases z⟩) (fun b o _ h => s3 _ _ h) _ _ rv) fr tr (hO.same s3) (by omega) (fun _ => rfl) (fun _ => rfl) (fun _ => rfl) hD fun ys G sG gD sy => ?_
        have s4 := s3.trans sG
        have ly := shAll_len sy
        rw [List.length_map] at ly
        refine ⟨D, _, rfl, .inl ⟨SqL.of gD, fun u hu => ?_⟩⟩
        have s5 := same_trans_new (o := .tup ys) s4 hu
        have su := same_new (o := .tup ys) hu
        refine ⟨p2, u, _, ys, rfl, rfl, SqT.of (su _ _ (sG _ _ gp2')), SqT.of upd_same, by rw [ly, sizeLine_eq]; show 1 + _ ≤ _; omega, (fun e => nomatch e), (fun _ e => by rw [e, List.length_nil] at ly; omega), fun _ _ => ?_⟩
        exact fin s5 (.cons (.str _) (newA s3 (ShAll.on (fun _ _ h _ => h.2) (fun b o _ h => su _ _ h) _ _ sy))) (hc _ _)
end
end K5
end Bf

namespace Bf
open PySem PySem.Spec PyProof.Rows L2
namespace K5
section
variable {P : Program} {w : World} {K : PySem.W.Frag} {mg : Str → Option Value} {base : Heap} {aF aS aC : Addr}
/-! ### what stands between the node and every -/
def Mid (f g : Str → Str) (d y : PyData) : Prop := (termD d = true ∧ y = calD f g d) ∨ ∃ e, d = .tuple e ∧ (∀ x ∈ e, termD x = true) ∧ y = .tuple (e.map (calD f g))
def nmE (f : Str → Str) : PyData → PyData := nmC f
theorem mid_of {f g : Str → Str} {c : Str} {rest : List PyData} (rd : rightD (.tuple (.str c :: rest)) = true) (hc : callS c = true) :
    ∃ (z : Str) (mid out : List PyData) (ev : PyData), rest = .str z :: (mid ++ [ev]) ∧ mid.length = out.length ∧ 1 ≤ mid.length ∧ mid.length ≤ 2 ∧ (∀ (i : Nat) (d : PyData), mid[i]? = some d → ∃ y, out[i]? = some y ∧ Mid f g d y) ∧ (ev = .none ∨ ∃ z, ev = .str z ∧ nameS z = true) ∧
      calD f g (.tuple (.str c :: rest)) = .tuple (.str c :: .str (g z) :: (out ++ [nmC f ev])) := by
  rcases call_words hc with rfl | rfl | rfl | rfl
  · obtain ⟨z0, e1, d2, rfl, _, t1, ev⟩ := inv_call rd
    refine ⟨z0, [.tuple e1], [.tuple (e1.map (calD f g))], d2, rfl, rfl, by simp, by simp, fun i d h => ?_, ev, cal_call z0 e1 d2⟩
    match i, h with
    | 0, h => cases h; exact ⟨_, rfl, .inr ⟨e1, rfl, t1, rfl⟩⟩
  · obtain ⟨z0, e1, d2, rfl, _, t1, ev⟩ := inv_map rd
    refine ⟨z0, [.tuple e1], [.tuple (e1.map (calD f g))], d2, rfl, rfl, by simp, by simp, fun i d h => ?_, ev, cal_map z0 e1 d2⟩
    match i, h with
    | 0, h => cases h; exact ⟨_, rfl, .inr ⟨e1, rfl, t1, rfl⟩⟩
  · obtain ⟨z0, d1, e2, d3, rfl, _, t1, t2, ev⟩ := inv_fold rd
    refine ⟨z0, [d1, .tuple e2], [calD f g d1, .tuple (e2.map (calD f g))], d3, rfl, rfl, by simp, by simp, fun i d h => ?_, ev, cal_fold z0 d1 e2 d3⟩
    match i, h with
    | 0, h => cases h; exact ⟨_, rfl, .inl ⟨t1, rfl⟩⟩
    | 1, h => cases h; exact ⟨_, rfl, .inr ⟨e2, rfl, t2, rfl⟩⟩
  · obtain ⟨z0, d1, d2, rfl, _, t1, ev⟩ := inv_pairs rd
    refine ⟨z0, [d1], [calD f g d1], d2, rfl, rfl, by simp, by simp, fun i d h => ?_, ev, cal_pairs z0 d1 d2⟩
    match i, h with
    | 0, h => cases h; exact ⟨_, rfl, .inl ⟨t1, rfl⟩⟩
theorem cut_mid {x y v : V} {xs : List V} : cutV (x :: y :: (xs ++ [v])) (some (2 : Int)) (some (-1)) = xs := by
  unfold cutV
  have e1 : HT.sIx (x :: y :: (xs ++ [v])).length 0 (some (2 : Int)) = 2 := by
    rw [show (2 : Int) = ((2 : Nat) : Int) from rfl, HT.sIx_nat]
    simp
  have e2 : HT.sIx (x :: y :: (xs ++ [v])).length (x :: y :: (xs ++ [v])).length (some (-1 : Int)) = xs.length + 2 := by
    unfold HT.sIx
    simp only [List.length_cons, List.length_append, List.length_nil]
    rw [if_pos (by decide)]
    omega
  rw [e1, e2]
  show (xs ++ [v]).take (xs.length + 2 - 2) = xs
  rw [Nat.add_sub_cancel, List.take_left]
theorem nf_mid {x y v : V} {xs : List V} {hi : Option Int} : ¬ (HT.sIx (x :: y :: (xs ++ [v])).length 0 (some (2 : Int)) = 0 ∧ HT.sIx (x :: y :: (xs ++ [v])).length (x :: y :: (xs ++ [v])).length hi = (x :: y :: (xs ++ [v])).length) := fun z => by
  have z1 := z.1
  rw [show (2 : Int) = ((2 : Nat) : Int) from rfl, HT.sIx_nat] at z1
  simp at z1
theorem _root_.Bf.ShAll.snoc_inv {H : Hp} {P : Addr → Prop} {b : Bool} {e : PyData} : ∀ {ds : List PyData} {vs : List V}, ShAll H P b vs (ds ++ [e]) → ∃ ws v, vs = ws ++ [v] ∧ ShAll H P b ws ds ∧ Sh H P b v e
  | [], _, h => by
    cases h with
    | cons h r => cases r; exact ⟨[], _, rfl, .nil, h⟩
  | d :: ds, _, h => by
    cases h with
    | cons h r =>
      obtain ⟨ws, v, rfl, a, b⟩ := ShAll.snoc_inv r
      exact ⟨_ :: ws, v, rfl, .cons h a, b⟩
/-! ### _law_side_called -/
abbrev pLSC : List Str := ["_law_side_here", "_law_one", "_law_calls"]
abbrev nLSC : List Str := ["_law_side_here", "_law_one", "_law_calls", "_law_every", "_law_inner", "_law_thing", "_law_many", "_law_part"]
theorem scLSC : FnScope nLSC pLSC (defScope sLSideC) := ⟨rfl, rfl, rfl, by decide +kernel, rfl, by decide +kernel, by decide +kernel⟩
def spLSC : Sp := fun vs H Q _ => ∃ (x : V) (d : PyData) (P0 : Addr → Prop) (aO aM : Addr) (kn km : List (Key × V)), vs = [x, .ref aO, .ref aM] ∧ fit 6 10 d ∧ Sh H P0 true x d ∧ rightD d = true ∧ StrD H aO kn ∧ StrD H aM km ∧
  ∀ y H', Same H H' → Sh H' (Pn H P0) true y (calD (dF kn) (dF km) d) → Q y H'
/-- every, called otherwise -/
theorem every_ok {σ : L2.St} {H H1 : Hp} {P0 : Addr → Prop} {a aO : Addr} {xs : List V} {w' : V} {ev : PyData} {kn : List (Key × V)} {E : XK} {Q : VK} (h0 : σ[0]? = some (some (.ref a))) (h1 : σ[1]? = some (some (.ref aO))) (ha : H1 a = some (.tup xs)) (hl : atI xs (-1) = some w') (sh : Sh H P0 true w' ev)
    (hev : ev = .none ∨ ∃ z, ev = .str z ∧ nameS z = true) (hO : StrD H1 aO kn) (q : ∀ u, (∀ G P, Sh G P true u (nmC (dF kn) ev)) → Q u H1) :
    tIf (tTest (tOp (fun x y H Q => y = V.non ∧ Q (V.bl (decide (x = V.non))) H) (tOp (rIxT K) (tVar 0) (tUn (rU fun i => V.int (-i)) (tC (V.int 1)))) (tC V.non))) (tC V.non)
      (tCall spLCalled [] E (tCons (tOp (rIxT K) (tVar 0) (tUn (rU fun i => V.int (-i)) (tC (V.int 1)))) (tCons (tVar 1) tNil))) σ H1 Q := by
  rcases hev with rfl | ⟨z, rfl, _⟩
  · cases sh
    refine ⟨_, h0, _, rfl, a, _, _, _, rfl, rfl, SqT.of ha, hl, rfl, _, rfl, iteT ?_⟩
    exact q _ fun _ _ => .non
  · cases sh
    refine ⟨_, h0, _, rfl, a, _, _, _, rfl, rfl, SqT.of ha, hl, rfl, _, rfl, iteF ?_⟩
    exact ⟨_, h0, _, rfl, a, _, _, _, rfl, rfl, SqT.of ha, hl, _, h1, z, aO, kn, rfl, hO, q _ fun _ _ => .str _⟩
/-- is it a tuple of terms -/
theorem many_ok {σ : L2.St} {H : Hp} {P0 : Addr → Prop} {v : V} {d : PyData} {Q : VK} (h5 : σ[5]? = some (some v)) (sh : Sh H P0 true v d) (hM : termD d = true ∨ ∃ e, d = .tuple e ∧ ∀ x ∈ e, termD x = true)
    (q : ∀ b G, Same H G → (b = false → termD d = true) → (b = true → ∃ e, d = .tuple e ∧ ∀ x ∈ e, termD x = true) → Q (.bl b) G) :
    tOrV (tOp (rEqNilT K) (tVar 5) (tTup tNil)) (tCB (rIsi K) (tCons (tOp (rIxT K) (tVar 5) (tC (V.int 0))) (tCons (tC (V.ty "tuple")) tNil))) σ H Q := by
  rcases hM with td | ⟨e, rfl, te⟩
  · obtain ⟨fo, _, _⟩ := term_inv td
    obtain ⟨c, rest, ss, rfl, _⟩ := formed_inv fo
    obtain ⟨b, xs, rfl, hb, _, r⟩ := sh.tup_inv
    cases r with
    | cons h1 r1 =>
    cases h1
    refine ⟨_, h5, by show 0 ≤ sizeLine; decide, fun p hp => ⟨b, p, _, rfl, rfl, SqT.of ((same_new hp) _ _ hb), SqT.of upd_same, _, rfl, ?_⟩⟩
    refine iteF ⟨_, h5, b, _, ((0 : Nat) : Int), _, rfl, rfl, SqT.of ((same_new hp) _ _ hb), atI_nat rfl, _, .ty "tuple", _, _, _, rfl, .ty "tuple", (Kn.str (K := K) (H := upd H p (.tup [])) c).ty, kit_ty (show kitB "str" "tuple" = some false by decide +kernel), ?_⟩
    exact q false _ (same_new hp) (fun _ => td) (fun z => nomatch z)
  · obtain ⟨b, xs, rfl, hb, _, r⟩ := sh.tup_inv
    cases r with
    | nil =>
      refine ⟨_, h5, by show 0 ≤ sizeLine; decide, fun p hp => ⟨b, p, _, rfl, rfl, SqT.of ((same_new hp) _ _ hb), SqT.of upd_same, _, rfl, ?_⟩⟩
      exact iteT (q true _ (same_new hp) (fun z => nomatch z) (fun _ => ⟨_, rfl, te⟩))
    | @cons v0 _ d0 e' h1 r1 =>
      obtain ⟨fo, _, _⟩ := term_inv (te d0 List.mem_cons_self)
      obtain ⟨c, rest, ss, rfl, _⟩ := formed_inv fo
      obtain ⟨b0, x0, rfl, hb0, _, _⟩ := h1.tup_inv
      refine ⟨_, h5, by show 0 ≤ sizeLine; decide, fun p hp => ⟨b, p, _, rfl, rfl, SqT.of ((same_new hp) _ _ hb), SqT.of upd_same, _, rfl, ?_⟩⟩
      refine iteF ⟨_, h5, b, _, ((0 : Nat) : Int), _, rfl, rfl, SqT.of ((same_new hp) _ _ hb), atI_nat rfl, _, .ty "tuple", _, _, _, rfl, .ty "tuple", (Kn.tup (K := K) (.base (.tup ((same_new hp) _ _ hb0)))).ty, kit_ty (show kitB "tuple" "tuple" = some true by decide +kernel), ?_⟩
      exact q true _ (same_new hp) (fun z => nomatch z) (fun _ => ⟨_, rfl, te⟩)
set_option maxHeartbeats 1000000 in
theorem ok_lsc {f fD fT : Addr} {fd dD dT : FuncData} (F : Fun K "_law_side_called" "_law_side_called" sLSideC f fd) (L : Lct K mg) (DT : Df K mg "_law_term_called" fT dT pLTC) (GT : FnOk P w K mg base CX0 12 fT dT pLTC (spLTC 10)) (DD : Df K mg "_law_called" fD dD pLCalled) (GD : FnOk P w K mg base CX0 1 fD dD pLCalled spLCalled) :
    FnOk P w K mg base CX0 13 f fd pLSC spLSC := by
  refine F.ok scLSC (fun vs H Q E h => ?_) (fun cdv A outer s H vs Q E hr h => ?_)
  · obtain ⟨x, d, P0, aO, aM, kn, km, rfl, _⟩ := h
    rfl
  · obtain ⟨x, d, P0, aO, aM, kn, km, rfl, ft, sh, rd, hO, hM, q⟩ := h
    have hr1 := hr.mono (by decide : 1 ≤ 12)
    have hrt := hr
    refine ⟨_, (pss_cons (ps_if (pt_cmpR op_notIn_seq (pe_ix ix_tup (pv 0) pe_int (fun _ _ => rfl)) (pe_tup (pa_cons pe_str (pa_cons pe_str (pa_cons pe_str (pa_cons pe_str pa_nil))))) (by rfl)) (pss_one (ps_ret (pe_call GT hrt (by rfl) DT.at_ DT.kp DT.bd .nil pass0 (pa_cons (pv 0) (pa_cons (pv 1) pa_nil))))) pss_nil)
        (pss_cons (ps_set (i := 3) scLSC.nd rfl (Or.inl rfl) (pe_ifExp (pt_cmpR op_isN (pe_ix ix_tup (pv 0) (pe_un un_neg pe_int) (fun _ _ => rfl)) pe_non (nomark _)) pe_non (pe_call GD hr1 (by rfl) DD.at_ DD.kp DD.bd .nil pass0 (pa_cons (pe_ix ix_tup (pv 0) (pe_un un_neg pe_int) (fun _ _ => rfl)) (pa_cons (pv 1) pa_nil)))))
        (pss_cons (ps_set (i := 4) scLSC.nd rfl (Or.inl rfl) (pe_lst pa_nil))
        (pss_cons (ps_for PassesOwn.never rfl (pi_tup (pe_slice sl_tupA (pv 0) (po_some pe_int) (po_some (pe_un un_neg pe_int)))) (pg_name (i := 5) scLSC.nd rfl (Or.inl rfl)) (pss_cons (ps_set (i := 6) scLSC.nd rfl (Or.inl rfl) (pe_or (pe_cmpR (op_eqNilT hr.units) (pv 5) (pe_tup pa_nil) (nomark _)) (pe_one (pe_callB call_isi (by rfl) L.mi (by decide +kernel) (pa_cons (pe_ix ix_tup (pv 5) pe_int (fun _ _ => rfl)) (pa_cons (pe_bltn (v := .ty "tuple") (by rfl) L.mt (by decide +kernel) rfl) pa_nil))))))
        (pss_one (ps_expr (pe_bm PySem.F.plainAttrs_list PySem.F.slot_list_append PySem.F.type_list_append mt_append (pv 4) (pa_cons (pe_ifExp (pt_val (pv 6)) (pe_callTy call_tuple_of (by rfl) L.mt (by decide +kernel) (pa_cons (pe_lc (own := [("_law_part", 7)]) (g := gName 7) (tt := tYes) rfl scLSC.nd (pi_tup (pv 5)) (blkOk_by (N := nLSC) (sc := defScope sLSideC) (by decide +kernel)) (fun _ _ _ _ _ => pg_name (i := 7) scLSC.nd rfl (Or.inl rfl)) (fun _ _ _ _ _ => pts_nil) (fun _ _ _ _ _ => (pe_call GT hrt (by rfl) DT.at_ DT.kp DT.bd .nil pass0 (pa_cons (pv 7) (pa_cons (pv 1) pa_nil))))) pa_nil)) (pe_call GT hrt (by rfl) DT.at_ DT.kp DT.bd .nil pass0 (pa_cons (pv 5) (pa_cons (pv 1) pa_nil)))) pa_nil))))))
        (pss_one (ps_ret (pe_op op_catA (pe_op op_catA (pe_tup (pa_cons (pe_ix ix_tup (pv 0) pe_int (fun _ _ => rfl)) (pa_cons (pe_call GD hr1 (by rfl) DD.at_ DD.kp DD.bd .nil pass0 (pa_cons (pe_ix ix_tup (pv 0) pe_int (fun _ _ => rfl)) (pa_cons (pv 2) pa_nil))) pa_nil))) (pe_callTy call_tuple_of (by rfl) L.mt (by decide +kernel) (pa_cons (pv 4) pa_nil))) (pe_tup (pa_cons (pv 3) pa_nil))))))))), ?_⟩
    obtain ⟨fo, wt⟩ := right_inv rd
    obtain ⟨c, rest, ss, rfl, el, hl, hf, _⟩ := formed_inv fo
    obtain ⟨a, xs, rfl, ha, pa, r⟩ := id sh.tup_inv
    obtain ⟨fl, fa⟩ := fit_tup.mp ft
    cases r with
    | @cons v vs d1 _ hv rv =>
    cases hv
    have fr : ∀ x ∈ rest, fit 6 9 x := fun x mx => fa x (List.mem_cons_of_mem _ mx)
    have new_ : ∀ {G G' : Hp} {y : V} {dy : PyData}, Same H G → Sh G' (Pn G fun b => P0 b ∧ H b ≠ none) true y dy → Sh G' (Pn H P0) true y dy := fun sG h => Sh.on (fun b o h _ => by
      rcases h with h | h
      · exact .inl (none_back sG h)
      · exact .inr h.1) (fun _ _ _ e => e) _ _ h
    refine ⟨_, rfl, a, _, ((0 : Nat) : Int), _, rfl, rfl, SqT.of ha, atI_nat rfl, by show 4 ≤ sizeLine; decide, fun p1 hp1 => ⟨p1, _, rfl, .inr (SqT.of upd_same), rfl, by decide +kernel, _, rfl, ?_⟩⟩
    rw [show inV (.str c) [V.str "call", V.str "map", V.str "fold", V.str "pairs"] = callS c from rfl]
    have s1 := same_new (o := .tup [V.str "call", V.str "map", V.str "fold", V.str "pairs"]) hp1
    generalize upd H p1 (.tup [V.str "call", V.str "map", V.str "fold", V.str "pairs"]) = H1 at s1
    by_cases hc : callS c = true
    rotate_left
    · rw [Bool.eq_false_iff.mpr hc]
      refine iteT ⟨_, rfl, _, rfl, .ref a, _, fun b => P0 b ∧ H b ≠ none, aO, kn, dF km, rfl, ft, sh_old (fun b o _ h => s1 _ _ h) sh, right_nocall rd (by show callS c = false; exact Bool.eq_false_iff.mpr hc), hO.same s1, fun y G s2 sh2 => q y G (s1.trans s2) (new_ s1 sh2)⟩
    rw [hc]
    refine iteF ?_
    obtain ⟨z, mid, out, ev, rfl, lmo, l1, l2, hm, hev, hcal⟩ := mid_of (f := dF kn) (g := dF km) rd hc
    cases rv with
    | @cons vz vs' _ _ hz r' =>
    cases hz
    obtain ⟨ws, w', rfl, shm, she⟩ := r'.snoc_inv
    have hlast : atI (V.str c :: .str z :: (ws ++ [w'])) (-1) = some w' := by
      have e : V.str c :: .str z :: (ws ++ [w']) = (V.str c :: .str z :: ws) ++ [w'] := rfl
      rw [e]
      exact atI_last _ _
    have lws := shAll_len shm
    refine every_ok (K := K) (P0 := P0) (H := H) rfl rfl (s1 _ _ ha) hlast she hev (hO.same s1) fun u3 hu3 => ?_
    dsimp only [gName]
    refine ⟨by show 0 ≤ sizeLine; decide, fun W hW => ?_⟩
    have sW := same_trans_new (o := .lst []) s1 hW
    have hWH := none_back s1 hW
    refine ⟨_, rfl, 2, rfl, _, rfl, _, rfl, a, _, rfl, SqT.of (sW _ _ ha), (fun z => absurd z nf_mid), fun _ t ht => ?_⟩
    rw [cut_mid]
    have st := same_new (o := .tup ws) ht
    have s2 := sW.trans st
    have ntW : t ≠ W := fun e => by rw [e, upd_same] at ht; cases ht
    refine ⟨t, rfl, ⟨_, SqT.of upd_same⟩, for_tup (K := K) (a := t) (xs := ws) (fun i σ G => ∃ u5 u6 u7 ys, σ = [some (.ref a), some (.ref aO), some (.ref aM), some u3, some (.ref W), u5, u6, u7] ∧ G W = some (.lst ys) ∧ ShAll G (fun b => b ≠ W ∧ Pn H P0 b) true ys (out.take i) ∧ Same H G ∧ G t = some (.tup ws))
      ⟨_, _, _, [], rfl, st _ _ upd_same, .nil, s2, upd_same⟩ (fun i σ G _ pv => ?_) (fun i y σ G hy pv => ?_) fun σ G pv => ?_⟩
    · obtain ⟨_, _, _, _, _, _, _, _, gt⟩ := pv
      exact SqT.of gt
    · obtain ⟨u5, u6, u7, ys, rfl, gW, sy, sG, gt⟩ := pv
      obtain ⟨dy, hdy, day⟩ := shm.get hy
      obtain ⟨ry, hry, hmid⟩ := hm i dy hdy
      have hi := (List.getElem?_eq_some_iff.mp hdy).1
      have ly := shAll_len sy
      dsimp only [gName]
      refine many_ok (K := K) (P0 := fun b => P0 b ∧ H b ≠ none) (d := dy) rfl (sh_old (fun b o _ h => sG _ _ h) day) ?_ fun b G1 s3 hf ht' => ?_
      · rcases hmid with ⟨q1, _⟩ | ⟨e, q1, q2, _⟩
        · exact .inl q1
        · exact .inr ⟨e, q1, q2⟩
      have s4 := sG.trans s3
      have gW1 := s3 _ _ gW
      have fy : fit 6 9 dy := fr _ (List.mem_cons_of_mem _ (List.mem_append.mpr (.inl (List.mem_of_getElem? hdy))))
      have tk : out.take (i + 1) = out.take i ++ [ry] := by
        rw [List.take_add_one, hry]
        rfl
      have app : ∀ (y' : V) (G2 : Hp), Same G1 G2 → Sh G2 (Pn G1 fun b => P0 b ∧ H b ≠ none) true y' ry → ∃ u5' u6' u7' ys', [some (V.ref a), some (.ref aO), some (.ref aM), some u3, some (.ref W), some y, some (.bl b), u7] = [some (.ref a), some (.ref aO), some (.ref aM), some u3, some (.ref W), u5', u6', u7'] ∧ upd G2 W (.lst (ys ++ [y'])) W = some (.lst ys') ∧
          ShAll (upd G2 W (.lst (ys ++ [y']))) (fun b => b ≠ W ∧ Pn H P0 b) true ys' (out.take (i + 1)) ∧ Same H (upd G2 W (.lst (ys ++ [y']))) ∧ upd G2 W (.lst (ys ++ [y'])) t = some (.tup ws) := fun y' G2 s5 sh2 => by
        have nb : ∀ b, Pn G1 (fun b => P0 b ∧ H b ≠ none) b → b ≠ W := fun b h => by
          rcases h with h | ⟨h1, h2⟩
          · exact ne_of_none' h gW1
          · exact fun z => h2 (z ▸ hWH)
        have pnx : ∀ b, Pn G1 (fun b => P0 b ∧ H b ≠ none) b → Pn H P0 b := fun b h => by
          rcases h with h | ⟨h1, h2⟩
          · exact .inl (none_back s4 h)
          · exact .inr h1
        refine ⟨_, _, _, ys ++ [y'], rfl, upd_same, ?_, fun b o h => ?_, ?_⟩
        · rw [tk]
          refine ShAll.append (ShAll.on (fun _ _ h _ => h) (fun b o h z => ?_) _ _ sy) (.cons (Sh.on (fun b o h z => ⟨nb b h, pnx b h⟩) (fun b o h z => ?_) _ _ sh2) .nil)
          · rw [upd_ne h.1]
            exact s5 _ _ (s3 _ _ z)
          · rw [upd_ne (nb b h)]
            exact z
        · rw [upd_ne (ne_of_none h hWH)]
          exact s5 _ _ (s4 _ _ h)
        · rw [upd_ne ntW]
          exact s5 _ _ (s3 _ _ gt)
      have lW : ∀ G2, Same G1 G2 → G2 W = some (.lst ys) ∧ ys.length < sizeLine := fun G2 s5 => ⟨s5 _ _ gW1, by rw [ly, List.length_take, sizeLine_eq]; omega⟩
      refine ⟨_, rfl, .inl ⟨rfl, _, SqL.of gW1⟩, _, rfl, _, rfl, ?_⟩
      cases b with
      | false =>
        have td := hf rfl
        have er : ry = calD (dF kn) (dF km) dy := by
          rcases hmid with ⟨_, q2⟩ | ⟨e, q1, q2, q3⟩
          · exact q2
          · subst q1
            obtain ⟨c', rest', _, ec, _⟩ := formed_inv (term_inv td).1
            cases ec
            have := q2 (.str c') List.mem_cons_self
            obtain ⟨f1, _, _⟩ := term_inv this
            cases f1
        refine iteF ⟨_, rfl, _, rfl, y, dy, fun b => P0 b ∧ H b ≠ none, aO, kn, dF km, rfl, fit_mono (Nat.le_refl _) dy (by decide) fy, sh_old (fun b o _ h => s4 _ _ h) day, td, hO.same s4, fun y' G2 s5 sh2 => ?_⟩
        obtain ⟨g1, g2⟩ := lW G2 s5
        refine ⟨W, _, _, rfl, rfl, g1, g2, app y' G2 s5 (by rw [er]; exact sh2)⟩
      | true =>
        obtain ⟨e, rfl, te⟩ := ht' rfl
        have er : ry = .tuple (e.map (calD (dF kn) (dF km))) := by
          rcases hmid with ⟨q1, _⟩ | ⟨e', q1, _, q3⟩
          · obtain ⟨c', rest', _, ec, _⟩ := formed_inv (term_inv q1).1
            cases ec
            have := te (.str c') List.mem_cons_self
            obtain ⟨f1, _, _⟩ := term_inv this
            cases f1
          · cases q1
            exact q3
        obtain ⟨b', xb, rfl, hb, pb, rb⟩ := day.tup_inv
        obtain ⟨le, fe⟩ := fit_tup.mp fy
        refine iteT ⟨_, rfl, b', rfl, ⟨_, SqT.of (s4 _ _ hb)⟩, fun D hD => ?_⟩
        refine tcs_W (K := K) (P0 := fun b => P0 b ∧ H b ≠ none) (g := dF km) (s4 _ _ hb) (ShAll.on (fun b o h e => ⟨h, fun z => by rw [e] at z; cases z⟩) (fun b o _ h => s4 _ _ h) _ _ rb) (fun x mx => fit_mono (Nat.le_refl _) x (by decide) (fe x mx)) te (hO.same s4) (by omega) (fun _ => rfl) (fun _ => rfl) (fun _ => rfl) hD fun ys2 G2 s5 gD sy2 => ?_
        refine ⟨D, _, rfl, .inl ⟨SqL.of gD, fun u hu => ?_⟩⟩
        have su := same_new (o := .tup ys2) hu
        have s6 := s5.trans su
        obtain ⟨g1, g2⟩ := lW _ s6
        refine ⟨W, _, _, rfl, rfl, g1, g2, app (.ref u) _ s6 ?_⟩
        rw [er]
        exact .tup upd_same (.inl (none_back s5 hu)) (ShAll.on (fun _ _ h _ => h.2) (fun b o _ h => su _ _ h) _ _ sy2)
    · obtain ⟨u5, u6, u7, ys, rfl, gW, sy, sG, gt⟩ := pv
      have lo : ws.length = out.length := lws.trans lmo
      rw [lo, List.take_length] at sy
      have ly := shAll_len sy
      refine ⟨_, rfl, a, _, ((0 : Nat) : Int), _, rfl, rfl, SqT.of (sG _ _ ha), atI_nat rfl, _, rfl, a, _, ((1 : Nat) : Int), _, rfl, rfl, SqT.of (sG _ _ ha), atI_nat rfl, _, rfl, z, aM, km, rfl, hM.same sG, by show 2 ≤ sizeLine; decide, fun p2 hp2 => ?_⟩
      have e2 := same_new (o := .tup [V.str c, .str (dF km z)]) hp2
      have g2 : upd G p2 (.tup [V.str c, .str (dF km z)]) p2 = some (.tup [V.str c, .str (dF km z)]) := upd_same
      have gW2 := e2 _ _ gW
      have sy2 := shAll_same e2 sy
      have s2' := sG.trans e2
      generalize upd G p2 (.tup [V.str c, .str (dF km z)]) = G2 at e2 g2 gW2 sy2 s2'
      refine ⟨_, rfl, W, _, rfl, .inl ⟨SqL.of gW2, fun u hu => ?_⟩⟩
      have e3 := same_new (o := .tup ys) hu
      have g3 : upd G2 u (.tup ys) u = some (.tup ys) := upd_same
      have g23 := e3 _ _ g2
      have sy3 := shAll_same e3 sy2
      have s3' := s2'.trans e3
      generalize upd G2 u (.tup ys) = G3 at e3 g3 g23 sy3 s3'
      refine ⟨p2, u, _, ys, rfl, rfl, SqT.of g23, SqT.of g3, by rw [ly, sizeLine_eq]; show 2 + _ ≤ _; omega, (fun e => nomatch e), (fun _ e => by rw [e, List.length_nil] at ly; omega), fun _ _ p3 hp3 => ?_⟩
      have e4 := same_new (o := .tup ([V.str c, .str (dF km z)] ++ ys)) hp3
      have g4 : upd G3 p3 (.tup ([V.str c, .str (dF km z)] ++ ys)) p3 = some (.tup ([V.str c, .str (dF km z)] ++ ys)) := upd_same
      have sy4 := shAll_same e4 sy3
      have s4' := s3'.trans e4
      generalize upd G3 p3 (.tup ([V.str c, .str (dF km z)] ++ ys)) = G4 at e4 g4 sy4 s4'
      refine ⟨_, rfl, by show 1 ≤ sizeLine; decide, fun p4 hp4 => ?_⟩
      have e5 := same_new (o := .tup [u3]) hp4
      have sy5 := shAll_same e5 sy4
      have s5' := s4'.trans e5
      refine ⟨p3, p4, _, _, rfl, rfl, SqT.of (e5 _ _ g4), SqT.of upd_same, by rw [List.length_append, ly, sizeLine_eq]; show (2 + _) + 1 ≤ _; omega, (fun e => nomatch e), (fun _ e => nomatch e), fun _ _ p5 hp5 => ?_⟩
      refine q _ _ (same_trans_new s5' hp5) ?_
      rw [hcal]
      refine .tup upd_same (.inl (none_back s5' hp5)) ?_
      refine .cons (.str _) (.cons (.str _) (ShAll.append (shAll_same (same_new hp5) (ShAll.on (fun _ _ h _ => h.2) (fun _ _ _ h => h) _ _ sy5)) (.cons (hu3 _ _) .nil)))
end
end K5
end Bf

namespace Bf
open PySem PySem.Spec PyProof.Rows L2
namespace K5
section
variable {P : Program} {w : World} {K : PySem.W.Frag} {mg : Str → Option Value} {base : Heap} {aF aS aC : Addr}
/-- renamed, called -/
structure Ren (K : PySem.W.Frag) (mg : Str → Option Value) (f : Addr) (fd : FuncData) : Prop where
  at_ : mg "renamed" = some (.ref f)
  kp : PySem.W.keepIn K (.ref f) = true
  b0 : ∃ ds, Vals [.non] ds ∧ Binds K fd pRen ds
  kN : ∃ g, KBn K fd pRen 2 ["nodes"] g fun vs zs => vs ++ zs
theorem ren_of {f : Addr} {fd : FuncData} (F : FunD K "renamed" "renamed" (defArgs sRenamed) (defBody sRenamed) (defScope sRenamed) [] [("nodes", .non)] f fd) (hm : mg "renamed" = some (.ref f)) : Ren K mg f fd := by
  refine ⟨hm, F.kp, ?_, ?_⟩
  · exact F.binds0 (ps := pRen) 2 (fun z => nomatch z) rfl fun D doc pm an cdv ct us ks l1 l2 => match us, ks, l1, l2 with
      | [_, _], [_], _, _ => ⟨_, _, _, _, _, _, rfl, rfl, rfl⟩
  · obtain ⟨mv, h⟩ := F.kbinds0 (ps := pRen) 2 ["nodes"] [] (fun us _ ws => us ++ ws) (fun z => nomatch z) (fun q m => by cases m) (fun r1 r2 r3 => r1.append r3) fun D doc pm an cdv ct us mv ws l1 l2 l3 => match us, mv, ws, l1, l2, l3 with
      | [_, _], [], [_], _, _, _ => rfl
    exact ⟨_, h⟩
structure Exm5 (K : PySem.W.Frag) (cT cN : Addr) : Prop where
  tt : PySem.W.exmOne K (.ref cT) (.ref cT) = some true
  nt : PySem.W.exmOne K (.ref cN) (.ref cT) = some false
  nn : PySem.W.exmOne K (.ref cN) (.ref cN) = some true
abbrev pLAsked : List Str := ["_law_side_here", "_law_one", "_law_calls"]
abbrev nLAsked : List Str := ["_law_side_here", "_law_one", "_law_calls", "e"]
theorem scLAsked : FnScope nLAsked pLAsked (defScope sAsked) := ⟨rfl, rfl, rfl, by decide +kernel, rfl, by decide +kernel, by decide +kernel⟩
def spLAsked : Sp := fun vs H Q _ => ∃ (x nv mv : V) (d : PyData), vs = [x, nv, mv] ∧ Da H x d ∧ sz d ≤ 900000 ∧
  ((rightD d = false ∧ ∀ p H', Same H H' → H p = none → p ≠ sysModules → H' p = some (.lst [.str "term", x]) → Q (.ref p) H') ∨
   (rightD d = true ∧ NoDict nameD H nv ∧ ∀ p H', Same H H' → H p = none → p ≠ sysModules → H' p = some (.lst [.str "names", nv]) → Q (.ref p) H') ∨
   (rightD d = true ∧ (∃ kn, IsDict nameD H nv kn) ∧ mv ≠ .non ∧ NoDict nodeD H mv ∧ ∀ p H', Same H H' → H p = none → p ≠ sysModules → H' p = some (.lst [.str "names", mv]) → Q (.ref p) H') ∨
   (rightD d = true ∧ fit 6 10 d ∧ ∃ (P0 : Addr → Prop) (kn km : List (Key × V)), Sh H P0 true x d ∧ IsDict nameD H nv kn ∧ ((mv = .non ∧ km = []) ∨ (mv ≠ .non ∧ IsDict nodeD H mv km)) ∧
     ∀ y p H', Same H H' → H p = none → p ≠ sysModules → H' p = some (.lst [.str "told", y]) → Sh H' (fun a => a ≠ p ∧ Pn H P0 a) true y (calD (dF kn) (dF km) d) → Q (.ref p) H'))
set_option maxHeartbeats 1000000 in
theorem ok_lasked {f cT cN fT fN fr : Addr} {fd fdT fdN fdr : FuncData} (F : Fun K "_law_asked" "_law_asked" sAsked f fd) (TT : ExT K mg "NoTerm" cT fT fdT) (TN : ExT K mg "NoNames" cN fN fdN) (X : Exm5 K cT cN) (R : Ren K mg fr fdr)
    (GR : FnOk P w K mg base (CXL P w) 22 fr fdr pRen (spRen cT cN)) : FnOk P w K mg base CX0 23 f fd pLAsked spLAsked := by
  obtain ⟨ds, vds, b0⟩ := R.b0
  obtain ⟨gN, kN⟩ := R.kN
  refine F.ok scLAsked (fun vs H Q E h => ?_) (fun cdv A outer s H vs Q E hr h => ?_)
  · obtain ⟨x, nv, mv, d, rfl, _⟩ := h
    rfl
  · obtain ⟨x, nv, mv, d, rfl, da, hz, q⟩ := h
    refine ⟨_, pss_one (ps_arms rfl rfl scLAsked.nd
      (fun W pn xe tk _ => pss_cons (ps_if (pt_cmpR op_isN (pv 2) pe_non (nomark _)) (pss_one (ps_ret (pe_lstN (pa_cons pe_str (pa_cons (pe_callSD GR hr (by rfl) R.at_ R.kp b0 vds (fun σ => L2.passAt tk σ) (pa_cons (pv 0) (pa_cons (pv 1) pa_nil))) pa_nil))))) pss_nil)
        (pss_one (ps_ret (pe_lstN (pa_cons pe_str (pa_cons (pe_callNS GR hr (by rfl) R.at_ R.kp kN (fun σ => L2.passAt tk σ) (pa_cons (pv 0) (pa_cons (pv 1) pa_nil)) (pk_cons (pv 2) pk_nil)) pa_nil))))))
      (Arms.cons (c := .ref cT) (i := 3) ⟨by rfl, by decide, .inl TT.gC⟩ rfl rfl (fun a oe cls d pn hz hf => pss_one (ps_ret (pe_lstN (pa_cons pe_str (pa_cons (pe_xf TT.xf TT.nf hz hf (pv 3)) pa_nil)))))
      (Arms.cons (c := .ref cN) (i := 3) ⟨by rfl, by decide, .inl TN.gC⟩ rfl rfl (fun a oe cls d pn hz hf => pss_one (ps_ret (pe_lstN (pa_cons pe_str (pa_cons (pe_xf TN.xf TN.nf hz hf (pv 3)) pa_nil))))) Arms.nil))), ?_⟩
    refine ⟨_, rfl, rfl, _, rfl, ?_⟩
    have told : ∀ (P0 : Addr → Prop) (kn km : List (Key × V)), (∀ y p H', Same H H' → H p = none → p ≠ sysModules → H' p = some (.lst [.str "told", y]) → Sh H' (fun a => a ≠ p ∧ Pn H P0 a) true y (calD (dF kn) (dF km) d) → Q (.ref p) H') →
        ∀ y H1, Same H H1 → Sh H1 (Pn H P0) true y (calD (dF kn) (dF km) d) → ∀ p, H1 p = none → p ≠ sysModules → Q (.ref p) (upd H1 p (.lst [.str "told", y])) := fun P0 kn km q y H1 s1 sh p hp np => by
      refine q y p _ (same_trans_new s1 hp) (none_back s1 hp) np upd_same (Sh.on (fun b o h e => ⟨ne_of_none e hp, h⟩) (fun b o _ e => by rw [upd_ne (ne_of_none e hp)]; exact e) _ _ sh)
    by_cases hm : mv = .non
    · rw [decide_eq_true hm]
      refine iteT ⟨_, rfl, _, rfl, x, nv, .non, d, rfl, da, hz, ?_⟩
      rcases q with ⟨e, q⟩ | ⟨e, nd, q⟩ | ⟨e, _, nm, _⟩ | ⟨e, ft, P0, kn, km, sh, gd, gm, q⟩
      · exact .inl ⟨e, fun d' H' s' hd hx => ⟨true, X.tt, fun _ a ha => ⟨_, rfl, rfl, rfl, d', _, _, rfl, hx, rfl, by show 2 ≤ 1000; decide, fun p hp np => q p _ (same_trans_new s' hp) (s'.free hp) np upd_same⟩, fun z => nomatch z⟩⟩
      · exact .inr (.inl ⟨e, nd, fun d' H' s' hd hx => ⟨false, X.nt, (fun z => nomatch z), fun _ => ⟨true, X.nn, fun _ a ha => ⟨_, rfl, rfl, rfl, d', _, _, rfl, hx, rfl, by show 2 ≤ 1000; decide, fun p hp np => q p _ (same_trans_new s' hp) (s'.free hp) np upd_same⟩, fun z => nomatch z⟩⟩⟩)
      · exact absurd hm nm
      · rcases gm with ⟨_, rfl⟩ | ⟨nm, _⟩
        · exact .inr (.inr (.inr ⟨e, ft, P0, kn, [], sh, gd, .inl ⟨rfl, rfl⟩, fun y H1 s1 sh1 => ⟨by show 2 ≤ 1000; decide, told P0 kn [] q y H1 s1 sh1⟩⟩))
        · exact absurd hm nm
    · rw [decide_eq_false hm]
      refine iteF ⟨_, rfl, _, rfl, _, rfl, rfl, rfl, x, nv, mv, d, rfl, da, hz, ?_⟩
      rcases q with ⟨e, q⟩ | ⟨e, nd, q⟩ | ⟨e, gd, nm, nd, q⟩ | ⟨e, ft, P0, kn, km, sh, gd, gm, q⟩
      · exact .inl ⟨e, fun d' H' s' hd hx => ⟨true, X.tt, fun _ a ha => ⟨_, rfl, rfl, rfl, d', _, _, rfl, hx, rfl, by show 2 ≤ 1000; decide, fun p hp np => q p _ (same_trans_new s' hp) (s'.free hp) np upd_same⟩, fun z => nomatch z⟩⟩
      · exact .inr (.inl ⟨e, nd, fun d' H' s' hd hx => ⟨false, X.nt, (fun z => nomatch z), fun _ => ⟨true, X.nn, fun _ a ha => ⟨_, rfl, rfl, rfl, d', _, _, rfl, hx, rfl, by show 2 ≤ 1000; decide, fun p hp np => q p _ (same_trans_new s' hp) (s'.free hp) np upd_same⟩, fun z => nomatch z⟩⟩⟩)
      · exact .inr (.inr (.inl ⟨e, gd, nm, nd, fun d' H' s' hd hx => ⟨false, X.nt, (fun z => nomatch z), fun _ => ⟨true, X.nn, fun _ a ha => ⟨_, rfl, rfl, rfl, d', _, _, rfl, hx, rfl, by show 2 ≤ 1000; decide, fun p hp np => q p _ (same_trans_new s' hp) (s'.free hp) np upd_same⟩, fun z => nomatch z⟩⟩⟩))
      · exact .inr (.inr (.inr ⟨e, ft, P0, kn, km, sh, gd, gm, fun y H1 s1 sh1 => ⟨by show 2 ≤ 1000; decide, told P0 kn km q y H1 s1 sh1⟩⟩))
end
end K5
end Bf

namespace Bf
open PySem PySem.Spec PyProof.Rows L2
theorem tl_len (z : Str) : z.cps.toList.length = z.cps.size := Array.length_toList
namespace K5
/-! ### names are shown -/
theorem name_ok {z : Str} (h : nameS z = true) : strOk z = true ∧ z.cps.size ≤ 8 ∧ z.length ≤ 1000 := by
  unfold nameS at h
  obtain ⟨h1, h2⟩ := Bool.and_eq_true_iff.mp h
  obtain ⟨a, b⟩ := Bool.and_eq_true_iff.mp h1
  have b' : z.cps.size ≤ 8 := of_decide_eq_true b
  have sm : ∀ c, signB c = true → c < 16 ^ 8 := fun c hc => by
    unfold signB at hc
    obtain ⟨_, k⟩ := Bool.and_eq_true_iff.mp hc
    have k' : ¬ (("z" : Str).cps.toList < ([c] : List Nat)) := by simpa using k
    have e : ("z" : Str).cps.toList = [122] := by decide +kernel
    rw [e] at k'
    have : ¬ 122 < c := fun l => k' (List.Lex.rel l)
    have : c ≤ 122 := by omega
    exact Nat.lt_of_le_of_lt this (by decide)
  refine ⟨?_, b', Nat.le_trans b' (by decide)⟩
  unfold strOk
  rw [List.all_eq_true.mpr fun c m => decide_eq_true (sm c (List.all_eq_true.mp h2 c m)), decide_eq_true (Nat.le_trans b' (by decide))]
  rfl
theorem names_name {d : PyData} (h : rightD d = true) : ∀ z ∈ namesD d, nameS z = true := by
  intro z m
  unfold namesD at m
  rcases List.mem_append.mp m with m | m
  · obtain ⟨l, ml, mz⟩ := List.mem_flatten.mp m
    obtain ⟨e, me, rfl⟩ := List.mem_map.mp ml
    have te := parts_term h e me
    obtain ⟨f1, _, _⟩ := term_inv te
    obtain ⟨c, rest, ss, rfl, _⟩ := formed_inv f1
    rw [nmP_tup] at mz
    split at mz
    · rename_i hc
      rcases Bool.or_eq_true_iff.mp hc with hc | hc
      · have := decS hc
        subst this
        obtain ⟨y, e, n⟩ := w_name f1
        rw [strAt_eq e] at mz
        rw [List.mem_singleton.mp mz]
        exact n
      · have := decS hc
        subst this
        obtain ⟨y, e, n⟩ := w_merge f1
        rw [strAt_eq e] at mz
        rw [List.mem_singleton.mp mz]
        exact n
    · split at mz
      · rename_i hc
        have := decS hc
        subst this
        obtain ⟨y, e, n⟩ := w_when f1
        rw [strAt_eq e] at mz
        rw [List.mem_singleton.mp mz]
        exact n
      · cases mz
  · obtain ⟨fo, _⟩ := right_inv h
    obtain ⟨c, rest, ss, rfl, _⟩ := formed_inv fo
    rw [evD_tup] at m
    split at m
    · rename_i hc
      obtain ⟨_, ev⟩ := ev_inv fo hc
      rcases ev with ev | ⟨y, ev, n⟩
      · unfold strAt at m
        rw [ev] at m
        cases m
      · rw [strAt_eq ev] at m
        rw [List.mem_singleton.mp m]
        exact n
    · cases m
theorem lasts_name {d : PyData} (h : rightD d = true) : ∀ z ∈ lastsD d, nameS z = true := by
  intro z m
  unfold lastsD at m
  obtain ⟨l, ml, mz⟩ := List.mem_flatten.mp m
  obtain ⟨e, me, rfl⟩ := List.mem_map.mp ml
  have te := parts_term h e me
  obtain ⟨f1, _, _⟩ := term_inv te
  obtain ⟨c, rest, ss, rfl, _⟩ := formed_inv f1
  rw [lsP_tup] at mz
  split at mz
  · rename_i hc
    have := decS hc
    subst this
    obtain ⟨y, e, n⟩ := w_last f1
    rw [strAt_eq e] at mz
    rw [List.mem_singleton.mp mz]
    exact n
  · cases mz
theorem namesD_len (d : PyData) : (namesD d).length ≤ sz d + 1 := by
  unfold namesD
  rw [List.length_append]
  have a := flat_len nmP_len (partsD d)
  have b := parts_le d
  have c : (evD d).length ≤ 1 := by
    unfold evD
    split
    · split
      · exact strAt_len _ _
      · simp
    · simp
  omega
theorem lastsD_len (d : PyData) : (lastsD d).length ≤ sz d := by
  have a := flat_len lsP_len (partsD d)
  have b := parts_le d
  unfold lastsD
  omega
/-- data that stand in a list of any length, as repr wants them -/
theorem list_shows {w k : Nat} {ds : List PyData} (h : ∀ d ∈ ds, fit w k d) : (PyData.list ds).showable = true ∧ (PyData.list ds).depth ≤ k + 1 ∧ (PyData.list ds).shown.length ≤ slA ds + 3 := by
  have f : fit (max w ds.length) (k + 1) (.list ds) := fit_lst.mpr ⟨Nat.le_max_right _ _, fun d m => fit_mono (Nat.le_max_left _ _) d (Nat.le_refl _) (h d m)⟩
  obtain ⟨a, b, c⟩ := fit_shows _ f
  exact ⟨a, b, by rw [sl_lst] at c; exact c⟩
/-- the three answers, as repr shows them -/
def ansD (d : PyData) : List PyData := [.list ((onceS (namesD d)).map .str), .list ((onceS (lastsD d)).map .str), .int (firstsD d : Nat)]
theorem strs_sl {l : List Str} (h : ∀ z ∈ l, nameS z = true) : slA (l.map PyData.str) ≤ 85 * l.length := by
  have a := slA_le (n := 83) (l := l.map PyData.str) fun d m => by
    obtain ⟨z, mz, rfl⟩ := List.mem_map.mp m
    exact slS (n := 8) (name_ok (h z mz)).2.1
  rw [List.length_map] at a
  exact a
theorem strs_fit {l : List Str} (h : ∀ z ∈ l, nameS z = true) {w k : Nat} (hl : l.length ≤ w) : fit w (k + 1) (.list (l.map PyData.str)) := by
  refine fit_lst.mpr ⟨by rw [List.length_map]; exact hl, fun d m => ?_⟩
  obtain ⟨z, mz, rfl⟩ := List.mem_map.mp m
  exact fit_str.mpr (name_ok (h z mz)).1
theorem ans_shows {d : PyData} (h : rightD d = true) (hl : sl d ≤ 77000) : (PyData.list (ansD d)).showable = true ∧ (PyData.list (ansD d)).depth ≤ 60 ∧ (PyData.list (ansD d)).shown.length ≤ sizeLine := by
  have n1 := names_name h
  have n2 := lasts_name h
  have o1 : ∀ z ∈ onceS (namesD d), nameS z = true := fun z m => n1 z ((onceS_mem _ _).mp m)
  have o2 : ∀ z ∈ onceS (lastsD d), nameS z = true := fun z m => n2 z ((onceS_mem _ _).mp m)
  have s0 := sz_sl d
  have l1 := onceS_len (namesD d)
  have l2 := onceS_len (lastsD d)
  have k1 := namesD_len d
  have k2 := lastsD_len d
  have f0 : firstsD d ≤ 77000 := by
    have a := parts_le d
    have b : firstsD d ≤ (partsD d).length := List.length_filter_le _ _
    omega
  have f : ∀ x ∈ ansD d, fit 80000 1 x := by
    intro x m
    simp only [ansD, List.mem_cons, List.not_mem_nil, or_false] at m
    rcases m with rfl | rfl | rfl
    · exact strs_fit o1 (by omega)
    · exact strs_fit o2 (by omega)
    · exact fit_int.mpr (.inl (by omega))
  obtain ⟨a, b, c⟩ := list_shows f
  refine ⟨a, by omega, Nat.le_trans c ?_⟩
  have t1 := strs_sl o1
  have t2 := strs_sl o2
  have t3 : sl (.int (firstsD d : Nat)) ≤ 14 := sl_int (by omega)
  unfold ansD
  rw [slA_cons, slA_cons, slA_cons, slA_nil, sl_lst, sl_lst, sizeLine_eq]
  omega
end K5
end Bf

namespace Bf
open PySem PySem.Spec PyProof.Rows L2
theorem passF {X : Cx} {P : Program} {w : World} : Passes (CXL P w) X E0 := fun _ _ _ _ _ _ _ z => by
  obtain ⟨_, _, _, _, _, _, _, _, _, _, _, _, h⟩ := z
  exact h.elim
namespace K5
section
variable {P : Program} {w : World} {K : PySem.W.Frag} {mg : Str → Option Value} {base : Heap} {aF aS aC : Addr}
abbrev nLL : List Str := ["_law_side_here", "_law_parts", "_law_due", "_law_part", "_law_lasts", "_law_turn", "_law_found"]
theorem scLL : FnScope nLL ["_law_side_here"] (defScope sLLists) := ⟨rfl, rfl, rfl, by decide +kernel, rfl, by decide +kernel, by decide +kernel⟩
/-- what it calls -/
structure Lls (P : Program) (w : World) (K : PySem.W.Frag) (mg : Str → Option Value) (base : Heap) (cT fpo fni fli ffi fln flo : Addr) (dpo dni dli dfi dln dlo : FuncData) : Prop where
  Dpo : Df K mg "parts_of" fpo dpo ["right"]
  Gpo : FnOk P w K mg base (CXL P w) 10 fpo dpo ["right"] (spPartsOf cT)
  Dni : Df K mg "names_in" fni dni ["right"]
  Gni : FnOk P w K mg base (CXL P w) 10 fni dni ["right"] (spNames cT namesD)
  Dli : Df K mg "lasts_in" fli dli ["right"]
  Gli : FnOk P w K mg base (CXL P w) 10 fli dli ["right"] (spNames cT lastsD)
  Dfi : Df K mg "firsts_in" ffi dfi ["right"]
  Gfi : FnOk P w K mg base (CXL P w) 10 ffi dfi ["right"] (spFirsts cT)
  Dln : Df K mg "_law_named" fln dln ["_law_part"]
  Gln : FnOk P w K mg base CX0 1 fln dln ["_law_part"] spLNamed
  Dlo : Df K mg "_law_once" flo dlo ["_law_names"]
  Glo : FnOk P w K mg base CX0 1 flo dlo ["_law_names"] spLOnce
  ml : mg "len" = none
  mL : mg "list" = none
  mr : mg "range" = none
  mp : mg "repr" = none
def spLL : Sp := fun vs H Q _ => ∃ (x : V) (d : PyData) (P0 : Addr → Prop), vs = [x] ∧ Sh H P0 true x d ∧ fit 6 10 d ∧ sl d ≤ 77000 ∧ rightD d = true ∧ ∀ H', Same H H' → Q (.bl true) H'
/-- three answers, held in a list -/
theorem ans_sh {H : Hp} {p1 p2 : Addr} {d : PyData} (h1 : H p1 = some (.lst ((onceS (namesD d)).map V.str))) (h2 : H p2 = some (.lst ((onceS (lastsD d)).map V.str))) :
    ShAll H (fun _ => True) false [.ref p1, .ref p2, .int (firstsD d : Nat)] (ansD d) := by
  have shs : ∀ l : List Str, ShAll H (fun _ => True) false (l.map V.str) (l.map PyData.str) := fun l => by
    induction l with
    | nil => exact .nil
    | cons z r ih => exact .cons (.str z) ih
  exact .cons (.lst h1 trivial (fun z => nomatch z) (shs _)) (.cons (.lst h2 trivial (fun z => nomatch z) (shs _)) (.cons (.int _) .nil))
set_option maxHeartbeats 2000000 in
theorem ok_ll {f cT fpo fni fli ffi fln flo : Addr} {fd dpo dni dli dfi dln dlo : FuncData} (F : Fun K "_law_lists_right" "_law_lists_right" sLLists f fd) (L : Lls P w K mg base cT fpo fni fli ffi fln flo dpo dni dli dfi dln dlo) : FnG P w K mg base CX0 11 f fd ["_law_side_here"] spLL := by
  refine Fun.okG F scLL (fun vs H Q E h => ?_) (fun cdv A outer s H vs Q E hA hr h => ?_)
  · obtain ⟨x, d, P0, rfl, _⟩ := h
    rfl
  · obtain ⟨x, d, P0, rfl, sh, ft, hl, rd, q⟩ := h
    have hrp := hr
    have hr1 := hr.mono (by decide : 1 ≤ 10)
    have hA' : (A.deeper (envOfC "_law_lists_right" (defScope sLLists) s.heap.objs.size f cdv)).guards = some [] := hA
    refine ⟨_, (pss_cons (ps_set (i := 1) scLL.nd rfl (Or.inl rfl) (pe_call L.Gpo hrp (by rfl) L.Dpo.at_ L.Dpo.kp L.Dpo.bd .nil passF (pa_cons (pv 0) pa_nil)))
        (pss_cons (ps_set (i := 2) scLL.nd rfl (Or.inl rfl) (pe_lstN pa_nil))
        (pss_cons (ps_for PassesOwn.leaving rfl (pi_list (pv 1)) (pg_name (i := 3) scLL.nd rfl (Or.inl rfl)) (pss_one (ps_set (i := 2) scLL.nd rfl (Or.inl rfl) (pe_op op_catN (pv 2) (pe_callTy call_list_of (by rfl) L.mL (by decide +kernel) (pa_cons (pe_call L.Gln hr1 (by rfl) L.Dln.at_ L.Dln.kp L.Dln.bd .nil pass0 (pa_cons (pv 3) pa_nil)) pa_nil))))))
        (Evl.pss_cut (ps_if (PW.pt (pw_and (pt_cmpR op_in_seq (pe_ix ix_tup (pv 0) pe_int (fun _ _ => rfl)) (pe_tup (pa_cons pe_str (pa_cons pe_str (pa_cons pe_str (pa_cons pe_str pa_nil))))) (by rfl)) (pw_and1 (pt_cmpR op_notN (pe_ix ix_tup (pv 0) (pe_un un_neg pe_int) (fun _ _ => rfl)) pe_non (nomark _))))) (pss_one (ps_set (i := 2) scLL.nd rfl (Or.inl rfl) (pe_op op_catN (pv 2) (pe_lstN (pa_cons (pe_ix ix_tup (pv 0) (pe_un un_neg pe_int) (fun _ _ => rfl)) pa_nil))))) pss_nil)
        (pss_cons (ps_setLc (i := 4) (own := [("_law_part", 3)]) (g := gName 3) (tt := _) (by rfl) scLL.nd rfl rfl (sw_true rfl rfl rfl (by decide +kernel)) (pi_list (pv 1)) (blkOk_by (N := nLL) (sc := defScope sLLists) (by decide +kernel)) (fun _ _ _ _ _ => pg_name (i := 3) scLL.nd rfl (Or.inl rfl)) (fun _ _ _ _ _ => (pts_one (pt_cmpR op_eq (pe_ix (ixT (K := K) rfl) (pv 3) pe_int (fun _ _ => rfl)) pe_str (nomark _)))) (fun _ _ _ _ _ => (pe_ix (ixT (K := K) rfl) (pv 3) pe_int (fun _ _ => rfl))))
        (pss_cons (ps_for PassesOwn.leaving rfl (pi_range1 (by rfl) L.mr (pa_cons pe_int pa_nil)) (pg_name (i := 5) scLL.nd rfl (Or.inl rfl)) (pss_cons (ps_set (i := 6) scLL.nd rfl (Or.inl rfl) (pe_lstN (pa_cons (pe_call L.Gni hrp (by rfl) L.Dni.at_ L.Dni.kp L.Dni.bd .nil passF (pa_cons (pv 0) pa_nil)) (pa_cons (pe_call L.Gli hrp (by rfl) L.Dli.at_ L.Dli.kp L.Dli.bd .nil passF (pa_cons (pv 0) pa_nil)) (pa_cons (pe_call L.Gfi hrp (by rfl) L.Dfi.at_ L.Dfi.kp L.Dfi.bd .nil passF (pa_cons (pv 0) pa_nil)) pa_nil)))))
        (pss_cons (ps_if (pt_cmpR op_ne (pe_callB (call_reprL hA' hr.units) (by rfl) L.mp (by decide +kernel) (pa_cons (pv 6) pa_nil)) (pe_callB (call_reprL hA' hr.units) (by rfl) L.mp (by decide +kernel) (pa_cons (pe_lstN (pa_cons (pe_call L.Glo hr1 (by rfl) L.Dlo.at_ L.Dlo.kp L.Dlo.bd .nil pass0 (pa_cons (pv 2) pa_nil)) (pa_cons (pe_call L.Glo hr1 (by rfl) L.Dlo.at_ L.Dlo.kp L.Dlo.bd .nil pass0 (pa_cons (pv 4) pa_nil)) (pa_cons (pe_callB call_len_seq (by rfl) L.ml PySem.boot_len (pa_cons (pe_lc (own := [("_law_part", 3)]) (g := gName 3) (tt := _) rfl scLL.nd (pi_list (pv 1)) (blkOk_by (N := nLL) (sc := defScope sLLists) (by decide +kernel)) (fun _ _ _ _ _ => pg_name (i := 3) scLL.nd rfl (Or.inl rfl)) (fun _ _ _ _ _ => (pts_one (pt_cmpR op_eq (pe_ix (ixT (K := K) rfl) (pv 3) pe_int (fun _ _ => rfl)) pe_str (nomark _)))) (fun _ _ _ _ _ => (pv 3))) pa_nil)) pa_nil)))) pa_nil)) (nomark _)) (pss_one (ps_ret pe_bl)) pss_nil)
        (pss_cons (ps_expr (pe_bm PySem.F.plainAttrs_list PySem.F.slot_list_append PySem.F.type_list_append mt_append (pe_ix ix_list (pv 6) pe_int (fun _ _ => rfl)) (pa_cons pe_str pa_nil)))
        (pss_one (ps_expr (pe_bm0 PySem.F.plainAttrs_list PySem.F.slot_list_clear PySem.F.type_list_clear mt_clear (pe_ix ix_list (pv 6) pe_int (fun _ _ => rfl)))))))))
        (pss_one (ps_ret pe_bl)))))))), ?_⟩
    have da := sh_da (by decide) d x ft sh
    have hz : sz d ≤ 900000 := by have := sz_sl d; omega
    have lp := parts_le d
    have pt := parts_term rd
    have sle := sz_sl d
    refine ⟨_, rfl, x, d, H, rfl, Same.refl _, da, hz, .inr ⟨rd, fun p H1 xs s1 hp gp rx => ?_⟩⟩
    dsimp only [gName]
    have lx := rx.len
    refine ⟨by show 0 ≤ 1000; decide, fun W0 hW0 _ => ?_⟩
    dsimp only [gName]
    have npW : p ≠ W0 := fun e => by rw [← e, gp] at hW0; cases hW0
    refine ⟨_, rfl, p, rfl, ⟨xs, SqL.of (by rw [upd_ne npW]; exact gp)⟩, for_list (K := K) (a := p) (xs := xs) (fun i σ G => ∃ u3 Wd, σ = [some x, some (.ref p), some (.ref Wd), u3, none, none, none] ∧ Same H G ∧ G p = some (.lst xs) ∧ G Wd = some (.lst (((((partsD d).take i).map nmP).flatten).map V.str)))
      ⟨_, W0, rfl, same_trans_new s1 hW0, by rw [upd_ne npW]; exact gp, upd_same⟩ (fun i σ G _ pv => ?_) (fun i y σ G hy pv => ?_) fun σ G pv => ?_⟩
    · obtain ⟨_, _, _, _, h, _⟩ := pv
      exact SqL.of h
    · obtain ⟨u3, Wd, rfl, sG, gG, gW⟩ := pv
      obtain ⟨e1, he1, day⟩ := rx.get hy
      have hi := (List.getElem?_eq_some_iff.mp he1).1
      have te := pt e1 (List.mem_of_getElem? he1)
      dsimp only [gName]
      refine ⟨_, rfl, _, rfl, y, e1, H, rfl, sG, day, te, fun t G1 s2 gt => ⟨t, _, rfl, .inr (SqT.of gt), fun l hl => ?_⟩⟩
      have s3 := sG.trans s2
      have sl3 := same_new (o := .lst ((nmP e1).map V.str)) hl
      have lW := flat_len nmP_len ((partsD d).take i)
      rw [List.length_take] at lW
      have l1 := nmP_len e1
      refine ⟨Wd, l, _, _, rfl, rfl, sl3 _ _ (s2 _ _ gW), upd_same, by rw [List.length_map, List.length_map, sizeLine_eq]; omega, fun q' hq _ => ?_⟩
      have sq := same_new (o := .lst (((((partsD d).take i).map nmP).flatten).map V.str ++ (nmP e1).map V.str)) hq
      refine ⟨_, q', rfl, (s3.trans sl3).trans sq, sq _ _ (sl3 _ _ (s2 _ _ gG)), ?_⟩
      rw [upd_same, List.take_add_one, he1, List.map_append, List.flatten_append, List.map_append]
      show _ = some (HO.lst (_ ++ ((nmP e1 :: []).flatten).map V.str))
      rw [List.flatten_cons, List.flatten_nil, List.append_nil]
    obtain ⟨u3, Wd, rfl, sG, gG, gW⟩ := pv
    have lx' : xs.length = (partsD d).length := lx
    rw [lx', List.take_length] at gW
    refine ⟨fun σ' G' => ∃ Wd', σ' = [some x, some (.ref p), some (.ref Wd'), u3, none, none, none] ∧ Same H G' ∧ G' p = some (.lst xs) ∧ G' Wd' = some (.lst ((namesD d).map V.str)), ?_, ?_⟩
    · -- every
      obtain ⟨fo, _⟩ := right_inv rd
      obtain ⟨c, rest, ss, ed, el, hlr, hf, _⟩ := formed_inv fo
      obtain ⟨a, vs, rfl, ha, rv, lv⟩ := Da_at (by rw [ed] at da; exact da)
      have ha' : G a = some (.tup (.str c :: vs)) := sG _ _ ha
      refine ⟨_, rfl, a, _, ((0 : Nat) : Int), _, rfl, rfl, SqT.of ha', atI_nat rfl, by show 4 ≤ sizeLine; decide, fun p1 hp1 => ⟨p1, _, rfl, .inr (SqT.of upd_same), rfl, by decide +kernel, _, rfl, ?_⟩⟩
      rw [show inV (.str c) [V.str "call", V.str "map", V.str "fold", V.str "pairs"] = callS c from rfl]
      have e1 := same_new (o := .tup [V.str "call", V.str "map", V.str "fold", V.str "pairs"]) hp1
      generalize upd G p1 (.tup [V.str "call", V.str "map", V.str "fold", V.str "pairs"]) = G1 at e1
      have sG1 := sG.trans e1
      by_cases hc : callS c = true
      · rw [hc]
        obtain ⟨l0, ev⟩ := ev_inv (by rw [ed] at fo; exact fo) hc
        have lr := rv.len
        have last_ : ∀ dy, rest[rest.length - 1]? = some dy → ∃ y, atI (V.str c :: vs) (-1) = some y ∧ Da H y dy := fun dy h => by
          obtain ⟨y, ey, dyy⟩ := rv.getD h
          refine ⟨y, at_last ?_, dyy⟩
          rw [List.length_cons, Nat.add_sub_cancel]
          obtain ⟨k, hk⟩ : ∃ k, vs.length = k + 1 := ⟨vs.length - 1, by omega⟩
          rw [hk, List.getElem?_cons_succ, ← ey, ← lr, hk]
          rfl
        have en : namesD d = ((partsD d).map nmP).flatten ++ strAt rest (rest.length - 1) := by
          unfold namesD
          rw [ed, evD_tup, if_pos hc]
        rcases ev with ev | ⟨z, ev, _⟩
        · obtain ⟨y, ey, dy⟩ := last_ _ ev
          cases dy
          refine iteT ⟨_, rfl, _, rfl, a, _, _, _, rfl, rfl, SqT.of (e1 _ _ ha'), ey, rfl, _, rfl, iteF ⟨Wd, rfl, sG1, e1 _ _ gG, ?_⟩⟩
          have e0 : strAt rest (rest.length - 1) = [] := by unfold strAt; rw [ev]
          rw [en, e0, List.append_nil]
          exact e1 _ _ gW
        · obtain ⟨y, ey, dy⟩ := last_ _ ev
          cases dy
          refine iteT ⟨_, rfl, _, rfl, a, _, _, _, rfl, rfl, SqT.of (e1 _ _ ha'), ey, rfl, _, rfl, iteT ?_⟩
          refine ⟨_, rfl, _, rfl, _, rfl, a, _, _, _, rfl, rfl, SqT.of (e1 _ _ ha'), ey, by show 1 ≤ 1000; decide, fun l hl _ => ?_⟩
          have e2 := same_new (o := .lst [V.str z]) hl
          have lW := flat_len nmP_len (partsD d)
          refine ⟨Wd, l, _, _, rfl, rfl, e2 _ _ (e1 _ _ gW), upd_same, by rw [List.length_map, sizeLine_eq]; show _ + 1 ≤ _; omega, fun q' hq _ => ?_⟩
          have e3 := same_new (o := .lst ((((partsD d).map nmP).flatten).map V.str ++ [V.str z])) hq
          refine ⟨q', rfl, (sG1.trans e2).trans e3, e3 _ _ (e2 _ _ (e1 _ _ gG)), ?_⟩
          rw [upd_same, en, strAt_eq ev, List.map_append]
          rfl
      · rw [Bool.eq_false_iff.mpr hc]
        refine iteF ⟨Wd, rfl, sG1, e1 _ _ gG, ?_⟩
        have en : namesD d = ((partsD d).map nmP).flatten := by
          unfold namesD
          rw [ed, evD_tup, if_neg hc, List.append_nil]
        rw [en]
        exact e1 _ _ gW
    rintro σ' G' ⟨Wd', rfl, sG', gG', gW'⟩
    -- lasts
    refine ⟨_, rfl, p, rfl, ⟨xs, SqL.of gG'⟩, fun D hD => ?_⟩
    refine lc_list (K := K) (a := p) (xs := xs) (fun i G2 => Same G' G2 ∧ G2 D = some (.lst (((((partsD d).take i).map lsP).flatten).map V.str)))
      ⟨same_new hD, upd_same⟩ (fun i G2 _ pv => SqL.of (pv.1 _ _ gG')) (fun i y G2 hy pv => ?_) fun G2 pv => ?_
    · obtain ⟨s2, gD⟩ := pv
      obtain ⟨e1, he1, day⟩ := rx.get hy
      have hi := (List.getElem?_eq_some_iff.mp he1).1
      obtain ⟨f1, c1, _⟩ := term_inv (pt e1 (List.mem_of_getElem? he1))
      obtain ⟨c, rest, ss, rfl, el, hlr, hf, _⟩ := formed_inv f1
      obtain ⟨a, vs, rfl, ha, rv, lv⟩ := Da_at day
      have ha' : G2 a = some (.tup (.str c :: vs)) := s2 _ _ (sG' _ _ ha)
      have st : ((((partsD d).take (i + 1)).map lsP).flatten) = ((((partsD d).take i).map lsP).flatten) ++ lsP (.tuple (.str c :: rest)) := by
        rw [List.take_add_one, he1, List.map_append, List.flatten_append]
        show _ ++ (lsP _ :: []).flatten = _
        rw [List.flatten_cons, List.flatten_nil, List.append_nil]
      have lW : (((((partsD d).take i).map lsP).flatten).map V.str).length < sizeLine := by
        have := flat_len lsP_len ((partsD d).take i)
        rw [List.length_take] at this
        rw [List.length_map, sizeLine_eq]
        omega
      refine ⟨rfl, _, rfl, a, _, ((0 : Nat) : Int), _, rfl, rfl, SqT.of ha', atI_nat rfl, rfl, _, rfl, ?_⟩
      by_cases h1 : decide (V.str c = V.str "last") = true
      · refine iteB h1 ?_
        have ec := decS h1
        subst ec
        obtain ⟨z, hz0, _⟩ := w_last f1
        obtain ⟨y, ey, dy⟩ := rv.getD hz0
        cases dy
        refine ⟨_, rfl, a, _, ((1 : Nat) : Int), _, rfl, rfl, SqT.of ha', atI_nat (j := 1) (by rw [List.getElem?_cons_succ]; exact ey), _, gD, lW, fun b o h => ?_, ?_⟩
        · rw [upd_ne (ne_of_none h hD)]
          exact s2 _ _ h
        · rw [upd_same, st, lsP_tup, if_pos h1, strAt_eq hz0, List.map_append]
          rfl
      · refine iteN (Bool.eq_false_iff.mpr h1) ⟨s2, ?_⟩
        rw [st, lsP_tup, if_neg h1, List.append_nil]
        exact gD
    obtain ⟨s2, gD⟩ := pv
    rw [lx', List.take_length] at gD
    have gD : G2 D = some (.lst ((lastsD d).map V.str)) := gD
    have gW2 := s2 _ _ gW'
    have gp2 := s2 _ _ gG'
    have sH2 := sG'.trans s2
    dsimp only [gName]
    -- both turns
    refine ⟨2, rfl, by decide, by decide, for_range (lo := 0) (n := 2) (fun i σ G => ∃ u5 u6, σ = [some x, some (.ref p), some (.ref Wd'), u3, some (.ref D), u5, u6] ∧ Same G2 G) ⟨_, _, rfl, Same.refl _⟩ (fun i σ G hi pv => ?_) fun σ G pv => ?_⟩
    rotate_left
    · obtain ⟨_, _, rfl, sG⟩ := pv
      exact q _ (sH2.trans sG)
    obtain ⟨u5, u6, rfl, sG3⟩ := pv
    dsimp only [gName]
    have sHG := sH2.trans sG3
    refine ⟨_, rfl, x, d, H, rfl, sHG, da, hz, .inr ⟨rd, fun p1 Ga sa h1 g1 => ⟨_, rfl, x, d, H, rfl, sHG.trans sa, da, hz, .inr ⟨rd, fun p2 Gb sb h2 g2 => ⟨_, rfl, x, d, H, rfl, (sHG.trans sa).trans sb, da, hz, .inr ⟨rd, fun Gc sc => ⟨by show 3 ≤ 1000; decide, fun pf hpf _ => ?_⟩⟩⟩⟩⟩⟩⟩
    obtain ⟨sw, dp, sz_⟩ := ans_shows rd hl
    dsimp only [gName]
    have s1b := sb.trans sc
    have epf := same_new (o := .lst [.ref p1, .ref p2, .int (firstsD d : Nat)]) hpf
    have gp1 := epf _ _ (s1b _ _ g1)
    have gp2' := epf _ _ (sc _ _ g2)
    have gpf : upd Gc pf (.lst [.ref p1, .ref p2, .int (firstsD d : Nat)]) pf = some (.lst [.ref p1, .ref p2, .int (firstsD d : Nat)]) := upd_same
    have sG4 : Same G _ := ((sa.trans sb).trans sc).trans epf
    generalize upd Gc pf (.lst [.ref p1, .ref p2, .int (firstsD d : Nat)]) = G4 at epf gp1 gp2' gpf sG4
    have s24 := sG3.trans sG4
    -- repr, twice
    refine ⟨_, rfl, pf, _, fun _ => True, false, ansD d, rfl, gpf, ans_sh gp1 gp2', sw, dp, sz_, ?_⟩
    have k1 := namesD_len d
    have k2 := lastsD_len d
    refine ⟨_, rfl, Wd', namesD d, rfl, s24 _ _ gW2, by omega, fun q1 Gd sd hq1 gq1 => ⟨_, rfl, D, lastsD d, rfl, sd _ _ (s24 _ _ gD), by omega, fun q2 Ge se hq2 gq2 => ?_⟩⟩
    have s2e := (s24.trans sd).trans se
    refine ⟨_, rfl, p, rfl, ⟨xs, SqL.of (s2e _ _ gp2)⟩, fun D2 hD2 => ?_⟩
    refine lc_list (K := K) (a := p) (xs := xs) (fun i G5 => Same Ge G5 ∧ ∃ ys, G5 D2 = some (.lst ys) ∧ ys.length = (((partsD d).take i).filter fsP).length)
      ⟨same_new hD2, [], upd_same, rfl⟩ (fun i G5 _ pv => SqL.of (pv.1 _ _ (s2e _ _ gp2))) (fun i y G5 hy pv => ?_) fun G5 pv => ?_
    · obtain ⟨s5, ys, gD5, ly⟩ := pv
      obtain ⟨e1, he1, day⟩ := rx.get hy
      have hi := (List.getElem?_eq_some_iff.mp he1).1
      obtain ⟨f1, c1, _⟩ := term_inv (pt e1 (List.mem_of_getElem? he1))
      obtain ⟨c, rest, ss, rfl, el, hlr, hf, _⟩ := formed_inv f1
      obtain ⟨a, vs, rfl, ha, rv, lv⟩ := Da_at day
      have ha' : G5 a = some (.tup (.str c :: vs)) := s5 _ _ (s2e _ _ (sH2 _ _ ha))
      have st : (((partsD d).take (i + 1)).filter fsP) = (((partsD d).take i).filter fsP) ++ [PyData.tuple (.str c :: rest)].filter fsP := by
        rw [List.take_add_one, he1, List.filter_append]
        rfl
      have lf : (((partsD d).take i).filter fsP).length ≤ i := Nat.le_trans (List.length_filter_le _ _) (by rw [List.length_take]; omega)
      have f0 : fsP (PyData.tuple (.str c :: rest)) = decide (V.str c = V.str "first") := rfl
      refine ⟨rfl, _, rfl, a, _, ((0 : Nat) : Int), _, rfl, rfl, SqT.of ha', atI_nat rfl, rfl, _, rfl, ?_⟩
      by_cases h1 : decide (V.str c = V.str "first") = true
      · refine iteB h1 ⟨_, rfl, _, gD5, by rw [sizeLine_eq]; omega, fun b o h => ?_, _, upd_same, ?_⟩
        · rw [upd_ne (ne_of_none h hD2)]
          exact s5 _ _ h
        · rw [st, List.length_append, List.length_append, ly, List.filter_cons_of_pos (by rw [f0]; exact h1)]
          rfl
      · refine iteN (Bool.eq_false_iff.mpr h1) ⟨s5, ys, gD5, ?_⟩
        rw [st, List.filter_cons_of_neg (by rw [f0]; exact h1), List.filter_nil, List.append_nil]
        exact ly
    obtain ⟨s5, ys, gD5, ly⟩ := pv
    rw [lx', List.take_length] at ly
    refine ⟨D2, ys, rfl, .inl (SqL.of gD5), by show 3 ≤ 1000; decide, fun pg hpg _ => ?_⟩
    rw [show ((ys.length : Nat) : Int) = ((firstsD d : Nat) : Int) by rw [ly]; rfl]
    have epg := same_new (o := .lst [.ref q1, .ref q2, .int (firstsD d : Nat)]) hpg
    have s25 := (s2e.trans s5).trans epg
    refine ⟨pg, _, fun _ => True, false, ansD d, rfl, upd_same, ans_sh (epg _ _ (s5 _ _ (se _ _ gq1))) (epg _ _ (s5 _ _ gq2)), sw, dp, sz_, rfl, _, rfl, iteN (by rw [decide_eq_true rfl]; rfl) ?_⟩
    have s45 := ((sd.trans se).trans s5).trans epg
    have gp1z := s45 _ _ gp1
    have gp2z := s45 _ _ gp2'
    have gpfz := s45 _ _ gpf
    have h1z : G2 p1 = none := none_back sG3 h1
    have h2z : G2 p2 = none := none_back (sG3.trans sa) h2
    generalize upd G5 pg (.lst [.ref q1, .ref q2, .int (firstsD d : Nat)]) = G6 at s25 gp1z gp2z gpfz epg s45
    have n12 : p2 ≠ p1 := fun e => by rw [e, g1] at h2; cases h2
    have npf1 : pf ≠ p1 := fun e => by
      rw [e] at hpf
      rw [s1b _ _ g1] at hpf
      cases hpf
    have l1 := onceS_len (namesD d)
    refine ⟨_, rfl, pf, _, ((0 : Nat) : Int), _, rfl, rfl, SqL.of gpfz, atI_nat rfl, .inl ⟨rfl, _, SqL.of gp1z⟩, p1, _, _, rfl, rfl, gp1z, by rw [List.length_map, sizeLine_eq]; omega, ?_⟩
    have gpfy : upd G6 p1 (.lst ((onceS (namesD d)).map V.str ++ [.str "a"])) pf = some (.lst [.ref p1, .ref p2, .int (firstsD d : Nat)]) := by rw [upd_ne npf1]; exact gpfz
    have gp2y : upd G6 p1 (.lst ((onceS (namesD d)).map V.str ++ [.str "a"])) p2 = some (.lst ((onceS (lastsD d)).map V.str)) := by rw [upd_ne n12]; exact gp2z
    refine ⟨_, rfl, pf, _, ((1 : Nat) : Int), _, rfl, rfl, SqL.of gpfy, atI_nat rfl, .inl ⟨rfl, _, SqL.of gp2y⟩, p2, _, rfl, rfl, gp2y, ?_⟩
    refine ⟨_, _, rfl, fun b o h => ?_⟩
    rw [upd_ne (ne_of_none h h2z), upd_ne (ne_of_none h h1z)]
    exact s25 _ _ h
end
end K5
end Bf

namespace Bf
open PySem PySem.Spec PyProof.Rows L2
namespace K5
/-! ### things that are held, shown, changed and put back -/
def Tg (G : Hp) (P : Addr → Prop) (v : V) (d : PyData) : Prop :=
  ((∀ es, d ≠ .list es) ∧ Sh G P true v d) ∨
  (∃ a xs es, d = .list es ∧ v = .ref a ∧ G a = some (.lst xs) ∧ P a ∧ a ≠ sysModules ∧ ShAll G (fun b => P b ∧ b ≠ a) true xs es) ∨
  (∃ a kvs ds, d = .dict ds ∧ v = .ref a ∧ G a = some (.dK kvs) ∧ P a ∧ DicAll kvs ds)
theorem Tg.on {G G' : Hp} {P P' : Addr → Prop} {v : V} {d : PyData} (hp : ∀ a o, P a → G a = some o → P' a) (k : ∀ a o, P a → G a = some o → G' a = some o) (h : Tg G P v d) : Tg G' P' v d := by
  rcases h with ⟨n, sh⟩ | ⟨a, xs, es, rfl, rfl, ha, pa, na, r⟩ | ⟨a, kvs, ds, rfl, rfl, ha, pa, r⟩
  · exact .inl ⟨n, Sh.on hp k _ _ sh⟩
  · exact .inr (.inl ⟨a, xs, es, rfl, rfl, k _ _ pa ha, hp _ _ pa ha, na, ShAll.on (fun b o h e => ⟨hp _ _ h.1 e, h.2⟩) (fun b o h e => k _ _ h.1 e) _ _ r⟩)
  · exact .inr (.inr ⟨a, kvs, ds, rfl, rfl, k _ _ pa ha, hp _ _ pa ha, r⟩)
theorem Tg.same {G G' : Hp} {P : Addr → Prop} {v : V} {d : PyData} (s : Same G G') (h : Tg G P v d) : Tg G' P v d := h.on (fun _ _ p _ => p) (fun _ _ _ e => s _ _ e)
theorem Tg.sd {G : Hp} {P : Addr → Prop} {v : V} {d : PyData} (h : Tg G P v d) : Sd G (fun _ => True) v d := by
  rcases h with ⟨n, sh⟩ | ⟨a, xs, es, rfl, rfl, ha, pa, na, r⟩ | ⟨a, kvs, ds, rfl, rfl, ha, pa, r⟩
  · exact .sh (Sh.on (fun _ _ _ _ => trivial) (fun _ _ _ e => e) _ _ sh)
  · exact .sh (.lst ha trivial (fun _ => na) (ShAll.on (fun _ _ _ _ => trivial) (fun _ _ _ e => e) _ _ r))
  · exact .dic ha r
/-- a list of these is shown -/
def Shows (ds : List PyData) : Prop := (PyData.list ds).showable = true ∧ (PyData.list ds).depth ≤ 60 ∧ (PyData.list ds).shown.length ≤ sizeLine
theorem Sd.same {H H' : Hp} {P : Addr → Prop} {v : V} {d : PyData} (s : Same H H') (h : Sd H P v d) : Sd H' P v d := by
  cases h with
  | sh h => exact .sh (Sh.on (fun _ _ p _ => p) (fun _ _ _ e => s _ _ e) _ _ h)
  | dic h r => exact .dic (s _ _ h) r
theorem fit_dict {w k : Nat} {kv : List (PyData × PyData)} (h : fit w k (.dict kv)) : kv = [] := by
  cases k with
  | zero => simp only [fit] at h
  | succ k => simpa only [fit] using h
theorem Tg.da {G : Hp} {P : Addr → Prop} {v : V} {d : PyData} {w k : Nat} (hw : w ≤ 1000) (ft : fit w k d) (h : Tg G P v d) : Da G v d := by
  rcases h with ⟨n, sh⟩ | ⟨a, xs, es, rfl, rfl, ha, pa, na, r⟩ | ⟨a, kvs, ds, rfl, rfl, ha, pa, r⟩
  · exact sh_da hw d v ft sh
  · exact sh_da (b := true) hw _ _ ft (.lst ha (P := fun _ => True) trivial (fun _ => na) (ShAll.on (fun _ _ _ _ => trivial) (fun _ _ _ e => e) _ _ r))
  · cases fit_dict ft
    cases r
    exact .emp ha
/-- no good dict, as its data tell -/
def ND (g : PyData → Bool) (d : PyData) : Prop := ((∀ kv, d ≠ .dict kv) ∧ fit 6 12 d) ∨ ∃ kx x, d = .dict [(kx, x)] ∧ shortD kx = true ∧ shortD x = true ∧ (g kx && g x) = false
theorem Tg.noDict {g : PyData → Bool} {G : Hp} {P : Addr → Prop} {v : V} {d : PyData} (h : Tg G P v d) (n : ND g d) : NoDict g G v := by
  rcases n with ⟨n, ft⟩ | ⟨kx, x, rfl, s1, s2, e⟩
  · exact .inl ⟨d, h.da (by decide) ft, n⟩
  · rcases h with ⟨_, sh⟩ | ⟨a, xs, es, e, _⟩ | ⟨a, kvs, ds, ed, rfl, ha, pa, r⟩
    · cases sh
    · cases e
    · cases ed
      refine .inr ⟨a, kvs, _, ⟨rfl, ha, r, fun p m => ?_, by rw [r.len]; show 1 ≤ 1000; decide, ?_⟩, ?_⟩
      · rw [List.mem_singleton.mp m]
        exact ⟨s1, s2⟩
      · cases r with
        | cons _ r =>
          cases r
          simp
      · show ((g kx && g x) && true) = false
        rw [e]
        rfl
/-- what is to be shown of a thing -/
structure Shw (d : PyData) : Prop where
  term : Shows [.str "term", d]
  names : Shows ([.str "names", d])
  more : ∀ es, d = .list es → Shows (es ++ [.int 0])
theorem shows_of {ds : List PyData} (h : ∀ d ∈ ds, fit 60 50 d) (hl : slA ds ≤ 1000000) : Shows ds := by
  obtain ⟨a, b, c⟩ := list_shows h
  exact ⟨a, by omega, Nat.le_trans c (by rw [sizeLine_eq]; omega)⟩
theorem shw_of {d : PyData} {k : Nat} (h : fit 6 k d) (hk : k ≤ 40) (hl : sl d ≤ 100000) : Shw d := by
  have f : fit 60 50 d := fit_mono (by decide) d (by omega) h
  have e1 : sl (.str "term") ≤ 43 := slS (n := 4) (by decide)
  have e2 : sl (.str "names") ≤ 53 := slS (n := 5) (by decide)
  refine ⟨shows_of (fitA_cons (fit_str.mpr (by decide +kernel)) (fitA_cons f fitA_nil)) ?_, shows_of (fitA_cons (fit_str.mpr (by decide +kernel)) (fitA_cons f fitA_nil)) ?_, fun es e => ?_⟩
  · rw [slA_cons, slA_cons, slA_nil]; omega
  · rw [slA_cons, slA_cons, slA_nil]; omega
  · subst e
    cases k with
    | zero => simp only [fit] at h
    | succ k =>
      obtain ⟨a, b⟩ := fit_lst.mp h
      rw [sl_lst] at hl
      refine shows_of (fun d m => ?_) ?_
      · rcases List.mem_append.mp m with m | m
        · exact fit_mono (by decide) d (by omega) (b d m)
        · rw [List.mem_singleton.mp m]
          exact int_fit (by decide) (by decide)
      · have z : slA (es ++ [.int 0]) = slA es + slA [.int 0] := slA_app _ _
        have e3 : sl (.int 0) ≤ 14 := sl_small (by decide) (by decide)
        rw [z, slA_cons, slA_nil]
        omega
/-- what is no right side -/
def NoneD (d : PyData) : Prop := rightD d = false ∧ (∃ k, k ≤ 20 ∧ fit 6 k d) ∧ sl d ≤ 80000
def Phi (Ok : PyData → Prop) (P : Addr → Prop) (v : V) (G : Hp) : Prop := ∃ d, Tg G P v d ∧ Ok d
theorem phi_same {Ok : PyData → Prop} {P : Addr → Prop} : ∀ v G G', Same G G' → Phi Ok P v G → Phi Ok P v G' := fun _ _ _ s ⟨d, t, o⟩ => ⟨d, t.same s, o⟩
theorem phi_kp {Ok : PyData → Prop} {P : Addr → Prop} {p : Addr} (hp : ∀ a, P a → a ≠ p) : ∀ v G G', Kp (· ≠ p) G G' → Phi Ok P v G → Phi Ok P v G' := fun _ _ _ k ⟨d, t, o⟩ => ⟨d, t.on (fun _ _ h _ => h) (fun a o h e => k a o (hp a h) e), o⟩
section
variable {σ : L2.St} {H0 : Hp} {Ok : PyData → Prop} {P : Addr → Prop}
theorem p_flat {v : V} {d : PyData} (f : Fl v d) (h : Ok d) : MkE σ H0 (tC v) (Phi Ok P) := mk_c fun G _ => by
  refine ⟨d, .inl ⟨fun es e => ?_, ?_⟩, h⟩
  · subst e; cases f
  · cases f with
    | non => exact .non
    | bl b => exact .bl b
    | int i => exact .int i
    | str z => exact .str z
theorem p_emp (hP : ∀ a, H0 a = none → P a) (h : Ok (.dict [])) : MkE σ H0 tDNewK (Phi Ok P) := mk_emp fun a G _ ha ga => ⟨.dict [], .inl ⟨(fun _ e => nomatch e), .emp rfl ga (hP a ha)⟩, h⟩
theorem p_dic {kx v : V} {key : Key} {x : PyData} (ek : kx = kV key) (f : Fl v x) (hP : ∀ a, H0 a = none → P a) (h : Ok (.dict [(keyD key, x)])) : MkE σ H0 (tDisp [(tC kx, tC v)]) (Phi Ok P) :=
  mk_dic1 ek fun a G _ ha ga => ⟨_, .inr (.inr ⟨a, _, _, rfl, rfl, ga, hP a ha, .cons f .nil⟩), h⟩
theorem p_nil (hP : ∀ a, H0 a = none → P a) (h : Ok (.list [])) : MkE σ H0 (tLstN tNil) (Phi Ok P) := fun G s Q q => ⟨by show 0 ≤ 1000; decide, fun a ha na =>
  q _ _ (new_same ha) ⟨_, .inr (.inl ⟨a, [], [], rfl, rfl, upd_same, hP a (free_of s ha), na, .nil⟩), h⟩⟩
theorem p_lst2 {z y : Str} (hP : ∀ a, H0 a = none → P a) (h : Ok (.list [.str z, .str y])) : MkE σ H0 (tLstN (tCons (tC (.str z)) (tCons (tC (.str y)) tNil))) (Phi Ok P) := fun G s Q q => ⟨by show 2 ≤ 1000; decide, fun a ha na =>
  q _ _ (new_same ha) ⟨_, .inr (.inl ⟨a, _, [.str z, .str y], rfl, rfl, upd_same, hP a (free_of s ha), na, .cons (.str _) (.cons (.str _) .nil)⟩), h⟩⟩
theorem p_tup0 (hP : ∀ a, H0 a = none → P a) (h : Ok (.tuple [])) : MkE σ H0 (tTup tNil) (Phi Ok P) := fun G s Q q => ⟨by show 0 ≤ sizeLine; decide, fun a ha =>
  q _ _ (new_same ha) ⟨.tuple [], .inl ⟨(fun _ e => nomatch e), .tup upd_same (hP a (free_of s ha)) .nil⟩, h⟩⟩
theorem p_tup1 {z : Str} (hP : ∀ a, H0 a = none → P a) (h : Ok (.tuple [.str z])) : MkE σ H0 (tTup (tCons (tC (.str z)) tNil)) (Phi Ok P) := fun G s Q q => ⟨by show 1 ≤ sizeLine; decide, fun a ha =>
  q _ _ (new_same ha) ⟨.tuple [.str z], .inl ⟨(fun _ e => nomatch e), .tup upd_same (hP a (free_of s ha)) (.cons (.str _) .nil)⟩, h⟩⟩
theorem p_tup2 {z y : Str} (hP : ∀ a, H0 a = none → P a) (h : Ok (.tuple [.str z, .str y])) : MkE σ H0 (tTup (tCons (tC (.str z)) (tCons (tC (.str y)) tNil))) (Phi Ok P) := fun G s Q q => ⟨by show 2 ≤ sizeLine; decide, fun a ha =>
  q _ _ (new_same ha) ⟨.tuple [.str z, .str y], .inl ⟨(fun _ e => nomatch e), .tup upd_same (hP a (free_of s ha)) (.cons (.str _) (.cons (.str _) .nil))⟩, h⟩⟩
theorem p_side {i : Nat} {x : V} {d : PyData} {P0 : Addr → Prop} (hσ : σ[i]? = some (some x)) (sh : Sh H0 P0 true x d) (hP : ∀ a, H0 a = none → P a) (hP0 : ∀ a o, P0 a → H0 a = some o → P a) (h : Ok (.list [d])) : MkE σ H0 (tLstN (tCons (tVar i) tNil)) (Phi Ok P) := fun G s Q q => ⟨_, hσ, by show 1 ≤ 1000; decide, fun a ha na =>
  q _ _ (new_same ha) ⟨_, .inr (.inl ⟨a, [x], [d], rfl, rfl, upd_same, hP a (free_of s ha), na, .cons (Sh.on (fun b o h e => ⟨hP0 b o h e, fun z => by
    have := s _ _ e
    rw [z, ha] at this
    cases this⟩) (fun b o _ e => new_same ha _ _ (s _ _ e)) _ _ sh) .nil⟩), h⟩⟩
end
/-- one of a list of such things, by a digit -/
theorem pick_one {K : PySem.W.Frag} {σ : L2.St} {Ok : PyData → Prop} {P : Addr → Prop} {u : TA} {p : Addr} {H : Hp} {n : Nat} {N k : Int} {E : XK} {Q : VK} (h : MksA u σ H n (Phi Ok P)) (hn : ((n : Nat) : Int) = N) (h0 : 0 < N) (h1 : N < 1000) (pu : Purse H p k) (hk : k ≤ 100000) (hσ : σ[0]? = some (some (.ref p))) (hp : ∀ a, P a → a ≠ p)
    (q : ∀ v G, Kp (· ≠ p) H G → Purse G p (k + 1) → Phi Ok P v G → Q v G) : tOp (rIxL K) (tLstN u) (tCall spTake [] E (tCons (tVar 0) (tCons (tC (.int N)) tNil))) σ H Q := by
  refine h _ fun vs G s l hv => ⟨by omega, fun L hL _ => ?_⟩
  obtain ⟨px, py, pz, hpx, pr⟩ := id pu
  have sL := same_new (o := .lst vs) hL
  have nL : L ≠ p := fun e => by rw [e, s _ _ hpx] at hL; cases hL
  refine ⟨_, hσ, p, N, k, rfl, pu.of ((sL _ _ (s _ _ hpx)).trans hpx.symm), hk, h0, by omega, fun d G2 d0 d1 pu2 eq2 => ?_⟩
  obtain ⟨v, mv, ev⟩ := pick (xs := vs) d0 (by rw [l]; omega)
  exact ⟨L, vs, d, v, rfl, rfl, SqL.of ((eq2 L nL).trans upd_same), ev, q v G2 (fun a o n h => (eq2 a n).trans (sL _ _ (s _ _ h))) pu2 (phi_kp hp v _ G2 (kp_take eq2) (phi_same v _ _ sL (hv v mv)))⟩
end K5
end Bf

namespace Bf
open PySem PySem.Spec PyProof.Rows L2
namespace K5
section
variable {P : Program} {w : World} {K : PySem.W.Frag} {mg : Str → Option Value} {base : Heap} {aF aS aC : Addr}
abbrev pRef : List Str := ["_law_purse_here", "_law_side_here"]
abbrev nRef : List Str := ["_law_purse_here", "_law_side_here", "_law_none", "_law_odd", "_law_bad", "_law_worse", "_law_rows", "_law_one", "_law_two", "_law_three", "_law_due", "_law_found", "_law_caught", "_law_way", "e"]
theorem scRef : FnScope nRef pRef (defScope sLRefused) := ⟨rfl, rfl, rfl, by decide +kernel, rfl, by decide +kernel, by decide +kernel⟩
abbrev xRef (P : Program) (w : World) (K : PySem.W.Frag) (mg : Str → Option Value) (base : Heap) (f : Addr) (cdv : Value) (A : Around) (outer : List Env) (s : Shared) (H : Hp) (E : XK) : Cx := cxOf CX0 P w K mg base nRef "_law_refused_right" (defScope sLRefused) f cdv A outer s H E
abbrev bRow : List Stmt := match (defBody sLRefused).getD 5 (.Pass ⟨0, 0, 0, 0⟩) with | .For _ _ b _ _ => b | _ => []
structure Rfd (mg : Str → Option Value) : Prop where
  mi : mg "isinstance" = none
  mL : mg "list" = none
  mp : mg "repr" = none
  mr : mg "range" = none
/-- the answer and what is due are shown alike -/
theorem ref_if1 (R : Rfd mg) {f : Addr} {cdv : Value} {A : Around} {outer : List Env} {s : Shared} {H0 : Hp} {E : XK} {k : Nat}
    (hA' : (A.deeper (envOfC "_law_refused_right" (defScope sLRefused) s.heap.objs.size f cdv)).guards = some []) (hr : Room k (A.deeper (envOfC "_law_refused_right" (defScope sLRefused) s.heap.objs.size f cdv))) :
    ∃ t, PS (xRef P w K mg base f cdv A outer s H0 E) (bRow.getD 1 (.Pass ⟨0, 0, 0, 0⟩)) t ∧ ∀ (D : Ends) (σ : L2.St) (G : Hp) (pf du : Addr) (tag : Str) (v : V) (d : PyData) (P1 : Addr → Prop), σ[11]? = some (some (.ref pf)) → σ[10]? = some (some (.ref du)) →
      G pf = some (.lst [.str tag, v]) → G du = some (.lst [.str tag, v]) → Tg G P1 v d → Shows [.str tag, d] → D.nx σ G → t D σ G := by
  refine ⟨_, (ps_if (pt_cmpR op_ne (pe_callB (call_reprD hA' hr.units) (by rfl) R.mp (by decide +kernel) (pa_cons (pv 11) pa_nil)) (pe_callB (call_reprD hA' hr.units) (by rfl) R.mp (by decide +kernel) (pa_cons (pv 10) pa_nil)) (nomark _)) (pss_one (ps_ret pe_bl)) pss_nil), ?_⟩
  intro D σ G pf du tag v d P1 h11 h10 g1 g2 tg sw q
  obtain ⟨a1, a2, a3⟩ := sw
  have sd : SdAll G (fun _ => True) [.str tag, v] [.str tag, d] := .cons (.sh (.str tag)) (.cons tg.sd .nil)
  exact ⟨_, h11, pf, _, _, _, rfl, g1, sd, a1, a2, a3, _, h10, du, _, _, _, rfl, g2, sd, a1, a2, a3, rfl, _, rfl, iteN (by rw [decide_eq_true rfl]; rfl) q⟩
theorem sh_kn {G : Hp} {P1 : Addr → Prop} {v : V} {d : PyData} (h : Sh G P1 true v d) : Kn K G v (tyD d) := by
  cases h with
  | non => exact .non
  | bl c => exact .bl c
  | int i => exact .int i
  | str z => exact .str z
  | lst h _ _ _ => exact .lst (.base (.lst h))
  | tup h _ _ => exact .tup (.base (.tup h))
  | emp _ h _ => exact .dic (.base (.dK h))
theorem tg_kn {G : Hp} {P1 : Addr → Prop} {v : V} {d : PyData} (h : Tg G P1 v d) : Kn K G v (tyD d) := by
  rcases h with ⟨_, sh⟩ | ⟨a, xs, es, rfl, rfl, ha, pa, na, r⟩ | ⟨a, kvs, ds, rfl, rfl, ha, pa, r⟩
  · exact sh_kn sh
  · exact .lst (.base (.lst ha))
  · exact .dic (.base (.dK ha))
/-- where it is a list: changed, shown alike, put back -/
theorem ref_if2 (R : Rfd mg) {f : Addr} {cdv : Value} {A : Around} {outer : List Env} {s : Shared} {H0 : Hp} {E : XK} {k : Nat}
    (hA' : (A.deeper (envOfC "_law_refused_right" (defScope sLRefused) s.heap.objs.size f cdv)).guards = some []) (hr : Room k (A.deeper (envOfC "_law_refused_right" (defScope sLRefused) s.heap.objs.size f cdv))) :
    ∃ t, PS (xRef P w K mg base f cdv A outer s H0 E) (bRow.getD 2 (.Pass ⟨0, 0, 0, 0⟩)) t ∧ ∀ (D : Ends) (σ : L2.St) (G : Hp) (pf du : Addr) (tag : Str) (v : V) (d : PyData) (P1 : Addr → Prop), σ[11]? = some (some (.ref pf)) → σ[10]? = some (some (.ref du)) →
      G pf = some (.lst [.str tag, v]) → G du = some (.lst [.str tag, v]) → Tg G P1 v d → (∀ es, d = .list es → Shows (es ++ [.int 0]) ∧ es.length ≤ 1000) → (∀ G', Same G G' → D.nx σ G') → t D σ G := by
  refine ⟨_, (ps_if (pt_val (pe_callB call_isi (by rfl) R.mi (by decide +kernel) (pa_cons (pe_ix ix_list (pv 10) pe_int (fun _ _ => rfl)) (pa_cons (pe_bltn (v := .ty "list") (by rfl) R.mL (by decide +kernel) rfl) pa_nil)))) (pss_cons (ps_expr (pe_bm PySem.F.plainAttrs_list PySem.F.slot_list_append PySem.F.type_list_append mt_append (pe_ix ix_list (pv 10) pe_int (fun _ _ => rfl)) (pa_cons pe_int pa_nil)))
        (pss_cons (ps_if (pt_cmpR op_ne (pe_callB (call_reprD hA' hr.units) (by rfl) R.mp (by decide +kernel) (pa_cons (pe_ix ix_list (pv 11) pe_int (fun _ _ => rfl)) pa_nil)) (pe_callB (call_reprD hA' hr.units) (by rfl) R.mp (by decide +kernel) (pa_cons (pe_ix ix_list (pv 10) pe_int (fun _ _ => rfl)) pa_nil)) (nomark _)) (pss_one (ps_ret pe_bl)) pss_nil)
        (pss_one (ps_expr (pe_bm0 PySem.F.plainAttrs_list PySem.F.slot_list_pop PySem.F.type_list_pop mt_pop (pe_ix ix_list (pv 10) pe_int (fun _ _ => rfl))))))) pss_nil), ?_⟩
  intro D σ G pf du tag v d P1 h11 h10 g1 g2 tg sw q
  have kn := tg_kn (K := K) tg
  by_cases hl : ∃ es, d = .list es
  · obtain ⟨es0, rfl⟩ := hl
    rcases tg with ⟨n, _⟩ | ⟨a, xs, es, e, rfl, ha, pa, na, r⟩ | ⟨a, kvs, ds, e, _⟩
    · exact absurd rfl (n es0)
    · cases e
      obtain ⟨⟨a1, a2, a3⟩, le⟩ := sw _ rfl
      have lx := shAll_len r
      -- neither list is the thing itself
      have ne : ∀ l, G l = some (.lst [.str tag, .ref a]) → l ≠ a := fun l hl e => by
        rw [e, ha] at hl
        cases hl
        cases r with
        | cons _ r =>
          cases r with
          | cons h _ =>
            cases h with
            | lst _ p _ _ => exact p.2 rfl
            | tup _ p _ => exact p.2 rfl
            | emp _ _ p => exact p.2 rfl
      have n1 := ne pf g1
      have n2 := ne du g2
      refine ⟨_, h10, du, _, ((1 : Nat) : Int), _, rfl, rfl, SqL.of g2, atI_nat rfl, _, .ty "list", _, _, _, rfl, .ty "list", kn.ty, kit_ty (show kitB "list" "list" = some true by decide +kernel), _, rfl, iteT ?_⟩
      refine ⟨_, h10, du, _, ((1 : Nat) : Int), _, rfl, rfl, SqL.of g2, atI_nat rfl, .inl ⟨rfl, _, SqL.of ha⟩, a, _, _, rfl, rfl, ha, by rw [lx, sizeLine_eq]; omega, ?_⟩
      have g1' : upd G a (.lst (xs ++ [.int 0])) pf = some (.lst [.str tag, .ref a]) := by rw [upd_ne n1]; exact g1
      have g2' : upd G a (.lst (xs ++ [.int 0])) du = some (.lst [.str tag, .ref a]) := by rw [upd_ne n2]; exact g2
      have sd : SdAll (upd G a (.lst (xs ++ [.int 0]))) (fun _ => True) (xs ++ [.int 0]) (es0 ++ [.int 0]) := by
        have r' : ShAll (upd G a (.lst (xs ++ [.int 0]))) (fun _ => True) true xs es0 := ShAll.on (fun _ _ _ _ => trivial) (fun b o h e => by rw [upd_ne h.2]; exact e) _ _ r
        have app : ∀ {ys : List V} {fs : List PyData}, ShAll (upd G a (.lst (xs ++ [.int 0]))) (fun _ => True) true ys fs → SdAll (upd G a (.lst (xs ++ [.int 0]))) (fun _ => True) (ys ++ [.int 0]) (fs ++ [.int 0]) := fun h => by
          induction h using ShAll.rec (motive_1 := fun _ _ _ => True) with
          | nil => exact .cons (.sh (.int 0)) .nil
          | cons h _ _ ih => exact .cons (.sh h) ih
          | _ => trivial
        exact app r'
      refine ⟨_, h11, pf, _, ((1 : Nat) : Int), _, rfl, rfl, SqL.of g1', atI_nat rfl, a, _, _, _, rfl, upd_same, sd, a1, a2, a3, _, h10, du, _, ((1 : Nat) : Int), _, rfl, rfl, SqL.of g2', atI_nat rfl, a, _, _, _, rfl, upd_same, sd, a1, a2, a3, rfl, _, rfl, iteN (by rw [decide_eq_true rfl]; rfl) ?_⟩
      refine ⟨_, h10, du, _, ((1 : Nat) : Int), _, rfl, rfl, SqL.of g2', atI_nat rfl, .inl ⟨rfl, _, SqL.of upd_same⟩, a, xs ++ [.int 0], .int 0, rfl, rfl, upd_same, by simp, ?_⟩
      refine q _ fun b o h => ?_
      rw [List.dropLast_concat]
      by_cases nb : b = a
      · subst nb
        rw [upd_same]
        rw [ha] at h
        exact h
      · rw [upd_ne nb, upd_ne nb]
        exact h
    · cases e
  · have nt : (tyD d == "list") = false := by
      cases d with
      | list es => exact absurd ⟨es, rfl⟩ hl
      | _ => rfl
    have nb : (tyD d == "list" || (tyD d == "bool" && "list" == "int")) = false := by
      rw [nt]
      simp
    refine ⟨_, h10, du, _, ((1 : Nat) : Int), _, rfl, rfl, SqL.of g2, atI_nat rfl, _, .ty "list", _, _, _, rfl, .ty "list", kn.ty, kit_ty (kit_list d), _, rfl, ?_⟩
    rw [nt]
    exact iteF (q G (Same.refl G))
end
end K5
end Bf

namespace Bf
open PySem PySem.Spec PyProof.Rows L2
namespace K5
def OkN (d : PyData) : Prop := NoneD d ∧ Shw d ∧ Shows [d, d, d]
def OkO (d : PyData) : Prop := ND nameD d ∧ Shw d
def OkW (d : PyData) : Prop := ND nodeD d ∧ Shw d ∧ d ≠ .none
instance (ds : List PyData) : Decidable (Shows ds) := inferInstanceAs (Decidable (_ ∧ _ ∧ _))
theorem okN_of {d : PyData} {k : Nat} (r : rightD d = false) (h : fit 6 k d) (hk : k ≤ 20) (hl : sl d ≤ 80000) : OkN d := by
  have f : fit 60 50 d := fit_mono (by decide) d (by omega) h
  refine ⟨⟨r, ⟨k, hk, h⟩, hl⟩, shw_of h (by omega) (by omega), shows_of (fitA_cons f (fitA_cons f (fitA_cons f fitA_nil))) ?_⟩
  rw [slA_cons, slA_cons, slA_cons, slA_nil]
  omega
theorem shw_dict {x y : PyData} (h1 : (Shows [.str "term", .dict [(x, y)]])) (h2 : Shows [.str "names", .dict [(x, y)]]) : Shw (.dict [(x, y)]) := ⟨h1, h2, fun _ e => nomatch e⟩
theorem okO_flat {d : PyData} {k : Nat} (n : ∀ kv, d ≠ .dict kv) (h : fit 6 k d) (hk : k ≤ 12) (hl : sl d ≤ 100000) : OkO d := ⟨.inl ⟨n, fit_mono (Nat.le_refl _) d hk h⟩, shw_of h (by omega) hl⟩
theorem okW_flat {d : PyData} {k : Nat} (n : ∀ kv, d ≠ .dict kv) (n0 : d ≠ .none) (h : fit 6 k d) (hk : k ≤ 12) (hl : sl d ≤ 100000) : OkW d := ⟨.inl ⟨n, fit_mono (Nat.le_refl _) d hk h⟩, shw_of h (by omega) hl, n0⟩
theorem okO_dict {x y : PyData} (s1 : shortD x = true) (s2 : shortD y = true) (e : (nameD x && nameD y) = false) (h1 : (Shows [.str "term", .dict [(x, y)]])) (h2 : Shows [.str "names", .dict [(x, y)]]) : OkO (.dict [(x, y)]) := ⟨.inr ⟨x, y, rfl, s1, s2, e⟩, shw_dict h1 h2⟩
theorem okW_dict {x y : PyData} (s1 : shortD x = true) (s2 : shortD y = true) (e : (nodeD x && nodeD y) = false) (h1 : (Shows [.str "term", .dict [(x, y)]])) (h2 : Shows [.str "names", .dict [(x, y)]]) : OkW (.dict [(x, y)]) := ⟨.inr ⟨x, y, rfl, s1, s2, e⟩, shw_dict h1 h2, fun z => nomatch z⟩
abbrev sC (z : Str) : TE := tC (.str z)
abbrev uNone : TA := tCons (tC .non) (tCons (tC (.int 5)) (tCons (sC "name") (tCons (tTup tNil) (tCons (tTup (tCons (sC "name") tNil)) (tCons (tTup (tCons (sC "name") (tCons (sC "A") tNil))) (tCons (tLstN (tCons (tVar 1) tNil)) (tCons tDNewK (tCons (tLstN (tCons (sC "name") (tCons (sC "a") tNil))) tNil))))))))
abbrev uOdd : TA := tCons (tC .non) (tCons (tLstN tNil) (tCons (sC "a") (tCons (tDisp [(sC "a", sC "B")]) (tCons (tDisp [(sC "a", tC (.int 1))]) (tCons (tDisp [(sC "A", sC "a")]) (tCons (tDisp [(tC (.int 1), sC "a")]) (tCons (tDisp [(sC "a", sC "a.b")]) (tCons (tDisp [(sC "a", sC "abcdefghi")]) (tCons (tC (.bl true)) tNil)))))))))
abbrev uWorse : TA := tCons (tC (.int 5)) (tCons (tLstN tNil) (tCons (sC "a") (tCons (tDisp [(sC "a", sC "a.b.c")]) (tCons (tDisp [(sC "a.", sC "a")]) (tCons (tDisp [(sC "a", tC .non)]) (tCons (tDisp [(sC ".a", sC "b")]) (tCons (tC (.bl true)) tNil)))))))
abbrev PN (H : Hp) (P0 : Addr → Prop) : Addr → Prop := fun a => H a = none ∨ P0 a
theorem none_mk {σ : L2.St} {H : Hp} {P0 : Addr → Prop} {x : V} {d : PyData} (hσ : σ[1]? = some (some x)) (sh : Sh H P0 true x d) (ft : fit 6 10 d) (hl : sl d ≤ 77000) : MkA σ H uNone 9 (Phi OkN (PN H P0)) := by
  have s1 : sl (.str "name") ≤ 43 := slS (n := 4) (by decide)
  have s2 : sl (.str "A") ≤ 13 := slS (n := 1) (by decide)
  have s3 : sl (.str "a") ≤ 13 := slS (n := 1) (by decide)
  have s4 : sl (.int 5) ≤ 14 := sl_small (by decide) (by decide)
  have f1 : fit 6 11 (.str "name") := fit_str.mpr (by decide +kernel)
  have f2 : fit 6 11 (.str "A") := fit_str.mpr (by decide +kernel)
  have f3 : fit 6 11 (.str "a") := fit_str.mpr (by decide +kernel)
  have hP : ∀ a, H a = none → PN H P0 a := fun a h => .inl h
  refine mk_cons phi_same (p_flat .non (okN_of (k := 12) rfl ?_ (by decide) (by simp only [sl]; omega))) ?_
  · simp only [fit]
  refine mk_cons phi_same (p_flat (.int 5) (okN_of (k := 12) rfl (int_fit (by decide) (by decide)) (by decide) (by omega))) ?_
  refine mk_cons phi_same (p_flat (.str _) (okN_of (k := 11) rfl f1 (by decide) (by omega))) ?_
  refine mk_cons phi_same (p_tup0 hP (okN_of (k := 12) (by decide +kernel) (fit_tup.mpr ⟨by show 0 ≤ 6; decide, fun _ m => nomatch m⟩) (by decide) (by rw [sl_tup, slA_nil]; omega))) ?_
  refine mk_cons phi_same (p_tup1 hP (okN_of (k := 12) (by decide +kernel) (fit_tup.mpr ⟨by show 1 ≤ 6; decide, fitA_cons f1 fitA_nil⟩) (by decide) (by rw [sl_tup, slA_cons, slA_nil]; omega))) ?_
  refine mk_cons phi_same (p_tup2 hP (okN_of (k := 12) (by decide +kernel) (fit_tup.mpr ⟨by show 2 ≤ 6; decide, fitA_cons f1 (fitA_cons f2 fitA_nil)⟩) (by decide) (by rw [sl_tup, slA_cons, slA_cons, slA_nil]; omega))) ?_
  refine mk_cons phi_same (p_side hσ sh hP (fun a o h _ => .inr h) (okN_of (k := 11) rfl (fit_lst.mpr ⟨by show 1 ≤ 6; decide, fitA_cons ft fitA_nil⟩) (by decide) (by rw [sl_lst, slA_cons, slA_nil]; omega))) ?_
  refine mk_cons phi_same (p_emp hP (okN_of (k := 12) rfl (by simp only [fit]) (by decide) (by simp only [sl]; omega))) ?_
  refine mk_cons phi_same (p_lst2 hP (okN_of (k := 12) rfl (fit_lst.mpr ⟨by show 2 ≤ 6; decide, fitA_cons f1 (fitA_cons f3 fitA_nil)⟩) (by decide) (by rw [sl_lst, slA_cons, slA_cons, slA_nil]; omega))) mk_nil
theorem odd_mk {σ : L2.St} {H : Hp} : MkA σ H uOdd 10 (Phi OkO (fun a => H a = none)) := by
  have s3 : sl (.str "a") ≤ 13 := slS (n := 1) (by decide)
  have hP : ∀ a, H a = none → H a = none := fun a h => h
  refine mk_cons phi_same (p_flat .non (okO_flat (k := 12) (fun _ e => nomatch e) (by simp only [fit]) (by decide) (by simp only [sl]; omega))) ?_
  refine mk_cons phi_same (p_nil hP (okO_flat (k := 12) (fun _ e => nomatch e) (fit_lst.mpr ⟨by show 0 ≤ 6; decide, fun _ m => nomatch m⟩) (by decide) (by rw [sl_lst, slA_nil]; omega))) ?_
  refine mk_cons phi_same (p_flat (.str _) (okO_flat (k := 12) (fun _ e => nomatch e) (fit_str.mpr (by decide +kernel)) (by decide) (by omega))) ?_
  refine mk_cons phi_same (p_dic (key := .inr "a") rfl (.str _) hP (okO_dict (by decide +kernel) (by decide +kernel) (by decide +kernel) (by decide +kernel) (by decide +kernel))) ?_
  refine mk_cons phi_same (p_dic (key := .inr "a") rfl (.int _) hP (okO_dict (by decide +kernel) (by decide +kernel) (by decide +kernel) (by decide +kernel) (by decide +kernel))) ?_
  refine mk_cons phi_same (p_dic (key := .inr "A") rfl (.str _) hP (okO_dict (by decide +kernel) (by decide +kernel) (by decide +kernel) (by decide +kernel) (by decide +kernel))) ?_
  refine mk_cons phi_same (p_dic (key := .inl 1) rfl (.str _) hP (okO_dict (by decide +kernel) (by decide +kernel) (by decide +kernel) (by decide +kernel) (by decide +kernel))) ?_
  refine mk_cons phi_same (p_dic (key := .inr "a") rfl (.str _) hP (okO_dict (by decide +kernel) (by decide +kernel) (by decide +kernel) (by decide +kernel) (by decide +kernel))) ?_
  refine mk_cons phi_same (p_dic (key := .inr "a") rfl (.str _) hP (okO_dict (by decide +kernel) (by decide +kernel) (by decide +kernel) (by decide +kernel) (by decide +kernel))) ?_
  refine mk_cons phi_same (p_flat (.bl _) (okO_flat (k := 12) (fun _ e => nomatch e) (by simp only [fit]) (by decide) (by simp only [sl]; omega))) mk_nil
theorem worse_mk {σ : L2.St} {H : Hp} : MkA σ H uWorse 8 (Phi OkW (fun a => H a = none)) := by
  have s3 : sl (.str "a") ≤ 13 := slS (n := 1) (by decide)
  have s4 : sl (.int 5) ≤ 14 := sl_small (by decide) (by decide)
  have hP : ∀ a, H a = none → H a = none := fun a h => h
  refine mk_cons phi_same (p_flat (.int 5) (okW_flat (k := 12) (fun _ e => nomatch e) (fun e => nomatch e) (int_fit (by decide) (by decide)) (by decide) (by omega))) ?_
  refine mk_cons phi_same (p_nil hP (okW_flat (k := 12) (fun _ e => nomatch e) (fun e => nomatch e) (fit_lst.mpr ⟨by show 0 ≤ 6; decide, fun _ m => nomatch m⟩) (by decide) (by rw [sl_lst, slA_nil]; omega))) ?_
  refine mk_cons phi_same (p_flat (.str _) (okW_flat (k := 12) (fun _ e => nomatch e) (fun e => nomatch e) (fit_str.mpr (by decide +kernel)) (by decide) (by omega))) ?_
  refine mk_cons phi_same (p_dic (key := .inr "a") rfl (.str _) hP (okW_dict (by decide +kernel) (by decide +kernel) (by decide +kernel) (by decide +kernel) (by decide +kernel))) ?_
  refine mk_cons phi_same (p_dic (key := .inr "a.") rfl (.str _) hP (okW_dict (by decide +kernel) (by decide +kernel) (by decide +kernel) (by decide +kernel) (by decide +kernel))) ?_
  refine mk_cons phi_same (p_dic (key := .inr "a") rfl .non hP (okW_dict (by decide +kernel) (by decide +kernel) (by decide +kernel) (by decide +kernel) (by decide +kernel))) ?_
  refine mk_cons phi_same (p_dic (key := .inr ".a") rfl (.str _) hP (okW_dict (by decide +kernel) (by decide +kernel) (by decide +kernel) (by decide +kernel) (by decide +kernel))) ?_
  refine mk_cons phi_same (p_flat (.bl _) (okW_flat (k := 12) (fun _ e => nomatch e) (fun e => nomatch e) (by simp only [fit]) (by decide) (by simp only [sl]; omega))) mk_nil
end K5
end Bf

namespace Bf
open PySem PySem.Spec PyProof.Rows L2
namespace K5
section
variable {P : Program} {w : World} {K : PySem.W.Frag} {mg : Str → Option Value} {base : Heap}
def spNR (cT : Addr) : Sp := fun vs H Q E => ∃ (x : V) (d : PyData) (Hs : Hp), vs = [x] ∧ Same Hs H ∧ Da Hs x d ∧ sz d ≤ 900000 ∧ rightD d = false ∧ Refuses cT x H E
structure Rfs (P : Program) (w : World) (K : PySem.W.Frag) (mg : Str → Option Value) (base : Heap) (cT ft fa fni fli ffi : Addr) (dt da dni dli dfi : FuncData) : Prop extends Rfd mg where
  DT : Df K mg "_law_take" ft dt pTake
  GT : FnOk P w K mg base CX0 1 ft dt pTake spTake
  Da : Df K mg "_law_asked" fa da pLAsked
  Ga : FnOk P w K mg base CX0 23 fa da pLAsked spLAsked
  Dni : Df K mg "names_in" fni dni ["right"]
  Gni : FnOk P w K mg base (CXL P w) 10 fni dni ["right"] (spNames cT namesD)
  Dli : Df K mg "lasts_in" fli dli ["right"]
  Gli : FnOk P w K mg base (CXL P w) 10 fli dli ["right"] (spNames cT lastsD)
  Dfi : Df K mg "firsts_in" ffi dfi ["right"]
  Gfi : FnOk P w K mg base (CXL P w) 10 ffi dfi ["right"] (spFirsts cT)
theorem nr_names {cT : Addr} {g : PyData → List Str} : ∀ vs H Q E, spNR cT vs H Q E → spNames cT g vs H Q E := fun _ _ _ _ ⟨x, d, Hs, e, s, da, hz, r, q⟩ => ⟨x, d, Hs, e, s, da, hz, .inl ⟨r, q⟩⟩
theorem nr_firsts {cT : Addr} : ∀ vs H Q E, spNR cT vs H Q E → spFirsts cT vs H Q E := fun _ _ _ _ ⟨x, d, Hs, e, s, da, hz, r, q⟩ => ⟨x, d, Hs, e, s, da, hz, .inl ⟨r, q⟩⟩
variable {cT ft fa fni fli ffi : Addr} {dt da dni dli dfi : FuncData}
theorem Rfs.three (R : Rfs P w K mg base cT ft fa fni fli ffi dt da dni dli dfi) : ∀ g, (g = fni ∨ g = fli ∨ g = ffi) → ∃ fd ps, FnOk P w K mg base (CXL P w) 10 g fd ps (spNR cT) ∧ PySem.W.keepIn K (.ref g) = true ∧ Binds K fd ps [] := fun g h => by
  rcases h with rfl | rfl | rfl
  · exact ⟨_, _, R.Gni.imp nr_names, R.Dni.kp, R.Dni.bd⟩
  · exact ⟨_, _, R.Gli.imp nr_names, R.Dli.kp, R.Dli.bd⟩
  · exact ⟨_, _, R.Gfi.imp nr_firsts, R.Dfi.kp, R.Dfi.bd⟩
/-- one row -/
theorem ref_row (R : Rfs P w K mg base cT ft fa fni fli ffi dt da dni dli dfi) {f : Addr} {cdv : Value} {A : Around} {outer : List Env} {s : Shared} {H0 : Hp} {E : XK}
    (hA' : (A.deeper (envOfC "_law_refused_right" (defScope sLRefused) s.heap.objs.size f cdv)).guards = some []) (hr : Room 23 (A.deeper (envOfC "_law_refused_right" (defScope sLRefused) s.heap.objs.size f cdv))) :
    ∃ t, PSs (xRef P w K mg base f cdv A outer s H0 E) bRow t ∧ ∀ (D : Ends) (G : Hp) (a0 a1 a2 a3 a4 a5 a6 u11 a12 a13 a14 : Option V) (y1 y2 y3 : V) (l : Addr) (tag : Str) (v : V) (d : PyData) (P1 : Addr → Prop),
      G l = some (.lst [.str tag, v]) → Tg G P1 v d → Shows [.str tag, d] → (∀ es, d = .list es → Shows (es ++ [.int 0]) ∧ es.length ≤ 1000) →
      (∀ (Q : VK) (E1 : XK), (∀ pf H', Same G H' → H' pf = some (.lst [.str tag, v]) → Q (.ref pf) H') → spLAsked [y1, y2, y3] G Q E1) →
      (∀ pf G', Same G G' → D.nx [a0, a1, a2, a3, a4, a5, a6, some y1, some y2, some y3, some (.ref l), some (.ref pf), a12, a13, a14] G') → t D [a0, a1, a2, a3, a4, a5, a6, some y1, some y2, some y3, some (.ref l), u11, a12, a13, a14] G := by
  obtain ⟨t1, h1, if1⟩ := ref_if1 (P := P) (w := w) (K := K) (base := base) (outer := outer) (s := s) (H0 := H0) (E := E) R.toRfd hA' hr
  obtain ⟨t2, h2, if2⟩ := ref_if2 (P := P) (w := w) (K := K) (base := base) (outer := outer) (s := s) (H0 := H0) (E := E) R.toRfd hA' hr
  refine ⟨_, pss_cons (ps_set (i := 11) scRef.nd rfl (Or.inl rfl) (pe_call R.Ga hr (by rfl) R.Da.at_ R.Da.kp R.Da.bd .nil pass0 (pa_cons (pv 7) (pa_cons (pv 8) (pa_cons (pv 9) pa_nil))))) (pss_cons h1 (pss_one h2)), ?_⟩
  intro D G a0 a1 a2 a3 a4 a5 a6 u11 a12 a13 a14 y1 y2 y3 l tag v d P1 gl tg sw sm ask q
  refine ⟨_, rfl, _, rfl, _, rfl, ?_⟩
  dsimp only [tNil, List.cons_append, List.nil_append]
  refine ask _ _ fun pf H' s' gp => ?_
  refine if1 _ _ _ pf l tag v d P1 rfl rfl gp (s' _ _ gl) (tg.same s') sw ?_
  refine if2 _ _ _ pf l tag v d P1 rfl rfl gp (s' _ _ gl) (tg.same s') sm fun G' s2 => ?_
  exact q pf G' (s'.trans s2)
end
end K5
end Bf

namespace Bf
open PySem PySem.Spec PyProof.Rows L2
namespace K5
section
variable {P : Program} {w : World} {K : PySem.W.Frag} {mg : Str → Option Value} {base : Heap}
variable {cT cN ft fa fni fli ffi : Addr} {dt da dni dli dfi : FuncData}
def spRef : Sp := fun vs H Q _ => ∃ (p : Addr) (n : Int) (x : V) (d : PyData) (P0 : Addr → Prop), vs = [.ref p, x] ∧ Purse H p n ∧ n ≤ 99000 ∧ ¬ P0 p ∧ Sh H P0 true x d ∧ fit 6 10 d ∧ sl d ≤ 77000 ∧ rightD d = true ∧ ∀ G, Kp (· ≠ p) H G → Purse G p (n + 3) → Q (.bl true) G
theorem okN_more {d : PyData} (h : OkN d) : ∀ es, d = .list es → Shows (es ++ [.int 0]) ∧ es.length ≤ 1000 := fun es e => by
  obtain ⟨⟨_, ⟨k, _, f⟩, _⟩, sw, _⟩ := h
  subst e
  cases k with
  | zero => simp only [fit] at f
  | succ k => exact ⟨sw.more _ rfl, by have := (fit_lst.mp f).1; omega⟩
theorem nd_more {g : PyData → Bool} {d : PyData} (h : ND g d) (sw : Shw d) : ∀ es, d = .list es → Shows (es ++ [.int 0]) ∧ es.length ≤ 1000 := fun es e => by
  subst e
  rcases h with ⟨_, f⟩ | ⟨_, _, e, _⟩
  · exact ⟨sw.more _ rfl, by have := (fit_lst.mp f).1; omega⟩
  · cases e
abbrev bTry : List Stmt := match (defBody sLRefused).getD 7 (.Pass ⟨0, 0, 0, 0⟩) with | .For _ _ b _ _ => b | _ => []
def tbTry (K : PySem.W.Frag) (cT fni fli ffi : Addr) (W : WX) : TS := tDrop (tBM K "list" rAppend (tVar 12) (tCons (tCallES (fun _ => spNR cT) (fun g => g = fni ∨ g = fli ∨ g = ffi) (fun σ => L2.WE W σ) (tOp (rIxL K) (tLstN (tCons (tC (.ref fni)) (tCons (tC (.ref fli)) (tCons (tC (.ref ffi)) tNil)))) (tVar 13)) (tCons (tVar 2) tNil)) tNil))
def tsTry (K : PySem.W.Frag) (cT : Addr) (a : Addr) (cls : Value) (d : Option Addr) : TS := tDrop (tBM K "list" rAppend (tVar 12) (tCons (tXf a cls d cT "found" (tVar 14)) tNil))
theorem ref_try {fT : Addr} {fdT : FuncData} (R : Rfs P w K mg base cT ft fa fni fli ffi dt da dni dli dfi) (TT : ExT K mg "NoTerm" cT fT fdT) (Y : Exm5 K cT cN) {f : Addr} {cdv : Value} {A : Around} {outer : List Env} {s : Shared} {H0 : Hp} {E : XK}
    (hr : Room 23 (A.deeper (envOfC "_law_refused_right" (defScope sLRefused) s.heap.objs.size f cdv))) :
    ∃ t, PSs (xRef P w K mg base f cdv A outer s H0 E) bTry t ∧ ∀ (D : Ends) (G : Hp) (a0 a1 a3 a4 a5 a6 a7 a8 a9 a10 a11 : Option V) (v : V) (d : PyData) (C : Addr) (ys : List V) (i : Nat),
      i < 3 → G C = some (.lst ys) → ys.length ≤ 10 → Da G v d → sz d ≤ 900000 → rightD d = false →
      (∀ G', (∀ b o, b ≠ C → G b = some o → G' b = some o) → G' C = some (.lst (ys ++ [v])) → D.nx [a0, a1, some v, a3, a4, a5, a6, a7, a8, a9, a10, a11, some (.ref C), some (.int i), none] G') → t D [a0, a1, some v, a3, a4, a5, a6, a7, a8, a9, a10, a11, some (.ref C), some (.int i), none] G := by
  have hrC := hr.mono (by decide : 10 ≤ 23)
  have hA3 := R.three
  refine ⟨fun D σ H => tbTry K cT fni fli ffi (wArms K D [⟨.ref cT, 14, tsTry K cT⟩]) D σ H, pss_one (ps_arms (X := xRef P w K mg base f cdv A outer s H0 E) (tb := tbTry K cT fni fli ffi) rfl rfl scRef.nd (fun W pn xe tk _ => ?_) (Arms.cons (i := 14) (ts := tsTry K cT) ⟨by rfl, by decide, .inl TT.gC⟩ rfl rfl (fun a oe cls d pn hz hf => ?_) Arms.nil)), ?_⟩
  · exact pss_one (ps_expr (pe_bm PySem.F.plainAttrs_list PySem.F.slot_list_append PySem.F.type_list_append mt_append (pv 12) (pa_cons (pe_callES (S := fun _ => spNR cT) (ok := fun g => g = fni ∨ g = fli ∨ g = ffi) (pe_ix ix_list (pe_lstN (pa_cons (pe_glob (v := .ref fni) (by rfl) R.Dni.at_ rfl) (pa_cons (pe_glob (v := .ref fli) (by rfl) R.Dli.at_ rfl) (pa_cons (pe_glob (v := .ref ffi) (by rfl) R.Dfi.at_ rfl) pa_nil)))) (pv 13) (fun _ _ => rfl)) hA3 hrC (fun σ => L2.passAt tk σ) (pa_cons (pv 2) pa_nil)) pa_nil)))
  · exact pss_one (ps_expr (pe_bm PySem.F.plainAttrs_list PySem.F.slot_list_append PySem.F.type_list_append mt_append (pv 12) (pa_cons (pe_xf TT.xf TT.nf hz hf (pv 14)) pa_nil)))
  intro D G a0 a1 a3 a4 a5 a6 a7 a8 a9 a10 a11 v d C ys i hi gC ly da hz nr q
  refine ⟨_, rfl, .inl ⟨rfl, _, SqL.of gC⟩, ?_⟩
  refine ⟨by show 3 ≤ 1000; decide, fun L hL nL => ?_⟩
  have s1 := same_new (o := .lst [V.ref fni, .ref fli, .ref ffi]) hL
  obtain ⟨g, eg, okg⟩ : ∃ g, [V.ref fni, .ref fli, .ref ffi][i]? = some (.ref g) ∧ (g = fni ∨ g = fli ∨ g = ffi) := by
    match i, hi with
    | 0, _ => exact ⟨_, rfl, .inl rfl⟩
    | 1, _ => exact ⟨_, rfl, .inr (.inl rfl)⟩
    | 2, _ => exact ⟨_, rfl, .inr (.inr rfl)⟩
  refine ⟨_, rfl, L, _, _, _, rfl, rfl, SqL.of upd_same, atI_nat eg, g, rfl, okg, _, rfl, ?_⟩
  refine ⟨v, d, G, rfl, s1, da, hz, nr, fun d' H' s' hd hx => ⟨true, Y.tt, fun _ a ha => ?_, fun z => nomatch z⟩⟩
  have gC' := s' _ _ (s1 _ _ gC)
  refine ⟨_, rfl, .inl ⟨rfl, _, SqL.of gC'⟩, _, rfl, rfl, rfl, d', _, _, rfl, hx, rfl, C, ys, v, rfl, rfl, gC', by rw [sizeLine_eq]; omega, ?_⟩
  exact q _ (fun b o n h => by rw [upd_ne n]; exact s' _ _ (s1 _ _ h)) upd_same
end
end K5
end Bf

namespace Bf
open PySem PySem.Spec PyProof.Rows L2
namespace K5
section
variable {P : Program} {w : World} {K : PySem.W.Frag} {mg : Str → Option Value} {base : Heap}
variable {cT cN ft fa fni fli ffi : Addr} {dt da dni dli dfi : FuncData}
theorem lst_of_mk {u : TA} {σ : L2.St} {H : Hp} {m : Nat} {Φ : V → Hp → Prop} {Q : VK} (h : MksA u σ H m Φ) (hm : m ≤ 1000) (q : ∀ vs G, Same H G → vs.length = m → (∀ v ∈ vs, Φ v G) → ∀ L, G L = none → L ≠ sysModules → Q (.ref L) (upd G L (.lst vs))) : tLstN u σ H Q := h _ fun vs G s l hv => ⟨by omega, fun L hL nL => q vs G s l hv L hL nL⟩
theorem tg_ne {G : Hp} {P1 : Addr → Prop} {v : V} {d : PyData} (h : Tg G P1 v d) (n : d ≠ .none) : v ≠ .non := fun e => by
  subst e
  rcases h with ⟨_, sh⟩ | ⟨_, _, _, _, e, _⟩ | ⟨_, _, _, _, e, _⟩
  · cases sh
    exact n rfl
  · cases e
  · cases e
theorem stp {te : TE} {i : Nat} {rest : TS} {D : Ends} {σ : L2.St} {H : Hp} (h : te σ H (fun v G => rest D (σ.set i (some v)) G)) : tSeq (tAsg te (gName i)) rest D σ H := h
set_option maxHeartbeats 400000 in
theorem ok_ref {f fT : Addr} {fd fdT : FuncData} (F : Fun K "_law_refused_right" "_law_refused_right" sLRefused f fd) (R : Rfs P w K mg base cT ft fa fni fli ffi dt da dni dli dfi) (TT : ExT K mg "NoTerm" cT fT fdT) (X : Exm5 K cT cN) : FnG P w K mg base CX0 24 f fd pRef spRef := by
  refine Fun.okG F scRef (fun vs H Q E h => ?_) (fun cdv A outer s H vs Q E hA hr h => ?_)
  · obtain ⟨p, n, x, d, P0, rfl, _⟩ := h
    rfl
  · obtain ⟨p, n, x, d, P0, rfl, pu, hn, np, sh, ft', hl, rd, q⟩ := h
    have hr1 := hr.mono (by decide : 1 ≤ 23)
    have hrC := hr.mono (by decide : 10 ≤ 23)
    have hA' : (A.deeper (envOfC "_law_refused_right" (defScope sLRefused) s.heap.objs.size f cdv)).guards = some [] := hA
    obtain ⟨tT, hT, try_⟩ := ref_try (P := P) (w := w) (K := K) (base := base) (outer := outer) (s := s) (H0 := H) (E := E) R TT X hr
    obtain ⟨tb, hB, row⟩ := ref_row (P := P) (w := w) (K := K) (base := base) (outer := outer) (s := s) (H0 := H) (E := E) R hA' hr
    refine ⟨_, (pss_cons (ps_set (i := 2) scRef.nd rfl (Or.inl rfl) (pe_ix ix_list (pe_lstN (pa_cons pe_non (pa_cons pe_int (pa_cons pe_str (pa_cons (pe_tup pa_nil) (pa_cons (pe_tup (pa_cons pe_str pa_nil)) (pa_cons (pe_tup (pa_cons pe_str (pa_cons pe_str pa_nil))) (pa_cons (pe_lstN (pa_cons (pv 1) pa_nil)) (pa_cons pe_dnewK (pa_cons (pe_lstN (pa_cons pe_str (pa_cons pe_str pa_nil))) pa_nil)))))))))) (pe_call R.GT hr1 (by rfl) R.DT.at_ R.DT.kp R.DT.bd .nil pass0 (pa_cons (pv 0) (pa_cons pe_int pa_nil))) (fun _ _ => rfl)))
        (pss_cons (ps_set (i := 3) scRef.nd rfl (Or.inl rfl) (pe_lstN (pa_cons pe_non (pa_cons (pe_lstN pa_nil) (pa_cons pe_str (pa_cons (pe_disp (pps_cons pe_str pe_str pps_nil) rfl rfl (by simp) (by decide)) (pa_cons (pe_disp (pps_cons pe_str pe_int pps_nil) rfl rfl (by simp) (by decide)) (pa_cons (pe_disp (pps_cons pe_str pe_str pps_nil) rfl rfl (by simp) (by decide)) (pa_cons (pe_disp (pps_cons pe_int pe_str pps_nil) rfl rfl (by simp) (by decide)) (pa_cons (pe_disp (pps_cons pe_str pe_str pps_nil) rfl rfl (by simp) (by decide)) (pa_cons (pe_disp (pps_cons pe_str pe_str pps_nil) rfl rfl (by simp) (by decide)) (pa_cons pe_bl pa_nil))))))))))))
        (pss_cons (ps_set (i := 4) scRef.nd rfl (Or.inl rfl) (pe_ix ix_list (pv 3) (pe_call R.GT hr1 (by rfl) R.DT.at_ R.DT.kp R.DT.bd .nil pass0 (pa_cons (pv 0) (pa_cons pe_int pa_nil))) (fun _ _ => rfl)))
        (pss_cons (ps_set (i := 5) scRef.nd rfl (Or.inl rfl) (pe_ix ix_list (pe_lstN (pa_cons pe_int (pa_cons (pe_lstN pa_nil) (pa_cons pe_str (pa_cons (pe_disp (pps_cons pe_str pe_str pps_nil) rfl rfl (by simp) (by decide)) (pa_cons (pe_disp (pps_cons pe_str pe_str pps_nil) rfl rfl (by simp) (by decide)) (pa_cons (pe_disp (pps_cons pe_str pe_non pps_nil) rfl rfl (by simp) (by decide)) (pa_cons (pe_disp (pps_cons pe_str pe_str pps_nil) rfl rfl (by simp) (by decide)) (pa_cons pe_bl pa_nil))))))))) (pe_call R.GT hr1 (by rfl) R.DT.at_ R.DT.kp R.DT.bd .nil pass0 (pa_cons (pv 0) (pa_cons pe_int pa_nil))) (fun _ _ => rfl)))
        (pss_cons (ps_set (i := 6) scRef.nd rfl (Or.inl rfl) (pe_lstN (pa_cons (pe_tup (pa_cons (pv 2) (pa_cons (pv 4) (pa_cons (pv 5) (pa_cons (pe_lstN (pa_cons pe_str (pa_cons (pv 2) pa_nil))) pa_nil))))) (pa_cons (pe_tup (pa_cons (pv 1) (pa_cons (pv 4) (pa_cons (pv 5) (pa_cons (pe_lstN (pa_cons pe_str (pa_cons (pv 4) pa_nil))) pa_nil))))) (pa_cons (pe_tup (pa_cons (pv 1) (pa_cons pe_dnewK (pa_cons (pv 5) (pa_cons (pe_lstN (pa_cons pe_str (pa_cons (pv 5) pa_nil))) pa_nil))))) pa_nil)))))
        (pss_cons (ps_for PassesOwn.leaving rfl (pi_list (pv 6)) (pg_tup rfl (pgs_cons (pg_name (i := 7) scRef.nd rfl (Or.inl rfl)) (pgs_cons (pg_name (i := 8) scRef.nd rfl (Or.inl rfl)) (pgs_cons (pg_name (i := 9) scRef.nd rfl (Or.inl rfl)) (pgs_cons (pg_name (i := 10) scRef.nd rfl (Or.inl rfl)) pgs_nil))))) hB)
        (pss_cons (ps_set (i := 12) scRef.nd rfl (Or.inl rfl) (pe_lstN pa_nil))
        (pss_cons (ps_for PassesOwn.leaving rfl (pi_range1 (by rfl) R.mr (pa_cons pe_int pa_nil)) (pg_name (i := 13) scRef.nd rfl (Or.inl rfl)) hT)
        (pss_one (ps_ret (pe_cmpR op_eq (pe_callB (call_reprD hA' hr.units) (by rfl) R.mp (by decide +kernel) (pa_cons (pv 12) pa_nil)) (pe_callB (call_reprD hA' hr.units) (by rfl) R.mp (by decide +kernel) (pa_cons (pe_op op_repN (pe_lstN (pa_cons (pv 2) pa_nil)) pe_int) pa_nil)) (nomark _)))))))))))), ?_⟩
    have hp : ∃ o, H p = some o := let ⟨_, _, _, h, _⟩ := pu; ⟨_, h⟩
    obtain ⟨op, hp⟩ := hp
    rw [show L2.start nRef [V.ref p, x] = [some (.ref p), some x, none, none, none, none, none, none, none, none, none, none, none, none, none] from rfl]
    refine stp ?_
    refine pick_one (K := K) (u := uNone) (N := 9) (E := E0) (none_mk rfl sh ft' hl _ (Same.refl _)) rfl (by decide) (by decide) pu (by omega) rfl (fun a ha e => ?_) fun vN G1 k1 pu1 ⟨dN, tN, oN⟩ => ?_
    · subst e
      rcases ha with ha | ha
      · rw [hp] at ha; cases ha
      · exact np ha
    dsimp only [List.set]
    refine stp ?_
    refine lst_of_mk (u := uOdd) (odd_mk G1 (Same.refl _)) (by decide) fun vs G2 s2 l hv L hL _ => ?_
    have s3 := same_new (o := .lst vs) hL
    have s13 : Same G1 (upd G2 L (.lst vs)) := s2.trans s3
    have gL := upd_same (H := G2) (a := L) (o := .lst vs)
    have hvs : ∀ v ∈ vs, Phi OkO (fun a => G1 a = none) v (upd G2 L (.lst vs)) := fun v m => phi_same v _ _ s3 (hv v m)
    clear hv hL
    generalize upd G2 L (.lst vs) = G3 at s3 s13 gL hvs
    clear s2 s3
    obtain ⟨_, _, _, hp1, _⟩ := id pu1
    have pu3 : Purse G3 p (n + 1) := pu1.of ((s13 _ _ hp1).trans hp1.symm)
    have nL : L ≠ p := fun e => by
      rw [e, s13 _ _ hp1] at gL
      have h := HO.lst.inj (Option.some.inj gL)
      rw [← h] at l
      cases l
    dsimp only [List.set]
    refine stp ?_
    refine ⟨_, rfl, _, rfl, p, 10, _, rfl, pu3, by omega, by decide, by decide, fun b G4 d0 d1 pu4 eq4 => ?_⟩
    obtain ⟨vB, mB, eB⟩ := pick (xs := vs) d0 (by rw [l]; omega)
    have hp1' : ∀ a, G1 a = none → a ≠ p := fun a ha e => by rw [e, hp1] at ha; cases ha
    have k34 := kp_take eq4
    obtain ⟨dB, tB, oB⟩ := phi_kp hp1' vB _ G4 k34 (hvs vB mB)
    refine ⟨L, vs, b, vB, rfl, rfl, SqL.of ((eq4 L nL).trans gL), eB, ?_⟩
    obtain ⟨_, _, _, hp4, _⟩ := id pu4
    dsimp only [List.set]
    refine stp ?_
    refine pick_one (K := K) (u := uWorse) (N := 8) (E := E0) (worse_mk G4 (Same.refl _)) rfl (by decide) (by decide) pu4 (by omega) rfl (fun a ha e => by rw [e, hp4] at ha; cases ha) fun vW G5 k5 pu5 ⟨dW, tW, oW⟩ => ?_
    have k14 : Kp (· ≠ p) G1 G4 := fun a o n h => k34 _ _ n (s13 _ _ h)
    have k15 : Kp (· ≠ p) G1 G5 := fun a o n h => k5 _ _ n (k14 _ _ n h)
    have kH5 : Kp (· ≠ p) H G5 := fun a o n h => k15 _ _ n (k1 _ _ n h)
    have nPN : ∀ a, PN H P0 a → a ≠ p := fun a ha e => by
      subst e
      rcases ha with ha | ha
      · rw [hp] at ha; cases ha
      · exact np ha
    have tN5 : Tg G5 (PN H P0) vN dN := tN.on (fun _ _ h _ => h) fun a o h e => k15 _ _ (nPN a h) e
    have tB5 : Tg G5 (fun a => G1 a = none) vB dB := tB.on (fun _ _ h _ => h) fun a o h e => k5 _ _ (hp1' a h) e
    have sh5 : Sh G5 P0 true x d := Sh.on (fun _ _ h _ => h) (fun a o h e => kH5 _ _ (fun z => np (z ▸ h)) e) _ _ sh
    have pu5' : Purse G5 p (n + 3) := by
      have e : n + 1 + 1 + 1 = n + 3 := by omega
      rw [e] at pu5
      exact pu5
    clear k14 k15 k34 k1 k5 pu1 pu3 pu4 pu5 tN tB hvs gL s13 eq4 eB mB hp1' hp1 nPN sh
    dsimp only [List.set]
    refine stp ?_
    refine ⟨_, rfl, _, rfl, _, rfl, ⟨_, rfl, by show 2 ≤ 1000; decide, fun l1 h1 _ => ⟨by show 4 ≤ sizeLine; decide, fun t1 g1 => ?_⟩⟩⟩
    have s1 := (same_new (o := .lst [V.str "term", vN]) h1).trans (same_new (o := .tup [vN, vB, vW, .ref l1]) g1)
    have a1 := same_new (o := .tup [vN, vB, vW, .ref l1]) g1 _ _ (upd_same (H := G5) (a := l1) (o := .lst [V.str "term", vN]))
    have b1 := upd_same (H := upd G5 l1 (.lst [V.str "term", vN])) (a := t1) (o := .tup [vN, vB, vW, .ref l1])
    clear h1 g1
    generalize upd (upd G5 l1 (.lst [V.str "term", vN])) t1 (.tup [vN, vB, vW, .ref l1]) = G6 at s1 a1 b1
    refine ⟨_, rfl, _, rfl, _, rfl, ⟨_, rfl, by show 2 ≤ 1000; decide, fun l2 h1 _ => ⟨by show 4 ≤ sizeLine; decide, fun t2 g1 => ?_⟩⟩⟩
    have s2 := (same_new (o := .lst [V.str "names", vB]) h1).trans (same_new (o := .tup [x, vB, vW, .ref l2]) g1)
    have a2 := same_new (o := .tup [x, vB, vW, .ref l2]) g1 _ _ (upd_same (H := G6) (a := l2) (o := .lst [V.str "names", vB]))
    have b2 := upd_same (H := upd G6 l2 (.lst [V.str "names", vB])) (a := t2) (o := .tup [x, vB, vW, .ref l2])
    clear h1 g1
    generalize upd (upd G6 l2 (.lst [V.str "names", vB])) t2 (.tup [x, vB, vW, .ref l2]) = G7 at s2 a2 b2
    refine ⟨_, rfl, fun e0 h0 => ?_⟩
    have s0 := same_new (o := .dK []) h0
    have a0 := upd_same (H := G7) (a := e0) (o := .dK [])
    clear h0
    generalize upd G7 e0 (.dK []) = G8 at s0 a0
    refine ⟨_, rfl, ⟨_, rfl, by show 2 ≤ 1000; decide, fun l3 h1 _ => ⟨by show 4 ≤ sizeLine; decide, fun t3 g1 => ?_⟩⟩⟩
    have s3 := (same_new (o := .lst [V.str "names", vW]) h1).trans (same_new (o := .tup [x, .ref e0, vW, .ref l3]) g1)
    have a3 := same_new (o := .tup [x, .ref e0, vW, .ref l3]) g1 _ _ (upd_same (H := G8) (a := l3) (o := .lst [V.str "names", vW]))
    have b3 := upd_same (H := upd G8 l3 (.lst [V.str "names", vW])) (a := t3) (o := .tup [x, .ref e0, vW, .ref l3])
    clear h1 g1
    generalize upd (upd G8 l3 (.lst [V.str "names", vW])) t3 (.tup [x, .ref e0, vW, .ref l3]) = G9 at s3 a3 b3
    refine ⟨by show 3 ≤ 1000; decide, fun B hB nB => ?_⟩
    have sR := same_new (o := .lst [V.ref t1, .ref t2, .ref t3]) hB
    have aR := upd_same (H := G9) (a := B) (o := .lst [V.ref t1, .ref t2, .ref t3])
    clear hB
    generalize upd G9 B (.lst [V.ref t1, .ref t2, .ref t3]) = G10 at sR aR
    dsimp only [List.set]
    have e9 := s3.trans sR
    have e8 := s0.trans e9
    have e7 := s2.trans e8
    have e5 := s1.trans e7
    have A1 := e7 _ _ a1
    have B1 := e7 _ _ b1
    have A2 := e8 _ _ a2
    have B2 := e8 _ _ b2
    have A0 := e9 _ _ a0
    have A3 := sR _ _ a3
    have B3 := sR _ _ b3
    have tN := tN5.same e5
    have tB := tB5.same e5
    have tW := tW.same e5
    have sh' := sh_same e5 sh5
    have kH : Kp (· ≠ p) H G10 := fun a o n h => e5 _ _ (kH5 _ _ n h)
    obtain ⟨_, _, _, hp5, _⟩ := id pu5'
    have pu := pu5'.of ((e5 _ _ hp5).trans hp5.symm)
    clear s1 s2 s3 s0 sR e9 e8 e7 e5 a1 b1 a2 b2 a0 a3 b3 tN5 tB5 sh5 kH5 pu5' hp5
    obtain ⟨⟨nrN, ⟨kN, hkN, fN⟩, slN⟩, _, _⟩ := id oN
    have daN := tN.da (by decide) fN
    have szN : sz dN ≤ 900000 := by have := sz_sl dN; omega
    have da := sh_da (by decide) d x ft' sh'
    have hz : sz d ≤ 900000 := by have := sz_sl d; omega
    refine ⟨_, rfl, B, rfl, ⟨_, SqL.of aR⟩, for_list (K := K) (a := B) (xs := [.ref t1, .ref t2, .ref t3]) (fun i σ G => ∃ u7 u8 u9 u10 u11, σ = [some (.ref p), some x, some vN, some (.ref L), some vB, some vW, some (.ref B), u7, u8, u9, u10, u11, none, none, none] ∧ Same G10 G)
      ⟨_, _, _, _, _, rfl, Same.refl _⟩ (fun i σ G _ pv => ?_) (fun i y σ G hy pv => ?_) fun σ G pv => ?_⟩
    · obtain ⟨_, _, _, _, _, _, s⟩ := pv
      exact SqL.of (s _ _ aR)
    · obtain ⟨u7, u8, u9, u10, u11, rfl, sG⟩ := pv
      match i, hy with
      | 0, hy =>
        cases hy
        refine ⟨t1, _, rfl, SqT.of (sG _ _ B1), rfl, _, _, rfl, _, _, rfl, _, _, rfl, _, _, rfl, rfl, ?_⟩
        dsimp only [List.set]
        refine row _ _ _ _ _ _ _ _ _ _ _ _ _ vN vB vW l1 "term" vN dN (PN H P0) (sG _ _ A1) (tN.same sG) oN.2.1.term (okN_more oN) (fun Q1 E1 ask => ?_) (fun pf G' s' => ⟨_, _, _, _, _, rfl, sG.trans s'⟩)
        exact ⟨vN, vB, vW, dN, rfl, daN.same sG, szN, .inl ⟨oN.1.1, fun p' H' s' _ _ g => ask p' H' s' g⟩⟩
      | 1, hy =>
        cases hy
        refine ⟨t2, _, rfl, SqT.of (sG _ _ B2), rfl, _, _, rfl, _, _, rfl, _, _, rfl, _, _, rfl, rfl, ?_⟩
        dsimp only [List.set]
        refine row _ _ _ _ _ _ _ _ _ _ _ _ _ x vB vW l2 "names" vB dB _ (sG _ _ A2) (tB.same sG) oB.2.names (nd_more oB.1 oB.2) (fun Q1 E1 ask => ?_) (fun pf G' s' => ⟨_, _, _, _, _, rfl, sG.trans s'⟩)
        exact ⟨x, vB, vW, d, rfl, da.same sG, hz, .inr (.inl ⟨rd, (tB.same sG).noDict oB.1, fun p' H' s' _ _ g => ask p' H' s' g⟩)⟩
      | 2, hy =>
        cases hy
        refine ⟨t3, _, rfl, SqT.of (sG _ _ B3), rfl, _, _, rfl, _, _, rfl, _, _, rfl, _, _, rfl, rfl, ?_⟩
        dsimp only [List.set]
        refine row _ _ _ _ _ _ _ _ _ _ _ _ _ x (.ref e0) vW l3 "names" vW dW _ (sG _ _ A3) (tW.same sG) oW.2.1.names (nd_more oW.1 oW.2.1) (fun Q1 E1 ask => ?_) (fun pf G' s' => ⟨_, _, _, _, _, rfl, sG.trans s'⟩)
        exact ⟨x, .ref e0, vW, d, rfl, da.same sG, hz, .inr (.inr (.inl ⟨rd, ⟨[], e0, [], ⟨rfl, sG _ _ A0, .nil, (fun _ m => nomatch m), by show 0 ≤ 1000; decide, List.nodup_nil⟩, rfl⟩, tg_ne tW oW.2.2, (tW.same sG).noDict oW.1, fun p' H' s' _ _ g => ask p' H' s' g⟩))⟩
      | i + 3, hy => simp at hy
    · obtain ⟨u7, u8, u9, u10, u11, rfl, sG⟩ := pv
      show tSeq (tAsg (tLstN tNil) (gName 12)) _ _ _ _
      refine stp ?_
      refine ⟨by show 0 ≤ 1000; decide, fun C hC nC => ?_⟩
      dsimp only [List.set]
      refine ⟨3, rfl, by decide, by decide, for_range (lo := 0) (n := 3) (fun i σ G' => ∃ u13, σ = [some (.ref p), some x, some vN, some (.ref L), some vB, some vW, some (.ref B), u7, u8, u9, u10, u11, some (.ref C), u13, none] ∧ Same G G' ∧ G' C = some (.lst (List.replicate i vN))) ⟨_, rfl, same_new hC, upd_same⟩ (fun i σ G' hi pv => ?_) fun σ G' pv => ?_⟩
      · obtain ⟨u13, rfl, s', gC⟩ := pv
        show tT _ _ _
        simp only [Int.zero_add]
        dsimp only [List.set]
        refine try_ _ G' _ _ _ _ _ _ _ _ _ _ _ vN dN C (List.replicate i vN) i hi gC (by rw [List.length_replicate]; omega) ((daN.same sG).same s') szN oN.1.1 fun G2 kG gC2 => ⟨_, rfl, fun b o h => kG _ _ (fun e => by rw [e, hC] at h; cases h) (s' _ _ h), ?_⟩
        rw [gC2, List.replicate_succ']
      · obtain ⟨u13, rfl, s', gC⟩ := pv
        have sG' := sG.trans s'
        have sd : ∀ {G2 : Hp}, Same G' G2 → SdAll G2 (fun _ => True) [vN, vN, vN] [dN, dN, dN] := fun s2 => .cons ((tN.same (sG'.trans s2)).sd) (.cons ((tN.same (sG'.trans s2)).sd) (.cons ((tN.same (sG'.trans s2)).sd) .nil))
        obtain ⟨w1, w2, w3⟩ := oN.2.2
        refine ⟨_, rfl, C, _, _, _, rfl, gC, sd (Same.refl _), w1, w2, w3, _, rfl, by show 1 ≤ 1000; decide, fun A1' hA1 nA1 => ⟨A1', 3, _, rfl, rfl, upd_same, by decide, by decide, by show 1 * 3 ≤ sizeLine; decide, fun C2 hC2 nC2 => ?_⟩⟩
        have eR : (List.replicate (Int.toNat 3) [vN]).flatten = [vN, vN, vN] := rfl
        rw [eR]
        have sN := (same_new (o := .lst [vN]) hA1).trans (same_new (o := .lst [vN, vN, vN]) hC2)
        refine ⟨C2, _, _, _, rfl, upd_same, sd sN, w1, w2, w3, ?_⟩
        have e9 := (sG'.trans sN)
        have r := q _ (fun a o n h => e9 _ _ (kH _ _ n h)) (pu.of (by
          obtain ⟨_, _, _, h, _⟩ := id pu
          rw [e9 _ _ h, h]))
        refine ⟨rfl, ?_⟩
        show Q (.bl (decide _)) _
        rw [decide_eq_true rfl]
        exact r
end
end K5
end Bf

namespace Bf
open PySem PySem.Spec PyProof.Rows L2
namespace K5
/-! ### called otherwise, and back: pure -/
section
variable {F F' : PyData → PyData} {f g fb gb : Str → Str}
theorem one_held {s : Str} {x : PyData} : oneD s (heldF F f g s x) = (oneD s x).map F := by
  unfold oneD heldF
  by_cases t : decide (V.str s = V.str "term") = true
  · simp only [t, if_true]; rfl
  · simp only [t, if_false]
    cases lk s ST with
    | some p => cases x <;> rfl
    | none => rfl
theorem zw_one : ∀ {ss : List Str} {rest : List PyData}, (List.zipWith oneD ss (List.zipWith (heldF F f g) ss rest)).flatten = ((List.zipWith oneD ss rest).flatten).map F
  | [], _ => by simp
  | _ :: _, [] => by simp
  | s :: ss, x :: rest => by
    rw [List.zipWith_cons_cons, List.zipWith_cons_cons, List.zipWith_cons_cons, List.flatten_cons, List.flatten_cons, List.map_append, one_held, zw_one]
theorem within_cal {c : Str} {rest : List PyData} {ss : List Str} (e : lk c FM = some ss) : withinD (calD f g (.tuple (.str c :: rest))) = (withinD (.tuple (.str c :: rest))).map (calD f g) := by
  rw [cal_eq e, within_eq e, within_eq e, zw_one]
theorem fits_held (hf : ∀ z, nameS z = true → nameS (f z) = true) (hg : ∀ z, nodeS z = true → nodeS (g z) = true) {s : Str} {x : PyData} (h : fitsD s x = true) : fitsD s (heldF F f g s x) = true := by
  unfold heldF
  split
  · rename_i t
    have e : s = "term" := V.str.inj (of_decide_eq_true t)
    subst e
    rfl
  · rename_i t
    split
    · rename_i p e
      split
      · unfold fitsD at h ⊢
        rw [e] at h ⊢
        obtain ⟨lo, hi⟩ := p
        simpa only [rangeD, List.length_map] using h
      · exact h
    · rename_i e
      split
      · rename_i ne
        rcases Bool.or_eq_true_iff.mp ne with n | n
        · have e : s = "name" := V.str.inj (of_decide_eq_true n)
          subst e
          have h' : nameD x = true := h
          show nameD (nmC f x) = true
          cases x with
          | str z => exact hf z h'
          | _ => exact h'
        · have e : s = "every" := V.str.inj (of_decide_eq_true n)
          subst e
          rcases every_inv h with rfl | ⟨z, rfl, hz⟩
          · rfl
          · exact hf z hz
      · split
        · rename_i n
          have e : s = "node" := V.str.inj (of_decide_eq_true n)
          subst e
          have h' : nodeD x = true := h
          show nodeD (nmC g x) = true
          cases x with
          | str z => exact hg z h'
          | _ => exact h'
        · exact h
theorem all_held (hf : ∀ z, nameS z = true → nameS (f z) = true) (hg : ∀ z, nodeS z = true → nodeS (g z) = true) : ∀ {ss : List Str} {rest : List PyData}, (List.zipWith fitsD ss rest).all id = true → (List.zipWith fitsD ss (List.zipWith (heldF F f g) ss rest)).all id = true
  | [], _, _ => by simp
  | _ :: _, [], _ => by simp
  | s :: ss, x :: rest, h => by
    rw [List.zipWith_cons_cons, List.all_cons] at h
    obtain ⟨h1, h2⟩ := Bool.and_eq_true_iff.mp h
    rw [List.zipWith_cons_cons, List.zipWith_cons_cons, List.all_cons, all_held hf hg h2, show id (fitsD s (heldF F f g s x)) = true from fits_held hf hg h1]
    rfl
theorem cal_formed (hf : ∀ z, nameS z = true → nameS (f z) = true) (hg : ∀ z, nodeS z = true → nodeS (g z) = true) {d : PyData} (h : formedD d = true) : formedD (calD f g d) = true := by
  obtain ⟨c, rest, ss, rfl, e, l, hfit, hlit⟩ := formed_inv h
  rw [cal_eq e, formed_eq e, decide_eq_true (zw_len _ _ _ l.symm |>.trans l), all_held hf hg hfit]
  by_cases hc : decide (V.str c = V.str "lit") = true
  · have ec : c = "lit" := V.str.inj (of_decide_eq_true hc)
    subst ec
    have e2 : lk "lit" FM = some (["kind", "worth"] : List Str) := by decide +kernel
    rw [e2] at e
    cases e
    match rest, l with
    | [k, x], _ =>
      show (true && true && (_ || litD [heldF _ f g "kind" k, heldF _ f g "worth" x])) = true
      rw [hd_kind, hd_worth]
      exact hlit
  · rw [Bool.eq_false_iff.mpr hc]
    rfl
theorem callX_cal {d : PyData} (h : formedD d = true) : callX (calD f g d) = callX d := by
  obtain ⟨c, rest, ss, rfl, e, _⟩ := formed_inv h
  rw [cal_eq e]
  rfl
theorem term_cal (hf : ∀ z, nameS z = true → nameS (f z) = true) (hg : ∀ z, nodeS z = true → nodeS (g z) = true) : ∀ (n : Nat) (d : PyData), sz d ≤ n → termD d = true → termD (calD f g d) = true
  | 0, d, h, _ => absurd h (by have := sz_pos d; omega)
  | n + 1, d, h, t => by
    rw [termD_eq] at t ⊢
    obtain ⟨t1, t2⟩ := Bool.and_eq_true_iff.mp t
    obtain ⟨fo, nc⟩ := Bool.and_eq_true_iff.mp t1
    have ws := within_sz d
    rw [cal_formed hf hg fo, callX_cal fo, nc]
    obtain ⟨c, rest, ss, rfl, e, _⟩ := formed_inv fo
    rw [within_cal e, List.all_map]
    rw [List.all_eq_true] at t2
    show (true && true && List.all _ _) = true
    rw [show (true && true) = true from rfl, Bool.true_and, List.all_eq_true]
    intro y my
    exact term_cal hf hg n y (by have := szA_mem my; omega) (t2 y my)
theorem right_cal (hf : ∀ z, nameS z = true → nameS (f z) = true) (hg : ∀ z, nodeS z = true → nodeS (g z) = true) {d : PyData} (h : rightD d = true) : rightD (calD f g d) = true := by
  unfold rightD at h ⊢
  obtain ⟨fo, t2⟩ := Bool.and_eq_true_iff.mp h
  rw [cal_formed hf hg fo]
  obtain ⟨c, rest, ss, rfl, e, _⟩ := formed_inv fo
  rw [within_cal e, List.all_map, Bool.true_and, List.all_eq_true]
  rw [List.all_eq_true] at t2
  intro y my
  exact term_cal hf hg _ y (Nat.le_refl _) (t2 y my)
/-! back -/
theorem name_slot {c : Str} {ss : List Str} (e : lk c FM = some ss) {i : Nat} (h : ss[i]? = some "name") : ((c = "name" ∨ c = "merge" ∨ c = "last") ∧ i = 0) ∨ (c = "when" ∧ i = 1) := by
  have all : ∀ p ∈ FM, ∀ i < p.2.length, p.2[i]? = some "name" → ((p.1 = "name" ∨ p.1 = "merge" ∨ p.1 = "last") ∧ i = 0) ∨ (p.1 = "when" ∧ i = 1) := by decide +kernel
  exact all (c, ss) (lk_mem e) i (List.getElem?_eq_some_iff.mp h).1 h
theorem every_slot {c : Str} {ss : List Str} (e : lk c FM = some ss) {i : Nat} (h : ss[i]? = some "every") : callS c = true ∧ i + 1 = ss.length := by
  have all : ∀ p ∈ FM, ∀ i < p.2.length, p.2[i]? = some "every" → callS p.1 = true ∧ i + 1 = p.2.length := by decide +kernel
  exact all (c, ss) (lk_mem e) i (List.getElem?_eq_some_iff.mp h).1 h
theorem held_back {s : Str} {x : PyData} (h1 : ∀ y ∈ oneD s x, F' (F y) = y) (h2 : s = "name" ∨ s = "every" → ∀ z, x = .str z → fb (f z) = z) (h3 : ∀ z, gb (g z) = z) : heldF F' fb gb s (heldF F f g s x) = x := by
  unfold oneD at h1
  unfold heldF
  by_cases t : decide (V.str s = V.str "term") = true
  · simp only [t, if_true] at h1 ⊢
    exact h1 x List.mem_cons_self
  · simp only [t, if_false] at h1 ⊢
    cases e : lk s ST with
    | some p =>
      rw [e] at h1
      cases x with
      | tuple ds =>
        show PyData.tuple ((ds.map F).map F') = _
        rw [List.map_map]
        have : ds.map (F' ∘ F) = ds.map id := map_congr' fun y m => h1 y m
        rw [this, List.map_id]
      | _ => rfl
    | none =>
      dsimp only
      by_cases n : (decide (V.str s = V.str "name") || decide (V.str s = V.str "every")) = true
      · simp only [n, if_true]
        have hs : s = "name" ∨ s = "every" := (Bool.or_eq_true_iff.mp n).imp (fun n => V.str.inj (of_decide_eq_true n)) fun n => V.str.inj (of_decide_eq_true n)
        cases x with
        | str z => show PyData.str (fb (f z)) = _; rw [h2 hs z rfl]
        | _ => rfl
      · simp only [n, if_false]
        by_cases nd : decide (V.str s = V.str "node") = true
        · simp only [nd, if_true]
          cases x with
          | str z => show PyData.str (gb (g z)) = _; rw [h3]
          | _ => rfl
        · simp only [nd, if_false]
          rfl
theorem zw_back {H1 H2 : Str → PyData → PyData} : ∀ {ss : List Str} {rest : List PyData}, (∀ (i : Nat) (s : Str) (x : PyData), ss[i]? = some s → rest[i]? = some x → H2 s (H1 s x) = x) → rest.length = ss.length → List.zipWith H2 ss (List.zipWith H1 ss rest) = rest
  | [], [], _, _ => rfl
  | s :: ss, x :: rest, h, l => by
    rw [List.zipWith_cons_cons, List.zipWith_cons_cons, h 0 s x rfl rfl, zw_back (fun i s x h1 h2 => h (i + 1) s x h1 h2) (Nat.succ.inj l)]
theorem cal_back1 {c : Str} {rest : List PyData} {ss : List Str} (e : lk c FM = some ss) (l : rest.length = ss.length) (hw : ∀ y ∈ withinD (.tuple (.str c :: rest)), calD fb gb (calD f g y) = y)
    (hn : ∀ z, z ∈ nmP (.tuple (.str c :: rest)) ∨ z ∈ lsP (.tuple (.str c :: rest)) ∨ z ∈ evD (.tuple (.str c :: rest)) → fb (f z) = z) (hg : ∀ z, gb (g z) = z) : calD fb gb (calD f g (.tuple (.str c :: rest))) = .tuple (.str c :: rest) := by
  rw [cal_eq e, cal_eq e, zw_back (fun i s x h1 h2 => ?_) l]
  refine held_back (fun y my => hw y ?_) (fun hs z ez => hn z ?_) hg
  · rw [within_eq e]
    exact List.mem_flatten.mpr ⟨_, List.mem_of_getElem? (zw_get oneD h1 h2), my⟩
  · subst ez
    rcases hs with rfl | rfl
    · rcases name_slot e h1 with ⟨hc, rfl⟩ | ⟨rfl, rfl⟩
      · have sa : strAt rest 0 = [z] := by unfold strAt; rw [h2]
        rcases hc with rfl | rfl | rfl
        · left; rw [nmP_tup, if_pos (by decide +kernel), sa]; exact List.mem_singleton.mpr rfl
        · left; rw [nmP_tup, if_pos (by decide +kernel), sa]; exact List.mem_singleton.mpr rfl
        · right; left; rw [lsP_tup, if_pos (by decide +kernel), sa]; exact List.mem_singleton.mpr rfl
      · have sa : strAt rest 1 = [z] := by unfold strAt; rw [h2]
        left; rw [nmP_tup, if_neg (by decide +kernel), if_pos (by decide +kernel), sa]; exact List.mem_singleton.mpr rfl
    · obtain ⟨hc, hi⟩ := every_slot e h1
      right; right
      have sa : strAt rest (rest.length - 1) = [z] := by
        unfold strAt
        rw [l, ← hi, Nat.add_sub_cancel, h2]
      unfold evD
      rw [if_pos (show callX (.tuple (.str c :: rest)) = true from hc)]
      show z ∈ strAt rest (rest.length - 1)
      rw [sa]; exact List.mem_singleton.mpr rfl
theorem term_back (hg : ∀ z, gb (g z) = z) : ∀ (n : Nat) (d : PyData), sz d ≤ n → termD d = true → (∀ p ∈ partD d, ∀ z, z ∈ nmP p ∨ z ∈ lsP p → fb (f z) = z) → calD fb gb (calD f g d) = d
  | 0, d, h, _, _ => absurd h (by have := sz_pos d; omega)
  | n + 1, d, h, t, hz => by
    rw [termD_eq] at t
    obtain ⟨t1, t2⟩ := Bool.and_eq_true_iff.mp t
    obtain ⟨fo, nc⟩ := Bool.and_eq_true_iff.mp t1
    rw [List.all_eq_true] at t2
    rw [partD_eq] at hz
    have ws := within_sz d
    obtain ⟨c, rest, ss, rfl, e, l, _⟩ := formed_inv fo
    refine cal_back1 e l (fun y my => term_back hg n y (by have := szA_mem my; omega) (t2 y my) fun p mp => hz p (List.mem_cons_of_mem _ (List.mem_flatten.mpr ⟨_, List.mem_map_of_mem my, mp⟩))) (fun z h => ?_) hg
    rcases h with h | h | h
    · exact hz _ List.mem_cons_self z (.inl h)
    · exact hz _ List.mem_cons_self z (.inr h)
    · unfold evD at h
      rw [if_neg (by simpa using nc)] at h
      cases h
theorem call_no {c : Str} (rest : List PyData) (h : callS c = true) : nmP (.tuple (.str c :: rest)) = [] ∧ lsP (.tuple (.str c :: rest)) = [] := by
  have hc := call_words h
  rcases hc with rfl | rfl | rfl | rfl <;> (rw [nmP_tup, lsP_tup, if_neg (by decide +kernel), if_neg (by decide +kernel), if_neg (by decide +kernel)]; exact ⟨rfl, rfl⟩)
theorem cal_back (hg : ∀ z, gb (g z) = z) {d : PyData} (h : rightD d = true) (hz : ∀ z, z ∈ namesD d ∨ z ∈ lastsD d → fb (f z) = z) : calD fb gb (calD f g d) = d := by
  unfold rightD at h
  obtain ⟨fo, t2⟩ := Bool.and_eq_true_iff.mp h
  rw [List.all_eq_true] at t2
  have hp : ∀ p ∈ partsD d, ∀ z, z ∈ nmP p ∨ z ∈ lsP p → fb (f z) = z := fun p mp z m => hz z (m.imp (fun m => List.mem_append.mpr (.inl (List.mem_flatten.mpr ⟨_, List.mem_map_of_mem mp, m⟩))) fun m => List.mem_flatten.mpr ⟨_, List.mem_map_of_mem mp, m⟩)
  have he : ∀ z, z ∈ evD d → fb (f z) = z := fun z m => hz z (.inl (List.mem_append.mpr (.inr m)))
  unfold partsD at hp
  obtain ⟨c, rest, ss, rfl, e, l, _⟩ := formed_inv fo
  by_cases hc : callX (.tuple (.str c :: rest)) = true
  · rw [if_pos hc] at hp
    obtain ⟨n1, n2⟩ := call_no rest hc
    refine cal_back1 e l (fun y my => term_back hg _ y (Nat.le_refl _) (t2 y my) fun p mp => hp p (List.mem_flatten.mpr ⟨_, List.mem_map_of_mem my, mp⟩)) (fun z h => ?_) hg
    rcases h with h | h | h
    · rw [n1] at h; cases h
    · rw [n2] at h; cases h
    · exact he z h
  · rw [if_neg hc, partD_eq] at hp
    refine cal_back1 e l (fun y my => term_back hg _ y (Nat.le_refl _) (t2 y my) fun p mp => hp p (List.mem_cons_of_mem _ (List.mem_flatten.mpr ⟨_, List.mem_map_of_mem my, mp⟩))) (fun z h => ?_) hg
    rcases h with h | h | h
    · exact hp _ List.mem_cons_self z (.inl h)
    · exact hp _ List.mem_cons_self z (.inr h)
    · exact he z h
end
end K5
end Bf

namespace Bf
open PySem PySem.Spec PyProof.Rows L2
theorem passAtF {X : Cx} {P : Program} {w : World} (σ : L2.St) : PassesAt (CXL P w) X σ E0 := fun _ _ _ _ _ _ z => by
  obtain ⟨_, _, _, _, _, _, _, _, _, _, _, _, h⟩ := z
  exact h.elim
namespace K5
section
variable {P : Program} {w : World} {K : PySem.W.Frag} {mg : Str → Option Value} {base : Heap}
/-! ### NoNames -/
theorem scNN : FnScope ["self", "found"] ["self", "found"] (defScope sNN) := ⟨rfl, rfl, rfl, by decide +kernel, rfl, by decide +kernel, by decide +kernel⟩
theorem ok_NN {f C CF fF : Addr} {fd fdF : FuncData} {mc : Value} (F : Fun K "__init__" "NoNames.__init__" sNN f fd) (B : BaseT P w K mg base mc CF fF fdF) (ox : OexC K C) (nf : PySem.W.findIn K (.ref C) "found" = some none) :
    FnOk P w K mg base CX0 3 f fd ["self", "found"] (spInit K C) := by
  refine F.ok scNN (fun vs H Q E h => ?_) (fun cdv A outer s H vs Q E hr h => ?_)
  · obtain ⟨a, v, rfl, _⟩ := h
    rfl
  · obtain ⟨a, v, rfl, ea, q⟩ := h
    exact ⟨_, pss_cons (ps_expr (pe_clsFn B.ok hr (by rfl) B.g B.rd B.va B.kp B.bd pass0 (pa_cons (pv 0) (pa_cons pe_str pa_nil)))) (pss_one (ps_ost (pv 0) (pv 1))),
      _, rfl, a, C, _, rfl, ox, ea, _, rfl, _, rfl, a, C, rfl, ox, nf, .inl ⟨ea, fun dx n ne => q dx n ne⟩⟩
/-! ### the law, statement by statement -/
abbrev nLaw : List Str := ["_law_script", "_law_k", "_law_purse_here", "_law_turn", "_law_side_here", "_law_names", "_law_some", "_law_other", "_law_calls", "_law_kept", "_law_table", "_law_due", "_law_letters", "_law_turned", "_law_back", "_law_name_here", "_law_j"]
theorem scLaw : FnScope nLaw ["_law_script"] (defScope sLaw) := ⟨rfl, rfl, rfl, by decide +kernel, rfl, by decide +kernel, by decide +kernel⟩
abbrev bF : List Stmt := match (defBody sLaw).getD 0 (.Pass ⟨0, 0, 0, 0⟩) with | .For _ _ b _ _ => b | _ => []
abbrev bT : List Stmt := match bF.getD 1 (.Pass ⟨0, 0, 0, 0⟩) with | .For _ _ b _ _ => b | _ => []
abbrev stT (i : Nat) : Stmt := bT.getD i (.Pass ⟨0, 0, 0, 0⟩)
abbrev xLaw (P : Program) (w : World) (K : PySem.W.Frag) (mg : Str → Option Value) (base : Heap) (f : Addr) (cdv : Value) (A : Around) (outer : List Env) (s : Shared) (H : Hp) (E : XK) : Cx := cxOf CX0 P w K mg base nLaw "law" (defScope sLaw) f cdv A outer s H E
/-- what the law calls -/
structure Need (P : Program) (w : World) (K : PySem.W.Frag) (mg : Str → Option Value) (base : Heap) (cT cN fc fp ft fs fo fof fll flc fa fni fli fr frf : Addr) (dc dp dt ds do_ dof dll dlc da dni dli dr drf : FuncData) : Prop where
  DC : Df K mg "_law_cell" fc dc ["_law_script", "_law_k"]
  GC : FnOk P w K mg base CX0 1 fc dc ["_law_script", "_law_k"] (spCell K)
  DP : Df K mg "_law_purse" fp dp ["_law_cell_here"]
  GP : FnOk P w K mg base CX0 1 fp dp ["_law_cell_here"] spPurse
  DT : Df K mg "_law_take" ft dt pTake
  GT : FnOk P w K mg base CX0 1 ft dt pTake spTake
  DS : Df K mg "_law_side" fs ds pSide
  GS : FnOk P w K mg base CX0 9 fs ds pSide spSide
  DO : Df K mg "_law_once" fo do_ ["_law_names"]
  GO : FnOk P w K mg base CX0 1 fo do_ ["_law_names"] spLOnce
  Dof : Df K mg "_law_of" fof dof ["_law_purse_here", "_law_some"]
  Gof : FnOk P w K mg base CX0 2 fof dof ["_law_purse_here", "_law_some"] (spOf K)
  Dll : Df K mg "_law_lists_right" fll dll ["_law_side_here"]
  Gll : FnG P w K mg base CX0 11 fll dll ["_law_side_here"] spLL
  Dlc : Df K mg "_law_side_called" flc dlc pLSC
  Glc : FnOk P w K mg base CX0 13 flc dlc pLSC spLSC
  Da : Df K mg "_law_asked" fa da pLAsked
  Ga : FnOk P w K mg base CX0 23 fa da pLAsked spLAsked
  Dni : Df K mg "names_in" fni dni ["right"]
  Gni : FnOk P w K mg base (CXL P w) 10 fni dni ["right"] (spNames cT namesD)
  Dli : Df K mg "lasts_in" fli dli ["right"]
  Gli : FnOk P w K mg base (CXL P w) 10 fli dli ["right"] (spNames cT lastsD)
  Dr : Ren K mg fr dr
  Gr : FnOk P w K mg base (CXL P w) 22 fr dr pRen (spRen cT cN)
  Drf : Df K mg "_law_refused_right" frf drf pRef
  Grf : FnG P w K mg base CX0 24 frf drf pRef spRef
  mr : mg "range" = none
  ml : mg "len" = none
  mx : mg "max" = none
  mn : mg "min" = none
  md : mg "dict" = none
  mp : mg "repr" = none
  me : mg "enumerate" = none
end
end K5
end Bf

namespace Bf
open PySem PySem.Spec PyProof.Rows L2
namespace K5
/-! ### dicts of texts -/
def dS (ps : List (Str × Str)) : List (Key × V) := ps.map fun p => (.inr p.1, .str p.2)
def dDS (ps : List (Str × Str)) : List (PyData × PyData) := ps.map fun p => (.str p.1, .str p.2)
theorem dS_dic : ∀ ps : List (Str × Str), DicAll (dS ps) (dDS ps)
  | [] => .nil
  | p :: r => .cons (k := .inr p.1) (.str p.2) (dS_dic r)
theorem dS_nd {ps : List (Str × Str)} (h : (ps.map (·.1)).Nodup) : ((dS ps).map (·.1)).Nodup := by
  have e : (dS ps).map (·.1) = (ps.map (·.1)).map (Sum.inr : Str → Key) := by
    unfold dS
    rw [List.map_map, List.map_map]
    rfl
  rw [e]
  exact List.Pairwise.map _ (fun a b ne e => ne (Sum.inr.inj e)) h
theorem dS_flat {H : Hp} {a : Addr} {ps : List (Str × Str)} (ha : H a = some (.dK (dS ps))) (hs : ∀ p ∈ ps, p.1.length ≤ 1000 ∧ p.2.length ≤ 1000) (hl : ps.length ≤ 1000) (hn : (ps.map (·.1)).Nodup) : FlatD H (.ref a) a (dS ps) (dDS ps) :=
  ⟨rfl, ha, dS_dic ps, fun q m => by
    obtain ⟨p, mp, rfl⟩ := List.mem_map.mp m
    obtain ⟨h1, h2⟩ := hs p mp
    exact ⟨decide_eq_true h1, decide_eq_true h2⟩, by rw [dS, List.length_map]; exact hl, dS_nd hn⟩
theorem dS_str {H : Hp} {a : Addr} {ps : List (Str × Str)} (ha : H a = some (.dK (dS ps))) : StrD H a (dS ps) := ⟨ha, fun q m => by
  obtain ⟨p, mp, rfl⟩ := List.mem_map.mp m
  exact ⟨_, rfl⟩⟩
theorem dS_good {g : Str → Bool} {G : PyData → Bool} (e : ∀ z, G (.str z) = g z) {ps : List (Str × Str)} (h : ∀ p ∈ ps, g p.1 = true ∧ g p.2 = true) : dictG G (dDS ps) = true := by
  unfold dictG
  rw [List.all_eq_true]
  intro q m
  obtain ⟨p, mp, rfl⟩ := List.mem_map.mp m
  obtain ⟨h1, h2⟩ := h p mp
  show (G (.str p.1) && G (.str p.2)) = true
  rw [e, e, h1, h2]
  rfl
theorem dF_in {z y : Str} : ∀ {ps : List (Str × Str)}, (z, y) ∈ ps → (ps.map (·.1)).Nodup → dF (dS ps) z = y
  | (a, b) :: r, m, n => by
    rw [List.map_cons, List.nodup_cons] at n
    unfold dF dS
    rw [List.map_cons]
    by_cases e : a = z
    · subst e
      have : b = y := by
        rcases List.mem_cons.mp m with h | h
        · exact (Prod.mk.inj h).2.symm
        · exact absurd (List.mem_map.mpr ⟨_, h, rfl⟩) n.1
      subst this
      unfold valV
      rw [List.find?_cons_of_pos (by simp)]
      rfl
    · have m' : (z, y) ∈ r := by
        rcases List.mem_cons.mp m with h | h
        · exact absurd (Prod.mk.inj h).1.symm e
        · exact h
      have ih := dF_in m' n.2
      unfold dF dS at ih
      unfold valV at ih ⊢
      rw [List.find?_cons_of_neg (by simpa using e)]
      exact ih
theorem dF_out {z : Str} {ps : List (Str × Str)} (h : ∀ p ∈ ps, p.1 ≠ z) : dF (dS ps) z = z := by
  unfold dF
  cases e : valV (dS ps) (.inr z) with
  | none => rfl
  | some v =>
    obtain ⟨q, m, e1, _⟩ := valV_mem e
    obtain ⟨p, mp, rfl⟩ := List.mem_map.mp m
    exact absurd (Sum.inr.inj e1) (h p mp)
/-- a dict made of pairs whose keys are unlike -/
theorem merge_dS : ∀ {bs as : List (Str × Str)}, ((as ++ bs).map (·.1)).Nodup → mergeK (dS as) (dS bs) = dS (as ++ bs)
  | [], as, _ => by rw [List.append_nil]; rfl
  | (k, v) :: bs, as, n => by
    have hk : ∀ p ∈ as, p.1 ≠ k := fun p m e => by
      rw [List.map_append, List.map_cons] at n
      have := (List.nodup_append.mp n).2.2 p.1 (List.mem_map.mpr ⟨p, m, rfl⟩) k List.mem_cons_self
      exact this e
    show mergeK (putK (dS as) (.inr k) (.str v)) (dS bs) = _
    have e : putK (dS as) (.inr k) (.str v) = dS (as ++ [(k, v)]) := by
      unfold putK
      rw [if_neg]
      · unfold dS; rw [List.map_append]; rfl
      · intro h
        obtain ⟨q, m, e⟩ := List.any_eq_true.mp h
        obtain ⟨p, mp, rfl⟩ := List.mem_map.mp m
        exact hk p mp (Sum.inr.inj (of_decide_eq_true e))
    rw [e, merge_dS (by simpa using n)]
    simp
theorem merge_dS0 {bs : List (Str × Str)} (n : (bs.map (·.1)).Nodup) : mergeK [] (dS bs) = dS bs := merge_dS (as := []) n
end K5
end Bf

namespace Bf
open PySem PySem.Spec PyProof.Rows L2
namespace K5
theorem onceS_nodup (l : List Str) : (onceS l).Nodup := by
  have key : ∀ (l acc : List Str), acc.Nodup → (l.foldl addS acc).Nodup := by
    intro l
    induction l with
    | nil => exact fun _ h => h
    | cons z r ih =>
      intro acc h
      refine ih _ ?_
      unfold addS
      split
      · exact h
      · rename_i n
        rw [List.nodup_append]
        exact ⟨h, by simp, fun a ha b hb e => n (by rw [List.mem_singleton.mp hb] at e; rw [← e]; exact ha)⟩
  exact key l [] List.nodup_nil
/-- the words are of two letters at least -/
theorem word_len {c : Str} {ss : List Str} (e : lk c FM = some ss) : 2 ≤ c.cps.size := by
  have all : ∀ p ∈ FM, 2 ≤ p.1.cps.size := by decide +kernel
  exact all (c, ss) (lk_mem e)
theorem one_sl {s : Str} {d : PyData} : slA (oneD s d) ≤ sl d + 2 := by
  unfold oneD
  split
  · rw [slA_cons, slA_nil]; omega
  · split
    · split
      · rw [sl_tup]; omega
      · rw [slA_nil]; omega
    · rw [slA_nil]; omega
theorem zw_sl : ∀ {ss : List Str} {rest : List PyData}, slA ((List.zipWith oneD ss rest).flatten) ≤ slA rest
  | [], _ => by rw [List.zipWith_nil_left, List.flatten_nil, slA_nil]; omega
  | _ :: _, [] => by rw [List.zipWith_nil_right, List.flatten_nil, slA_nil]; omega
  | s :: ss, d :: rest => by
    rw [List.zipWith_cons_cons, List.flatten_cons, slA_app, slA_cons]
    have h1 := one_sl (s := s) (d := d)
    have h2 := zw_sl (ss := ss) (rest := rest)
    omega
theorem within_sl {d : PyData} (h : formedD d = true) : slA (withinD d) + 28 ≤ sl d := by
  obtain ⟨c, rest, ss, rfl, e, _⟩ := formed_inv h
  rw [within_eq e, sl_tup, slA_cons]
  have h1 := zw_sl (ss := ss) (rest := rest)
  have h2 := word_len e
  have h3 : sl (.str c) = 10 * c.cps.size + 3 := rfl
  omega
theorem sum_parts {l : List PyData} (h : ∀ e ∈ l, 28 * (partD e).length ≤ sl e) : 28 * ((l.map partD).flatten).length ≤ slA l := by
  induction l with
  | nil => rw [slA_nil]; simp
  | cons d r ih =>
    rw [List.map_cons, List.flatten_cons, List.length_append, slA_cons]
    have h1 := h d List.mem_cons_self
    have h2 := ih fun e m => h e (List.mem_cons_of_mem _ m)
    omega
theorem part_sl : ∀ (n : Nat) (d : PyData), sz d ≤ n → termD d = true → 28 * (partD d).length ≤ sl d
  | 0, d, h, _ => absurd h (by have := sz_pos d; omega)
  | n + 1, d, h, t => by
    rw [termD_eq] at t
    obtain ⟨t1, t2⟩ := Bool.and_eq_true_iff.mp t
    obtain ⟨fo, _⟩ := Bool.and_eq_true_iff.mp t1
    rw [List.all_eq_true] at t2
    have ws := within_sz d
    have w := within_sl fo
    have s := sum_parts fun e m => part_sl n e (by have := szA_mem m; omega) (t2 e m)
    rw [partD_eq, List.length_cons]
    omega
theorem parts_sl {d : PyData} (h : rightD d = true) : 28 * (partsD d).length ≤ sl d := by
  unfold rightD at h
  obtain ⟨fo, t2⟩ := Bool.and_eq_true_iff.mp h
  rw [List.all_eq_true] at t2
  have w := within_sl fo
  have s := sum_parts fun e m => part_sl _ e (Nat.le_refl _) (t2 e m)
  unfold partsD
  split
  · omega
  · rw [partD_eq, List.length_cons]
    omega
theorem names_le (d : PyData) : (namesD d).length ≤ (partsD d).length + 1 ∧ (lastsD d).length ≤ (partsD d).length := by
  constructor
  · have h1 := flat_len nmP_len (partsD d)
    have h2 : (evD d).length ≤ 1 := by
      unfold evD
      split
      · split
        · exact strAt_len _ _
        · simp
      · simp
    unfold namesD
    rw [List.length_append]
    omega
  · refine flat_len (fun e => ?_) (partsD d)
    unfold lsP
    split
    · split
      · exact strAt_len _ _
      · simp
    · simp
/-! all names are good names -/
theorem strAt_mem {l : List PyData} {i : Nat} {z : Str} (h : z ∈ strAt l i) : l[i]? = some (.str z) := by
  unfold strAt at h
  split at h
  · rename_i y e
    rw [List.mem_singleton.mp h, e]
  · cases h
theorem fits_at {rest : List PyData} {ss : List Str} (hf : (List.zipWith fitsD ss rest).all id = true) {i : Nat} {s : Str} {x : PyData} (h1 : ss[i]? = some s) (h2 : rest[i]? = some x) : fitsD s x = true := by
  rw [List.all_eq_true] at hf
  exact hf _ (List.mem_of_getElem? (zw_get fitsD h1 h2))
theorem nm_ok {d : PyData} (h : formedD d = true) {z : Str} (m : z ∈ nmP d ∨ z ∈ lsP d) : nameS z = true := by
  obtain ⟨c, rest, ss, rfl, e, _, hf, _⟩ := formed_inv h
  have at0 : ss[0]? = some ("name" : Str) → z ∈ strAt rest 0 → nameS z = true := fun h0 hz => fits_at hf h0 (strAt_mem hz)
  have at1 : ss[1]? = some ("name" : Str) → z ∈ strAt rest 1 → nameS z = true := fun h0 hz => fits_at hf h0 (strAt_mem hz)
  have get : ∀ (w : Str) (l : List Str), lk w FM = some l → c = w → ss = l := fun w l h1 h2 => by
    subst h2
    rw [e] at h1
    exact Option.some.inj h1
  rcases m with m | m
  · rw [nmP_tup] at m
    split at m
    · rename_i hc
      rcases Bool.or_eq_true_iff.mp hc with hc | hc
      · have := get "name" ["name"] (by decide +kernel) (V.str.inj (of_decide_eq_true hc))
        subst this
        exact at0 rfl m
      · have := get "merge" ["name", "term", "term"] (by decide +kernel) (V.str.inj (of_decide_eq_true hc))
        subst this
        exact at0 rfl m
    · split at m
      · rename_i hc
        have := get "when" ["term", "name", "truth"] (by decide +kernel) (V.str.inj (of_decide_eq_true hc))
        subst this
        exact at1 rfl m
      · cases m
  · rw [lsP_tup] at m
    split at m
    · rename_i hc
      have := get "last" ["name"] (by decide +kernel) (V.str.inj (of_decide_eq_true hc))
      subst this
      exact at0 rfl m
    · cases m
theorem part_formed : ∀ (n : Nat) (d : PyData), sz d ≤ n → termD d = true → ∀ p ∈ partD d, formedD p = true
  | 0, d, h, _ => absurd h (by have := sz_pos d; omega)
  | n + 1, d, h, t => by
    rw [termD_eq] at t
    obtain ⟨t1, t2⟩ := Bool.and_eq_true_iff.mp t
    obtain ⟨fo, _⟩ := Bool.and_eq_true_iff.mp t1
    rw [List.all_eq_true] at t2
    have ws := within_sz d
    intro p m
    rw [partD_eq] at m
    rcases List.mem_cons.mp m with rfl | m
    · exact fo
    · obtain ⟨l, ml, mp⟩ := List.mem_flatten.mp m
      obtain ⟨e, me, rfl⟩ := List.mem_map.mp ml
      exact part_formed n e (by have := szA_mem me; omega) (t2 e me) p mp
theorem names_ok {d : PyData} (h : rightD d = true) {z : Str} (m : z ∈ namesD d ∨ z ∈ lastsD d) : nameS z = true := by
  have h0 := h
  unfold rightD at h
  obtain ⟨fo, t2⟩ := Bool.and_eq_true_iff.mp h
  rw [List.all_eq_true] at t2
  have hp : ∀ p ∈ partsD d, formedD p = true := fun p mp => by
    unfold partsD at mp
    split at mp
    · obtain ⟨l, ml, mp⟩ := List.mem_flatten.mp mp
      obtain ⟨e, me, rfl⟩ := List.mem_map.mp ml
      exact part_formed _ e (Nat.le_refl _) (t2 e me) p mp
    · rw [partD_eq] at mp
      rcases List.mem_cons.mp mp with rfl | mp
      · exact fo
      · obtain ⟨l, ml, mp⟩ := List.mem_flatten.mp mp
        obtain ⟨e, me, rfl⟩ := List.mem_map.mp ml
        exact part_formed _ e (Nat.le_refl _) (t2 e me) p mp
  rcases m with m | m
  · unfold namesD at m
    rcases List.mem_append.mp m with m | m
    · obtain ⟨l, ml, mz⟩ := List.mem_flatten.mp m
      obtain ⟨p, mp, rfl⟩ := List.mem_map.mp ml
      exact nm_ok (hp p mp) (.inl mz)
    · obtain ⟨c, rest, ss, rfl, e, _, hf, _⟩ := formed_inv fo
      unfold evD at m
      split at m
      · rename_i hc
        obtain ⟨_, ev⟩ := ev_inv fo hc
        have sm := strAt_mem (show z ∈ strAt rest (rest.length - 1) from m)
        rcases ev with ev | ⟨y, ev, hy⟩
        · rw [ev] at sm; cases sm
        · rw [ev] at sm; cases sm; exact hy
      · cases m
  · obtain ⟨l, ml, mz⟩ := List.mem_flatten.mp m
    obtain ⟨p, mp, rfl⟩ := List.mem_map.mp ml
    exact nm_ok (hp p mp) (.inr mz)
end K5
end Bf

namespace Bf
open PySem PySem.Spec PyProof.Rows L2
namespace K5
section
variable {P : Program} {w : World} {K : PySem.W.Frag} {mg : Str → Option Value} {base : Heap} {cT cN fc fp ft fs fo fof fll flc fa fni fli fr frf : Addr} {dc dp dt ds do_ dof dll dlc da dni dli dr drf : FuncData}
/-! ### the law's statements, one by one -/
/-- what is refused -/
theorem law_13 (N : Need P w K mg base cT cN fc fp ft fs fo fof fll flc fa fni fli fr frf dc dp dt ds do_ dof dll dlc da dni dli dr drf) {f : Addr} {cdv : Value} {A : Around} {outer : List Env} {s : Shared} {H0 : Hp} {E : XK}
    (hA' : (A.deeper (envOfC "law" (defScope sLaw) s.heap.objs.size f cdv)).guards = some []) (hr : Room 24 (A.deeper (envOfC "law" (defScope sLaw) s.heap.objs.size f cdv))) :
    ∃ t, PS (xLaw P w K mg base f cdv A outer s H0 E) (stT 13) t ∧ ∀ (D : Ends) (G : Hp) (σ : L2.St) (p : Addr) (n : Int) (x : V) (d : PyData) (P0 : Addr → Prop), σ[2]? = some (some (.ref p)) → σ[4]? = some (some x) →
      Purse G p n → n ≤ 99000 → ¬ P0 p → Sh G P0 true x d → fit 6 10 d → sl d ≤ 77000 → rightD d = true → (∀ G', Kp (· ≠ p) G G' → Purse G' p (n + 3) → D.nx σ G') → t D σ G := by
  have hr24 := hr.mono (by decide : 24 ≤ 24)
  refine ⟨_, (ps_if (pt_not (pt_val (pe_callG N.Grf hA' hr24 (by rfl) N.Drf.at_ N.Drf.kp N.Drf.bd pass0 (pa_cons (pv 2) (pa_cons (pv 4) pa_nil))))) (pss_one (ps_ret pe_bl)) pss_nil), ?_⟩
  intro D G σ p n x d P0 h2 h4 pu hn np sh ft' hl rd q
  refine ⟨_, h2, _, h4, p, n, x, d, P0, rfl, pu, hn, np, sh, ft', hl, rd, fun G' k pu' => ⟨_, rfl, iteF (q G' k pu')⟩⟩
/-- three things are shown as ahead -/
theorem law_12 (N : Need P w K mg base cT cN fc fp ft fs fo fof fll flc fa fni fli fr frf dc dp dt ds do_ dof dll dlc da dni dli dr drf) {f : Addr} {cdv : Value} {A : Around} {outer : List Env} {s : Shared} {H0 : Hp} {E : XK}
    (hA' : (A.deeper (envOfC "law" (defScope sLaw) s.heap.objs.size f cdv)).guards = some []) (hr : Room 24 (A.deeper (envOfC "law" (defScope sLaw) s.heap.objs.size f cdv))) :
    ∃ t, PS (xLaw P w K mg base f cdv A outer s H0 E) (stT 12) t ∧ ∀ (D : Ends) (G : Hp) (σ : L2.St) (x y z : V) (d e g : PyData) (P1 : Addr → Prop), σ[4]? = some (some x) → σ[7]? = some (some y) → σ[8]? = some (some z) → σ[9]? = some (some (.str (PyData.list [d, e, g]).shown)) →
      Sd G P1 x d → Sd G P1 y e → Sd G P1 z g → Shows [d, e, g] → (∀ G', Same G G' → D.nx σ G') → t D σ G := by
  refine ⟨_, (ps_if (pt_cmpR op_ne (pe_callB (call_reprD hA' hr.units) (by rfl) N.mp (by decide +kernel) (pa_cons (pe_lstN (pa_cons (pv 4) (pa_cons (pv 7) (pa_cons (pv 8) pa_nil)))) pa_nil)) (pv 9) (nomark _)) (pss_one (ps_ret pe_bl)) pss_nil), ?_⟩
  intro D G σ x y z d e g P1 h4 h7 h8 h9 s1 s2 s3 ⟨w1, w2, w3⟩ q
  refine ⟨_, h4, _, h7, _, h8, by show 3 ≤ 1000; decide, fun L hL nL => ⟨L, _, _, _, rfl, upd_same, .cons (Sd.same (same_new hL) s1) (.cons (Sd.same (same_new hL) s2) (.cons (Sd.same (same_new hL) s3) .nil)), w1, w2, w3, _, h9, rfl, _, rfl, iteNS rfl (q _ (same_new hL))⟩⟩
theorem law_6 (N : Need P w K mg base cT cN fc fp ft fs fo fof fll flc fa fni fli fr frf dc dp dt ds do_ dof dll dlc da dni dli dr drf) {f : Addr} {cdv : Value} {A : Around} {outer : List Env} {s : Shared} {H0 : Hp} {E : XK}
    (hA' : (A.deeper (envOfC "law" (defScope sLaw) s.heap.objs.size f cdv)).guards = some []) (hr : Room 24 (A.deeper (envOfC "law" (defScope sLaw) s.heap.objs.size f cdv))) :
    ∃ t, PS (xLaw P w K mg base f cdv A outer s H0 E) (stT 6) t ∧ ∀ (D : Ends) (G : Hp) (σ : L2.St) (x y z : V) (d e g : PyData) (P1 : Addr → Prop), σ[4]? = some (some x) → σ[7]? = some (some y) → σ[8]? = some (some z) →
      Sd G P1 x d → Sd G P1 y e → Sd G P1 z g → Shows [d, e, g] → (∀ G', Same G G' → D.nx (σ.set 9 (some (.str (PyData.list [d, e, g]).shown))) G') → t D σ G := by
  refine ⟨_, (ps_set (i := 9) scLaw.nd rfl (Or.inl rfl) (pe_callB (call_reprD hA' hr.units) (by rfl) N.mp (by decide +kernel) (pa_cons (pe_lstN (pa_cons (pv 4) (pa_cons (pv 7) (pa_cons (pv 8) pa_nil)))) pa_nil))), ?_⟩
  intro D G σ x y z d e g P1 h4 h7 h8 s1 s2 s3 ⟨w1, w2, w3⟩ q
  exact ⟨_, h4, _, h7, _, h8, by show 3 ≤ 1000; decide, fun L hL nL => ⟨L, _, _, _, rfl, upd_same, .cons (Sd.same (same_new hL) s1) (.cons (Sd.same (same_new hL) s2) (.cons (Sd.same (same_new hL) s3) .nil)), w1, w2, w3, q _ (same_new hL)⟩⟩
theorem law_1 (N : Need P w K mg base cT cN fc fp ft fs fo fof fll flc fa fni fli fr frf dc dp dt ds do_ dof dll dlc da dni dli dr drf) {f : Addr} {cdv : Value} {A : Around} {outer : List Env} {s : Shared} {H0 : Hp} {E : XK}
    (hA' : (A.deeper (envOfC "law" (defScope sLaw) s.heap.objs.size f cdv)).guards = some []) (hr : Room 24 (A.deeper (envOfC "law" (defScope sLaw) s.heap.objs.size f cdv))) :
    ∃ t, PS (xLaw P w K mg base f cdv A outer s H0 E) (stT 1) t ∧ ∀ (D : Ends) (G : Hp) (σ : L2.St) (x : V) (d : PyData) (P0 : Addr → Prop), σ[4]? = some (some x) →
      Sh G P0 true x d → fit 6 10 d → sl d ≤ 77000 → rightD d = true → (∀ G', Same G G' → D.nx σ G') → t D σ G := by
  have hr11 := hr.mono (by decide : 11 ≤ 24)
  refine ⟨_, (ps_if (pt_not (pt_val (pe_callG N.Gll hA' hr11 (by rfl) N.Dll.at_ N.Dll.kp N.Dll.bd pass0 (pa_cons (pv 4) pa_nil)))) (pss_one (ps_ret pe_bl)) pss_nil), ?_⟩
  intro D G σ x d P0 h4 sh ft' hl rd q
  exact ⟨_, h4, x, d, P0, rfl, sh, ft', hl, rd, fun G' s' => ⟨_, rfl, iteF (q G' s')⟩⟩
/-- all names, each once -/
theorem law_2 (N : Need P w K mg base cT cN fc fp ft fs fo fof fll flc fa fni fli fr frf dc dp dt ds do_ dof dll dlc da dni dli dr drf) {f : Addr} {cdv : Value} {A : Around} {outer : List Env} {s : Shared} {H0 : Hp} {E : XK}
    (hA' : (A.deeper (envOfC "law" (defScope sLaw) s.heap.objs.size f cdv)).guards = some []) (hr : Room 24 (A.deeper (envOfC "law" (defScope sLaw) s.heap.objs.size f cdv))) :
    ∃ t, PS (xLaw P w K mg base f cdv A outer s H0 E) (stT 2) t ∧ ∀ (D : Ends) (G : Hp) (σ : L2.St) (x : V) (d : PyData) (P0 : Addr → Prop), σ[4]? = some (some x) →
      Sh G P0 true x d → fit 6 10 d → sl d ≤ 77000 → rightD d = true → (∀ a G', Same G G' → G a = none → G' a = some (.lst ((onceS (onceS (namesD d) ++ onceS (lastsD d))).map V.str)) → D.nx (σ.set 5 (some (.ref a))) G') → t D σ G := by
  have hr1 := hr.mono (by decide : 1 ≤ 24)
  have hr10 := hr.mono (by decide : 10 ≤ 24)
  refine ⟨_, (ps_set (i := 5) scLaw.nd rfl (Or.inl rfl) (pe_call N.GO hr1 (by rfl) N.DO.at_ N.DO.kp N.DO.bd .nil pass0 (pa_cons (pe_op op_catN (pe_call N.Gni hr10 (by rfl) N.Dni.at_ N.Dni.kp N.Dni.bd .nil passF (pa_cons (pv 4) pa_nil)) (pe_call N.Gli hr10 (by rfl) N.Dli.at_ N.Dli.kp N.Dli.bd .nil passF (pa_cons (pv 4) pa_nil))) pa_nil))), ?_⟩
  intro D G σ x d P0 h4 sh ft' hl rd q
  have da := sh_da (by decide) d x ft' sh
  have hz : sz d ≤ 900000 := by have := sz_sl d; omega
  have b := parts_sl rd
  obtain ⟨b1, b2⟩ := names_le d
  have c1 := onceS_len (namesD d)
  have c2 := onceS_len (lastsD d)
  refine ⟨_, h4, x, d, G, rfl, Same.refl _, da, hz, .inr ⟨rd, fun p1 G1 s1 f1 g1 => ?_⟩⟩
  refine ⟨_, h4, x, d, G, rfl, s1, da, hz, .inr ⟨rd, fun p2 G2 s2 f2 g2 => ?_⟩⟩
  refine ⟨p1, p2, _, _, rfl, rfl, s2 _ _ g1, g2, by rw [List.length_map, List.length_map, sizeLine_eq]; omega, fun p3 h3 _ => ?_⟩
  refine ⟨p3, onceS (namesD d) ++ onceS (lastsD d), rfl, by rw [upd_same, List.map_append], by rw [List.length_append]; omega, fun a G' s' fa ga => q a G' (((s1.trans s2).trans (same_new h3)).trans s') (((s1.trans s2).trans (same_new h3)).free fa) ga⟩
end
end K5
end Bf

namespace Bf
open PySem PySem.Spec PyProof.Rows L2
namespace K5
section
variable {P : Program} {w : World} {K : PySem.W.Frag} {mg : Str → Option Value} {base : Heap} {cT cN fc fp ft fs fo fof fll flc fa fni fli fr frf : Addr} {dc dp dt ds do_ dof dll dlc da dni dli dr drf : FuncData}
theorem cut_take (xs : List V) (k : Nat) : cutV xs none (some (k : Int)) = xs.take k := by
  unfold cutV
  rw [HT.sIx_none, HT.sIx_nat, List.drop_zero, Nat.sub_zero]
  by_cases h : k ≤ xs.length
  · rw [Nat.min_eq_left h]
  · rw [Nat.min_eq_right (by omega), List.take_length, List.take_of_length_le (by omega)]
/-- some of the names, forty at most -/
theorem law_3 (N : Need P w K mg base cT cN fc fp ft fs fo fof fll flc fa fni fli fr frf dc dp dt ds do_ dof dll dlc da dni dli dr drf) {f : Addr} {cdv : Value} {A : Around} {outer : List Env} {s : Shared} {H0 : Hp} {E : XK}
    (hA' : (A.deeper (envOfC "law" (defScope sLaw) s.heap.objs.size f cdv)).guards = some []) (hr : Room 24 (A.deeper (envOfC "law" (defScope sLaw) s.heap.objs.size f cdv))) :
    ∃ t, PS (xLaw P w K mg base f cdv A outer s H0 E) (stT 3) t ∧ ∀ (D : Ends) (G : Hp) (a0 a1 a3 a4 a6 a7 a8 a9 a10 a11 a12 a13 a14 a15 a16 : Option V) (p aN : Addr) (n : Int) (ns : List Str), Purse G p n → n + (ns.length : Int) ≤ 100000 → G aN = some (.lst (ns.map V.str)) → aN ≠ p →
      (∀ (L : Addr) (G' : Hp) (l : List Str), l.Sublist ns → l.length ≤ 40 → G' L = some (.lst (l.map V.str)) → L ≠ p → Kp (· ≠ p) G G' → Purse G' p (n + (ns.length : Int)) → D.nx [a0, a1, some (.ref p), a3, a4, some (.ref aN), some (.ref L), a7, a8, a9, a10, a11, a12, a13, a14, a15, a16] G') → t D [a0, a1, some (.ref p), a3, a4, some (.ref aN), a6, a7, a8, a9, a10, a11, a12, a13, a14, a15, a16] G := by
  have hr1 := hr.mono (by decide : 1 ≤ 24)
  refine ⟨_, (ps_set (i := 6) scLaw.nd rfl (Or.inl rfl) (pe_slice sl_list (pe_lc (own := [("_law_name_here", 15)]) (g := gName 15) (tt := _) rfl scLaw.nd (pi_list (pv 5)) (blkOk_by (N := nLaw) (sc := defScope sLaw) (by decide +kernel)) (fun _ _ _ _ _ => pg_name (i := 15) scLaw.nd rfl (Or.inl rfl)) (fun _ _ _ _ _ => (pts_one (pt_cmpR op_gt (pe_call N.GT hr1 (by rfl) N.DT.at_ N.DT.kp N.DT.bd .nil pass0 (pa_cons (pv 2) (pa_cons pe_int pa_nil))) pe_int (nomark _)))) (fun _ _ _ _ _ => (pv 15))) po_none (po_some pe_int))), ?_⟩
  intro D G a0 a1 a3 a4 a6 a7 a8 a9 a10 a11 a12 a13 a14 a15 a16 p aN n ns pu hn gN nNp q
  obtain ⟨_, _, _, hp, _⟩ := id pu
  refine ⟨_, rfl, aN, rfl, ⟨_, SqL.of gN⟩, fun B hB => ?_⟩
  have nB : B ≠ p := fun e => by rw [e, hp] at hB; cases hB
  refine lc_list (K := K) (a := aN) (xs := ns.map V.str) (fun i G2 => Kp (· ≠ p) G G2 ∧ Purse G2 p (n + (i : Int)) ∧ ∃ l : List Str, l.Sublist (ns.take i) ∧ G2 B = some (.lst (l.map V.str)))
    ⟨kp_same (same_new hB), by simpa using pu.same (same_new hB), [], by simp, upd_same⟩ (fun i G2 _ pv => SqL.of (pv.1 _ _ nNp gN)) (fun i y G2 hy pv => ?_) fun G2 pv => ?_
  · obtain ⟨k2, pu2, l, sl_, gB⟩ := pv
    rw [List.getElem?_map] at hy
    obtain ⟨z, hz, rfl⟩ := Option.map_eq_some_iff.mp hy
    have lt := (List.getElem?_eq_some_iff.mp hz).1
    refine ⟨rfl, _, rfl, p, 3, _, rfl, pu2, by omega, by decide, by decide, fun d G3 d0 d1 pu3 eq3 => ?_⟩
    refine ⟨_, _, rfl, rfl, _, rfl, ?_⟩
    have lS : (l.map V.str).length < sizeLine := by
      have h1 := sl_.length_le
      have h2 : (ns.take i).length ≤ ns.length := by rw [List.length_take]; omega
      obtain ⟨_, _, z0, _, _, _, h0, hz0⟩ := id pu
      rw [List.length_map, sizeLine_eq]
      omega
    have tk : ns.take (i + 1) = ns.take i ++ [z] := by rw [List.take_add_one, hz]; rfl
    have ei : n + ((i + 1 : Nat) : Int) = n + (i : Int) + 1 := by omega
    by_cases hd : (0 : Int) < d
    · refine iteB (decide_eq_true hd) ⟨_, rfl, _, (eq3 B nB).trans gB, lS, fun a o na h => ?_, ?_, l ++ [z], ?_, ?_⟩
      · rw [upd_ne (ne_of_none h hB)]
        exact (eq3 a na).trans (k2 _ _ na h)
      · rw [ei]
        exact pu3.of (upd_ne nB.symm)
      · rw [tk]
        exact sl_.append (List.Sublist.refl _)
      · rw [upd_same, List.map_append]
        rfl
    · refine iteN (decide_eq_false hd) ⟨fun a o na h => (eq3 a na).trans (k2 _ _ na h), ?_, l, ?_, (eq3 B nB).trans gB⟩
      · rw [ei]
        exact pu3
      · rw [tk]
        exact sl_.trans (List.sublist_append_left _ _)
  · obtain ⟨k2, pu2, l, sl_, gB⟩ := pv
    rw [List.length_map, List.take_length] at sl_
    rw [List.length_map] at pu2
    refine ⟨40, rfl, B, _, rfl, SqL.of gB, fun L hL => ?_⟩
    have e : cutV (l.map V.str) none (some ((40 : Nat) : Int)) = (l.take 40).map V.str := by rw [cut_take, List.map_take]
    have nL : L ≠ p := fun e => by
      rw [e] at hL
      obtain ⟨_, _, _, h, _⟩ := id pu2
      rw [h] at hL
      cases hL
    refine q L _ (l.take 40) ((List.take_sublist _ _).trans sl_) (by rw [List.length_take]; omega) ?_ nL (fun a o na h => same_new hL _ _ (k2 _ _ na h)) (pu2.of (upd_ne nL.symm))
    rw [upd_same]
    exact congrArg (fun z => some (HO.lst z)) e
end
end K5
end Bf

namespace Bf
open PySem PySem.Spec PyProof.Rows L2
namespace K5
section
variable {P : Program} {w : World} {K : PySem.W.Frag} {mg : Str → Option Value} {base : Heap} {cT cN fc fp ft fs fo fof fll flc fa fni fli fr frf : Addr} {dc dp dt ds do_ dof dll dlc da dni dli dr drf : FuncData}
/-- pairs, each an own tuple -/
abbrev Prs (H : Hp) (as : List Addr) (kvs : List (Key × V)) : Prop := Paired (fun a kv => H a = some (.tup [kV kv.1, kv.2])) as kvs
theorem Prs.on {H H' : Hp} (h : ∀ a xs, H a = some (.tup xs) → H' a = some (.tup xs)) : ∀ {as : List Addr} {kvs : List (Key × V)}, Prs H as kvs → Prs H' as kvs
  | _, _, .nil => .nil
  | _, _, .cons e r => .cons (h _ _ e) (Prs.on h r)
theorem Prs.snoc {H : Hp} {a : Addr} {kv : Key × V} (h : H a = some (.tup [kV kv.1, kv.2])) : ∀ {as : List Addr} {kvs : List (Key × V)}, Prs H as kvs → Prs H (as ++ [a]) (kvs ++ [kv])
  | _, _, .nil => .cons h .nil
  | _, _, .cons e r => .cons e (Prs.snoc h r)
theorem Prs.sq {H : Hp} : ∀ {as : List Addr} {kvs : List (Key × V)}, Prs H as kvs → Paired (fun p kv => SqT K H p [kV kv.1, kv.2]) as kvs
  | _, _, .nil => .nil
  | _, _, .cons e r => .cons (SqT.of e) (Prs.sq r)
theorem Prs.len {H : Hp} : ∀ {as : List Addr} {kvs : List (Key × V)}, Prs H as kvs → as.length = kvs.length
  | _, _, .nil => rfl
  | _, _, .cons _ r => congrArg (· + 1) (Prs.len r)
/-- what some names are called -/
theorem law_4 (N : Need P w K mg base cT cN fc fp ft fs fo fof fll flc fa fni fli fr frf dc dp dt ds do_ dof dll dlc da dni dli dr drf) {f : Addr} {cdv : Value} {A : Around} {outer : List Env} {s : Shared} {H0 : Hp} {E : XK}
    (hA' : (A.deeper (envOfC "law" (defScope sLaw) s.heap.objs.size f cdv)).guards = some []) (hr : Room 24 (A.deeper (envOfC "law" (defScope sLaw) s.heap.objs.size f cdv))) :
    ∃ t, PS (xLaw P w K mg base f cdv A outer s H0 E) (stT 4) t ∧ ∀ (D : Ends) (G : Hp) (a0 a1 a3 a4 a5 a7 a8 a9 a10 a11 a12 a13 a14 a15 a16 : Option V) (p L : Addr) (n : Int) (l : List Str), Purse G p n → n ≤ 99000 → l.length ≤ 40 → l.Nodup → G L = some (.lst (l.map V.str)) → L ≠ p →
      (∀ (aO : Addr) (G' : Hp) (ps : List (Str × Str)), ps.map (·.1) = l → (∀ q ∈ ps, q.2 ∈ (["a", "b", "zz", "zzz", q.1] : List Str)) → G' aO = some (.dK (dS ps)) → G aO = none → Kp (· ≠ p) G G' → Purse G' p (n + (l.length : Int)) → D.nx [a0, a1, some (.ref p), a3, a4, a5, some (.ref L), some (.ref aO), a8, a9, a10, a11, a12, a13, a14, a15, a16] G') → t D [a0, a1, some (.ref p), a3, a4, a5, some (.ref L), a7, a8, a9, a10, a11, a12, a13, a14, a15, a16] G := by
  have hr2 := hr.mono (by decide : 2 ≤ 24)
  refine ⟨_, (ps_set (i := 7) scLaw.nd rfl (Or.inl rfl) (pe_callTy (call_dictP rfl) (by rfl) N.md (by decide +kernel) (pa_cons (pe_lc (own := [("_law_name_here", 15)]) (g := gName 15) (tt := tYes) rfl scLaw.nd (pi_list (pv 6)) (blkOk_by (N := nLaw) (sc := defScope sLaw) (by decide +kernel)) (fun _ _ _ _ _ => pg_name (i := 15) scLaw.nd rfl (Or.inl rfl)) (fun _ _ _ _ _ => pts_nil) (fun _ _ _ _ _ => (pe_tup (pa_cons (pv 15) (pa_cons (pe_call N.Gof hr2 (by rfl) N.Dof.at_ N.Dof.kp N.Dof.bd .nil pass0 (pa_cons (pv 2) (pa_cons (pe_lstN (pa_cons pe_str (pa_cons pe_str (pa_cons pe_str (pa_cons pe_str (pa_cons (pv 15) pa_nil)))))) pa_nil))) pa_nil))))) pa_nil))), ?_⟩
  intro D G a0 a1 a3 a4 a5 a7 a8 a9 a10 a11 a12 a13 a14 a15 a16 p L n l pu hn ll nd gL nLp q
  obtain ⟨_, _, _, hp, _⟩ := id pu
  refine ⟨_, rfl, L, rfl, ⟨_, SqL.of gL⟩, fun B hB => ?_⟩
  have nB : B ≠ p := fun e => by rw [e, hp] at hB; cases hB
  refine lc_list (K := K) (a := L) (xs := l.map V.str) (fun i G2 => Kp (· ≠ p) G G2 ∧ Purse G2 p (n + (i : Int)) ∧ ∃ (ps : List (Str × Str)) (as : List Addr), ps.map (·.1) = l.take i ∧ (∀ q ∈ ps, q.2 ∈ (["a", "b", "zz", "zzz", q.1] : List Str)) ∧ G2 B = some (.lst (as.map V.ref)) ∧ Prs G2 as (dS ps))
    ⟨kp_same (same_new hB), by simpa using pu.same (same_new hB), [], [], by simp, (fun _ m => nomatch m), upd_same, .nil⟩ (fun i G2 _ pv => SqL.of (pv.1 _ _ nLp gL)) (fun i y G2 hy pv => ?_) fun G2 pv => ?_
  · obtain ⟨k2, pu2, ps, as, e1, hv, gB, pr⟩ := pv
    rw [List.getElem?_map] at hy
    obtain ⟨z, hz, rfl⟩ := Option.map_eq_some_iff.mp hy
    have lt := (List.getElem?_eq_some_iff.mp hz).1
    refine ⟨rfl, _, rfl, _, rfl, _, rfl, by show 5 ≤ 1000; decide, fun L1 hL1 nL1 => ?_⟩
    have s1 := same_new (o := .lst [V.str "a", .str "b", .str "zz", .str "zzz", .str z]) hL1
    have n1 : L1 ≠ p := pu2.ne hL1
    refine ⟨p, L1, _, _, rfl, pu2.same s1, by omega, upd_same, n1, (fun e => nomatch e), by show 5 ≤ 1000; decide, fun v G3 mv k3 pu3 => ⟨by show 2 ≤ sizeLine; decide, fun T hT => ?_⟩⟩
    obtain ⟨y, rfl, my⟩ : ∃ y : Str, v = .str y ∧ y ∈ (["a", "b", "zz", "zzz", z] : List Str) := by
      simp only [List.mem_cons, List.not_mem_nil, or_false] at mv
      rcases mv with rfl | rfl | rfl | rfl | rfl <;> exact ⟨_, rfl, by simp⟩
    have gB3 := k3 _ _ nB (s1 _ _ gB)
    have gB4 := same_new (o := .tup [.str z, .str y]) hT _ _ gB3
    have nT : T ≠ B := fun e => by rw [e, gB3] at hT; cases hT
    have nTp : T ≠ p := pu3.ne hT
    have tk : l.take (i + 1) = l.take i ++ [z] := by rw [List.take_add_one, hz]; rfl
    have ei : n + ((i + 1 : Nat) : Int) = n + (i : Int) + 1 := by omega
    have la : (as.map V.ref).length < sizeLine := by
      have h1 := pr.len
      have h2 : (dS ps).length = (ps.map (·.1)).length := by unfold dS; rw [List.length_map, List.length_map]
      rw [e1, List.length_take] at h2
      rw [List.length_map, sizeLine_eq]
      omega
    refine ⟨_, gB4, la, fun a o na h => ?_, ?_, ps ++ [(z, y)], as ++ [T], ?_, fun q m => ?_, ?_, ?_⟩
    · rw [upd_ne (ne_of_none h hB)]
      exact same_new hT _ _ (k3 _ _ na (s1 _ _ (k2 _ _ na h)))
    · rw [ei]
      exact (pu3.of (upd_ne nTp.symm)).of (upd_ne nB.symm)
    · rw [tk, List.map_append, e1]
      rfl
    · rcases List.mem_append.mp m with m | m
      · exact hv q m
      · rw [List.mem_singleton.mp m]
        exact my
    · rw [upd_same, List.map_append]
      rfl
    · have e2 : dS (ps ++ [(z, y)]) = dS ps ++ [(.inr z, .str y)] := by unfold dS; rw [List.map_append]; rfl
      rw [e2]
      refine Prs.snoc ?_ (Prs.on (fun a xs h => ?_) pr)
      · rw [upd_ne nT, upd_same]
        rfl
      · have na : a ≠ p := fun e => by
          obtain ⟨_, _, _, h', _⟩ := id pu2
          rw [e, h'] at h
          cases h
        have nb : a ≠ B := fun e => by rw [e, gB] at h; cases h
        rw [upd_ne nb]
        exact same_new hT _ _ (k3 _ _ na (s1 _ _ h))
  · obtain ⟨k2, pu2, ps, as, e1, hv, gB, pr⟩ := pv
    rw [List.length_map, List.take_length] at e1
    rw [List.length_map] at pu2
    refine ⟨B, as, dS ps, rfl, SqL.of gB, pr.sq, fun aO hO => ?_⟩
    have nO := pu2.ne hO
    refine q aO _ ps e1 hv ?_ ?_ (fun a o na h => same_new hO _ _ (k2 _ _ na h)) (pu2.of (upd_ne nO.symm))
    · rw [upd_same, merge_dS0 (by rw [e1]; exact nd)]
    · cases e : G aO with
      | none => rfl
      | some o => rw [k2 _ _ nO e] at hO; cases hO
end
end K5
end Bf

namespace Bf
open PySem PySem.Spec PyProof.Rows L2
namespace K5
section
variable {P : Program} {w : World} {K : PySem.W.Frag} {mg : Str → Option Value} {base : Heap} {cT cN fc fp ft fs fo fof fll flc fa fni fli fr frf : Addr} {dc dp dt ds do_ dof dll dlc da dni dli dr drf : FuncData}
theorem call_node {c : Str} {rest : List PyData} (h : rightD (.tuple (.str c :: rest)) = true) (hc : callS c = true) : ∃ z r, rest = .str z :: r ∧ nodeS z = true := by
  rcases call_words hc with rfl | rfl | rfl | rfl
  · obtain ⟨z, _, _, e, n, _⟩ := inv_call h
    exact ⟨z, _, e, n⟩
  · obtain ⟨z, _, _, e, n, _⟩ := inv_map h
    exact ⟨z, _, e, n⟩
  · obtain ⟨z, _, _, _, e, n, _⟩ := inv_fold h
    exact ⟨z, _, e, n⟩
  · obtain ⟨z, _, _, e, n, _⟩ := inv_pairs h
    exact ⟨z, _, e, n⟩
/-- what a node is called -/
theorem law_5 (N : Need P w K mg base cT cN fc fp ft fs fo fof fll flc fa fni fli fr frf dc dp dt ds do_ dof dll dlc da dni dli dr drf) {f : Addr} {cdv : Value} {A : Around} {outer : List Env} {s : Shared} {H0 : Hp} {E : XK}
    (hA' : (A.deeper (envOfC "law" (defScope sLaw) s.heap.objs.size f cdv)).guards = some []) (hr : Room 24 (A.deeper (envOfC "law" (defScope sLaw) s.heap.objs.size f cdv))) :
    ∃ t, PS (xLaw P w K mg base f cdv A outer s H0 E) (stT 5) t ∧ ∀ (D : Ends) (G : Hp) (a0 a1 a2 a3 a5 a6 a7 a8 a9 a10 a11 a12 a13 a14 a15 a16 : Option V) (x : V) (d : PyData) (P0 : Addr → Prop), Sh G P0 true x d → fit 6 10 d → rightD d = true →
      (∀ (aC : Addr) (G' : Hp) (z y : Str), nodeS z = true → nodeS y = true → strOk z = true → strOk y = true → G' aC = some (.dK (dS [(z, y)])) → G aC = none → Same G G' → D.nx [a0, a1, a2, a3, some x, a5, a6, a7, some (.ref aC), a9, a10, a11, a12, a13, a14, a15, a16] G') → t D [a0, a1, a2, a3, some x, a5, a6, a7, a8, a9, a10, a11, a12, a13, a14, a15, a16] G := by
  refine ⟨_, (ps_set (i := 8) scLaw.nd rfl (Or.inl rfl) (pe_ifExp (pt_cmpR op_in_seq (pe_ix ix_tup (pv 4) pe_int (fun _ _ => rfl)) (pe_tup (pa_cons pe_str (pa_cons pe_str (pa_cons pe_str (pa_cons pe_str pa_nil))))) (by rfl)) (pe_callTy (call_dictP rfl) (by rfl) N.md (by decide +kernel) (pa_cons (pe_lstN (pa_cons (pe_tup (pa_cons (pe_ix ix_tup (pv 4) pe_int (fun _ _ => rfl)) (pa_cons pe_str pa_nil))) pa_nil)) pa_nil)) (pe_disp (pps_cons pe_str pe_str pps_nil) rfl rfl (by simp) (by decide)))), ?_⟩
  intro D G a0 a1 a2 a3 a5 a6 a7 a8 a9 a10 a11 a12 a13 a14 a15 a16 x d P0 sh ft' rd q
  have da := sh_da (by decide) d x ft' sh
  obtain ⟨fo, _⟩ := right_inv rd
  obtain ⟨c, rest, ss, ed, el, hlr, hf, _⟩ := formed_inv fo
  obtain ⟨a, vs, rfl, ha, rv, lv⟩ := Da_at (by rw [ed] at da; exact da)
  refine ⟨_, rfl, a, _, ((0 : Nat) : Int), _, rfl, rfl, SqT.of ha, atI_nat rfl, by show 4 ≤ sizeLine; decide, fun p1 hp1 => ⟨p1, _, rfl, .inr (SqT.of upd_same), rfl, by decide +kernel, _, rfl, ?_⟩⟩
  rw [show inV (.str c) [V.str "call", V.str "map", V.str "fold", V.str "pairs"] = callS c from rfl]
  have e1 := same_new (o := .tup [V.str "call", V.str "map", V.str "fold", V.str "pairs"]) hp1
  generalize upd G p1 (.tup [V.str "call", V.str "map", V.str "fold", V.str "pairs"]) = G1 at e1
  by_cases hc : callS c = true
  · rw [hc]
    obtain ⟨z, r, rfl, nz⟩ := call_node (by rw [← ed]; exact rd) hc
    have oz : strOk z = true := by
      rw [ed] at ft'
      exact fit_str.mp ((fit_tup.mp ft').2 _ (by simp))
    cases rv with
    | cons h1 rv =>
      cases h1
      refine iteT ⟨_, rfl, a, _, ((1 : Nat) : Int), _, rfl, rfl, SqT.of (e1 _ _ ha), atI_nat rfl, by show 2 ≤ sizeLine; decide, fun T hT => ⟨by show 1 ≤ 1000; decide, fun B hB nB => ?_⟩⟩
      have e2 := same_new (o := .tup [V.str z, V.str "x.y"]) hT
      have e3 := same_new (o := .lst [V.ref T]) hB
      refine ⟨B, [T], dS [(z, "x.y")], rfl, SqL.of upd_same, .cons (SqT.of (e3 _ _ upd_same)) .nil, fun aC hC => ?_⟩
      have sA := ((e1.trans e2).trans e3)
      exact q aC _ z "x.y" nz (by decide +kernel) oz (by decide +kernel) (by rw [upd_same, merge_dS0 (by simp)]) (sA.free hC) (sA.trans (same_new hC))
  · rw [Bool.eq_false_iff.mpr hc]
    refine iteF fun aC hC => ⟨upd_same, [(.inr "a", .str "b.c")], rfl, by show 1 ≤ 15; decide, ?_⟩
    refine q aC _ "a" "b.c" (by decide +kernel) (by decide +kernel) (by decide +kernel) (by decide +kernel) (by rw [upd_same]; rfl) (e1.free hC) (e1.trans fun b o h => ?_)
    have nb : b ≠ aC := ne_of_none h hC
    rw [upd_ne nb, upd_ne nb]
    exact h
theorem law_8 (N : Need P w K mg base cT cN fc fp ft fs fo fof fll flc fa fni fli fr frf dc dp dt ds do_ dof dll dlc da dni dli dr drf) {f : Addr} {cdv : Value} {A : Around} {outer : List Env} {s : Shared} {H0 : Hp} {E : XK}
    (hA' : (A.deeper (envOfC "law" (defScope sLaw) s.heap.objs.size f cdv)).guards = some []) (hr : Room 24 (A.deeper (envOfC "law" (defScope sLaw) s.heap.objs.size f cdv))) :
    ∃ t, PS (xLaw P w K mg base f cdv A outer s H0 E) (stT 8) t ∧ ∀ (D : Ends) (G : Hp) (σ : L2.St), D.nx (σ.set 12 (some (.str "abcdefghijklmnopqrstuvwxyz"))) G → t D σ G :=
  ⟨_, (ps_set (i := 12) scLaw.nd rfl (Or.inr rfl) pe_str), fun _ _ _ h => h⟩
end
end K5
end Bf

namespace Bf
open PySem PySem.Spec PyProof.Rows L2
namespace K5
section
variable {P : Program} {w : World} {K : PySem.W.Frag} {mg : Str → Option Value} {base : Heap} {cT cN fc fp ft fs fo fof fll flc fa fni fli fr frf : Addr} {dc dp dt ds do_ dof dll dlc da dni dli dr drf : FuncData}
/-- forty new names -/
def T40 : List Str := (["qa", "qb", "qc", "qd", "qe", "qf", "qg", "qh", "qi", "qj", "qk", "ql", "qm", "qn", "qo", "qp", "qq", "qr", "qs", "qt", "qu", "qv", "qw", "qx", "qy", "qz", "qaq", "qbq", "qcq", "qdq", "qeq", "qfq", "qgq", "qhq", "qiq", "qjq", "qkq", "qlq", "qmq", "qnq"] : List String).map Str.ofString
def ltr (j : Nat) : Nat := ("abcdefghijklmnopqrstuvwxyz" : Str).cps.toList.getD (j % 26) 0
theorem T40_at : ∀ j < 40, ("abcdefghijklmnopqrstuvwxyz" : Str).cps.toList[j % 26]? = some (ltr j) ∧ T40[j]? = some ((("q" : Str) ++ (⟨#[ltr j]⟩ : Str)) ++ (if j / 26 = 0 then Str.empty else ("q" : Str))) ∧ j / 26 ≤ 1 := by decide +kernel
theorem T40_len : ∀ j < 40, ("q" : Str).length + (⟨#[ltr j]⟩ : Str).length ≤ 3 ∧ (("q" : Str) ++ (⟨#[ltr j]⟩ : Str)).length + Str.empty.length ≤ 3 ∧ (("q" : Str) ++ (⟨#[ltr j]⟩ : Str)).length + ("q" : Str).length ≤ 3 := by decide +kernel
theorem T40_nd : T40.Nodup := by decide +kernel
theorem T40_ok : ∀ z ∈ T40, nameS z = true := by decide +kernel
theorem law_9 (N : Need P w K mg base cT cN fc fp ft fs fo fof fll flc fa fni fli fr frf dc dp dt ds do_ dof dll dlc da dni dli dr drf) {f : Addr} {cdv : Value} {A : Around} {outer : List Env} {s : Shared} {H0 : Hp} {E : XK}
    (hA' : (A.deeper (envOfC "law" (defScope sLaw) s.heap.objs.size f cdv)).guards = some []) (hr : Room 24 (A.deeper (envOfC "law" (defScope sLaw) s.heap.objs.size f cdv))) :
    ∃ t, PS (xLaw P w K mg base f cdv A outer s H0 E) (stT 9) t ∧ ∀ (D : Ends) (G : Hp) (a0 a1 a2 a3 a4 a6 a7 a8 a9 a10 a11 a13 a14 a15 a16 : Option V) (aN : Addr) (ns : List Str), G aN = some (.lst (ns.map V.str)) → ns.Nodup →
      (∀ (aT : Addr) (G' : Hp), G' aT = some (.dK (dS (List.zip (ns.take 40) T40))) → G aT = none → Same G G' → D.nx [a0, a1, a2, a3, a4, some (.ref aN), a6, a7, a8, a9, a10, a11, some (.str "abcdefghijklmnopqrstuvwxyz"), some (.ref aT), a14, a15, a16] G') → t D [a0, a1, a2, a3, a4, some (.ref aN), a6, a7, a8, a9, a10, a11, some (.str "abcdefghijklmnopqrstuvwxyz"), a13, a14, a15, a16] G := by
  refine ⟨_, (ps_set (i := 13) scLaw.nd rfl (Or.inl rfl) (pe_callTy (call_dictP rfl) (by rfl) N.md (by decide +kernel) (pa_cons (pe_lc (own := [("_law_j", 16), ("_law_name_here", 15)]) (g := gTup K 2 (gCons (gName 16) (gCons (gName 15) gNil))) (tt := tYes) rfl scLaw.nd (pi_enum (by rfl) N.me (pa_cons (pe_slice sl_list (pv 5) po_none (po_some pe_int)) pa_nil)) (blkOk_by (N := nLaw) (sc := defScope sLaw) (by decide +kernel)) (fun _ _ _ _ _ => pg_tup rfl (pgs_cons (pg_name (i := 16) scLaw.nd rfl (Or.inl rfl)) (pgs_cons (pg_name (i := 15) scLaw.nd rfl (Or.inl rfl)) pgs_nil))) (fun _ _ _ _ _ => pts_nil) (fun _ _ _ _ _ => (pe_tup (pa_cons (pv 15) (pa_cons (pe_op op_add_str (pe_op op_add_str pe_str (pe_ix ix_str (pv 12) (pe_op op_mod (pv 16) pe_int) (fun _ _ => rfl))) (pe_op op_mulS pe_str (pe_op op_fdiv (pv 16) pe_int))) pa_nil))))) pa_nil))), ?_⟩
  intro D G a0 a1 a2 a3 a4 a6 a7 a8 a9 a10 a11 a13 a14 a15 a16 aN ns gN nd q
  refine ⟨_, rfl, ?_⟩
  refine ⟨40, rfl, aN, _, rfl, SqL.of gN, fun L hL => ?_⟩
  have e : cutV (ns.map V.str) none (some ((40 : Nat) : Int)) = (ns.take 40).map V.str := by rw [cut_take, List.map_take]
  have e' : cutV (ns.map V.str) none (some (40 : Int)) = (ns.take 40).map V.str := e
  rw [e']
  have s1 := same_new (o := .lst ((ns.take 40).map V.str)) hL
  have gL := upd_same (H := G) (a := L) (o := .lst ((ns.take 40).map V.str))
  generalize upd G L (.lst ((ns.take 40).map V.str)) = G1 at s1 gL
  have ll : (ns.take 40).length ≤ 40 := by rw [List.length_take]; omega
  have nl : (ns.take 40).Nodup := nd.sublist (List.take_sublist _ _)
  generalize ns.take 40 = l at ll nl gL q
  have zf : (List.zip l T40).map (·.1) = l := List.map_fst_zip (by rw [show T40.length = 40 from by decide +kernel]; exact ll)
  refine ⟨L, _, rfl, SqL.of gL, fun B hB => ?_⟩
  refine lc_ite (K := K) (a := L) (xs := l.map V.str) (fun i G2 => Same G1 G2 ∧ ∃ as : List Addr, G2 B = some (.lst (as.map V.ref)) ∧ Prs G2 as (dS ((List.zip l T40).take i)))
    ⟨same_new hB, [], upd_same, .nil⟩ (fun i G2 _ pv => SqL.of (pv.1 _ _ gL)) (fun i y G2 T hy pv hT => ?_) fun G2 pv => ?_
  · obtain ⟨s2, as, gB, pr⟩ := pv
    rw [List.getElem?_map] at hy
    obtain ⟨z, hz, rfl⟩ := Option.map_eq_some_iff.mp hy
    have lt := (List.getElem?_eq_some_iff.mp hz).1
    obtain ⟨t1, t2, t3⟩ := T40_at i (by omega)
    obtain ⟨n1, n2, n3⟩ := T40_len i (by omega)
    have sT := same_new (o := .tup [.int (i : Nat), .str z]) hT
    refine ⟨T, _, rfl, SqT.of upd_same, rfl, _, _, rfl, _, _, rfl, rfl, rfl, _, rfl, _, rfl, _, rfl, _, _, rfl, rfl, by show (0 : Int) < 26; decide, _, _, ltr i, rfl, rfl, by decide +kernel, atI_nat (j := i % 26) t1, _, _, rfl, rfl, Nat.le_trans n1 (by decide), _, rfl, _, _, rfl, rfl, ⟨by decide, by decide⟩, ?_⟩
    have fin : ∀ w : Str, T40[i]? = some w → (2 ≤ sizeLine ∧ ∀ T2, upd G2 T (.tup [.int (i : Nat), .str z]) T2 = none → ∃ acc, upd (upd G2 T (.tup [.int (i : Nat), .str z])) T2 (.tup [.str z, .str w]) B = some (.lst acc) ∧ acc.length < sizeLine ∧ Same G1 (upd (upd (upd G2 T (.tup [.int (i : Nat), .str z])) T2 (.tup [.str z, .str w])) B (.lst (acc ++ [V.ref T2]))) ∧
        ∃ as : List Addr, upd (upd (upd G2 T (.tup [.int (i : Nat), .str z])) T2 (.tup [.str z, .str w])) B (.lst (acc ++ [V.ref T2])) B = some (.lst (as.map V.ref)) ∧ Prs (upd (upd (upd G2 T (.tup [.int (i : Nat), .str z])) T2 (.tup [.str z, .str w])) B (.lst (acc ++ [V.ref T2]))) as (dS ((List.zip l T40).take (i + 1)))) := fun w hw => by
      refine ⟨by decide, fun T2 hT2 => ?_⟩
      have s3 := same_new (o := .tup [.str z, .str w]) hT2
      have sB := s3 _ _ (sT _ _ gB)
      have nT2 : T2 ≠ B := fun e => by rw [e, sT _ _ gB] at hT2; cases hT2
      have zi : (List.zip l T40)[i]? = some (z, w) := by
        rw [List.getElem?_zip_eq_some]
        exact ⟨hz, hw⟩
      have la : (as.map V.ref).length < sizeLine := by
        have h1 := pr.len
        have h2 : (dS ((List.zip l T40).take i)).length ≤ l.length := by
          unfold dS
          rw [List.length_map, List.length_take, ← List.length_map (f := (·.1)), zf]
          omega
        rw [List.length_map, sizeLine_eq]
        omega
      refine ⟨_, sB, la, fun b o h => ?_, as ++ [T2], ?_, ?_⟩
      · rw [upd_ne (ne_of_none h hB)]
        exact s3 _ _ (sT _ _ (s2 _ _ h))
      · rw [upd_same, List.map_append]
        rfl
      · have e2 : dS ((List.zip l T40).take (i + 1)) = dS ((List.zip l T40).take i) ++ [(.inr z, .str w)] := by rw [List.take_add_one, zi]; unfold dS; rw [List.map_append]; rfl
        rw [e2]
        refine Prs.snoc ?_ (Prs.on (fun a xs h => ?_) pr)
        · rw [upd_ne nT2, upd_same]
          rfl
        · have nb : a ≠ B := fun e => by rw [e, gB] at h; cases h
          rw [upd_ne nb]
          exact s3 _ _ (sT _ _ h)
    by_cases h0 : i / 26 = 0
    · rw [if_pos h0] at t2
      refine ⟨_, _, rfl, rfl, .inl ⟨?_, ?_⟩⟩
      · show ((i / 26 : Nat) : Int) = 0
        rw [h0]; rfl
      · refine ⟨_, _, rfl, rfl, Nat.le_trans n2 (by decide), ?_⟩
        exact fin _ t2
    · have h1 : i / 26 = 1 := by omega
      rw [if_neg h0] at t2
      refine ⟨_, _, rfl, rfl, .inr ⟨?_, ?_⟩⟩
      · show ((i / 26 : Nat) : Int) = 1
        rw [h1]; rfl
      · refine ⟨_, _, rfl, rfl, Nat.le_trans n3 (by decide), ?_⟩
        exact fin _ t2
  · obtain ⟨s2, as, gB, pr⟩ := pv
    rw [List.length_map, ← (show (List.zip l T40).length = l.length by rw [← List.length_map (f := (·.1)), zf]), List.take_length] at pr
    refine ⟨B, as, _, rfl, SqL.of gB, pr.sq, fun aT hT => ?_⟩
    have sA := s1.trans s2
    exact q aT _ (by rw [upd_same, merge_dS0 (by rw [zf]; exact nl)]) (sA.free hT) (sA.trans (same_new hT))
end
end K5
end Bf

namespace Bf
open PySem PySem.Spec PyProof.Rows L2
namespace K5
section
variable {P : Program} {w : World} {K : PySem.W.Frag} {mg : Str → Option Value} {base : Heap} {cT cN fc fp ft fs fo fof fll flc fa fni fli fr frf : Addr} {dc dp dt ds do_ dof dll dlc da dni dli dr drf : FuncData}
abbrev swp (ps : List (Str × Str)) : List (Str × Str) := ps.map fun p => (p.2, p.1)
theorem law_10 (N : Need P w K mg base cT cN fc fp ft fs fo fof fll flc fa fni fli fr frf dc dp dt ds do_ dof dll dlc da dni dli dr drf) {f : Addr} {cdv : Value} {A : Around} {outer : List Env} {s : Shared} {H0 : Hp} {E : XK}
    (hA' : (A.deeper (envOfC "law" (defScope sLaw) s.heap.objs.size f cdv)).guards = some []) (hr : Room 24 (A.deeper (envOfC "law" (defScope sLaw) s.heap.objs.size f cdv))) :
    ∃ t, PS (xLaw P w K mg base f cdv A outer s H0 E) (stT 10) t ∧ ∀ (D : Ends) (G : Hp) (a0 a1 a2 a3 a4 a5 a6 a7 a8 a9 a10 a11 a12 a14 a15 a16 : Option V) (aT : Addr) (ps : List (Str × Str)), G aT = some (.dK (dS ps)) → ps.length ≤ 40 → (ps.map (·.2)).Nodup →
      (∀ (aB : Addr) (G' : Hp), G' aB = some (.dK (dS (swp ps))) → G aB = none → Same G G' → D.nx [a0, a1, a2, a3, a4, a5, a6, a7, a8, a9, a10, a11, a12, some (.ref aT), some (.ref aB), a15, a16] G') → t D [a0, a1, a2, a3, a4, a5, a6, a7, a8, a9, a10, a11, a12, some (.ref aT), a14, a15, a16] G := by
  refine ⟨_, (ps_set (i := 14) scLaw.nd rfl (Or.inl rfl) (pe_callTy (call_dictP rfl) (by rfl) N.md (by decide +kernel) (pa_cons (pe_lock (pe_lc (own := [("_law_name_here", 15), ("_law_other", 7)]) (g := gTup K 2 (gCons (gName 15) (gCons (gName 7) gNil))) (tt := tYes) rfl scLaw.nd (pi_items (pv 13)) (blkOk_by (N := nLaw) (sc := defScope sLaw) (by decide +kernel)) (fun _ _ _ _ _ => pg_tup rfl (pgs_cons (pg_name (i := 15) scLaw.nd rfl (Or.inl rfl)) (pgs_cons (pg_name (i := 7) scLaw.nd rfl (Or.inl rfl)) pgs_nil))) (fun _ _ _ _ _ => pts_nil) (fun _ _ _ _ _ => (pe_tup (pa_cons (pv 7) (pa_cons (pv 15) pa_nil)))))) pa_nil))), ?_⟩
  intro D G a0 a1 a2 a3 a4 a5 a6 a7 a8 a9 a10 a11 a12 a14 a15 a16 aT ps gT lp nd q
  refine ⟨aT, _, gT, trivial, fun od => ?_⟩
  have hF : (upd G aT (.frz od (.dK (dS ps)))) aT = some (.frz od (.dK (dS ps))) := upd_same
  refine ⟨_, rfl, aT, od, _, rfl, hF, fun B hB => ?_⟩
  have nBT : aT ≠ B := fun z => by rw [← z, upd_same] at hB; cases hB
  have hBG : G B = none := by rw [upd_ne nBT.symm] at hB; exact hB
  refine lc_it walk_items (fun i G2 => (∀ b o, b ≠ aT → G b = some o → G2 b = some o) ∧ G2 aT = some (.frz od (.dK (dS ps))) ∧ ∃ as : List Addr, G2 B = some (.lst (as.map V.ref)) ∧ Prs G2 as (dS (swp (ps.take i))))
    ⟨fun b o nb h => ?_, ?_, [], upd_same, .nil⟩ (fun i G2 _ pv => pv.2.1) (fun i y G2 G3 hi pv yv => ?_) fun G2 pv => ?_
  · rw [upd_ne (ne_of_none h hBG), upd_ne nb]
    exact h
  · rw [upd_ne nBT]
    exact hF
  · obtain ⟨kG, gA, as, gB, pr⟩ := pv
    obtain ⟨T, k', v', rfl, hT, rfl, e1, e2⟩ := yv
    have li : i < ps.length := by unfold dS at hi; rw [List.length_map] at hi; exact hi
    have ei : (dS ps)[i]? = some (.inr ps[i].1, .str ps[i].2) := by unfold dS; rw [List.getElem?_map, List.getElem?_eq_getElem li]; rfl
    dsimp only at e1 e2
    rw [ei] at e1 e2
    cases e1
    cases e2
    have sT := same_new (o := .tup [kV (.inr ps[i].1), V.str ps[i].2]) hT
    refine ⟨T, _, rfl, SqT.of upd_same, rfl, _, _, rfl, _, _, rfl, rfl, rfl, _, rfl, _, rfl, by show 2 ≤ sizeLine; decide, fun T2 hT2 => ?_⟩
    have s3 := same_new (o := .tup [V.str ps[i].2, V.str ps[i].1]) hT2
    have sB := s3 _ _ (sT _ _ gB)
    have nT2 : T2 ≠ B := fun e => by rw [e, sT _ _ gB] at hT2; cases hT2
    have la : (as.map V.ref).length < sizeLine := by
      have h1 := pr.len
      have h2 : (dS (swp (ps.take i))).length ≤ ps.length := by
        unfold dS swp
        rw [List.length_map, List.length_map, List.length_take]
        omega
      rw [List.length_map, sizeLine_eq]
      omega
    refine ⟨_, sB, la, fun b o nb h => ?_, ?_, as ++ [T2], ?_, ?_⟩
    · rw [upd_ne (ne_of_none h hBG)]
      exact s3 _ _ (sT _ _ (kG b o nb h))
    · rw [upd_ne nBT]
      exact s3 _ _ (sT _ _ gA)
    · rw [upd_same, List.map_append]
      rfl
    · have e2 : dS (swp (ps.take (i + 1))) = dS (swp (ps.take i)) ++ [(.inr ps[i].2, .str ps[i].1)] := by
        rw [List.take_add_one, List.getElem?_eq_getElem li]
        unfold dS swp
        rw [List.map_append, List.map_append]
        rfl
      rw [e2]
      refine Prs.snoc ?_ (Prs.on (fun a xs h => ?_) pr)
      · rw [upd_ne nT2, upd_same]
        rfl
      · have nb : a ≠ B := fun e => by rw [e, gB] at h; cases h
        rw [upd_ne nb]
        exact s3 _ _ (sT _ _ h)
  · obtain ⟨kG, gA, as, gB, pr⟩ := pv
    have el : (dS ps).length = ps.length := by unfold dS; rw [List.length_map]
    rw [el, List.take_length] at pr
    have nb : B ≠ aT := nBT.symm
    refine ⟨gA, B, as, dS (swp ps), rfl, SqL.of (by rw [upd_ne nb]; exact gB), (Prs.on (fun a xs h => ?_) pr).sq, fun aB hA => ?_⟩
    · have na : a ≠ aT := fun e => by rw [e, gA] at h; cases h
      rw [upd_ne na]
      exact h
    · have s2 : Same G (upd G2 aT (.dK (dS ps))) := fun b o h => by
        by_cases e : b = aT
        · subst e
          rw [upd_same, ← gT, h]
        · rw [upd_ne e]
          exact kG b o e h
      refine q aB _ ?_ (s2.free hA) (s2.trans (same_new hA))
      rw [upd_same, merge_dS0 (by rw [List.map_map]; exact nd)]
end
end K5
end Bf

namespace Bf
open PySem PySem.Spec PyProof.Rows L2
namespace K5
/-! ### how great it is when called otherwise -/
theorem nmC_sl {w k : Nat} {f : Str → Str} (hf : ∀ z, strOk z = true → (f z).cps.size ≤ 40) {d : PyData} (h : fit w k d) : sl (nmC f d) ≤ 135 * sl d := by
  cases d with
  | str z =>
    have b := hf z (fit_str.mp h)
    show 10 * (f z).cps.size + 3 ≤ 135 * (10 * z.cps.size + 3)
    omega
  | _ => exact Nat.le_mul_of_pos_left _ (by decide)
theorem slA_map {F : PyData → PyData} : ∀ {ds : List PyData}, (∀ x ∈ ds, sl (F x) ≤ 135 * sl x) → slA (ds.map F) ≤ 135 * slA ds
  | [], _ => by rw [List.map_nil, slA_nil]; omega
  | d :: r, h => by
    rw [List.map_cons, slA_cons, slA_cons]
    have h1 := h d List.mem_cons_self
    have h2 := slA_map (F := F) fun x m => h x (List.mem_cons_of_mem _ m)
    omega
theorem held_sl {w k : Nat} {F : PyData → PyData} {f g : Str → Str} (hf : ∀ z, strOk z = true → (f z).cps.size ≤ 40) (hg : ∀ z, strOk z = true → (g z).cps.size ≤ 40) (hF : ∀ k x, fit w k x → sl (F x) ≤ 135 * sl x) {s : Str} {x : PyData} (h : fit w k x) : sl (heldF F f g s x) ≤ 135 * sl x := by
  unfold heldF
  split
  · exact hF k x h
  · split
    · split
      · rename_i ds
        cases k with
        | zero => simp only [fit] at h
        | succ k =>
          obtain ⟨_, b⟩ := fit_tup.mp h
          rw [sl_tup, sl_tup]
          have := slA_map (F := F) fun y m => hF k y (b y m)
          omega
      · exact Nat.le_mul_of_pos_left _ (by decide)
    · split
      · exact nmC_sl hf h
      · split
        · exact nmC_sl hg h
        · exact Nat.le_mul_of_pos_left _ (by decide)
theorem zw_sl2 {w k : Nat} {F : PyData → PyData} {f g : Str → Str} (hf : ∀ z, strOk z = true → (f z).cps.size ≤ 40) (hg : ∀ z, strOk z = true → (g z).cps.size ≤ 40) (hF : ∀ k x, fit w k x → sl (F x) ≤ 135 * sl x) : ∀ {ss : List Str} {rest : List PyData}, (∀ x ∈ rest, fit w k x) → slA (List.zipWith (heldF F f g) ss rest) ≤ 135 * slA rest
  | [], _, _ => by rw [List.zipWith_nil_left, slA_nil]; omega
  | _ :: _, [], _ => by rw [List.zipWith_nil_right, slA_nil]; omega
  | s :: ss, x :: rest, h => by
    rw [List.zipWith_cons_cons, slA_cons, slA_cons]
    have h1 := held_sl (s := s) hf hg hF (h x List.mem_cons_self)
    have h2 := zw_sl2 hf hg hF (ss := ss) fun y m => h y (List.mem_cons_of_mem _ m)
    omega
theorem calF_sl {w : Nat} {f g : Str → Str} (hf : ∀ z, strOk z = true → (f z).cps.size ≤ 40) (hg : ∀ z, strOk z = true → (g z).cps.size ≤ 40) : ∀ (n k : Nat) (d : PyData), fit w k d → sl (calF f g n d) ≤ 135 * sl d
  | 0, _, _, _ => Nat.le_mul_of_pos_left _ (by decide)
  | n + 1, k, d, h => by
    cases d with
    | tuple ds =>
      cases ds with
      | nil => exact Nat.le_mul_of_pos_left _ (by decide)
      | cons x rest =>
        cases x with
        | str c =>
          cases e : lk c FM with
          | none => rw [calF_none e]; exact Nat.le_mul_of_pos_left _ (by decide)
          | some ss =>
            rw [calF_tup e]
            cases k with
            | zero => simp only [fit] at h
            | succ k =>
              obtain ⟨_, b⟩ := fit_tup.mp h
              rw [sl_tup, sl_tup, slA_cons, slA_cons]
              have := zw_sl2 (ss := ss) hf hg (fun k x => calF_sl hf hg n k x) fun y m => b y (List.mem_cons_of_mem _ m)
              omega
        | _ => exact Nat.le_mul_of_pos_left _ (by decide)
    | _ => exact Nat.le_mul_of_pos_left _ (by decide)
theorem cal_sl {w k : Nat} {f g : Str → Str} (hf : ∀ z, strOk z = true → (f z).cps.size ≤ 40) (hg : ∀ z, strOk z = true → (g z).cps.size ≤ 40) {d : PyData} (h : fit w k d) : sl (calD f g d) ≤ 135 * sl d := calF_sl hf hg _ k d h
theorem ok_size {z : Str} (h : strOk z = true) : z.cps.size ≤ 40 := of_decide_eq_true (Bool.and_eq_true_iff.mp h).2
theorem dF_ok {ps : List (Str × Str)} (hv : ∀ p ∈ ps, strOk p.2 = true) {z : Str} (h : strOk z = true) : strOk (dF (dS ps) z) = true := by
  unfold dF
  cases e : valV (dS ps) (.inr z) with
  | none => exact h
  | some v =>
    obtain ⟨q, m, _, e2⟩ := valV_mem e
    obtain ⟨p, mp, rfl⟩ := List.mem_map.mp m
    subst e2
    exact hv p mp
/-- the answer is shown -/
theorem told_shows {kn km : List (Str × Str)} (hn : ∀ p ∈ kn, strOk p.2 = true) (hm : ∀ p ∈ km, strOk p.2 = true) {d : PyData} (ft : fit 6 10 d) (hl : sl d ≤ 77000) : Shows [.str "told", calD (dF (dS kn)) (dF (dS km)) d] := by
  have f1 : fit 6 10 (calD (dF (dS kn)) (dF (dS km)) d) := cal_fit (fun z h => dF_ok hn h) (fun z h => dF_ok hm h) ft
  have s1 := cal_sl (w := 6) (k := 10) (f := dF (dS kn)) (g := dF (dS km)) (fun z h => ok_size (dF_ok hn h)) (fun z h => ok_size (dF_ok hm h)) ft
  obtain ⟨a, b, c⟩ := list_shows (w := 60) (k := 50) (ds := [.str "told", calD (dF (dS kn)) (dF (dS km)) d]) (fitA_cons (fit_str.mpr (by decide +kernel)) (fitA_cons (fit_mono (by decide) _ (by decide) f1) fitA_nil))
  refine ⟨a, by omega, Nat.le_trans c ?_⟩
  have e1 : sl (.str "told") ≤ 43 := slS (n := 4) (by decide)
  rw [slA_cons, slA_cons, slA_nil, sizeLine_eq]
  omega
end K5
end Bf

namespace Bf
open PySem PySem.Spec PyProof.Rows L2
namespace K5
section
variable {P : Program} {w : World} {K : PySem.W.Frag} {mg : Str → Option Value} {base : Heap} {cT cN fc fp ft fs fo fof fll flc fa fni fli fr frf : Addr} {dc dp dt ds do_ dof dll dlc da dni dli dr drf : FuncData}
/-- a dict of texts that are told of -/
structure Txs (g : Str → Bool) (H : Hp) (a : Addr) (ps : List (Str × Str)) : Prop where
  at_ : H a = some (.dK (dS ps))
  ok : ∀ p ∈ ps, strOk p.1 = true ∧ strOk p.2 = true
  gd : ∀ p ∈ ps, g p.1 = true ∧ g p.2 = true
  nd : (ps.map (·.1)).Nodup
  le : ps.length ≤ 40
theorem ok_len {z : Str} (h : strOk z = true) : z.length ≤ 1000 := by
  have := ok_size h
  show z.cps.size ≤ 1000
  omega
theorem Txs.flat {g : Str → Bool} {H : Hp} {a : Addr} {ps : List (Str × Str)} (h : Txs g H a ps) : FlatD H (.ref a) a (dS ps) (dDS ps) :=
  dS_flat h.at_ (fun p m => ⟨ok_len (h.ok p m).1, ok_len (h.ok p m).2⟩) (by have := h.le; omega) h.nd
theorem Txs.names {H : Hp} {a : Addr} {ps : List (Str × Str)} (h : Txs nameS H a ps) : IsDict nameD H (.ref a) (dS ps) := ⟨a, _, h.flat, dS_good (fun _ => rfl) h.gd⟩
theorem Txs.nodes {H : Hp} {a : Addr} {ps : List (Str × Str)} (h : Txs nodeS H a ps) : IsDict nodeD H (.ref a) (dS ps) := ⟨a, _, h.flat, dS_good (fun _ => rfl) h.gd⟩
theorem Txs.same {g : Str → Bool} {H H' : Hp} {a : Addr} {ps : List (Str × Str)} (s : Same H H') (h : Txs g H a ps) : Txs g H' a ps := ⟨s _ _ h.at_, h.ok, h.gd, h.nd, h.le⟩
abbrev b7 : List Stmt := match stT 7 with | .For _ _ b _ _ => b | _ => []
theorem tab_step {σ : L2.St} {G : Hp} {Q : VK} {y : V} {km : List (Str × Str)} (hσ : σ[10]? = some (some y)) (hy : (y = .non ∧ km = []) ∨ ∃ aM, y = .ref aM ∧ G aM = some (.dK (dS km))) (key : ∀ aM G3, Same G G3 → G3 aM = some (.dK (dS km)) → Q (.ref aM) G3) :
    tIf (tTest (tOp (fun x y H Q => y = V.non ∧ Q (V.bl (decide (x = V.non))) H) (tVar 10) (L2.tC V.non))) tDNewK (tVar 10) σ G Q := by
  refine ⟨_, hσ, rfl, _, rfl, ?_⟩
  rcases hy with ⟨rfl, rfl⟩ | ⟨aM, rfl, h⟩
  · exact iteB (decide_eq_true rfl) fun a ha => key a _ (same_new ha) upd_same
  · exact iteN (decide_eq_false (fun e => nomatch e)) ⟨_, hσ, key aM G (Same.refl _) h⟩
theorem law_7b (N : Need P w K mg base cT cN fc fp ft fs fo fof fll flc fa fni fli fr frf dc dp dt ds do_ dof dll dlc da dni dli dr drf) {f : Addr} {cdv : Value} {A : Around} {outer : List Env} {s : Shared} {H0 : Hp} {E : XK}
    (hA' : (A.deeper (envOfC "law" (defScope sLaw) s.heap.objs.size f cdv)).guards = some []) (hr : Room 24 (A.deeper (envOfC "law" (defScope sLaw) s.heap.objs.size f cdv))) :
    ∃ t, PSs (xLaw P w K mg base f cdv A outer s H0 E) b7 t ∧ ∀ (D : Ends) (G : Hp) (a0 a1 a2 a3 a5 a6 a8 a9 a11 a12 a13 a14 a15 a16 : Option V) (x y : V) (d : PyData) (P0 : Addr → Prop) (aO : Addr) (ps qs : List (Str × Str)), Sh G P0 true x d → fit 6 10 d → sl d ≤ 77000 → rightD d = true →
      Txs nameS G aO ps → ((y = .non ∧ qs = []) ∨ ∃ aM, y = .ref aM ∧ Txs nodeS G aM qs) → (∀ a11 G', Same G G' → D.nx [a0, a1, a2, a3, some x, a5, a6, some (.ref aO), a8, a9, some y, a11, a12, a13, a14, a15, a16] G') → t D [a0, a1, a2, a3, some x, a5, a6, some (.ref aO), a8, a9, some y, a11, a12, a13, a14, a15, a16] G := by
  have hr13 := hr.mono (by decide : 13 ≤ 24)
  have hr23 := hr.mono (by decide : 23 ≤ 24)
  refine ⟨_, (pss_cons (ps_set (i := 11) scLaw.nd rfl (Or.inl rfl) (pe_call N.Glc hr13 (by rfl) N.Dlc.at_ N.Dlc.kp N.Dlc.bd .nil pass0 (pa_cons (pv 4) (pa_cons (pv 7) (pa_cons (pe_ifExp (pt_cmpR op_isN (pv 10) pe_non (nomark _)) pe_dnewK (pv 10)) pa_nil)))))
 (pss_one (ps_if (pt_cmpR op_ne (pe_callB (call_reprD hA' hr.units) (by rfl) N.mp (by decide +kernel) (pa_cons (pe_call N.Ga hr23 (by rfl) N.Da.at_ N.Da.kp N.Da.bd .nil pass0 (pa_cons (pv 4) (pa_cons (pv 7) (pa_cons (pv 10) pa_nil)))) pa_nil)) (pe_callB (call_reprD hA' hr.units) (by rfl) N.mp (by decide +kernel) (pa_cons (pe_lstN (pa_cons pe_str (pa_cons (pv 11) pa_nil))) pa_nil)) (nomark _)) (pss_one (ps_ret pe_bl)) pss_nil))), ?_⟩
  intro D G a0 a1 a2 a3 a5 a6 a8 a9 a11 a12 a13 a14 a15 a16 x y d P0 aO ps qs sh ft' hl rd tO tM q
  have da := sh_da (by decide) d x ft' sh
  have hz : sz d ≤ 900000 := by have := sz_sl d; omega
  have okq : ∀ p ∈ qs, strOk p.2 = true := fun p m => by
    rcases tM with ⟨_, rfl⟩ | ⟨_, _, t⟩
    · cases m
    · exact (t.ok p m).2
  obtain ⟨w1, w2, w3⟩ := told_shows (fun p m => (tO.ok p m).2) okq ft' hl
  refine ⟨_, rfl, _, rfl, tab_step (km := qs) rfl (tM.imp_right fun ⟨a, e, t⟩ => ⟨a, e, t.at_⟩) fun aM G3 s3 gM => ?_⟩
  refine ⟨x, d, P0, aO, aM, dS ps, dS qs, rfl, ft', sh_same s3 sh, rd, dS_str (s3 _ _ tO.at_), dS_str gM, fun v G4 s4 shv => ?_⟩
  have s34 := s3.trans s4
  refine ⟨_, rfl, _, rfl, _, rfl, x, .ref aO, y, d, rfl, da.same s34, hz, .inr (.inr (.inr ⟨rd, ft', P0, dS ps, dS qs, sh_same s34 sh, (tO.same s34).names, ?_, fun v2 p G5 s5 hp np gp shv2 => ?_⟩))⟩
  · rcases tM with ⟨rfl, rfl⟩ | ⟨a, rfl, t⟩
    · exact .inl ⟨rfl, rfl⟩
    · exact .inr ⟨(fun e => nomatch e), (t.same s34).nodes⟩
  refine ⟨p, _, fun _ => True, _, rfl, gp, .cons (.sh (.str _)) (.cons (.sh (Sh.on (fun _ _ _ _ => trivial) (fun _ _ _ e => e) _ _ shv2)) .nil), w1, w2, w3, ?_⟩
  refine ⟨_, rfl, by show 2 ≤ 1000; decide, fun L hL nL => ⟨L, _, fun _ => True, _, rfl, upd_same, .cons (.sh (.str _)) (.cons (.sh (Sh.on (fun _ _ _ _ => trivial) (fun b o _ e => same_new hL _ _ (s5 _ _ e)) _ _ shv)) .nil), w1, w2, w3, rfl, _, rfl, iteNS rfl ?_⟩⟩
  exact q _ _ ((s34.trans s5).trans (same_new hL))
/-- told with each table -/
theorem law_7 (N : Need P w K mg base cT cN fc fp ft fs fo fof fll flc fa fni fli fr frf dc dp dt ds do_ dof dll dlc da dni dli dr drf) {f : Addr} {cdv : Value} {A : Around} {outer : List Env} {s : Shared} {H0 : Hp} {E : XK}
    (hA' : (A.deeper (envOfC "law" (defScope sLaw) s.heap.objs.size f cdv)).guards = some []) (hr : Room 24 (A.deeper (envOfC "law" (defScope sLaw) s.heap.objs.size f cdv))) :
    ∃ t, PS (xLaw P w K mg base f cdv A outer s H0 E) (stT 7) t ∧ ∀ (D : Ends) (G : Hp) (a0 a1 a2 a3 a5 a6 a9 a10 a11 a12 a13 a14 a15 a16 : Option V) (x : V) (d : PyData) (P0 : Addr → Prop) (aO aC : Addr) (ps qs : List (Str × Str)), Sh G P0 true x d → fit 6 10 d → sl d ≤ 77000 → rightD d = true →
      Txs nameS G aO ps → Txs nodeS G aC qs → (∀ u10 u11 G', Same G G' → D.nx [a0, a1, a2, a3, some x, a5, a6, some (.ref aO), some (.ref aC), a9, u10, u11, a12, a13, a14, a15, a16] G') → t D [a0, a1, a2, a3, some x, a5, a6, some (.ref aO), some (.ref aC), a9, a10, a11, a12, a13, a14, a15, a16] G := by
  obtain ⟨tb, hB, turn⟩ := law_7b (outer := outer) (s := s) (H0 := H0) (E := E) N hA' hr
  refine ⟨_, (ps_for PassesOwn.leaving rfl (pi_list (pe_lstN (pa_cons pe_non (pa_cons pe_dnewK (pa_cons (pv 8) pa_nil))))) (pg_name (i := 10) scLaw.nd rfl (Or.inl rfl)) hB), ?_⟩
  intro D G a0 a1 a2 a3 a5 a6 a9 a10 a11 a12 a13 a14 a15 a16 x d P0 aO aC ps qs sh ft' hl rd tO tC q
  refine fun e0 h0 => ⟨_, rfl, by show 3 ≤ 1000; decide, fun B hB nB => ?_⟩
  have s1 := same_new (o := .dK []) h0
  have g0 := upd_same (H := G) (a := e0) (o := .dK [])
  generalize upd G e0 (.dK []) = G1 at s1 g0 hB
  have s2 := same_new (o := .lst [.non, .ref e0, .ref aC]) hB
  have gB := upd_same (H := G1) (a := B) (o := .lst [.non, .ref e0, .ref aC])
  have g0' := s2 _ _ g0
  generalize upd G1 B (.lst [.non, .ref e0, .ref aC]) = G2 at s2 gB g0'
  have s12 := s1.trans s2
  refine ⟨B, rfl, ⟨_, SqL.of gB⟩, for_list (K := K) (a := B) (xs := [.non, .ref e0, .ref aC]) (fun i σ G3 => ∃ u10 u11, σ = [a0, a1, a2, a3, some x, a5, a6, some (.ref aO), some (.ref aC), a9, u10, u11, a12, a13, a14, a15, a16] ∧ Same G2 G3) ⟨_, _, rfl, Same.refl _⟩ (fun i σ G3 _ pv => ?_) (fun i y σ G3 hy pv => ?_) fun σ G3 pv => ?_⟩
  · obtain ⟨_, _, _, s⟩ := pv
    exact SqL.of (s _ _ gB)
  · obtain ⟨u10, u11, rfl, s3⟩ := pv
    have s13 := s12.trans s3
    have go : ∀ zs : List (Str × Str), ((y = .non ∧ zs = []) ∨ ∃ aM, y = .ref aM ∧ Txs nodeS G3 aM zs) → _ := fun zs h => turn { D with nx := fun σ G4 => ∃ u10 u11, σ = [a0, a1, a2, a3, some x, a5, a6, some (.ref aO), some (.ref aC), a9, u10, u11, a12, a13, a14, a15, a16] ∧ Same G2 G4, ct := fun σ G4 => ∃ u10 u11, σ = [a0, a1, a2, a3, some x, a5, a6, some (.ref aO), some (.ref aC), a9, u10, u11, a12, a13, a14, a15, a16] ∧ Same G2 G4, bk := D.nx } G3 a0 a1 a2 a3 a5 a6 (some (.ref aC)) a9 u11 a12 a13 a14 a15 a16 x y d P0 aO ps zs (sh_same s13 sh) ft' hl rd (tO.same s13) h fun a11 G4 s4 => ⟨_, _, rfl, s3.trans s4⟩
    match i, hy with
    | 0, hy => cases hy; exact go [] (.inl ⟨rfl, rfl⟩)
    | 1, hy => cases hy; exact go [] (.inr ⟨e0, rfl, s3 _ _ g0', (fun _ m => nomatch m), (fun _ m => nomatch m), List.nodup_nil, by decide⟩)
    | 2, hy => cases hy; exact go qs (.inr ⟨aC, rfl, tC.same s13⟩)
    | i + 3, hy => simp at hy
  · obtain ⟨u10, u11, rfl, s3⟩ := pv
    exact q _ _ _ (s12.trans s3)
end
end K5
end Bf

namespace Bf
open PySem PySem.Spec PyProof.Rows L2
namespace K5
/-! ### what can be compared -/
theorem sign_lt {c : Nat} (h : signB c = true) : c < 0x110000 := by
  unfold signB at h
  obtain ⟨_, h2⟩ := Bool.and_eq_true_iff.mp h
  have e : ("z" : Str).cps.toList = [122] := by decide +kernel
  rw [e] at h2
  by_cases g : 122 < c
  · have : ([122] : List Nat) < [c] := List.Lex.rel g
    rw [decide_eq_true this] at h2
    cases h2
  · omega
theorem pok_iff {z : Str} : PyData.strOk z = true ↔ ∀ c ∈ z.cps.toList, c < 0x110000 := by
  unfold PyData.strOk
  rw [Array.all_eq_true_iff_forall_mem]
  constructor
  · intro h c m
    have := h c (by simpa using m)
    simpa using this
  · intro h c m
    have := h c (by simpa using m)
    simpa using this
theorem name_pok {z : Str} (h : nameS z = true) : PyData.strOk z = true := by
  unfold nameS at h
  obtain ⟨_, h2⟩ := Bool.and_eq_true_iff.mp h
  rw [List.all_eq_true] at h2
  exact pok_iff.mpr fun c m => sign_lt (h2 c m)
theorem cat_pok {a b : Str} (h1 : PyData.strOk a = true) (h2 : PyData.strOk b = true) : PyData.strOk (a ++ b) = true := by
  rw [pok_iff] at h1 h2 ⊢
  intro c m
  have : c ∈ a.cps.toList ++ b.cps.toList := by
    rw [← Array.toList_append]
    exact m
  rcases List.mem_append.mp this with m | m
  · exact h1 c m
  · exact h2 c m
theorem node_pok {z : Str} (h : nodeS z = true) : PyData.strOk z = true := by
  unfold nodeS at h
  obtain ⟨h1, h2⟩ := Bool.and_eq_true_iff.mp h
  have l := of_decide_eq_true h1
  rw [List.all_eq_true] at h2
  have e := StrLaws.join_split z "."
  match hs : Txt.split z ".", l with
  | [], _ => rw [hs] at e; rw [← e]; decide +kernel
  | [p], _ =>
    rw [hs] at e h2
    rw [← e]
    exact name_pok (h2 p List.mem_cons_self)
  | [p, q], _ =>
    rw [hs] at e h2
    rw [← e]
    exact cat_pok (cat_pok (name_pok (h2 p List.mem_cons_self)) (by decide +kernel)) (name_pok (h2 q (List.mem_cons_of_mem _ List.mem_cons_self)))
theorem whole_inv {d : PyData} {lo hi : Int} (h : wholeD d lo hi = true) : ∃ i, d = .int i := by
  cases d with
  | int i => exact ⟨i, rfl⟩
  | _ => cases h
theorem layAll_of {ds : List PyData} (h : ∀ x ∈ ds, PyData.canLay0 x = true) : PyData.canLayAll0 ds = true := by
  induction ds with
  | nil => rfl
  | cons d r ih =>
    unfold PyData.canLayAll0
    rw [h d List.mem_cons_self, ih fun x m => h x (List.mem_cons_of_mem _ m)]
    rfl
theorem kind_lay {d : PyData} (h : kindD d = true) : PyData.canLay0 d = true := by
  unfold kindD at h
  split at h
  · obtain ⟨h1, h2⟩ := Bool.and_eq_true_iff.mp h
    obtain ⟨_, rfl⟩ := whole_inv h1
    obtain ⟨_, rfl⟩ := whole_inv h2
    rfl
  · rfl
  · cases h
theorem worth_lay {d k : PyData} (h : worthD d k = true) : PyData.canLay0 d = true := by
  unfold worthD at h
  split at h
  · obtain ⟨_, rfl⟩ := whole_inv h
    rfl
  · split at h
    · obtain ⟨_, h2⟩ := Bool.and_eq_true_iff.mp h
      rw [List.all_eq_true] at h2
      show PyData.canLayAll0 _ = true
      refine layAll_of fun x m => ?_
      obtain ⟨_, rfl⟩ := whole_inv (h2 x m)
      rfl
    · cases h
  · cases h
def FLAT : List Str := ["kind", "name", "node", "every", "width", "truth", "bit", "place"]
theorem flat_lay {s : Str} {d : PyData} (m : s ∈ FLAT) (h : fitsD s d = true) : PyData.canLay0 d = true := by
  simp only [FLAT, List.mem_cons, List.not_mem_nil, or_false] at m
  rcases m with rfl | rfl | rfl | rfl | rfl | rfl | rfl | rfl
  · exact kind_lay h
  · have h' : nameD d = true := h
    cases d with
    | str z => exact name_pok h'
    | _ => cases h'
  · have h' : nodeD d = true := h
    cases d with
    | str z => exact node_pok h'
    | _ => cases h'
  · rcases every_inv h with rfl | ⟨z, rfl, hz⟩
    · rfl
    · exact name_pok hz
  · obtain ⟨_, rfl⟩ := whole_inv (show wholeD d 1 8 = true from h); rfl
  · obtain ⟨_, rfl⟩ := whole_inv (show wholeD d 0 1 = true from h); rfl
  · obtain ⟨_, rfl⟩ := whole_inv (show wholeD d 0 7 = true from h); rfl
  · obtain ⟨_, rfl⟩ := whole_inv (show wholeD d 0 3 = true from h); rfl
theorem slot_cases {c : Str} {ss : List Str} (e : lk c FM = some ss) : ∀ s ∈ ss, s ∈ FLAT ∨ s = "term" ∨ s ∈ (["parts", "args", "rows"] : List Str) ∨ (s = "worth" ∧ c = "lit") := by
  have all : ∀ p ∈ FM, ∀ s ∈ p.2, s ∈ FLAT ∨ s = "term" ∨ s ∈ (["parts", "args", "rows"] : List Str) ∨ (s = "worth" ∧ p.1 = "lit") := by decide +kernel
  exact all (c, ss) (lk_mem e)
theorem word_pok {c : Str} {ss : List Str} (e : lk c FM = some ss) : PyData.strOk c = true := by
  have all : ∀ p ∈ FM, PyData.strOk p.1 = true := by decide +kernel
  exact all (c, ss) (lk_mem e)
theorem formed_lay {d : PyData} (h : formedD d = true) (hw : ∀ y ∈ withinD d, PyData.canLay0 y = true) : PyData.canLay0 d = true := by
  obtain ⟨c, rest, ss, rfl, e, l, hf, hlit⟩ := formed_inv h
  show PyData.canLayAll0 _ = true
  refine layAll_of fun x m => ?_
  rcases List.mem_cons.mp m with rfl | m
  · exact word_pok e
  · obtain ⟨i, hi, ex⟩ := List.getElem_of_mem m
    have e2 : rest[i]? = some x := by rw [List.getElem?_eq_getElem hi, ex]
    have hs : i < ss.length := by omega
    have e1 : ss[i]? = some ss[i] := List.getElem?_eq_getElem hs
    have fx := fits_at hf e1 e2
    have inW : ∀ y ∈ oneD ss[i] x, PyData.canLay0 y = true := fun y my => hw y (by
      rw [within_eq e]
      exact List.mem_flatten.mpr ⟨_, List.mem_of_getElem? (zw_get oneD e1 e2), my⟩)
    rcases slot_cases e ss[i] (List.getElem_mem hs) with m | m | m | ⟨m, rfl⟩
    · exact flat_lay m fx
    · rw [m] at inW
      exact inW x List.mem_cons_self
    · have : ∃ ds, x = .tuple ds ∧ oneD ss[i] x = ds := by
        simp only [List.mem_cons, List.not_mem_nil, or_false] at m
        rcases m with m | m | m <;>
        · rw [m] at fx ⊢
          cases x with
          | tuple ds => exact ⟨ds, rfl, rfl⟩
          | _ => cases fx
      obtain ⟨ds, rfl, eo⟩ := this
      rw [eo] at inW
      exact layAll_of inW
    · have e3 : lk "lit" FM = some (["kind", "worth"] : List Str) := by decide +kernel
      rw [e3] at e
      cases e
      have ci : i = 0 ∨ i = 1 := by
        have : i < 2 := hs
        omega
      rcases ci with rfl | rfl
      · exact absurd (show ("kind" : Str) = "worth" from m) (by decide +kernel)
      · match rest, l with
        | [k, w], _ =>
          cases e2
          exact worth_lay (show worthD x k = true by simpa [litD] using hlit)
theorem term_lay : ∀ (n : Nat) (d : PyData), sz d ≤ n → termD d = true → PyData.canLay0 d = true
  | 0, d, h, _ => absurd h (by have := sz_pos d; omega)
  | n + 1, d, h, t => by
    rw [termD_eq] at t
    obtain ⟨t1, t2⟩ := Bool.and_eq_true_iff.mp t
    obtain ⟨fo, _⟩ := Bool.and_eq_true_iff.mp t1
    rw [List.all_eq_true] at t2
    have ws := within_sz d
    exact formed_lay fo fun y my => term_lay n y (by have := szA_mem my; omega) (t2 y my)
theorem right_lay {d : PyData} (h : rightD d = true) : PyData.canLay0 d = true := by
  unfold rightD at h
  obtain ⟨fo, t2⟩ := Bool.and_eq_true_iff.mp h
  rw [List.all_eq_true] at t2
  exact formed_lay fo fun y my => term_lay _ y (Nat.le_refl _) (t2 y my)
theorem right_shaped {d : PyData} (h : rightD d = true) (ft : fit 6 10 d) : SeqAt.shaped d = true := by
  obtain ⟨_, b, _⟩ := fit_shows d ft
  unfold SeqAt.shaped
  rw [right_lay h, decide_eq_true (by omega)]
  rfl
end K5
end Bf

namespace Bf
open PySem PySem.Spec PyProof.Rows L2
namespace K5
section
variable {P : Program} {w : World} {K : PySem.W.Frag} {mg : Str → Option Value} {base : Heap} {cT cN fc fp ft fs fo fof fll flc fa fni fli fr frf : Addr} {dc dp dt ds do_ dof dll dlc da dni dli dr drf : FuncData}
theorem nmC_sz {f : Str → Str} {d : PyData} : sz (nmC f d) ≤ sz d := by
  cases d with
  | str z => show sz (.str (f z)) ≤ _; rw [sz_str, sz_str]; exact Nat.le_refl _
  | _ => exact Nat.le_refl _
theorem szA_map {F : PyData → PyData} (hF : ∀ x, sz (F x) ≤ sz x) : ∀ {ds : List PyData}, szA (ds.map F) ≤ szA ds
  | [] => Nat.le_refl _
  | d :: r => by
    rw [List.map_cons, szA_cons, szA_cons]
    have h1 := hF d
    have h2 := szA_map hF (ds := r)
    omega
theorem held_sz {F : PyData → PyData} {f g : Str → Str} (hF : ∀ x, sz (F x) ≤ sz x) {s : Str} {x : PyData} : sz (heldF F f g s x) ≤ sz x := by
  unfold heldF
  split
  · exact hF x
  · split
    · split
      · rw [sz_tup, sz_tup]
        have := szA_map hF (ds := by assumption)
        omega
      · exact Nat.le_refl _
    · split
      · exact nmC_sz
      · split
        · exact nmC_sz
        · exact Nat.le_refl _
theorem zw_sz {F : PyData → PyData} {f g : Str → Str} (hF : ∀ x, sz (F x) ≤ sz x) : ∀ {ss : List Str} {rest : List PyData}, szA (List.zipWith (heldF F f g) ss rest) ≤ szA rest
  | [], rest => by rw [List.zipWith_nil_left]; exact Nat.zero_le _
  | _ :: _, [] => by rw [List.zipWith_nil_right]; exact Nat.le_refl _
  | s :: ss, x :: rest => by
    rw [List.zipWith_cons_cons, szA_cons, szA_cons]
    have h1 := held_sz (f := f) (g := g) hF (s := s) (x := x)
    have h2 := zw_sz (f := f) (g := g) hF (ss := ss) (rest := rest)
    omega
theorem calF_sz {f g : Str → Str} : ∀ (n : Nat) (d : PyData), sz (calF f g n d) ≤ sz d
  | 0, _ => Nat.le_refl _
  | n + 1, d => by
    cases d with
    | tuple ds =>
      cases ds with
      | nil => exact Nat.le_refl _
      | cons x rest =>
        cases x with
        | str c =>
          cases e : lk c FM with
          | none => rw [calF_none e]; exact Nat.le_refl _
          | some ss =>
            rw [calF_tup e, sz_tup, sz_tup, szA_cons, szA_cons]
            have := zw_sz (F := calF f g n) (f := f) (g := g) (fun x => calF_sz (f := f) (g := g) n x) (ss := ss) (rest := rest)
            omega
        | _ => exact Nat.le_refl _
    | _ => exact Nat.le_refl _
theorem dF_pres {g : Str → Bool} {ps : List (Str × Str)} (hv : ∀ p ∈ ps, g p.2 = true) {z : Str} (h : g z = true) : g (dF (dS ps) z) = true := by
  unfold dF
  cases e : valV (dS ps) (.inr z) with
  | none => exact h
  | some v =>
    obtain ⟨q, m, _, e2⟩ := valV_mem e
    obtain ⟨p, mp, rfl⟩ := List.mem_map.mp m
    subst e2
    exact hv p mp
set_option maxHeartbeats 1000000 in
/-- there and back -/
theorem law_11 (N : Need P w K mg base cT cN fc fp ft fs fo fof fll flc fa fni fli fr frf dc dp dt ds do_ dof dll dlc da dni dli dr drf) {f : Addr} {cdv : Value} {A : Around} {outer : List Env} {s : Shared} {H0 : Hp} {E : XK}
    (hA' : (A.deeper (envOfC "law" (defScope sLaw) s.heap.objs.size f cdv)).guards = some []) (hr : Room 24 (A.deeper (envOfC "law" (defScope sLaw) s.heap.objs.size f cdv))) :
    ∃ t, PS (xLaw P w K mg base f cdv A outer s H0 E) (stT 11) t ∧ ∀ (D : Ends) (G : Hp) (a0 a1 a2 a3 a6 a7 a8 a9 a10 a11 a12 a15 a16 : Option V) (x : V) (d : PyData) (P0 : Addr → Prop) (aN aT aB : Addr) (ns : List Str) (ps qs : List (Str × Str)), Sh G P0 true x d → fit 6 10 d → sl d ≤ 77000 → rightD d = true →
      G aN = some (.lst (ns.map V.str)) → (ns.length ≤ 40 → Txs nameS G aT ps ∧ Txs nameS G aB qs ∧ calD (dF (dS qs)) (dF []) (calD (dF (dS ps)) (dF []) d) = d) → (∀ G', Same G G' → D.nx [a0, a1, a2, a3, some x, some (.ref aN), a6, a7, a8, a9, a10, a11, a12, some (.ref aT), some (.ref aB), a15, a16] G') → t D [a0, a1, a2, a3, some x, some (.ref aN), a6, a7, a8, a9, a10, a11, a12, some (.ref aT), some (.ref aB), a15, a16] G := by
  have hr22 := hr.mono (by decide : 22 ≤ 24)
  obtain ⟨ds, vds, b0⟩ := N.Dr.b0
  refine ⟨_, (ps_if (PW.pt (pw_and (pt_cmpR op_le (pe_callB call_len_seq (by rfl) N.ml PySem.boot_len (pa_cons (pv 5) pa_nil)) pe_int (nomark _)) (pw_and1 (pt_cmpR (op_neSh hr.units) (pe_callSD N.Gr hr22 (by rfl) N.Dr.at_ N.Dr.kp b0 vds (fun σ => passAtF σ) (pa_cons (pe_callSD N.Gr hr22 (by rfl) N.Dr.at_ N.Dr.kp b0 vds (fun σ => passAtF σ) (pa_cons (pv 4) (pa_cons (pv 13) pa_nil))) (pa_cons (pv 14) pa_nil))) (pv 4) (nomark _))))) (pss_one (ps_ret pe_bl)) pss_nil), ?_⟩
  intro D G a0 a1 a2 a3 a6 a7 a8 a9 a10 a11 a12 a15 a16 x d P0 aN aT aB ns ps qs sh ft' hl rd gN hb q
  have da := sh_da (by decide) d x ft' sh
  have hz : sz d ≤ 900000 := by have := sz_sl d; omega
  refine ⟨_, rfl, aN, _, rfl, .inl (SqL.of gN), ?_⟩
  refine ⟨_, _, rfl, rfl, _, rfl, ?_⟩
  by_cases hn : ns.length ≤ 40
  · refine iteB (decide_eq_true (show (((ns.map V.str).length : Nat) : Int) ≤ 40 by rw [List.length_map]; omega)) ?_
    obtain ⟨tT, tB, eb⟩ := hb hn
    have hfT : ∀ z, strOk z = true → strOk (dF (dS ps) z) = true := fun z h => dF_ok (fun p m => (tT.ok p m).2) h
    have f1 : fit 6 10 (calD (dF (dS ps)) (dF []) d) := cal_fit hfT (fun z h => h) ft'
    have rd1 : rightD (calD (dF (dS ps)) (dF []) d) = true := right_cal (fun z h => dF_pres (fun p m => (tT.gd p m).2) h) (fun z h => h) rd
    have z1 : sz (calD (dF (dS ps)) (dF []) d) ≤ 900000 := Nat.le_trans (calF_sz _ _) hz
    refine ⟨_, rfl, _, rfl, x, .ref aT, .non, d, rfl, da, hz, .inr (.inr (.inr ⟨rd, ft', P0, dS ps, [], sh, tT.names, .inl ⟨rfl, rfl⟩, fun y G1 s1 shy => ?_⟩))⟩
    have da1 := sh_da (by decide) _ y f1 shy
    refine ⟨_, rfl, y, .ref aB, .non, _, rfl, da1, z1, .inr (.inr (.inr ⟨rd1, f1, _, dS qs, [], shy, (tB.same s1).names, .inl ⟨rfl, rfl⟩, fun y2 G2 s2 shy2 => ?_⟩))⟩
    rw [eb] at shy2
    have sd := right_shaped rd ft'
    refine ⟨_, rfl, _, _, true, true, d, d, shy2, sh_same (s1.trans s2) sh, sd, sd, _, rfl, iteN (by rw [SeqAt.eqv_refl d (right_lay rd)]; rfl) (q _ (s1.trans s2))⟩
  · refine iteN (decide_eq_false (show ¬ (((ns.map V.str).length : Nat) : Int) ≤ 40 by rw [List.length_map]; omega)) ?_
    exact iteN rfl (q _ (Same.refl _))
end
end K5
end Bf

namespace Bf
open PySem PySem.Spec PyProof.Rows L2
namespace K5
/-! ### how dicts of texts are shown -/
theorem join_le {n : Nat} : ∀ {l : List Str}, (∀ z ∈ l, z.length ≤ n) → (Str.join ", " l).length ≤ (n + 2) * l.length
  | [], _ => by show Str.empty.length ≤ _; exact Nat.zero_le _
  | [x], h => by
    have := h x List.mem_cons_self
    show x.length ≤ (n + 2) * 1
    omega
  | x :: y :: r, h => by
    have h1 := h x List.mem_cons_self
    have h2 := join_le (n := n) (l := y :: r) fun z m => h z (List.mem_cons_of_mem _ m)
    show (x ++ ", " ++ Str.join ", " (y :: r)).length ≤ _
    rw [Str.length_append, Str.length_append, List.length_cons]
    have e : (", " : Str).length = 2 := by decide +kernel
    rw [Nat.mul_add]
    omega
theorem dDS_show : ∀ {ps : List (Str × Str)}, (∀ p ∈ ps, strOk p.1 = true ∧ strOk p.2 = true) → PyData.showableKv (dDS ps) = true ∧ PyData.depthKv (dDS ps) ≤ 0 ∧ (∀ z ∈ PyData.shownKv (dDS ps), z.length ≤ 810) ∧ (PyData.shownKv (dDS ps)).length = ps.length
  | [], _ => ⟨rfl, Nat.le_refl _, (fun _ m => nomatch m), rfl⟩
  | p :: r, h => by
    obtain ⟨o1, o2⟩ := h p List.mem_cons_self
    obtain ⟨a, b, c, d⟩ := dDS_show (ps := r) fun q m => h q (List.mem_cons_of_mem _ m)
    obtain ⟨x1, x2, x3⟩ := fit_shows (w := 1) (k := 0 + 1) (.str p.1) (fit_str.mpr o1)
    obtain ⟨y1, y2, y3⟩ := fit_shows (w := 1) (k := 0 + 1) (.str p.2) (fit_str.mpr o2)
    have l1 : sl (.str p.1) ≤ 403 := slS (n := 40) (ok_size o1)
    have l2 : sl (.str p.2) ≤ 403 := slS (n := 40) (ok_size o2)
    refine ⟨?_, ?_, fun z m => ?_, ?_⟩
    · show (PyData.showable (.str p.1) && PyData.showable (.str p.2) && PyData.showableKv (dDS r)) = true
      rw [x1, y1, a]
      rfl
    · show max (max (PyData.depth (.str p.1)) (PyData.depth (.str p.2))) (PyData.depthKv (dDS r)) ≤ 0
      exact Nat.max_le.mpr ⟨Nat.max_le.mpr ⟨Nat.le_refl _, Nat.le_refl _⟩, b⟩
    · rcases List.mem_cons.mp (show z ∈ (PyData.shown (.str p.1) ++ ": " ++ PyData.shown (.str p.2)) :: PyData.shownKv (dDS r) from m) with rfl | m
      · rw [Str.length_append, Str.length_append]
        have e : (": " : Str).length = 2 := by decide +kernel
        omega
      · exact c z m
    · show (PyData.shownKv (dDS r)).length + 1 = r.length + 1
      rw [d]
theorem dict_show {ps : List (Str × Str)} (h : ∀ p ∈ ps, strOk p.1 = true ∧ strOk p.2 = true) (hl : ps.length ≤ 40) : (PyData.dict (dDS ps)).showable = true ∧ (PyData.dict (dDS ps)).depth ≤ 1 ∧ (PyData.dict (dDS ps)).shown.length ≤ 40000 := by
  obtain ⟨a, b, c, d⟩ := dDS_show h
  refine ⟨a, by show PyData.depthKv (dDS ps) + 1 ≤ 1; omega, ?_⟩
  show (("{" : Str) ++ Str.join ", " (PyData.shownKv (dDS ps)) ++ "}").length ≤ _
  rw [Str.length_append, Str.length_append]
  have e1 : ("{" : Str).length = 1 := by decide +kernel
  have e2 : ("}" : Str).length = 1 := by decide +kernel
  have j := join_le c
  rw [d] at j
  have : 812 * ps.length ≤ 812 * 40 := Nat.mul_le_mul_left _ hl
  omega
end K5
end Bf

namespace Bf
open PySem PySem.Spec PyProof.Rows L2
namespace K5
section
variable {P : Program} {w : World} {K : PySem.W.Frag} {mg : Str → Option Value} {base : Heap} {cT cN fc fp ft fs fo fof fll flc fa fni fli fr frf : Addr} {dc dp dt ds do_ dof dll dlc da dni dli dr drf : FuncData}
theorem name_sok {z : Str} (h : nameS z = true) : strOk z = true := by
  have p := name_pok h
  rw [pok_iff] at p
  unfold nameS at h
  obtain ⟨h1, _⟩ := Bool.and_eq_true_iff.mp h
  obtain ⟨_, h2⟩ := Bool.and_eq_true_iff.mp h1
  have l : z.cps.size ≤ 8 := of_decide_eq_true h2
  unfold strOk
  rw [decide_eq_true (by omega), Bool.and_true, List.all_eq_true]
  intro c m
  have := p c m
  exact decide_eq_true (by omega)
theorem three_shows {d : PyData} {ps qs : List (Str × Str)} (ft : fit 6 10 d) (hl : sl d ≤ 77000) (hp : ∀ p ∈ ps, strOk p.1 = true ∧ strOk p.2 = true) (lp : ps.length ≤ 40) (hq : ∀ p ∈ qs, strOk p.1 = true ∧ strOk p.2 = true) (lq : qs.length ≤ 40) : Shows [d, .dict (dDS ps), .dict (dDS qs)] := by
  obtain ⟨a1, a2, a3⟩ := fit_shows d ft
  obtain ⟨b1, b2, b3⟩ := dict_show hp lp
  obtain ⟨c1, c2, c3⟩ := dict_show hq lq
  refine ⟨?_, ?_, ?_⟩
  · show (d.showable && ((PyData.dict (dDS ps)).showable && ((PyData.dict (dDS qs)).showable && true))) = true
    rw [a1, b1, c1]
    rfl
  · show max d.depth (max (PyData.dict (dDS ps)).depth (max (PyData.dict (dDS qs)).depth 0)) + 1 ≤ 60
    omega
  · have := listText_len_le [d.shown, (PyData.dict (dDS ps)).shown, (PyData.dict (dDS qs)).shown]
    show (listText [d.shown, (PyData.dict (dDS ps)).shown, (PyData.dict (dDS qs)).shown]).length ≤ _
    simp only [List.map_cons, List.map_nil, List.sum_cons, List.sum_nil, List.length_cons, List.length_nil] at this
    rw [sizeLine_eq]
    omega
/-- the side -/
theorem law_0 (N : Need P w K mg base cT cN fc fp ft fs fo fof fll flc fa fni fli fr frf dc dp dt ds do_ dof dll dlc da dni dli dr drf) {f : Addr} {cdv : Value} {A : Around} {outer : List Env} {s : Shared} {H0 : Hp} {E : XK}
    (hA' : (A.deeper (envOfC "law" (defScope sLaw) s.heap.objs.size f cdv)).guards = some []) (hr : Room 24 (A.deeper (envOfC "law" (defScope sLaw) s.heap.objs.size f cdv))) :
    ∃ t, PS (xLaw P w K mg base f cdv A outer s H0 E) (stT 0) t ∧ ∀ (D : Ends) (G : Hp) (σ : L2.St) (p : Addr) (n : Int), σ[2]? = some (some (.ref p)) → Purse G p n → n ≤ 89000 →
      (∀ x d G', Sh G' (Fr G) true x d → fit 6 10 d → sl d ≤ 77000 → rightD d = true → Kp (· ≠ p) G G' → Purse G' p (n + 8201) → D.nx (σ.set 4 (some x)) G') → t D σ G := by
  have hr1 := hr.mono (by decide : 1 ≤ 24)
  have hr9 := hr.mono (by decide : 9 ≤ 24)
  refine ⟨_, (ps_set (i := 4) scLaw.nd rfl (Or.inl rfl) (pe_call N.GS hr9 (by rfl) N.DS.at_ N.DS.kp N.DS.bd .nil pass0 (pa_cons (pv 2) (pa_cons (pe_call N.GT hr1 (by rfl) N.DT.at_ N.DT.kp N.DT.bd .nil pass0 (pa_cons (pv 2) (pa_cons pe_int pa_nil))) pa_nil)))), ?_⟩
  intro D G σ p n h2 pu hn q
  obtain ⟨_, _, _, hp, _⟩ := id pu
  refine ⟨_, h2, _, h2, p, 4, n, rfl, pu, by omega, by decide, by decide, fun e G1 e0 e1 pu1 eq1 => ?_⟩
  refine ⟨p, n + 1, e, e.toNat, rfl, by omega, by omega, pu1, by omega, fun v d G2 sh ft' hl _ rd k2 pu2 => ?_⟩
  have hp2 : ∃ o, G2 p = some o := let ⟨_, _, _, h, _⟩ := pu2; ⟨_, h⟩
  refine q v d G2 (Sh.on (fun a o h _ => ?_) (fun _ _ _ e => e) _ _ sh) ft' hl rd (fun a o na h => k2 _ _ na ((eq1 a na).trans h)) (by
    have e : n + 1 + 8200 = n + 8201 := by omega
    rw [e] at pu2
    exact pu2)
  have na : a ≠ p := fun e => by
    obtain ⟨_, _, _, h', _⟩ := id pu1
    rw [e] at h
    exact fr_ne h' h rfl
  show G a = none
  rw [← eq1 a na]
  exact h
end
end K5
end Bf

namespace Bf
open PySem PySem.Spec PyProof.Rows L2
namespace K5
section
variable {P : Program} {w : World} {K : PySem.W.Frag} {mg : Str → Option Value} {base : Heap} {cT cN fc fp ft fs fo fof fll flc fa fni fli fr frf : Addr} {dc dp dt ds do_ dof dll dlc da dni dli dr drf : FuncData}
theorem zip_snd : ∀ (l T : List Str), ((List.zip l T).map (·.2)).Sublist T
  | [], T => by rw [List.zip_nil_left]; exact List.nil_sublist _
  | _ :: _, [] => by rw [List.zip_nil_right]; exact List.nil_sublist _
  | a :: l, b :: T => by
    rw [List.zip_cons_cons, List.map_cons]
    exact (zip_snd l T).cons_cons b
theorem zip_fst {l : List Str} (h : l.length ≤ 40) : (List.zip l T40).map (·.1) = l := List.map_fst_zip (by rw [show T40.length = 40 from by decide +kernel]; exact h)
theorem zip_mem {l : List Str} {q : Str × Str} (m : q ∈ List.zip l T40) : q.1 ∈ l ∧ q.2 ∈ T40 := List.of_mem_zip m
set_option maxHeartbeats 1000000 in
/-- one turn -/
theorem law_turn (N : Need P w K mg base cT cN fc fp ft fs fo fof fll flc fa fni fli fr frf dc dp dt ds do_ dof dll dlc da dni dli dr drf) {f : Addr} {cdv : Value} {A : Around} {outer : List Env} {s : Shared} {H0 : Hp} {E : XK}
    (hA' : (A.deeper (envOfC "law" (defScope sLaw) s.heap.objs.size f cdv)).guards = some []) (hr : Room 24 (A.deeper (envOfC "law" (defScope sLaw) s.heap.objs.size f cdv))) :
    ∃ t, PSs (xLaw P w K mg base f cdv A outer s H0 E) bT t ∧ ∀ (D : Ends) (G : Hp) (a0 a1 a3 a4 a5 a6 a7 a8 a9 a10 a11 a12 a13 a14 a15 a16 : Option V) (p : Addr) (n : Int), Purse G p n → n ≤ 75000 →
      (∀ a4 a5 a6 a7 a8 a9 a10 a11 a12 a13 a14 G', Kp (· ≠ p) G G' → Purse G' p (n + 14000) → D.nx [a0, a1, some (.ref p), a3, a4, a5, a6, a7, a8, a9, a10, a11, a12, a13, a14, a15, a16] G') → t D [a0, a1, some (.ref p), a3, a4, a5, a6, a7, a8, a9, a10, a11, a12, a13, a14, a15, a16] G := by
  obtain ⟨t0, h0, w0⟩ := law_0 (outer := outer) (s := s) (H0 := H0) (E := E) N hA' hr
  obtain ⟨t1, h1, w1⟩ := law_1 (outer := outer) (s := s) (H0 := H0) (E := E) N hA' hr
  obtain ⟨t2, h2, w2⟩ := law_2 (outer := outer) (s := s) (H0 := H0) (E := E) N hA' hr
  obtain ⟨t3, h3, w3⟩ := law_3 (outer := outer) (s := s) (H0 := H0) (E := E) N hA' hr
  obtain ⟨t4, h4, w4⟩ := law_4 (outer := outer) (s := s) (H0 := H0) (E := E) N hA' hr
  obtain ⟨t5, h5, w5⟩ := law_5 (outer := outer) (s := s) (H0 := H0) (E := E) N hA' hr
  obtain ⟨t6, h6, w6⟩ := law_6 (outer := outer) (s := s) (H0 := H0) (E := E) N hA' hr
  obtain ⟨t7, h7, w7⟩ := law_7 (outer := outer) (s := s) (H0 := H0) (E := E) N hA' hr
  obtain ⟨t8, h8, w8⟩ := law_8 (outer := outer) (s := s) (H0 := H0) (E := E) N hA' hr
  obtain ⟨t9, h9, w9⟩ := law_9 (outer := outer) (s := s) (H0 := H0) (E := E) N hA' hr
  obtain ⟨t10, h10, w10⟩ := law_10 (outer := outer) (s := s) (H0 := H0) (E := E) N hA' hr
  obtain ⟨t11, h11, w11⟩ := law_11 (outer := outer) (s := s) (H0 := H0) (E := E) N hA' hr
  obtain ⟨t12, h12, w12⟩ := law_12 (outer := outer) (s := s) (H0 := H0) (E := E) N hA' hr
  obtain ⟨t13, h13, w13⟩ := law_13 (outer := outer) (s := s) (H0 := H0) (E := E) N hA' hr
  refine ⟨_, (pss_cons h0 (pss_cons h1 (pss_cons h2 (pss_cons h3 (pss_cons h4 (pss_cons h5 (pss_cons h6 (pss_cons h7 (pss_cons h8 (pss_cons h9 (pss_cons h10 (pss_cons h11 (pss_cons h12 (pss_one h13)))))))))))))), ?_⟩
  intro D G a0 a1 a3 a4 a5 a6 a7 a8 a9 a10 a11 a12 a13 a14 a15 a16 p n pu hn fin
  obtain ⟨_, _, _, hp, _⟩ := id pu
  have np : ∀ a, Fr G a → a ≠ p := fun a h => fr_ne hp h
  refine w0 _ G _ p n rfl pu (by omega) fun x d G1 sh1 ft' hl rd k1 pu1 => ?_
  refine w1 _ G1 _ x d (Fr G) rfl sh1 ft' hl rd fun G2 s2 => ?_
  refine w2 _ G2 _ x d (Fr G) rfl (sh_same s2 sh1) ft' hl rd fun aN G3 s3 fN gN => ?_
  have b := parts_sl rd
  obtain ⟨b1, b2⟩ := names_le d
  have c1 := onceS_len (namesD d)
  have c2 := onceS_len (lastsD d)
  have c3 := onceS_len (onceS (namesD d) ++ onceS (lastsD d))
  rw [List.length_append] at c3
  have ndN := onceS_nodup (onceS (namesD d) ++ onceS (lastsD d))
  have mem : ∀ z, z ∈ onceS (onceS (namesD d) ++ onceS (lastsD d)) ↔ z ∈ namesD d ∨ z ∈ lastsD d := fun z => by
    rw [onceS_mem, List.mem_append, onceS_mem, onceS_mem]
  generalize onceS (onceS (namesD d) ++ onceS (lastsD d)) = ns at gN c3 ndN mem
  have nsl : ns.length ≤ 5501 := by omega
  have okN : ∀ z ∈ ns, nameS z = true := fun z m => names_ok rd ((mem z).mp m)
  have pu2 := pu1.same s2
  have nNp : aN ≠ p := pu2.ne fN
  have pu3 := pu2.same s3
  have sh3 := sh_same s3 (sh_same s2 sh1)
  have k3 : Kp (· ≠ p) G G3 := fun a o na h => s3 _ _ (s2 _ _ (k1 a o na h))
  dsimp only [List.set]
  refine w3 _ G3 _ _ _ _ _ _ _ _ _ _ _ _ _ _ _ p aN _ ns pu3 (by omega) gN nNp fun L G4 l sub ll gL nLp k4 pu4 => ?_
  refine w4 _ G4 _ _ _ _ _ _ _ _ _ _ _ _ _ _ _ p L _ l pu4 (by omega) ll (ndN.sublist sub) gL nLp fun aO G5 ps e1 hv gO fO k5 pu5 => ?_
  have gN5 := k5 _ _ nNp (k4 _ _ nNp gN)
  have sh5 : Sh G5 (Fr G) true x d := Sh.on (fun _ _ h _ => h) (fun a o h e => k5 _ _ (np a h) (k4 _ _ (np a h) e)) _ _ sh3
  have kG5 : Kp (· ≠ p) G G5 := fun a o na h => k5 _ _ na (k4 _ _ na (k3 _ _ na h))
  have okP : ∀ q ∈ ps, nameS q.1 = true ∧ nameS q.2 = true := fun q m => by
    have m1 : q.1 ∈ l := by rw [← e1]; exact List.mem_map.mpr ⟨q, m, rfl⟩
    have n1 := okN q.1 (sub.subset m1)
    refine ⟨n1, ?_⟩
    have := hv q m
    simp only [List.mem_cons, List.not_mem_nil, or_false] at this
    rcases this with e | e | e | e | e
    · rw [e]; decide +kernel
    · rw [e]; decide +kernel
    · rw [e]; decide +kernel
    · rw [e]; decide +kernel
    · rw [e]; exact n1
  have tO : Txs nameS G5 aO ps := ⟨gO, fun q m => ⟨name_sok (okP q m).1, name_sok (okP q m).2⟩, okP, by rw [e1]; exact ndN.sublist sub, by rw [← List.length_map (f := (·.1)), e1]; exact ll⟩
  refine w5 _ G5 _ _ _ _ _ _ _ _ _ _ _ _ _ _ _ _ x d (Fr G) sh5 ft' rd fun aC G6 z y nz ny oz oy gC fC s6 => ?_
  have tC : Txs nodeS G6 aC [(z, y)] := ⟨gC, fun q m => by rw [List.mem_singleton.mp m]; exact ⟨oz, oy⟩, fun q m => by rw [List.mem_singleton.mp m]; exact ⟨nz, ny⟩, by simp, by show 1 ≤ 40; decide⟩
  have sw := three_shows ft' hl tO.ok tO.le tC.ok tC.le
  have sx : ∀ {G' : Hp}, Same G5 G' → Sd G' (fun _ => True) x d := fun s' => .sh (Sh.on (fun _ _ _ _ => trivial) (fun a o _ e => s' _ _ e) _ _ sh5)
  have sO : ∀ {G' : Hp}, Same G5 G' → Sd G' (fun _ => True) (.ref aO) (.dict (dDS ps)) := fun s' => .dic (s' _ _ gO) (dS_dic ps)
  have sC : ∀ {G' : Hp}, Same G6 G' → Sd G' (fun _ => True) (.ref aC) (.dict (dDS [(z, y)])) := fun s' => .dic (s' _ _ gC) (dS_dic _)
  refine w6 _ G6 _ x (.ref aO) (.ref aC) d _ _ (fun _ => True) rfl rfl rfl (sx s6) (sO s6) (sC (Same.refl _)) sw fun G7 s7 => ?_
  have s57 := s6.trans s7
  dsimp only [List.set]
  refine w7 _ G7 _ _ _ _ _ _ _ _ _ _ _ _ _ _ x d (Fr G) aO aC ps [(z, y)] (sh_same s57 sh5) ft' hl rd (tO.same s57) (tC.same s7) fun u10 u11 G8 s8 => ?_
  refine w8 _ G8 _ ?_
  have s58 := s57.trans s8
  dsimp only [List.set]
  refine w9 _ G8 _ _ _ _ _ _ _ _ _ _ _ _ _ _ _ aN ns (s58 _ _ gN5) ndN fun aT G9 gT fT s9 => ?_
  have l40 : (ns.take 40).length ≤ 40 := by rw [List.length_take]; omega
  have zf := zip_fst l40
  have zn : ((List.zip (ns.take 40) T40).map (·.2)).Nodup := T40_nd.sublist (zip_snd _ _)
  have zl : (List.zip (ns.take 40) T40).length ≤ 40 := by rw [← List.length_map (f := (·.1)), zf]; exact l40
  have nt : (ns.take 40).Nodup := ndN.sublist (List.take_sublist _ _)
  refine w10 _ G9 _ _ _ _ _ _ _ _ _ _ _ _ _ _ _ _ aT _ gT zl zn fun aB G10 gB fB s10 => ?_
  have s510 := (s58.trans s9).trans s10
  have s610 := ((s7.trans s8).trans s9).trans s10
  refine w11 _ G10 _ _ _ _ _ _ _ _ _ _ _ _ _ x d (Fr G) aN aT aB ns (List.zip (ns.take 40) T40) (swp (List.zip (ns.take 40) T40)) (sh_same s510 sh5) ft' hl rd (s510 _ _ gN5) (fun h40 => ?_) fun G11 s11 => ?_
  · have okZ : ∀ q ∈ List.zip (ns.take 40) T40, nameS q.1 = true ∧ nameS q.2 = true := fun q m => ⟨okN _ ((List.take_sublist _ _).subset (zip_mem m).1), T40_ok _ (zip_mem m).2⟩
    have zfn : ((List.zip (ns.take 40) T40).map (·.1)).Nodup := by rw [zf]; exact nt
    have sn : ((swp (List.zip (ns.take 40) T40)).map (·.1)).Nodup := by
      rw [List.map_map]
      exact zn
    refine ⟨⟨s10 _ _ gT, fun q m => ⟨name_sok (okZ q m).1, name_sok (okZ q m).2⟩, okZ, zfn, zl⟩, ⟨gB, fun q m => ?_, fun q m => ?_, sn, by rw [List.length_map]; exact zl⟩, cal_back (fun _ => rfl) rd fun v hv => ?_⟩
    · obtain ⟨q', m', rfl⟩ := List.mem_map.mp m
      exact ⟨name_sok (okZ q' m').2, name_sok (okZ q' m').1⟩
    · obtain ⟨q', m', rfl⟩ := List.mem_map.mp m
      exact ⟨(okZ q' m').2, (okZ q' m').1⟩
    · have mv := (mem v).mpr hv
      have : v ∈ (List.zip (ns.take 40) T40).map (·.1) := by rw [zf, List.take_of_length_le h40]; exact mv
      obtain ⟨q', m', rfl⟩ := List.mem_map.mp this
      rw [dF_in (y := q'.2) m' zfn]
      exact dF_in (List.mem_map.mpr ⟨q', m', rfl⟩) sn
  have s511 := s510.trans s11
  have s611 := s610.trans s11
  refine w12 _ G11 _ x (.ref aO) (.ref aC) d _ _ (fun _ => True) rfl rfl rfl rfl (sx s511) (sO s511) (sC s611) sw fun G12 s12 => ?_
  have s512 := s511.trans s12
  have pu12 := pu5.same s512
  refine w13 _ G12 _ p _ x d (Fr G) rfl rfl pu12 (by omega) (fun h => np p h rfl) (sh_same s512 sh5) ft' hl rd fun G13 k13 pu13 => ?_
  exact fin _ _ _ _ _ _ _ _ _ _ _ G13 (fun a o na h => k13 _ _ na (s512 _ _ (kG5 _ _ na h))) (pu13.mono (by omega))
end
end K5
end Bf

namespace Bf
open PySem PySem.Spec PyProof.Rows L2
namespace K5
section
variable {P : Program} {w : World} {K : PySem.W.Frag} {mg : Str → Option Value} {base : Heap} {cT cN fc fp ft fs fo fof fll flc fa fni fli fr frf : Addr} {dc dp dt ds do_ dof dll dlc da dni dli dr drf : FuncData}
def spLaw (K : PySem.W.Frag) : Sp := fun vs H Q _ => ∃ (a : Addr) (ns : List Int), vs = [.ref a] ∧ SqL K H a (ns.map V.int) ∧ ns.length ≤ 63 ∧ ∀ H', Q (.bl true) H'
theorem ok_law {f : Addr} {fd : FuncData} (F : Fun K "law" "law" sLaw f fd) (N : Need P w K mg base cT cN fc fp ft fs fo fof fll flc fa fni fli fr frf dc dp dt ds do_ dof dll dlc da dni dli dr drf) :
    FnG P w K mg base CX0 25 f fd ["_law_script"] (spLaw K) := by
  refine Fun.okG F scLaw (fun vs H Q E h => ?_) (fun cdv A outer s H vs Q E hA hr h => ?_)
  · obtain ⟨a, ns, rfl, _⟩ := h
    rfl
  · obtain ⟨a, ns, rfl, hS, hl, q⟩ := h
    have hr1 := hr.mono (by decide : 1 ≤ 24)
    have hA' : (A.deeper (envOfC "law" (defScope sLaw) s.heap.objs.size f cdv)).guards = some [] := hA
    obtain ⟨tt, hTurn, turn⟩ := law_turn (outer := outer) (s := s) (H0 := H) (E := E) N hA' hr
    refine ⟨_, pss_cons (ps_for PassesOwn.leaving rfl (pi_range1 (by rfl) N.mr (pa_cons (pe_callB (call_max2 rfl) (by rfl) N.mx (by decide +kernel) (pa_cons pe_int (pa_cons (pe_callB (call_min2 rfl) (by rfl) N.mn (by decide +kernel)
          (pa_cons pe_int (pa_cons (pe_callB call_len_seq (by rfl) N.ml PySem.boot_len (pa_cons (pv 0) pa_nil)) pa_nil))) pa_nil))) pa_nil)) (pg_name (i := 1) scLaw.nd rfl (Or.inl rfl))
        (pss_cons (ps_set (i := 2) scLaw.nd rfl (Or.inr rfl) (pe_call N.GP hr1 (by rfl) N.DP.at_ N.DP.kp N.DP.bd .nil pass0 (pa_cons (pe_call N.GC hr1 (by rfl) N.DC.at_ N.DC.kp N.DC.bd .nil pass0 (pa_cons (pv 0) (pa_cons (pv 1) pa_nil))) pa_nil)))
        (pss_one (ps_for PassesOwn.leaving rfl (pi_range1 (by rfl) N.mr (pa_cons pe_int pa_nil)) (pg_name (i := 3) scLaw.nd rfl (Or.inl rfl)) hTurn))))
      (pss_one (ps_ret pe_bl)), ?_⟩
    have hcnt : ∀ l : Nat, 0 ≤ (if (if (l : Int) < 8 then (l : Int) else 8) > 2 then (if (l : Int) < 8 then (l : Int) else 8) else (2 : Int)) ∧ (if (if (l : Int) < 8 then (l : Int) else 8) > 2 then (if (l : Int) < 8 then (l : Int) else 8) else (2 : Int)) ≤ 8 := by
      intro l
      split <;> split <;> omega
    obtain ⟨c0, c8⟩ := hcnt (ns.map V.int).length
    refine ⟨_, rfl, a, _, rfl, .inl hS, _, _, rfl, _, _, rfl, _, rfl, Int.le_trans (by decide) c0, Int.lt_of_le_of_lt c8 (by decide), for_range (lo := 0) (n := _) (fun i σ H1 => (∃ v1 v2 v3 v4 v5 v6 v7 v8 v9 v10 v11 v12 v13 v14 v15 v16, σ = [some (.ref a), v1, v2, v3, v4, v5, v6, v7, v8, v9, v10, v11, v12, v13, v14, v15, v16]) ∧ SqL K H1 a (ns.map V.int))
      ⟨⟨_, _, _, _, _, _, _, _, _, _, _, _, _, _, _, _, rfl⟩, hS⟩ (fun i σ H1 hi pv => ?_) fun σ H1 pv => q H1⟩
    obtain ⟨⟨v1, v2, v3, v4, v5, v6, v7, v8, v9, v10, v11, v12, v13, v14, v15, v16, rfl⟩, hS1⟩ := pv
    have hi8 : (i : Int) ≤ 8 := by omega
    refine ⟨_, rfl, _, rfl, a, ns, 0 + (i : Int), rfl, hS1, by omega, by omega, fun c => ⟨c, rfl, fun p H2 hp np eq2 pu2 => ?_⟩⟩
    have s2 : Same H1 H2 := fun b o e => (eq2 b (ne_of_none e hp)).trans e
    refine ⟨6, rfl, by decide, by decide, for_range (lo := 0) (n := 6) (fun i' σ G => (∃ w1 w3 w4 w5 w6 w7 w8 w9 w10 w11 w12 w13 w14 w15 w16, σ = [some (.ref a), w1, some (.ref p), w3, w4, w5, w6, w7, w8, w9, w10, w11, w12, w13, w14, w15, w16]) ∧ Kp (· ≠ p) H2 G ∧ Purse G p (14000 * (i' : Int)))
      ⟨⟨_, _, _, _, _, _, _, _, _, _, _, _, _, _, _, rfl⟩, kp_same (Same.refl _), by simpa using pu2⟩ (fun i' σ G hi' pv => ?_) fun σ G pv => ?_⟩
    · obtain ⟨⟨w1, w3, w4, w5, w6, w7, w8, w9, w10, w11, w12, w13, w14, w15, w16, rfl⟩, kG, puG⟩ := pv
      exact turn _ G _ _ _ _ _ _ _ _ _ _ _ _ _ _ _ _ p _ puG (by omega) fun a4 a5 a6 a7 a8 a9 a10 a11 a12 a13 a14 G' k' pu' => ⟨⟨_, _, _, _, _, _, _, _, _, _, _, _, _, _, _, rfl⟩, fun b o nb h => k' _ _ nb (kG _ _ nb h), pu'.mono (by omega)⟩
    · obtain ⟨⟨w1, w3, w4, w5, w6, w7, w8, w9, w10, w11, w12, w13, w14, w15, w16, rfl⟩, kG, _⟩ := pv
      exact ⟨⟨_, _, _, _, _, _, _, _, _, _, _, _, _, _, _, _, rfl⟩, Same.seq (fun b o e => kG b o (ne_of_none e hp) (s2 _ _ e)) hS1⟩
end
end K5
end Bf

namespace Bf
open PySem PySem.Spec PyProof.Rows L2
namespace K5
set_option maxHeartbeats 4000000 in
theorem all_mk {l : PySem.W.OpenLaw} {w : World} {K : PySem.W.Frag} {h : Heap} {mg : Str → Option Value} {fa : Addr} (X : K.In h) (G : h.Ns mainGlobals mg) (hfa : mg "law" = some (.ref fa))
    {fnb : Addr} {odnb annb : Option Addr} {slnb : Array (Option Value)} {ocnb kVnb dcnb pmnb cdnb ctnb : Value}
    {fwh : Addr} {odwh anwh : Option Addr} {slwh : Array (Option Value)} {ocwh kVwh dcwh pmwh cdwh ctwh : Value}
    {fna : Addr} {odna anna : Option Addr} {slna : Array (Option Value)} {ocna kVna dcna pmna cdna ctna : Value}
    {fwi : Addr} {odwi anwi : Option Addr} {slwi : Array (Option Value)} {ocwi kVwi dcwi pmwi cdwi ctwi : Value}
    {ftr : Addr} {odtr antr : Option Addr} {sltr : Array (Option Value)} {octr kVtr dctr pmtr cdtr cttr : Value}
    {fki : Addr} {odki anki : Option Addr} {slki : Array (Option Value)} {ocki kVki dcki pmki cdki ctki : Value}
    {fiw : Addr} {odiw aniw : Option Addr} {sliw : Array (Option Value)} {ociw kViw dciw pmiw cdiw ctiw : Value}
    {fgr : Addr} {odgr angr : Option Addr} {slgr : Array (Option Value)} {ocgr kVgr dcgr pmgr cdgr ctgr : Value}
    {fwo : Addr} {odwo anwo : Option Addr} {slwo : Array (Option Value)} {ocwo kVwo dcwo pmwo cdwo ctwo : Value}
    {far : Addr} {odar anar : Option Addr} {slar : Array (Option Value)} {ocar kVar dcar pmar cdar ctar : Value}
    {fir : Addr} {odir anir : Option Addr} {slir : Array (Option Value)} {ocir kVir dcir pmir cdir ctir : Value}
    {fpo : Addr} {odpo anpo : Option Addr} {slpo : Array (Option Value)} {ocpo kVpo dcpo pmpo cdpo ctpo : Value}
    {fni : Addr} {odni anni : Option Addr} {slni : Array (Option Value)} {ocni kVni dcni pmni cdni ctni : Value}
    {fli : Addr} {odli anli : Option Addr} {slli : Array (Option Value)} {ocli kVli dcli pmli cdli ctli : Value}
    {fsi1 : Addr} {odsi1 ansi1 : Option Addr} {slsi1 : Array (Option Value)} {ocsi1 kVsi1 dcsi1 pmsi1 cdsi1 ctsi1 : Value}
    {fnn : Addr} {odnn annn : Option Addr} {slnn : Array (Option Value)} {ocnn kVnn dcnn pmnn cdnn ctnn : Value}
    {fnr : Addr} {odnr annr : Option Addr} {slnr : Array (Option Value)} {ocnr kVnr dcnr pmnr cdnr ctnr : Value}
    {fic : Addr} {odic anic : Option Addr} {slic : Array (Option Value)} {ocic kVic dcic pmic cdic ctic : Value}
    {fat : Addr} {odat anat : Option Addr} {slat : Array (Option Value)} {ocat kVat dcat pmat cdat ctat : Value}
    {ffo : Addr} {odfo anfo : Option Addr} {slfo : Array (Option Value)} {ocfo kVfo dcfo pmfo cdfo ctfo : Value}
    {ffi : Addr} {odfi anfi : Option Addr} {slfi : Array (Option Value)} {ocfi kVfi dcfi pmfi cdfi ctfi : Value}
    {ftw : Addr} {odtw antw : Option Addr} {sltw : Array (Option Value)} {octw kVtw dctw pmtw cdtw cttw : Value}
    {fpa : Addr} {odpa anpa : Option Addr} {slpa : Array (Option Value)} {ocpa kVpa dcpa pmpa cdpa ctpa : Value}
    {feo : Addr} {odeo aneo : Option Addr} {sleo : Array (Option Value)} {oceo kVeo dceo pmeo cdeo cteo : Value}
    {fdo : Addr} {oddo ando : Option Addr} {sldo : Array (Option Value)} {ocdo kVdo dcdo pmdo cddo ctdo : Value}
    {fco : Addr} {odco anco : Option Addr} {slco : Array (Option Value)} {occo kVco dcco pmco cdco ctco : Value}
    {fho : Addr} {odho anho : Option Addr} {slho : Array (Option Value)} {ocho kVho dcho pmho cdho ctho : Value}
    {fce : Addr} {odce ance : Option Addr} {slce : Array (Option Value)} {occe kVce dcce pmce cdce ctce : Value}
    {fpu : Addr} {odpu anpu : Option Addr} {slpu : Array (Option Value)} {ocpu kVpu dcpu pmpu cdpu ctpu : Value}
    {fta : Addr} {odta anta : Option Addr} {slta : Array (Option Value)} {octa kVta dcta pmta cdta ctta : Value}
    {fof : Addr} {odof anof : Option Addr} {slof : Array (Option Value)} {ocof kVof dcof pmof cdof ctof : Value}
    {fln : Addr} {odln anln : Option Addr} {slln : Array (Option Value)} {ocln kVln dcln pmln cdln ctln : Value}
    {flk : Addr} {odlk anlk : Option Addr} {sllk : Array (Option Value)} {oclk kVlk dclk pmlk cdlk ctlk : Value}
    {flw : Addr} {odlw anlw : Option Addr} {sllw : Array (Option Value)} {oclw kVlw dclw pmlw cdlw ctlw : Value}
    {fan : Addr} {odan anan : Option Addr} {slan : Array (Option Value)} {ocan kVan dcan pman cdan ctan : Value}
    {fsi : Addr} {odsi ansi : Option Addr} {slsi : Array (Option Value)} {ocsi kVsi dcsi pmsi cdsi ctsi : Value}
    {fnm2 : Addr} {odnm2 annm2 : Option Addr} {slnm2 : Array (Option Value)} {ocnm2 kVnm2 dcnm2 pmnm2 cdnm2 ctnm2 : Value}
    {flo : Addr} {odlo anlo : Option Addr} {sllo : Array (Option Value)} {oclo kVlo dclo pmlo cdlo ctlo : Value}
    {flc : Addr} {odlc anlc : Option Addr} {sllc : Array (Option Value)} {oclc kVlc dclc pmlc cdlc ctlc : Value}
    {fltc : Addr} {odltc anltc : Option Addr} {slltc : Array (Option Value)} {ocltc kVltc dcltc pmltc cdltc ctltc : Value}
    {flsc : Addr} {odlsc anlsc : Option Addr} {sllsc : Array (Option Value)} {oclsc kVlsc dclsc pmlsc cdlsc ctlsc : Value}
    {fas : Addr} {odas anas : Option Addr} {slas : Array (Option Value)} {ocas kVas dcas pmas cdas ctas : Value}
    {frf : Addr} {odrf anrf : Option Addr} {slrf : Array (Option Value)} {ocrf kVrf dcrf pmrf cdrf ctrf : Value}
    {fll : Addr} {odll anll : Option Addr} {slll : Array (Option Value)} {ocll kVll dcll pmll cdll ctll : Value}
    {fla : Addr} {odla anla : Option Addr} {slla : Array (Option Value)} {ocla kVla dcla pmla cdla ctla : Value}
    {fR kD : Addr} {odR anR : Option Addr} {slR : Array (Option Value)} {ocR dcR pmR cdR ctR : Value}
    {dF : Addr} {esdF : Array DictEntry} {ndF : Nat} {qdF0 qdF1 qdF2 qdF3 qdF4 qdF5 qdF6 qdF7 qdF8 qdF9 qdF10 qdF11 qdF12 qdF13 qdF14 qdF15 qdF16 qdF17 qdF18 qdF19 qdF20 qdF21 qdF22 : Addr}
    {odqdF0t : Option Addr} {slqdF0t : Array (Option Value)} {nqdF0t : Nat} {twqdF0x0 twqdF0x1 : Tok}
    {odqdF1t : Option Addr} {slqdF1t : Array (Option Value)} {nqdF1t : Nat} {twqdF1x0 : Tok}
    {odqdF2t : Option Addr} {slqdF2t : Array (Option Value)} {nqdF2t : Nat} {twqdF2x0 : Tok}
    {odqdF3t : Option Addr} {slqdF3t : Array (Option Value)} {nqdF3t : Nat} {twqdF3x0 twqdF3x1 : Tok}
    {odqdF4t : Option Addr} {slqdF4t : Array (Option Value)} {nqdF4t : Nat} {twqdF4x0 : Tok}
    {odqdF5t : Option Addr} {slqdF5t : Array (Option Value)} {nqdF5t : Nat} {twqdF5x0 twqdF5x1 : Tok}
    {odqdF6t : Option Addr} {slqdF6t : Array (Option Value)} {nqdF6t : Nat} {twqdF6x0 twqdF6x1 : Tok}
    {odqdF7t : Option Addr} {slqdF7t : Array (Option Value)} {nqdF7t : Nat} {twqdF7x0 twqdF7x1 : Tok}
    {odqdF8t : Option Addr} {slqdF8t : Array (Option Value)} {nqdF8t : Nat} {twqdF8x0 twqdF8x1 : Tok}
    {odqdF9t : Option Addr} {slqdF9t : Array (Option Value)} {nqdF9t : Nat} {twqdF9x0 twqdF9x1 : Tok}
    {odqdF10t : Option Addr} {slqdF10t : Array (Option Value)} {nqdF10t : Nat} {twqdF10x0 twqdF10x1 : Tok}
    {odqdF11t : Option Addr} {slqdF11t : Array (Option Value)} {nqdF11t : Nat} {twqdF11x0 twqdF11x1 : Tok}
    {odqdF12t : Option Addr} {slqdF12t : Array (Option Value)} {nqdF12t : Nat} {twqdF12x0 twqdF12x1 : Tok}
    {odqdF13t : Option Addr} {slqdF13t : Array (Option Value)} {nqdF13t : Nat} {twqdF13x0 twqdF13x1 : Tok}
    {odqdF14t : Option Addr} {slqdF14t : Array (Option Value)} {nqdF14t : Nat} {twqdF14x0 twqdF14x1 twqdF14x2 : Tok}
    {odqdF15t : Option Addr} {slqdF15t : Array (Option Value)} {nqdF15t : Nat} {twqdF15x0 twqdF15x1 twqdF15x2 : Tok}
    {odqdF16t : Option Addr} {slqdF16t : Array (Option Value)} {nqdF16t : Nat} {twqdF16x0 twqdF16x1 twqdF16x2 : Tok}
    {odqdF17t : Option Addr} {slqdF17t : Array (Option Value)} {nqdF17t : Nat} {twqdF17x0 : Tok}
    {odqdF18t : Option Addr} {slqdF18t : Array (Option Value)} {nqdF18t : Nat} {twqdF18x0 twqdF18x1 : Tok}
    {odqdF19t : Option Addr} {slqdF19t : Array (Option Value)} {nqdF19t : Nat} {twqdF19x0 twqdF19x1 twqdF19x2 : Tok}
    {odqdF20t : Option Addr} {slqdF20t : Array (Option Value)} {nqdF20t : Nat} {twqdF20x0 twqdF20x1 twqdF20x2 : Tok}
    {odqdF21t : Option Addr} {slqdF21t : Array (Option Value)} {nqdF21t : Nat} {twqdF21x0 twqdF21x1 twqdF21x2 twqdF21x3 : Tok}
    {odqdF22t : Option Addr} {slqdF22t : Array (Option Value)} {nqdF22t : Nat} {twqdF22x0 twqdF22x1 twqdF22x2 : Tok}
    {dS : Addr} {esdS : Array DictEntry} {ndS : Nat} {qdS0 qdS1 qdS2 : Addr}
    {odqdS0t : Option Addr} {slqdS0t : Array (Option Value)} {nqdS0t : Nat} {twqdS0x0 twqdS0x1 : Tok}
    {odqdS1t : Option Addr} {slqdS1t : Array (Option Value)} {nqdS1t : Nat} {twqdS1x0 twqdS1x1 : Tok}
    {odqdS2t : Option Addr} {slqdS2t : Array (Option Value)} {nqdS2t : Nat} {twqdS2x0 twqdS2x1 : Tok}
    {dC : Addr} {oddCt : Option Addr} {sldCt : Array (Option Value)} {ndCt : Nat} {twdCx0 twdCx1 twdCx2 twdCx3 : Tok}
    {CF fF : Addr} {odF anF : Option Addr} {slF : Array (Option Value)} {ocF kVF dcF pmF cdF ctF : Value}
    {CT fT : Addr} {odT anT : Option Addr} {slT : Array (Option Value)} {ocT kVT dcT pmT cdT ctT : Value} {nmT qT : Str} {NT : Addr} {bsT bmT : List Value} {snT : List Str} {subT : List Value} {abT : Bool} {colT : Option Bool} {ddT : Option Addr} {m0T m1T m2T m3T m5T : Option Value}
    {CN fN : Addr} {odN anN : Option Addr} {slN : Array (Option Value)} {ocN kVN dcN pmN cdN ctN : Value} {nmN qN : Str} {NN : Addr} {bsN bmN : List Value} {snN : List Str} {subN : List Value} {abN : Bool} {colN : Option Bool} {ddN : Option Addr} {m0N m1N m2N m3N m5N : Option Value}
    (anb : PySem.W.nsIn K mainGlobals "is_number" = some (some (.ref fnb)))
    (lnb : K.lookup fnb = some ⟨ocnb, odnb, .func (PySem.W.fnOf "is_number" "is_number" (defArgs sNumber) (defBody sNumber) (defScope sNumber) .none kVnb dcnb pmnb annb cdnb ctnb), slnb⟩)
    (cnb : PySem.W.codeIn K cdnb "is_number" = true)
    (knb : PySem.W.keepIn K (.ref fnb) = true)
    (awh : PySem.W.nsIn K mainGlobals "is_whole" = some (some (.ref fwh)))
    (lwh : K.lookup fwh = some ⟨ocwh, odwh, .func (PySem.W.fnOf "is_whole" "is_whole" (defArgs sWhole) (defBody sWhole) (defScope sWhole) .none kVwh dcwh pmwh anwh cdwh ctwh), slwh⟩)
    (cwh : PySem.W.codeIn K cdwh "is_whole" = true)
    (kwh : PySem.W.keepIn K (.ref fwh) = true)
    (ana : PySem.W.nsIn K mainGlobals "is_name" = some (some (.ref fna)))
    (lna : K.lookup fna = some ⟨ocna, odna, .func (PySem.W.fnOf "is_name" "is_name" (defArgs sName) (defBody sName) (defScope sName) .none kVna dcna pmna anna cdna ctna), slna⟩)
    (cna : PySem.W.codeIn K cdna "is_name" = true)
    (kna : PySem.W.keepIn K (.ref fna) = true)
    (awi : PySem.W.nsIn K mainGlobals "is_width" = some (some (.ref fwi)))
    (lwi : K.lookup fwi = some ⟨ocwi, odwi, .func (PySem.W.fnOf "is_width" "is_width" (defArgs sWidth) (defBody sWidth) (defScope sWidth) .none kVwi dcwi pmwi anwi cdwi ctwi), slwi⟩)
    (cwi : PySem.W.codeIn K cdwi "is_width" = true)
    (kwi : PySem.W.keepIn K (.ref fwi) = true)
    (atr : PySem.W.nsIn K mainGlobals "is_truth" = some (some (.ref ftr)))
    (ltr : K.lookup ftr = some ⟨octr, odtr, .func (PySem.W.fnOf "is_truth" "is_truth" (defArgs sTruth) (defBody sTruth) (defScope sTruth) .none kVtr dctr pmtr antr cdtr cttr), sltr⟩)
    (ctr : PySem.W.codeIn K cdtr "is_truth" = true)
    (ktr : PySem.W.keepIn K (.ref ftr) = true)
    (aki : PySem.W.nsIn K mainGlobals "is_kind" = some (some (.ref fki)))
    (lki : K.lookup fki = some ⟨ocki, odki, .func (PySem.W.fnOf "is_kind" "is_kind" (defArgs sKind) (defBody sKind) (defScope sKind) .none kVki dcki pmki anki cdki ctki), slki⟩)
    (cki : PySem.W.codeIn K cdki "is_kind" = true)
    (kki : PySem.W.keepIn K (.ref fki) = true)
    (aiw : PySem.W.nsIn K mainGlobals "is_worth" = some (some (.ref fiw)))
    (liw : K.lookup fiw = some ⟨ociw, odiw, .func (PySem.W.fnOf "is_worth" "is_worth" (defArgs sIsWorth) (defBody sIsWorth) (defScope sIsWorth) .none kViw dciw pmiw aniw cdiw ctiw), sliw⟩)
    (ciw : PySem.W.codeIn K cdiw "is_worth" = true)
    (kiw : PySem.W.keepIn K (.ref fiw) = true)
    (agr : PySem.W.nsIn K mainGlobals "_greatest" = some (some (.ref fgr)))
    (lgr : K.lookup fgr = some ⟨ocgr, odgr, .func (PySem.W.fnOf "_greatest" "_greatest" (defArgs sGreat) (defBody sGreat) (defScope sGreat) .none kVgr dcgr pmgr angr cdgr ctgr), slgr⟩)
    (cgr : PySem.W.codeIn K cdgr "_greatest" = true)
    (kgr : PySem.W.keepIn K (.ref fgr) = true)
    (awo : PySem.W.nsIn K mainGlobals "_is_worth_of_width" = some (some (.ref fwo)))
    (lwo : K.lookup fwo = some ⟨ocwo, odwo, .func (PySem.W.fnOf "_is_worth_of_width" "_is_worth_of_width" (defArgs sWorthOf) (defBody sWorthOf) (defScope sWorthOf) .none kVwo dcwo pmwo anwo cdwo ctwo), slwo⟩)
    (cwo : PySem.W.codeIn K cdwo "_is_worth_of_width" = true)
    (kwo : PySem.W.keepIn K (.ref fwo) = true)
    (aar : PySem.W.nsIn K mainGlobals "_are_worths_of_width" = some (some (.ref far)))
    (lar : K.lookup far = some ⟨ocar, odar, .func (PySem.W.fnOf "_are_worths_of_width" "_are_worths_of_width" (defArgs sAre) (defBody sAre) (defScope sAre) .none kVar dcar pmar anar cdar ctar), slar⟩)
    (car : PySem.W.codeIn K cdar "_are_worths_of_width" = true)
    (kar : PySem.W.keepIn K (.ref far) = true)
    (air : PySem.W.nsIn K mainGlobals "is_right" = some (some (.ref fir)))
    (lir : K.lookup fir = some ⟨ocir, odir, .func (PySem.W.fnOf "is_right" "is_right" (defArgs sIsRight) (defBody sIsRight) (defScope sIsRight) .none kVir dcir pmir anir cdir ctir), slir⟩)
    (cir : PySem.W.codeIn K cdir "is_right" = true)
    (kir : PySem.W.keepIn K (.ref fir) = true)
    (apo : PySem.W.nsIn K mainGlobals "parts_of" = some (some (.ref fpo)))
    (lpo : K.lookup fpo = some ⟨ocpo, odpo, .func (PySem.W.fnOf "parts_of" "parts_of" (defArgs sPartsOf) (defBody sPartsOf) (defScope sPartsOf) .none kVpo dcpo pmpo anpo cdpo ctpo), slpo⟩)
    (cpo : PySem.W.codeIn K cdpo "parts_of" = true)
    (kpo : PySem.W.keepIn K (.ref fpo) = true)
    (ani : PySem.W.nsIn K mainGlobals "names_in" = some (some (.ref fni)))
    (lni : K.lookup fni = some ⟨ocni, odni, .func (PySem.W.fnOf "names_in" "names_in" (defArgs sNamesIn) (defBody sNamesIn) (defScope sNamesIn) .none kVni dcni pmni anni cdni ctni), slni⟩)
    (cni : PySem.W.codeIn K cdni "names_in" = true)
    (kni : PySem.W.keepIn K (.ref fni) = true)
    (ali : PySem.W.nsIn K mainGlobals "lasts_in" = some (some (.ref fli)))
    (lli : K.lookup fli = some ⟨ocli, odli, .func (PySem.W.fnOf "lasts_in" "lasts_in" (defArgs sLastsIn) (defBody sLastsIn) (defScope sLastsIn) .none kVli dcli pmli anli cdli ctli), slli⟩)
    (cli : PySem.W.codeIn K cdli "lasts_in" = true)
    (kli : PySem.W.keepIn K (.ref fli) = true)
    (asi1 : PySem.W.nsIn K mainGlobals "firsts_in" = some (some (.ref fsi1)))
    (lsi1 : K.lookup fsi1 = some ⟨ocsi1, odsi1, .func (PySem.W.fnOf "firsts_in" "firsts_in" (defArgs sFirstsIn) (defBody sFirstsIn) (defScope sFirstsIn) .none kVsi1 dcsi1 pmsi1 ansi1 cdsi1 ctsi1), slsi1⟩)
    (csi1 : PySem.W.codeIn K cdsi1 "firsts_in" = true)
    (ksi1 : PySem.W.keepIn K (.ref fsi1) = true)
    (ann : PySem.W.nsIn K mainGlobals "is_node_name" = some (some (.ref fnn)))
    (lnn : K.lookup fnn = some ⟨ocnn, odnn, .func (PySem.W.fnOf "is_node_name" "is_node_name" (defArgs sNodeName) (defBody sNodeName) (defScope sNodeName) .none kVnn dcnn pmnn annn cdnn ctnn), slnn⟩)
    (cnn : PySem.W.codeIn K cdnn "is_node_name" = true)
    (knn : PySem.W.keepIn K (.ref fnn) = true)
    (anr : PySem.W.nsIn K mainGlobals "_need_right" = some (some (.ref fnr)))
    (lnr : K.lookup fnr = some ⟨ocnr, odnr, .func (PySem.W.fnOf "_need_right" "_need_right" (defArgs sNeedRight) (defBody sNeedRight) (defScope sNeedRight) .none kVnr dcnr pmnr annr cdnr ctnr), slnr⟩)
    (cnr : PySem.W.codeIn K cdnr "_need_right" = true)
    (knr : PySem.W.keepIn K (.ref fnr) = true)
    (aic : PySem.W.nsIn K mainGlobals "is_call" = some (some (.ref fic)))
    (lic : K.lookup fic = some ⟨ocic, odic, .func (PySem.W.fnOf "is_call" "is_call" (defArgs sIsCall) (defBody sIsCall) (defScope sIsCall) .none kVic dcic pmic anic cdic ctic), slic⟩)
    (cic : PySem.W.codeIn K cdic "is_call" = true)
    (kic : PySem.W.keepIn K (.ref fic) = true)
    (aat : PySem.W.nsIn K mainGlobals "_are_terms" = some (some (.ref fat)))
    (lat : K.lookup fat = some ⟨ocat, odat, .func (PySem.W.fnOf "_are_terms" "_are_terms" (defArgs sAreTerms) (defBody sAreTerms) (defScope sAreTerms) .none kVat dcat pmat anat cdat ctat), slat⟩)
    (cat : PySem.W.codeIn K cdat "_are_terms" = true)
    (kat : PySem.W.keepIn K (.ref fat) = true)
    (afo : PySem.W.nsIn K mainGlobals "_is_formed" = some (some (.ref ffo)))
    (lfo : K.lookup ffo = some ⟨ocfo, odfo, .func (PySem.W.fnOf "_is_formed" "_is_formed" (defArgs sFormed) (defBody sFormed) (defScope sFormed) .none kVfo dcfo pmfo anfo cdfo ctfo), slfo⟩)
    (cfo : PySem.W.codeIn K cdfo "_is_formed" = true)
    (kfo : PySem.W.keepIn K (.ref ffo) = true)
    (afi : PySem.W.nsIn K mainGlobals "_fits" = some (some (.ref ffi)))
    (lfi : K.lookup ffi = some ⟨ocfi, odfi, .func (PySem.W.fnOf "_fits" "_fits" (defArgs sFits) (defBody sFits) (defScope sFits) .none kVfi dcfi pmfi anfi cdfi ctfi), slfi⟩)
    (cfi : PySem.W.codeIn K cdfi "_fits" = true)
    (kfi : PySem.W.keepIn K (.ref ffi) = true)
    (atw : PySem.W.nsIn K mainGlobals "terms_within" = some (some (.ref ftw)))
    (ltw : K.lookup ftw = some ⟨octw, odtw, .func (PySem.W.fnOf "terms_within" "terms_within" (defArgs sWithin) (defBody sWithin) (defScope sWithin) .none kVtw dctw pmtw antw cdtw cttw), sltw⟩)
    (ctw : PySem.W.codeIn K cdtw "terms_within" = true)
    (ktw : PySem.W.keepIn K (.ref ftw) = true)
    (apa : PySem.W.nsIn K mainGlobals "_parts" = some (some (.ref fpa)))
    (lpa : K.lookup fpa = some ⟨ocpa, odpa, .func (PySem.W.fnOf "_parts" "_parts" (defArgs sParts) (defBody sParts) (defScope sParts) .none kVpa dcpa pmpa anpa cdpa ctpa), slpa⟩)
    (cpa : PySem.W.codeIn K cdpa "_parts" = true)
    (kpa : PySem.W.keepIn K (.ref fpa) = true)
    (aeo : PySem.W.nsIn K mainGlobals "_each_once" = some (some (.ref feo)))
    (leo : K.lookup feo = some ⟨oceo, odeo, .func (PySem.W.fnOf "_each_once" "_each_once" (defArgs sOnce) (defBody sOnce) (defScope sOnce) .none kVeo dceo pmeo aneo cdeo cteo), sleo⟩)
    (ceo : PySem.W.codeIn K cdeo "_each_once" = true)
    (keo : PySem.W.keepIn K (.ref feo) = true)
    (ado : PySem.W.nsIn K mainGlobals "_is_dict_of" = some (some (.ref fdo)))
    (ldo : K.lookup fdo = some ⟨ocdo, oddo, .func (PySem.W.fnOf "_is_dict_of" "_is_dict_of" (defArgs sDictOf) (defBody sDictOf) (defScope sDictOf) .none kVdo dcdo pmdo ando cddo ctdo), sldo⟩)
    (cdo : PySem.W.codeIn K cddo "_is_dict_of" = true)
    (kdo : PySem.W.keepIn K (.ref fdo) = true)
    (aco : PySem.W.nsIn K mainGlobals "_called_otherwise" = some (some (.ref fco)))
    (lco : K.lookup fco = some ⟨occo, odco, .func (PySem.W.fnOf "_called_otherwise" "_called_otherwise" (defArgs sCalledO) (defBody sCalledO) (defScope sCalledO) .none kVco dcco pmco anco cdco ctco), slco⟩)
    (cco : PySem.W.codeIn K cdco "_called_otherwise" = true)
    (kco : PySem.W.keepIn K (.ref fco) = true)
    (aho : PySem.W.nsIn K mainGlobals "_held_otherwise" = some (some (.ref fho)))
    (lho : K.lookup fho = some ⟨ocho, odho, .func (PySem.W.fnOf "_held_otherwise" "_held_otherwise" (defArgs sHeldO) (defBody sHeldO) (defScope sHeldO) .none kVho dcho pmho anho cdho ctho), slho⟩)
    (cho : PySem.W.codeIn K cdho "_held_otherwise" = true)
    (kho : PySem.W.keepIn K (.ref fho) = true)
    (ace : PySem.W.nsIn K mainGlobals "_law_cell" = some (some (.ref fce)))
    (lce : K.lookup fce = some ⟨occe, odce, .func (PySem.W.fnOf "_law_cell" "_law_cell" (defArgs sCell) (defBody sCell) (defScope sCell) .none kVce dcce pmce ance cdce ctce), slce⟩)
    (cce : PySem.W.codeIn K cdce "_law_cell" = true)
    (kce : PySem.W.keepIn K (.ref fce) = true)
    (apu : PySem.W.nsIn K mainGlobals "_law_purse" = some (some (.ref fpu)))
    (lpu : K.lookup fpu = some ⟨ocpu, odpu, .func (PySem.W.fnOf "_law_purse" "_law_purse" (defArgs sPurse) (defBody sPurse) (defScope sPurse) .none kVpu dcpu pmpu anpu cdpu ctpu), slpu⟩)
    (cpu : PySem.W.codeIn K cdpu "_law_purse" = true)
    (kpu : PySem.W.keepIn K (.ref fpu) = true)
    (ata : PySem.W.nsIn K mainGlobals "_law_take" = some (some (.ref fta)))
    (lta : K.lookup fta = some ⟨octa, odta, .func (PySem.W.fnOf "_law_take" "_law_take" (defArgs sTake) (defBody sTake) (defScope sTake) .none kVta dcta pmta anta cdta ctta), slta⟩)
    (cta : PySem.W.codeIn K cdta "_law_take" = true)
    (kta : PySem.W.keepIn K (.ref fta) = true)
    (aof : PySem.W.nsIn K mainGlobals "_law_of" = some (some (.ref fof)))
    (lof : K.lookup fof = some ⟨ocof, odof, .func (PySem.W.fnOf "_law_of" "_law_of" (defArgs sOf) (defBody sOf) (defScope sOf) .none kVof dcof pmof anof cdof ctof), slof⟩)
    (cof : PySem.W.codeIn K cdof "_law_of" = true)
    (kof : PySem.W.keepIn K (.ref fof) = true)
    (aln : PySem.W.nsIn K mainGlobals "_law_name" = some (some (.ref fln)))
    (lln : K.lookup fln = some ⟨ocln, odln, .func (PySem.W.fnOf "_law_name" "_law_name" (defArgs sLName) (defBody sLName) (defScope sLName) .none kVln dcln pmln anln cdln ctln), slln⟩)
    (cln : PySem.W.codeIn K cdln "_law_name" = true)
    (kln : PySem.W.keepIn K (.ref fln) = true)
    (alk : PySem.W.nsIn K mainGlobals "_law_kind" = some (some (.ref flk)))
    (llk : K.lookup flk = some ⟨oclk, odlk, .func (PySem.W.fnOf "_law_kind" "_law_kind" (defArgs sLKind) (defBody sLKind) (defScope sLKind) .none kVlk dclk pmlk anlk cdlk ctlk), sllk⟩)
    (clk : PySem.W.codeIn K cdlk "_law_kind" = true)
    (klk : PySem.W.keepIn K (.ref flk) = true)
    (alw : PySem.W.nsIn K mainGlobals "_law_worth" = some (some (.ref flw)))
    (llw : K.lookup flw = some ⟨oclw, odlw, .func (PySem.W.fnOf "_law_worth" "_law_worth" (defArgs sLWorth) (defBody sLWorth) (defScope sLWorth) .none kVlw dclw pmlw anlw cdlw ctlw), sllw⟩)
    (clw : PySem.W.codeIn K cdlw "_law_worth" = true)
    (klw : PySem.W.keepIn K (.ref flw) = true)
    (aan : PySem.W.nsIn K mainGlobals "_law_any" = some (some (.ref fan)))
    (lan : K.lookup fan = some ⟨ocan, odan, .func (PySem.W.fnOf "_law_any" "_law_any" (defArgs sAny) (defBody sAny) (defScope sAny) .none kVan dcan pman anan cdan ctan), slan⟩)
    (can : PySem.W.codeIn K cdan "_law_any" = true)
    (kan : PySem.W.keepIn K (.ref fan) = true)
    (asi : PySem.W.nsIn K mainGlobals "_law_side" = some (some (.ref fsi)))
    (lsi : K.lookup fsi = some ⟨ocsi, odsi, .func (PySem.W.fnOf "_law_side" "_law_side" (defArgs sSide) (defBody sSide) (defScope sSide) .none kVsi dcsi pmsi ansi cdsi ctsi), slsi⟩)
    (csi : PySem.W.codeIn K cdsi "_law_side" = true)
    (ksi : PySem.W.keepIn K (.ref fsi) = true)
    (anm2 : PySem.W.nsIn K mainGlobals "_law_named" = some (some (.ref fnm2)))
    (lnm2 : K.lookup fnm2 = some ⟨ocnm2, odnm2, .func (PySem.W.fnOf "_law_named" "_law_named" (defArgs sLNamed) (defBody sLNamed) (defScope sLNamed) .none kVnm2 dcnm2 pmnm2 annm2 cdnm2 ctnm2), slnm2⟩)
    (cnm2 : PySem.W.codeIn K cdnm2 "_law_named" = true)
    (knm2 : PySem.W.keepIn K (.ref fnm2) = true)
    (alo : PySem.W.nsIn K mainGlobals "_law_once" = some (some (.ref flo)))
    (llo : K.lookup flo = some ⟨oclo, odlo, .func (PySem.W.fnOf "_law_once" "_law_once" (defArgs sLOnce) (defBody sLOnce) (defScope sLOnce) .none kVlo dclo pmlo anlo cdlo ctlo), sllo⟩)
    (clo : PySem.W.codeIn K cdlo "_law_once" = true)
    (klo : PySem.W.keepIn K (.ref flo) = true)
    (alc : PySem.W.nsIn K mainGlobals "_law_called" = some (some (.ref flc)))
    (llc : K.lookup flc = some ⟨oclc, odlc, .func (PySem.W.fnOf "_law_called" "_law_called" (defArgs sLCalled) (defBody sLCalled) (defScope sLCalled) .none kVlc dclc pmlc anlc cdlc ctlc), sllc⟩)
    (clc : PySem.W.codeIn K cdlc "_law_called" = true)
    (klc : PySem.W.keepIn K (.ref flc) = true)
    (altc : PySem.W.nsIn K mainGlobals "_law_term_called" = some (some (.ref fltc)))
    (lltc : K.lookup fltc = some ⟨ocltc, odltc, .func (PySem.W.fnOf "_law_term_called" "_law_term_called" (defArgs sLTermC) (defBody sLTermC) (defScope sLTermC) .none kVltc dcltc pmltc anltc cdltc ctltc), slltc⟩)
    (cltc : PySem.W.codeIn K cdltc "_law_term_called" = true)
    (kltc : PySem.W.keepIn K (.ref fltc) = true)
    (alsc : PySem.W.nsIn K mainGlobals "_law_side_called" = some (some (.ref flsc)))
    (llsc : K.lookup flsc = some ⟨oclsc, odlsc, .func (PySem.W.fnOf "_law_side_called" "_law_side_called" (defArgs sLSideC) (defBody sLSideC) (defScope sLSideC) .none kVlsc dclsc pmlsc anlsc cdlsc ctlsc), sllsc⟩)
    (clsc : PySem.W.codeIn K cdlsc "_law_side_called" = true)
    (klsc : PySem.W.keepIn K (.ref flsc) = true)
    (aas : PySem.W.nsIn K mainGlobals "_law_asked" = some (some (.ref fas)))
    (las : K.lookup fas = some ⟨ocas, odas, .func (PySem.W.fnOf "_law_asked" "_law_asked" (defArgs sAsked) (defBody sAsked) (defScope sAsked) .none kVas dcas pmas anas cdas ctas), slas⟩)
    (cas : PySem.W.codeIn K cdas "_law_asked" = true)
    (kas : PySem.W.keepIn K (.ref fas) = true)
    (arf : PySem.W.nsIn K mainGlobals "_law_refused_right" = some (some (.ref frf)))
    (lrf : K.lookup frf = some ⟨ocrf, odrf, .func (PySem.W.fnOf "_law_refused_right" "_law_refused_right" (defArgs sLRefused) (defBody sLRefused) (defScope sLRefused) .none kVrf dcrf pmrf anrf cdrf ctrf), slrf⟩)
    (crf : PySem.W.codeIn K cdrf "_law_refused_right" = true)
    (krf : PySem.W.keepIn K (.ref frf) = true)
    (all : PySem.W.nsIn K mainGlobals "_law_lists_right" = some (some (.ref fll)))
    (lll : K.lookup fll = some ⟨ocll, odll, .func (PySem.W.fnOf "_law_lists_right" "_law_lists_right" (defArgs sLLists) (defBody sLLists) (defScope sLLists) .none kVll dcll pmll anll cdll ctll), slll⟩)
    (cll : PySem.W.codeIn K cdll "_law_lists_right" = true)
    (kll : PySem.W.keepIn K (.ref fll) = true)
    (ala : PySem.W.nsIn K mainGlobals "law" = some (some (.ref fla)))
    (lla : K.lookup fla = some ⟨ocla, odla, .func (PySem.W.fnOf "law" "law" (defArgs sLaw) (defBody sLaw) (defScope sLaw) .none kVla dcla pmla anla cdla ctla), slla⟩)
    (cla : PySem.W.codeIn K cdla "law" = true)
    (kla : PySem.W.keepIn K (.ref fla) = true)
    (aR : PySem.W.nsIn K mainGlobals "renamed" = some (some (.ref fR)))
    (lR : K.lookup fR = some ⟨ocR, odR, .func (PySem.W.fnOf "renamed" "renamed" (defArgs sRenamed) (defBody sRenamed) (defScope sRenamed) .none (.ref kD) dcR pmR anR cdR ctR), slR⟩)
    (cR : PySem.W.codeIn K cdR "renamed" = true)
    (kR : PySem.W.keepIn K (.ref fR) = true)
    (kwN : PySem.W.nsIn K kD "nodes" = some (some .none))
    (gdF : PySem.W.nsIn K mainGlobals "FORMS" = some (some (.ref dF)))
    (ldF : K.lookup dF = some ⟨.type "dict", none, .dict esdF ndF, #[]⟩)
    (ydF : PySem.W.KeysLit w.params esdF.toList)
    (lowdF : (dF == sysModules) = false)
    (wdF : Rows esdF.toList [("lit", V.ref qdF0), ("name", V.ref qdF1), ("last", V.ref qdF2), ("first", V.ref qdF3), ("not", V.ref qdF4), ("and", V.ref qdF5), ("or", V.ref qdF6), ("xor", V.ref qdF7), ("add", V.ref qdF8), ("sub", V.ref qdF9), ("less", V.ref qdF10), ("same", V.ref qdF11), ("wide", V.ref qdF12), ("bit", V.ref qdF13), ("pick", V.ref qdF14), ("when", V.ref qdF15), ("merge", V.ref qdF16), ("row", V.ref qdF17), ("at", V.ref qdF18), ("call", V.ref qdF19), ("map", V.ref qdF20), ("fold", V.ref qdF21), ("pairs", V.ref qdF22)])
    (lqdF0t : K.lookup qdF0 = some ⟨.type "tuple", odqdF0t, .seq #[.str "kind" twqdF0x0, .str "worth" twqdF0x1] nqdF0t, slqdF0t⟩)
    (lqdF1t : K.lookup qdF1 = some ⟨.type "tuple", odqdF1t, .seq #[.str "name" twqdF1x0] nqdF1t, slqdF1t⟩)
    (lqdF2t : K.lookup qdF2 = some ⟨.type "tuple", odqdF2t, .seq #[.str "name" twqdF2x0] nqdF2t, slqdF2t⟩)
    (lqdF3t : K.lookup qdF3 = some ⟨.type "tuple", odqdF3t, .seq #[.str "term" twqdF3x0, .str "term" twqdF3x1] nqdF3t, slqdF3t⟩)
    (lqdF4t : K.lookup qdF4 = some ⟨.type "tuple", odqdF4t, .seq #[.str "term" twqdF4x0] nqdF4t, slqdF4t⟩)
    (lqdF5t : K.lookup qdF5 = some ⟨.type "tuple", odqdF5t, .seq #[.str "term" twqdF5x0, .str "term" twqdF5x1] nqdF5t, slqdF5t⟩)
    (lqdF6t : K.lookup qdF6 = some ⟨.type "tuple", odqdF6t, .seq #[.str "term" twqdF6x0, .str "term" twqdF6x1] nqdF6t, slqdF6t⟩)
    (lqdF7t : K.lookup qdF7 = some ⟨.type "tuple", odqdF7t, .seq #[.str "term" twqdF7x0, .str "term" twqdF7x1] nqdF7t, slqdF7t⟩)
    (lqdF8t : K.lookup qdF8 = some ⟨.type "tuple", odqdF8t, .seq #[.str "term" twqdF8x0, .str "term" twqdF8x1] nqdF8t, slqdF8t⟩)
    (lqdF9t : K.lookup qdF9 = some ⟨.type "tuple", odqdF9t, .seq #[.str "term" twqdF9x0, .str "term" twqdF9x1] nqdF9t, slqdF9t⟩)
    (lqdF10t : K.lookup qdF10 = some ⟨.type "tuple", odqdF10t, .seq #[.str "term" twqdF10x0, .str "term" twqdF10x1] nqdF10t, slqdF10t⟩)
    (lqdF11t : K.lookup qdF11 = some ⟨.type "tuple", odqdF11t, .seq #[.str "term" twqdF11x0, .str "term" twqdF11x1] nqdF11t, slqdF11t⟩)
    (lqdF12t : K.lookup qdF12 = some ⟨.type "tuple", odqdF12t, .seq #[.str "width" twqdF12x0, .str "term" twqdF12x1] nqdF12t, slqdF12t⟩)
    (lqdF13t : K.lookup qdF13 = some ⟨.type "tuple", odqdF13t, .seq #[.str "bit" twqdF13x0, .str "term" twqdF13x1] nqdF13t, slqdF13t⟩)
    (lqdF14t : K.lookup qdF14 = some ⟨.type "tuple", odqdF14t, .seq #[.str "term" twqdF14x0, .str "term" twqdF14x1, .str "term" twqdF14x2] nqdF14t, slqdF14t⟩)
    (lqdF15t : K.lookup qdF15 = some ⟨.type "tuple", odqdF15t, .seq #[.str "term" twqdF15x0, .str "name" twqdF15x1, .str "truth" twqdF15x2] nqdF15t, slqdF15t⟩)
    (lqdF16t : K.lookup qdF16 = some ⟨.type "tuple", odqdF16t, .seq #[.str "name" twqdF16x0, .str "term" twqdF16x1, .str "term" twqdF16x2] nqdF16t, slqdF16t⟩)
    (lqdF17t : K.lookup qdF17 = some ⟨.type "tuple", odqdF17t, .seq #[.str "parts" twqdF17x0] nqdF17t, slqdF17t⟩)
    (lqdF18t : K.lookup qdF18 = some ⟨.type "tuple", odqdF18t, .seq #[.str "place" twqdF18x0, .str "term" twqdF18x1] nqdF18t, slqdF18t⟩)
    (lqdF19t : K.lookup qdF19 = some ⟨.type "tuple", odqdF19t, .seq #[.str "node" twqdF19x0, .str "args" twqdF19x1, .str "every" twqdF19x2] nqdF19t, slqdF19t⟩)
    (lqdF20t : K.lookup qdF20 = some ⟨.type "tuple", odqdF20t, .seq #[.str "node" twqdF20x0, .str "rows" twqdF20x1, .str "every" twqdF20x2] nqdF20t, slqdF20t⟩)
    (lqdF21t : K.lookup qdF21 = some ⟨.type "tuple", odqdF21t, .seq #[.str "node" twqdF21x0, .str "term" twqdF21x1, .str "rows" twqdF21x2, .str "every" twqdF21x3] nqdF21t, slqdF21t⟩)
    (lqdF22t : K.lookup qdF22 = some ⟨.type "tuple", odqdF22t, .seq #[.str "node" twqdF22x0, .str "term" twqdF22x1, .str "every" twqdF22x2] nqdF22t, slqdF22t⟩)
    (gdS : PySem.W.nsIn K mainGlobals "SLOTS_OF_TERMS" = some (some (.ref dS)))
    (ldS : K.lookup dS = some ⟨.type "dict", none, .dict esdS ndS, #[]⟩)
    (ydS : PySem.W.KeysLit w.params esdS.toList)
    (lowdS : (dS == sysModules) = false)
    (wdS : Rows esdS.toList [("parts", V.ref qdS0), ("args", V.ref qdS1), ("rows", V.ref qdS2)])
    (lqdS0t : K.lookup qdS0 = some ⟨.type "tuple", odqdS0t, .seq #[.int 2 twqdS0x0, .int 4 twqdS0x1] nqdS0t, slqdS0t⟩)
    (lqdS1t : K.lookup qdS1 = some ⟨.type "tuple", odqdS1t, .seq #[.int 0 twqdS1x0, .int 6 twqdS1x1] nqdS1t, slqdS1t⟩)
    (lqdS2t : K.lookup qdS2 = some ⟨.type "tuple", odqdS2t, .seq #[.int 1 twqdS2x0, .int 4 twqdS2x1] nqdS2t, slqdS2t⟩)
    (gdC : PySem.W.nsIn K mainGlobals "CALLS" = some (some (.ref dC)))
    (ldCt : K.lookup dC = some ⟨.type "tuple", oddCt, .seq #[.str "call" twdCx0, .str "map" twdCx1, .str "fold" twdCx2, .str "pairs" twdCx3] ndCt, sldCt⟩)
    (aF : PySem.W.nsIn K mainGlobals "FlowError" = some (some (.ref CF)))
    (rF : PySem.W.readsIn K CF (.type "type") = true)
    (gF : PySem.W.specialIn K (.ref CF) "__getattribute__" = some (some (.builtin "type.__getattribute__")))
    (vF : PySem.W.findCls K (.ref CF) (.type "type") "__init__" = some (.val (.ref fF)))
    (lF : K.lookup fF = some ⟨ocF, odF, .func (PySem.W.fnOf "__init__" "FlowError.__init__" (defArgs sFE) (defBody sFE) (defScope sFE) .none kVF dcF pmF anF cdF ctF), slF⟩)
    (cF : PySem.W.codeIn K cdF "FlowError.__init__" = true)
    (kF : PySem.W.keepIn K (.ref fF) = true)
    (vV : PySem.W.findCls K (.type "ValueError") (.type "type") "__init__" = some (.val (.builtin "ValueError.__init__")))
    (aT : PySem.W.nsIn K mainGlobals "NoTerm" = some (some (.ref CT)))
    (xT : K.lookup CT = some (excClassObj nmT qT CT NT bsT bmT true snT subT abT colT ddT m0T m1T m2T m3T m5T "ValueError.__new__"))
    (veT : PySem.HandSPX.refsVE bmT = true)
    (saT : PySem.W.findIn K (.ref CT) "__setattr__" = some (some (.builtin "object.__setattr__")))
    (gaT : PySem.W.findIn K (.ref CT) "__getattribute__" = some (some (.builtin "BaseException.__getattribute__")))
    (ggT : PySem.W.findIn K (.ref CT) "__getattr__" = some none)
    (nfT : PySem.W.findIn K (.ref CT) "found" = some none)
    (iT : PySem.W.findIn K (.ref CT) "__init__" = some (some (.ref fT)))
    (tT : PySem.W.typeIn K (.ref fT) = some (.type "function"))
    (lT : K.lookup fT = some ⟨ocT, odT, .func (PySem.W.fnOf "__init__" "NoTerm.__init__" (defArgs sNT) (defBody sNT) (defScope sNT) .none kVT dcT pmT anT cdT ctT), slT⟩)
    (cT : PySem.W.codeIn K cdT "NoTerm.__init__" = true)
    (kT : PySem.W.keepIn K (.ref fT) = true)
    (kCT : PySem.W.keepIn K (.ref CT) = true)
    (eCT : PySem.W.subIn K (.ref CT) (.type "BaseException") = some true)
    (tCT : PySem.W.typeIn K (.ref CT) = some (.type "type"))
    (hCT : PySem.W.hasDictIn K CT = true)
    (aN : PySem.W.nsIn K mainGlobals "NoNames" = some (some (.ref CN)))
    (xN : K.lookup CN = some (excClassObj nmN qN CN NN bsN bmN true snN subN abN colN ddN m0N m1N m2N m3N m5N "ValueError.__new__"))
    (veN : PySem.HandSPX.refsVE bmN = true)
    (saN : PySem.W.findIn K (.ref CN) "__setattr__" = some (some (.builtin "object.__setattr__")))
    (gaN : PySem.W.findIn K (.ref CN) "__getattribute__" = some (some (.builtin "BaseException.__getattribute__")))
    (ggN : PySem.W.findIn K (.ref CN) "__getattr__" = some none)
    (nfN : PySem.W.findIn K (.ref CN) "found" = some none)
    (iN : PySem.W.findIn K (.ref CN) "__init__" = some (some (.ref fN)))
    (tN : PySem.W.typeIn K (.ref fN) = some (.type "function"))
    (lN : K.lookup fN = some ⟨ocN, odN, .func (PySem.W.fnOf "__init__" "NoNames.__init__" (defArgs sNN) (defBody sNN) (defScope sNN) .none kVN dcN pmN anN cdN ctN), slN⟩)
    (cN : PySem.W.codeIn K cdN "NoNames.__init__" = true)
    (kN : PySem.W.keepIn K (.ref fN) = true)
    (kCN : PySem.W.keepIn K (.ref CN) = true)
    (eCN : PySem.W.subIn K (.ref CN) (.type "BaseException") = some true)
    (tCN : PySem.W.typeIn K (.ref CN) = some (.type "type"))
    (hCN : PySem.W.hasDictIn K CN = true)
    (uTT : PySem.W.subIn K (.ref CT) (.ref CT) = some true)
    (uNT : PySem.W.subIn K (.ref CN) (.ref CT) = some false)
    (uNN : PySem.W.subIn K (.ref CN) (.ref CN) = some true)
    (zisinstance : PySem.W.nsIn K mainGlobals "isinstance" = some none)
    (zint : PySem.W.nsIn K mainGlobals "int" = some none)
    (zbool : PySem.W.nsIn K mainGlobals "bool" = some none)
    (zlist : PySem.W.nsIn K mainGlobals "list" = some none)
    (ztuple : PySem.W.nsIn K mainGlobals "tuple" = some none)
    (zrange : PySem.W.nsIn K mainGlobals "range" = some none)
    (zlen : PySem.W.nsIn K mainGlobals "len" = some none)
    (zall : PySem.W.nsIn K mainGlobals "all" = some none)
    (zValueError : PySem.W.nsIn K mainGlobals "ValueError" = some none)
    (zmax : PySem.W.nsIn K mainGlobals "max" = some none)
    (zmin : PySem.W.nsIn K mainGlobals "min" = some none)
    (zrepr : PySem.W.nsIn K mainGlobals "repr" = some none)
    (zzip : PySem.W.nsIn K mainGlobals "zip" = some none)
    (zstr : PySem.W.nsIn K mainGlobals "str" = some none)
    (zdict : PySem.W.nsIn K mainGlobals "dict" = some none)
    (zenumerate : PySem.W.nsIn K mainGlobals "enumerate" = some none) :
    ∃ fd : FuncData, (∀ (s : Shared) (v : Value), BindsTo s fd ⟨[v], []⟩ [("_law_script", v)]) ∧ ∀ base : Heap, K.In base → base.Ns mainGlobals mg → FnG l.prog w K mg base CX0 25 fa fd ["_law_script"] (spLaw K) := by
  have e := hfa.symm.trans (PySem.W.mg_of X G ala)
  cases e
  have Fnb := fun_mk (st := sNumber) lnb cnb knb
  have bnb := Fnb.binds (ps := ["thing"]) fun _ _ _ _ _ _ us hl => match us, hl with | [_], _ => rfl
  have Dnb : Df K mg "is_number" fnb _ ["thing"] := ⟨PySem.W.mg_of X G anb, knb, bnb⟩
  have Fwh := fun_mk (st := sWhole) lwh cwh kwh
  have bwh := Fwh.binds (ps := ["thing", "low", "high"]) fun _ _ _ _ _ _ us hl => match us, hl with | [_, _, _], _ => rfl
  have Dwh : Df K mg "is_whole" fwh _ ["thing", "low", "high"] := ⟨PySem.W.mg_of X G awh, kwh, bwh⟩
  have Fna := fun_mk (st := sName) lna cna kna
  have bna := Fna.binds (ps := ["thing"]) fun _ _ _ _ _ _ us hl => match us, hl with | [_], _ => rfl
  have Dna : Df K mg "is_name" fna _ ["thing"] := ⟨PySem.W.mg_of X G ana, kna, bna⟩
  have Fwi := fun_mk (st := sWidth) lwi cwi kwi
  have bwi := Fwi.binds (ps := ["thing"]) fun _ _ _ _ _ _ us hl => match us, hl with | [_], _ => rfl
  have Dwi : Df K mg "is_width" fwi _ ["thing"] := ⟨PySem.W.mg_of X G awi, kwi, bwi⟩
  have Ftr := fun_mk (st := sTruth) ltr ctr ktr
  have btr := Ftr.binds (ps := ["thing"]) fun _ _ _ _ _ _ us hl => match us, hl with | [_], _ => rfl
  have Dtr : Df K mg "is_truth" ftr _ ["thing"] := ⟨PySem.W.mg_of X G atr, ktr, btr⟩
  have Fki := fun_mk (st := sKind) lki cki kki
  have bki := Fki.binds (ps := ["thing"]) fun _ _ _ _ _ _ us hl => match us, hl with | [_], _ => rfl
  have Dki : Df K mg "is_kind" fki _ ["thing"] := ⟨PySem.W.mg_of X G aki, kki, bki⟩
  have Fiw := fun_mk (st := sIsWorth) liw ciw kiw
  have biw := Fiw.binds (ps := ["thing", "kind"]) fun _ _ _ _ _ _ us hl => match us, hl with | [_, _], _ => rfl
  have Diw : Df K mg "is_worth" fiw _ ["thing", "kind"] := ⟨PySem.W.mg_of X G aiw, kiw, biw⟩
  have Fgr := fun_mk (st := sGreat) lgr cgr kgr
  have bgr := Fgr.binds (ps := ["width"]) fun _ _ _ _ _ _ us hl => match us, hl with | [_], _ => rfl
  have Dgr : Df K mg "_greatest" fgr _ ["width"] := ⟨PySem.W.mg_of X G agr, kgr, bgr⟩
  have Fwo := fun_mk (st := sWorthOf) lwo cwo kwo
  have bwo := Fwo.binds (ps := ["thing", "width"]) fun _ _ _ _ _ _ us hl => match us, hl with | [_, _], _ => rfl
  have Dwo : Df K mg "_is_worth_of_width" fwo _ ["thing", "width"] := ⟨PySem.W.mg_of X G awo, kwo, bwo⟩
  have Far := fun_mk (st := sAre) lar car kar
  have bar := Far.binds (ps := ["things", "width"]) fun _ _ _ _ _ _ us hl => match us, hl with | [_, _], _ => rfl
  have Dar : Df K mg "_are_worths_of_width" far _ ["things", "width"] := ⟨PySem.W.mg_of X G aar, kar, bar⟩
  have Fir := fun_mk (st := sIsRight) lir cir kir
  have bir := Fir.binds (ps := ["thing"]) fun _ _ _ _ _ _ us hl => match us, hl with | [_], _ => rfl
  have Dir : Df K mg "is_right" fir _ ["thing"] := ⟨PySem.W.mg_of X G air, kir, bir⟩
  have Fpo := fun_mk (st := sPartsOf) lpo cpo kpo
  have bpo := Fpo.binds (ps := ["right"]) fun _ _ _ _ _ _ us hl => match us, hl with | [_], _ => rfl
  have Dpo : Df K mg "parts_of" fpo _ ["right"] := ⟨PySem.W.mg_of X G apo, kpo, bpo⟩
  have Fni := fun_mk (st := sNamesIn) lni cni kni
  have bni := Fni.binds (ps := ["right"]) fun _ _ _ _ _ _ us hl => match us, hl with | [_], _ => rfl
  have Dni : Df K mg "names_in" fni _ ["right"] := ⟨PySem.W.mg_of X G ani, kni, bni⟩
  have Fli := fun_mk (st := sLastsIn) lli cli kli
  have bli := Fli.binds (ps := ["right"]) fun _ _ _ _ _ _ us hl => match us, hl with | [_], _ => rfl
  have Dli : Df K mg "lasts_in" fli _ ["right"] := ⟨PySem.W.mg_of X G ali, kli, bli⟩
  have Fsi1 := fun_mk (st := sFirstsIn) lsi1 csi1 ksi1
  have bsi1 := Fsi1.binds (ps := ["right"]) fun _ _ _ _ _ _ us hl => match us, hl with | [_], _ => rfl
  have Dsi1 : Df K mg "firsts_in" fsi1 _ ["right"] := ⟨PySem.W.mg_of X G asi1, ksi1, bsi1⟩
  have Fnn := fun_mk (st := sNodeName) lnn cnn knn
  have bnn := Fnn.binds (ps := ["thing"]) fun _ _ _ _ _ _ us hl => match us, hl with | [_], _ => rfl
  have Dnn : Df K mg "is_node_name" fnn _ ["thing"] := ⟨PySem.W.mg_of X G ann, knn, bnn⟩
  have Fnr := fun_mk (st := sNeedRight) lnr cnr knr
  have bnr := Fnr.binds (ps := ["thing"]) fun _ _ _ _ _ _ us hl => match us, hl with | [_], _ => rfl
  have Dnr : Df K mg "_need_right" fnr _ ["thing"] := ⟨PySem.W.mg_of X G anr, knr, bnr⟩
  have Fic := fun_mk (st := sIsCall) lic cic kic
  have bic := Fic.binds (ps := ["right"]) fun _ _ _ _ _ _ us hl => match us, hl with | [_], _ => rfl
  have Dic : Df K mg "is_call" fic _ ["right"] := ⟨PySem.W.mg_of X G aic, kic, bic⟩
  have Fat := fun_mk (st := sAreTerms) lat cat kat
  have bat := Fat.binds (ps := ["things"]) fun _ _ _ _ _ _ us hl => match us, hl with | [_], _ => rfl
  have Dat : Df K mg "_are_terms" fat _ ["things"] := ⟨PySem.W.mg_of X G aat, kat, bat⟩
  have Ffo := fun_mk (st := sFormed) lfo cfo kfo
  have bfo := Ffo.binds (ps := ["thing"]) fun _ _ _ _ _ _ us hl => match us, hl with | [_], _ => rfl
  have Dfo : Df K mg "_is_formed" ffo _ ["thing"] := ⟨PySem.W.mg_of X G afo, kfo, bfo⟩
  have Ffi := fun_mk (st := sFits) lfi cfi kfi
  have bfi := Ffi.binds (ps := ["slot", "thing"]) fun _ _ _ _ _ _ us hl => match us, hl with | [_, _], _ => rfl
  have Dfi : Df K mg "_fits" ffi _ ["slot", "thing"] := ⟨PySem.W.mg_of X G afi, kfi, bfi⟩
  have Ftw := fun_mk (st := sWithin) ltw ctw ktw
  have btw := Ftw.binds (ps := ["right"]) fun _ _ _ _ _ _ us hl => match us, hl with | [_], _ => rfl
  have Dtw : Df K mg "terms_within" ftw _ ["right"] := ⟨PySem.W.mg_of X G atw, ktw, btw⟩
  have Fpa := fun_mk (st := sParts) lpa cpa kpa
  have bpa := Fpa.binds (ps := ["right"]) fun _ _ _ _ _ _ us hl => match us, hl with | [_], _ => rfl
  have Dpa : Df K mg "_parts" fpa _ ["right"] := ⟨PySem.W.mg_of X G apa, kpa, bpa⟩
  have Feo := fun_mk (st := sOnce) leo ceo keo
  have beo := Feo.binds (ps := ["names"]) fun _ _ _ _ _ _ us hl => match us, hl with | [_], _ => rfl
  have Deo : Df K mg "_each_once" feo _ ["names"] := ⟨PySem.W.mg_of X G aeo, keo, beo⟩
  have Fdo := fun_mk (st := sDictOf) ldo cdo kdo
  have bdo := Fdo.binds (ps := ["thing", "is_good"]) fun _ _ _ _ _ _ us hl => match us, hl with | [_, _], _ => rfl
  have Ddo : Df K mg "_is_dict_of" fdo _ ["thing", "is_good"] := ⟨PySem.W.mg_of X G ado, kdo, bdo⟩
  have Fco := fun_mk (st := sCalledO) lco cco kco
  have bco := Fco.binds (ps := ["right", "names", "nodes"]) fun _ _ _ _ _ _ us hl => match us, hl with | [_, _, _], _ => rfl
  have Dco : Df K mg "_called_otherwise" fco _ ["right", "names", "nodes"] := ⟨PySem.W.mg_of X G aco, kco, bco⟩
  have Fho := fun_mk (st := sHeldO) lho cho kho
  have bho := Fho.binds (ps := ["slot", "held", "names", "nodes"]) fun _ _ _ _ _ _ us hl => match us, hl with | [_, _, _, _], _ => rfl
  have Dho : Df K mg "_held_otherwise" fho _ ["slot", "held", "names", "nodes"] := ⟨PySem.W.mg_of X G aho, kho, bho⟩
  have Fce := fun_mk (st := sCell) lce cce kce
  have bce := Fce.binds (ps := ["_law_script", "_law_k"]) fun _ _ _ _ _ _ us hl => match us, hl with | [_, _], _ => rfl
  have Dce : Df K mg "_law_cell" fce _ ["_law_script", "_law_k"] := ⟨PySem.W.mg_of X G ace, kce, bce⟩
  have Fpu := fun_mk (st := sPurse) lpu cpu kpu
  have bpu := Fpu.binds (ps := ["_law_cell_here"]) fun _ _ _ _ _ _ us hl => match us, hl with | [_], _ => rfl
  have Dpu : Df K mg "_law_purse" fpu _ ["_law_cell_here"] := ⟨PySem.W.mg_of X G apu, kpu, bpu⟩
  have Fta := fun_mk (st := sTake) lta cta kta
  have bta := Fta.binds (ps := ["_law_purse_here", "_law_many"]) fun _ _ _ _ _ _ us hl => match us, hl with | [_, _], _ => rfl
  have Dta : Df K mg "_law_take" fta _ ["_law_purse_here", "_law_many"] := ⟨PySem.W.mg_of X G ata, kta, bta⟩
  have Fof := fun_mk (st := sOf) lof cof kof
  have bof := Fof.binds (ps := ["_law_purse_here", "_law_some"]) fun _ _ _ _ _ _ us hl => match us, hl with | [_, _], _ => rfl
  have Dof : Df K mg "_law_of" fof _ ["_law_purse_here", "_law_some"] := ⟨PySem.W.mg_of X G aof, kof, bof⟩
  have Fln := fun_mk (st := sLName) lln cln kln
  have bln := Fln.binds (ps := ["_law_purse_here"]) fun _ _ _ _ _ _ us hl => match us, hl with | [_], _ => rfl
  have Dln : Df K mg "_law_name" fln _ ["_law_purse_here"] := ⟨PySem.W.mg_of X G aln, kln, bln⟩
  have Flk := fun_mk (st := sLKind) llk clk klk
  have blk := Flk.binds (ps := ["_law_purse_here"]) fun _ _ _ _ _ _ us hl => match us, hl with | [_], _ => rfl
  have Dlk : Df K mg "_law_kind" flk _ ["_law_purse_here"] := ⟨PySem.W.mg_of X G alk, klk, blk⟩
  have Flw := fun_mk (st := sLWorth) llw clw klw
  have blw := Flw.binds (ps := ["_law_purse_here", "_law_kind_here"]) fun _ _ _ _ _ _ us hl => match us, hl with | [_, _], _ => rfl
  have Dlw : Df K mg "_law_worth" flw _ ["_law_purse_here", "_law_kind_here"] := ⟨PySem.W.mg_of X G alw, klw, blw⟩
  have Fan := fun_mk (st := sAny) lan can kan
  have ban := Fan.binds (ps := ["_law_purse_here", "_law_deep"]) fun _ _ _ _ _ _ us hl => match us, hl with | [_, _], _ => rfl
  have Dan : Df K mg "_law_any" fan _ ["_law_purse_here", "_law_deep"] := ⟨PySem.W.mg_of X G aan, kan, ban⟩
  have Fsi := fun_mk (st := sSide) lsi csi ksi
  have bsi := Fsi.binds (ps := ["_law_purse_here", "_law_deep"]) fun _ _ _ _ _ _ us hl => match us, hl with | [_, _], _ => rfl
  have Dsi : Df K mg "_law_side" fsi _ ["_law_purse_here", "_law_deep"] := ⟨PySem.W.mg_of X G asi, ksi, bsi⟩
  have Fnm2 := fun_mk (st := sLNamed) lnm2 cnm2 knm2
  have bnm2 := Fnm2.binds (ps := ["_law_part"]) fun _ _ _ _ _ _ us hl => match us, hl with | [_], _ => rfl
  have Dnm2 : Df K mg "_law_named" fnm2 _ ["_law_part"] := ⟨PySem.W.mg_of X G anm2, knm2, bnm2⟩
  have Flo := fun_mk (st := sLOnce) llo clo klo
  have blo := Flo.binds (ps := ["_law_names"]) fun _ _ _ _ _ _ us hl => match us, hl with | [_], _ => rfl
  have Dlo : Df K mg "_law_once" flo _ ["_law_names"] := ⟨PySem.W.mg_of X G alo, klo, blo⟩
  have Flc := fun_mk (st := sLCalled) llc clc klc
  have blc := Flc.binds (ps := ["_law_thing", "_law_one"]) fun _ _ _ _ _ _ us hl => match us, hl with | [_, _], _ => rfl
  have Dlc : Df K mg "_law_called" flc _ ["_law_thing", "_law_one"] := ⟨PySem.W.mg_of X G alc, klc, blc⟩
  have Fltc := fun_mk (st := sLTermC) lltc cltc kltc
  have bltc := Fltc.binds (ps := ["_law_term", "_law_one"]) fun _ _ _ _ _ _ us hl => match us, hl with | [_, _], _ => rfl
  have Dltc : Df K mg "_law_term_called" fltc _ ["_law_term", "_law_one"] := ⟨PySem.W.mg_of X G altc, kltc, bltc⟩
  have Flsc := fun_mk (st := sLSideC) llsc clsc klsc
  have blsc := Flsc.binds (ps := ["_law_side_here", "_law_one", "_law_calls"]) fun _ _ _ _ _ _ us hl => match us, hl with | [_, _, _], _ => rfl
  have Dlsc : Df K mg "_law_side_called" flsc _ ["_law_side_here", "_law_one", "_law_calls"] := ⟨PySem.W.mg_of X G alsc, klsc, blsc⟩
  have Fas := fun_mk (st := sAsked) las cas kas
  have bas := Fas.binds (ps := ["_law_side_here", "_law_one", "_law_calls"]) fun _ _ _ _ _ _ us hl => match us, hl with | [_, _, _], _ => rfl
  have Das : Df K mg "_law_asked" fas _ ["_law_side_here", "_law_one", "_law_calls"] := ⟨PySem.W.mg_of X G aas, kas, bas⟩
  have Frf := fun_mk (st := sLRefused) lrf crf krf
  have brf := Frf.binds (ps := ["_law_purse_here", "_law_side_here"]) fun _ _ _ _ _ _ us hl => match us, hl with | [_, _], _ => rfl
  have Drf : Df K mg "_law_refused_right" frf _ ["_law_purse_here", "_law_side_here"] := ⟨PySem.W.mg_of X G arf, krf, brf⟩
  have Fll := fun_mk (st := sLLists) lll cll kll
  have bll := Fll.binds (ps := ["_law_side_here"]) fun _ _ _ _ _ _ us hl => match us, hl with | [_], _ => rfl
  have Dll : Df K mg "_law_lists_right" fll _ ["_law_side_here"] := ⟨PySem.W.mg_of X G all, kll, bll⟩
  have Fla := fun_mk (st := sLaw) lla cla kla
  have FR : FunD K "renamed" "renamed" (defArgs sRenamed) (defBody sRenamed) (defScope sRenamed) [] [("nodes", .non)] fR _ := ⟨⟨_, _, _, _, _, _, _, _, _, _, rfl, lR, cR, .inl ⟨rfl, rfl⟩, .inr ⟨kD, rfl, fun q m => by
    rw [List.mem_singleton.mp m]
    exact ⟨_, kwN, rfl⟩⟩⟩, kR⟩
  have sqdF0t : ∀ H, SqT K H qdF0 [V.str "kind", V.str "worth"] := fun _ => .inr ⟨_, _, _, lqdF0t, rfl, rfl, by show 2 ≤ sizeLine; decide, .cons ⟨_, rfl⟩ (.cons ⟨_, rfl⟩ (.nil))⟩
  have sqdF1t : ∀ H, SqT K H qdF1 [V.str "name"] := fun _ => .inr ⟨_, _, _, lqdF1t, rfl, rfl, by show 1 ≤ sizeLine; decide, .cons ⟨_, rfl⟩ (.nil)⟩
  have sqdF2t : ∀ H, SqT K H qdF2 [V.str "name"] := fun _ => .inr ⟨_, _, _, lqdF2t, rfl, rfl, by show 1 ≤ sizeLine; decide, .cons ⟨_, rfl⟩ (.nil)⟩
  have sqdF3t : ∀ H, SqT K H qdF3 [V.str "term", V.str "term"] := fun _ => .inr ⟨_, _, _, lqdF3t, rfl, rfl, by show 2 ≤ sizeLine; decide, .cons ⟨_, rfl⟩ (.cons ⟨_, rfl⟩ (.nil))⟩
  have sqdF4t : ∀ H, SqT K H qdF4 [V.str "term"] := fun _ => .inr ⟨_, _, _, lqdF4t, rfl, rfl, by show 1 ≤ sizeLine; decide, .cons ⟨_, rfl⟩ (.nil)⟩
  have sqdF5t : ∀ H, SqT K H qdF5 [V.str "term", V.str "term"] := fun _ => .inr ⟨_, _, _, lqdF5t, rfl, rfl, by show 2 ≤ sizeLine; decide, .cons ⟨_, rfl⟩ (.cons ⟨_, rfl⟩ (.nil))⟩
  have sqdF6t : ∀ H, SqT K H qdF6 [V.str "term", V.str "term"] := fun _ => .inr ⟨_, _, _, lqdF6t, rfl, rfl, by show 2 ≤ sizeLine; decide, .cons ⟨_, rfl⟩ (.cons ⟨_, rfl⟩ (.nil))⟩
  have sqdF7t : ∀ H, SqT K H qdF7 [V.str "term", V.str "term"] := fun _ => .inr ⟨_, _, _, lqdF7t, rfl, rfl, by show 2 ≤ sizeLine; decide, .cons ⟨_, rfl⟩ (.cons ⟨_, rfl⟩ (.nil))⟩
  have sqdF8t : ∀ H, SqT K H qdF8 [V.str "term", V.str "term"] := fun _ => .inr ⟨_, _, _, lqdF8t, rfl, rfl, by show 2 ≤ sizeLine; decide, .cons ⟨_, rfl⟩ (.cons ⟨_, rfl⟩ (.nil))⟩
  have sqdF9t : ∀ H, SqT K H qdF9 [V.str "term", V.str "term"] := fun _ => .inr ⟨_, _, _, lqdF9t, rfl, rfl, by show 2 ≤ sizeLine; decide, .cons ⟨_, rfl⟩ (.cons ⟨_, rfl⟩ (.nil))⟩
  have sqdF10t : ∀ H, SqT K H qdF10 [V.str "term", V.str "term"] := fun _ => .inr ⟨_, _, _, lqdF10t, rfl, rfl, by show 2 ≤ sizeLine; decide, .cons ⟨_, rfl⟩ (.cons ⟨_, rfl⟩ (.nil))⟩
  have sqdF11t : ∀ H, SqT K H qdF11 [V.str "term", V.str "term"] := fun _ => .inr ⟨_, _, _, lqdF11t, rfl, rfl, by show 2 ≤ sizeLine; decide, .cons ⟨_, rfl⟩ (.cons ⟨_, rfl⟩ (.nil))⟩
  have sqdF12t : ∀ H, SqT K H qdF12 [V.str "width", V.str "term"] := fun _ => .inr ⟨_, _, _, lqdF12t, rfl, rfl, by show 2 ≤ sizeLine; decide, .cons ⟨_, rfl⟩ (.cons ⟨_, rfl⟩ (.nil))⟩
  have sqdF13t : ∀ H, SqT K H qdF13 [V.str "bit", V.str "term"] := fun _ => .inr ⟨_, _, _, lqdF13t, rfl, rfl, by show 2 ≤ sizeLine; decide, .cons ⟨_, rfl⟩ (.cons ⟨_, rfl⟩ (.nil))⟩
  have sqdF14t : ∀ H, SqT K H qdF14 [V.str "term", V.str "term", V.str "term"] := fun _ => .inr ⟨_, _, _, lqdF14t, rfl, rfl, by show 3 ≤ sizeLine; decide, .cons ⟨_, rfl⟩ (.cons ⟨_, rfl⟩ (.cons ⟨_, rfl⟩ (.nil)))⟩
  have sqdF15t : ∀ H, SqT K H qdF15 [V.str "term", V.str "name", V.str "truth"] := fun _ => .inr ⟨_, _, _, lqdF15t, rfl, rfl, by show 3 ≤ sizeLine; decide, .cons ⟨_, rfl⟩ (.cons ⟨_, rfl⟩ (.cons ⟨_, rfl⟩ (.nil)))⟩
  have sqdF16t : ∀ H, SqT K H qdF16 [V.str "name", V.str "term", V.str "term"] := fun _ => .inr ⟨_, _, _, lqdF16t, rfl, rfl, by show 3 ≤ sizeLine; decide, .cons ⟨_, rfl⟩ (.cons ⟨_, rfl⟩ (.cons ⟨_, rfl⟩ (.nil)))⟩
  have sqdF17t : ∀ H, SqT K H qdF17 [V.str "parts"] := fun _ => .inr ⟨_, _, _, lqdF17t, rfl, rfl, by show 1 ≤ sizeLine; decide, .cons ⟨_, rfl⟩ (.nil)⟩
  have sqdF18t : ∀ H, SqT K H qdF18 [V.str "place", V.str "term"] := fun _ => .inr ⟨_, _, _, lqdF18t, rfl, rfl, by show 2 ≤ sizeLine; decide, .cons ⟨_, rfl⟩ (.cons ⟨_, rfl⟩ (.nil))⟩
  have sqdF19t : ∀ H, SqT K H qdF19 [V.str "node", V.str "args", V.str "every"] := fun _ => .inr ⟨_, _, _, lqdF19t, rfl, rfl, by show 3 ≤ sizeLine; decide, .cons ⟨_, rfl⟩ (.cons ⟨_, rfl⟩ (.cons ⟨_, rfl⟩ (.nil)))⟩
  have sqdF20t : ∀ H, SqT K H qdF20 [V.str "node", V.str "rows", V.str "every"] := fun _ => .inr ⟨_, _, _, lqdF20t, rfl, rfl, by show 3 ≤ sizeLine; decide, .cons ⟨_, rfl⟩ (.cons ⟨_, rfl⟩ (.cons ⟨_, rfl⟩ (.nil)))⟩
  have sqdF21t : ∀ H, SqT K H qdF21 [V.str "node", V.str "term", V.str "rows", V.str "every"] := fun _ => .inr ⟨_, _, _, lqdF21t, rfl, rfl, by show 4 ≤ sizeLine; decide, .cons ⟨_, rfl⟩ (.cons ⟨_, rfl⟩ (.cons ⟨_, rfl⟩ (.cons ⟨_, rfl⟩ (.nil))))⟩
  have sqdF22t : ∀ H, SqT K H qdF22 [V.str "node", V.str "term", V.str "every"] := fun _ => .inr ⟨_, _, _, lqdF22t, rfl, rfl, by show 3 ≤ sizeLine; decide, .cons ⟨_, rfl⟩ (.cons ⟨_, rfl⟩ (.cons ⟨_, rfl⟩ (.nil)))⟩
  have fdF : FTab K FMv [("lit", V.ref qdF0), ("name", V.ref qdF1), ("last", V.ref qdF2), ("first", V.ref qdF3), ("not", V.ref qdF4), ("and", V.ref qdF5), ("or", V.ref qdF6), ("xor", V.ref qdF7), ("add", V.ref qdF8), ("sub", V.ref qdF9), ("less", V.ref qdF10), ("same", V.ref qdF11), ("wide", V.ref qdF12), ("bit", V.ref qdF13), ("pick", V.ref qdF14), ("when", V.ref qdF15), ("merge", V.ref qdF16), ("row", V.ref qdF17), ("at", V.ref qdF18), ("call", V.ref qdF19), ("map", V.ref qdF20), ("fold", V.ref qdF21), ("pairs", V.ref qdF22)] := .cons sqdF0t (.cons sqdF1t (.cons sqdF2t (.cons sqdF3t (.cons sqdF4t (.cons sqdF5t (.cons sqdF6t (.cons sqdF7t (.cons sqdF8t (.cons sqdF9t (.cons sqdF10t (.cons sqdF11t (.cons sqdF12t (.cons sqdF13t (.cons sqdF14t (.cons sqdF15t (.cons sqdF16t (.cons sqdF17t (.cons sqdF18t (.cons sqdF19t (.cons sqdF20t (.cons sqdF21t (.cons sqdF22t (.nil)))))))))))))))))))))))
  have DdF : Dct K w dF [("lit", V.ref qdF0), ("name", V.ref qdF1), ("last", V.ref qdF2), ("first", V.ref qdF3), ("not", V.ref qdF4), ("and", V.ref qdF5), ("or", V.ref qdF6), ("xor", V.ref qdF7), ("add", V.ref qdF8), ("sub", V.ref qdF9), ("less", V.ref qdF10), ("same", V.ref qdF11), ("wide", V.ref qdF12), ("bit", V.ref qdF13), ("pick", V.ref qdF14), ("when", V.ref qdF15), ("merge", V.ref qdF16), ("row", V.ref qdF17), ("at", V.ref qdF18), ("call", V.ref qdF19), ("map", V.ref qdF20), ("fold", V.ref qdF21), ("pairs", V.ref qdF22)] := ⟨⟨_, _, ⟨ldF, ydF, lowdF⟩, wdF⟩⟩
  have sqdS0t : ∀ H, SqT K H qdS0 [V.int 2, V.int 4] := fun _ => .inr ⟨_, _, _, lqdS0t, rfl, rfl, by show 2 ≤ sizeLine; decide, .cons ⟨_, rfl⟩ (.cons ⟨_, rfl⟩ (.nil))⟩
  have sqdS1t : ∀ H, SqT K H qdS1 [V.int 0, V.int 6] := fun _ => .inr ⟨_, _, _, lqdS1t, rfl, rfl, by show 2 ≤ sizeLine; decide, .cons ⟨_, rfl⟩ (.cons ⟨_, rfl⟩ (.nil))⟩
  have sqdS2t : ∀ H, SqT K H qdS2 [V.int 1, V.int 4] := fun _ => .inr ⟨_, _, _, lqdS2t, rfl, rfl, by show 2 ≤ sizeLine; decide, .cons ⟨_, rfl⟩ (.cons ⟨_, rfl⟩ (.nil))⟩
  have fdS : FTab K STv [("parts", V.ref qdS0), ("args", V.ref qdS1), ("rows", V.ref qdS2)] := .cons sqdS0t (.cons sqdS1t (.cons sqdS2t (.nil)))
  have DdS : Dct K w dS [("parts", V.ref qdS0), ("args", V.ref qdS1), ("rows", V.ref qdS2)] := ⟨⟨_, _, ⟨ldS, ydS, lowdS⟩, wdS⟩⟩
  have sdCt : ∀ H, SqT K H dC [V.str "call", V.str "map", V.str "fold", V.str "pairs"] := fun _ => .inr ⟨_, _, _, ldCt, rfl, rfl, by show 4 ≤ sizeLine; decide, .cons ⟨_, rfl⟩ (.cons ⟨_, rfl⟩ (.cons ⟨_, rfl⟩ (.cons ⟨_, rfl⟩ (.nil))))⟩
  have TB : Tbs K w mg dF dS dC := ⟨PySem.W.mg_of X G gdF, PySem.W.mg_of X G gdS, PySem.W.mg_of X G gdC, ⟨_, DdF, fdF⟩, ⟨_, DdS, fdS⟩, sdCt⟩
  have FF := fun_mk (st := sFE) lF cF kF
  have bF := FF.binds (ps := ["self", "text"]) fun _ _ _ _ _ _ us hl => match us, hl with | [_, _], _ => rfl
  have FT := fun_mk (st := sNT) lT cT kT
  have bT := FT.binds (ps := ["self", "found"]) fun _ _ _ _ _ _ us hl => match us, hl with | [_, _], _ => rfl
  have OT : OexC K CT := ⟨⟨_, _, _, _, _, _, _, _, _, _, _, _, _, _, _, xT, veT⟩, saT, eCT, tCT, kCT⟩
  have TT : ExT K mg "NoTerm" CT fT _ := ⟨PySem.W.mg_of X G aT, OT, iT, tT, nfT, ⟨gaT, ggT, eCT, hCT⟩, bT⟩
  have FN := fun_mk (st := sNN) lN cN kN
  have bN := FN.binds (ps := ["self", "found"]) fun _ _ _ _ _ _ us hl => match us, hl with | [_, _], _ => rfl
  have ON : OexC K CN := ⟨⟨_, _, _, _, _, _, _, _, _, _, _, _, _, _, _, xN, veN⟩, saN, eCN, tCN, kCN⟩
  have TN : ExT K mg "NoNames" CN fN _ := ⟨PySem.W.mg_of X G aN, ON, iN, tN, nfN, ⟨gaN, ggN, eCN, hCN⟩, bN⟩
  have EX : Exm5 K CT CN := ⟨PySem.W.exm_ref eCT hCT tCT uTT, PySem.W.exm_ref eCT hCT tCT uNT, PySem.W.exm_ref eCN hCN tCN uNN⟩
  have misinstance := PySem.W.mg_none_of X G zisinstance
  have mint := PySem.W.mg_none_of X G zint
  have mbool := PySem.W.mg_none_of X G zbool
  have mlist := PySem.W.mg_none_of X G zlist
  have mtuple := PySem.W.mg_none_of X G ztuple
  have mrange := PySem.W.mg_none_of X G zrange
  have mlen := PySem.W.mg_none_of X G zlen
  have mall := PySem.W.mg_none_of X G zall
  have mValueError := PySem.W.mg_none_of X G zValueError
  have mmax := PySem.W.mg_none_of X G zmax
  have mmin := PySem.W.mg_none_of X G zmin
  have mrepr := PySem.W.mg_none_of X G zrepr
  have mzip := PySem.W.mg_none_of X G zzip
  have mstr := PySem.W.mg_none_of X G zstr
  have mdict := PySem.W.mg_none_of X G zdict
  have menumerate := PySem.W.mg_none_of X G zenumerate
  refine ⟨PySem.W.fnOf "law" "law" (defArgs sLaw) (defBody sLaw) (defScope sLaw) .none kVla dcla pmla anla cdla ctla, fun s v => .of_eq rfl, fun base _ _ => ?_⟩
  have BT : BaseT l.prog w K mg base (.type "type") CF fF _ := ⟨PySem.W.mg_of X G aF, ⟨rF, gF⟩, vF, kF, bF, ok_FE FF mValueError vV⟩
  have Gnb : FnOk l.prog w K mg base CX0 1 fnb _ _ _ := ok_num Fnb misinstance mint mbool
  have Gwh : FnOk l.prog w K mg base CX0 2 fwh _ _ _ := ok_whole Fwh Dnb Gnb
  have Gna : FnOk l.prog w K mg base CX0 2 fna _ _ _ := ok_name Fna misinstance mstr mlen mall
  have Gwi : FnOk l.prog w K mg base CX0 3 fwi _ _ _ := ok_width Fwi Dwh Gwh
  have Gtr : FnOk l.prog w K mg base CX0 3 ftr _ _ _ := ok_truth Ftr Dwh Gwh
  have Gki : FnOk l.prog w K mg base CX0 4 fki _ _ _ := ok_kind Fki Dwi Gwi Dwh Gwh misinstance mtuple mlen
  have Ggr : FnOk l.prog w K mg base CX0 2 fgr _ _ _ := ok_great Fgr
  have Gwo : FnOk l.prog w K mg base CX0 3 fwo _ _ _ := ok_worthOf Fwo Dwh Gwh Dgr Ggr
  have Gar : FnOk l.prog w K mg base CX0 4 far _ _ _ := ok_are Far Dwo Gwo mall
  have Giw : FnOk l.prog w K mg base CX0 5 fiw _ _ _ := ok_isWorth Fiw Dki Gki Dwo Gwo Dar Gar misinstance mtuple mlen
  have Gnn : FnOk l.prog w K mg base CX0 3 fnn _ _ _ := ok_node Fnn Dna Gna misinstance mstr mlen mall
  have SM : Sml l.prog w K mg base fwh fwi ftr fna fki fnn _ _ _ _ _ _ := ⟨Dwh, Gwh, Dwi, Gwi, Dtr, Gtr, Dna, Gna, Dki, Gki, Dnn, Gnn, misinstance, mtuple, mstr, mlen, mall, mzip, mlist⟩
  have Gfi : FnOk l.prog w K mg base CX0 5 ffi _ _ _ := ok_fits Ffi TB SM
  have Gfo : FnOk l.prog w K mg base CX0 6 ffo _ _ _ := ok_formed Ffo TB SM Dfi Gfi Diw Giw
  have Gic : FnOk l.prog w K mg base CX0 2 fic _ _ _ := ok_call Fic TB
  have Gtw : FnOk l.prog w K mg base CX0 2 ftw _ _ _ := ok_within Ftw TB mzip
  have Gat : FnOk l.prog w K mg base CX0 7 fat _ _ _ := ok_areTerms Fat Dfo Gfo Dic Gic Dtw Gtw mlist
  have Gir : FnOk l.prog w K mg base CX0 8 fir _ _ _ := ok_isRight Fir Dat Gat Dfo Gfo Dtw Gtw
  have GT : FnOk l.prog w K mg base CX0 3 fT _ _ _ := ok_NT FT BT OT nfT
  have GN : FnOk l.prog w K mg base CX0 3 fN _ _ _ := ok_NN FN BT ON nfN
  have Gnr : FnOk l.prog w K mg base (CXL l.prog w) 9 fnr _ _ _ := ok_need Fnr TT GT Dir Gir
  have Gpa : FnOk l.prog w K mg base CX0 3 fpa _ _ _ := ok_parts Fpa Dic Gic Dtw Gtw
  have Gpo : FnOk l.prog w K mg base (CXL l.prog w) 10 fpo _ _ _ := ok_partsOf Fpo Dnr Gnr Dpa Gpa
  have Geo : FnOk l.prog w K mg base CX0 1 feo _ _ _ := ok_once Feo mlist
  have NM : Nmd l.prog w K mg base CT fnr fpa fic feo _ _ _ _ := ⟨Dnr, Gnr, Dpa, Gpa, Dic, Gic, Deo, Geo, mlen⟩
  have Gni : FnOk l.prog w K mg base (CXL l.prog w) 10 fni _ _ _ := ok_namesIn Fni NM
  have Gli : FnOk l.prog w K mg base (CXL l.prog w) 10 fli _ _ _ := ok_lastsIn Fli NM
  have Gsi1 : FnOk l.prog w K mg base (CXL l.prog w) 10 fsi1 _ _ _ := ok_firstsIn Fsi1 NM
  have Gd1 : FnOk l.prog w K mg base CX0 4 fdo _ _ (spDictOf fna nameD) := ok_dictOf (k := 2) (by decide) Fdo (Gna.imp fun _ _ _ _ h => h) kna bna misinstance mdict mall
  have Gd2 : FnOk l.prog w K mg base CX0 4 fdo _ _ (spDictOf fnn nodeD) := ok_dictOf (k := 3) (by decide) Fdo (Gnn.imp fun _ _ _ _ h => h) knn bnn misinstance mdict mall
  have Gco : FnOk l.prog w K mg base CX0 21 fco _ _ (spCalledO 10) := ok_bothO Fco Fho TB Dco Dho mzip mtuple 10
  have Grn := ok_ren FR (⟨TN, GN, Dnr, Gnr, Ddo, Gd1, Gd2, Dco, Gco, Dna, Dnn⟩ : Rnm l.prog w K mg base CT CN fN fnr fdo fco fna fnn _ _ _ _ _ _)
  have RN := ren_of FR (PySem.W.mg_of X G aR)
  have Gce : FnOk l.prog w K mg base CX0 1 fce _ _ _ := ok_cell Fce mlen
  have Gpu : FnOk l.prog w K mg base CX0 1 fpu _ _ _ := ok_purse Fpu mmax
  have Gta : FnOk l.prog w K mg base CX0 1 fta _ _ _ := ok_take Fta
  have Gof : FnOk l.prog w K mg base CX0 2 fof _ _ _ := ok_of Fof Dta Gta mlen
  have Gln : FnOk l.prog w K mg base CX0 2 fln _ _ _ := ok_lname Fln Dta Gta mrange
  have Glk : FnOk l.prog w K mg base CX0 2 flk _ _ _ := ok_lkind Flk Dta Gta
  have Glw : FnOk l.prog w K mg base CX0 3 flw _ _ (spLW 2) := ok_lworth Flw Dlw Dta Gta misinstance mtuple mrange 2
  have MK : Mkr l.prog w K mg base fta fln flk flw _ _ _ _ := ⟨Dta, Gta, Dln, Gln, Dlk, Glk, Dlw, Glw⟩
  have Gan : FnOk l.prog w K mg base CX0 8 fan _ _ (spAny 5) := ok_any Fan Dan MK 5
  have Gsi : FnOk l.prog w K mg base CX0 9 fsi _ _ _ := ok_side Fsi Dan Gan MK mrange mtuple
  have Gnm2 : FnOk l.prog w K mg base CX0 1 fnm2 _ _ _ := ok_lnamed Fnm2
  have Glo : FnOk l.prog w K mg base CX0 1 flo _ _ _ := ok_lonce Flo menumerate
  have Glc : FnOk l.prog w K mg base CX0 1 flc _ _ _ := ok_lcalled Flc
  have LC : Lct K mg := ⟨mtuple, misinstance⟩
  have Gltc : FnOk l.prog w K mg base CX0 12 fltc _ _ (spLTC 10) := ok_ltc Fltc LC Dltc Dlc Glc 10
  have Glsc : FnOk l.prog w K mg base CX0 13 flsc _ _ _ := ok_lsc Flsc LC Dltc Gltc Dlc Glc
  have Gas : FnOk l.prog w K mg base CX0 23 fas _ _ _ := ok_lasked Fas TT TN EX RN Grn
  have LS : Lls l.prog w K mg base CT fpo fni fli fsi1 fnm2 flo _ _ _ _ _ _ := ⟨Dpo, Gpo, Dni, Gni, Dli, Gli, Dsi1, Gsi1, Dnm2, Gnm2, Dlo, Glo, mlen, mlist, mrange, mrepr⟩
  have Gll : FnG l.prog w K mg base CX0 11 fll _ _ _ := ok_ll Fll LS
  have RS : Rfs l.prog w K mg base CT fta fas fni fli fsi1 _ _ _ _ _ := ⟨⟨misinstance, mlist, mrepr, mrange⟩, Dta, Gta, Das, Gas, Dni, Gni, Dli, Gli, Dsi1, Gsi1⟩
  have Grf : FnG l.prog w K mg base CX0 24 frf _ _ _ := ok_ref Frf RS TT EX
  exact ok_law Fla ⟨Dce, Gce, Dpu, Gpu, Dta, Gta, Dsi, Gsi, Dlo, Glo, Dof, Gof, Dll, Gll, Dlsc, Glsc, Das, Gas, Dni, Gni, Dli, Gli, RN, Grn, Drf, Grf, mrange, mlen, mmax, mmin, mdict, mrepr, menumerate⟩
end K5
end Bf

open PySem PySem.W PyProof.Rows in
set_option maxRecDepth 100000 in
set_option maxHeartbeats 0 in
theorem PySem.Challenge.cw_beatflows_k05_names_in_terms_holds : PySem.Challenge.rw_beatflows_k05_names_in_terms.Holds := by
  w_on; o_law; k_head; (case hw => w_witness2)
  k_fill
  refine Bf.walkG (l := PySem.Challenge.rw_beatflows_k05_names_in_terms) (n := 63) (k := 25) (x := "_law_script") (sp := Bf.K5.spLaw) rfl (by decide) rfl ⟨rfl, by decide, by decide⟩ (fun w h Y => PySem.W.kIn_of Y) ?F
    (fun K H a ns hl hS _ => ⟨a, ns, rfl, hS, hl, fun _ => rfl⟩)
  case F =>
    intro w mg fa h KX G hmg
    refine' Bf.K5.all_mk KX G hmg ?zz_anb ?zz_lnb ?zz_cnb ?zz_knb ?zz_awh ?zz_lwh ?zz_cwh ?zz_kwh ?zz_ana ?zz_lna ?zz_cna ?zz_kna ?zz_awi ?zz_lwi ?zz_cwi ?zz_kwi ?zz_atr ?zz_ltr ?zz_ctr ?zz_ktr ?zz_aki ?zz_lki ?zz_cki ?zz_kki ?zz_aiw ?zz_liw ?zz_ciw ?zz_kiw ?zz_agr ?zz_lgr ?zz_cgr ?zz_kgr ?zz_awo ?zz_lwo ?zz_cwo ?zz_kwo ?zz_aar ?zz_lar ?zz_car ?zz_kar ?zz_air ?zz_lir ?zz_cir ?zz_kir ?zz_apo ?zz_lpo ?zz_cpo ?zz_kpo ?zz_ani ?zz_lni ?zz_cni ?zz_kni ?zz_ali ?zz_lli ?zz_cli ?zz_kli ?zz_asi1 ?zz_lsi1 ?zz_csi1 ?zz_ksi1 ?zz_ann ?zz_lnn ?zz_cnn ?zz_knn ?zz_anr ?zz_lnr ?zz_cnr ?zz_knr ?zz_aic ?zz_lic ?zz_cic ?zz_kic ?zz_aat ?zz_lat ?zz_cat ?zz_kat ?zz_afo ?zz_lfo ?zz_cfo ?zz_kfo ?zz_afi ?zz_lfi ?zz_cfi ?zz_kfi ?zz_atw ?zz_ltw ?zz_ctw ?zz_ktw ?zz_apa ?zz_lpa ?zz_cpa ?zz_kpa ?zz_aeo ?zz_leo ?zz_ceo ?zz_keo ?zz_ado ?zz_ldo ?zz_cdo ?zz_kdo ?zz_aco ?zz_lco ?zz_cco ?zz_kco ?zz_aho ?zz_lho ?zz_cho ?zz_kho ?zz_ace ?zz_lce ?zz_cce ?zz_kce ?zz_apu ?zz_lpu ?zz_cpu ?zz_kpu ?zz_ata ?zz_lta ?zz_cta ?zz_kta ?zz_aof ?zz_lof ?zz_cof ?zz_kof ?zz_aln ?zz_lln ?zz_cln ?zz_kln ?zz_alk ?zz_llk ?zz_clk ?zz_klk ?zz_alw ?zz_llw ?zz_clw ?zz_klw ?zz_aan ?zz_lan ?zz_can ?zz_kan ?zz_asi ?zz_lsi ?zz_csi ?zz_ksi ?zz_anm2 ?zz_lnm2 ?zz_cnm2 ?zz_knm2 ?zz_alo ?zz_llo ?zz_clo ?zz_klo ?zz_alc ?zz_llc ?zz_clc ?zz_klc ?zz_altc ?zz_lltc ?zz_cltc ?zz_kltc ?zz_alsc ?zz_llsc ?zz_clsc ?zz_klsc ?zz_aas ?zz_las ?zz_cas ?zz_kas ?zz_arf ?zz_lrf ?zz_crf ?zz_krf ?zz_all ?zz_lll ?zz_cll ?zz_kll ?zz_ala ?zz_lla ?zz_cla ?zz_kla ?zz_aR ?zz_lR ?zz_cR ?zz_kR ?zz_kwN ?zz_gdF ?zz_ldF ?zz_ydF ?zz_lowdF ?zz_wdF ?zz_lqdF0t ?zz_lqdF1t ?zz_lqdF2t ?zz_lqdF3t ?zz_lqdF4t ?zz_lqdF5t ?zz_lqdF6t ?zz_lqdF7t ?zz_lqdF8t ?zz_lqdF9t ?zz_lqdF10t ?zz_lqdF11t ?zz_lqdF12t ?zz_lqdF13t ?zz_lqdF14t ?zz_lqdF15t ?zz_lqdF16t ?zz_lqdF17t ?zz_lqdF18t ?zz_lqdF19t ?zz_lqdF20t ?zz_lqdF21t ?zz_lqdF22t ?zz_gdS ?zz_ldS ?zz_ydS ?zz_lowdS ?zz_wdS ?zz_lqdS0t ?zz_lqdS1t ?zz_lqdS2t ?zz_gdC ?zz_ldCt ?zz_aF ?zz_rF ?zz_gF ?zz_vF ?zz_lF ?zz_cF ?zz_kF ?zz_vV ?zz_aT ?zz_xT ?zz_veT ?zz_saT ?zz_gaT ?zz_ggT ?zz_nfT ?zz_iT ?zz_tT ?zz_lT ?zz_cT ?zz_kT ?zz_kCT ?zz_eCT ?zz_tCT ?zz_hCT ?zz_aN ?zz_xN ?zz_veN ?zz_saN ?zz_gaN ?zz_ggN ?zz_nfN ?zz_iN ?zz_tN ?zz_lN ?zz_cN ?zz_kN ?zz_kCN ?zz_eCN ?zz_tCN ?zz_hCN ?zz_uTT ?zz_uNT ?zz_uNN ?zz_zisinstance ?zz_zint ?zz_zbool ?zz_zlist ?zz_ztuple ?zz_zrange ?zz_zlen ?zz_zall ?zz_zValueError ?zz_zmax ?zz_zmin ?zz_zrepr ?zz_zzip ?zz_zstr ?zz_zdict ?zz_zenumerate
    (case zz_anb => k_is)
    (case zz_lnb => k_is)
    (case zz_cnb => k_is)
    (case zz_knb => k_is)
    (case zz_awh => k_is)
    (case zz_lwh => k_is)
    (case zz_cwh => k_is)
    (case zz_kwh => k_is)
    (case zz_ana => k_is)
    (case zz_lna => k_is)
    (case zz_cna => k_is)
    (case zz_kna => k_is)
    (case zz_awi => k_is)
    (case zz_lwi => k_is)
    (case zz_cwi => k_is)
    (case zz_kwi => k_is)
    (case zz_atr => k_is)
    (case zz_ltr => k_is)
    (case zz_ctr => k_is)
    (case zz_ktr => k_is)
    (case zz_aki => k_is)
    (case zz_lki => k_is)
    (case zz_cki => k_is)
    (case zz_kki => k_is)
    (case zz_aiw => k_is)
    (case zz_liw => k_is)
    (case zz_ciw => k_is)
    (case zz_kiw => k_is)
    (case zz_agr => k_is)
    (case zz_lgr => k_is)
    (case zz_cgr => k_is)
    (case zz_kgr => k_is)
    (case zz_awo => k_is)
    (case zz_lwo => k_is)
    (case zz_cwo => k_is)
    (case zz_kwo => k_is)
    (case zz_aar => k_is)
    (case zz_lar => k_is)
    (case zz_car => k_is)
    (case zz_kar => k_is)
    (case zz_air => k_is)
    (case zz_lir => k_is)
    (case zz_cir => k_is)
    (case zz_kir => k_is)
    (case zz_apo => k_is)
    (case zz_lpo => k_is)
    (case zz_cpo => k_is)
    (case zz_kpo => k_is)
    (case zz_ani => k_is)
    (case zz_lni => k_is)
    (case zz_cni => k_is)
    (case zz_kni => k_is)
    (case zz_ali => k_is)
    (case zz_lli => k_is)
    (case zz_cli => k_is)
    (case zz_kli => k_is)
    (case zz_asi1 => k_is)
    (case zz_lsi1 => k_is)
    (case zz_csi1 => k_is)
    (case zz_ksi1 => k_is)
    (case zz_ann => k_is)
    (case zz_lnn => k_is)
    (case zz_cnn => k_is)
    (case zz_knn => k_is)
    (case zz_anr => k_is)
    (case zz_lnr => k_is)
    (case zz_cnr => k_is)
    (case zz_knr => k_is)
    (case zz_aic => k_is)
    (case zz_lic => k_is)
    (case zz_cic => k_is)
    (case zz_kic => k_is)
    (case zz_aat => k_is)
    (case zz_lat => k_is)
    (case zz_cat => k_is)
    (case zz_kat => k_is)
    (case zz_afo => k_is)
    (case zz_lfo => k_is)
    (case zz_cfo => k_is)
    (case zz_kfo => k_is)
    (case zz_afi => k_is)
    (case zz_lfi => k_is)
    (case zz_cfi => k_is)
    (case zz_kfi => k_is)
    (case zz_atw => k_is)
    (case zz_ltw => k_is)
    (case zz_ctw => k_is)
    (case zz_ktw => k_is)
    (case zz_apa => k_is)
    (case zz_lpa => k_is)
    (case zz_cpa => k_is)
    (case zz_kpa => k_is)
    (case zz_aeo => k_is)
    (case zz_leo => k_is)
    (case zz_ceo => k_is)
    (case zz_keo => k_is)
    (case zz_ado => k_is)
    (case zz_ldo => k_is)
    (case zz_cdo => k_is)
    (case zz_kdo => k_is)
    (case zz_aco => k_is)
    (case zz_lco => k_is)
    (case zz_cco => k_is)
    (case zz_kco => k_is)
    (case zz_aho => k_is)
    (case zz_lho => k_is)
    (case zz_cho => k_is)
    (case zz_kho => k_is)
    (case zz_ace => k_is)
    (case zz_lce => k_is)
    (case zz_cce => k_is)
    (case zz_kce => k_is)
    (case zz_apu => k_is)
    (case zz_lpu => k_is)
    (case zz_cpu => k_is)
    (case zz_kpu => k_is)
    (case zz_ata => k_is)
    (case zz_lta => k_is)
    (case zz_cta => k_is)
    (case zz_kta => k_is)
    (case zz_aof => k_is)
    (case zz_lof => k_is)
    (case zz_cof => k_is)
    (case zz_kof => k_is)
    (case zz_aln => k_is)
    (case zz_lln => k_is)
    (case zz_cln => k_is)
    (case zz_kln => k_is)
    (case zz_alk => k_is)
    (case zz_llk => k_is)
    (case zz_clk => k_is)
    (case zz_klk => k_is)
    (case zz_alw => k_is)
    (case zz_llw => k_is)
    (case zz_clw => k_is)
    (case zz_klw => k_is)
    (case zz_aan => k_is)
    (case zz_lan => k_is)
    (case zz_can => k_is)
    (case zz_kan => k_is)
    (case zz_asi => k_is)
    (case zz_lsi => k_is)
    (case zz_csi => k_is)
    (case zz_ksi => k_is)
    (case zz_anm2 => k_is)
    (case zz_lnm2 => k_is)
    (case zz_cnm2 => k_is)
    (case zz_knm2 => k_is)
    (case zz_alo => k_is)
    (case zz_llo => k_is)
    (case zz_clo => k_is)
    (case zz_klo => k_is)
    (case zz_alc => k_is)
    (case zz_llc => k_is)
    (case zz_clc => k_is)
    (case zz_klc => k_is)
    (case zz_altc => k_is)
    (case zz_lltc => k_is)
    (case zz_cltc => k_is)
    (case zz_kltc => k_is)
    (case zz_alsc => k_is)
    (case zz_llsc => k_is)
    (case zz_clsc => k_is)
    (case zz_klsc => k_is)
    (case zz_aas => k_is)
    (case zz_las => k_is)
    (case zz_cas => k_is)
    (case zz_kas => k_is)
    (case zz_arf => k_is)
    (case zz_lrf => k_is)
    (case zz_crf => k_is)
    (case zz_krf => k_is)
    (case zz_all => k_is)
    (case zz_lll => k_is)
    (case zz_cll => k_is)
    (case zz_kll => k_is)
    (case zz_ala => k_is)
    (case zz_lla => k_is)
    (case zz_cla => k_is)
    (case zz_kla => k_is)
    (case zz_aR => k_is)
    (case zz_lR => k_is)
    (case zz_cR => k_is)
    (case zz_kR => k_is)
    (case zz_kwN => k_is)
    (case zz_gdF => k_is)
    (case zz_ldF => k_is)
    (case zz_ydF => repeat (first | exact trivial | refine ⟨⟨_, _, rfl, rfl⟩, ?_⟩))
    (case zz_lowdF => rfl)
    (case zz_wdF => repeat (first | exact .nil | refine .cons rfl rfl ?_))
    (case zz_lqdF0t => k_is)
    (case zz_lqdF1t => k_is)
    (case zz_lqdF2t => k_is)
    (case zz_lqdF3t => k_is)
    (case zz_lqdF4t => k_is)
    (case zz_lqdF5t => k_is)
    (case zz_lqdF6t => k_is)
    (case zz_lqdF7t => k_is)
    (case zz_lqdF8t => k_is)
    (case zz_lqdF9t => k_is)
    (case zz_lqdF10t => k_is)
    (case zz_lqdF11t => k_is)
    (case zz_lqdF12t => k_is)
    (case zz_lqdF13t => k_is)
    (case zz_lqdF14t => k_is)
    (case zz_lqdF15t => k_is)
    (case zz_lqdF16t => k_is)
    (case zz_lqdF17t => k_is)
    (case zz_lqdF18t => k_is)
    (case zz_lqdF19t => k_is)
    (case zz_lqdF20t => k_is)
    (case zz_lqdF21t => k_is)
    (case zz_lqdF22t => k_is)
    (case zz_gdS => k_is)
    (case zz_ldS => k_is)
    (case zz_ydS => repeat (first | exact trivial | refine ⟨⟨_, _, rfl, rfl⟩, ?_⟩))
    (case zz_lowdS => rfl)
    (case zz_wdS => repeat (first | exact .nil | refine .cons rfl rfl ?_))
    (case zz_lqdS0t => k_is)
    (case zz_lqdS1t => k_is)
    (case zz_lqdS2t => k_is)
    (case zz_gdC => k_is)
    (case zz_ldCt => k_is)
    (case zz_aF => k_is)
    (case zz_rF => k_is)
    (case zz_gF => k_is)
    (case zz_vF => k_is)
    (case zz_lF => k_is)
    (case zz_cF => k_is)
    (case zz_kF => k_is)
    (case zz_vV => k_is)
    (case zz_aT => k_is)
    (case zz_xT => k_is)
    (case zz_veT => first | rfl | decide +kernel)
    (case zz_saT => k_is)
    (case zz_gaT => k_is)
    (case zz_ggT => k_is)
    (case zz_nfT => k_is)
    (case zz_iT => k_is)
    (case zz_tT => k_is)
    (case zz_lT => k_is)
    (case zz_cT => k_is)
    (case zz_kT => k_is)
    (case zz_kCT => k_is)
    (case zz_eCT => k_is)
    (case zz_tCT => k_is)
    (case zz_hCT => k_is)
    (case zz_aN => k_is)
    (case zz_xN => k_is)
    (case zz_veN => first | rfl | decide +kernel)
    (case zz_saN => k_is)
    (case zz_gaN => k_is)
    (case zz_ggN => k_is)
    (case zz_nfN => k_is)
    (case zz_iN => k_is)
    (case zz_tN => k_is)
    (case zz_lN => k_is)
    (case zz_cN => k_is)
    (case zz_kN => k_is)
    (case zz_kCN => k_is)
    (case zz_eCN => k_is)
    (case zz_tCN => k_is)
    (case zz_hCN => k_is)
    (case zz_uTT => first | k_is | rfl)
    (case zz_uNT => first | k_is | rfl)
    (case zz_uNN => first | k_is | rfl)
    (case zz_zisinstance => k_is)
    (case zz_zint => k_is)
    (case zz_zbool => k_is)
    (case zz_zlist => k_is)
    (case zz_ztuple => k_is)
    (case zz_zrange => k_is)
    (case zz_zlen => k_is)
    (case zz_zall => k_is)
    (case zz_zValueError => k_is)
    (case zz_zmax => k_is)
    (case zz_zmin => k_is)
    (case zz_zrepr => k_is)
    (case zz_zzip => k_is)
    (case zz_zstr => k_is)
    (case zz_zdict => k_is)
    (case zz_zenumerate => k_is)
