import PyProof.Rows.All
import Wide.All
import OpenK.AllK
import Wide.FinOn
import HandS.ForMost
import HandS.ForExc
import HandS.ExcInit
import HandS.ExcField
import HandS.IsInst
import HandS.ClsMeth
import HandS.ForSpec
import KE.GoesMore
import HandS.Style
import HandS.TupAny
import HandS.Zip
import HandS.MakeKwOnly
import KE.DataCmp
import HandS.CallSlots
import HandS.More
import HandS.Proxy
import PyProof.NeData
import HandS.WideBits
import HandS.Text
import PyProof.ReprLen
import PyProof.Rows.ReprOcc
import PyProof.FitsReplace
import HandS.ExcIs
import PySem.Challenge.RW_beatflows_k04_terms_of_anything
set_option Elab.async false
set_option maxRecDepth 100000

/-! Own rules over the hand layer, for all laws of this program: calls by keywords alone, a base's __init__ by its class's name, several except clauses with names, repr of data. -/
namespace Bf
open PySem PySem.Spec PyProof.Rows L2

/-! ### f(k = v, ..) -/
section
variable {X : Cx} {CX : CXT} {k : Nat} {f : Addr} {fd : FuncData} {ps ks : List Str} {sp : Sp} {E : XK} {x : Str} {p pos : Pos} {kws : List Keyword} {tk : TA}
  {g : List Value → List Value → List Value} {gV : List V → List V → List V}
def tKw (sp : Sp) (gV : List V → List V → List V) (E : XK) (tk : TA) : TE := fun σ H Q => tk σ H fun zs H2 => sp (gV [] zs) H2 Q E
theorem pe_kw (F : FnOk X.prog X.w X.K X.mg X.base CX k f fd ps sp) (hr : Room k X.A) (hg : Gl X x) (hm : X.mg x = some (.ref f))
    (hk : PySem.W.keepIn X.K (.ref f) = true) (hb : KBinds X.K fd ps ks g gV) (hx : Passes CX X E) (hkw : PK X kws tk)
    (h1 : (backToKw pos (keywordEach kws X.env)).all (·.1.isSome) = true := by rfl)
    (h2 : (backToKw pos (keywordEach kws X.env)).filterMap (·.1) = ks := by rfl)
    (h3 : (x == ("__debug__" : Str)) = false := by decide)
    (h4 : ((backTo pos (starEach [] X.env)).any (·.1) || (backToKw pos (keywordEach kws X.env)).any (·.1.isNone)) = false := by rfl) :
    PE X (.Call (.Name x p) [] kws pos) (tKw sp gV E tk) := ⟨fun pins s σ H Q I h => by
  refine wpAny_Call_Name_kw (ld_glob I hg hm (PySem.W.callWith_KW0 (h₀ := X.base) I.ok.mod.kin hk h1 (thn (hkw.run pos pins s σ H _ I h) ?_) h4) h3)
  intro ws s2 q
  obtain ⟨zs, H2, I2, rz, q2⟩ := q
  refine ⟨I2.kIn, ?_⟩
  rw [h2]
  exact run_fnk (us := []) (vs := []) F hr hb hx I2 .nil rz q2⟩
end

/-! ### C.m(e, ..), C a class of the text, m a def of it -/
section
variable {X : Cx} {CX : CXT} {k : Nat} {f C : Addr} {fd : FuncData} {ps : List Str} {sp : Sp} {E : XK} {x m : Str} {p1 p2 pos : Pos} {e : Expr} {es : List Expr} {t : TA} {mc : Value}
theorem pe_clsFn {pl : Sem Bool} (F : FnOk X.prog X.w X.K X.mg X.base CX k f fd ps sp) (hr : Room k X.A) (hg : Gl X x) (hm : X.mg x = some (.ref C))
    (rd : ClX.CRead X.K C mc) (va : PySem.W.findCls X.K (.ref C) mc m = some (.val (.ref f))) (hk : PySem.W.keepIn X.K (.ref f) = true) (hb : Binds X.K fd ps []) (hx : Passes CX X E) (ha : PA X (e :: es) t)
    (hc : eval (.Call (.Attribute (.Name x p1) m p2) (e :: es) [] pos) X.env = (do
      let ov ← eval (.Name x p1) X.env
      standAt p2.atName
      let (g, first) ← holding [ov] (getMethod ov m pl)
      callWith pos g first (backTo pos (starEach (e :: es) X.env)) (backToKw pos (keywordEach [] X.env))) := by rfl)
    (hdb : (x == ("__debug__" : Str)) = false := by decide)
    (he : starEach (e :: es) X.env = (false, eval e X.env) :: starEach es X.env := by rfl) (hpl : (backTo pos (starEach es X.env)).any (·.1) = false := by rfl) :
    PE X (.Call (.Attribute (.Name x p1) m p2) (e :: es) [] pos) (tCall sp [] E t) := ⟨fun pins s σ H Q I h => by
  refine PySem.W.methodCall_KW (ld_glob I hg hm ?_ hdb) hc
  refine PySem.W.method_cls I.kIn rd.ga (PySem.W.cls_value I.kIn rd.rd va rfl ?_)
  have I' := I.tok (X := X) (s.toks + 1)
  exact PySem.W.callWith_K (h₀ := X.base) I.ok.mod.kin hk (thn (ha.run pos pins _ σ H _ I' h) fun us s1 ⟨vs, H1, I1, r, q⟩ => ⟨I1.kIn, run_fn F hr hb .nil hx I1 r q⟩) he hpl⟩
end

/-! ### try: body, several clauses «except C as n: suite»; what follows them is never reached -/
structure Arm where
  c : Value
  i : Nat
  ts : Addr → Value → Option Addr → TS
/-- behind a suite the clause's name is gone -/
def Gone (i : Nat) (D : Ends) : Ends where
  nx := fun σ H => D.nx (σ.set i none) H
  rt := D.rt
  bk := fun σ H => D.bk (σ.set i none) H
  ct := fun σ H => D.ct (σ.set i none) H
def wArms (K : PySem.W.Frag) (D : Ends) : List Arm → WX
  | [] => fun _ _ _ _ => False
  | m :: r => fun cls d σ H => ∃ b, PySem.W.exmOne K cls m.c = some b ∧ (b = true → ∀ a, H a = none → m.ts a cls d (Gone m.i D) (σ.set m.i (some (.ref a))) H) ∧ (b = false → wArms K D r cls d σ H)
inductive Arms (X : Cx) : List ExceptHandler → List Arm → Prop
  | nil {hds : List ExceptHandler} : Arms X hds []
  | cons {x n : Str} {c : Value} {i : Nat} {ts : Addr → Value → Option Addr → TS} {b0 : Stmt} {suite : List Stmt} {np pos' : Pos} {hds : List ExceptHandler} {l : List Arm}
      (hc : Names X x c) (hi : X.N[i]? = some n) (hl : X.env.kindOf n = some .local)
      (hsu : ∀ (a : Addr) (oe : Obj) (cls : Value) (d : Option Addr) (pn : List (Addr × Obj)), Zc cls d oe → (∃ vs, oe.data = .fields vs) → PSs (X.suite a ((a, oe) :: pn)) (b0 :: suite) (ts a cls d))
      (r : Arms X hds l) : Arms X (.ExceptHandler (some (.Name x np)) (some n) (b0 :: suite) pos' :: hds) (⟨c, i, ts⟩ :: l)

section
variable {X : Cx} {pins : List (Addr × Obj)} {σ : L2.St} {H : Hp} {sI s' : Shared} {B : Heap} {a : Addr} {cls : Value} {d : Option Addr} {D : Ends}
/-- an exception noted and landed meets the clauses -/
theorem arms_go (hs : X.stack = X.env :: X.outer) (hf : X.env.frame = some X.env.locals) (hN : X.N.Nodup) (J : L2.Inv X pins σ H sI) (na : H a = none)
    (nb : ∀ b o, sI.heap.get? b = some o → b ∉ frs X.stack → B.get? b = some o) (os : s'.os = sI.os) (ag : AllBare s'.gens) (up : sI.heap.UpToSlots s'.heap)
    (fl : HandSPX.FlyingZ B (X.env :: X.outer) a (Zc cls d) s'.heap) {hds : List ExceptHandler} {l : List Arm} (hh : Arms X hds l) (w : wArms X.K D l cls d σ H) :
    wpAny (model X.prog X.w) X.A (handleBy (.ref a) X.env hds) (SP X pins D) X.xe s' := by
  induction hh with
  | nil => exact w.elim
  | @cons x n c i ts b0 suite np pos' hds' l' hc hi hl hsu r ih =>
    obtain ⟨b, hb, yes, no⟩ := w
    -- what stands in the heap of the exception, wherever it has landed
    have site : ∀ {h : Heap}, HandSPX.FlyingZ B (X.env :: X.outer) a (Zc cls d) h → sI.heap.UpToSlots h →
        ∃ oe vs, h.get? a = some oe ∧ Zc cls d oe ∧ oe.data = .fields vs ∧ L2.Inv (X.suite a ((a, oe) :: (X.pn ++ pins))) [] σ H { s' with heap := h } := fun {h} z u => by
      obtain ⟨oe, vs, e1, e2, e3⟩ := z.there
      have nofr : a ∉ frs (X.env :: X.outer) := fun hm => by
        obtain ⟨_, o', e', hnf⟩ := z.2.2.1.mem hm
        rw [e1] at e'
        cases e'
        exact hnf _ e3
      refine ⟨oe, vs, e1, e2, e3, (J.landed (s' := { s' with heap := h }) nb z.1 u os ag).suite e1 e3 na (fun z => nofr (List.mem_filterMap.mpr ⟨X.env, List.mem_cons_self, by rw [hf, z]⟩)) fun hm => nofr ?_⟩
      obtain ⟨e, he, q⟩ := List.mem_filterMap.mp hm
      exact List.mem_filterMap.mpr ⟨e, List.mem_cons_of_mem _ he, q⟩
    obtain ⟨oe, vs, e1, e2, e3, S⟩ := site fl up
    refine wpAny_handleBy_cons (codeAny_handlers_test ?_) (fun q => nomatch q)
    have ty : PySem.W.Looks (model X.prog X.w) s'.heap (typeOf (.ref a)) cls := fun A Q E s k q => wpAny_typeOf_ref (k _ _ e1) (by rw [e2.1]; exact q)
    have mt := PySem.W.exm_one (M := model X.prog X.w) S.kIn ty hb
    have nm : ∀ {Q : Value → Shared → Prop} {E : Value → Shared → Prop}, Q c s' → wpAny (model X.prog X.w) (X.A.mark (some (.ref a))) (eval (.Name x np) X.env) Q E s' := fun {Q E} q =>
      hc.2.2.elim (fun hm => ld_glob (X := X.suite a ((a, oe) :: (X.pn ++ pins))) S hc.1 hm q hc.2.1) fun hm => ld_blt (X := X.suite a ((a, oe) :: (X.pn ++ pins))) S hc.1 hm.1 hm.2.1 q hm.2.2 hc.2.1
    refine nm (mt.here ?_)
    cases b with
    | false => exact ih (no rfl)
    | true =>
      refine codeAny_handlers_suite_as (HandSPX.lands_againZ fl fun h4 fl4 up4 => ?_)
      obtain ⟨oe4, vs4, g1, g2, g3, S4⟩ := site fl4 (up.trans up4)
      refine store_ok (X := X.suite a ((a, oe4) :: (X.pn ++ pins))) (v := .ref a) S4 hN hi (.inl hl) rfl (fun s5 S5 => ?_) (.inr hl)
      refine wpAny_mono ((hsu a oe4 cls d (X.pn ++ pins) g2 ⟨_, g3⟩).run [] s5 _ H _ S5 (yes rfl a na)) (fun f s6 sp => ?_) (fun _ _ z => z.elim)
      have fin : ∀ {σ6 : L2.St} {H6 : Hp} {R : Shared → Prop}, L2.Inv (X.suite a ((a, oe4) :: (X.pn ++ pins))) [] σ6 H6 s6 → (∀ s7, L2.Inv X pins (σ6.set i none) H6 s7 → R s7) →
          wpAny (model X.prog X.w) X.A (do bindName X.env n .none; unbindBehindTheSuite X.env n pos') (fun _ s7 => R s7) X.xe s6 := fun {_ _ _} S6 q => gone_ok (S6.unsuite J.ok) hN hi hl q
      cases f with
      | next => exact let ⟨_, _, S6, q6⟩ := sp; fin S6 fun _ J7 => ⟨_, _, J7, q6⟩
      | brk => exact let ⟨_, _, S6, q6⟩ := sp; fin S6 fun _ J7 => ⟨_, _, J7, q6⟩
      | cont => exact let ⟨_, _, S6, q6⟩ := sp; fin S6 fun _ J7 => ⟨_, _, J7, q6⟩
      | ret u => exact let ⟨_, _, _, S6, r6, q6⟩ := sp; fin S6 fun _ J7 => ⟨_, _, _, J7, r6, q6⟩
end
section
variable {X : Cx} {body : List Stmt} {h0 : ExceptHandler} {hds : List ExceptHandler} {l : List Arm} {pos : Pos} {tb : WX → TS}
theorem ps_arms (hs : X.stack = X.env :: X.outer) (hf : X.env.frame = some X.env.locals) (hN : X.N.Nodup)
    (hb : ∀ (W : WX) (pn : List (Addr × Obj)) (xe : Value → Shared → Prop), Takes (X.tr pn xe) W → PassesOwn (model X.prog X.w) X.A X.env xe → PSs (X.tr pn xe) body (tb W))
    (hh : Arms X (h0 :: hds) l) : PS X (.Try body (h0 :: hds) [] [] pos) (fun D σ H => tb (wArms X.K D l) D σ H) := ⟨fun pins s σ H D I h => by
  have fr : X.A.frames = some (X.env :: X.outer) := I.ok.frames.trans (by rw [hs])
  refine wpAny_Try_except (wpAny_mono ((hb (wArms X.K D l) (X.pn ++ pins) (fun e t1 => wpAny (model X.prog X.w) X.A (noteFrame e X.env) (fun _ t2 => wpAny (model X.prog X.w) X.A (setFlight e none)
    (fun _ t3 => wpAny (model X.prog X.w) X.A (handleBy e X.env (h0 :: hds)) (SP X pins D) X.xe t3) X.xe t2) X.xe t1) (fun u s' q => ?_) PassesOwn.looking).run [] s σ H D (I.toTry _) h) (fun f s1 q => ?_) fun _ _ z => z)
  · obtain ⟨a, B, sI, pins', σ', H', cls, d, rfl, J, nb, up, sky, na, os, ag, w⟩ := q
    refine Sky.land Zc.steady fr hf (show Sky B (X.env :: X.outer) a (Zc cls d) X.env.locals s'.heap from by rw [← hs]; exact sky) fun h3 fl up3 => ?_
    exact arms_go (s' := { s' with heap := h3 }) hs hf hN (J.ofTry I.ok) na nb os ag (up.trans up3) fl hh w
  · cases f with
    | next => exact let ⟨_, _, J, z⟩ := q; wpAny_execs_nil ⟨_, _, J.ofTry I.ok, z⟩
    | brk => exact let ⟨_, _, J, z⟩ := q; ⟨_, _, J.ofTry I.ok, z⟩
    | cont => exact let ⟨_, _, J, z⟩ := q; ⟨_, _, J.ofTry I.ok, z⟩
    | ret u => exact let ⟨_, _, _, J, r, z⟩ := q; ⟨_, _, _, J.ofTry I.ok, r, z⟩⟩
end
end Bf

/-! Own rules: defs that call repr. A repr asks that none is under way around it (Around.guards); the promise FnG is given under that. -/
namespace Bf
open PySem PySem.Spec PyProof.Rows L2

/-! ### promises where no repr is under way -/
structure FnG (P : Program) (w : World) (K : PySem.W.Frag) (mg : Str → Option Value) (base : Heap) (CX : CXT) (k : Nat) (f : Addr) (fd : FuncData) (ps : List Str) (sp : Sp) : Prop where
  len : ∀ vs H Q E, sp vs H Q E → vs.length = ps.length
  go : ∀ (A : Around) (outer : List Env) (s : Shared) (H : Hp) (args : Args) (us : List Value) (vs : List V) (Q : VK) (E : XK), A.guards = some [] → Room k A →
    Env0 P w K mg base A outer s H → BindsTo s fd args (ps.zip us) → Vals vs us → sp vs H Q E → codeAny (model P w) A (.call (.ref f) args) (CR CX outer P w H s Q E) s

section
variable {P : Program} {w : World} {K : PySem.W.Frag} {mg : Str → Option Value} {base : Heap} {CX : CXT}
theorem Fun.okG {x qual : Str} {st : Stmt} {f : Addr} {fd : FuncData} {N ps : List Str} {k : Nat} {sp : Sp} (F : Fun K x qual st f fd) (S : FnScope N ps (defScope st))
    (len : ∀ vs H Q E, sp vs H Q E → vs.length = ps.length)
    (hbody : ∀ (cdv : Value) (A : Around) (outer : List Env) (s : Shared) (H : Hp) (vs : List V) (Q : VK) (E : XK), A.guards = some [] → Room k (A.deeper (envOfC qual (defScope st) s.heap.objs.size f cdv)) → sp vs H Q E →
      ∃ t, PSs (cxOf CX P w K mg base N qual (defScope st) f cdv A outer s H E) (defBody st) t ∧ t { nx := fun _ H' => Q .non H', rt := Q } (start N vs) H) :
    FnG P w K mg base CX (k + 1) f fd ps sp := by
  obtain ⟨oc, od, kV, doc, pm, an, cdv, ct, osl, rfl, lk, hcd⟩ := F.ex
  refine ⟨len, fun A outer s H args us vs Q E hA hr e0 hb r hsp => ?_⟩
  have bk : ∀ b o, base.get? b = some o → s.heap.get? b = some o := fun b o e => (e0.bs b o e).1
  have KX := e0.mod.kin.keeps bk
  refine codeAny_call_function hr.depth (KX _ _ lk) rfl S.co S.gen rfl (PySem.W.codeRec_of KX hcd) (hb _ _ _ _ (wpAny_newFunctionEnv_cells S.kind (fun y hy => ?_) fun env he s1 x => ?_))
  · rcases S.par y.1 (List.of_mem_zip (show (y.1, y.2) ∈ _ from hy)).1 with q | q
    · exact .inl q
    · exact .inr ⟨q, PySem.W.cellsFrom_some _ _ _ (.inl q)⟩
  · cases he
    obtain ⟨t, ht, hq⟩ := hbody cdv A outer s H vs Q E hA (hr.deeper _) hsp
    refine ⟨(e0.mod.nolimit.keeps bk).keeps x.toInCall.keep, codeAny_func (wpAny_mono (ht.run [] s1 _ H _ (inv_start S hr.hd e0 (len _ _ _ _ hsp) r x) hq) (fun fl s' z => ?_) fun _ _ z => z)⟩
    cases fl with
    | next => exact let ⟨_, H', J, q⟩ := z; ⟨.non, H', J.os, J.bare, J.base, J.hok, rfl, q⟩
    | ret u => exact let ⟨v, _, H', J, rv, q⟩ := z; ⟨v, H', J.os, J.bare, J.base, J.hok, rv, q⟩
    | brk => exact let ⟨_, _, _, q⟩ := z; q.elim
    | cont => exact let ⟨_, _, _, q⟩ := z; q.elim
end
section
variable {X : Cx} {CX : CXT} {k : Nat} {f : Addr} {fd : FuncData} {ps : List Str} {sp : Sp} {E : XK} {x : Str} {p pos : Pos} {e : Expr} {es : List Expr} {t : TA}
theorem pe_callG (F : FnG X.prog X.w X.K X.mg X.base CX k f fd ps sp) (hA : X.A.guards = some []) (hr : Room k X.A) (hg : Gl X x) (hm : X.mg x = some (.ref f)) (hk : PySem.W.keepIn X.K (.ref f) = true)
    (hb : Binds X.K fd ps []) (hx : Passes CX X E) (ha : PA X (e :: es) t) (hdb : (x == ("__debug__" : Str)) = false := by decide)
    (he : starEach (e :: es) X.env = (false, eval e X.env) :: starEach es X.env := by rfl) (hpl : (backTo pos (starEach es X.env)).any (·.1) = false := by rfl) :
    PE X (.Call (.Name x p) (e :: es) [] pos) (tCall sp [] E t) := ⟨fun pins s σ H Q I h => by
  refine wpAny_Call_Name_kw (ld_glob I hg hm (PySem.W.callWith_K (h₀ := X.base) I.ok.mod.kin hk (thn (ha.run pos pins s σ H _ I h) fun us s1 ⟨vs, H1, I1, r, q⟩ => ⟨I1.kIn, ?_⟩) he hpl) hdb)
  have q : sp (vs ++ []) H1 Q E := q
  rw [List.append_nil] at q
  have hl : us.length = ps.length := r.length.symm.trans (F.len _ _ _ _ q)
  have bd : BindsTo s1 fd ⟨us, []⟩ (ps.zip us) := by
    have z := hb s1 us I1.kIn (by rw [List.append_nil]; exact hl)
    rw [List.append_nil] at z
    exact z
  refine wpAny_call (codeAny_mono (F.go X.A X.stack s1 H1 ⟨us, []⟩ us vs Q E hA hr I1.env0 bd r q) fun r s' hq => ?_)
  cases r with
  | error e => exact hx pins σ H1 s1 e s' I1 hq
  | ok fl =>
    cases fl with
    | ret u => exact I1.after hq
    | next => exact hq.elim
    | brk => exact hq.elim
    | cont => exact hq.elim⟩
end

/-! ### data as repr shows it -/
mutual
/-- x stands for the data d; every list, tuple and dict in it is tracked, at an address of which P holds; b: there may be an empty dict in it, then no list is the module table -/
inductive Sh (H : Hp) (P : Addr → Prop) (b : Bool) : V → PyData → Prop
  | non : Sh H P b .non .none
  | bl (c : Bool) : Sh H P b (.bl c) (.bool c)
  | int (i : Int) : Sh H P b (.int i) (.int i)
  | str (z : Str) : Sh H P b (.str z) (.str z)
  | lst {a : Addr} {xs : List V} {ds : List PyData} (h : H a = some (.lst xs)) (p : P a) (q : b = true → a ≠ sysModules) (r : ShAll H P b xs ds) : Sh H P b (.ref a) (.list ds)
  | tup {a : Addr} {xs : List V} {ds : List PyData} (h : H a = some (.tup xs)) (p : P a) (r : ShAll H P b xs ds) : Sh H P b (.ref a) (.tuple ds)
  | emp {a : Addr} (hb : b = true) (h : H a = some (.dK [])) (p : P a) : Sh H P b (.ref a) (.dict [])
inductive ShAll (H : Hp) (P : Addr → Prop) (b : Bool) : List V → List PyData → Prop
  | nil : ShAll H P b [] []
  | cons {v : V} {vs : List V} {d : PyData} {ds : List PyData} (h : Sh H P b v d) (r : ShAll H P b vs ds) : ShAll H P b (v :: vs) (d :: ds)
end

section
variable {X : Cx} {pins : List (Addr × Obj)} {σ : L2.St} {H : Hp} {s : Shared} {P : Addr → Prop} {b : Bool}
mutual
theorem Sh.reads (I : L2.Inv X pins σ H s) : ∀ (d : PyData) (v : V) (u : Value), Sh H P b v d → RelV v u → ∃ as, Reads s.heap u d as ∧ (b = true → ∀ a ∈ as, a ≠ sysModules)
  | .none, _, _, h, r => by
    cases h; cases r
    exact ⟨_, .none, fun _ _ z => nomatch z⟩
  | .bool c, _, _, h, r => by
    cases h; cases r
    exact ⟨_, .bool c, fun _ _ z => nomatch z⟩
  | .int i, _, _, h, r => by
    cases h; obtain ⟨t, rfl⟩ := r
    exact ⟨_, .int i t, fun _ _ z => nomatch z⟩
  | .str x, _, _, h, r => by
    cases h; obtain ⟨t, rfl⟩ := r
    exact ⟨_, .str x t, fun _ _ z => nomatch z⟩
  | .list ds, _, _, h, r => by
    cases h with
    | lst h p q ha =>
      cases r
      obtain ⟨_, its, n, rv, e⟩ := I.hok _ _ h
      obtain ⟨as, hr, hp⟩ := Sh.readsAll I ds _ its ha rv
      exact ⟨_, .list e rfl rfl hr, fun hb a z => (List.mem_cons.mp z).elim (fun y => y ▸ q hb) (hp hb a)⟩
  | .tuple ds, _, _, h, r => by
    cases h with
    | tup h p ha =>
      cases r
      obtain ⟨_, its, rv, o, e1, e2, n, e3⟩ := I.hok _ _ h
      obtain ⟨as, hr, hp⟩ := Sh.readsAll I ds _ its ha rv
      exact ⟨_, .tuple e1 e2 e3 hr, hp⟩
  | .dict _, _, _, h, r => by
    cases h with
    | emp hb h p =>
      cases r
      obtain ⟨_, sm, vs, kv, o, es, ep, e1, e2, e3, _, e4, _⟩ := I.hok _ _ h
      cases kv
      have en : es.toList = [] := by
        cases q : es.toList with
        | nil => rfl
        | cons x r => rw [q] at e4; cases e4
      refine ⟨_, .dict e1 e2.1 e3 (kvs := []) (as := []) (bs := []) (by rw [en]; exact .nil) (by rw [en]; exact .nil), fun _ a z => ?_⟩
      rcases List.mem_cons.mp z with e | e
      · exact e ▸ beq_eq_false_iff_ne.mp sm
      · cases e
theorem Sh.readsAll (I : L2.Inv X pins σ H s) : ∀ (ds : List PyData) (vs : List V) (us : List Value), ShAll H P b vs ds → Vals vs us → ∃ as, ReadsAll s.heap us ds as ∧ (b = true → ∀ a ∈ as, a ≠ sysModules)
  | [], _, _, h, r => by
    cases h; cases r
    exact ⟨_, .nil, fun _ _ z => nomatch z⟩
  | d :: ds, _, _, h, r => by
    cases h with
    | cons h1 h2 =>
      cases r with
      | cons r1 r2 =>
        obtain ⟨as, q1, p1⟩ := Sh.reads I d _ _ h1 r1
        obtain ⟨bs, q2, p2⟩ := Sh.readsAll I ds _ _ h2 r2
        exact ⟨_, .cons q1 q2, fun hb a z => (List.mem_append.mp z).elim (p1 hb a) (p2 hb a)⟩
end
end
mutual
theorem Sh.nodict {H : Hp} {P : Addr → Prop} : ∀ (d : PyData) (v : V), Sh H P false v d → d.hasDict = false
  | .none, _, _ => by simp only [PyData.hasDict]
  | .bool _, _, _ => by simp only [PyData.hasDict]
  | .int _, _, _ => by simp only [PyData.hasDict]
  | .str _, _, _ => by simp only [PyData.hasDict]
  | .list ds, _, h => by
    cases h with
    | lst _ _ _ r => simp only [PyData.hasDict]; exact ShAll.nodict ds _ r
  | .tuple ds, _, h => by
    cases h with
    | tup _ _ r => simp only [PyData.hasDict]; exact ShAll.nodict ds _ r
  | .dict _, _, h => by
    cases h with
    | emp hb _ _ => cases hb
theorem ShAll.nodict {H : Hp} {P : Addr → Prop} : ∀ (ds : List PyData) (vs : List V), ShAll H P false vs ds → PyData.hasDictAll ds = false
  | [], _, _ => by simp only [PyData.hasDictAll]
  | d :: ds, _, h => by
    cases h with
    | cons h r =>
      simp only [PyData.hasDictAll, Sh.nodict d _ h, ShAll.nodict ds _ r, Bool.or_self]
end
section
variable {X : Cx}
/-- repr(x) -/
def rRepr : List V → Hp → VK → Prop := fun xs H Q => ∃ (x : V) (P : Addr → Prop) (b : Bool) (d : PyData), xs = [x] ∧ Sh H P b x d ∧ d.showable = true ∧ d.depth ≤ 60 ∧ d.shown.length ≤ sizeLine ∧ Q (.str d.shown) H
theorem call_repr (hA : X.A.guards = some []) (hu : X.A.units + 64 < cLine) : CallR X (.builtin "repr") rRepr := by
  intro pins s σ H xs us Q I r h
  obtain ⟨x, P, b, d, rfl, hs, sw, dp, sz, q⟩ := h
  obtain ⟨u, rfl, rx⟩ := vals1 r
  obtain ⟨as, rd, hp⟩ := Sh.reads I d x u hs rx
  have nodict : d.hasDict = true → sysModules ∉ as := fun hd z => by
    cases b with
    | false => rw [Sh.nodict d x hs] at hd; cases hd
    | true => exact hp rfl _ z rfl
  have fin : ∀ (t : Tok) (tk : Nat), EP X pins σ Q (.str d.shown t) { s with toks := tk } := fun t tk => ⟨.str d.shown, H, I.tok tk, ⟨t, rfl⟩, q⟩
  have finH : ∀ h' t tk, (∀ b o, s.heap.get? b = some o → h'.get? b = some o) → EP X pins σ Q (.str d.shown t) { s with heap := h', toks := tk } := fun h' t tk k => ⟨.str d.shown, H, I.kept k, ⟨t, rfl⟩, q⟩
  have big : ∀ {a : Addr}, u = .ref a → wpAny (model X.prog X.w) X.A (call (.builtin "repr") [u]) (EP X pins σ Q) X.xe s := fun {a} e => by
    subst e
    exact repr_of_reads' rd sw nodict hA (by omega) (fun _ _ z => z) finH sz
  cases rd with
  | none => exact PySem.P.repr_of_none (by have z := fin s.toks (s.toks + 1); simp only [PyData.shown] at z; exact z)
  | bool c => exact PySem.P.repr_of_bool (by have z := fin s.toks (s.toks + 1); simp only [PyData.shown] at z; exact z)
  | int i t => exact PySem.P.repr_of_int (by simpa [PyData.showable] using sw) (by have z := fin s.toks (s.toks + 1); simp only [PyData.shown] at z; exact z)
  | str z t => exact PySem.P.repr_of_str (by have z := fin s.toks (s.toks + 1); simp only [PyData.shown] at z; exact z) (by simp only [PyData.shown] at sz; exact sz)
  | list _ _ _ _ => exact big rfl
  | tuple _ _ _ _ => exact big rfl
  | dict _ _ _ _ _ => exact big rfl
/-- a list of written items, not the module table -/
def tLstN (t : TA) : TE := fun σ H Q => t σ H fun xs H1 => xs.length ≤ 1000 ∧ ∀ p, H1 p = none → p ≠ sysModules → Q (.ref p) (upd H1 p (.lst xs))
theorem pe_lstN {es : List Expr} {pos : Pos} {t : TA} (h : PA X es t) : PE X (.List es pos) (tLstN t) := ⟨fun pins s σ H Q I hq => by
  refine wpAny_List_spliced (thn (h.run pos pins s σ H _ I hq) fun us s1 z => ?_)
  obtain ⟨xs, H1, I1, r, sz, q⟩ := z
  have le : xs.length ≤ sizeLine := Nat.le_trans sz (by decide)
  refine ⟨r.length ▸ le, .ref s1.heap.objs.size, upd H1 s1.heap.objs.size (.lst xs), I1.laid (t' := s1.toks) (fun _ _ e => Heap.get?_push_of_some _ e) (Nat.le_refl _) ⟨le, us, 0, r, Heap.get?_push_size _ rfl⟩, rfl, ?_⟩
  exact q _ (I1.hok.fresh (Nat.le_refl _)) (Nat.ne_of_gt I1.big)⟩
end

/-! ### the law's end -/
section
open PySem.W
variable {l : PySem.W.OpenLaw} {n k : Nat} {q : Program} {loose : List Str} {XP : (Str → Option Value) → Heap → Prop} {YP : World → Heap → Prop} {d : DefRec} {K : Params → PySem.W.Frag} {sp : PySem.W.Frag → Sp} {x : Str}
theorem walkG (hn : l.most = some n) (hn2 : n ≤ 1000) (hdf : d.params.defaults = []) (hr : Room k callerA) (hY : ∀ (w : World) (h : Heap), YP w h → (K w.params).In h)
    (F : ∀ (w : World) (mg : Str → Option Value) (fa : Addr) (h : Heap), (K w.params).In h → h.Ns mainGlobals mg → mg d.name = some (.ref fa) →
      ∃ fd : FuncData, (∀ (s : Shared) (u : Value), BindsTo s fd ⟨[u], []⟩ [(x, u)]) ∧ ∀ base : Heap, (K w.params).In base → base.Ns mainGlobals mg → FnG l.prog w (K w.params) mg base CX0 k fa fd [x] (sp (K w.params)))
    (hsp : ∀ (K : PySem.W.Frag) (H : Hp) (a : Addr) (ns : List Int), ns.length ≤ n → SqL K H a (ns.map V.int) → (∀ b, H b = none ∨ b = a) → sp K [.ref a] H (fun v _ => v = .bl true) fun _ _ _ => False) :
    WalkO q loose XP YP l.row.toRowW d [] (fun f vs => PySem.call f vs) := by
  refine Att.attach_call hn hdf fun w s0 s1 mg mb fa o pm cd doc a vs ns G Y _ _ _ hmg ha hi hl hg => ?_
  have KX := hY w _ Y
  obtain ⟨fd, bind, go⟩ := F w mg fa _ KX G.T.g hmg
  have hle : ns.length ≤ sizeLine := Nat.le_trans hl (Nat.le_trans hn2 (by decide))
  have rv := vals_ints hi
  -- the abstract heap: the script, locked, unless it is the module's own
  have mid : ∀ H : Hp, SqL (K w.params) H a (ns.map V.int) → HOk l.prog w H s1.heap → (∀ b, H b = none ∨ (b = a ∧ (K w.params).lookup a = none ∧ ∃ o xs, H a = some (.frz o (.lst xs)))) →
      codeAny (model l.prog w) callerA (.call (.ref fa) ⟨[.ref a], []⟩) (fun r s' => r = .ok (.ret (.bool true)) ∧ OldK s1.heap s'.heap ∧ s'.os = s1.os ∧ AllBare s'.gens) s1 := fun H hS ok hA => by
    have nsK : ∀ {b : Addr} {m : Str → Option Value}, s1.heap.Ns b m → (hidT s1.heap H).Ns b m := fun {b m} z => by
      obtain ⟨o, es, ep, e, dd, r⟩ := z
      refine ⟨o, es, ep, hidT_get e ((hA b).resolve_right fun y => ?_), dd, r⟩
      rw [y.1, ha] at e
      cases e
      cases dd
    have kin : (K w.params).In (hidT s1.heap H) := fun b o e => hidT_get (KX b o e) ((hA b).resolve_right fun y => by
      rw [y.1, y.2.1] at e
      cases e)
    have md : Mod (K w.params) mg (hidT s1.heap H) := ⟨kin, nsK G.T.g, ⟨mb, nsK G.T.b, G.T.builtins⟩, let ⟨mc, h1, h2⟩ := G.T.nolimit; ⟨mc, nsK h1, h2⟩⟩
    refine codeAny_mono ((go _ kin (nsK G.T.g)).go callerA [] s1 H ⟨[.ref a], []⟩ [.ref a] [.ref a] _ _ rfl hr
      ⟨rfl, md, fun _ _ e => of_hidT e, Nat.le_of_eq (hidT_size _ _), trivial, (fun _ z => nomatch z), ok, .of_eq hg⟩ (bind s1 (.ref a)) (.cons rfl .nil) (hsp _ H a ns hl hS fun b => (hA b).imp_right (·.1))) fun r s' h => ?_
    cases r with
    | error e => exact h.elim
    | ok fl =>
      cases fl with
      | next => exact h.elim
      | brk => exact h.elim
      | cont => exact h.elim
      | ret u =>
        obtain ⟨v, H', os, bare, un, ok', rv', e⟩ := h
        cases (show v = .bl true from e)
        cases (show u = .bool true from rv')
        refine ⟨rfl, OldK.of_keep fun b o e => ?_, os, bare⟩
        rcases hA b with z | ⟨rfl, _, ob, xs, z⟩
        · exact un.keep b o e z (fun y => nomatch y) (fun y => nomatch y)
        · have e1 := (ok _ _ z).1
          rw [e] at e1
          cases e1
          exact (ok' _ _ (un.frzs _ _ _ z)).1
  cases hk : (K w.params).lookup a with
  | some o =>
    have e := KX a o hk
    rw [ha] at e
    cases e
    exact mid (fun _ => none) (.inr ⟨_, vs.toArray, _, hk, rfl, rfl, rfl, by rw [List.size_toArray, hi.length]; exact hle, by simpa using rv⟩) (fun _ _ z => nomatch z) fun _ => .inl rfl
  | none =>
    have at_ : ∀ b, b = a → (fun c => if c = a then some (HO.frz { cls := .type "list", data := .seq vs.toArray } (.lst (ns.map V.int))) else none) b = some (HO.frz { cls := .type "list", data := .seq vs.toArray } (.lst (ns.map V.int))) := fun b e => if_pos e
    refine mid (fun c => if c = a then some (.frz { cls := .type "list", data := .seq vs.toArray } (.lst (ns.map V.int))) else none) (.inl (.inr ⟨_, at_ a rfl⟩)) (fun b u z => ?_) fun b => ?_
    · by_cases hb : b = a
      · cases (at_ b hb).symm.trans z
        cases hb
        exact ⟨ha, by rw [List.length_map]; exact hle, vs, _, rv, ha⟩
      · cases (if_neg hb).symm.trans z
    · by_cases hb : b = a
      · exact .inr ⟨hb, hk, _, _, at_ a rfl⟩
      · exact .inl (if_neg hb)
end
end Bf

/-! Own rule: enumerate over a tuple. -/
namespace Bf
open PySem PySem.Spec PyProof.Rows L2

/-- the tuple's cells behind enumerate(t) -/
theorem enum_new_tup (t : Addr) (items : Array Value) (n : Nat) (dct : Option Addr) (sl : Array (Option Value)) :
    Meets (Builtin.«enumerate.__new__» ⟨[.type "enumerate", .ref t], []⟩) (fun _ R s => s.heap.get? t = some { cls := .type "tuple", dict := dct, data := .seq items n, slots := sl } ∧
      R (.ok (.ret (.ref (s.heap.push { cls := .type "tuple_iterator", data := .fields #[.ref t, .int 0 0] }).objs.size)))
        { s with heap := (s.heap.push { cls := .type "tuple_iterator", data := .fields #[.ref t, .int 0 0] }).push { cls := .type "enumerate", data := .fields #[.none, .bool false, .ref s.heap.objs.size, rawInt 0, .none, .none] } }) :=
  .of_wp fun prog w A R s h => by
    obtain ⟨hp, g, d, tk, os⟩ := s
    obtain ⟨ht, h⟩ := h
    have sub := sub_enumerate
    have it : ∀ {A' : Around} {E : Value → Shared → Prop} {Q : Value → Shared → Prop}, Q (.ref hp.objs.size) ⟨hp.push { cls := .type "tuple_iterator", data := .fields #[.ref t, .int 0 0] }, g, d, tk, os⟩ →
        wpAny (model prog w) A' (pyIter (.ref t)) Q E ⟨hp, g, d, tk, os⟩ := fun q => wpAny_pyIter_tuple (s := ⟨hp, g, d, tk, os⟩) ⟨_, ht, rfl, n, rfl⟩ q
    wp_walk using it
    refine wpAny_stack_any fun st => wpAny_pure ?_
    split
    · rename_i c _ _ _ _ _
      cases (c == Value.type "enumerate") <;> (wp_walk using it; exact ⟨_, rfl, h⟩)
    · wp_walk using it
      exact ⟨_, rfl, h⟩

section
variable {prog : Program} {w : World} {A : Around} {E : Value → Shared → Prop} {s : Shared}
theorem enum_tup {t : Addr} {items : Array Value} {Q : Value → Shared → Prop} (T : s.heap.IsTuple t items)
    (h : ∀ h' : Heap, IsEnum h' (s.heap.objs.size + 1) s.heap.objs.size 0 .none → h'.IsTupleIter s.heap.objs.size t 0 → (∀ b o, s.heap.get? b = some o → h'.get? b = some o) → Q (.ref (s.heap.objs.size + 1)) { s with heap := h' }) :
    wpAny (model prog w) A (call (.type "enumerate") [.ref t]) Q E s := by
  obtain ⟨⟨c, dct, dt, sl⟩, e1, e2, n, e3⟩ := T
  cases (show c = .type "tuple" from e2)
  cases (show dt = .seq items n from e3)
  refine callType_new F.called_enumerate (by decide) (F.typeCall_enumerate_1 _) (F.newCall_enumerate_1 _) (fun obj => F.args_object_init_2 obj _) F.entry_enumerate_new (enum_new_tup t items n dct sl) ⟨e1, ?_⟩
  have sz : (s.heap.push { cls := .type "tuple_iterator", data := .fields #[.ref t, .int 0 0] }).objs.size = s.heap.objs.size + 1 := Heap.size_push ..
  have en := Heap.get?_push_size (s.heap.push { cls := .type "tuple_iterator", data := .fields #[.ref t, .int 0 0] })
    (o := { cls := .type "enumerate", data := .fields #[.none, .bool false, .ref s.heap.objs.size, rawInt 0, .none, .none] }) rfl
  rw [sz] at en
  show _ ∧ _
  rw [sz]
  exact ⟨⟨_, en, rfl⟩, h _ en ⟨_, Heap.get?_push_of_some _ (Heap.get?_push_size _ rfl), rfl, rfl⟩ fun b o x => Heap.get?_push_of_some _ (Heap.get?_push_of_some _ x)⟩
end

/-- the tuple at a, each item in a new pair -/
def Iet (K : PySem.W.Frag) (a : Addr) : It where
  go i H := ∃ (xs : List V) (x : V), SqT K H a xs ∧ xs[i]? = some x
  yld i H v H' := ∃ T x, v = .ref T ∧ H T = none ∧ H' = upd H T (.tup [.int (i : Nat), x]) ∧ ∀ xs, SqT K H a xs → xs[i]? = some x
  stop i H := ∃ xs : List V, SqT K H a xs ∧ i = xs.length
theorem turn_iet {P : Program} {w : World} {K : PySem.W.Frag} {elts : List Expr} {kk : Nat} {tpos : Pos} (a e it : Addr) :
    Turn P w K (.Tuple elts kk tpos) (Iet K a) [e, it] e (fun i h => (∃ old, IsEnum h e it ((i : Nat) : Int) old) ∧ h.IsTupleIter it a i ∧ e ≠ it) where
  mem := List.mem_cons_self
  obj i h st b hb := by
    obtain ⟨⟨old, he⟩, ⟨o, ho, hc, hd⟩, _⟩ := st
    rcases List.mem_cons.mp hb with z | z
    · cases z
      exact ⟨_, he, fun v q => nomatch q⟩
    · have z := List.mem_singleton.mp z
      exact ⟨o, z ▸ ho, fun v q => by rw [hd] at q; cases q⟩
  keep i h h' st k := by
    obtain ⟨⟨old, he⟩, hi, ne⟩ := st
    exact ⟨⟨old, k e (by simp) _ he⟩, hi.at fun o q => k it (by simp) o q, ne⟩
  item := by
    rintro X rfl rfl rfl hc i pins s σ H E I hf ⟨⟨old, he⟩, hit, ne⟩ ⟨xs, x, hq, hx⟩
    obtain ⟨its, rv, p, hz⟩ := I.tuple hq
    obtain ⟨u, hu, ru⟩ := rv.get hx
    have p' : s.heap.IsTuple a its.toArray := p
    obtain ⟨oa, hoa, hca, na, hda⟩ := id p'
    have nia : a ≠ it := fun z => by
      obtain ⟨o, ho, hc', hd'⟩ := hit
      rw [← z, hoa] at ho
      cases ho
      rw [hda] at hd'
      cases hd'
    have nea : e ≠ a := fun z => by
      have he2 : s.heap.get? e = _ := he
      rw [z, hoa] at he2
      cases he2
      cases hda
    have hel : e < s.heap.objs.size := Heap.lt_size he
    have hil : it < s.heap.objs.size := let ⟨_, q, _⟩ := hit; Heap.lt_size q
    refine wpAny_pyNext_enum_itemD (D := Draws.tuple (A := X.A.in1) (show X.A.in1.handled = none from I.ok.hd hc) it a nia its.toArray) he ⟨hit, p'⟩ (by have := (List.getElem?_eq_some_iff.mp hu).1; simpa using this) ne (by simp [ne, nea]) fun y h' tk hy ho hit' hT hsz hk => ?_
    have ey : y = u := by
      have z : its[i]? = some y := by simpa using hy
      rw [hu] at z
      exact (Option.some.inj z).symm
    subst ey
    refine ⟨_, rfl, wpAny_letOwnedTupleGo_enum (s := { s with heap := h', toks := tk + 1 }) ho fun h2 he2 sb => ?_⟩
    have hT2 : h2.get? s.heap.objs.size = some { cls := .type "tuple", data := .seq #[.int i tk, y] } := (sb.2 _ (Nat.ne_of_gt hel)).trans hT
    have low : ∀ b, b ∈ [e, it] → b < s.heap.objs.size := fun b hb => (List.mem_cons.mp hb).elim (fun z => z ▸ hel) fun z => List.mem_singleton.mp z ▸ hil
    have I1 : L2.Inv X pins σ (upd H s.heap.objs.size (.tup [.int (i : Nat), x])) { s with heap := h2, toks := tk + 1 } :=
      I.turnedNew (ch := [e, it]) (fun b ob hb q => (sb.2 b (fun z => hb (by simp [z]))).trans (hk b ob (fun z => hb (by simp [z])) (fun z => hb (by simp [z])) q)) hf (Nat.le_refl _)
        ⟨by show 2 ≤ sizeLine; decide, [.int i tk, y], .cons ⟨_, rfl⟩ (.cons ru .nil), ⟨_, hT2, rfl, _, rfl⟩⟩
    refine ⟨.ref s.heap.objs.size, _, I1, rfl, ⟨_, x, rfl, I.hok.fresh (Nat.le_refl _), rfl, fun ys hy => by rw [I.tuple_inj hy hq]; exact hx⟩, ⟨⟨y, ?_⟩, hit'.1.at fun o q => (sb.2 it (Ne.symm ne)).trans q, ne⟩, fun b hb => ?_⟩
    · rw [show ((i + 1 : Nat) : Int) = (i : Int) + 1 from by omega]
      exact he2
    · rw [upd_ne (Nat.ne_of_lt (low b hb))]
      exact (hf b hb).1
  done := by
    rintro X rfl rfl rfl hc i pins s σ H E I hf ⟨⟨old, he⟩, hit, ne⟩ ⟨xs, hq, rfl⟩
    obtain ⟨its, rv, p, hz⟩ := I.tuple hq
    have p' : s.heap.IsTuple a its.toArray := p
    obtain ⟨oa, hoa, hca, na, hda⟩ := id p'
    have nia : a ≠ it := fun z => by
      obtain ⟨o, ho, hc', hd'⟩ := hit
      rw [← z, hoa] at ho
      cases ho
      rw [hda] at hd'
      cases hd'
    obtain ⟨f0, f1, f2, f3, f4, f5⟩ := hf it (by simp)
    refine wpAny_pyNext_enum_endD (D := Draws.tuple (A := X.A.in1) (show X.A.in1.handled = none from I.ok.hd hc) it a nia its.toArray) he ⟨by rw [List.size_toArray, ← rv.length]; exact hit, p'⟩ fun h' eb => ⟨rfl, I.turned (t' := s.toks) (fun b o hb q => eb b o hb q) f0 f1 f3 f4 f5⟩
  self A i s Q E st h := let ⟨⟨_, he⟩, _⟩ := st; wpAny_pyIter_enum he h
def iEnumT (K : PySem.W.Frag) (ta : TA) : TI := fun σ H R => ta σ H fun vs H1 => ∃ a xs, vs = [.ref a] ∧ SqT K H1 a xs ∧ R (Iet K a) H1
theorem pi_enumT {X : Cx} {e : Expr} {ta : TA} {p pos tpos : Pos} {elts : List Expr} {kk : Nat} (hg : Gl X "enumerate") (hm : X.mg "enumerate" = none) (ha : PA X [e] ta)
    (hs : starEach [e] X.env = [(false, eval e X.env)] := by rfl) : PI X (.Tuple elts kk tpos) (.Call (.Name "enumerate" p) [e] [] pos) (iEnumT X.K ta) := ⟨fun pins s σ H R I h => by
  refine Call_ (ld_blt I hg hm boot_enumerate (PyProof.Rows.callWith_type1 (thn (ha.run pos pins s σ H _ I h) fun us s1 z => ?_) hs rfl))
  obtain ⟨vs, H1, I1, r1, a, xs, rfl, hq, q⟩ := z
  cases r1 with
  | cons r rr =>
    cases rr
    cases r
    obtain ⟨its, rv, p', hz⟩ := I1.tuple hq
    refine enum_tup (show s1.heap.IsTuple a its.toArray from p') fun h' he hit hk => wpAny_pyIter_enum he ?_
    refine ⟨s1.heap.objs.size + 1, [s1.heap.objs.size + 1, s1.heap.objs.size], _, _, H1, rfl, I1.kept (t' := s1.toks) hk, turn_iet a (s1.heap.objs.size + 1) s1.heap.objs.size, ⟨⟨.none, he⟩, hit, Nat.succ_ne_self _⟩, fun b hb => ?_, q⟩
    have le : s1.heap.objs.size ≤ b := (List.mem_cons.mp hb).elim (fun z => z ▸ Nat.le_succ _) fun z => List.mem_singleton.mp z ▸ Nat.le_refl _
    have I2 : L2.Inv X pins σ H1 { s1 with heap := h' } := I1.kept (t' := s1.toks) hk
    exact I1.fpOk le (I1.hok.fresh le)⟩
/-- the loop's reading -/
theorem for_iet {K : PySem.W.Frag} {a : Addr} {xs : List V} {g : TG} {tb : TS} {D : Ends} {σ : L2.St} {H : Hp} (Pv : Nat → L2.St → Hp → Prop) (h0 : Pv 0 σ H) (hl : ∀ i σ H, i ≤ xs.length → Pv i σ H → SqT K H a xs)
    (hs : ∀ i x σ H T, xs[i]? = some x → Pv i σ H → H T = none → g (.ref T) σ (upd H T (.tup [.int (i : Nat), x])) fun σ2 H2 => tb { D with nx := Pv (i + 1), ct := Pv (i + 1), bk := D.nx } σ2 H2) (hd : ∀ σ H, Pv xs.length σ H → D.nx σ H) :
    ∃ W : Nat → Nat → L2.St → Hp → Prop, (∃ m, W 0 m σ H) ∧ ∀ i m σ H, W i m σ H →
      ((Iet K a).stop i H ∧ D.nx σ H) ∨ ((Iet K a).go i H ∧ ∃ N : L2.St → Hp → Prop, (∀ σ' H', N σ' H' → ∃ m', m' < m ∧ W (i + 1) m' σ' H') ∧ ∀ x H', (Iet K a).yld i H x H' → g x σ H' fun σ2 H2 => tb { D with nx := N, ct := N, bk := D.nx } σ2 H2) := by
  refine ⟨fun i m σ H => m = xs.length - i ∧ i ≤ xs.length ∧ Pv i σ H, ⟨xs.length, by simp, Nat.zero_le _, h0⟩, ?_⟩
  rintro i m σ H ⟨rfl, hi, p⟩
  have q := hl i σ H hi p
  rcases Nat.lt_or_ge i xs.length with lt | ge
  · refine .inr ⟨⟨xs, xs[i], q, List.getElem?_eq_getElem lt⟩, Pv (i + 1), fun σ' H' p' => ⟨xs.length - (i + 1), by omega, rfl, lt, p'⟩, ?_⟩
    rintro x H' ⟨T, y, rfl, nT, rfl, hy⟩
    exact hs i y σ H T (hy xs q) p nT
  · have e : i = xs.length := Nat.le_antisymm hi ge
    exact .inl ⟨⟨xs, q, e⟩, hd σ H (e ▸ p)⟩
end Bf

/-! Own rules: x not in t, t a tuple of texts, x any thing; xs < ys of lists; comprehensions over enumerate and zip. -/
namespace Bf
open PySem PySem.Spec PyProof.Rows L2

theorem dict_eq_declines_str (l : Addr) (dt : Data) (dd : Option Addr) (sl : Array (Option Value)) (b : Str) (u : Tok) :
    Meets (Builtin.«dict.__eq__» ⟨[.ref l, .str b u], []⟩) (fun _ R s => s.heap.get? l = some { cls := .type "dict", dict := dd, data := dt, slots := sl } ∧ R (.ok (.ret .notImplemented)) s) :=
  .of_wp fun prog w A R s h => by
    obtain ⟨hp, g, d, tk, os⟩ := s
    obtain ⟨hl, h⟩ := h
    have f1 := F.sub_str_dict
    wp_walk using wpAny_loadPart' hl
    exact ⟨_, rfl, h⟩
theorem str_eq_declines_dict (b : Str) (u : Tok) (l : Addr) (es : Array DictEntry) (n : Nat) (dd : Option Addr) (sl : Array (Option Value)) :
    Meets (Builtin.«str.__eq__» ⟨[.str b u, .ref l], []⟩) (fun _ R s => s.heap.get? l = some { cls := .type "dict", dict := dd, data := .dict es n, slots := sl } ∧ R (.ok (.ret .notImplemented)) s) :=
  .of_wp fun prog w A R s h => by
    obtain ⟨hp, g, d, tk, os⟩ := s
    obtain ⟨hl, h⟩ := h
    wp_walk using wpAny_loadPart' hl, wpAny_load hl
    exact ⟨_, rfl, h⟩
theorem eqAt_str_dict {A : Around} {s : Shared} {l : Addr} {o : Obj} {es : Array DictEntry} {n : Nat} (b : Str) (u : Tok) (ho : s.heap.get? l = some o) (hc : o.cls = .type "dict") (hd : o.data = .dict es n) (hu : A.units < cLine) :
    SeqAt.EqAt A s (.str b u) (.ref l) false := fun prog w E Q h => by
  obtain ⟨cls, dd, data, sl⟩ := o
  simp only at hc hd
  subst hc hd
  unfold eqBool
  refine wpAny_holding ?_
  refine wpAny_ite_split (fun hab => absurd (eq_of_beq hab) nofun) (fun _ => ?_)
  refine wpAny_bind (SeqAt.rc_eq_decline_or (k := false) (typeIs_str s b u) ⟨_, ho, rfl⟩ (by decide) F.sub_dict_str F.slot_str_eq F.slot_dict_eq_refl
    (fun _ hq => call_meets F.slot_str_eq (typeIs_str s b u) F.entry_str_eq (F.args_str_eq_2 _ _) (str_eq_declines_dict b u l es n dd sl) ⟨ho, hq⟩)
    (fun _ hq => call_meets F.slot_dict_eq_refl ⟨_, ho, rfl⟩ F.entry_dict_eq (F.args_dict_eq_2 _ _) (dict_eq_declines_str l _ dd sl b u) ⟨ho, hq⟩)
    (fun _ hq => wpAny_of_eq (rfl : isSame (.str b u) (.ref l) = pure false) hq) (.inr hu) (wpAny_truthy_bool h))

/-- a thing that is compared with texts -/
inductive Odd (H : Hp) : V → Prop
  | non : Odd H .non
  | bl (b : Bool) : Odd H (.bl b)
  | int (i : Int) : Odd H (.int i)
  | str (z : Str) : Odd H (.str z)
  | lst {a : Addr} {xs : List V} (h : H a = some (.lst xs)) : Odd H (.ref a)
  | tup {a : Addr} {xs : List V} (h : H a = some (.tup xs)) : Odd H (.ref a)
  | emp {a : Addr} (h : H a = some (.dK [])) : Odd H (.ref a)
section
variable {X : Cx}
theorem eqAt_odd {pins : List (Addr × Obj)} {σ : L2.St} {H : Hp} {s : Shared} {x : V} {v : Value} {z : Str} {t : Tok} {A : Around} (hu : A.units < cLine) (I : L2.Inv X pins σ H s) (h : Odd H x) (r : RelV x v) :
    SeqAt.EqAt A s (.str z t) v (eqV (.str z) x) := by
  have fl : flatV x = true → SeqAt.EqAt A s (.str z t) v (eqV (.str z) x) := fun f => eqAt_V (y := .str z) ⟨t, rfl⟩ r rfl f
  cases h with
  | non => exact fl rfl
  | bl b => exact fl rfl
  | int i => exact fl rfl
  | str z => exact fl rfl
  | lst h =>
    cases r
    obtain ⟨_, its, n, rv, e⟩ := I.hok _ _ h
    exact SeqAt.EqAt.str_list z t (items := its.toArray) ⟨_, e, rfl, _, rfl⟩ hu
  | tup h =>
    cases r
    obtain ⟨_, its, rv, o, e1, e2, n, e3⟩ := I.hok _ _ h
    exact SeqAt.EqAt.str_tuple z t ⟨o, e1, e2, n, e3⟩ hu
  | emp h =>
    cases r
    obtain ⟨_, sm, vs, kv, o, es, ep, e1, e2, e3, _, e4, _⟩ := I.hok _ _ h
    exact eqAt_str_dict z t e1 e2.1 e3 hu
def rNotInW (K : PySem.W.Frag) : R2 := fun x y H Q => ∃ (p : Addr) (ws : List Str), y = .ref p ∧ SqT K H p (ws.map V.str) ∧ Odd H x ∧ Q (.bl (!inV x (ws.map V.str))) H
theorem op_notInW (hu : X.A.units + 64 < cLine) : OpR X (compareOp .NotIn) (rNotInW X.K) := by
  intro pins s σ H x y v u Q I rx ry h
  obtain ⟨p, ws, rfl, hq, od, q⟩ := h
  cases ry
  obtain ⟨its, r, pl, hz⟩ := I.tuple hq
  have fs : (ws.map V.str).all flatV = true := by
    rw [List.all_map, List.all_eq_true]
    intro z _
    rfl
  have each : ∀ {vs : List V} {us : List Value}, Vals vs us → (∀ y ∈ vs, ∃ z, y = V.str z) → ∀ w ∈ us, SeqAt.EqAt X.A.in1 s w v (eqU x w) := by
    intro vs us r
    induction r with
    | nil => exact fun _ _ m => nomatch m
    | cons r1 r2 ih =>
      intro hv w m
      rcases List.mem_cons.mp m with rfl | m
      · obtain ⟨z, rfl⟩ := hv _ List.mem_cons_self
        obtain ⟨t, rfl⟩ := r1
        exact eqAt_odd (by show X.A.units + 1 < cLine; omega) I od rx
      · exact ih (fun y my => hv y (List.mem_cons_of_mem _ my)) w m
  refine SeqAt.notIn_tupleAt (eqU x) pl (fun w hw => each r (fun y my => by obtain ⟨z, _, rfl⟩ := List.mem_map.mp my; exact ⟨z, rfl⟩) w (by simpa using hw)) ⟨.bl _, H, I, rfl, ?_⟩
  rw [show its.toArray.any (eqU x) = its.any (eqU x) by simp, any_eqU r fs]
  exact q
/-- xs < ys, lists of whole numbers -/
theorem alike_ints : ∀ ns ms : List Int, PySem.W.alikeAll (ns.map PyData.int) (ms.map PyData.int) = true
  | [], [] => by simp only [List.map_nil, PySem.W.alikeAll]
  | [], _ :: _ => by simp only [List.map_nil, PySem.W.alikeAll]
  | _ :: _, [] => by simp only [List.map_nil, List.map_cons, PySem.W.alikeAll]
  | a :: ns, b :: ms => by simp only [List.map_cons, PySem.W.alikeAll, PySem.W.alike, alike_ints ns ms, Bool.and_self]
theorem dpI {K : PySem.W.Frag} {H : Hp} : ∀ is : List Int, DpAll K H (is.map V.int) (is.map PyData.int)
  | [] => .nil
  | i :: r => .cons (.int i) (dpI r)
theorem depth_ints : ∀ ns : List Int, PyData.depthAll (ns.map PyData.int) = 0
  | [] => by simp only [List.map_nil, PyData.depthAll]
  | n :: r => by simp only [List.map_cons, PyData.depthAll, PyData.depth, depth_ints r]; decide
def ltI (ns ms : List Int) : Bool := PySem.W.dataLt (.list (ns.map PyData.int)) (.list (ms.map PyData.int))
def rLtI (K : PySem.W.Frag) : R2 := fun x y H Q => ∃ (a b : Addr) (ns ms : List Int), x = .ref a ∧ y = .ref b ∧ SqL K H a (ns.map V.int) ∧ SqL K H b (ms.map V.int) ∧ Q (.bl (ltI ns ms)) H
theorem op_ltI (hu : X.A.units + 64 < cLine) : OpR X (compareOp .Lt) (rLtI X.K) := by
  intro pins s σ H x y v u Q I rx ry h
  obtain ⟨a, b, ns, ms, rfl, rfl, ha, hb, q⟩ := h
  obtain ⟨as, r1⟩ := Dp.reads I (.list (ns.map PyData.int)) (.ref a) v (.lst ha (dpI ns)) rx
  obtain ⟨bs, r2⟩ := Dp.reads I (.list (ms.map PyData.int)) (.ref b) u (.lst hb (dpI ms)) ry
  refine PySem.W.lt_data r1 r2 (by simp only [PySem.W.alike]; exact alike_ints ns ms) (fun z => nomatch z) ?_ ⟨.bl (ltI ns ms), H, I, rfl, q⟩
  have d1 : PyData.depth (.list (ns.map PyData.int)) = 1 := by simp only [PyData.depth, depth_ints]
  have : min (PyData.depth (.list (ns.map PyData.int))) (PyData.depth (.list (ms.map PyData.int))) ≤ 1 := by rw [d1]; exact Nat.min_le_left _ _
  omega
end

/-! ### comprehensions over enumerate(list) and zip(list, list) -/
theorem lc_ite {K : PySem.W.Frag} {a : Addr} {xs : List V} {g : TG} {tt : TT} {te : TE} {vs : List Nat} {σ : L2.St} {H1 : Hp} {D : Addr} {Qd : Hp → Prop} (Pv : Nat → Hp → Prop) (h0 : Pv 0 (upd H1 D (.lst []))) (hl : ∀ i H, i ≤ xs.length → Pv i H → SqL K H a xs)
    (hs : ∀ i x H T, xs[i]? = some x → Pv i H → H T = none → g (.ref T) (wipe σ vs) (upd H T (.tup [.int (i : Nat), x])) fun σ2 H2 => wipe σ2 vs = wipe σ vs ∧ tt σ2 H2 fun b H3 =>
      if b = true then te σ2 H3 fun y H4 => ∃ acc, H4 D = some (.lst acc) ∧ acc.length < sizeLine ∧ Pv (i + 1) (upd H4 D (.lst (acc ++ [y]))) else Pv (i + 1) H3) (hd : ∀ H, Pv xs.length H → Qd H) :
    ∃ W : Nat → Nat → Hp → Prop, (∃ m, W 0 m (upd H1 D (.lst []))) ∧ ∀ i m H, W i m H →
      ((Ite K a).stop i H ∧ Qd H) ∨ ((Ite K a).go i H ∧ ∃ Nx : Hp → Prop, (∀ H', Nx H' → ∃ m', m' < m ∧ W (i + 1) m' H') ∧ ∀ x H', (Ite K a).yld i H x H' → g x (wipe σ vs) H' fun σ2 H2 => wipe σ2 vs = wipe σ vs ∧ tt σ2 H2 fun b H3 =>
        if b = true then te σ2 H3 fun y H4 => ∃ acc, H4 D = some (.lst acc) ∧ acc.length < sizeLine ∧ Nx (upd H4 D (.lst (acc ++ [y]))) else Nx H3) := by
  refine ⟨fun i m H => m = xs.length - i ∧ i ≤ xs.length ∧ Pv i H, ⟨xs.length, by simp, Nat.zero_le _, h0⟩, ?_⟩
  rintro i m H ⟨rfl, hi, p⟩
  have q := hl i H hi p
  by_cases hlt : i < xs.length
  · refine .inr ⟨⟨xs, xs[i], q, by simp [hlt]⟩, Pv (i + 1), fun H' p' => ⟨xs.length - (i + 1), by omega, rfl, hlt, p'⟩, fun x H' y => ?_⟩
    obtain ⟨T, z, rfl, nT, rfl, hy⟩ := y
    exact hs i z H T (hy xs q) p nT
  · have e : i = xs.length := by omega
    subst e
    exact .inl ⟨⟨xs, q, Nat.le_refl _⟩, hd H p⟩
theorem lc_itz {K : PySem.W.Frag} {a b : Addr} {xs ys : List V} {g : TG} {tt : TT} {te : TE} {vs : List Nat} {σ : L2.St} {H1 : Hp} {D : Addr} {Qd : Hp → Prop} (hxy : xs.length = ys.length) (Pv : Nat → Hp → Prop) (h0 : Pv 0 (upd H1 D (.lst [])))
    (hl : ∀ i H, i ≤ xs.length → Pv i H → SqL K H a xs ∧ SqL K H b ys)
    (hs : ∀ i x y H T, xs[i]? = some x → ys[i]? = some y → Pv i H → H T = none → g (.ref T) (wipe σ vs) (upd H T (.tup [x, y])) fun σ2 H2 => wipe σ2 vs = wipe σ vs ∧ tt σ2 H2 fun b H3 =>
      if b = true then te σ2 H3 fun y H4 => ∃ acc, H4 D = some (.lst acc) ∧ acc.length < sizeLine ∧ Pv (i + 1) (upd H4 D (.lst (acc ++ [y]))) else Pv (i + 1) H3) (hd : ∀ H, Pv xs.length H → Qd H) :
    ∃ W : Nat → Nat → Hp → Prop, (∃ m, W 0 m (upd H1 D (.lst []))) ∧ ∀ i m H, W i m H →
      ((Itz K a b).stop i H ∧ Qd H) ∨ ((Itz K a b).go i H ∧ ∃ Nx : Hp → Prop, (∀ H', Nx H' → ∃ m', m' < m ∧ W (i + 1) m' H') ∧ ∀ x H', (Itz K a b).yld i H x H' → g x (wipe σ vs) H' fun σ2 H2 => wipe σ2 vs = wipe σ vs ∧ tt σ2 H2 fun b H3 =>
        if b = true then te σ2 H3 fun y H4 => ∃ acc, H4 D = some (.lst acc) ∧ acc.length < sizeLine ∧ Nx (upd H4 D (.lst (acc ++ [y]))) else Nx H3) := by
  refine ⟨fun i m H => m = xs.length - i ∧ i ≤ xs.length ∧ Pv i H, ⟨xs.length, by simp, Nat.zero_le _, h0⟩, ?_⟩
  rintro i m H ⟨rfl, hi, p⟩
  obtain ⟨q1, q2⟩ := hl i H hi p
  by_cases hlt : i < xs.length
  · have h2 : i < ys.length := by omega
    refine .inr ⟨⟨xs, ys, xs[i], ys[i], q1, q2, List.getElem?_eq_getElem hlt, List.getElem?_eq_getElem h2⟩, Pv (i + 1), fun H' p' => ⟨xs.length - (i + 1), by omega, rfl, hlt, p'⟩, fun x H' y => ?_⟩
    obtain ⟨T, z, z2, rfl, nT, rfl, hy, hy2⟩ := y
    exact hs i z z2 H T (hy xs q1) (hy2 ys q2) p nT
  · have e : i = xs.length := by omega
    subst e
    exact .inl ⟨⟨xs, ys, q1, q2, .inl (Nat.le_refl _)⟩, hd H p⟩
end Bf

/-! Own rules: f(e, .., k = v, ..) within a try's body. -/
namespace Bf
open PySem PySem.Spec PyProof.Rows L2
def tCallNS (n m : Nat) (sp : Sp) (gV : List V → List V → List V) (E : L2.St → XK) (t tk : TA) : TE := fun σ H Q => t σ H fun vs H1 => tk σ H1 fun zs H2 => vs.length = n ∧ zs.length = m ∧ sp (gV vs zs) H2 Q (E σ)
section
variable {X : Cx} {CX : CXT} {k n : Nat} {f : Addr} {fd : FuncData} {ps ks : List Str} {sp : Sp} {E : L2.St → XK} {x : Str} {p pos : Pos} {e : Expr} {es : List Expr} {kws : List Keyword} {t tk : TA} {g : List Value → List Value → List Value} {gV : List V → List V → List V}
theorem pe_callNS (F : FnOk X.prog X.w X.K X.mg X.base CX k f fd ps sp) (hr : Room k X.A) (hg : Gl X x) (hm : X.mg x = some (.ref f)) (hk : PySem.W.keepIn X.K (.ref f) = true) (hb : KBn X.K fd ps n ks g gV) (hx : ∀ σ, PassesAt CX X σ (E σ))
    (ha : PA X (e :: es) t) (hkw : PK X kws tk) (hall : (backToKw pos (keywordEach kws X.env)).all (·.1.isSome) = true := by rfl) (hks : (backToKw pos (keywordEach kws X.env)).filterMap (·.1) = ks := by rfl)
    (hdb : (x == ("__debug__" : Str)) = false := by decide) (he : starEach (e :: es) X.env = (false, eval e X.env) :: starEach es X.env := by rfl)
    (hpl : ((backTo pos (starEach (e :: es) X.env)).any (·.1) || (backToKw pos (keywordEach kws X.env)).any (·.1.isNone)) = false := by rfl) :
    PE X (.Call (.Name x p) (e :: es) kws pos) (tCallNS n ks.length sp gV E t tk) := by
  refine ⟨fun pins s σ H Q I h => ?_⟩
  refine wpAny_Call_Name_kw (ld_glob I hg hm ?_ hdb)
  refine PySem.W.callWith_KW (h₀ := X.base) I.ok.mod.kin hk hall (thn (ha.run pos pins s σ H _ I h) fun us s1 ⟨vs, H1, I1, r, q⟩ => ?_) hpl he
  refine thn (hkw.run pos pins s1 σ H1 _ I1 q) fun ws s2 ⟨zs, H2, I2, rz, l1, l2, q2⟩ => ⟨I2.kIn, ?_⟩
  rw [hks]
  have r2 := hb.rel r rz
  refine wpAny_call (codeAny_mono (F.run X.A X.stack s2 H2 ⟨us, ks.zip ws⟩ (g us ws) (gV vs zs) Q (E σ) hr I2.env0 (hb.to s2 us ws I2.kIn (r.length.symm.trans l1) (rz.length.symm.trans l2)) r2 q2) fun r s' hq => ?_)
  cases r with
  | error e => exact hx σ pins H2 s2 e s' I2 hq
  | ok fl =>
    cases fl with
    | ret u => exact I2.after hq
    | next => exact False.elim hq
    | brk => exact False.elim hq
    | cont => exact False.elim hq
end
end Bf
namespace Bf
open PySem PySem.Spec PyProof.Rows L2
/-! ### new lists, not the module table -/
section
variable {X : Cx}
def rCatN : R2 := fun x y H Q => ∃ (l b : Addr) (xs zs : List V), x = .ref l ∧ y = .ref b ∧ H l = some (.lst xs) ∧ H b = some (.lst zs) ∧ xs.length + zs.length ≤ sizeLine ∧ ∀ p, H p = none → p ≠ sysModules → Q (.ref p) (upd H p (.lst (xs ++ zs)))
theorem op_catN : OpR X (binaryOp .Add) rCatN := by
  intro pins s σ H x y v u Q I rx ry h
  obtain ⟨l, b, xs, zs, rfl, rfl, hH, hB, hz, q⟩ := h
  cases rx
  cases ry
  obtain ⟨z, its, n, r, hl, e⟩ := I.lstM hH
  obtain ⟨z2, its2, n2, r2, hl2, e2⟩ := I.lstM hB
  refine PySem.P.add_list e e2 ?_ (by rw [List.size_toArray, List.size_toArray]; omega)
  have ea : its.toArray ++ its2.toArray = (its ++ its2).toArray := by simp
  rw [ea]
  exact ⟨.ref _, _, I.lnew (t' := s.toks) (r.append r2) (by rw [List.length_append]; omega), rfl, q _ I.fresh (Nat.ne_of_gt I.big)⟩
def rSlN (K : PySem.W.Frag) : V → Option Int → Option Int → Hp → VK → Prop := fun x lo hi H Q => ∃ (a : Addr) (xs : List V), x = .ref a ∧ SqL K H a xs ∧ ∀ p, H p = none → p ≠ sysModules → Q (.ref p) (upd H p (.lst (cutV xs lo hi)))
theorem sl_listN : SlR X (rSlN X.K) := by
  intro pins s σ H x v vl vu lo hi sl Q I rx hs pl pu h
  obtain ⟨a, xs, rfl, hx, q⟩ := h
  cases rx
  obtain ⟨its, r, ht, hz⟩ := I.list hx
  have hlen := r.length
  refine ⟨"list", _, slot_list_getitem.lookup, ht.isList.typeIs, ?_⟩
  refine wpAny_getItem_list_slice ht.isList hs pl pu .none (by simp) ?_ (by rw [List.size_toArray] <;> omega)
  rw [slicePick_cut, ← hlen]
  refine ⟨.ref s.heap.objs.size, _, I.laid (t' := s.toks) (o := .lst (cutV xs lo hi)) (fun b ob q => Heap.get?_push_of_some _ q) (Nat.le_refl _) ?_, rfl, q _ (I.hok.fresh (Nat.le_refl _)) (Nat.ne_of_gt I.big)⟩
  exact ⟨Nat.le_trans (cutV_length xs lo hi) hz, _, 0, (r.drop (HT.sIx xs.length 0 lo)).take (HT.sIx xs.length xs.length hi - HT.sIx xs.length 0 lo), Heap.get?_push_size _ rfl⟩
def rRepN : R2 := fun x y H Q => ∃ (l : Addr) (k : Int) (xs : List V), x = .ref l ∧ y = .int k ∧ H l = some (.lst xs) ∧ -(2 ^ 63) ≤ k ∧ k < 2 ^ 63 ∧ xs.length * k.toNat ≤ sizeLine ∧
  ∀ p, H p = none → p ≠ sysModules → Q (.ref p) (upd H p (.lst (List.replicate k.toNat xs).flatten))
theorem op_repN : OpR X (binaryOp .Mult) rRepN := by
  intro pins s σ H x y v u Q I rx ry h
  obtain ⟨l, k, xs, rfl, rfl, hH, h1, h2, hz, q⟩ := h
  cases rx
  obtain ⟨t, rfl⟩ := ry
  obtain ⟨z, its, n, r, hl, e⟩ := I.lstM hH
  have hlen : its.toArray.size * k.toNat ≤ sizeLine := by rw [List.size_toArray, ← hl]; exact hz
  have hcap : ¬ its.toArray.size * k.toNat > (2 ^ 63 - 1) / 8 := by
    have : (sizeLine : Nat) ≤ (2 ^ 63 - 1) / 8 := by decide
    omega
  have hfit : ¬ (!Builtin.List.listFitsIndex k) = true := by
    rw [fitsIndex_both h1 h2]
    exact Bool.false_ne_true
  have hlong : ¬ Builtin.List.listTooLong (its.toArray.size * k.toNat) = true := by
    rw [notLongL hlen]
    exact Bool.false_ne_true
  have hnew : List.foldl (fun x1 x2 => x1 ++ x2) #[] (List.replicate (if its.toArray.isEmpty = true then 0 else k.toNat) its.toArray) = (List.replicate k.toNat its).flatten.toArray := by
    have f0 : ∀ m : Nat, List.foldl (fun x1 x2 => x1 ++ x2) #[] (List.replicate m its.toArray) = (List.replicate m its).flatten.toArray := fun m => by
      have := foldl_rep its m []
      rw [List.nil_append] at this
      exact this
    rw [f0]
    cases its with
    | nil => simp
    | cons a r' => rw [if_neg (by simp)]
  refine wpAny_binaryOp_repeat_ref (T := "list") (U := "int") (by decide) ⟨_, e, rfl⟩ (fun s' => typeIs_int s' k t) noFill_list_mul F.fills_int_mul F.slot_int_rmul repeat_list F.slot_int_index.lookup
    (call_meets F.slot_int_rmul (typeIs_int s k t) F.entry_int_rmul (F.args_int_rmul_2 _ _) (int___rmul___int_list k t l its.toArray n)
      ⟨e, rfl, ⟨_, e, rfl⟩, call_meets F.slot_list_mul ⟨_, e, rfl⟩ F.entry_list_mul (F.args_list_mul_2 _ _) (AutoListH.list___mul___list_int_3 l its.toArray n k t hfit hcap hlong) ⟨e, ?_⟩⟩)
  rw [hnew]
  exact ⟨.ref _, _, I.lnew (t' := s.toks) (r.rep k.toNat) (by rw [PyProof.Rows.lm_len_rep_flat, Nat.mul_comm]; exact hz), rfl, q _ I.fresh (Nat.ne_of_gt I.big)⟩
end
end Bf

/-! Own rules: dicts of the module by their tables; xs.extend(t); comprehensions over zip of tuples. -/
namespace Bf
open PySem PySem.Spec PyProof.Rows L2
/-- the rows of a written dict -/
inductive Rows : List DictEntry → List (Str × V) → Prop
  | nil : Rows [] []
  | cons {e : DictEntry} {k : Str} {t : Tok} {v : V} {es : List DictEntry} {tb : List (Str × V)} (hk : e.key = .str k t) (r : RelV v e.val) (rs : Rows es tb) : Rows (e :: es) ((k, v) :: tb)
def lk {α : Type} (z : Str) : List (Str × α) → Option α
  | [] => none
  | (k, v) :: r => if (k == z) = true then some v else lk z r
theorem rows_find (z : Str) : ∀ {es : List DictEntry} {tb : List (Str × V)}, Rows es tb → (lk z tb = none ∧ es.find? (fun x => x.key.isStr z) = none ∧ (es.any fun x => x.refKey) = false) ∨ ∃ v e, lk z tb = some v ∧ es.find? (fun x => x.key.isStr z) = some e ∧ RelV v e.val
  | _, _, .nil => .inl ⟨rfl, rfl, rfl⟩
  | _, _, .cons (e := e) (k := k) (t := t) hk r rs => by
    have hs : e.key.isStr z = (k == z) := by rw [hk]; rfl
    have hr : e.refKey = false := by unfold DictEntry.refKey; rw [hk]
    by_cases h : (k == z) = true
    · refine .inr ⟨_, e, by unfold lk; rw [if_pos h], ?_, r⟩
      rw [List.find?_cons_of_pos (by rw [hs]; exact h)]
    · rcases rows_find z rs with ⟨a, b, c⟩ | ⟨v, e', a, b, c⟩
      · exact .inl ⟨by unfold lk; rw [if_neg h]; exact a, by rw [List.find?_cons_of_neg (by rw [hs]; exact h)]; exact b, by rw [List.any_cons, hr, c]; rfl⟩
      · exact .inr ⟨v, e', by unfold lk; rw [if_neg h]; exact a, by rw [List.find?_cons_of_neg (by rw [hs]; exact h)]; exact b, c⟩
/-- a written dict and its table -/
structure Dct (K : PySem.W.Frag) (w : World) (a : Addr) (tb : List (Str × V)) : Prop where
  ex : ∃ es n, KDict K w a es n ∧ Rows es.toList tb
theorem Dct.get {K : PySem.W.Frag} {w : World} {a : Addr} {tb : List (Str × V)} (D : Dct K w a tb) (z : Str) : (lk z tb = none → PySem.W.nsIn K a z = some none) ∧ ∀ v, lk z tb = some v → ∃ u, PySem.W.nsIn K a z = some (some u) ∧ RelV v u := by
  obtain ⟨es, n, kd, rs⟩ := D.ex
  have un : PySem.W.nsIn K a z = (match es.toList.find? (fun x => x.key.isStr z) with | some e => some (some e.val) | none => if (es.toList.any fun x => x.refKey) = true then none else some none) := by
    unfold PySem.W.nsIn
    rw [kd.at_]
    rfl
  rcases rows_find z rs with ⟨h1, h2, h3⟩ | ⟨v, e, h1, h2, h3⟩
  · refine ⟨fun _ => ?_, fun v h => by rw [h1] at h; cases h⟩
    rw [un, h2, h3]
    rfl
  · refine ⟨(fun h => by rw [h1] at h; cases h), fun v' h => ?_⟩
    rw [h1] at h
    cases h
    exact ⟨e.val, by rw [un, h2], h3⟩
section
variable {X : Cx} {a : Addr} {tb : List (Str × V)}
theorem op_in_dct (D : Dct X.K X.w a tb) : OpR X (compareOp .In) (fun x y H Q => ∃ z : Str, x = .str z ∧ y = .ref a ∧ Q (.bl (lk z tb).isSome) H) := by
  obtain ⟨es, n, kd, rs⟩ := id D.ex
  intro pins s σ H x y v u Q I rx ry h
  obtain ⟨z, rfl, rfl, q⟩ := h
  cases e : lk z tb with
  | none =>
    rw [e] at q
    exact op_in_kd kd pins s σ H _ _ v u Q I rx ry ⟨z, none, rfl, rfl, (D.get z).1 e, q⟩
  | some w =>
    rw [e] at q
    obtain ⟨u', h1, h2⟩ := (D.get z).2 w e
    exact op_in_kd kd pins s σ H _ _ v u Q I rx ry ⟨z, some u', rfl, rfl, h1, q⟩
theorem op_notIn_dct (D : Dct X.K X.w a tb) : OpR X (compareOp .NotIn) (fun x y H Q => ∃ z : Str, x = .str z ∧ y = .ref a ∧ Q (.bl (!(lk z tb).isSome)) H) := by
  obtain ⟨es, n, kd, rs⟩ := id D.ex
  intro pins s σ H x y v u Q I rx ry h
  obtain ⟨z, rfl, rfl, q⟩ := h
  cases e : lk z tb with
  | none =>
    rw [e] at q
    exact op_notIn_kd kd pins s σ H _ _ v u Q I rx ry ⟨z, none, rfl, rfl, (D.get z).1 e, q⟩
  | some w =>
    rw [e] at q
    obtain ⟨u', h1, h2⟩ := (D.get z).2 w e
    exact op_notIn_kd kd pins s σ H _ _ v u Q I rx ry ⟨z, some u', rfl, rfl, h1, q⟩
theorem op_item_dct (D : Dct X.K X.w a tb) : OpR X getItem (fun x y H Q => ∃ (z : Str) (v : V), x = .ref a ∧ y = .str z ∧ lk z tb = some v ∧ Q v H) := by
  obtain ⟨es, n, kd, rs⟩ := id D.ex
  intro pins s σ H x y v u Q I rx ry h
  obtain ⟨z, v', rfl, rfl, e, q⟩ := h
  obtain ⟨u', h1, h2⟩ := (D.get z).2 v' e
  exact op_item_kd kd pins s σ H _ _ v u Q I rx ry ⟨z, u', v', rfl, rfl, h1, h2, q⟩
theorem extend_tup (l : Addr) (items : Array Value) (n : Nat) (b : Addr) (items2 : Array Value) (n2 : Nat) (dd : Option Addr) (sl : Array (Option Value)) (hs0 : ¬(!items.isEmpty && Builtin.List.listTooLong (items.size + items2.size)) = true) (hs1 : items.size ≤ sizeLine) (hs2 : items.size + items2.size ≤ sizeLine + 1) :
    Meets (Builtin.«list.extend» ⟨[.ref l, .ref b], []⟩) (fun _ R s => s.heap.get? l = some { cls := .type "list", data := .seq items n } ∧ s.heap.get? b = some { cls := .type "tuple", dict := dd, data := .seq items2 n2, slots := sl } ∧
      R (.ok (.ret Value.none)) { s with heap := s.heap.update l (Obj.mapSeq fun x => x ++ items2), toks := s.toks }) :=
  .of_wp fun prog w A R s h => by
    obtain ⟨hp, g, d, tk, os⟩ := s
    obtain ⟨hl, hb, h⟩ := h
    have f1 := AutoSeq1.idx_int
    have f2 := AutoSeq1.sub_tuple_tuple
    have f3 := AutoSeq1.sub_list_list
    have f4 := AutoSeq1.sub_tuple_list
    have f5 := AutoSeq1.sub_list_tuple
    have hz' : (items ++ items2).size ≤ sizeLine + 1 := by rw [Array.size_append]; exact hs2
    wp_walk using (wpAny_updateSeq hl rfl (hz := hs1) (_hz' := hz')), wpAny_loadPart' hl, wpAny_loadPart' hb
    exact ⟨_, rfl, h⟩
/-- d[key] -/
theorem ix_dct (D : Dct X.K X.w a tb) : IxR X (fun x y H Q => ∃ (z : Str) (v : V), x = .ref a ∧ y = .str z ∧ lk z tb = some v ∧ Q v H) := by
  obtain ⟨es, n, kd, rs⟩ := id D.ex
  intro value slice pins s σ H x y v u Q I rx ry h hs
  obtain ⟨z, v', rfl, rfl, e, q⟩ := h
  obtain ⟨u', h1, h2⟩ := (D.get z).2 v' e
  cases rx
  obtain ⟨t, rfl⟩ := ry
  refine tail_any (kd_type kd I) PySem.F.slot_dict_getitem.lookup ?_ hs
  exact wpAny_getItem_of (PySem.strKind_is X.prog X.w z t) (PySem.W.mapOf_K (prog := X.prog) I.kIn kd.at_ kd.lit) (PySem.W.find_K kd.at_ h1) ⟨v', H, I.tok _, h2, q⟩
/-- xs.extend(t), t a tuple -/
def rExtT : V → List V → Hp → VK → Prop := fun x vs H Q => ∃ (l b : Addr) (xs zs : List V), x = .ref l ∧ vs = [.ref b] ∧ H l = some (.lst xs) ∧ H b = some (.tup zs) ∧ xs.length + zs.length ≤ sizeLine ∧ Q .non (upd H l (.lst (xs ++ zs)))
theorem mt_extT : MtM X "list.extend" rExtT := by
  intro pins s σ H x vs v us Q I rx rv h
  obtain ⟨l, b, xs, zs, rfl, rfl, hH, hB, hz, q⟩ := h
  cases rx
  obtain ⟨u, rfl, ru⟩ := rv.one
  cases ru
  obtain ⟨z, its, n, r, hl, e⟩ := I.lstM hH
  obtain ⟨_, its2, r2, ⟨cls, dd, data, sl⟩, e2, c2, n2, d2⟩ := I.hok _ _ hB
  simp only at c2 d2
  subst c2 d2
  have hl2 := r2.length
  have hsz : its.toArray.size + its2.toArray.size ≤ sizeLine := by rw [List.size_toArray, List.size_toArray]; omega
  have hlong : ¬ (!its.toArray.isEmpty && Builtin.List.listTooLong (its.toArray.size + its2.toArray.size)) = true := by
    rw [notLongL hsz, Bool.and_false]
    exact Bool.false_ne_true
  refine call_meets F.slot_list_extend ⟨_, e, rfl⟩ F.entry_list_extend (F.args_list_extend_2 _ _)
    (extend_tup l its.toArray n b its2.toArray n2 dd sl hlong (by rw [List.size_toArray]; omega) (by omega)) ⟨e, e2, ?_⟩
  refine ⟨.non, _, I.lset (its' := its ++ its2) hH e (by simp) (r.append r2) ?_, rfl, q⟩
  rw [List.length_append]
  omega
end
/-- comprehensions over zip of two tuples of one length -/
theorem lc_itzT {K : PySem.W.Frag} {a b : Addr} {xs ys : List V} {g : TG} {tt : TT} {te : TE} {vs : List Nat} {σ : L2.St} {H1 : Hp} {D : Addr} {Qd : Hp → Prop} (hxy : xs.length = ys.length) (Pv : Nat → Hp → Prop) (h0 : Pv 0 (upd H1 D (.lst [])))
    (hl : ∀ i H, i ≤ xs.length → Pv i H → SqT K H a xs ∧ SqT K H b ys)
    (hs : ∀ i x y H T, xs[i]? = some x → ys[i]? = some y → Pv i H → H T = none → g (.ref T) (wipe σ vs) (upd H T (.tup [x, y])) fun σ2 H2 => wipe σ2 vs = wipe σ vs ∧ tt σ2 H2 fun b H3 =>
      if b = true then te σ2 H3 fun y H4 => ∃ acc, H4 D = some (.lst acc) ∧ acc.length < sizeLine ∧ Pv (i + 1) (upd H4 D (.lst (acc ++ [y]))) else Pv (i + 1) H3) (hd : ∀ H, Pv xs.length H → Qd H) :
    ∃ W : Nat → Nat → Hp → Prop, (∃ m, W 0 m (upd H1 D (.lst []))) ∧ ∀ i m H, W i m H →
      ((RZ.ItzT K a b).stop i H ∧ Qd H) ∨ ((RZ.ItzT K a b).go i H ∧ ∃ Nx : Hp → Prop, (∀ H', Nx H' → ∃ m', m' < m ∧ W (i + 1) m' H') ∧ ∀ x H', (RZ.ItzT K a b).yld i H x H' → g x (wipe σ vs) H' fun σ2 H2 => wipe σ2 vs = wipe σ vs ∧ tt σ2 H2 fun b H3 =>
        if b = true then te σ2 H3 fun y H4 => ∃ acc, H4 D = some (.lst acc) ∧ acc.length < sizeLine ∧ Nx (upd H4 D (.lst (acc ++ [y]))) else Nx H3) := by
  refine ⟨fun i m H => m = xs.length - i ∧ i ≤ xs.length ∧ Pv i H, ⟨xs.length, by simp, Nat.zero_le _, h0⟩, ?_⟩
  rintro i m H ⟨rfl, hi, p⟩
  obtain ⟨q1, q2⟩ := hl i H hi p
  by_cases hlt : i < xs.length
  · have h2 : i < ys.length := by omega
    refine .inr ⟨⟨xs, ys, xs[i], ys[i], q1, q2, List.getElem?_eq_getElem hlt, List.getElem?_eq_getElem h2⟩, Pv (i + 1), fun H' p' => ⟨xs.length - (i + 1), by omega, rfl, hlt, p'⟩, fun x H' y => ?_⟩
    obtain ⟨T, z, z2, rfl, nT, rfl, hy, hy2⟩ := y
    exact hs i z z2 H T (hy xs q1) (hy2 ys q2) p nT
  · have e : i = xs.length := by omega
    subst e
    exact .inl ⟨⟨xs, ys, q1, q2, .inl (Nat.le_refl _)⟩, hd H p⟩
end Bf

/-! Own rules: a list or a tuple held against an empty one; any thing held against a text; list(t) and lists that are no module table. -/
namespace Bf
open PySem PySem.Spec PyProof.Rows L2
section
variable {X : Cx}
theorem isEmpty_size {xs : List V} {its : List Value} (h : xs.length = its.length) : xs.isEmpty = (its.toArray.size == ([] : List Value).toArray.size) := by
  rw [List.size_toArray, ← h]
  cases xs <;> rfl
/-- xs == [] -/
def rEqNil (K : PySem.W.Frag) : R2 := fun x y H Q => ∃ (a b : Addr) (xs : List V), x = .ref a ∧ y = .ref b ∧ SqL K H a xs ∧ SqL K H b [] ∧ Q (.bl xs.isEmpty) H
theorem op_eqNil (hu : X.A.units + 64 < cLine) : OpR X (compareOp .Eq) (rEqNil X.K) := by
  intro pins s σ H x y v u Q I rx ry h
  obtain ⟨a, b, xs, rfl, rfl, hx, hy, q⟩ := h
  cases rx
  cases ry
  obtain ⟨its, r, pl, hz⟩ := I.list hx
  obtain ⟨its2, r2, pl2, hz2⟩ := I.list hy
  cases r2
  have u0 : X.A.units < cLine := by omega
  cases r with
  | nil => exact SeqAt.eq_listAt (e := fun _ => true) pl.isList pl2.isList rfl u0 (fun j h1 _ => absurd h1 (by simp)) ⟨.bl true, H, I, rfl, q⟩
  | cons _ _ => exact SeqAt.eq_list_lengthsAt pl.isList pl2.isList (by simp) u0 ⟨.bl false, H, I, rfl, q⟩
/-- xs != [] -/
def rNeNil (K : PySem.W.Frag) : R2 := fun x y H Q => ∃ (a b : Addr) (xs : List V), x = .ref a ∧ y = .ref b ∧ SqL K H a xs ∧ SqL K H b [] ∧ Q (.bl (!xs.isEmpty)) H
theorem op_neNil (hu : X.A.units + 64 < cLine) : OpR X (compareOp .NotEq) (rNeNil X.K) := by
  intro pins s σ H x y v u Q I rx ry h
  obtain ⟨a, b, xs, rfl, rfl, hx, hy, q⟩ := h
  cases rx
  cases ry
  obtain ⟨its, r, pl, hz⟩ := I.list hx
  obtain ⟨its2, r2, pl2, hz2⟩ := I.list hy
  cases r2
  have u0 : X.A.units < cLine := by omega
  cases r with
  | nil => exact SeqAt.RcNeAt.lists (e := fun _ => true) pl.isList pl2.isList rfl u0 (fun j h1 _ => absurd h1 (by simp)) _ _ _ _ ⟨.bl false, H, I, rfl, q⟩
  | cons _ _ => exact SeqAt.RcNeAt.lists_lengths pl.isList pl2.isList (by simp) u0 _ _ _ _ ⟨.bl true, H, I, rfl, q⟩
/-- t == () -/
def rEqNilT (K : PySem.W.Frag) : R2 := fun x y H Q => ∃ (a b : Addr) (xs : List V), x = .ref a ∧ y = .ref b ∧ SqT K H a xs ∧ SqT K H b [] ∧ Q (.bl xs.isEmpty) H
theorem op_eqNilT (hu : X.A.units + 64 < cLine) : OpR X (compareOp .Eq) (rEqNilT X.K) := by
  intro pins s σ H x y v u Q I rx ry h
  obtain ⟨a, b, xs, rfl, rfl, hx, hy, q⟩ := h
  cases rx
  cases ry
  obtain ⟨its, r, pl, hz⟩ := I.tuple hx
  obtain ⟨its2, r2, pl2, hz2⟩ := I.tuple hy
  cases r2
  have u0 : X.A.units < cLine := by omega
  have e : xs.isEmpty = ((List.range (min its.toArray.size ([] : List Value).toArray.size)).all (fun _ => true) && its.toArray.size == ([] : List Value).toArray.size) := by
    rw [isEmpty_size r.length]
    simp
  rw [e] at q
  exact SeqAt.eq_tupleAt (e := fun _ => true) pl pl2 u0 (fun j _ h2 => absurd h2 (by simp)) ⟨.bl _, H, I, rfl, q⟩
theorem rc_dict_str {A : Around} {s : Shared} {l : Addr} {o : Obj} {es : Array DictEntry} {n : Nat} (b : Str) (u : Tok) (ho : s.heap.get? l = some o) (hc : o.cls = .type "dict") (hd : o.data = .dict es n) (hu : A.units < cLine) :
    SeqAt.RcAt A s (.ref l) (.str b u) false := fun prog w E Q h => by
  obtain ⟨cls, dd, data, sl⟩ := o
  simp only at hc hd
  subst hc hd
  exact SeqAt.rc_eq_decline_or (k := false) ⟨_, ho, rfl⟩ (typeIs_str s b u) (by decide) F.sub_str_dict F.slot_dict_eq F.slot_str_eq_refl
    (fun _ hq => call_meets F.slot_dict_eq ⟨_, ho, rfl⟩ F.entry_dict_eq (F.args_dict_eq_2 _ _) (dict_eq_declines_str l _ dd sl b u) ⟨ho, hq⟩)
    (fun _ hq => call_meets F.slot_str_eq_refl (typeIs_str s b u) F.entry_str_eq (F.args_str_eq_2 _ _) (str_eq_declines_dict b u l es n dd sl) ⟨ho, hq⟩)
    (fun _ hq => wpAny_of_eq (rfl : isSame (.ref l) (.str b u) = pure false) hq) (.inr hu) h
/-- x == "…", x any thing -/
def rEqS : R2 := fun x y H Q => ∃ z : Str, y = .str z ∧ Odd H x ∧ Q (.bl (decide (x = .str z))) H
theorem op_eqS (hu : X.A.units + 64 < cLine) : OpR X (compareOp .Eq) rEqS := by
  intro pins s σ H x y v u Q I rx ry h
  obtain ⟨z, rfl, od, q⟩ := h
  have u0 : X.A.units < cLine := by omega
  cases od with
  | non => exact op_eq pins s σ H _ _ v u Q I rx ry ⟨rfl, q⟩
  | bl b => exact op_eq pins s σ H _ _ v u Q I rx ry ⟨rfl, q⟩
  | int i => exact op_eq pins s σ H _ _ v u Q I rx ry ⟨rfl, q⟩
  | str y => exact op_eq pins s σ H _ _ v u Q I rx ry ⟨rfl, q⟩
  | lst h =>
    cases rx
    obtain ⟨t, rfl⟩ := ry
    obtain ⟨_, its, n, rv, e⟩ := I.hok _ _ h
    exact SeqAt.RcAt.list_str z t (items := its.toArray) ⟨_, e, rfl, _, rfl⟩ u0 _ _ _ _ ⟨.bl false, H, I, rfl, q⟩
  | tup h =>
    cases rx
    obtain ⟨t, rfl⟩ := ry
    obtain ⟨_, its, rv, o, e1, e2, n, e3⟩ := I.hok _ _ h
    exact SeqAt.RcAt.tuple_str z t ⟨o, e1, e2, n, e3⟩ u0 _ _ _ _ ⟨.bl false, H, I, rfl, q⟩
  | emp h =>
    cases rx
    obtain ⟨t, rfl⟩ := ry
    obtain ⟨_, sm, vs, kv, o, es, ep, e1, e2, e3, _, e4, _⟩ := I.hok _ _ h
    exact rc_dict_str z t e1 e2.1 e3 u0 _ _ _ _ ⟨.bl false, H, I, rfl, q⟩
/-- list(x): a new list, not the module table -/
def rListN (K : PySem.W.Frag) : List V → Hp → VK → Prop := fun xs H Q => ∃ p ys, xs = [.ref p] ∧ (SqL K H p ys ∨ SqT K H p ys) ∧ ∀ l, H l = none → l ≠ sysModules → Q (.ref l) (upd H l (.lst ys))
theorem call_listN : CallR X (.type "list") (rListN X.K) := by
  intro pins s σ H xs us Q I rv w
  obtain ⟨p, ys, rfl, seq, ask⟩ := w
  obtain ⟨u, rfl, ru⟩ := vals1 rv
  cases ru
  obtain ⟨its, rel, small, o, at_, n, dat, cl⟩ : ∃ (its : List Value), Vals ys its ∧ ys.length ≤ sizeLine ∧ ∃ (o : Obj), s.heap.get? p = some o ∧ ∃ n, o.data = .seq its.toArray n ∧ (o.cls = .type "list" ∨ o.cls = .type "tuple") := by
    rcases seq with seq | seq
    · obtain ⟨its, rel, pl, small⟩ := I.list seq
      obtain ⟨o, at_, cl, n, dat⟩ := pl.isList
      exact ⟨its, rel, small, o, at_, n, dat, .inl cl⟩
    · obtain ⟨its, rel, ⟨o, at_, cl, n, dat⟩, small⟩ := I.tuple seq
      exact ⟨its, rel, small, o, at_, n, dat, .inr cl⟩
  have len := rel.length
  have fits : its.toArray.size ≤ sizeLine := by rw [List.size_toArray]; omega
  have done : ∀ (G : Heap) (m : Nat), (∀ b z, s.heap.get? b = some z → G.get? b = some z) → G.get? s.heap.objs.size = some { cls := .type "list", dict := none, data := .seq its.toArray m, slots := #[] } → EP X pins σ Q (.ref s.heap.objs.size) { s with heap := G } := fun G m kp e =>
    ⟨.ref s.heap.objs.size, _, I.laid (t' := s.toks) (o := .lst ys) kp (Nat.le_refl _) ⟨small, its, m, rel, e⟩, rfl, ask _ (I.hok.fresh (Nat.le_refl _)) (Nat.ne_of_gt I.big)⟩
  rcases cl with cl | cl
  · exact call_list_seq p (.inl rfl) at_ cl dat done (by omega)
  · exact call_list_seq p (.inr rfl) at_ cl dat done (by omega)
end
end Bf

namespace Bf
open PySem PySem.Spec PyProof.Rows L2
section
variable {X : Cx}
/-- repr(x), x a list of any address -/
def rReprL : List V → Hp → VK → Prop := fun xs H Q => ∃ (a : Addr) (ys : List V) (P : Addr → Prop) (b : Bool) (ds : List PyData), xs = [.ref a] ∧ H a = some (.lst ys) ∧ ShAll H P b ys ds ∧ (PyData.list ds).showable = true ∧ (PyData.list ds).depth ≤ 60 ∧ (PyData.list ds).shown.length ≤ sizeLine ∧ Q (.str (PyData.list ds).shown) H
theorem call_reprL (hA : X.A.guards = some []) (hu : X.A.units + 64 < cLine) : CallR X (.builtin "repr") rReprL := by
  intro pins s σ H xs us Q I r h
  obtain ⟨a, ys, P, b, ds, rfl, ha, hs, sw, dp, sz, q⟩ := h
  obtain ⟨u, rfl, rx⟩ := vals1 r
  cases rx
  obtain ⟨_, its, n, rv, e⟩ := I.hok _ _ ha
  obtain ⟨as, rd, hp⟩ := Sh.readsAll I ds ys its hs rv
  have nodict : PyData.hasDictAll ds = true → sysModules ∉ as := fun hd z => by
    cases b with
    | false => rw [ShAll.nodict ds ys hs] at hd; cases hd
    | true => exact hp rfl _ z rfl
  have sz' : (listText (PyData.shownAll ds)).length ≤ sizeLine := by simpa only [PyData.shown] using sz
  have sw' : PyData.showableAll ds = true := by simpa only [PyData.showable] using sw
  obtain ⟨bs, hb, hk⟩ := ReprAllK.of_readsAll (prog := X.prog) (w := X.w) rd sw' nodict (fun t ht => Nat.le_trans (listText_mem_le ht) sz')
  have whole : Reads s.heap (.ref a) (.list ds) (a :: as) := .list e rfl rfl (by simpa using rd)
  have hna : a ∉ bs := not_mem_of_deeper whole (by simp only [PyData.depth]; omega) hb
  simp only [PyData.depth] at dp
  have fin : ∀ h' u tk, (∀ b o, s.heap.get? b = some o → h'.get? b = some o) → EP X pins σ Q (.str (PyData.list ds).shown u) { s with heap := h', toks := tk } := fun h' u tk k => ⟨.str (PyData.list ds).shown, H, I.kept k, ⟨u, rfl⟩, q⟩
  simp only [PyData.shown] at fin
  refine call_repr_slot (by omega) ⟨_, e, rfl⟩ F.slot_list_repr.toG ?_
  cases its with
  | nil =>
    cases rd
    simp only [PyData.shownAll, listText_nil] at fin
    exact call_list_repr_empty ⟨_, e, rfl⟩ e rfl ⟨_, _, rfl, fin s.heap _ _ fun _ _ e => e⟩
  | cons x l =>
    exact call_list_reprK e rfl rfl hna (by simpa using hk.length_eq) (fun i y e => hk.item i y (by simpa using e)) hA (fun b _ => Clear.nil b) (by show X.A.units + 1 + _ < cLine; omega) (fun _ _ e => e) (fun h' u tk hk => ⟨_, _, rfl, fin h' u tk hk⟩) sz'
end
end Bf

namespace Bf
open PySem PySem.Spec PyProof.Rows L2

/-! ### things by their types -/
inductive Kn (K : PySem.W.Frag) (H : Hp) : V → String → Prop
  | non : Kn K H .non "NoneType"
  | bl (b : Bool) : Kn K H (.bl b) "bool"
  | int (i : Int) : Kn K H (.int i) "int"
  | str (z : Str) : Kn K H (.str z) "str"
  | lst {a : Addr} (h : TyX K H (.ref a) (.type "list")) : Kn K H (.ref a) "list"
  | tup {a : Addr} (h : TyX K H (.ref a) (.type "tuple")) : Kn K H (.ref a) "tuple"
  | dic {a : Addr} (h : TyX K H (.ref a) (.type "dict")) : Kn K H (.ref a) "dict"
theorem Kn.ty {K : PySem.W.Frag} {H : Hp} {x : V} {n : String} (h : Kn K H x n) : TyX K H x (.type n) := by
  cases h with
  | non => exact .base .non
  | bl b => exact .base (.bl b)
  | int i => exact .base (.int i)
  | str z => exact .base (.str z)
  | lst h => exact h
  | tup h => exact h
  | dic h => exact h
def wholeB (x : V) (lo hi : Int) : Bool := match x with
  | .int i => decide (lo ≤ i) && decide (i ≤ hi)
  | _ => false
theorem wholeB_int {x : V} {lo hi : Int} (h : wholeB x lo hi = true) : ∃ i, x = .int i ∧ lo ≤ i ∧ i ≤ hi := by
  cases x with
  | int i =>
    have z : (decide (lo ≤ i) && decide (i ≤ hi)) = true := h
    obtain ⟨a, b⟩ := Bool.and_eq_true_iff.mp z
    exact ⟨i, rfl, of_decide_eq_true a, of_decide_eq_true b⟩
  | _ => cases h
theorem wholeB_of {i lo hi : Int} (a : lo ≤ i) (b : i ≤ hi) : wholeB (.int i) lo hi = true := by
  show (decide (lo ≤ i) && decide (i ≤ hi)) = true
  rw [decide_eq_true a, decide_eq_true b]; rfl

/-- a def of the text as its callers need it -/
structure Df (K : PySem.W.Frag) (mg : Str → Option Value) (x : Str) (f : Addr) (fd : FuncData) (ps : List Str) : Prop where
  at_ : mg x = some (.ref f)
  kp : PySem.W.keepIn K (.ref f) = true
  bd : Binds K fd ps []
abbrev CXL (P : Program) (w : World) : CXT := L2.CX P w

namespace P4
def top (i : Nat) : Stmt := PySem.Challenge.pw_beatflows_k04_terms_of_anything.main.body.getD i (.Pass ⟨0, 0, 0, 0⟩)
abbrev sFE : Stmt := inClass (top 1) 0
abbrev sNK : Stmt := inClass (top 4) 0
abbrev sNT : Stmt := inClass (top 5) 0
abbrev sWhole : Stmt := top 7
abbrev sName : Stmt := top 9
abbrev sWidth : Stmt := top 10
abbrev sTruth : Stmt := top 11
abbrev sKind : Stmt := top 12
abbrev sIsWorth : Stmt := top 13
abbrev sGreat : Stmt := top 14
abbrev sWorthOf : Stmt := top 15
abbrev sAre : Stmt := top 16
abbrev sIsTerm : Stmt := top 21
abbrev sIsRight : Stmt := top 22
abbrev sPartsOf : Stmt := top 23
abbrev sSizeOf : Stmt := top 24
abbrev sNodeName : Stmt := top 25
abbrev sNeedRight : Stmt := top 26
abbrev sIsCall : Stmt := top 27
abbrev sAreTerms : Stmt := top 28
abbrev sFormed : Stmt := top 29
abbrev sFits : Stmt := top 30
abbrev sWithin : Stmt := top 31
abbrev sParts : Stmt := top 32
abbrev sCell : Stmt := top 34
abbrev sPurse : Stmt := top 35
abbrev sTake : Stmt := top 36
abbrev sOf : Stmt := top 37
abbrev sLName : Stmt := top 38
abbrev sLKind : Stmt := top 39
abbrev sLWorth : Stmt := top 40
abbrev sAny : Stmt := top 41
abbrev sSide : Stmt := top 42
abbrev sLNumber : Stmt := top 43
abbrev sLIsName : Stmt := top 44
abbrev sLIsKind : Stmt := top 45
abbrev sLIsWorth : Stmt := top 46
abbrev sLAre : Stmt := top 47
abbrev sLTerm : Stmt := top 48
abbrev sLSide : Stmt := top 49
abbrev sOdd : Stmt := top 50
abbrev sBent : Stmt := top 51
abbrev sLParts : Stmt := top 52
abbrev sLSideParts : Stmt := top 53
abbrev sAsked : Stmt := top 54
abbrev sRight : Stmt := top 55
abbrev sNumber : Stmt := top 8
abbrev sLaw : Stmt := top 56

section
variable {P : Program} {w : World} {K : PySem.W.Frag} {mg : Str → Option Value} {base : Heap}

/-! ### is_whole and what stands on it -/
def numB (x : V) : Bool := match x with
  | .int _ => true
  | _ => false
def spNum (K : PySem.W.Frag) : Sp := fun vs H Q _ => ∃ (x : V) (n : String), vs = [x] ∧ Kn K H x n ∧ Q (.bl (numB x)) H
theorem scNum : FnScope ["thing"] ["thing"] (defScope sNumber) := ⟨rfl, rfl, rfl, by decide +kernel, rfl, by decide +kernel, by decide +kernel⟩
theorem ok_num {f : Addr} {fd : FuncData} (F : Fun K "is_number" "is_number" sNumber f fd) (mi : mg "isinstance" = none) (mt : mg "int" = none) (mb : mg "bool" = none) :
    FnOk P w K mg base CX0 1 f fd ["thing"] (spNum K) := by
  refine F.ok scNum (fun vs H Q E h => ?_) (fun cdv A outer s H vs Q E hr h => ?_)
  · obtain ⟨x, n, rfl, _⟩ := h
    rfl
  · obtain ⟨x, n, rfl, kn, q⟩ := h
    refine ⟨_, pss_one (ps_ret (pe_and (pe_callB call_isi (by rfl) mi (by decide +kernel) (pa_cons (pv 0) (pa_cons (pe_bltn (v := .ty "int") (by rfl) mt (by decide +kernel) rfl) pa_nil)))
      (pe_one (pe_not (pe_callB call_isi (by rfl) mi (by decide +kernel) (pa_cons (pv 0) (pa_cons (pe_bltn (v := .ty "bool") (by rfl) mb (by decide +kernel) rfl) pa_nil))))))), ?_⟩
    cases kn with
    | int i =>
      refine ⟨_, rfl, _, _, _, _, _, rfl, .ty "int", .base (.int i), kit_ty (by decide +kernel), _, rfl, iteT ?_⟩
      exact ⟨_, rfl, _, _, _, _, false, rfl, .ty "bool", .base (.int i), kit_ty (by decide +kernel), _, rfl, q⟩
    | bl b =>
      refine ⟨_, rfl, _, _, _, _, _, rfl, .ty "int", .base (.bl b), kit_ty (by decide +kernel), _, rfl, iteT ?_⟩
      exact ⟨_, rfl, _, _, _, _, true, rfl, .ty "bool", .base (.bl b), kit_ty (by decide +kernel), _, rfl, q⟩
    | non => exact ⟨_, rfl, _, _, _, _, _, rfl, .ty "int", .base .non, kit_ty (by decide +kernel), _, rfl, iteF q⟩
    | str z => exact ⟨_, rfl, _, _, _, _, _, rfl, .ty "int", .base (.str z), kit_ty (by decide +kernel), _, rfl, iteF q⟩
    | lst t => exact ⟨_, rfl, _, _, _, _, _, rfl, .ty "int", t, kit_ty (by decide +kernel), _, rfl, iteF q⟩
    | tup t => exact ⟨_, rfl, _, _, _, _, _, rfl, .ty "int", t, kit_ty (by decide +kernel), _, rfl, iteF q⟩
    | dic t => exact ⟨_, rfl, _, _, _, _, _, rfl, .ty "int", t, kit_ty (by decide +kernel), _, rfl, iteF q⟩
def spWhole (K : PySem.W.Frag) : Sp := fun vs H Q _ => ∃ (x : V) (n : String) (lo hi : Int), vs = [x, .int lo, .int hi] ∧ Kn K H x n ∧ Q (.bl (wholeB x lo hi)) H
theorem scWhole : FnScope ["thing", "low", "high"] ["thing", "low", "high"] (defScope sWhole) := ⟨rfl, rfl, rfl, by decide +kernel, rfl, by decide +kernel, by decide +kernel⟩
theorem ok_whole {f fn : Addr} {fd fdn : FuncData} (F : Fun K "is_whole" "is_whole" sWhole f fd) (Dn : Df K mg "is_number" fn fdn ["thing"]) (Gn : FnOk P w K mg base CX0 1 fn fdn ["thing"] (spNum K)) :
    FnOk P w K mg base CX0 2 f fd ["thing", "low", "high"] (spWhole K) := by
  refine F.ok scWhole (fun vs H Q E h => ?_) (fun cdv A outer s H vs Q E hr h => ?_)
  · obtain ⟨x, n, lo, hi, rfl, _⟩ := h
    rfl
  · obtain ⟨x, n, lo, hi, rfl, kn, q⟩ := h
    refine ⟨_, pss_one (ps_ret (pe_and (pe_call Gn hr (by rfl) Dn.at_ Dn.kp Dn.bd .nil pass0 (pa_cons (pv 0) pa_nil))
        (pe_one (pe_chain op_le op_le (pv 1) (pv 0) (pv 2))))), ?_⟩
    refine ⟨_, rfl, x, n, rfl, kn, _, rfl, ?_⟩
    cases x with
    | int i =>
      refine iteT ⟨_, rfl, _, rfl, _, _, rfl, rfl, _, rfl, ite2 (fun h1 => ?_) (fun h1 => ?_)⟩
      · refine ⟨_, rfl, _, _, rfl, rfl, ?_⟩
        have e : wholeB (.int i) lo hi = decide (i ≤ hi) := by
          show (decide (lo ≤ i) && decide (i ≤ hi)) = _
          rw [h1]; rfl
        rw [e] at q; exact q
      · have e : wholeB (.int i) lo hi = false := by
          show (decide (lo ≤ i) && decide (i ≤ hi)) = _
          rw [Bool.eq_false_iff.mpr h1]; rfl
        rw [e] at q; exact q
    | _ => exact iteF q

/-- a def of one thing that asks is_whole between two written bounds -/
def spOne (K : PySem.W.Frag) (lo hi : Int) : Sp := fun vs H Q _ => ∃ (x : V) (n : String), vs = [x] ∧ Kn K H x n ∧ Q (.bl (wholeB x lo hi)) H
theorem scWidth : FnScope ["thing"] ["thing"] (defScope sWidth) := ⟨rfl, rfl, rfl, by decide +kernel, rfl, by decide +kernel, by decide +kernel⟩
theorem ok_width {f fw : Addr} {fd fdw : FuncData} (F : Fun K "is_width" "is_width" sWidth f fd) (D : Df K mg "is_whole" fw fdw ["thing", "low", "high"])
    (G : FnOk P w K mg base CX0 2 fw fdw ["thing", "low", "high"] (spWhole K)) : FnOk P w K mg base CX0 3 f fd ["thing"] (spOne K 1 8) := by
  refine F.ok scWidth (fun vs H Q E h => ?_) (fun cdv A outer s H vs Q E hr h => ?_)
  · obtain ⟨x, n, rfl, _⟩ := h
    rfl
  · obtain ⟨x, n, rfl, kn, q⟩ := h
    exact ⟨_, pss_one (ps_ret (pe_call G hr (by rfl) D.at_ D.kp D.bd .nil pass0 (pa_cons (pv 0) (pa_cons pe_int (pa_cons pe_int pa_nil))))), _, rfl, _, n, 1, 8, rfl, kn, q⟩
theorem scTruth : FnScope ["thing"] ["thing"] (defScope sTruth) := ⟨rfl, rfl, rfl, by decide +kernel, rfl, by decide +kernel, by decide +kernel⟩
theorem ok_truth {f fw : Addr} {fd fdw : FuncData} (F : Fun K "is_truth" "is_truth" sTruth f fd) (D : Df K mg "is_whole" fw fdw ["thing", "low", "high"])
    (G : FnOk P w K mg base CX0 2 fw fdw ["thing", "low", "high"] (spWhole K)) : FnOk P w K mg base CX0 3 f fd ["thing"] (spOne K 0 1) := by
  refine F.ok scTruth (fun vs H Q E h => ?_) (fun cdv A outer s H vs Q E hr h => ?_)
  · obtain ⟨x, n, rfl, _⟩ := h
    rfl
  · obtain ⟨x, n, rfl, kn, q⟩ := h
    exact ⟨_, pss_one (ps_ret (pe_call G hr (by rfl) D.at_ D.kp D.bd .nil pass0 (pa_cons (pv 0) (pa_cons pe_int (pa_cons pe_int pa_nil))))), _, rfl, _, n, 0, 1, rfl, kn, q⟩
def topW (z : Int) : Int := 2 ^ z.toNat - 1
def spGreat : Sp := fun vs H Q _ => ∃ z : Int, vs = [.int z] ∧ 0 ≤ z ∧ z ≤ 1000 ∧ Q (.int (topW z)) H
theorem scGreat : FnScope ["width"] ["width"] (defScope sGreat) := ⟨rfl, rfl, rfl, by decide +kernel, rfl, by decide +kernel, by decide +kernel⟩
theorem ok_great {f : Addr} {fd : FuncData} (F : Fun K "_greatest" "_greatest" sGreat f fd) : FnOk P w K mg base CX0 2 f fd ["width"] spGreat := by
  refine F.ok scGreat (fun vs H Q E h => ?_) (fun cdv A outer s H vs Q E hr h => ?_)
  · obtain ⟨x, rfl, _⟩ := h
    rfl
  · obtain ⟨z, rfl, h0, h1, q⟩ := h
    refine ⟨_, pss_one (ps_ret (pe_op op_sub (pe_op op_shl pe_int (pv 0)) pe_int)), ?_⟩
    refine ⟨_, rfl, _, _, rfl, rfl, ⟨h0, Int.le_trans h1 (by decide), by decide⟩, _, _, rfl, rfl, ?_⟩
    rw [Int.one_mul]
    exact q
def spWorthOf (K : PySem.W.Frag) : Sp := fun vs H Q _ => ∃ (x : V) (n : String) (z : Int), vs = [x, .int z] ∧ Kn K H x n ∧ 0 ≤ z ∧ z ≤ 1000 ∧ Q (.bl (wholeB x 0 (topW z))) H
theorem scWorthOf : FnScope ["thing", "width"] ["thing", "width"] (defScope sWorthOf) := ⟨rfl, rfl, rfl, by decide +kernel, rfl, by decide +kernel, by decide +kernel⟩
theorem ok_worthOf {f fw fg : Addr} {fd fdw fdg : FuncData} (F : Fun K "_is_worth_of_width" "_is_worth_of_width" sWorthOf f fd) (D : Df K mg "is_whole" fw fdw ["thing", "low", "high"])
    (G : FnOk P w K mg base CX0 2 fw fdw ["thing", "low", "high"] (spWhole K)) (Dg : Df K mg "_greatest" fg fdg ["width"]) (Gg : FnOk P w K mg base CX0 2 fg fdg ["width"] spGreat) :
    FnOk P w K mg base CX0 3 f fd ["thing", "width"] (spWorthOf K) := by
  refine F.ok scWorthOf (fun vs H Q E h => ?_) (fun cdv A outer s H vs Q E hr h => ?_)
  · obtain ⟨x, n, z, rfl, _⟩ := h
    rfl
  · obtain ⟨x, n, z, rfl, kn, h0, h1, q⟩ := h
    exact ⟨_, pss_one (ps_ret (pe_call G hr (by rfl) D.at_ D.kp D.bd .nil pass0 (pa_cons (pv 0) (pa_cons pe_int (pa_cons (pe_call Gg hr (by rfl) Dg.at_ Dg.kp Dg.bd .nil pass0 (pa_cons (pv 1) pa_nil)) pa_nil))))),
      _, rfl, _, rfl, z, rfl, h0, h1, _, n, 0, topW z, rfl, kn, q⟩
theorem same_new {H : Hp} {p : Addr} {o : HO} (h : H p = none) : Same H (upd H p o) := fun b u e => by
  rw [upd_ne (ne_of_none e h)]
  exact e
theorem kn_same {H H' : Hp} {x : V} {n : String} (e : Same H H') (h : Kn K H x n) : Kn K H' x n := by
  have T : ∀ {a : Addr} {t : Value}, TyX K H (.ref a) t → TyX K H' (.ref a) t := fun {a t} h => by
    cases h with
    | base h =>
      cases h with
      | lst q => exact .base (.lst (e _ _ q))
      | frz q => exact .base (.frz (e _ _ q))
      | tup q => exact .base (.tup (e _ _ q))
      | dK q => exact .base (.dK (e _ _ q))
      | dT q => exact .base (.dT (e _ _ q))
      | ins q cl ha hn ht hm => exact .base (.ins (e _ _ q) cl ha hn ht hm)
    | set q => exact .set (e _ _ q)
    | kList q c => exact .kList q c
    | kTuple q c => exact .kTuple q c
    | kDict q c => exact .kDict q c
    | fTuple q => exact .fTuple (e _ _ q)
    | fDict q => exact .fDict (e _ _ q)
  cases h with
  | non => exact .non
  | bl b => exact .bl b
  | int i => exact .int i
  | str z => exact .str z
  | lst h => exact .lst (T h)
  | tup h => exact .tup (T h)
  | dic h => exact .dic (T h)
end
end P4
end Bf

namespace Bf
open PySem PySem.Spec PyProof.Rows L2

/-! ### refusals of one field -/
structure ExT (K : PySem.W.Frag) (mg : Str → Option Value) (x : Str) (C fI : Addr) (fdI : FuncData) : Prop where
  gC : mg x = some (.ref C)
  ox : OexC K C
  iC : PySem.W.findIn K (.ref C) "__init__" = some (some (.ref fI))
  tI : PySem.W.typeIn K (.ref fI) = some (.type "function")
  nf : PySem.W.findIn K (.ref C) "found" = some none
  xf : XfC K C
  bd : Binds K fdI ["self", "found"] []
/-- self is an exception that is being made, without fields as yet -/
def spBase (K : PySem.W.Frag) : Sp := fun vs H Q _ => ∃ (a C : Addr) (v : V), vs = [.ref a, v] ∧ OexC K C ∧ H a = some (exo a C none) ∧ Q .non H
def spInit (K : PySem.W.Frag) (C : Addr) : Sp := fun vs H Q _ => ∃ (a : Addr) (v : V), vs = [.ref a, v] ∧ H a = some (exo a C none) ∧
  ∀ dx, H dx = none → dx ≠ a → Q .non (upd (upd H dx (exd dx [("found", v)])) a (exo a C (some dx)))
/-- the wish that a refusal with this field comes -/
def Refuses (C : Addr) (v : V) (H : Hp) (E : XK) : Prop := ∀ d H', Same H H' → H d = none → H' d = some (.xd [("found", v)]) → E (.ref C) (some d) H'
theorem same_raise {H1 : Hp} {a d : Addr} {o1 o2 o3 o4 : HO} (ha : H1 a = none) (hd : H1 d = none) : Same H1 (upd (del (upd (upd (upd H1 a o1) d o2) a o3) a) d o4) := fun b o e => by
  have nba : b ≠ a := ne_of_none e ha
  have nbd : b ≠ d := ne_of_none e hd
  rw [upd_ne nbd, del_ne nba, upd_ne nba, upd_ne nbd, upd_ne nba]
  exact e

namespace P4
section
variable {P : Program} {w : World} {K : PySem.W.Frag} {mg : Str → Option Value} {base : Heap}
theorem scFE : FnScope ["self", "text"] ["self", "text"] (defScope sFE) := ⟨rfl, rfl, rfl, by decide +kernel, rfl, by decide +kernel, by decide +kernel⟩
theorem ok_FE {f : Addr} {fd : FuncData} (F : Fun K "__init__" "FlowError.__init__" sFE f fd) (mV : mg "ValueError" = none)
    (vV : PySem.W.findCls K (.type "ValueError") (.type "type") "__init__" = some (.val (.builtin "ValueError.__init__"))) : FnOk P w K mg base CX0 2 f fd ["self", "text"] (spBase K) := by
  refine F.ok scFE (fun vs H Q E h => ?_) (fun cdv A outer s H vs Q E hr h => ?_)
  · obtain ⟨a, C, v, rfl, _⟩ := h
    rfl
  · obtain ⟨a, C, v, rfl, ox, ea, q⟩ := h
    exact ⟨_, pss_one (ps_expr (pe_veinit (by rfl) mV vV (pa_cons (pv 0) (pa_cons (pv 1) pa_nil)))), _, rfl, _, rfl, a, C, [v], rfl, by show 1 ≤ 1000; decide, ox, ea, q⟩
/-- what an __init__ needs of the base's class -/
structure BaseT (P : Program) (w : World) (K : PySem.W.Frag) (mg : Str → Option Value) (base : Heap) (mc : Value) (CF fF : Addr) (fdF : FuncData) : Prop where
  g : mg "FlowError" = some (.ref CF)
  rd : ClX.CRead K CF mc
  va : PySem.W.findCls K (.ref CF) mc "__init__" = some (.val (.ref fF))
  kp : PySem.W.keepIn K (.ref fF) = true
  bd : Binds K fdF ["self", "text"] []
  ok : FnOk P w K mg base CX0 2 fF fdF ["self", "text"] (spBase K)
theorem scNK : FnScope ["self", "found"] ["self", "found"] (defScope sNK) := ⟨rfl, rfl, rfl, by decide +kernel, rfl, by decide +kernel, by decide +kernel⟩
theorem ok_NK {f C CF fF : Addr} {fd fdF : FuncData} {mc : Value} (F : Fun K "__init__" "NoKind.__init__" sNK f fd) (B : BaseT P w K mg base mc CF fF fdF) (ox : OexC K C) (nf : PySem.W.findIn K (.ref C) "found" = some none) :
    FnOk P w K mg base CX0 3 f fd ["self", "found"] (spInit K C) := by
  refine F.ok scNK (fun vs H Q E h => ?_) (fun cdv A outer s H vs Q E hr h => ?_)
  · obtain ⟨a, v, rfl, _⟩ := h
    rfl
  · obtain ⟨a, v, rfl, ea, q⟩ := h
    exact ⟨_, pss_cons (ps_expr (pe_clsFn B.ok hr (by rfl) B.g B.rd B.va B.kp B.bd pass0 (pa_cons (pv 0) (pa_cons pe_str pa_nil)))) (pss_one (ps_ost (pv 0) (pv 1))),
      _, rfl, a, C, _, rfl, ox, ea, _, rfl, _, rfl, a, C, rfl, ox, nf, .inl ⟨ea, fun dx n ne => q dx n ne⟩⟩
theorem scNT : FnScope ["self", "found"] ["self", "found"] (defScope sNT) := ⟨rfl, rfl, rfl, by decide +kernel, rfl, by decide +kernel, by decide +kernel⟩
theorem ok_NT {f C CF fF : Addr} {fd fdF : FuncData} {mc : Value} (F : Fun K "__init__" "NoTerm.__init__" sNT f fd) (B : BaseT P w K mg base mc CF fF fdF) (ox : OexC K C) (nf : PySem.W.findIn K (.ref C) "found" = some none) :
    FnOk P w K mg base CX0 3 f fd ["self", "found"] (spInit K C) := by
  refine F.ok scNT (fun vs H Q E h => ?_) (fun cdv A outer s H vs Q E hr h => ?_)
  · obtain ⟨a, v, rfl, _⟩ := h
    rfl
  · obtain ⟨a, v, rfl, ea, q⟩ := h
    exact ⟨_, pss_cons (ps_expr (pe_clsFn B.ok hr (by rfl) B.g B.rd B.va B.kp B.bd pass0 (pa_cons (pv 0) (pa_cons pe_str pa_nil)))) (pss_one (ps_ost (pv 0) (pv 1))),
      _, rfl, a, C, _, rfl, ox, ea, _, rfl, _, rfl, a, C, rfl, ox, nf, .inl ⟨ea, fun dx n ne => q dx n ne⟩⟩
/-- what stands behind «raise C(v)», v already reckoned: the reading from the arguments on -/
theorem raise_reads {C : Addr} {v : V} {H : Hp} {E : XK} (q : Refuses C v H E) :
    ([v] : List V).length ≤ 1000 ∧ ∀ a, H a = none → spInit K C (.ref a :: ([v] ++ [])) (upd H a (exo a C none)) (fun z H2 => z = .non ∧ ∃ (d : Addr) (fs : List (Str × V)), H2 a = some (exo a C (some d)) ∧ H2 d = some (exd d fs) ∧ H d = none ∧
      E (.ref C) (some d) (upd (del H2 a) d (.xd fs))) fun _ _ _ => False := by
  refine ⟨by show 1 ≤ 1000; decide, fun a ha => ⟨a, v, rfl, upd_same, fun dx hdx ne => ⟨rfl, dx, [("found", v)], upd_same, ?_, ?_, ?_⟩⟩⟩
  · rw [upd_ne ne, upd_same]
  · rw [upd_ne ne] at hdx
    exact hdx
  · have hd : H dx = none := by
      rw [upd_ne ne] at hdx
      exact hdx
    exact q _ _ (same_raise ha hd) hd upd_same

end
end P4
end Bf

namespace Bf
open PySem PySem.Spec PyProof.Rows L2

/-- a loop over enumerate(list) -/
theorem for_ite {K : PySem.W.Frag} {a : Addr} {xs : List V} {g : TG} {tb : TS} {D : Ends} {σ : L2.St} {H : Hp} (Pv : Nat → L2.St → Hp → Prop) (h0 : Pv 0 σ H) (hl : ∀ i σ H, i ≤ xs.length → Pv i σ H → SqL K H a xs)
    (hs : ∀ i x σ H T, xs[i]? = some x → Pv i σ H → H T = none → g (.ref T) σ (upd H T (.tup [.int (i : Nat), x])) fun σ2 H2 => tb { D with nx := Pv (i + 1), ct := Pv (i + 1), bk := D.nx } σ2 H2) (hd : ∀ σ H, Pv xs.length σ H → D.nx σ H) :
    ∃ W : Nat → Nat → L2.St → Hp → Prop, (∃ m, W 0 m σ H) ∧ ∀ i m σ H, W i m σ H →
      ((Ite K a).stop i H ∧ D.nx σ H) ∨ ((Ite K a).go i H ∧ ∃ N : L2.St → Hp → Prop, (∀ σ' H', N σ' H' → ∃ m', m' < m ∧ W (i + 1) m' σ' H') ∧ ∀ x H', (Ite K a).yld i H x H' → g x σ H' fun σ2 H2 => tb { D with nx := N, ct := N, bk := D.nx } σ2 H2) := by
  refine ⟨fun i m σ H => m = xs.length - i ∧ i ≤ xs.length ∧ Pv i σ H, ⟨xs.length, by simp, Nat.zero_le _, h0⟩, ?_⟩
  rintro i m σ H ⟨rfl, hi, p⟩
  have q := hl i σ H hi p
  rcases Nat.lt_or_ge i xs.length with lt | ge
  · refine .inr ⟨⟨xs, xs[i], q, List.getElem?_eq_getElem lt⟩, Pv (i + 1), fun σ' H' p' => ⟨xs.length - (i + 1), by omega, rfl, lt, p'⟩, ?_⟩
    rintro x H' ⟨T, y, rfl, nT, rfl, hy⟩
    exact hs i y σ H T (hy xs q) p nT
  · exact .inl ⟨⟨xs, q, ge⟩, hd σ H (Nat.le_antisymm hi ge ▸ p)⟩

/-- the worth of bits, the lowest first -/
def valB : List Int → Int
  | [] => 0
  | b :: r => b + 2 * valB r
theorem valB_snoc : ∀ (l : List Int) (b : Int), valB (l ++ [b]) = valB l + b * 2 ^ l.length
  | [], b => by simp [valB]
  | a :: l, b => by
    show a + 2 * valB (l ++ [b]) = a + 2 * valB l + b * 2 ^ (l.length + 1)
    rw [valB_snoc l b, Int.pow_succ]
    have e : b * (2 ^ l.length * 2) = 2 * (b * 2 ^ l.length) := by rw [← Int.mul_assoc, Int.mul_comm]
    rw [e]
    omega
theorem same_trans_new {H H1 : Hp} {p : Addr} {o : HO} (s : Same H H1) (h : H1 p = none) : Same H (upd H1 p o) := fun b u e => by
  rw [upd_ne (ne_of_none (s _ _ e) h)]
  exact s _ _ e
theorem Same.sqT {K : PySem.W.Frag} {H H' : Hp} {a : Addr} {xs : List V} (e : Same H H') (h : SqT K H a xs) : SqT K H' a xs := by
  rcases h with (h | ⟨o, h⟩) | h
  · exact .inl (.inl (e _ _ h))
  · exact .inl (.inr ⟨o, e _ _ h⟩)
  · exact .inr h
/-- a list (k = true) or a tuple -/
def SqB (K : PySem.W.Frag) (k : Bool) (H : Hp) (a : Addr) (xs : List V) : Prop := if k = true then SqL K H a xs else SqT K H a xs
theorem SqB.same {K : PySem.W.Frag} {k : Bool} {H H' : Hp} {a : Addr} {xs : List V} (e : Same H H') (h : SqB K k H a xs) : SqB K k H' a xs := by
  cases k with
  | true => exact Same.seq e h
  | false => exact Same.sqT e h

theorem SqB.or {K : PySem.W.Frag} {k : Bool} {H : Hp} {a : Addr} {xs : List V} (h : SqB K k H a xs) : SqL K H a xs ∨ SqT K H a xs := by
  cases k with
  | true => exact .inl h
  | false => exact .inr h
theorem iteB {b : Bool} {A B : Prop} (e : b = true) (h : A) : if b = true then A else B := by
  rw [if_pos e]
  exact h
theorem iteN {b : Bool} {A B : Prop} (e : b = false) (h : B) : if b = true then A else B := by
  rw [if_neg (by rw [e]; exact Bool.false_ne_true)]
  exact h
theorem ix_at {K : PySem.W.Frag} {k : Bool} {H : Hp} {a : Addr} {xs : List V} {i : Nat} {v : V} {Q : VK} (s : SqB K k H a xs) (e : xs[i]? = some v) (q : Q v H) : rIx K (.ref a) (.int (i : Nat)) H Q := by
  cases k with
  | true => exact .inl ⟨a, xs, _, v, rfl, rfl, s, atI_nat e, q⟩
  | false => exact .inr (.inl ⟨a, xs, _, v, rfl, rfl, s, atI_nat e, q⟩)

/-! ### things as data -/
mutual
/-- x stands for the data d; its texts and lists are short -/
inductive Da (H : Hp) : V → PyData → Prop
  | non : Da H .non .none
  | bl (c : Bool) : Da H (.bl c) (.bool c)
  | int (i : Int) : Da H (.int i) (.int i)
  | str (z : Str) (h : z.length ≤ 1000) : Da H (.str z) (.str z)
  | lst {a : Addr} {xs : List V} {ds : List PyData} (h : H a = some (.lst xs)) (l : xs.length ≤ 1000) (r : DaAll H xs ds) : Da H (.ref a) (.list ds)
  | tup {a : Addr} {xs : List V} {ds : List PyData} (h : H a = some (.tup xs)) (l : xs.length ≤ 1000) (r : DaAll H xs ds) : Da H (.ref a) (.tuple ds)
  | emp {a : Addr} (h : H a = some (.dK [])) : Da H (.ref a) (.dict [])
inductive DaAll (H : Hp) : List V → List PyData → Prop
  | nil : DaAll H [] []
  | cons {v : V} {vs : List V} {d : PyData} {ds : List PyData} (h : Da H v d) (r : DaAll H vs ds) : DaAll H (v :: vs) (d :: ds)
end
mutual
theorem Da.same {H H' : Hp} (s : Same H H') : ∀ (d : PyData) (v : V), Da H v d → Da H' v d
  | .none, _, h => by cases h; exact .non
  | .bool _, _, h => by cases h; exact .bl _
  | .int _, _, h => by cases h; exact .int _
  | .str _, _, h => by
    cases h with
    | str _ h => exact .str _ h
  | .list ds, _, h => by
    cases h with
    | lst h l r => exact .lst (s _ _ h) l (DaAll.same s ds _ r)
  | .tuple ds, _, h => by
    cases h with
    | tup h l r => exact .tup (s _ _ h) l (DaAll.same s ds _ r)
  | .dict _, _, h => by
    cases h with
    | emp h => exact .emp (s _ _ h)
theorem DaAll.same {H H' : Hp} (s : Same H H') : ∀ (ds : List PyData) (vs : List V), DaAll H vs ds → DaAll H' vs ds
  | [], _, h => by cases h; exact .nil
  | d :: ds, _, h => by
    cases h with
    | cons h r => exact .cons (Da.same s d _ h) (DaAll.same s ds _ r)
end
theorem DaAll.len {H : Hp} : ∀ {vs : List V} {ds : List PyData}, DaAll H vs ds → vs.length = ds.length
  | _, _, .nil => rfl
  | _, _, .cons _ r => congrArg (· + 1) (DaAll.len r)
theorem DaAll.get {H : Hp} : ∀ {vs : List V} {ds : List PyData}, DaAll H vs ds → ∀ {i : Nat} {v : V}, vs[i]? = some v → ∃ d, ds[i]? = some d ∧ Da H v d
  | _, _, .cons h r, 0, _, e => by cases e; exact ⟨_, rfl, h⟩
  | _, _, .cons h r, i + 1, _, e => DaAll.get r (i := i) e
theorem DaAll.getD {H : Hp} : ∀ {vs : List V} {ds : List PyData}, DaAll H vs ds → ∀ {i : Nat} {d : PyData}, ds[i]? = some d → ∃ v, vs[i]? = some v ∧ Da H v d
  | _, _, .cons h r, 0, _, e => by cases e; exact ⟨_, rfl, h⟩
  | _, _, .cons h r, i + 1, _, e => DaAll.getD r (i := i) e
theorem DaAll.append {H : Hp} : ∀ {vs : List V} {ds : List PyData} {ws : List V} {es : List PyData}, DaAll H vs ds → DaAll H ws es → DaAll H (vs ++ ws) (ds ++ es)
  | _, _, _, _, .nil, r => r
  | _, _, _, _, .cons h t, r => .cons h (DaAll.append t r)
theorem DaAll.drop {H : Hp} : ∀ {vs : List V} {ds : List PyData} (n : Nat), DaAll H vs ds → DaAll H (vs.drop n) (ds.drop n)
  | _, _, 0, r => r
  | _, _, _ + 1, .nil => .nil
  | _, _, n + 1, .cons _ r => DaAll.drop n r
theorem DaAll.snoc {H : Hp} {v : V} {d : PyData} {vs : List V} {ds : List PyData} (r : DaAll H vs ds) (h : Da H v d) : DaAll H (vs ++ [v]) (ds ++ [d]) := r.append (.cons h .nil)
theorem DaAll.rev {H : Hp} : ∀ {vs : List V} {ds : List PyData}, DaAll H vs ds → DaAll H vs.reverse ds.reverse
  | _, _, .nil => .nil
  | _, _, .cons h r => by
    rw [List.reverse_cons, List.reverse_cons]
    exact (DaAll.rev r).snoc h
def tyD : PyData → String
  | .none => "NoneType"
  | .bool _ => "bool"
  | .int _ => "int"
  | .str _ => "str"
  | .list _ => "list"
  | .tuple _ => "tuple"
  | .dict _ => "dict"
theorem Da.kn {K : PySem.W.Frag} {H : Hp} {x : V} {d : PyData} (h : Da H x d) : Kn K H x (tyD d) := by
  cases h with
  | non => exact .non
  | bl c => exact .bl c
  | int i => exact .int i
  | str z _ => exact .str z
  | lst h _ _ => exact .lst (.base (.lst h))
  | tup h _ _ => exact .tup (.base (.tup h))
  | emp h => exact .dic (.base (.dK h))
theorem DaAll.kn {K : PySem.W.Frag} {H : Hp} : ∀ {vs : List V} {ds : List PyData}, DaAll H vs ds → ∀ y ∈ vs, ∃ m, Kn K H y m
  | _, _, .nil, _, m => nomatch m
  | _, _, .cons h r, y, m => (List.mem_cons.mp m).elim (fun e => ⟨_, e ▸ h.kn⟩) (DaAll.kn r y)
/-- is a whole number within, of data -/
def wholeD (d : PyData) (lo hi : Int) : Bool := match d with
  | .int i => decide (lo ≤ i) && decide (i ≤ hi)
  | _ => false
theorem Da.whole {H : Hp} {x : V} {d : PyData} (h : Da H x d) (lo hi : Int) : wholeB x lo hi = wholeD d lo hi := by
  cases h <;> rfl
/-- the built-in types, asked of data -/
theorem kit_of (n : String) (hn : ∀ m ∈ ["NoneType", "bool", "int", "str", "list", "tuple", "dict"], kitB m n = some (m == n || (m == "bool" && n == "int"))) (d : PyData) : kitB (tyD d) n = some (tyD d == n || (tyD d == "bool" && n == "int")) := by
  cases d <;> exact hn _ (by simp [tyD])
theorem kit_str (d : PyData) : kitB (tyD d) "str" = some (tyD d == "str") := by
  rw [kit_of "str" (by decide +kernel) d]
  cases d <;> rfl
theorem kit_tup (d : PyData) : kitB (tyD d) "tuple" = some (tyD d == "tuple") := by
  rw [kit_of "tuple" (by decide +kernel) d]
  cases d <;> rfl
theorem kit_list (d : PyData) : kitB (tyD d) "list" = some (tyD d == "list") := by
  rw [kit_of "list" (by decide +kernel) d]
  cases d <;> rfl
/-- comprehensions over a text -/
theorem lc_its {x : Str} {g : TG} {tt : TT} {te : TE} {vs : List Nat} {σ : L2.St} {H1 : Hp} {D : Addr} {Qd : Hp → Prop} (Pv : Nat → Hp → Prop) (h0 : Pv 0 (upd H1 D (.lst [])))
    (hs : ∀ i c H, x.cps[i]? = some c → Pv i H → g (.str ⟨#[c]⟩) (wipe σ vs) H fun σ2 H2 => wipe σ2 vs = wipe σ vs ∧ tt σ2 H2 fun b H3 =>
      if b = true then te σ2 H3 fun y H4 => ∃ acc, H4 D = some (.lst acc) ∧ acc.length < sizeLine ∧ Pv (i + 1) (upd H4 D (.lst (acc ++ [y]))) else Pv (i + 1) H3) (hd : ∀ H, Pv x.cps.size H → Qd H) :
    ∃ W : Nat → Nat → Hp → Prop, (∃ m, W 0 m (upd H1 D (.lst []))) ∧ ∀ i m H, W i m H →
      ((Its x).stop i H ∧ Qd H) ∨ ((Its x).go i H ∧ ∃ Nx : Hp → Prop, (∀ H', Nx H' → ∃ m', m' < m ∧ W (i + 1) m' H') ∧ ∀ v H', (Its x).yld i H v H' → g v (wipe σ vs) H' fun σ2 H2 => wipe σ2 vs = wipe σ vs ∧ tt σ2 H2 fun b H3 =>
        if b = true then te σ2 H3 fun y H4 => ∃ acc, H4 D = some (.lst acc) ∧ acc.length < sizeLine ∧ Nx (upd H4 D (.lst (acc ++ [y]))) else Nx H3) := by
  refine ⟨fun i m H => m = x.cps.size - i ∧ i ≤ x.cps.size ∧ Pv i H, ⟨x.cps.size, by simp, Nat.zero_le _, h0⟩, ?_⟩
  rintro i m H ⟨rfl, hi, p⟩
  by_cases hlt : i < x.cps.size
  · refine .inr ⟨hlt, Pv (i + 1), fun H' p' => ⟨x.cps.size - (i + 1), by omega, rfl, hlt, p'⟩, fun v H' y => ?_⟩
    obtain ⟨rfl, c, hc, rfl⟩ := y
    exact hs i c _ hc p
  · have e : i = x.cps.size := by omega
    subst e
    exact .inl ⟨Nat.le_refl _, hd H p⟩
end Bf

namespace Bf
open PySem PySem.Spec PyProof.Rows L2
def signB (c : Nat) : Bool := !decide (([c] : List Nat) < ("a" : Str).cps.toList) && !decide (("z" : Str).cps.toList < ([c] : List Nat))
def nameS (z : Str) : Bool := (decide (1 ≤ z.length) && decide (z.length ≤ 8)) && z.cps.toList.all signB
def nameD : PyData → Bool
  | .str z => nameS z
  | _ => false
namespace P4
section
variable {P : Program} {w : World} {K : PySem.W.Frag} {mg : Str → Option Value} {base : Heap}
/-! ### is_name -/
def spName : Sp := fun vs H Q _ => ∃ (x : V) (d : PyData), vs = [x] ∧ Da H x d ∧ ∀ H', Same H H' → Q (.bl (nameD d)) H'
theorem scName : FnScope ["thing", "sign"] ["thing"] (defScope sName) := ⟨rfl, rfl, rfl, by decide +kernel, rfl, by decide +kernel, by decide +kernel⟩
theorem ok_name {f : Addr} {fd : FuncData} (F : Fun K "is_name" "is_name" sName f fd) (mi : mg "isinstance" = none) (ms : mg "str" = none) (ml : mg "len" = none) (ma : mg "all" = none) : FnOk P w K mg base CX0 2 f fd ["thing"] spName := by
  refine F.ok scName (fun vs H Q E h => ?_) (fun cdv A outer s H vs Q E hr h => ?_)
  · obtain ⟨x, d, rfl, _⟩ := h
    rfl
  · obtain ⟨x, d, rfl, da, q⟩ := h
    refine ⟨_, pss_cons (ps_if (PW.pt (pw_or (pt_not (pt_val (pe_callB call_isi (by rfl) mi (by decide +kernel) (pa_cons (pv 0) (pa_cons (pe_bltn (v := .ty "str") (by rfl) ms (by decide +kernel) rfl) pa_nil)))))
        (pw_or1 (pt_not (pt_chain op_le op_le pe_int (pe_callB call_len_str (by rfl) ml PySem.boot_len (pa_cons (pv 0) pa_nil)) pe_int))))) (pss_one (ps_ret pe_bl)) pss_nil)
      (pss_one (ps_ret (pe_callB (cr_all rfl) (by rfl) ma (by decide +kernel) (pa_cons (pe_lc (own := [("sign", 1)]) (g := gName 1) (tt := tYes) rfl scName.nd (pi_str (pv 0)) (blkOk_by (N := ["thing", "sign"]) (sc := defScope sName) (by decide +kernel))
        (fun _ _ _ _ _ => pg_name (i := 1) scName.nd rfl (Or.inl rfl)) (fun _ _ _ _ _ => pts_nil) (fun _ _ _ _ _ => pe_chain op_le_str op_le_str pe_str (pv 1) pe_str)) pa_nil)))), ?_⟩
    refine ⟨_, rfl, x, .ty "str", _, _, _, rfl, .ty "str", da.kn.ty, kit_ty (kit_str d), _, rfl, ?_⟩
    cases da with
    | str z hz =>
      refine iteF ?_
      have lz : z.length = z.cps.size := rfl
      refine ⟨_, rfl, z, rfl, Nat.le_trans hz (by decide), _, _, rfl, rfl, _, rfl, ?_⟩
      by_cases h1 : 1 ≤ z.length
      · rw [decide_eq_true (show (1 : Int) ≤ (z.length : Int) by omega)]
        refine iteT ⟨_, _, rfl, rfl, _, rfl, ?_⟩
        by_cases h8 : z.length ≤ 8
        · rw [decide_eq_true (show (z.length : Int) ≤ 8 by omega)]
          refine iteF ⟨_, rfl, z, rfl, fun D hD => ?_⟩
          refine lc_its (x := z) (fun i H' => Same H H' ∧ H' D = some (.lst (((z.cps.toList.take i).map signB).map V.bl))) ⟨same_new hD, upd_same⟩ (fun i c H' hc pv => ?_) fun H' pv => ?_
          · have hi : i < z.cps.size := (Array.getElem?_eq_some_iff.mp hc).1
            have fin : ∀ b, b = signB c → ∃ acc, H' D = some (.lst acc) ∧ acc.length < sizeLine ∧ (Same H (upd H' D (.lst (acc ++ [.bl b]))) ∧ upd H' D (.lst (acc ++ [.bl b])) D = some (.lst (((z.cps.toList.take (i + 1)).map signB).map V.bl))) := fun b e => by
              refine ⟨_, pv.2, ?_, fun a o h => ?_, ?_⟩
              · rw [List.length_map, List.length_map, List.length_take]
                exact small1000 (by omega)
              · rw [upd_ne (ne_of_none h hD)]; exact pv.1 _ _ h
              · have hc' : z.cps.toList[i]? = some c := by rw [Array.getElem?_toList]; exact hc
                rw [upd_same, List.take_add_one, hc', List.map_append, List.map_append, e]
                rfl
            refine ⟨rfl, _, rfl, _, _, rfl, rfl, _, rfl, ite2 (fun h => ⟨_, _, rfl, rfl, fin _ ?_⟩) (fun h => fin _ ?_)⟩
            · unfold signB
              rw [show (!decide (([c] : List Nat) < ("a" : Str).cps.toList)) = true from h, Bool.true_and]
            · unfold signB
              rw [show (!decide (([c] : List Nat) < ("a" : Str).cps.toList)) = false from Bool.eq_false_iff.mpr h, Bool.false_and]
          · have e : (z.cps.toList.take z.cps.size) = z.cps.toList := by rw [← Array.length_toList, List.take_length]
            rw [e] at pv
            refine ⟨D, _, rfl, SqL.of pv.2, ?_⟩
            have e2 : nameD (.str z) = (z.cps.toList.map signB).all id := by
              show ((decide (1 ≤ z.length) && decide (z.length ≤ 8)) && z.cps.toList.all signB) = _
              rw [decide_eq_true h1, decide_eq_true h8, List.all_map]
              rfl
            rw [← e2]
            exact q _ pv.1
        · rw [decide_eq_false (show ¬ (z.length : Int) ≤ 8 by omega)]
          have e2 : nameD (.str z) = false := by
            show ((decide (1 ≤ z.length) && decide (z.length ≤ 8)) && z.cps.toList.all signB) = _
            rw [decide_eq_false h8, Bool.and_false, Bool.false_and]
          exact iteT (by rw [e2] at q; exact q _ (Same.refl _))
      · rw [decide_eq_false (show ¬ (1 : Int) ≤ (z.length : Int) by omega)]
        have e2 : nameD (.str z) = false := by
          show ((decide (1 ≤ z.length) && decide (z.length ≤ 8)) && z.cps.toList.all signB) = _
          rw [decide_eq_false h1, Bool.false_and, Bool.false_and]
        exact iteF ⟨_, rfl, iteT (by rw [e2] at q; exact q _ (Same.refl _))⟩
    | _ => exact iteT (q _ (Same.refl _))
/-! ### is_kind -/
def kindD : PyData → Bool
  | .tuple [a, b] => wholeD a 2 4 && wholeD b 1 8
  | .int i => wholeD (.int i) 1 8
  | _ => false
def spKind : Sp := fun vs H Q _ => ∃ (x : V) (d : PyData), vs = [x] ∧ Da H x d ∧ Q (.bl (kindD d)) H
theorem scKind : FnScope ["thing"] ["thing"] (defScope sKind) := ⟨rfl, rfl, rfl, by decide +kernel, rfl, by decide +kernel, by decide +kernel⟩
theorem ok_kind {f fw fh : Addr} {fd fdw fdh : FuncData} (F : Fun K "is_kind" "is_kind" sKind f fd) (Dw : Df K mg "is_width" fw fdw ["thing"]) (Gw : FnOk P w K mg base CX0 3 fw fdw ["thing"] (spOne K 1 8))
    (Dh : Df K mg "is_whole" fh fdh ["thing", "low", "high"]) (Gh : FnOk P w K mg base CX0 2 fh fdh ["thing", "low", "high"] (spWhole K)) (mi : mg "isinstance" = none) (mt : mg "tuple" = none) (ml : mg "len" = none) : FnOk P w K mg base CX0 4 f fd ["thing"] spKind := by
  refine F.ok scKind (fun vs H Q E h => ?_) (fun cdv A outer s H vs Q E hr h => ?_)
  · obtain ⟨x, d, rfl, _⟩ := h
    rfl
  · obtain ⟨x, d, rfl, da, q⟩ := h
    have hr1 := hr.mono (by decide : 2 ≤ 3)
    refine ⟨_, pss_cons (ps_if (pt_not (pt_val (pe_callB call_isi (by rfl) mi (by decide +kernel) (pa_cons (pv 0) (pa_cons (pe_bltn (v := .ty "tuple") (by rfl) mt (by decide +kernel) rfl) pa_nil))))) (pss_one (ps_ret (pe_call Gw hr (by rfl) Dw.at_ Dw.kp Dw.bd .nil pass0 (pa_cons (pv 0) pa_nil)))) pss_nil)
      (pss_one (ps_ret (pe_and (pe_cmpR op_eq (pe_callB call_len_seq (by rfl) ml PySem.boot_len (pa_cons (pv 0) pa_nil)) pe_int (nomark _)) (pe_and (pe_call Gh hr1 (by rfl) Dh.at_ Dh.kp Dh.bd .nil pass0 (pa_cons (pe_ix ix_tup (pv 0) pe_int (fun _ _ => rfl)) (pa_cons pe_int (pa_cons pe_int pa_nil))))
        (pe_one (pe_call Gw hr (by rfl) Dw.at_ Dw.kp Dw.bd .nil pass0 (pa_cons (pe_ix ix_tup (pv 0) pe_int (fun _ _ => rfl)) pa_nil))))))), ?_⟩
    refine ⟨_, rfl, x, .ty "tuple", _, _, _, rfl, .ty "tuple", da.kn.ty, kit_ty (kit_tup d), _, rfl, ?_⟩
    have out : ∀ d, Da H x d → (tyD d == "tuple") = false → kindD d = wholeB x 1 8 := fun d da e => by
      cases da with
      | tup _ _ _ => cases e
      | int i => rfl
      | _ => rfl
    by_cases e : (tyD d == "tuple") = true
    · rw [e]
      refine iteF ?_
      cases da with
      | @tup a xs ds h l r =>
        refine ⟨_, rfl, a, xs, rfl, .inr (SqT.of h), rfl, ?_⟩
        by_cases e2 : xs.length = 2
        · match xs, e2, r with
          | [u, v], _, .cons (d := du) h1 (.cons (d := dv) h2 .nil) =>
            refine ⟨_, rfl, iteB (by rfl) ?_⟩
            refine ⟨_, rfl, a, _, 0, _, rfl, rfl, SqT.of h, rfl, u, _, 2, 4, rfl, h1.kn, ?_⟩
            have k : kindD (.tuple [du, dv]) = (wholeB u 2 4 && wholeB v 1 8) := by
              show (wholeD du 2 4 && wholeD dv 1 8) = _
              rw [h1.whole, h2.whole]
            rw [k] at q
            refine ⟨_, rfl, ite2 (fun w1 => ?_) (fun w1 => ?_)⟩
            · rw [w1, Bool.true_and] at q
              exact ⟨_, rfl, a, _, 1, _, rfl, rfl, SqT.of h, rfl, v, _, rfl, h2.kn, q⟩
            · rw [Bool.eq_false_iff.mpr w1, Bool.false_and] at q
              exact q
        · have nl : ¬ V.int ((xs.length : Nat) : Int) = V.int 2 := fun z => e2 (by have := V.int.inj z; omega)
          have k : kindD (.tuple ds) = false := by
            have ld := r.len
            match ds, ld with
            | [], _ => rfl
            | [_], _ => rfl
            | [_, _], ld => exact absurd ld e2
            | _ :: _ :: _ :: _, _ => rfl
          rw [k] at q
          exact ⟨_, rfl, iteN (decide_eq_false nl) q⟩
      | _ => cases e
    · have e' := Bool.eq_false_iff.mpr e
      rw [e']
      rw [out d da e'] at q
      exact iteT ⟨_, rfl, x, _, rfl, da.kn, q⟩
end
end P4
end Bf

namespace Bf
open PySem PySem.Spec PyProof.Rows L2
theorem split_short {a b y : Str} (m : y ∈ Txt.split a b) : y.length ≤ a.length := by
  unfold Txt.split at m
  split at m
  · rw [List.mem_singleton.mp m]; exact Nat.le_refl _
  · split at m
    · rw [List.mem_singleton.mp m]; exact Nat.le_refl _
    · unfold Builtin.Str.partsBetween at m
      obtain ⟨⟨i, j⟩, _, rfl⟩ := List.mem_map.mp m
      show (a.cps.extract i j).size ≤ a.cps.size
      rw [Array.size_extract]
      omega
def nodeS (z : Str) : Bool := decide ((Txt.split z ".").length ≤ 2) && (Txt.split z ".").all nameS
def nodeD : PyData → Bool
  | .str z => nodeS z
  | _ => false
theorem Da.str_inv {H : Hp} {v : V} {z : Str} (h : Da H v (.str z)) : v = .str z := by
  cases h; rfl
theorem Da.tup_inv {H : Hp} {v : V} {ds : List PyData} (h : Da H v (.tuple ds)) : ∃ a xs, v = .ref a ∧ H a = some (.tup xs) ∧ xs.length ≤ 1000 ∧ DaAll H xs ds := by
  cases h with
  | tup h l r => exact ⟨_, _, rfl, h, l, r⟩
namespace P4
section
variable {P : Program} {w : World} {K : PySem.W.Frag} {mg : Str → Option Value} {base : Heap}
/-! ### _are_worths_of_width -/
def goodB (z : Int) (xs : List V) : Bool := (xs.map fun y => wholeB y 0 (topW z)).all id
def spAre (K : PySem.W.Frag) : Sp := fun vs H Q _ => ∃ (a : Addr) (z : Int) (k : Bool) (xs : List V), vs = [.ref a, .int z] ∧ 0 ≤ z ∧ z ≤ 1000 ∧ SqB K k H a xs ∧ xs.length ≤ 1000 ∧ (∀ y ∈ xs, ∃ m, Kn K H y m) ∧ ∀ H', Same H H' → Q (.bl (goodB z xs)) H'
theorem scAre : FnScope ["things", "width", "thing"] ["things", "width"] (defScope sAre) := ⟨rfl, rfl, rfl, by decide +kernel, rfl, by decide +kernel, by decide +kernel⟩
theorem ok_are {f fo : Addr} {fd fdo : FuncData} (F : Fun K "_are_worths_of_width" "_are_worths_of_width" sAre f fd) (Do : Df K mg "_is_worth_of_width" fo fdo ["thing", "width"]) (Go : FnOk P w K mg base CX0 3 fo fdo ["thing", "width"] (spWorthOf K)) (ma : mg "all" = none) :
    FnOk P w K mg base CX0 4 f fd ["things", "width"] (spAre K) := by
  refine F.ok scAre (fun vs H Q E h => ?_) (fun cdv A outer s H vs Q E hr h => ?_)
  · obtain ⟨a, z, k, xs, rfl, _⟩ := h
    rfl
  · obtain ⟨a, z, k, xs, rfl, z0, z1, hS, hz, hk, q⟩ := h
    cases k with
    | true =>
      refine ⟨_, pss_one (ps_ret (pe_callB (cr_all rfl) (by rfl) ma (by decide +kernel) (pa_cons (pe_lc (own := [("thing", 2)]) (g := gName 2) (tt := tYes) rfl scAre.nd (pi_list (pv 0)) (blkOk_by (N := ["things", "width", "thing"]) (sc := defScope sAre) (by decide +kernel))
            (fun _ _ _ _ _ => pg_name (i := 2) scAre.nd rfl (Or.inl rfl)) (fun _ _ _ _ _ => pts_nil) (fun _ _ _ _ _ => pe_call Go hr (by rfl) Do.at_ Do.kp Do.bd .nil pass0 (pa_cons (pv 2) (pa_cons (pv 1) pa_nil)))) pa_nil))), ?_⟩
      have hS' : SqL K H a xs := hS
      refine ⟨_, rfl, a, rfl, ⟨xs, hS'⟩, fun D hD => lc_list (K := K) (a := a) (xs := xs) (fun i H' => Same H H' ∧ H' D = some (.lst ((xs.take i).map fun y => V.bl (wholeB y 0 (topW z))))) ⟨same_new hD, upd_same⟩
            (fun i H' _ pv => Same.seq pv.1 hS') (fun i y H' hy pv => ?_) fun H' pv => ?_⟩
      · obtain ⟨m, km⟩ := hk y (List.mem_of_getElem? hy)
        have hi := (List.getElem?_eq_some_iff.mp hy).1
        refine ⟨rfl, _, rfl, _, rfl, y, m, z, rfl, kn_same pv.1 km, z0, z1, _, pv.2, by rw [List.length_map, List.length_take]; exact Nat.lt_of_le_of_lt (Nat.le_trans (Nat.min_le_left _ _) (Nat.le_of_lt hi)) (small1000 hz), fun b o e => ?_, ?_⟩
        · rw [upd_ne (ne_of_none e hD)]
          exact pv.1 _ _ e
        · rw [upd_same, List.take_add_one, hy, List.map_append]
          rfl
      · have pv2 : H' D = some (.lst ((xs.map fun y => wholeB y 0 (topW z)).map V.bl)) := by rw [pv.2, List.take_length, List.map_map]; rfl
        exact ⟨D, _, rfl, SqL.of pv2, q _ pv.1⟩
    | false =>
      refine ⟨_, pss_one (ps_ret (pe_callB (cr_all rfl) (by rfl) ma (by decide +kernel) (pa_cons (pe_lc (own := [("thing", 2)]) (g := gName 2) (tt := tYes) rfl scAre.nd (pi_tup (pv 0)) (blkOk_by (N := ["things", "width", "thing"]) (sc := defScope sAre) (by decide +kernel))
            (fun _ _ _ _ _ => pg_name (i := 2) scAre.nd rfl (Or.inl rfl)) (fun _ _ _ _ _ => pts_nil) (fun _ _ _ _ _ => pe_call Go hr (by rfl) Do.at_ Do.kp Do.bd .nil pass0 (pa_cons (pv 2) (pa_cons (pv 1) pa_nil)))) pa_nil))), ?_⟩
      have hS' : SqT K H a xs := hS
      refine ⟨_, rfl, a, rfl, ⟨xs, hS'⟩, fun D hD => lc_tup (K := K) (a := a) (xs := xs) (fun i H' => Same H H' ∧ H' D = some (.lst ((xs.take i).map fun y => V.bl (wholeB y 0 (topW z))))) ⟨same_new hD, upd_same⟩
            (fun i H' _ pv => Same.sqT pv.1 hS') (fun i y H' hy pv => ?_) fun H' pv => ?_⟩
      · obtain ⟨m, km⟩ := hk y (List.mem_of_getElem? hy)
        have hi := (List.getElem?_eq_some_iff.mp hy).1
        refine ⟨rfl, _, rfl, _, rfl, y, m, z, rfl, kn_same pv.1 km, z0, z1, _, pv.2, by rw [List.length_map, List.length_take]; exact Nat.lt_of_le_of_lt (Nat.le_trans (Nat.min_le_left _ _) (Nat.le_of_lt hi)) (small1000 hz), fun b o e => ?_, ?_⟩
        · rw [upd_ne (ne_of_none e hD)]
          exact pv.1 _ _ e
        · rw [upd_same, List.take_add_one, hy, List.map_append]
          rfl
      · have pv2 : H' D = some (.lst ((xs.map fun y => wholeB y 0 (topW z)).map V.bl)) := by rw [pv.2, List.take_length, List.map_map]; rfl
        exact ⟨D, _, rfl, SqL.of pv2, q _ pv.1⟩


/-! ### is_worth, of a kind that is one -/
def worthD (d : PyData) : PyData → Bool
  | .int z => wholeD d 0 (topW z)
  | .tuple [.int m, .int z] => match d with
    | .tuple ds => decide ((ds.length : Int) = m) && ds.all fun e => wholeD e 0 (topW z)
    | _ => false
  | _ => false
theorem good_da {H : Hp} {z : Int} : ∀ {xs : List V} {ds : List PyData}, DaAll H xs ds → goodB z xs = ds.all fun e => wholeD e 0 (topW z)
  | _, _, .nil => rfl
  | _, _, .cons h r => by
    have ih := good_da (z := z) r
    unfold goodB at ih ⊢
    rw [List.map_cons, List.all_cons, List.all_cons, ih, h.whole]
    rfl
theorem kind_inv {d : PyData} (h : kindD d = true) : (∃ z, d = .int z ∧ 1 ≤ z ∧ z ≤ 8) ∨ ∃ m z, d = .tuple [.int m, .int z] ∧ 2 ≤ m ∧ m ≤ 4 ∧ 1 ≤ z ∧ z ≤ 8 := by
  unfold kindD at h
  split at h
  · rename_i a b
    obtain ⟨h1, h2⟩ := Bool.and_eq_true_iff.mp h
    cases a with
    | int m =>
      cases b with
      | int z =>
        have a1 : (decide (2 ≤ m) && decide (m ≤ 4)) = true := h1
        have a2 : (decide (1 ≤ z) && decide (z ≤ 8)) = true := h2
        obtain ⟨b1, b2⟩ := Bool.and_eq_true_iff.mp a1
        obtain ⟨b3, b4⟩ := Bool.and_eq_true_iff.mp a2
        exact .inr ⟨m, z, rfl, of_decide_eq_true b1, of_decide_eq_true b2, of_decide_eq_true b3, of_decide_eq_true b4⟩
      | _ => cases h2
    | _ => cases h1
  · rename_i z
    have a2 : (decide (1 ≤ z) && decide (z ≤ 8)) = true := h
    obtain ⟨b3, b4⟩ := Bool.and_eq_true_iff.mp a2
    exact .inl ⟨z, rfl, of_decide_eq_true b3, of_decide_eq_true b4⟩
  · cases h
def spIsWorth : Sp := fun vs H Q _ => ∃ (x k : V) (d e : PyData), vs = [x, k] ∧ Da H x d ∧ Da H k e ∧ kindD e = true ∧ ∀ H', Same H H' → Q (.bl (worthD d e)) H'
theorem scIsWorth : FnScope ["thing", "kind", "many", "width"] ["thing", "kind"] (defScope sIsWorth) := ⟨rfl, rfl, rfl, by decide +kernel, rfl, by decide +kernel, by decide +kernel⟩
theorem ok_isWorth {f fk fo fr : Addr} {fd fdk fdo fdr : FuncData} (F : Fun K "is_worth" "is_worth" sIsWorth f fd) (Dk : Df K mg "is_kind" fk fdk ["thing"]) (Gk : FnOk P w K mg base CX0 4 fk fdk ["thing"] spKind)
    (Do : Df K mg "_is_worth_of_width" fo fdo ["thing", "width"]) (Go : FnOk P w K mg base CX0 3 fo fdo ["thing", "width"] (spWorthOf K)) (Dr : Df K mg "_are_worths_of_width" fr fdr ["things", "width"]) (Gr : FnOk P w K mg base CX0 4 fr fdr ["things", "width"] (spAre K))
    (mi : mg "isinstance" = none) (mt : mg "tuple" = none) (ml : mg "len" = none) : FnOk P w K mg base CX0 5 f fd ["thing", "kind"] spIsWorth := by
  refine F.ok scIsWorth (fun vs H Q E h => ?_) (fun cdv A outer s H vs Q E hr h => ?_)
  · obtain ⟨x, k, d, e, rfl, _⟩ := h
    rfl
  · obtain ⟨x, k, d, e, rfl, da, db, hk, q⟩ := h
    have hr2 := hr.mono (by decide : 3 ≤ 4)
    refine ⟨_, pss_cons (ps_if (pt_not (pt_val (pe_call Gk hr (by rfl) Dk.at_ Dk.kp Dk.bd .nil pass0 (pa_cons (pv 1) pa_nil)))) (pss_one ps_never) pss_nil)
      (pss_cons (ps_if (pt_not (pt_val (pe_callB call_isi (by rfl) mi (by decide +kernel) (pa_cons (pv 1) (pa_cons (pe_bltn (v := .ty "tuple") (by rfl) mt (by decide +kernel) rfl) pa_nil))))) (pss_one (ps_ret (pe_call Go hr2 (by rfl) Do.at_ Do.kp Do.bd .nil pass0 (pa_cons (pv 0) (pa_cons (pv 1) pa_nil))))) pss_nil)
      (pss_cons (ps_asg (pv 1) (pg_tup rfl (pgs_cons (pg_name (i := 2) scIsWorth.nd rfl (Or.inl rfl)) (pgs_cons (pg_name (i := 3) scIsWorth.nd rfl (Or.inl rfl)) pgs_nil))))
      (pss_cons (ps_if (PW.pt (pw_or (pt_not (pt_val (pe_callB call_isi (by rfl) mi (by decide +kernel) (pa_cons (pv 0) (pa_cons (pe_bltn (v := .ty "tuple") (by rfl) mt (by decide +kernel) rfl) pa_nil)))))
          (pw_or1 (pt_cmpR op_ne (pe_callB call_len_seq (by rfl) ml PySem.boot_len (pa_cons (pv 0) pa_nil)) (pv 2) (nomark _))))) (pss_one (ps_ret pe_bl)) pss_nil)
      (pss_one (ps_ret (pe_call Gr hr (by rfl) Dr.at_ Dr.kp Dr.bd .nil pass0 (pa_cons (pv 0) (pa_cons (pv 3) pa_nil)))))))), ?_⟩
    refine ⟨_, rfl, k, e, rfl, db, _, rfl, iteN (by rw [hk]; rfl) ?_⟩
    refine ⟨_, rfl, k, .ty "tuple", _, _, _, rfl, .ty "tuple", db.kn.ty, kit_ty (kit_tup e), _, rfl, ?_⟩
    rcases kind_inv hk with ⟨z, rfl, z1, z8⟩ | ⟨m, z, rfl, m2, m4, z1, z8⟩
    · cases db
      refine iteT ⟨_, rfl, _, rfl, x, _, z, rfl, da.kn, by omega, by omega, ?_⟩
      rw [da.whole]
      exact q _ (Same.refl _)
    · obtain ⟨kb, ks, rfl, hkb, -, rk⟩ := db.tup_inv
      cases rk with
      | cons r1 rk =>
        cases rk with
        | cons r2 rk =>
          cases rk
          cases r1
          cases r2
          refine iteF ⟨_, rfl, kb, _, rfl, SqT.of hkb, rfl, _, _, rfl, _, _, rfl, rfl, ?_⟩
          refine ⟨_, rfl, x, .ty "tuple", _, _, _, rfl, .ty "tuple", da.kn.ty, kit_ty (kit_tup d), _, rfl, ?_⟩
          cases da with
          | @tup a xs ds h l r =>
            refine iteF ?_
            refine ⟨_, rfl, a, xs, rfl, .inr (SqT.of h), _, rfl, rfl, _, rfl, ?_⟩
            have w0 : worthD (.tuple ds) (.tuple [.int m, .int z]) = (decide ((ds.length : Int) = m) && ds.all fun e => wholeD e 0 (topW z)) := rfl
            by_cases e2 : (xs.length : Int) = m
            · refine iteN (by rw [e2, decide_eq_true rfl]; rfl) ?_
              refine ⟨_, rfl, _, rfl, a, z, false, xs, rfl, by omega, by omega, SqT.of h, l, r.kn, fun H' s' => ?_⟩
              rw [good_da r]
              rw [w0, ← r.len, decide_eq_true e2, Bool.true_and] at q
              exact q _ s'
            · have nl : ¬ V.int ((xs.length : Nat) : Int) = V.int m := fun z => e2 (V.int.inj z)
              refine iteB (by rw [decide_eq_false nl]; rfl) ?_
              rw [w0, ← r.len, decide_eq_false e2, Bool.false_and] at q
              exact q _ (Same.refl _)
          | _ => exact iteT (iteT (q _ (Same.refl _)))
/-! ### is_node_name -/
def spNode : Sp := fun vs H Q _ => ∃ (x : V) (d : PyData), vs = [x] ∧ Da H x d ∧ ∀ H', Same H H' → Q (.bl (nodeD d)) H'
theorem scNode : FnScope ["thing", "names", "name"] ["thing"] (defScope sNodeName) := ⟨rfl, rfl, rfl, by decide +kernel, rfl, by decide +kernel, by decide +kernel⟩
theorem ok_node {f fn : Addr} {fd fdn : FuncData} (F : Fun K "is_node_name" "is_node_name" sNodeName f fd) (Dn : Df K mg "is_name" fn fdn ["thing"]) (Gn : FnOk P w K mg base CX0 2 fn fdn ["thing"] spName) (mi : mg "isinstance" = none) (ms : mg "str" = none) (ml : mg "len" = none) (ma : mg "all" = none) :
    FnOk P w K mg base CX0 3 f fd ["thing"] spNode := by
  refine F.ok scNode (fun vs H Q E h => ?_) (fun cdv A outer s H vs Q E hr h => ?_)
  · obtain ⟨x, d, rfl, _⟩ := h
    rfl
  · obtain ⟨x, d, rfl, da, q⟩ := h
    refine ⟨_, pss_cons (ps_if (pt_not (pt_val (pe_callB call_isi (by rfl) mi (by decide +kernel) (pa_cons (pv 0) (pa_cons (pe_bltn (v := .ty "str") (by rfl) ms (by decide +kernel) rfl) pa_nil))))) (pss_one (ps_ret pe_bl)) pss_nil)
      (pss_cons (ps_set (i := 1) scNode.nd rfl (Or.inl rfl) (pe_split (pv 0) pe_str))
      (pss_one (ps_ret (pe_and (pe_cmpR op_le (pe_callB call_len_seq (by rfl) ml PySem.boot_len (pa_cons (pv 1) pa_nil)) pe_int (nomark _)) (pe_one (pe_callB (cr_all rfl) (by rfl) ma (by decide +kernel) (pa_cons (pe_lc (own := [("name", 2)]) (g := gName 2) (tt := tYes) rfl scNode.nd (pi_list (pv 1))
        (blkOk_by (N := ["thing", "names", "name"]) (sc := defScope sNodeName) (by decide +kernel)) (fun _ _ _ _ _ => pg_name (i := 2) scNode.nd rfl (Or.inl rfl)) (fun _ _ _ _ _ => pts_nil) (fun _ _ _ _ _ => pe_call Gn hr (by rfl) Dn.at_ Dn.kp Dn.bd .nil pass0 (pa_cons (pv 2) pa_nil))) pa_nil))))))), ?_⟩
    refine ⟨_, rfl, x, .ty "str", _, _, _, rfl, .ty "str", da.kn.ty, kit_ty (kit_str d), _, rfl, ?_⟩
    cases da with
    | str z hz =>
      refine iteF ⟨_, rfl, ⟨_, rfl⟩, z, ".", rfl, rfl, by decide +kernel, Nat.le_trans (Nat.add_le_add_right hz 2) (by decide), fun p hp => ?_⟩
      have s1 : Same H (upd H p (.lst ((Txt.split z ".").map V.str))) := same_new hp
      refine ⟨_, rfl, p, _, rfl, .inl (SqL.of upd_same), _, _, rfl, rfl, _, rfl, ?_⟩
      have nd : nodeD (.str z) = (decide ((Txt.split z ".").length ≤ 2) && (Txt.split z ".").all nameS) := rfl
      by_cases e : (Txt.split z ".").length ≤ 2
      · refine iteB (decide_eq_true (by rw [List.length_map]; omega)) ?_
        rw [nd, decide_eq_true e, Bool.true_and] at q
        refine ⟨_, rfl, p, rfl, ⟨_, SqL.of upd_same⟩, fun D hD => lc_list (K := K) (a := p) (xs := (Txt.split z ".").map V.str) (fun i H' => Same (upd H p (.lst ((Txt.split z ".").map V.str))) H' ∧ H' D = some (.lst ((((Txt.split z ".").take i).map nameS).map V.bl))) ⟨same_new hD, upd_same⟩
          (fun i H' _ pv => SqL.of (pv.1 _ _ upd_same)) (fun i y H' hy pv => ?_) fun H' pv => ?_⟩
        · rw [List.getElem?_map] at hy
          cases hj : (Txt.split z ".")[i]? with
          | none => rw [hj] at hy; cases hy
          | some b =>
            rw [hj] at hy
            cases hy
            have hi := (List.getElem?_eq_some_iff.mp hj).1
            have sh := split_short (List.mem_of_getElem? hj)
            refine ⟨rfl, _, rfl, .str b, .str b, rfl, .str b (Nat.le_trans sh hz), fun H'' s'' => ⟨_, s'' _ _ pv.2, ?_, fun c o h => ?_, ?_⟩⟩
            · rw [List.length_map, List.length_map, List.length_take]
              exact small1000 (by omega)
            · rw [upd_ne (ne_of_none h hD)]; exact s'' _ _ (pv.1 _ _ h)
            · rw [upd_same, List.take_add_one, hj, List.map_append, List.map_append]
              rfl
        · rw [List.length_map, List.take_length] at pv
          refine ⟨D, _, rfl, SqL.of pv.2, ?_⟩
          have e2 : (Txt.split z ".").all nameS = ((Txt.split z ".").map nameS).all id := by rw [List.all_map]; rfl
          rw [e2] at q
          exact q _ (s1.trans pv.1)
      · refine iteN (decide_eq_false (by rw [List.length_map]; omega)) ?_
        rw [nd, decide_eq_false e, Bool.false_and] at q
        exact q _ s1
    | _ => exact iteT (q _ (Same.refl _))
end
end P4
end Bf

namespace Bf
open PySem PySem.Spec PyProof.Rows L2
/-- a table of tuples that are written in the program -/
inductive FTab (K : PySem.W.Frag) : List (Str × List V) → List (Str × V) → Prop
  | nil : FTab K [] []
  | cons {k : Str} {xs : List V} {a : Addr} {t : List (Str × List V)} {tb : List (Str × V)} (h : ∀ H, SqT K H a xs) (r : FTab K t tb) : FTab K ((k, xs) :: t) ((k, .ref a) :: tb)
theorem FTab.none {K : PySem.W.Frag} {z : Str} : ∀ {t : List (Str × List V)} {tb : List (Str × V)}, FTab K t tb → lk z t = none → lk z tb = none
  | _, _, .nil, _ => rfl
  | _, _, .cons (k := k) h r, e => by
    unfold lk at e ⊢
    by_cases c : (k == z) = true
    · rw [if_pos c] at e; cases e
    · rw [if_neg c] at e ⊢
      exact FTab.none r e
theorem FTab.some {K : PySem.W.Frag} {z : Str} {xs : List V} : ∀ {t : List (Str × List V)} {tb : List (Str × V)}, FTab K t tb → lk z t = some xs → ∃ a, lk z tb = some (.ref a) ∧ ∀ H, SqT K H a xs
  | _, _, .nil, e => by cases e
  | _, _, .cons (k := k) (a := a) h r, e => by
    unfold lk at e ⊢
    by_cases c : (k == z) = true
    · rw [if_pos c] at e ⊢
      cases e
      exact ⟨a, rfl, h⟩
    · rw [if_neg c] at e ⊢
      exact FTab.some r e
namespace P4
def FM : List (Str × List Str) := [("lit", ["kind", "worth"]), ("name", ["name"]), ("last", ["name"]), ("first", ["term", "term"]), ("not", ["term"]), ("and", ["term", "term"]), ("or", ["term", "term"]), ("xor", ["term", "term"]), ("add", ["term", "term"]), ("sub", ["term", "term"]),
  ("less", ["term", "term"]), ("same", ["term", "term"]), ("wide", ["width", "term"]), ("bit", ["bit", "term"]), ("pick", ["term", "term", "term"]), ("when", ["term", "name", "truth"]), ("merge", ["name", "term", "term"]), ("row", ["parts"]), ("at", ["place", "term"]), ("call", ["node", "args", "every"]),
  ("map", ["node", "rows", "every"]), ("fold", ["node", "term", "rows", "every"]), ("pairs", ["node", "term", "every"])]
def ST : List (Str × (Int × Int)) := [("parts", 2, 4), ("args", 0, 6), ("rows", 1, 4)]
def CL : List Str := ["call", "map", "fold", "pairs"]
def FMv : List (Str × List V) := FM.map fun p => (p.1, p.2.map V.str)
def STv : List (Str × List V) := ST.map fun p => (p.1, [.int p.2.1, .int p.2.2])
theorem lk_map {α β : Type} (f : α → β) (z : Str) : ∀ l : List (Str × α), lk z (l.map fun p => (p.1, f p.2)) = (lk z l).map f
  | [] => rfl
  | (k, v) :: r => by
    show lk z ((k, f v) :: r.map fun p => (p.1, f p.2)) = _
    unfold lk
    split
    · rfl
    · exact lk_map f z r
/-- the tables of the program -/
structure Tbs (K : PySem.W.Frag) (w : World) (mg : Str → Option Value) (aF aS aC : Addr) : Prop where
  gF : mg "FORMS" = some (.ref aF)
  gS : mg "SLOTS_OF_TERMS" = some (.ref aS)
  gC : mg "CALLS" = some (.ref aC)
  tF : ∃ tb, Dct K w aF tb ∧ FTab K FMv tb
  tS : ∃ tb, Dct K w aS tb ∧ FTab K STv tb
  sC : ∀ H, SqT K H aC (CL.map V.str)
section
variable {P : Program} {w : World} {K : PySem.W.Frag} {mg : Str → Option Value} {base : Heap} {aF aS aC : Addr}
/-! ### _fits -/
def rangeD (lo hi : Int) : PyData → Bool
  | .tuple ds => decide (lo ≤ (ds.length : Int)) && decide ((ds.length : Int) ≤ hi)
  | _ => false
def fitsD (slot : Str) (d : PyData) : Bool :=
  match lk slot ST with
  | some (lo, hi) => rangeD lo hi d
  | none =>
    if decide (V.str slot = V.str "kind") = true then kindD d else if decide (V.str slot = V.str "name") = true then nameD d else if decide (V.str slot = V.str "node") = true then nodeD d else
    if decide (V.str slot = V.str "every") = true then (match d with | .none => true | d => nameD d) else if decide (V.str slot = V.str "width") = true then wholeD d 1 8 else
    if decide (V.str slot = V.str "truth") = true then wholeD d 0 1 else if decide (V.str slot = V.str "bit") = true then wholeD d 0 7 else if decide (V.str slot = V.str "place") = true then wholeD d 0 3 else true
def spFits : Sp := fun vs H Q _ => ∃ (slot : Str) (x : V) (d : PyData), vs = [.str slot, x] ∧ Da H x d ∧ ∀ H', Same H H' → Q (.bl (fitsD slot d)) H'
theorem scFits : FnScope ["slot", "thing", "fewest", "most"] ["slot", "thing"] (defScope sFits) := ⟨rfl, rfl, rfl, by decide +kernel, rfl, by decide +kernel, by decide +kernel⟩
/-- the small defs that are called -/
structure Sml (P : Program) (w : World) (K : PySem.W.Frag) (mg : Str → Option Value) (base : Heap) (fh fw ft fn fk fd_ : Addr) (dh dw dt dn dk dd : FuncData) : Prop where
  Dh : Df K mg "is_whole" fh dh ["thing", "low", "high"]
  Gh : FnOk P w K mg base CX0 2 fh dh ["thing", "low", "high"] (spWhole K)
  Dw : Df K mg "is_width" fw dw ["thing"]
  Gw : FnOk P w K mg base CX0 3 fw dw ["thing"] (spOne K 1 8)
  Dt : Df K mg "is_truth" ft dt ["thing"]
  Gt : FnOk P w K mg base CX0 3 ft dt ["thing"] (spOne K 0 1)
  Dn : Df K mg "is_name" fn dn ["thing"]
  Gn : FnOk P w K mg base CX0 2 fn dn ["thing"] spName
  Dk : Df K mg "is_kind" fk dk ["thing"]
  Gk : FnOk P w K mg base CX0 4 fk dk ["thing"] spKind
  Dd : Df K mg "is_node_name" fd_ dd ["thing"]
  Gd : FnOk P w K mg base CX0 3 fd_ dd ["thing"] spNode
  mi : mg "isinstance" = none
  mt : mg "tuple" = none
  ms : mg "str" = none
  ml : mg "len" = none
  ma : mg "all" = none
  mz : mg "zip" = none
  mL : mg "list" = none
theorem ok_fits {f fh fw ft fn fk fd_ : Addr} {fd dh dw dt dn dk dd : FuncData} (F : Fun K "_fits" "_fits" sFits f fd) (T : Tbs K w mg aF aS aC) (S : Sml P w K mg base fh fw ft fn fk fd_ dh dw dt dn dk dd) : FnOk P w K mg base CX0 5 f fd ["slot", "thing"] spFits := by
  obtain ⟨tb, DS, FS⟩ := T.tS
  refine F.ok scFits (fun vs H Q E h => ?_) (fun cdv A outer s H vs Q E hr h => ?_)
  · obtain ⟨slot, x, d, rfl, _⟩ := h
    rfl
  · obtain ⟨slot, x, d, rfl, da, q⟩ := h
    have hr1 := hr.mono (by decide : 2 ≤ 4)
    have hr2 := hr.mono (by decide : 3 ≤ 4)
    refine ⟨_, pss_cons (ps_if (pt_cmpR (op_in_dct DS) (pv 0) (pe_glob (v := .ref aS) (by rfl) T.gS rfl) (by rfl))
        (pss_cons (ps_asg (pe_ix (ix_dct DS) (pe_glob (v := .ref aS) (by rfl) T.gS rfl) (pv 0) (fun _ _ => rfl)) (pg_tup rfl (pgs_cons (pg_name (i := 2) scFits.nd rfl (Or.inl rfl)) (pgs_cons (pg_name (i := 3) scFits.nd rfl (Or.inl rfl)) pgs_nil))))
        (pss_one (ps_ret (pe_and (pe_callB call_isi (by rfl) S.mi (by decide +kernel) (pa_cons (pv 1) (pa_cons (pe_bltn (v := .ty "tuple") (by rfl) S.mt (by decide +kernel) rfl) pa_nil))) (pe_one (pe_chain op_le op_le (pv 2) (pe_callB call_len_seq (by rfl) S.ml PySem.boot_len (pa_cons (pv 1) pa_nil)) (pv 3))))))) pss_nil)
      (pss_cons (ps_if (pt_cmpR op_eq (pv 0) pe_str (nomark _)) (pss_one (ps_ret (pe_call S.Gk hr (by rfl) S.Dk.at_ S.Dk.kp S.Dk.bd .nil pass0 (pa_cons (pv 1) pa_nil)))) pss_nil)
      (pss_cons (ps_if (pt_cmpR op_eq (pv 0) pe_str (nomark _)) (pss_one (ps_ret (pe_call S.Gn hr1 (by rfl) S.Dn.at_ S.Dn.kp S.Dn.bd .nil pass0 (pa_cons (pv 1) pa_nil)))) pss_nil)
      (pss_cons (ps_if (pt_cmpR op_eq (pv 0) pe_str (nomark _)) (pss_one (ps_ret (pe_call S.Gd hr2 (by rfl) S.Dd.at_ S.Dd.kp S.Dd.bd .nil pass0 (pa_cons (pv 1) pa_nil)))) pss_nil)
      (pss_cons (ps_if (pt_cmpR op_eq (pv 0) pe_str (nomark _)) (pss_one (ps_ret (pe_or (pe_cmpR op_isN (pv 1) pe_non (nomark _)) (pe_one (pe_call S.Gn hr1 (by rfl) S.Dn.at_ S.Dn.kp S.Dn.bd .nil pass0 (pa_cons (pv 1) pa_nil)))))) pss_nil)
      (pss_cons (ps_if (pt_cmpR op_eq (pv 0) pe_str (nomark _)) (pss_one (ps_ret (pe_call S.Gw hr2 (by rfl) S.Dw.at_ S.Dw.kp S.Dw.bd .nil pass0 (pa_cons (pv 1) pa_nil)))) pss_nil)
      (pss_cons (ps_if (pt_cmpR op_eq (pv 0) pe_str (nomark _)) (pss_one (ps_ret (pe_call S.Gt hr2 (by rfl) S.Dt.at_ S.Dt.kp S.Dt.bd .nil pass0 (pa_cons (pv 1) pa_nil)))) pss_nil)
      (pss_cons (ps_if (pt_cmpR op_eq (pv 0) pe_str (nomark _)) (pss_one (ps_ret (pe_call S.Gh hr1 (by rfl) S.Dh.at_ S.Dh.kp S.Dh.bd .nil pass0 (pa_cons (pv 1) (pa_cons pe_int (pa_cons pe_int pa_nil)))))) pss_nil)
      (pss_cons (ps_if (pt_cmpR op_eq (pv 0) pe_str (nomark _)) (pss_one (ps_ret (pe_call S.Gh hr1 (by rfl) S.Dh.at_ S.Dh.kp S.Dh.bd .nil pass0 (pa_cons (pv 1) (pa_cons pe_int (pa_cons pe_int pa_nil)))))) pss_nil)
      (pss_one (ps_ret pe_bl)))))))))), ?_⟩
    have q0 := q H (Same.refl H)
    unfold fitsD at q q0
    have eS : lk slot STv = (lk slot ST).map fun p => [.int p.1, .int p.2] := lk_map (fun p : Int × Int => [V.int p.1, V.int p.2]) slot ST
    cases e : lk slot ST with
    | some p =>
      obtain ⟨lo, hi⟩ := p
      rw [e] at eS q q0
      obtain ⟨a, la, sa⟩ := FS.some eS
      refine ⟨_, rfl, slot, rfl, rfl, _, rfl, iteB (by rw [la]; rfl) ?_⟩
      refine ⟨_, rfl, slot, .ref a, rfl, rfl, la, a, _, rfl, sa _, rfl, _, _, rfl, _, _, rfl, rfl, ?_⟩
      refine ⟨_, rfl, x, .ty "tuple", _, _, _, rfl, .ty "tuple", da.kn.ty, kit_ty (kit_tup d), _, rfl, ?_⟩
      cases da with
      | @tup b xs ds h l r =>
        refine iteT ?_
        have q1 : Q (.bl (decide (lo ≤ (ds.length : Int)) && decide ((ds.length : Int) ≤ hi))) H := q0
        rw [← r.len] at q1
        refine ⟨_, rfl, _, rfl, b, xs, rfl, .inr (SqT.of h), _, _, rfl, rfl, _, rfl, ite2 (fun h1 => ⟨_, rfl, _, _, rfl, rfl, ?_⟩) (fun h1 => ?_)⟩
        · rw [h1, Bool.true_and] at q1
          exact q1
        · rw [Bool.eq_false_iff.mpr h1, Bool.false_and] at q1
          exact q1
      | _ => exact iteF q0
    | none =>
      rw [e] at eS q q0
      refine ⟨_, rfl, slot, rfl, rfl, _, rfl, iteN (by rw [FS.none eS]; rfl) ?_⟩
      dsimp only at q q0
      refine ⟨_, rfl, rfl, _, rfl, ite2 (fun h => ?_) (fun h => ?_)⟩
      · rw [if_pos h] at q0
        exact ⟨_, rfl, x, d, rfl, da, q0⟩
      rw [if_neg h] at q q0
      refine ⟨_, rfl, rfl, _, rfl, ite2 (fun h => ?_) (fun h => ?_)⟩
      · rw [if_pos h] at q
        exact ⟨_, rfl, x, d, rfl, da, q⟩
      rw [if_neg h] at q q0
      refine ⟨_, rfl, rfl, _, rfl, ite2 (fun h => ?_) (fun h => ?_)⟩
      · rw [if_pos h] at q
        exact ⟨_, rfl, x, d, rfl, da, q⟩
      rw [if_neg h] at q q0
      refine ⟨_, rfl, rfl, _, rfl, ite2 (fun h => ?_) (fun h => ?_)⟩
      · rw [if_pos h] at q q0
        refine ⟨_, rfl, rfl, _, rfl, ?_⟩
        cases da with
        | non => exact iteT q0
        | bl c => exact iteF ⟨_, rfl, _, _, rfl, .bl c, q⟩
        | int i => exact iteF ⟨_, rfl, _, _, rfl, .int i, q⟩
        | str z hz => exact iteF ⟨_, rfl, _, _, rfl, .str z hz, q⟩
        | lst h l r => exact iteF ⟨_, rfl, _, _, rfl, .lst h l r, q⟩
        | tup h l r => exact iteF ⟨_, rfl, _, _, rfl, .tup h l r, q⟩
        | emp h => exact iteF ⟨_, rfl, _, _, rfl, .emp h, q⟩
      rw [if_neg h] at q q0
      refine ⟨_, rfl, rfl, _, rfl, ite2 (fun h => ?_) (fun h => ?_)⟩
      · rw [if_pos h, ← da.whole] at q0
        exact ⟨_, rfl, x, _, rfl, da.kn, q0⟩
      rw [if_neg h] at q q0
      refine ⟨_, rfl, rfl, _, rfl, ite2 (fun h => ?_) (fun h => ?_)⟩
      · rw [if_pos h, ← da.whole] at q0
        exact ⟨_, rfl, x, _, rfl, da.kn, q0⟩
      rw [if_neg h] at q q0
      refine ⟨_, rfl, rfl, _, rfl, ite2 (fun h => ?_) (fun h => ?_)⟩
      · rw [if_pos h, ← da.whole] at q0
        exact ⟨_, rfl, x, _, 0, 7, rfl, da.kn, q0⟩
      rw [if_neg h] at q q0
      refine ⟨_, rfl, rfl, _, rfl, ite2 (fun h => ?_) (fun h => ?_)⟩
      · rw [if_pos h, ← da.whole] at q0
        exact ⟨_, rfl, x, _, 0, 3, rfl, da.kn, q0⟩
      rw [if_neg h] at q0
      exact q0
end
end P4
end Bf

namespace Bf
open PySem PySem.Spec PyProof.Rows L2
theorem cut_from {xs : List V} {k : Nat} : cutV xs (some (k : Int)) none = xs.drop k := by
  unfold cutV
  rw [HT.sIx_none, HT.sIx_nat]
  by_cases h : k ≤ xs.length
  · rw [Nat.min_eq_left h]
    have e : xs.length - k = (xs.drop k).length := by rw [List.length_drop]
    rw [e, List.take_length]
  · rw [Nat.min_eq_right (by omega), Nat.sub_self, List.take_zero, List.drop_eq_nil_of_le (by omega)]
theorem not_whole {xs : List V} {k : Nat} (hk : 0 < k) (h : 0 < xs.length) : ¬ (HT.sIx xs.length 0 (some (k : Int)) = 0 ∧ HT.sIx xs.length xs.length none = xs.length) := by
  rw [HT.sIx_nat]
  omega
theorem zw_get {α β γ : Type} (f : α → β → γ) : ∀ {as : List α} {bs : List β} {i : Nat} {a : α} {b : β}, as[i]? = some a → bs[i]? = some b → (List.zipWith f as bs)[i]? = some (f a b) := by
  intro as bs i a b h1 h2
  rw [List.getElem?_zipWith, h1, h2]
namespace P4
def litD : List PyData → Bool
  | k :: x :: _ => worthD x k
  | _ => false
def formedD : PyData → Bool
  | .tuple (.str w :: rest) => match lk w FM with
    | some ss => decide (rest.length = ss.length) && (List.zipWith fitsD ss rest).all id && (!decide (V.str w = V.str "lit") || litD rest)
    | none => false
  | _ => false
def callS (c : Str) : Bool := inV (.str c) (CL.map V.str)
def oneD (slot : Str) (d : PyData) : List PyData := if decide (V.str slot = V.str "term") = true then [d] else match lk slot ST with
  | some _ => match d with
    | .tuple ds => ds
    | _ => []
  | none => []
def withinD : PyData → List PyData
  | .tuple (.str w :: rest) => match lk w FM with
    | some ss => (List.zipWith oneD ss rest).flatten
    | none => []
  | _ => []
/-- what is formed, taken apart -/
theorem formed_inv {d : PyData} (h : formedD d = true) : ∃ c rest ss, d = .tuple (.str c :: rest) ∧ lk c FM = some ss ∧ rest.length = ss.length ∧ (List.zipWith fitsD ss rest).all id = true ∧ (!decide (V.str c = V.str "lit") || litD rest) = true := by
  unfold formedD at h
  split at h
  · rename_i c rest
    cases e : lk c FM with
    | none => rw [e] at h; cases h
    | some ss =>
      rw [e] at h
      obtain ⟨h1, h3⟩ := Bool.and_eq_true_iff.mp h
      obtain ⟨h1, h2⟩ := Bool.and_eq_true_iff.mp h1
      exact ⟨c, rest, ss, rfl, e, of_decide_eq_true h1, h2, h3⟩
  · cases h
theorem formed_eq {c : Str} {rest : List PyData} {ss : List Str} (e : lk c FM = some ss) : formedD (.tuple (.str c :: rest)) = (decide (rest.length = ss.length) && (List.zipWith fitsD ss rest).all id && (!decide (V.str c = V.str "lit") || litD rest)) := by
  show (match lk c FM with | some ss => _ | none => false) = _
  rw [e]
theorem within_eq {c : Str} {rest : List PyData} {ss : List Str} (e : lk c FM = some ss) : withinD (.tuple (.str c :: rest)) = (List.zipWith oneD ss rest).flatten := by
  show (match lk c FM with | some ss => (List.zipWith oneD ss rest).flatten | none => []) = _
  rw [e]
theorem fm_len {c : Str} {ss : List Str} (e : lk c FM = some ss) : 1 ≤ ss.length ∧ ss.length ≤ 4 := by
  have all : ∀ p ∈ FM, 1 ≤ p.2.length ∧ p.2.length ≤ 4 := by decide +kernel
  have key : ∀ (l : List (Str × List Str)), lk c l = some ss → ∃ p ∈ l, p.2 = ss := by
    intro l
    induction l with
    | nil => intro h; cases h
    | cons p r ih =>
      obtain ⟨k, v⟩ := p
      intro h
      unfold lk at h
      split at h
      · cases h; exact ⟨_, List.mem_cons_self, rfl⟩
      · obtain ⟨p, m, e⟩ := ih h
        exact ⟨p, List.mem_cons_of_mem _ m, e⟩
  obtain ⟨p, m, rfl⟩ := key FM e
  exact all p m
section
variable {P : Program} {w : World} {K : PySem.W.Frag} {mg : Str → Option Value} {base : Heap} {aF aS aC : Addr}
def spFormed : Sp := fun vs H Q _ => ∃ (x : V) (d : PyData), vs = [x] ∧ Da H x d ∧ ∀ H', Same H H' → Q (.bl (formedD d)) H'
theorem scFormed : FnScope ["thing", "word", "slots", "slot", "held"] ["thing"] (defScope sFormed) := ⟨rfl, rfl, rfl, by decide +kernel, rfl, by decide +kernel, by decide +kernel⟩
theorem ok_formed {f fh fw ft fn fk fd_ ff fo : Addr} {fd dh dw dt dn dk dd df do_ : FuncData} (F : Fun K "_is_formed" "_is_formed" sFormed f fd) (T : Tbs K w mg aF aS aC) (S : Sml P w K mg base fh fw ft fn fk fd_ dh dw dt dn dk dd)
    (Df_ : Df K mg "_fits" ff df ["slot", "thing"]) (Gf : FnOk P w K mg base CX0 5 ff df ["slot", "thing"] spFits) (Do : Df K mg "is_worth" fo do_ ["thing", "kind"]) (Go : FnOk P w K mg base CX0 5 fo do_ ["thing", "kind"] spIsWorth) : FnOk P w K mg base CX0 6 f fd ["thing"] spFormed := by
  obtain ⟨tb, DF, FF⟩ := T.tF
  refine F.ok scFormed (fun vs H Q E h => ?_) (fun cdv A outer s H vs Q E hr h => ?_)
  · obtain ⟨x, d, rfl, _⟩ := h
    rfl
  · obtain ⟨x, d, rfl, da, q⟩ := h
    refine ⟨_, pss_cons (ps_if (PW.pt (pw_or (pt_not (pt_val (pe_callB call_isi (by rfl) S.mi (by decide +kernel) (pa_cons (pv 0) (pa_cons (pe_bltn (v := .ty "tuple") (by rfl) S.mt (by decide +kernel) rfl) pa_nil)))))
          (pw_or1 (pt_cmpR op_eq (pe_callB call_len_seq (by rfl) S.ml PySem.boot_len (pa_cons (pv 0) pa_nil)) pe_int (nomark _))))) (pss_one (ps_ret pe_bl)) pss_nil)
      (pss_cons (ps_set (i := 1) scFormed.nd rfl (Or.inl rfl) (pe_ix ix_tup (pv 0) pe_int (fun _ _ => rfl)))
      (pss_cons (ps_if (PW.pt (pw_or (pt_not (pt_val (pe_callB call_isi (by rfl) S.mi (by decide +kernel) (pa_cons (pv 1) (pa_cons (pe_bltn (v := .ty "str") (by rfl) S.ms (by decide +kernel) rfl) pa_nil)))))
          (pw_or1 (pt_cmpR (op_notIn_dct DF) (pv 1) (pe_glob (v := .ref aF) (by rfl) T.gF rfl) (by rfl))))) (pss_one (ps_ret pe_bl)) pss_nil)
      (pss_cons (ps_set (i := 2) scFormed.nd rfl (Or.inl rfl) (pe_ix (ix_dct DF) (pe_glob (v := .ref aF) (by rfl) T.gF rfl) (pv 1) (fun _ _ => rfl)))
      (pss_cons (ps_if (pt_cmpR op_ne (pe_callB call_len_seq (by rfl) S.ml PySem.boot_len (pa_cons (pv 0) pa_nil)) (pe_op op_add (pe_callB call_len_seq (by rfl) S.ml PySem.boot_len (pa_cons (pv 2) pa_nil)) pe_int) (nomark _)) (pss_one (ps_ret pe_bl)) pss_nil)
      (pss_cons (ps_if (pt_not (pt_val (pe_callB (cr_all rfl) (by rfl) S.ma (by decide +kernel) (pa_cons (pe_lc (own := [("slot", 3), ("held", 4)]) (g := gTup K 2 (gCons (gName 3) (gCons (gName 4) gNil))) (tt := tYes) rfl scFormed.nd (RZ.pi_zipA (by rfl) S.mz (pa_cons (pv 2) (pa_cons (pe_slice sl_tupA (pv 0) (po_some pe_int) po_none) pa_nil)))
          (blkOk_by (N := ["thing", "word", "slots", "slot", "held"]) (sc := defScope sFormed) (by decide +kernel)) (fun _ _ _ _ _ => pg_tup rfl (pgs_cons (pg_name (i := 3) scFormed.nd rfl (Or.inl rfl)) (pgs_cons (pg_name (i := 4) scFormed.nd rfl (Or.inl rfl)) pgs_nil))) (fun _ _ _ _ _ => pts_nil)
          (fun _ _ _ _ _ => pe_call Gf hr (by rfl) Df_.at_ Df_.kp Df_.bd .nil pass0 (pa_cons (pv 3) (pa_cons (pv 4) pa_nil)))) pa_nil)))) (pss_one (ps_ret pe_bl)) pss_nil)
      (pss_one (ps_ret (pe_or (pe_cmpR op_ne (pv 1) pe_str (nomark _)) (pe_one (pe_call Go hr (by rfl) Do.at_ Do.kp Do.bd .nil pass0 (pa_cons (pe_ix ix_tup (pv 0) pe_int (fun _ _ => rfl)) (pa_cons (pe_ix ix_tup (pv 0) pe_int (fun _ _ => rfl)) pa_nil)))))))))))), ?_⟩
    refine ⟨_, rfl, x, .ty "tuple", _, _, _, rfl, .ty "tuple", da.kn.ty, kit_ty (kit_tup d), _, rfl, ?_⟩
    have q0 := q H (Same.refl H)
    cases da with
    | @tup a xs ds h l r =>
      refine iteF ⟨_, rfl, a, xs, rfl, .inr (SqT.of h), rfl, _, rfl, ?_⟩
      cases r with
      | nil => exact iteB (by rfl) q0
      | @cons v vs d1 rest hv rv =>
        have nz : ¬ V.int (((v :: vs).length : Nat) : Int) = V.int 0 := fun z => by have := V.int.inj z; rw [List.length_cons] at this; omega
        refine iteN (decide_eq_false nz) ?_
        refine ⟨_, rfl, a, _, ((0 : Nat) : Int), v, rfl, rfl, SqT.of h, atI_nat rfl, ?_⟩
        refine ⟨_, rfl, v, .ty "str", _, _, _, rfl, .ty "str", hv.kn.ty, kit_ty (kit_str d1), _, rfl, ?_⟩
        cases hv with
        | str c hc =>
          refine iteF ⟨_, rfl, c, rfl, rfl, _, rfl, ?_⟩
          have eF : lk c FMv = (lk c FM).map fun p => p.map V.str := lk_map (fun p : List Str => p.map V.str) c FM
          cases e : lk c FM with
          | none =>
            rw [e] at eF
            refine iteB (by rw [FF.none eF]; rfl) ?_
            have e0 : formedD (.tuple (.str c :: rest)) = false := by
              show (match lk c FM with | some ss => _ | none => false) = _
              rw [e]
            rw [e0] at q0
            exact q0
          | some ss =>
            rw [e] at eF
            obtain ⟨b, lb, sb⟩ := FF.some eF
            rw [formed_eq e] at q q0
            refine iteN (by rw [lb]; rfl) ?_
            refine ⟨_, rfl, c, .ref b, rfl, rfl, lb, ?_⟩
            refine ⟨_, rfl, a, _, rfl, .inr (SqT.of h), _, rfl, b, _, rfl, .inr (sb _), _, _, rfl, rfl, rfl, _, rfl, ?_⟩
            have lv := rv.len
            by_cases hl : rest.length = ss.length
            · rw [decide_eq_true hl, Bool.true_and] at q q0
              refine iteN (by rw [decide_eq_true (show V.int (((V.str c :: vs).length : Nat) : Int) = V.int (((ss.map V.str).length : Nat) + 1) by rw [List.length_cons, List.length_map, lv, hl]; rfl)]; rfl) ?_
              refine ⟨_, rfl, _, rfl, 1, rfl, a, _, rfl, SqT.of h, (fun z => absurd z (not_whole (k := 1) (by decide) (by simp))), fun _ t ht => ?_⟩
              have ec : cutV (V.str c :: vs) (some (1 : Int)) none = vs := cut_from (k := 1)
              rw [ec]
              have s1 : Same H (upd H t (.tup vs)) := same_new ht
              have rv1 := rv.same s1
              refine ⟨b, t, ss.map V.str, vs, rfl, .inr ⟨sb _, SqT.of upd_same, fun D hD => ?_⟩⟩
              refine lc_itzT (K := K) (a := b) (b := t) (xs := ss.map V.str) (ys := vs) (by rw [List.length_map, lv, hl]) (fun i H' => Same (upd H t (.tup vs)) H' ∧ H' D = some (.lst (((List.zipWith fitsD ss rest).take i).map V.bl))) ⟨same_new hD, upd_same⟩
                (fun i H' _ pv => ⟨sb _, SqT.of (pv.1 _ _ upd_same)⟩) (fun i x y H' T' hx hy pv hT => ?_) fun H' pv => ?_
              · rw [List.getElem?_map] at hx
                cases hj : ss[i]? with
                | none => rw [hj] at hx; cases hx
                | some sl =>
                  rw [hj] at hx
                  cases hx
                  obtain ⟨dy, hdy, day⟩ := (rv1.same pv.1).get hy
                  have nTD : T' ≠ D := fun e => by rw [e, pv.2] at hT; cases hT
                  have sT : Same H' (upd H' T' (.tup [.str sl, y])) := same_new hT
                  refine ⟨T', _, rfl, SqT.of upd_same, rfl, _, _, rfl, _, _, rfl, rfl, rfl, _, rfl, _, rfl, sl, y, dy, rfl, day.same sT, fun H'' s'' => ⟨_, s'' _ _ ((upd_ne nTD.symm).trans pv.2), ?_, fun c o e => ?_, ?_⟩⟩
                  · rw [List.length_map, List.length_take]
                    have := (fm_len e).2
                    have := (List.getElem?_eq_some_iff.mp hj).1
                    exact small1000 (by omega)
                  · rw [upd_ne (ne_of_none e hD)]
                    exact s'' _ _ (sT _ _ (pv.1 _ _ e))
                  · rw [upd_same, List.take_add_one, zw_get fitsD hj hdy, List.map_append]
                    rfl
              · have lz : (List.zipWith fitsD ss rest).length = ss.length := by rw [List.length_zipWith, hl, Nat.min_self]
                rw [List.length_map, ← lz, List.take_length] at pv
                have s2 : Same H H' := s1.trans pv.1
                refine ⟨D, _, rfl, SqL.of pv.2, _, rfl, ?_⟩
                by_cases hf : (List.zipWith fitsD ss rest).all id = true
                · rw [hf, Bool.true_and] at q q0
                  rw [hf]
                  refine iteF ⟨_, rfl, rfl, _, rfl, ite2 (fun h1 => ?_) (fun h1 => ?_)⟩
                  · rw [show (!decide (V.str c = V.str "lit")) = true from h1, Bool.true_or] at q
                    exact q _ s2
                  · have h1' : (!decide (V.str c = V.str "lit")) = false := Bool.eq_false_iff.mpr h1
                    rw [h1', Bool.false_or] at q
                    have cl : c = "lit" := by
                      have := of_decide_eq_true (show decide (V.str c = V.str "lit") = true by simpa using h1')
                      exact V.str.inj this
                    subst cl
                    have ess : ss = (["kind", "worth"] : List Str) := by
                      have e2 : lk "lit" FM = some (["kind", "worth"] : List Str) := by decide +kernel
                      rw [e2] at e
                      exact (Option.some.inj e).symm
                    subst ess
                    match rest, hl, rv, hf with
                    | [dk, dx], _, .cons (v := vk) hk (.cons (v := vx) hx .nil), hf =>
                      have fk : kindD dk = true := by
                        have := (List.all_eq_true.mp hf) (fitsD "kind" dk) List.mem_cons_self
                        have e3 : fitsD "kind" dk = kindD dk := rfl
                        rw [e3] at this
                        exact this
                      exact ⟨_, rfl, a, _, 2, _, rfl, rfl, SqT.of (s2 _ _ h), rfl, _, rfl, a, _, 1, _, rfl, rfl, SqT.of (s2 _ _ h), rfl, vx, vk, dx, dk, rfl, hx.same s2, hk.same s2, fk, fun H'' s'' => q _ (s2.trans s'')⟩
                · have hf' := Bool.eq_false_iff.mpr hf
                  rw [hf', Bool.false_and] at q
                  rw [hf']
                  exact iteT (q _ s2)
            · rw [decide_eq_false hl, Bool.false_and, Bool.false_and] at q0
              refine iteB (by rw [decide_eq_false (fun z => hl (by have := V.int.inj z; rw [List.length_cons, List.length_map] at this; omega))]; rfl) q0
        | _ => exact iteT q0
    | _ => exact iteT q0
end
end P4
end Bf

namespace Bf
open PySem PySem.Spec PyProof.Rows L2
namespace P4
mutual
def sz : PyData → Nat
  | .list ds => 1 + szA ds
  | .tuple ds => 1 + szA ds
  | .none => 1
  | .bool _ => 1
  | .int _ => 1
  | .str _ => 1
  | .dict _ => 1
def szA : List PyData → Nat
  | [] => 0
  | d :: r => sz d + szA r
end
theorem sz_tup (ds : List PyData) : sz (.tuple ds) = 1 + szA ds := by simp only [sz]
theorem sz_str (c : Str) : sz (.str c) = 1 := by simp only [sz]
theorem szA_nil : szA [] = 0 := by simp only [szA]
theorem szA_cons (d : PyData) (r : List PyData) : szA (d :: r) = sz d + szA r := by simp only [szA]
theorem sz_pos (d : PyData) : 1 ≤ sz d := by
  cases d <;> simp only [sz] <;> omega
theorem szA_app : ∀ a b : List PyData, szA (a ++ b) = szA a + szA b
  | [], b => by rw [List.nil_append, szA_nil, Nat.zero_add]
  | d :: r, b => by rw [List.cons_append, szA_cons, szA_cons, szA_app r b, Nat.add_assoc]
theorem szA_mem {e : PyData} : ∀ {l : List PyData}, e ∈ l → sz e ≤ szA l
  | d :: r, m => by
    rw [szA_cons]
    rcases List.mem_cons.mp m with rfl | m
    · omega
    · have := szA_mem m; omega
theorem szA_len : ∀ l : List PyData, l.length ≤ szA l
  | [] => by rw [szA_nil]; exact Nat.le_refl _
  | d :: r => by
    rw [szA_cons, List.length_cons]
    have := szA_len r
    have := sz_pos d
    omega
theorem szA_rev : ∀ l : List PyData, szA l.reverse = szA l
  | [] => rfl
  | d :: r => by rw [List.reverse_cons, szA_app, szA_cons, szA_cons, szA_nil, szA_rev r]; omega
theorem one_sz (s : Str) (d : PyData) : szA (oneD s d) ≤ sz d := by
  unfold oneD
  split
  · rw [szA_cons, szA_nil]; omega
  · split
    · split
      · rw [sz_tup]; omega
      · rw [szA_nil]; omega
    · rw [szA_nil]; omega
theorem ones_sz : ∀ (ss : List Str) (ds : List PyData), szA (List.zipWith oneD ss ds).flatten ≤ szA ds
  | [], ds => by rw [List.zipWith_nil_left, List.flatten_nil, szA_nil]; omega
  | _ :: _, [] => by rw [List.zipWith_nil_right, List.flatten_nil, szA_nil]; omega
  | s :: ss, d :: ds => by
    rw [List.zipWith_cons_cons, List.flatten_cons, szA_app, szA_cons]
    have := one_sz s d
    have := ones_sz ss ds
    omega
theorem within_sz (d : PyData) : szA (withinD d) < sz d := by
  unfold withinD
  split
  · rename_i c rest
    have h2 : sz (.tuple (.str c :: rest)) = 1 + (1 + szA rest) := by rw [sz_tup, szA_cons, sz_str]
    rw [h2]
    split
    · rename_i ss _
      have := ones_sz ss rest
      omega
    · rw [szA_nil]; omega
  · rw [szA_nil]; have := sz_pos d; omega
/-! ### terms -/
def callX : PyData → Bool
  | .tuple (.str c :: _) => callS c
  | _ => false
def termF : Nat → PyData → Bool
  | 0, _ => false
  | n + 1, d => (formedD d && !callX d) && (withinD d).all (termF n)
def termD (d : PyData) : Bool := termF (sz d) d
theorem all_congr' {α : Type} {f g : α → Bool} : ∀ {l : List α}, (∀ x ∈ l, f x = g x) → l.all f = l.all g
  | [], _ => rfl
  | a :: r, h => by rw [List.all_cons, List.all_cons, h a List.mem_cons_self, all_congr' fun x m => h x (List.mem_cons_of_mem _ m)]
theorem termF_eq : ∀ (n m : Nat) (d : PyData), sz d ≤ n → sz d ≤ m → termF n d = termF m d
  | 0, _, d, h, _ => absurd h (by have := sz_pos d; omega)
  | _, 0, d, _, h => absurd h (by have := sz_pos d; omega)
  | n + 1, m + 1, d, h1, h2 => by
    unfold termF
    have ws := within_sz d
    rw [all_congr' fun e me => termF_eq n m e (by have := szA_mem me; omega) (by have := szA_mem me; omega)]
theorem termD_eq (d : PyData) : termD d = ((formedD d && !callX d) && (withinD d).all termD) := by
  unfold termD
  obtain ⟨n, e⟩ : ∃ n, sz d = n + 1 := ⟨sz d - 1, by have := sz_pos d; omega⟩
  rw [e]
  show ((formedD d && !callX d) && (withinD d).all (termF n)) = _
  have ws := within_sz d
  rw [all_congr' fun x mx => termF_eq n (sz x) x (by have := szA_mem mx; omega) (Nat.le_refl _)]
def rightD (d : PyData) : Bool := formedD d && (withinD d).all termD
/-! ### parts, each ahead of those within it -/
def partF : Nat → PyData → List PyData
  | 0, _ => []
  | n + 1, d => d :: ((withinD d).map (partF n)).flatten
def partD (d : PyData) : List PyData := partF (sz d) d
theorem map_congr' {α β : Type} {f g : α → β} : ∀ {l : List α}, (∀ x ∈ l, f x = g x) → l.map f = l.map g
  | [], _ => rfl
  | a :: r, h => by rw [List.map_cons, List.map_cons, h a List.mem_cons_self, map_congr' fun x m => h x (List.mem_cons_of_mem _ m)]
theorem partF_eq : ∀ (n m : Nat) (d : PyData), sz d ≤ n → sz d ≤ m → partF n d = partF m d
  | 0, _, d, h, _ => absurd h (by have := sz_pos d; omega)
  | _, 0, d, _, h => absurd h (by have := sz_pos d; omega)
  | n + 1, m + 1, d, h1, h2 => by
    unfold partF
    have ws := within_sz d
    rw [map_congr' fun e me => partF_eq n m e (by have := szA_mem me; omega) (by have := szA_mem me; omega)]
theorem partD_eq (d : PyData) : partD d = d :: ((withinD d).map partD).flatten := by
  unfold partD
  obtain ⟨n, e⟩ : ∃ n, sz d = n + 1 := ⟨sz d - 1, by have := sz_pos d; omega⟩
  rw [e]
  show d :: ((withinD d).map (partF n)).flatten = _
  have ws := within_sz d
  rw [map_congr' fun x mx => partF_eq n (sz x) x (by have := szA_mem mx; omega) (Nat.le_refl _)]
def partsD (d : PyData) : List PyData := if callX d = true then ((withinD d).map partD).flatten else partD d
section
variable {P : Program} {w : World} {K : PySem.W.Frag} {mg : Str → Option Value} {base : Heap} {aF aS aC : Addr}
/-! ### _is_call -/
def spCall : Sp := fun vs H Q _ => ∃ (x : V) (c : Str) (rest : List PyData), vs = [x] ∧ Da H x (.tuple (.str c :: rest)) ∧ Q (.bl (callS c)) H
theorem scCall : FnScope ["right"] ["right"] (defScope sIsCall) := ⟨rfl, rfl, rfl, by decide +kernel, rfl, by decide +kernel, by decide +kernel⟩
theorem ok_call {f : Addr} {fd : FuncData} (F : Fun K "is_call" "is_call" sIsCall f fd) (T : Tbs K w mg aF aS aC) : FnOk P w K mg base CX0 2 f fd ["right"] spCall := by
  refine F.ok scCall (fun vs H Q E h => ?_) (fun cdv A outer s H vs Q E hr h => ?_)
  · obtain ⟨x, c, rest, rfl, _⟩ := h
    rfl
  · obtain ⟨x, c, rest, rfl, da, q⟩ := h
    refine ⟨_, pss_one (ps_ret (pe_cmpR op_in_seq (pe_ix ix_tup (pv 0) pe_int (fun _ _ => rfl)) (pe_glob (v := .ref aC) (by rfl) T.gC rfl) (by rfl))), ?_⟩
    obtain ⟨a, xs, rfl, h, l, r⟩ := da.tup_inv
    cases r with
    | cons h1 r1 =>
      cases h1
      exact ⟨_, rfl, a, _, ((0 : Nat) : Int), _, rfl, rfl, SqT.of h, atI_nat rfl, aC, _, rfl, .inr (T.sC _), rfl, by decide +kernel, q⟩
/-! ### _terms_within -/
def spWithin : Sp := fun vs H Q _ => ∃ (x : V) (d : PyData) (Hs : Hp), vs = [x] ∧ Same Hs H ∧ Da Hs x d ∧ formedD d = true ∧ ∀ p H' xs, Same H H' → H p = none → H' p = some (.lst xs) → DaAll Hs xs (withinD d) → Q (.ref p) H'
abbrev nWithin : List Str := ["right", "terms", "slot", "held"]
theorem scWithin : FnScope nWithin ["right"] (defScope sWithin) := ⟨rfl, rfl, rfl, by decide +kernel, rfl, by decide +kernel, by decide +kernel⟩
theorem range_inv {lo hi : Int} {d : PyData} (h : rangeD lo hi d = true) : ∃ ds, d = .tuple ds := by
  cases d with
  | tuple ds => exact ⟨ds, rfl⟩
  | _ => cases h
theorem ok_within {f : Addr} {fd : FuncData} (F : Fun K "terms_within" "terms_within" sWithin f fd) (T : Tbs K w mg aF aS aC) (mz : mg "zip" = none) : FnOk P w K mg base CX0 2 f fd ["right"] spWithin := by
  obtain ⟨tf, DF, FF⟩ := T.tF
  obtain ⟨ts, DS, FS⟩ := T.tS
  refine F.ok scWithin (fun vs H Q E h => ?_) (fun cdv A outer s H vs Q E hr h => ?_)
  · obtain ⟨x, d, Hs, rfl, _⟩ := h
    rfl
  · obtain ⟨x, d, Hs, rfl, sH, da, fo, q⟩ := h
    refine ⟨_, pss_cons (ps_set (i := 1) scWithin.nd rfl (Or.inl rfl) (pe_lst pa_nil))
      (pss_cons (ps_for PassesOwn.never rfl (RZ.pi_zipA (by rfl) mz (pa_cons (pe_ix (ix_dct DF) (pe_glob (v := .ref aF) (by rfl) T.gF rfl) (pe_ix ix_tup (pv 0) pe_int (fun _ _ => rfl)) (fun _ _ => rfl)) (pa_cons (pe_slice sl_tupA (pv 0) (po_some pe_int) po_none) pa_nil)))
          (pg_tup rfl (pgs_cons (pg_name (i := 2) scWithin.nd rfl (Or.inl rfl)) (pgs_cons (pg_name (i := 3) scWithin.nd rfl (Or.inl rfl)) pgs_nil)))
        (pss_one (ps_if (pt_cmpR op_eq (pv 2) pe_str (nomark _)) (pss_one (ps_expr (pe_bm PySem.F.plainAttrs_list PySem.F.slot_list_append PySem.F.type_list_append mt_append (pv 1) (pa_cons (pv 3) pa_nil))))
          (pss_one (ps_if (pt_cmpR (op_in_dct DS) (pv 2) (pe_glob (v := .ref aS) (by rfl) T.gS rfl) (by rfl)) (pss_one (ps_expr (pe_bm PySem.F.plainAttrs_list PySem.F.slot_list_extend PySem.F.type_list_extend mt_extT (pv 1) (pa_cons (pv 3) pa_nil)))) pss_nil)))))
      (pss_one (ps_ret (pv 1)))), ?_⟩
    obtain ⟨c, rest, ss, rfl, e, hl, hf, _⟩ := formed_inv fo
    obtain ⟨a, xs, rfl, hs, l, r⟩ := da.tup_inv
    rw [within_eq e] at q
    cases r with
    | @cons v vs d1 _ hv rv =>
      cases hv
      have eF : lk c FMv = (lk c FM).map fun p => p.map V.str := lk_map (fun p : List Str => p.map V.str) c FM
      rw [e] at eF
      obtain ⟨b, lb, sb⟩ := FF.some eF
      have lv := rv.len
      have l4 := fm_len e
      refine ⟨by show 0 ≤ sizeLine; decide, fun W hW => ?_⟩
      have sW : Same Hs (upd H W (.lst [])) := sH.trans (same_new hW)
      refine ⟨_, rfl, a, _, ((0 : Nat) : Int), _, rfl, rfl, SqT.of (sW _ _ hs), atI_nat rfl, c, .ref b, rfl, rfl, lb, ?_⟩
      refine ⟨_, rfl, 1, rfl, a, _, rfl, SqT.of (sW _ _ hs), (fun z => absurd z (not_whole (k := 1) (by decide) (by simp))), fun _ t ht => ?_⟩
      have ec : cutV (V.str c :: vs) (some (1 : Int)) none = vs := cut_from (k := 1)
      rw [ec]
      have st : Same (upd H W (.lst [])) (upd (upd H W (.lst [])) t (.tup vs)) := same_new ht
      have hWs : Hs W = none := by
        cases z : Hs W with
        | none => rfl
        | some o => rw [sH _ _ z] at hW; cases hW
      have zl : (ss.map V.str).length = vs.length := by rw [List.length_map, lv, hl]
      refine ⟨b, t, ss.map V.str, vs, rfl, .inr ⟨sb _, SqT.of upd_same, RZ.for_zipT (K := K) (a := b) (b := t) zl
        (fun i σ H' => ∃ u2 u3 xs', σ = [some (.ref a), some (.ref W), u2, u3] ∧ H' W = some (.lst xs') ∧ DaAll Hs xs' ((List.zipWith oneD ss rest).take i).flatten ∧ xs'.length ≤ 1001 * i ∧ Same H H' ∧ H' t = some (.tup vs))
        ⟨_, _, [], rfl, st _ _ upd_same, .nil, Nat.zero_le _, (same_new hW).trans st, upd_same⟩ (fun i σ H' pv => ?_) (fun i x y T' σ H' hx hy pv hT => ?_) fun σ H' pv => ?_⟩⟩
      · obtain ⟨u2, u3, xs', rfl, gW, _, _, _, gt⟩ := pv
        exact ⟨sb _, SqT.of gt⟩
      · obtain ⟨u2, u3, xs', rfl, gW, dx, lx, sx, gt⟩ := pv
        rw [List.getElem?_map] at hx
        cases hj : ss[i]? with
        | none => rw [hj] at hx; cases hx
        | some sl =>
          rw [hj] at hx
          cases hx
          obtain ⟨dy, hdy, day⟩ := rv.get hy
          have hi := (List.getElem?_eq_some_iff.mp hj).1
          have nTW : T' ≠ W := fun e => by rw [e, gW] at hT; cases hT
          have nTt : T' ≠ t := fun e => by rw [e, gt] at hT; cases hT
          have sT : Same H' (upd H' T' (.tup [.str sl, y])) := same_new hT
          have gW' := sT _ _ gW
          have gt' := sT _ _ gt
          have tk : ((List.zipWith oneD ss rest).take (i + 1)).flatten = ((List.zipWith oneD ss rest).take i).flatten ++ oneD sl dy := by
            rw [List.take_add_one, zw_get oneD hj hdy, List.flatten_append]
            show _ ++ [oneD sl dy].flatten = _
            rw [List.flatten_cons, List.flatten_nil, List.append_nil]
          have ntW : t ≠ W := fun e => by rw [e, gW] at gt; cases gt
          have sz1 : xs'.length < sizeLine ∧ xs'.length + 1000 ≤ sizeLine := by rw [sizeLine_eq]; omega
          have keep : ∀ ys, Same H (upd (upd H' T' (.tup [.str sl, y])) W (.lst ys)) := fun ys b o h => by
            have nb : b ≠ W := ne_of_none h hW
            rw [upd_ne nb]
            exact sT _ _ (sx _ _ h)
          refine ⟨T', _, rfl, SqT.of upd_same, rfl, _, _, rfl, _, _, rfl, rfl, ?_⟩
          refine ⟨_, rfl, rfl, _, rfl, ite2 (fun h1 => ?_) (fun h1 => ?_)⟩
          · have eo : oneD sl dy = [dy] := by unfold oneD; rw [if_pos h1]
            refine ⟨_, rfl, .inl ⟨rfl, _, SqL.of gW'⟩, _, rfl, W, _, _, rfl, rfl, gW', sz1.1, ?_⟩
            refine ⟨_, _, _, rfl, upd_same, ?_, ?_, keep _, ?_⟩
            · rw [tk, eo]; exact dx.snoc day
            · rw [List.length_append, List.length_singleton]; omega
            · rw [upd_ne ntW]; exact gt'
          · have eS : lk sl STv = (lk sl ST).map fun p => [.int p.1, .int p.2] := lk_map (fun p : Int × Int => [V.int p.1, V.int p.2]) sl ST
            cases e2 : lk sl ST with
            | none =>
              rw [e2] at eS
              have eo : oneD sl dy = [] := by unfold oneD; rw [if_neg h1, e2]
              refine ⟨_, rfl, sl, rfl, rfl, _, rfl, iteN (by rw [FS.none eS]; rfl) ?_⟩
              refine ⟨_, _, xs', rfl, gW', ?_, by omega, sx.trans sT, gt'⟩
              rw [tk, eo, List.append_nil]; exact dx
            | some pr =>
              obtain ⟨lo, hi2⟩ := pr
              rw [e2] at eS
              obtain ⟨as, las, _⟩ := FS.some eS
              have fy : fitsD sl dy = true := by
                have zg := zw_get fitsD hj hdy
                exact (List.all_eq_true.mp hf) _ (List.mem_of_getElem? zg)
              have ry : rangeD lo hi2 dy = true := by
                unfold fitsD at fy
                rw [e2] at fy
                exact fy
              obtain ⟨es, rfl⟩ := range_inv ry
              obtain ⟨ay, ys, rfl, hay, lys, rys⟩ := day.tup_inv
              have eo : oneD sl (.tuple es) = es := by unfold oneD; rw [if_neg h1, e2]
              refine ⟨_, rfl, sl, rfl, rfl, _, rfl, iteB (by rw [las]; rfl) ?_⟩
              refine ⟨_, rfl, .inl ⟨rfl, _, SqL.of gW'⟩, _, rfl, W, ay, _, ys, rfl, rfl, gW', sT _ _ (sx _ _ (sH _ _ hay)), by omega, ?_⟩
              refine ⟨_, _, _, rfl, upd_same, ?_, ?_, keep _, ?_⟩
              · rw [tk, eo]; exact dx.append rys
              · rw [List.length_append]; omega
              · rw [upd_ne ntW]; exact gt'
      · obtain ⟨u2, u3, xs', rfl, gW, dx, lx, sx, gt⟩ := pv
        have lz : (List.zipWith oneD ss rest).length = ss.length := by rw [List.length_zipWith, hl, Nat.min_self]
        rw [List.length_map, ← lz, List.take_length] at dx
        exact ⟨_, rfl, q W H' xs' sx hW gW dx⟩
end
end P4
end Bf

namespace Bf
open PySem PySem.Spec PyProof.Rows L2
theorem last_of {vs : List V} {ds : List PyData} {H : Hp} (r : DaAll H vs ds) (n : vs ≠ []) : ∃ v d ds', vs[vs.length - 1]? = some v ∧ ds = ds' ++ [d] ∧ Da H v d ∧ DaAll H vs.dropLast ds' := by
  have hl := r.len
  obtain ⟨v, ev⟩ : ∃ v, vs[vs.length - 1]? = some v := by
    cases vs with
    | nil => exact absurd rfl n
    | cons a t => exact ⟨_, List.getElem?_eq_getElem (by simp)⟩
  have nd : ds ≠ [] := fun e => by rw [e] at hl; exact n (List.eq_nil_of_length_eq_zero hl)
  obtain ⟨d, ed, da⟩ := r.get ev
  have el : ds = ds.dropLast ++ [ds.getLast nd] := (List.dropLast_concat_getLast nd).symm
  have eg : ds.getLast nd = d := by
    rw [hl] at ed
    rw [← List.getLast?_eq_getElem?, List.getLast?_eq_some_getLast nd] at ed
    exact Option.some.inj ed
  refine ⟨v, d, ds.dropLast, ev, by rw [← eg]; exact el, da, ?_⟩
  have key : ∀ {vs : List V} {ds : List PyData}, DaAll H vs ds → DaAll H vs.dropLast ds.dropLast := by
    intro vs ds r
    have := (r.rev.drop 1).rev
    rw [List.drop_one, List.drop_one, List.tail_reverse, List.tail_reverse, List.reverse_reverse, List.reverse_reverse] at this
    exact this
  exact key r
namespace P4
section
variable {P : Program} {w : World} {K : PySem.W.Frag} {mg : Str → Option Value} {base : Heap} {aF aS aC : Addr}
/-! ### _are_terms -/
def spAreTerms (K : PySem.W.Frag) : Sp := fun vs H Q _ => ∃ (a : Addr) (xs : List V) (ds : List PyData), vs = [.ref a] ∧ SqL K H a xs ∧ DaAll H xs ds ∧ szA ds ≤ 1000000 ∧ ∀ H', Same H H' → Q (.bl (ds.all termD)) H'
abbrev nAreTerms : List Str := ["things", "waiting", "thing"]
theorem scAreTerms : FnScope nAreTerms ["things"] (defScope sAreTerms) := ⟨rfl, rfl, rfl, by decide +kernel, rfl, by decide +kernel, by decide +kernel⟩
theorem ok_areTerms {f ff fc fw : Addr} {fd df dc dw : FuncData} (F : Fun K "_are_terms" "_are_terms" sAreTerms f fd) (Df_ : Df K mg "_is_formed" ff df ["thing"]) (Gf : FnOk P w K mg base CX0 6 ff df ["thing"] spFormed)
    (Dc : Df K mg "is_call" fc dc ["right"]) (Gc : FnOk P w K mg base CX0 2 fc dc ["right"] spCall) (Dw : Df K mg "terms_within" fw dw ["right"]) (Gw : FnOk P w K mg base CX0 2 fw dw ["right"] spWithin) (mL : mg "list" = none) :
    FnOk P w K mg base CX0 7 f fd ["things"] (spAreTerms K) := by
  refine F.ok scAreTerms (fun vs H Q E h => ?_) (fun cdv A outer s H vs Q E hr h => ?_)
  · obtain ⟨a, xs, ds, rfl, _⟩ := h
    rfl
  · obtain ⟨a, xs, ds, rfl, hS, r, hz, q⟩ := h
    have hr1 := hr.mono (by decide : 2 ≤ 6)
    refine ⟨_, pss_cons (ps_set (i := 1) scAreTerms.nd rfl (Or.inl rfl) (pe_callTy call_list_of (by rfl) mL (by decide +kernel) (pa_cons (pv 0) pa_nil)))
      (pss_cons (ps_while PassesOwn.never (pt_truth (pv 1) (by intro _; rfl))
        (pss_cons (ps_set (i := 2) scAreTerms.nd rfl (Or.inl rfl) (pe_bm0 PySem.F.plainAttrs_list PySem.F.slot_list_pop PySem.F.type_list_pop mt_pop (pv 1)))
        (pss_cons (ps_if (PW.pt (pw_or (pt_not (pt_val (pe_call Gf hr (by rfl) Df_.at_ Df_.kp Df_.bd .nil pass0 (pa_cons (pv 2) pa_nil)))) (pw_or1 (pt_val (pe_call Gc hr1 (by rfl) Dc.at_ Dc.kp Dc.bd .nil pass0 (pa_cons (pv 2) pa_nil)))))) (pss_one (ps_ret pe_bl)) pss_nil)
        (pss_one (ps_expr (pe_bm PySem.F.plainAttrs_list PySem.F.slot_list_extend PySem.F.type_list_extend mt_extend (pv 1) (pa_cons (pe_call Gw hr1 (by rfl) Dw.at_ Dw.kp Dw.bd .nil pass0 (pa_cons (pv 2) pa_nil)) pa_nil)))))))
      (pss_one (ps_ret pe_bl))), ?_⟩
    refine ⟨_, rfl, a, xs, rfl, .inl hS, fun W hW => ?_⟩
    dsimp only [gName, tSeq, tAsg]
    refine ⟨fun m σ H' => ∃ u xs' es, σ = [some (.ref a), some (.ref W), u] ∧ H' W = some (.lst xs') ∧ DaAll H xs' es ∧ Same H H' ∧ es.all termD = ds.all termD ∧ m = szA es ∧ m ≤ szA ds, ⟨_, _, xs, ds, rfl, upd_same, r, same_new hW, rfl, rfl, Nat.le_refl _⟩, fun m σ H' hw => ?_⟩
    obtain ⟨u, xs', es, rfl, gW, rx, sx, ea, rfl, le⟩ := hw
    have lx := rx.len
    have ls := szA_len es
    have keep : ∀ {G : Hp} (o : HO), Same H G → Same H (upd G W o) := fun {G} o s b o' h => by
      rw [upd_ne (ne_of_none h hW)]
      exact s _ _ h
    refine ⟨_, rfl, !xs'.isEmpty, .inl ⟨xs', SqL.of gW, rfl⟩, ?_⟩
    by_cases hx : xs' = []
    · subst hx
      have ee : es = [] := List.eq_nil_of_length_eq_zero (by rw [← lx]; rfl)
      refine iteF ?_
      rw [ee] at ea
      rw [← ea] at q
      exact q _ sx
    · have ne : xs' ≠ [] := hx
      refine iteB (by cases xs' with | nil => exact absurd rfl ne | cons _ _ => rfl) ?_
      obtain ⟨v, d, es', ev, rfl, da, rd⟩ := last_of rx ne
      rw [szA_app, szA_cons, szA_nil] at le ls
      have ea' : ((es'.all termD) && termD d) = ds.all termD := by
        rw [← ea, List.all_append, List.all_cons, List.all_nil, Bool.and_true]
      refine ⟨fun σ H2 => ∃ u xs2 es2, σ = [some (.ref a), some (.ref W), u] ∧ H2 W = some (.lst xs2) ∧ DaAll H xs2 es2 ∧ Same H H2 ∧ es2.all termD = ds.all termD ∧ szA es2 < szA (es' ++ [d]) ∧ szA es2 ≤ szA ds,
        fun σ2 H2 ⟨u, xs2, es2, e1, e2, e3, e4, e5, e6, e7⟩ => ⟨_, e6, u, xs2, es2, e1, e2, e3, e4, e5, rfl, e7⟩, ?_⟩
      refine ⟨_, rfl, .inl ⟨rfl, _, SqL.of gW⟩, W, xs', v, rfl, rfl, gW, ev, ?_⟩
      have s1 : Same H (upd H' W (.lst xs'.dropLast)) := keep _ sx
      refine ⟨_, rfl, v, d, rfl, Da.same s1 _ _ da, fun H2 s2 => ⟨_, rfl, ?_⟩⟩
      have te := termD_eq d
      by_cases hf : formedD d = true
      · rw [hf]
        refine iteF ?_
        obtain ⟨c, rest, ss, ed, el, _⟩ := formed_inv hf
        have s3 : Same H H2 := s1.trans s2
        refine ⟨_, rfl, v, c, rest, rfl, by rw [← ed]; exact Da.same s3 _ _ da, _, rfl, ?_⟩
        have cx : callX d = callS c := by rw [ed]; rfl
        by_cases hc : callS c = true
        · rw [hc]
          rw [te, hf, cx, hc] at ea'
          refine iteT ?_
          have e0 : ds.all termD = false := by rw [← ea']; simp
          rw [e0] at q
          exact q _ s3
        · have hc' := Bool.eq_false_iff.mpr hc
          rw [hc']
          rw [te, hf, cx, hc'] at ea'
          refine iteF ?_
          have gW2 : H2 W = some (.lst xs'.dropLast) := s2 _ _ upd_same
          refine ⟨_, rfl, .inl ⟨rfl, _, SqL.of gW2⟩, _, rfl, v, d, H, rfl, s3, da, hf, fun p H3 ys s4 hp gp ry => ?_⟩
          have ly := ry.len
          have lyz := szA_len (withinD d)
          have wz := within_sz d
          have ld := rd.len
          have lz' := szA_len es'
          refine ⟨W, p, _, ys, rfl, rfl, s4 _ _ gW2, gp, by rw [sizeLine_eq]; omega, ?_⟩
          refine ⟨_, _, es' ++ withinD d, rfl, upd_same, rd.append ry, keep _ (s3.trans s4), ?_, ?_, ?_⟩
          · rw [← ea', List.all_append]
            simp
          · rw [szA_app, szA_app, szA_cons, szA_nil]; omega
          · rw [szA_app]; omega
      · have hf' := Bool.eq_false_iff.mpr hf
        rw [hf']
        rw [te, hf'] at ea'
        have e0 : ds.all termD = false := by rw [← ea']; simp
        rw [e0] at q
        exact iteT (iteT (q _ (s1.trans s2)))
end
end P4
end Bf

namespace Bf
open PySem PySem.Spec PyProof.Rows L2
namespace P4
theorem refuses_later {C : Addr} {v : V} {H H1 : Hp} {E : XK} (q : Refuses C v H E) (s : Same H H1) : Refuses C v H1 E := fun d H' s' hd h => q d H' (s.trans s') (s.free hd) h
theorem right_inv {d : PyData} (h : rightD d = true) : formedD d = true ∧ ∀ e ∈ withinD d, termD e = true := by
  obtain ⟨h1, h2⟩ := Bool.and_eq_true_iff.mp h
  exact ⟨h1, List.all_eq_true.mp h2⟩
theorem term_inv {d : PyData} (h : termD d = true) : formedD d = true ∧ callX d = false ∧ ∀ e ∈ withinD d, termD e = true := by
  rw [termD_eq] at h
  obtain ⟨h1, h2⟩ := Bool.and_eq_true_iff.mp h
  obtain ⟨h1, h3⟩ := Bool.and_eq_true_iff.mp h1
  exact ⟨h1, by simpa using h3, List.all_eq_true.mp h2⟩
section
variable {P : Program} {w : World} {K : PySem.W.Frag} {mg : Str → Option Value} {base : Heap} {aF aS aC : Addr}
def spIsTerm : Sp := fun vs H Q _ => ∃ (x : V) (d : PyData), vs = [x] ∧ Da H x d ∧ sz d ≤ 900000 ∧ ∀ H', Same H H' → Q (.bl (termD d)) H'
theorem scIsTerm : FnScope ["thing"] ["thing"] (defScope sIsTerm) := ⟨rfl, rfl, rfl, by decide +kernel, rfl, by decide +kernel, by decide +kernel⟩
theorem ok_isTerm {f fa : Addr} {fd da_ : FuncData} (F : Fun K "is_term" "is_term" sIsTerm f fd) (Dt : Df K mg "_are_terms" fa da_ ["things"]) (Gt : FnOk P w K mg base CX0 7 fa da_ ["things"] (spAreTerms K)) : FnOk P w K mg base CX0 8 f fd ["thing"] spIsTerm := by
  refine F.ok scIsTerm (fun vs H Q E h => ?_) (fun cdv A outer s H vs Q E hr h => ?_)
  · obtain ⟨x, d, rfl, _⟩ := h
    rfl
  · obtain ⟨x, d, rfl, da, hz, q⟩ := h
    refine ⟨_, pss_one (ps_ret (pe_call Gt hr (by rfl) Dt.at_ Dt.kp Dt.bd .nil pass0 (pa_cons (pe_lst (pa_cons (pv 0) pa_nil)) pa_nil))), ?_⟩
    refine ⟨_, rfl, by show 1 ≤ sizeLine; decide, fun l hl => ?_⟩
    have s1 : Same H (upd H l (.lst [x])) := same_new hl
    refine ⟨l, [x], [d], rfl, SqL.of upd_same, .cons (Da.same s1 _ _ da) .nil, by rw [szA_cons, szA_nil]; omega, fun H' s' => ?_⟩
    rw [List.all_cons, List.all_nil, Bool.and_true]
    exact q _ (s1.trans s')
def spIsRight : Sp := fun vs H Q _ => ∃ (x : V) (d : PyData), vs = [x] ∧ Da H x d ∧ sz d ≤ 900000 ∧ ∀ H', Same H H' → Q (.bl (rightD d)) H'
theorem scIsRight : FnScope ["thing"] ["thing"] (defScope sIsRight) := ⟨rfl, rfl, rfl, by decide +kernel, rfl, by decide +kernel, by decide +kernel⟩
theorem ok_isRight {f fa ff fw : Addr} {fd da_ df dw : FuncData} (F : Fun K "is_right" "is_right" sIsRight f fd) (Dt : Df K mg "_are_terms" fa da_ ["things"]) (Gt : FnOk P w K mg base CX0 7 fa da_ ["things"] (spAreTerms K))
    (Df_ : Df K mg "_is_formed" ff df ["thing"]) (Gf : FnOk P w K mg base CX0 6 ff df ["thing"] spFormed) (Dw : Df K mg "terms_within" fw dw ["right"]) (Gw : FnOk P w K mg base CX0 2 fw dw ["right"] spWithin) : FnOk P w K mg base CX0 8 f fd ["thing"] spIsRight := by
  refine F.ok scIsRight (fun vs H Q E h => ?_) (fun cdv A outer s H vs Q E hr h => ?_)
  · obtain ⟨x, d, rfl, _⟩ := h
    rfl
  · obtain ⟨x, d, rfl, da, hz, q⟩ := h
    have hr5 := hr.mono (by decide : 6 ≤ 7)
    have hr1 := hr.mono (by decide : 2 ≤ 7)
    refine ⟨_, pss_one (ps_ret (pe_and (pe_call Gf hr5 (by rfl) Df_.at_ Df_.kp Df_.bd .nil pass0 (pa_cons (pv 0) pa_nil)) (pe_one (pe_call Gt hr (by rfl) Dt.at_ Dt.kp Dt.bd .nil pass0 (pa_cons (pe_call Gw hr1 (by rfl) Dw.at_ Dw.kp Dw.bd .nil pass0 (pa_cons (pv 0) pa_nil)) pa_nil))))), ?_⟩
    refine ⟨_, rfl, x, d, rfl, da, fun H1 s1 => ⟨_, rfl, ?_⟩⟩
    unfold rightD at q
    by_cases hf : formedD d = true
    · rw [hf] at q ⊢
      refine iteT ⟨_, rfl, x, d, H, rfl, s1, da, hf, fun p H2 ys s2 hp gp ry => ?_⟩
      have wz := within_sz d
      refine ⟨p, ys, withinD d, rfl, SqL.of gp, ry.same (s1.trans s2), by omega, fun H3 s3 => ?_⟩
      rw [Bool.true_and] at q
      exact q _ ((s1.trans s2).trans s3)
    · have hf' := Bool.eq_false_iff.mpr hf
      rw [hf'] at q ⊢
      rw [Bool.false_and] at q
      exact iteF (q _ s1)
/-! ### _need_right -/
def spNeed (cT : Addr) : Sp := fun vs H Q E => ∃ (x : V) (d : PyData), vs = [x] ∧ Da H x d ∧ sz d ≤ 900000 ∧ ((rightD d = false ∧ Refuses cT x H E) ∨ (rightD d = true ∧ ∀ H', Same H H' → Q .non H'))
theorem scNeed : FnScope ["thing"] ["thing"] (defScope sNeedRight) := ⟨rfl, rfl, rfl, by decide +kernel, rfl, by decide +kernel, by decide +kernel⟩
theorem ok_need {f fr cT fT : Addr} {fd dr fdT : FuncData} (F : Fun K "_need_right" "_need_right" sNeedRight f fd) (TT : ExT K mg "NoTerm" cT fT fdT) (GT : FnOk P w K mg base CX0 3 fT fdT ["self", "found"] (spInit K cT))
    (Dr : Df K mg "is_right" fr dr ["thing"]) (Gr : FnOk P w K mg base CX0 8 fr dr ["thing"] spIsRight) : FnOk P w K mg base (CXL P w) 9 f fd ["thing"] (spNeed cT) := by
  refine F.okX scNeed (fun vs H Q E h => ?_) (fun cdv A outer s H vs Q E hr h => ?_)
  · obtain ⟨x, d, rfl, _⟩ := h
    rfl
  · obtain ⟨x, d, rfl, da, hz, q⟩ := h
    have hr3 := hr.mono (by decide : 4 ≤ 8)
    refine ⟨_, pss_one (ps_if (pt_not (pt_val (pe_call Gr hr (by rfl) Dr.at_ Dr.kp Dr.bd .nil pass0 (pa_cons (pv 0) pa_nil)))) (pss_one (ps_raise rfl (takes_of rfl rfl rfl rfl) (pmk_oex TT.ox TT.iC TT.tI GT hr3 TT.bd .nil pass0 (by rfl) TT.gC (pa_cons (pv 0) pa_nil)))) pss_nil), ?_⟩
    refine ⟨_, rfl, x, d, rfl, da, hz, fun H1 s1 => ⟨_, rfl, ?_⟩⟩
    rcases q with ⟨e, q⟩ | ⟨e, q⟩
    · rw [e]
      exact iteT ⟨_, rfl, raise_reads (refuses_later q s1)⟩
    · rw [e]
      exact iteF (q _ s1)
/-! ### _parts -/
def spParts : Sp := fun vs H Q _ => ∃ (x : V) (d : PyData) (Hs : Hp), vs = [x] ∧ Same Hs H ∧ Da Hs x d ∧ sz d ≤ 900000 ∧ rightD d = true ∧ ∀ p H' xs, Same H H' → H p = none → H' p = some (.lst xs) → DaAll Hs xs (partsD d) → Q (.ref p) H'
abbrev nParts : List Str := ["right", "waiting", "parts", "part"]
theorem scParts : FnScope nParts ["right"] (defScope sParts) := ⟨rfl, rfl, rfl, by decide +kernel, rfl, by decide +kernel, by decide +kernel⟩
theorem partD_le : ∀ (n : Nat) (d : PyData), sz d ≤ n → (partD d).length ≤ sz d
  | 0, d, h => absurd h (by have := sz_pos d; omega)
  | n + 1, d, h => by
    have ws := within_sz d
    have key : ∀ l : List PyData, szA l ≤ n → ((l.map partD).flatten).length ≤ szA l := by
      intro l
      induction l with
      | nil => intro _; rw [List.map_nil, List.flatten_nil, szA_nil]; exact Nat.le_refl _
      | cons e r ih =>
        intro hl
        rw [szA_cons] at hl ⊢
        rw [List.map_cons, List.flatten_cons, List.length_append]
        have := partD_le n e (by omega)
        have := ih (by omega)
        omega
    rw [partD_eq, List.length_cons]
    have := key (withinD d) (by omega)
    omega
theorem ok_parts {f fc fw : Addr} {fd dc dw : FuncData} (F : Fun K "_parts" "_parts" sParts f fd) (Dc : Df K mg "is_call" fc dc ["right"]) (Gc : FnOk P w K mg base CX0 2 fc dc ["right"] spCall) (Dw : Df K mg "terms_within" fw dw ["right"]) (Gw : FnOk P w K mg base CX0 2 fw dw ["right"] spWithin) :
    FnOk P w K mg base CX0 3 f fd ["right"] spParts := by
  refine F.ok scParts (fun vs H Q E h => ?_) (fun cdv A outer s H vs Q E hr h => ?_)
  · obtain ⟨x, d, Hs, rfl, _⟩ := h
    rfl
  · obtain ⟨x, d, Hs, rfl, sH, da, hz, rd, q⟩ := h
    refine ⟨_, pss_cons (ps_set (i := 1) scParts.nd rfl (Or.inl rfl) (pe_ifExp (pt_val (pe_call Gc hr (by rfl) Dc.at_ Dc.kp Dc.bd .nil pass0 (pa_cons (pv 0) pa_nil))) (pe_revL (pe_call Gw hr (by rfl) Dw.at_ Dw.kp Dw.bd .nil pass0 (pa_cons (pv 0) pa_nil))) (pe_lst (pa_cons (pv 0) pa_nil))))
      (pss_cons (ps_set (i := 2) scParts.nd rfl (Or.inl rfl) (pe_lst pa_nil))
      (pss_cons (ps_while PassesOwn.never (pt_truth (pv 1) (by intro _; rfl))
        (pss_cons (ps_set (i := 3) scParts.nd rfl (Or.inl rfl) (pe_bm0 PySem.F.plainAttrs_list PySem.F.slot_list_pop PySem.F.type_list_pop mt_pop (pv 1)))
        (pss_cons (ps_expr (pe_bm PySem.F.plainAttrs_list PySem.F.slot_list_append PySem.F.type_list_append mt_append (pv 2) (pa_cons (pv 3) pa_nil)))
        (pss_one (ps_expr (pe_bm PySem.F.plainAttrs_list PySem.F.slot_list_extend PySem.F.type_list_extend mt_extend (pv 1) (pa_cons (pe_revL (pe_call Gw hr (by rfl) Dw.at_ Dw.kp Dw.bd .nil pass0 (pa_cons (pv 3) pa_nil))) pa_nil)))))))
      (pss_one (ps_ret (pv 2))))), ?_⟩
    obtain ⟨fo, wt⟩ := right_inv rd
    obtain ⟨c, rest, ss, ed, el, _⟩ := formed_inv fo
    have cx : callX d = callS c := by rw [ed]; rfl
    -- from the first list on
    have go : ∀ (W : Addr) (xw : List V) (ew : List PyData) (H1 : Hp), H W = none → Same H H1 → H1 W = some (.lst xw) → DaAll Hs xw ew → (∀ e ∈ ew, termD e = true) → szA ew ≤ 900000 → (ew.reverse.map partD).flatten = partsD d →
        tSeq (tAsg (tLst tNil) (gName 2)) (tSeq (tWhile (fun σ H_1 Q => tVar 1 σ H_1 fun x H' => ∃ k, TruV K x H' k ∧ Q k H') (tSeq (tAsg (tBM0 K "list" rPop (tVar 1)) (gName 3)) (tSeq (tDrop (tBM K "list" rAppend (tVar 2) (tCons (tVar 3) tNil)))
          (tDrop (tBM K "list" rExtend (tVar 1) (tCons (tRevL K (tCall spWithin [] E0 (tCons (tVar 3) tNil))) tNil)))))) (tRet (tVar 2))) { nx := fun _ H' => Q .non H', rt := Q } [some x, some (.ref W), none, none] H1 := by
      intro W xw ew H1 hW s1 gW rw_ tw zw pw
      refine ⟨by show 0 ≤ sizeLine; decide, fun R hR => ?_⟩
      dsimp only [gName]
      have nWR : W ≠ R := fun e => by rw [← e, gW] at hR; cases hR
      have hRH : H R = none := by
        cases z : H R with
        | none => rfl
        | some o => rw [s1 _ _ z] at hR; cases hR
      have keep : ∀ {G : Hp} (a : Addr) (o : HO), H a = none → Same H G → Same H (upd G a o) := fun {G} a o ha s b o' h => by
        rw [upd_ne (ne_of_none h ha)]
        exact s _ _ h
      refine ⟨fun m σ H' => ∃ u xs' es xr dn, σ = [some x, some (.ref W), some (.ref R), u] ∧ H' W = some (.lst xs') ∧ H' R = some (.lst xr) ∧ DaAll Hs xs' es ∧ DaAll Hs xr dn ∧ Same H H' ∧ (∀ e ∈ es, termD e = true) ∧ dn ++ (es.reverse.map partD).flatten = partsD d ∧ m = szA es ∧ m + xr.length ≤ 900000,
        ⟨_, _, xw, ew, [], [], rfl, by rw [upd_ne nWR]; exact gW, upd_same, rw_, .nil, keep _ _ hRH s1, tw, pw, rfl, by rw [List.length_nil]; omega⟩, fun m σ H' hw => ?_⟩
      obtain ⟨u, xs', es, xr, dn, rfl, gW', gR', rx, rr, sx, te, pe, rfl, le⟩ := hw
      have lx := rx.len
      have ls := szA_len es
      refine ⟨_, rfl, !xs'.isEmpty, .inl ⟨xs', SqL.of gW', rfl⟩, ?_⟩
      by_cases hx : xs' = []
      · subst hx
        have ee : es = [] := List.eq_nil_of_length_eq_zero (by rw [← lx]; rfl)
        subst ee
        refine iteF ⟨_, rfl, q R H' xr sx hRH gR' ?_⟩
        rw [List.reverse_nil, List.map_nil, List.flatten_nil, List.append_nil] at pe
        rw [← pe]
        exact rr
      · have ne : xs' ≠ [] := hx
        refine iteB (by cases xs' with | nil => exact absurd rfl ne | cons _ _ => rfl) ?_
        obtain ⟨v, d1, es', ev, rfl, da1, rd1⟩ := last_of rx ne
        rw [szA_app, szA_cons, szA_nil] at le ls
        have p1 := sz_pos d1
        obtain ⟨f1, _, w1⟩ := term_inv (te d1 (List.mem_append.mpr (.inr List.mem_cons_self)))
        refine ⟨fun σ H2 => ∃ u xs2 es2 xr2 dn2, σ = [some x, some (.ref W), some (.ref R), u] ∧ H2 W = some (.lst xs2) ∧ H2 R = some (.lst xr2) ∧ DaAll Hs xs2 es2 ∧ DaAll Hs xr2 dn2 ∧ Same H H2 ∧ (∀ e ∈ es2, termD e = true) ∧ dn2 ++ (es2.reverse.map partD).flatten = partsD d ∧ szA es2 < szA (es' ++ [d1]) ∧ szA es2 + xr2.length ≤ 900000,
          fun σ2 H2 ⟨u, xs2, es2, xr2, dn2, z1, z2, z3, z4, z5, z6, z7, z8, z9, z10⟩ => ⟨_, z9, u, xs2, es2, xr2, dn2, z1, z2, z3, z4, z5, z6, z7, z8, rfl, z10⟩, ?_⟩
        refine ⟨_, rfl, .inl ⟨rfl, _, SqL.of gW'⟩, W, xs', v, rfl, rfl, gW', ev, ?_⟩
        have s2 : Same H (upd H' W (.lst xs'.dropLast)) := keep _ _ hW sx
        have gR2 : upd H' W (.lst xs'.dropLast) R = some (.lst xr) := by rw [upd_ne nWR.symm]; exact gR'
        refine ⟨_, rfl, .inl ⟨rfl, _, SqL.of gR2⟩, _, rfl, R, _, _, rfl, rfl, gR2, by rw [sizeLine_eq]; omega, ?_⟩
        have s3 : Same H (upd (upd H' W (.lst xs'.dropLast)) R (.lst (xr ++ [v]))) := keep _ _ hRH s2
        have gW3 : upd (upd H' W (.lst xs'.dropLast)) R (.lst (xr ++ [v])) W = some (.lst xs'.dropLast) := by rw [upd_ne nWR, upd_same]
        refine ⟨_, rfl, .inl ⟨rfl, _, SqL.of gW3⟩, _, rfl, v, d1, Hs, rfl, sH.trans s3, da1, f1, fun p G ys s4 hp gp ry => ?_⟩
        refine ⟨p, ys, rfl, SqL.of gp, fun k hk => ?_⟩
        have ly := ry.len
        have lyz := szA_len (withinD d1)
        have wz := within_sz d1
        have ld := rd1.len
        have lz' := szA_len es'
        have s34 := s3.trans s4
        have sk : Same G (upd G k (.lst ys.reverse)) := same_new hk
        refine ⟨W, k, _, ys.reverse, rfl, rfl, sk _ _ (s4 _ _ gW3), upd_same, by rw [sizeLine_eq, List.length_reverse]; omega, ?_⟩
        refine ⟨_, _, es' ++ (withinD d1).reverse, _, dn ++ [d1], rfl, upd_same, ?_, rd1.append ry.rev, rr.snoc da1, keep _ _ hW (s34.trans sk), ?_, ?_, ?_, ?_⟩
        · rw [upd_ne nWR.symm]
          exact sk _ _ (s4 _ _ upd_same)
        · intro e m
          rcases List.mem_append.mp m with m | m
          · exact te e (List.mem_append.mpr (.inl m))
          · exact w1 e (List.mem_reverse.mp m)
        · rw [← pe, List.reverse_append, List.reverse_append, List.reverse_reverse, List.map_append, List.map_append, List.flatten_append, List.flatten_append]
          show dn ++ [d1] ++ _ = dn ++ ((partD d1 :: []).flatten ++ _)
          rw [List.flatten_cons, List.flatten_nil, List.append_nil, partD_eq d1]
          simp [List.append_assoc]
        · rw [szA_app, szA_app, szA_rev, szA_cons, szA_nil]; omega
        · rw [szA_app, szA_rev, List.length_append, List.length_singleton]; omega
    refine ⟨_, rfl, x, c, rest, rfl, by rw [← ed]; exact da.same sH, _, rfl, ?_⟩
    by_cases hc : callS c = true
    · rw [hc]
      refine iteT ⟨_, rfl, x, d, Hs, rfl, sH, da, fo, fun p G ys s1 hp gp ry => ⟨p, ys, rfl, SqL.of gp, fun k hk => ?_⟩⟩
      have wz := within_sz d
      have sk : Same G (upd G k (.lst ys.reverse)) := same_new hk
      have hkH : H k = none := by
        cases z : H k with
        | none => rfl
        | some o => rw [s1 _ _ z] at hk; cases hk
      exact go k ys.reverse (withinD d).reverse _ hkH (s1.trans sk) upd_same ry.rev (fun e m => wt e (List.mem_reverse.mp m)) (by rw [szA_rev]; omega) (by
        rw [List.reverse_reverse]
        unfold partsD
        rw [cx, if_pos hc])
    · have hc' := Bool.eq_false_iff.mpr hc
      rw [hc']
      refine iteF ⟨_, rfl, by show 1 ≤ sizeLine; decide, fun k hk => ?_⟩
      refine go k [x] [d] _ hk (same_new hk) upd_same (.cons da .nil) (fun e m => ?_) (by rw [szA_cons, szA_nil]; omega) ?_
      · rw [List.mem_singleton.mp m, termD_eq, fo, cx, hc']
        simp only [Bool.not_false, Bool.and_true, Bool.true_and]
        exact List.all_eq_true.mpr wt
      · unfold partsD
        rw [cx, if_neg hc]
        simp
/-! ### parts_of, size_of -/
def spPartsOf (cT : Addr) : Sp := fun vs H Q E => ∃ (x : V) (d : PyData) (Hs : Hp), vs = [x] ∧ Same Hs H ∧ Da Hs x d ∧ sz d ≤ 900000 ∧ ((rightD d = false ∧ Refuses cT x H E) ∨ (rightD d = true ∧ ∀ p H' xs, Same H H' → H p = none → H' p = some (.lst xs) → DaAll Hs xs (partsD d) → Q (.ref p) H'))
theorem scPartsOf : FnScope ["right"] ["right"] (defScope sPartsOf) := ⟨rfl, rfl, rfl, by decide +kernel, rfl, by decide +kernel, by decide +kernel⟩
theorem none_back {H H' : Hp} {p : Addr} (s : Same H H') (h : H' p = none) : H p = none := by
  cases z : H p with
  | none => rfl
  | some o => rw [s _ _ z] at h; cases h
theorem ok_partsOf {f fn fp cT : Addr} {fd dn dp : FuncData} (F : Fun K "parts_of" "parts_of" sPartsOf f fd) (Dn : Df K mg "_need_right" fn dn ["thing"]) (Gn : FnOk P w K mg base (CXL P w) 9 fn dn ["thing"] (spNeed cT)) (Dp : Df K mg "_parts" fp dp ["right"]) (Gp : FnOk P w K mg base CX0 3 fp dp ["right"] spParts) :
    FnOk P w K mg base (CXL P w) 10 f fd ["right"] (spPartsOf cT) := by
  refine F.okX scPartsOf (fun vs H Q E h => ?_) (fun cdv A outer s H vs Q E hr h => ?_)
  · obtain ⟨x, d, Hs, rfl, _⟩ := h
    rfl
  · obtain ⟨x, d, Hs, rfl, sH, da, hz, q⟩ := h
    have hr2 := hr.mono (by decide : 3 ≤ 9)
    refine ⟨_, pss_cons (ps_expr (pe_call (E := E) Gn hr (by rfl) Dn.at_ Dn.kp Dn.bd .nil (passes_call (takes_of rfl rfl rfl rfl) (fun _ _ _ _ h => h)) (pa_cons (pv 0) pa_nil))) (pss_one (ps_ret (pe_call Gp hr2 (by rfl) Dp.at_ Dp.kp Dp.bd .nil pass0 (pa_cons (pv 0) pa_nil)))), ?_⟩
    refine ⟨_, rfl, x, d, rfl, da.same sH, hz, ?_⟩
    rcases q with ⟨e, q⟩ | ⟨e, q⟩
    · exact .inl ⟨e, q⟩
    · exact .inr ⟨e, fun H1 s1 => ⟨_, rfl, x, d, Hs, rfl, sH.trans s1, da, hz, e, fun p H' xs s2 hp gp ry => q p H' xs (s1.trans s2) (none_back s1 hp) gp ry⟩⟩
def sizeD (d : PyData) : Nat := (partsD d).length + if callX d = true then 1 else 0
def spSizeOf (cT : Addr) : Sp := fun vs H Q E => ∃ (x : V) (d : PyData), vs = [x] ∧ Da H x d ∧ sz d ≤ 900000 ∧ ((rightD d = false ∧ Refuses cT x H E) ∨ (rightD d = true ∧ ∀ H', Same H H' → Q (.int (sizeD d)) H'))
theorem scSizeOf : FnScope ["right", "many"] ["right"] (defScope sSizeOf) := ⟨rfl, rfl, rfl, by decide +kernel, rfl, by decide +kernel, by decide +kernel⟩
theorem ok_sizeOf {f fn fp fc cT : Addr} {fd dn dp dc : FuncData} (F : Fun K "size_of" "size_of" sSizeOf f fd) (Dn : Df K mg "_need_right" fn dn ["thing"]) (Gn : FnOk P w K mg base (CXL P w) 9 fn dn ["thing"] (spNeed cT)) (Dp : Df K mg "_parts" fp dp ["right"]) (Gp : FnOk P w K mg base CX0 3 fp dp ["right"] spParts)
    (Dc : Df K mg "is_call" fc dc ["right"]) (Gc : FnOk P w K mg base CX0 2 fc dc ["right"] spCall) (ml : mg "len" = none) :
    FnOk P w K mg base (CXL P w) 10 f fd ["right"] (spSizeOf cT) := by
  refine F.okX scSizeOf (fun vs H Q E h => ?_) (fun cdv A outer s H vs Q E hr h => ?_)
  · obtain ⟨x, d, rfl, _⟩ := h
    rfl
  · obtain ⟨x, d, rfl, da, hz, q⟩ := h
    have hr2 := hr.mono (by decide : 3 ≤ 9)
    have hr1 := hr.mono (by decide : 2 ≤ 9)
    refine ⟨_, pss_cons (ps_expr (pe_call (E := E) Gn hr (by rfl) Dn.at_ Dn.kp Dn.bd .nil (passes_call (takes_of rfl rfl rfl rfl) (fun _ _ _ _ h => h)) (pa_cons (pv 0) pa_nil)))
      (pss_cons (ps_set (i := 1) scSizeOf.nd rfl (Or.inl rfl) (pe_callB call_len_seq (by rfl) ml PySem.boot_len (pa_cons (pe_call Gp hr2 (by rfl) Dp.at_ Dp.kp Dp.bd .nil pass0 (pa_cons (pv 0) pa_nil)) pa_nil)))
      (pss_cons (ps_if (pt_val (pe_call Gc hr1 (by rfl) Dc.at_ Dc.kp Dc.bd .nil pass0 (pa_cons (pv 0) pa_nil))) (pss_one (ps_ret (pe_op op_add (pv 1) pe_int))) pss_nil)
      (pss_one (ps_ret (pv 1))))), ?_⟩
    refine ⟨_, rfl, x, d, rfl, da, hz, ?_⟩
    rcases q with ⟨e, q⟩ | ⟨e, q⟩
    · exact .inl ⟨e, q⟩
    · refine .inr ⟨e, fun H1 s1 => ⟨_, rfl, x, d, H, rfl, s1, da, hz, e, fun p H2 xs s2 hp gp ry => ⟨p, xs, rfl, .inl (SqL.of gp), ?_⟩⟩⟩
      obtain ⟨fo, _⟩ := right_inv e
      obtain ⟨c, rest, ss, ed, el, _⟩ := formed_inv fo
      have cx : callX d = callS c := by rw [ed]; rfl
      have lx := ry.len
      have s12 := s1.trans s2
      refine ⟨_, rfl, x, c, rest, rfl, by rw [← ed]; exact da.same s12, _, rfl, ?_⟩
      by_cases hc : callS c = true
      · rw [hc]
        refine iteT ⟨_, rfl, _, _, rfl, rfl, ?_⟩
        have e3 : ((sizeD d : Nat) : Int) = (xs.length : Int) + 1 := by
          unfold sizeD
          rw [cx, if_pos hc, lx]
          rfl
        rw [e3] at q
        exact q _ s12
      · rw [Bool.eq_false_iff.mpr hc]
        refine iteF ⟨_, rfl, ?_⟩
        have e3 : ((sizeD d : Nat) : Int) = (xs.length : Int) := by
          unfold sizeD
          rw [cx, if_neg hc, lx]
          rfl
        rw [e3] at q
        exact q _ s12
end
end P4
end Bf

namespace Bf
open PySem PySem.Spec PyProof.Rows L2
/-- the law's purse: a list of three numbers -/
def Purse (H : Hp) (p : Addr) (n : Int) : Prop := ∃ x y z : Int, H p = some (.lst [.int x, .int y, .int z]) ∧ 0 ≤ y ∧ y < 2147483629 ∧ 0 ≤ z ∧ z ≤ n
theorem Purse.mono {H : Hp} {p : Addr} {n m : Int} (h : Purse H p n) (l : n ≤ m) : Purse H p m := let ⟨x, y, z, a, b, c, d, e⟩ := h; ⟨x, y, z, a, b, c, d, Int.le_trans e l⟩
theorem Purse.of {H H' : Hp} {p : Addr} {n : Int} (h : Purse H p n) (e : H' p = H p) : Purse H' p n := let ⟨x, y, z, a, b⟩ := h; ⟨x, y, z, e.trans a, b⟩
/-- all that was tracked, but at p, is as it was -/
def SameX (p : Addr) (H H' : Hp) : Prop := ∀ b o, b ≠ p → H b = some o → H' b = some o
def spCell (K : PySem.W.Frag) : Sp := fun vs H Q _ => ∃ (a : Addr) (ns : List Int) (i : Int), vs = [.ref a, .int i] ∧ SqL K H a (ns.map V.int) ∧ 0 ≤ i ∧ i ≤ 100 ∧ ∀ z, Q (.int z) H
def spPurse : Sp := fun vs H Q _ => ∃ z : Int, vs = [.int z] ∧ ∀ p H', H p = none → p ≠ sysModules → (∀ b, b ≠ p → H' b = H b) → Purse H' p 0 → Q (.ref p) H'
def spTake : Sp := fun vs H Q _ => ∃ (p : Addr) (m n : Int), vs = [.ref p, .int m] ∧ Purse H p n ∧ n ≤ 100000 ∧ 0 < m ∧ m < 1000000 ∧ ∀ d H', 0 ≤ d → d < m → Purse H' p (n + 1) → (∀ b, b ≠ p → H' b = H b) → Q (.int d) H'

namespace P4
section
variable {P : Program} {w : World} {K : PySem.W.Frag} {mg : Str → Option Value} {base : Heap}
theorem scCell : FnScope ["_law_script", "_law_k"] ["_law_script", "_law_k"] (defScope sCell) := ⟨rfl, rfl, rfl, by decide +kernel, rfl, by decide +kernel, by decide +kernel⟩
theorem ok_cell {f : Addr} {fd : FuncData} (F : Fun K "_law_cell" "_law_cell" sCell f fd) (ml : mg "len" = none) : FnOk P w K mg base CX0 1 f fd ["_law_script", "_law_k"] (spCell K) := by
  refine F.ok scCell (fun vs H Q E h => ?_) (fun cdv A outer s H vs Q E hr h => ?_)
  · obtain ⟨a, ns, i, rfl, _⟩ := h
    rfl
  · obtain ⟨a, ns, i, rfl, hS, h0, h1, q⟩ := h
    refine ⟨_, pss_cons (ps_if (pt_cmpR op_lt (pv 1) (pe_callB call_len_seq (by rfl) ml PySem.boot_len (pa_cons (pv 0) pa_nil)) (nomark _)) (pss_one (ps_ret (pe_ix ix_list (pv 0) (pv 1) (fun _ _ => rfl)))) pss_nil)
      (pss_one (ps_ret (pe_op op_add (pe_op op_mul pe_int (pv 1)) pe_int))), ?_⟩
    refine ⟨_, rfl, _, rfl, a, _, rfl, .inl hS, _, _, rfl, rfl, _, rfl, ite2 (fun c => ?_) (fun c => ?_)⟩
    · have lt : i < (((ns.map V.int).length : Nat) : Int) := of_decide_eq_true c
      rw [List.length_map] at lt
      have lt' : i.toNat < ns.length := by omega
      refine ⟨_, rfl, _, rfl, a, _, i, .int ns[i.toNat], rfl, rfl, hS, ?_, q _⟩
      have e : atI (ns.map V.int) ((i.toNat : Nat) : Int) = some (V.int ns[i.toNat]) := atI_nat (by rw [List.getElem?_map, List.getElem?_eq_getElem lt']; rfl)
      rw [← e]
      congr 1
      omega
    · exact ⟨_, rfl, _, _, rfl, rfl, .inl ⟨by decide, by decide⟩, _, _, rfl, rfl, q _⟩
theorem scPurse : FnScope ["_law_cell_here"] ["_law_cell_here"] (defScope sPurse) := ⟨rfl, rfl, rfl, by decide +kernel, rfl, by decide +kernel, by decide +kernel⟩
theorem ok_purse {f : Addr} {fd : FuncData} (F : Fun K "_law_purse" "_law_purse" sPurse f fd) (mx : mg "max" = none) : FnOk P w K mg base CX0 1 f fd ["_law_cell_here"] spPurse := by
  refine F.ok scPurse (fun vs H Q E h => ?_) (fun cdv A outer s H vs Q E hr h => ?_)
  · obtain ⟨z, rfl, _⟩ := h
    rfl
  · obtain ⟨z, rfl, q⟩ := h
    refine ⟨_, pss_one (ps_ret (pe_lstN (pa_cons (pe_callB (call_max2 rfl) (by rfl) mx (by decide +kernel) (pa_cons pe_int (pa_cons (pe_op op_sub (pv 0) (pe_op op_pow pe_int pe_int)) pa_nil)))
      (pa_cons (pe_op op_mod (pv 0) pe_int) (pa_cons pe_int pa_nil))))), ?_⟩
    refine ⟨_, rfl, _, _, rfl, rfl, ⟨by decide, by decide, by decide⟩, _, _, rfl, rfl, _, _, rfl, _, rfl, _, _, rfl, rfl, (by show (0 : Int) < 2147483629; decide), by show 3 ≤ 1000; decide, fun p hp np => ?_⟩
    refine q p _ hp np (fun b hb => upd_ne hb) ⟨_, _, _, upd_same, Int.emod_nonneg _ (by decide), Int.emod_lt_of_pos _ (by decide), Int.le_refl _, Int.le_refl _⟩
theorem scTake : FnScope ["_law_purse_here", "_law_many", "_law_digit", "_law_one", "_law_other"] ["_law_purse_here", "_law_many"] (defScope sTake) := ⟨rfl, rfl, rfl, by decide +kernel, rfl, by decide +kernel, by decide +kernel⟩
theorem ok_take {f : Addr} {fd : FuncData} (F : Fun K "_law_take" "_law_take" sTake f fd) : FnOk P w K mg base CX0 1 f fd ["_law_purse_here", "_law_many"] spTake := by
  refine F.ok scTake (fun vs H Q E h => ?_) (fun cdv A outer s H vs Q E hr h => ?_)
  · obtain ⟨p, m, n, rfl, _⟩ := h
    rfl
  · obtain ⟨p, m, n, rfl, ⟨x, y, z, hp, y0, y1, z0, z1⟩, n1, m0, m1, q⟩ := h
    refine ⟨_, pss_cons (ps_if (pt_cmpR op_gt (pe_ix ix_list (pv 0) pe_int (fun _ _ => rfl)) pe_int (nomark _))
        (pss_cons (ps_set (i := 2) scTake.nd rfl (Or.inl rfl) (pe_op op_mod (pe_ix ix_list (pv 0) pe_int (fun _ _ => rfl)) (pv 1)))
        (pss_cons (ps_asg (pe_op op_fdiv (pe_ix ix_list (pv 0) pe_int (fun _ _ => rfl)) (pv 1)) (pg_sub (pv 0) pe_int set_list)) (pss_one (ps_ret (pv 2))))) pss_nil)
      (pss_cons (ps_asg (pe_op op_add (pe_ix ix_list (pv 0) pe_int (fun _ _ => rfl)) pe_int) (pg_sub (pv 0) pe_int set_list))
      (pss_cons (ps_set (i := 3) scTake.nd rfl (Or.inl rfl) (pe_op op_mod (pe_op op_pow (pe_op op_add (pe_op op_add (pe_ix ix_list (pv 0) pe_int (fun _ _ => rfl)) (pe_op op_mul pe_int (pe_ix ix_list (pv 0) pe_int (fun _ _ => rfl)))) pe_int) pe_int) pe_int))
      (pss_cons (ps_set (i := 4) scTake.nd rfl (Or.inl rfl) (pe_op op_mod (pe_op op_pow (pe_op op_add (pe_op op_mul (pe_ix ix_list (pv 0) pe_int (fun _ _ => rfl)) (pe_ix ix_list (pv 0) pe_int (fun _ _ => rfl))) pe_int) pe_int) pe_int))
      (pss_one (ps_ret (pe_op op_mod (pe_op op_fdiv (pe_op op_add (pe_op op_mul (pv 3) pe_int) (pv 4)) pe_int) (pv 1))))))), ?_⟩
    have L := SqL.of (K := K) hp
    refine ⟨_, rfl, p, _, 0, _, rfl, rfl, L, rfl, _, _, rfl, rfl, _, rfl, ite2 (fun _ => ?_) (fun _ => ?_)⟩
    · refine ⟨_, rfl, p, _, 0, _, rfl, rfl, L, rfl, _, rfl, _, _, rfl, rfl, m0, ?_⟩
      refine ⟨_, rfl, p, _, 0, _, rfl, rfl, L, rfl, _, rfl, _, _, rfl, rfl, ⟨m0, by omega⟩, _, rfl, p, _, 0, 0, rfl, rfl, hp, rfl, ?_⟩
      exact ⟨_, rfl, q _ _ (Int.emod_nonneg _ (by omega)) (Int.emod_lt_of_pos _ m0) ⟨_, _, _, upd_same, y0, y1, z0, by omega⟩ fun b hb => upd_ne hb⟩
    · refine ⟨_, rfl, p, _, 2, _, rfl, rfl, L, rfl, _, _, rfl, rfl, _, rfl, p, _, 2, 2, rfl, rfl, hp, rfl, ?_⟩
      have L2 : SqL K (upd H p (.lst [.int x, .int y, .int (z + 1)])) p [.int x, .int y, .int (z + 1)] := SqL.of upd_same
      have b1 : (y + 6007 * (z + 1) + 29).natAbs < 2 ^ 64 := by omega
      have b2 : (y * (z + 1) + 91193).natAbs < 2 ^ 64 := by
        have h1 : 0 ≤ y * (z + 1) := Int.mul_nonneg y0 (by omega)
        have h2 : y * (z + 1) ≤ 2147483629 * 100001 := Int.mul_le_mul (by omega) (by omega) (by omega) (by decide)
        omega
      refine ⟨_, rfl, p, _, 1, _, rfl, rfl, L2, rfl, _, rfl, p, _, 2, _, rfl, rfl, L2, rfl, _, _, rfl, rfl, .inl ⟨by decide, by decide⟩, _, _, rfl, rfl, _, _, rfl, rfl, _, _, rfl, rfl, ⟨by decide, by decide, b1⟩, _, _, rfl, rfl, (by show (0 : Int) < 2147483647; decide), ?_⟩
      refine ⟨_, rfl, p, _, 1, _, rfl, rfl, L2, rfl, _, rfl, p, _, 2, _, rfl, rfl, L2, rfl, _, _, rfl, rfl, .inl ⟨by omega, by omega⟩, _, _, rfl, rfl, _, _, rfl, rfl, ⟨by decide, by decide, b2⟩, _, _, rfl, rfl, (by show (0 : Int) < 2147483587; decide), ?_⟩
      refine ⟨_, rfl, _, _, rfl, rfl, .inr ⟨by decide, by decide⟩, _, rfl, _, _, rfl, rfl, _, _, rfl, rfl, ⟨by decide, by decide⟩, _, rfl, _, _, rfl, rfl, m0, ?_⟩
      exact q _ _ (Int.emod_nonneg _ (by omega)) (Int.emod_lt_of_pos _ m0) ⟨_, _, _, upd_same, y0, y1, by omega, by omega⟩ fun b hb => upd_ne hb
end
/-! ### data of bounded size -/
def strOk (z : Str) : Bool := (z.cps.toList.all fun c => decide (c < 16 ^ 8)) && decide (z.cps.size ≤ 40)
def intOk (i : Int) : Prop := i.natAbs < 10 ^ 12 ∨ i = 10 ^ 29
/-- nested at most k deep, at most w things each -/
def fit (w : Nat) : Nat → PyData → Prop
  | _, .none => True
  | _, .bool _ => True
  | _, .int i => intOk i
  | _, .str z => strOk z = true
  | k + 1, .list ds => ds.length ≤ w ∧ ∀ d ∈ ds, fit w k d
  | k + 1, .tuple ds => ds.length ≤ w ∧ ∀ d ∈ ds, fit w k d
  | _ + 1, .dict kv => kv = []
  | 0, .list _ => False
  | 0, .tuple _ => False
  | 0, .dict _ => False
theorem fit_tup {w k : Nat} {ds : List PyData} : fit w (k + 1) (.tuple ds) ↔ ds.length ≤ w ∧ ∀ d ∈ ds, fit w k d := by rw [fit]
theorem fit_lst {w k : Nat} {ds : List PyData} : fit w (k + 1) (.list ds) ↔ ds.length ≤ w ∧ ∀ d ∈ ds, fit w k d := by rw [fit]
theorem fit_mono {w w' : Nat} (hw : w ≤ w') : ∀ {k k' : Nat} (d : PyData), k ≤ k' → fit w k d → fit w' k' d
  | k, k', .none, _, _ => by cases k' <;> simp only [fit]
  | k, k', .bool _, _, _ => by cases k' <;> simp only [fit]
  | k, k', .int i, _, h => by
    have h' : intOk i := by cases k <;> simpa only [fit] using h
    cases k' <;> simpa only [fit] using h'
  | k, k', .str z, _, h => by
    have h' : strOk z = true := by cases k <;> simpa only [fit] using h
    cases k' <;> simpa only [fit] using h'
  | 0, _, .list _, _, h => by simp only [fit] at h
  | 0, _, .tuple _, _, h => by simp only [fit] at h
  | 0, _, .dict _, _, h => by simp only [fit] at h
  | k + 1, 0, _, hk, _ => absurd hk (by omega)
  | k + 1, k' + 1, .list ds, hk, h => by
    obtain ⟨a, b⟩ := fit_lst.mp h
    exact fit_lst.mpr ⟨Nat.le_trans a hw, fun d m => fit_mono hw d (Nat.le_of_succ_le_succ hk) (b d m)⟩
  | k + 1, k' + 1, .tuple ds, hk, h => by
    obtain ⟨a, b⟩ := fit_tup.mp h
    exact fit_tup.mpr ⟨Nat.le_trans a hw, fun d m => fit_mono hw d (Nat.le_of_succ_le_succ hk) (b d m)⟩
  | k + 1, k' + 1, .dict kv, hk, h => by
    simp only [fit] at h ⊢
    exact h
theorem fit_int {w k : Nat} {i : Int} : fit w k (.int i) ↔ intOk i := by cases k <;> simp only [fit]
theorem fit_str {w k : Nat} {z : Str} : fit w k (.str z) ↔ strOk z = true := by cases k <;> simp only [fit]
theorem fit_non {w k : Nat} : fit w k .none := by cases k <;> simp only [fit]
theorem fit_bl {w k : Nat} {b : Bool} : fit w k (.bool b) := by cases k <;> simp only [fit]
mutual
/-- no text that repr shows is longer -/
def sl : PyData → Nat
  | .none => 5
  | .bool _ => 6
  | .int i => (PyData.shown (.int i)).length + 1
  | .str z => 10 * z.cps.size + 3
  | .list ds => slA ds + 3
  | .tuple ds => slA ds + 3
  | .dict _ => 4
def slA : List PyData → Nat
  | [] => 0
  | d :: r => sl d + 2 + slA r
end
theorem sl_tup (ds : List PyData) : sl (.tuple ds) = slA ds + 3 := by simp only [sl]
theorem sl_lst (ds : List PyData) : sl (.list ds) = slA ds + 3 := by simp only [sl]
theorem slA_nil : slA [] = 0 := by simp only [slA]
theorem slA_cons (d : PyData) (r : List PyData) : slA (d :: r) = sl d + 2 + slA r := by simp only [slA]
theorem slA_app : ∀ a b : List PyData, slA (a ++ b) = slA a + slA b
  | [], b => by rw [List.nil_append, slA_nil, Nat.zero_add]
  | d :: r, b => by rw [List.cons_append, slA_cons, slA_cons, slA_app r b]; omega
theorem slA_le {n : Nat} : ∀ {l : List PyData}, (∀ d ∈ l, sl d ≤ n) → slA l ≤ (n + 2) * l.length
  | [], _ => by rw [slA_nil]; exact Nat.zero_le _
  | d :: r, h => by
    have h1 := h d List.mem_cons_self
    have h2 := slA_le (n := n) (l := r) fun x m => h x (List.mem_cons_of_mem _ m)
    rw [slA_cons, List.length_cons, Nat.mul_add]
    omega
theorem slA_mem {e : PyData} : ∀ {l : List PyData}, e ∈ l → sl e + 2 ≤ slA l
  | d :: r, m => by
    rw [slA_cons]
    rcases List.mem_cons.mp m with rfl | m
    · omega
    · have := slA_mem m; omega
theorem sl_int {i : Int} (h : i.natAbs < 10 ^ 12) : sl (.int i) ≤ 14 := by
  have := PyData.shown_int_le h
  simp only [sl]
  omega
mutual
theorem sz_sl : ∀ d : PyData, sz d ≤ sl d
  | .none => by simp only [sz, sl]; omega
  | .bool _ => by simp only [sz, sl]; omega
  | .int _ => by simp only [sz, sl]; omega
  | .str _ => by simp only [sz, sl]; omega
  | .list ds => by simp only [sz, sl]; have := szA_slA ds; omega
  | .tuple ds => by simp only [sz, sl]; have := szA_slA ds; omega
  | .dict _ => by simp only [sz, sl]; omega
theorem szA_slA : ∀ l : List PyData, szA l ≤ slA l
  | [] => by simp only [szA, slA]; omega
  | d :: r => by simp only [szA, slA]; have := sz_sl d; have := szA_slA r; omega
end

theorem showAll {w k : Nat} (ih : ∀ d, fit w k d → d.showable = true ∧ d.depth ≤ k ∧ d.shown.length ≤ sl d) : ∀ {ds : List PyData}, (∀ d ∈ ds, fit w k d) →
    PyData.showableAll ds = true ∧ PyData.depthAll ds ≤ k ∧ ((PyData.shownAll ds).map (·.length)).sum + 2 * ds.length ≤ slA ds
  | [], _ => ⟨by simp only [PyData.showableAll], by simp only [PyData.depthAll]; omega, by simp only [PyData.shownAll, List.map_nil, List.sum_nil, List.length_nil, slA]; omega⟩
  | d :: r, h => by
    obtain ⟨a1, a2, a3⟩ := ih d (h d List.mem_cons_self)
    obtain ⟨b1, b2, b3⟩ := showAll ih (ds := r) fun x m => h x (List.mem_cons_of_mem _ m)
    simp only [PyData.showableAll, PyData.depthAll, PyData.shownAll, List.map_cons, List.sum_cons, List.length_cons, slA, a1, b1, Bool.and_self]
    exact ⟨trivial, Nat.max_le.mpr ⟨a2, b2⟩, by omega⟩
theorem fit_shows {w : Nat} : ∀ {k : Nat} (d : PyData), fit w k d → d.showable = true ∧ d.depth ≤ k ∧ d.shown.length ≤ sl d
  | k, .none, _ => ⟨by simp only [PyData.showable], by simp only [PyData.depth]; omega, by show 4 ≤ sl .none; simp only [sl]; omega⟩
  | k, .bool b, _ => ⟨by simp only [PyData.showable], by simp only [PyData.depth]; omega, by
      have e : (PyData.shown (.bool b)).length ≤ 5 := by cases b <;> decide
      simp only [sl]; omega⟩
  | k, .int i, h => by
    refine ⟨?_, by simp only [PyData.depth]; omega, by simp only [sl]; omega⟩
    rcases fit_int.mp h with h | rfl
    · have l : i.natAbs.log2 ≤ 40 := by
        rcases Nat.eq_zero_or_pos i.natAbs with z | z
        · rw [z]; decide
        · exact Nat.le_of_lt_succ ((Nat.log2_lt (by omega)).mpr (Nat.lt_trans h (by decide)))
      simp only [PyData.showable]; exact decide_eq_true (by omega)
    · decide +kernel
  | k, .str z, h => by
    refine ⟨by simp only [PyData.showable], by simp only [PyData.depth]; omega, ?_⟩
    obtain ⟨a, b⟩ := Bool.and_eq_true_iff.mp (fit_str.mp h)
    have hx : ∀ c ∈ z.cps.toList, c < 16 ^ 8 := by simpa only [List.all_eq_true, decide_eq_true_eq] using a
    have e := StrLaws.reprText_len z hx
    have e2 : z.length = z.cps.size := rfl
    simp only [PyData.shown, sl]
    omega
  | 0, .list _, h => by simp only [fit] at h
  | 0, .tuple _, h => by simp only [fit] at h
  | 0, .dict _, h => by simp only [fit] at h
  | k + 1, .list ds, h => by
    obtain ⟨_, hd⟩ := fit_lst.mp h
    obtain ⟨a, b, c⟩ := showAll (fun d hd => fit_shows d hd) hd
    have h2 := listText_len_le (PyData.shownAll ds)
    have h3 := PyData.shownAll_length ds
    refine ⟨by simp only [PyData.showable]; exact a, by simp only [PyData.depth]; omega, ?_⟩
    simp only [PyData.shown, sl]
    omega
  | k + 1, .tuple ds, h => by
    obtain ⟨_, hd⟩ := fit_tup.mp h
    obtain ⟨a, b, c⟩ := showAll (fun d hd => fit_shows d hd) hd
    have h2 := tupleText_len_le (PyData.shownAll ds)
    have h3 := PyData.shownAll_length ds
    refine ⟨by simp only [PyData.showable]; exact a, by simp only [PyData.depth]; omega, ?_⟩
    simp only [PyData.shown, sl]
    omega
  | k + 1, .dict kv, h => by
    have e : kv = [] := by simpa only [fit] using h
    subst e
    refine ⟨?_, ?_, ?_⟩
    · simp only [PyData.showable, PyData.showableKv]
    · simp only [PyData.depth, PyData.depthKv]; omega
    · show (2 : Nat) ≤ sl (.dict []); simp only [sl]; omega
/-- tracked data are data -/
theorem sh_daAll {H : Hp} {P : Addr → Prop} {b : Bool} {w k : Nat} (ih : ∀ d v, fit w k d → Sh H P b v d → Da H v d) : ∀ {ds : List PyData} {vs : List V}, (∀ d ∈ ds, fit w k d) → ShAll H P b vs ds → DaAll H vs ds
  | [], _, _, h => by cases h; exact .nil
  | d :: r, _, hf, h => by
    cases h with
    | cons h1 h2 => exact .cons (ih d _ (hf d List.mem_cons_self) h1) (sh_daAll ih (fun x m => hf x (List.mem_cons_of_mem _ m)) h2)
theorem shAll_len {H : Hp} {P : Addr → Prop} {b : Bool} : ∀ {vs : List V} {ds : List PyData}, ShAll H P b vs ds → vs.length = ds.length
  | _, _, .nil => rfl
  | _, _, .cons _ r => congrArg (· + 1) (shAll_len r)
theorem sh_da {H : Hp} {P : Addr → Prop} {b : Bool} {w : Nat} (hw : w ≤ 1000) : ∀ {k : Nat} (d : PyData) (v : V), fit w k d → Sh H P b v d → Da H v d
  | _, .none, _, _, h => by cases h; exact .non
  | _, .bool _, _, _, h => by cases h; exact .bl _
  | _, .int _, _, _, h => by cases h; exact .int _
  | _, .str z, _, f, h => by
    cases h
    obtain ⟨a, b⟩ := Bool.and_eq_true_iff.mp (fit_str.mp f)
    have b := of_decide_eq_true b
    exact .str _ (by show z.cps.size ≤ 1000; omega)
  | 0, .list _, _, f, _ => by simp only [fit] at f
  | 0, .tuple _, _, f, _ => by simp only [fit] at f
  | 0, .dict _, _, f, _ => by simp only [fit] at f
  | k + 1, .list ds, _, f, h => by
    obtain ⟨l, hd⟩ := fit_lst.mp f
    cases h with
    | lst h _ _ r => exact .lst h (by rw [shAll_len r]; omega) (sh_daAll (fun d v f h => sh_da hw d v f h) hd r)
  | k + 1, .tuple ds, _, f, h => by
    obtain ⟨l, hd⟩ := fit_tup.mp f
    cases h with
    | tup h _ r => exact .tup h (by rw [shAll_len r]; omega) (sh_daAll (fun d v f h => sh_da hw d v f h) hd r)
  | k + 1, .dict kv, _, f, h => by
    cases h with
    | emp _ h _ => exact .emp h
mutual
/-- carried on: P may be sharpened by what is tracked -/
theorem Sh.on {H H' : Hp} {P P' : Addr → Prop} {b : Bool} (hp : ∀ a o, P a → H a = some o → P' a) (k : ∀ a o, P a → H a = some o → H' a = some o) : ∀ (d : PyData) (v : V), Sh H P b v d → Sh H' P' b v d
  | .none, _, h => by cases h; exact .non
  | .bool _, _, h => by cases h; exact .bl _
  | .int _, _, h => by cases h; exact .int _
  | .str _, _, h => by cases h; exact .str _
  | .list ds, _, h => by
    cases h with
    | lst h p q r => exact .lst (k _ _ p h) (hp _ _ p h) q (ShAll.on hp k ds _ r)
  | .tuple ds, _, h => by
    cases h with
    | tup h p r => exact .tup (k _ _ p h) (hp _ _ p h) (ShAll.on hp k ds _ r)
  | .dict _, _, h => by
    cases h with
    | emp q h p => exact .emp q (k _ _ p h) (hp _ _ p h)
theorem ShAll.on {H H' : Hp} {P P' : Addr → Prop} {b : Bool} (hp : ∀ a o, P a → H a = some o → P' a) (k : ∀ a o, P a → H a = some o → H' a = some o) : ∀ (ds : List PyData) (vs : List V), ShAll H P b vs ds → ShAll H' P' b vs ds
  | [], _, h => by cases h; exact .nil
  | d :: ds, _, h => by
    cases h with
    | cons h r => exact .cons (Sh.on hp k d _ h) (ShAll.on hp k ds _ r)
end
/-- all but at p is as it was -/
abbrev Kp (P : Addr → Prop) (H H' : Hp) : Prop := ∀ a o, P a → H a = some o → H' a = some o
abbrev Fr (H : Hp) : Addr → Prop := fun a => H a = none
theorem fr_back {p : Addr} {H G : Hp} {o : HO} (k : Kp (· ≠ p) H G) (hp : G p = some o) {a : Addr} (h : Fr G a) : Fr H a := by
  have na : a ≠ p := fun e => by
    rw [e] at h
    exact absurd (hp.symm.trans h) (fun z => nomatch z)
  cases e : H a with
  | none => exact e
  | some u => exact absurd ((k a u na e).symm.trans h) (fun z => nomatch z)
theorem fr_ne {p : Addr} {H : Hp} {o : HO} (hp : H p = some o) {a : Addr} (h : Fr H a) : a ≠ p := fun e => by
  rw [e] at h
  exact absurd (hp.symm.trans h) (fun z => nomatch z)
theorem Kp.trans {P : Addr → Prop} {H1 H2 H3 : Hp} (a : Kp P H1 H2) (b : Kp P H2 H3) : Kp P H1 H3 := fun x o p e => b x o p (a x o p e)
theorem kp_take {H H' : Hp} {p : Addr} (eq : ∀ b, b ≠ p → H' b = H b) : Kp (· ≠ p) H H' := fun a o n h => (eq a n).trans h
theorem kp_same {P : Addr → Prop} {G G' : Hp} (s : Same G G') : Kp P G G' := fun a o _ h => s a o h
theorem ne_free {H : Hp} {a b : Addr} {o : HO} (h : H a = some o) (n : H b = none) : b ≠ a := fun e => by
  rw [e, h] at n
  cases n
theorem pick {xs : List V} {d : Int} (d0 : 0 ≤ d) (d1 : d < (xs.length : Nat)) : ∃ v, v ∈ xs ∧ atI xs d = some v := by
  have lt : d.toNat < xs.length := by omega
  exact ⟨xs[d.toNat], List.getElem_mem lt, at_of (by omega) (List.getElem?_eq_getElem lt)⟩
end P4
end Bf

namespace Bf
open PySem PySem.Spec PyProof.Rows L2
namespace P4
section
variable {P : Program} {w : World} {K : PySem.W.Frag} {mg : Str → Option Value} {base : Heap}
abbrev pTake : List Str := ["_law_purse_here", "_law_many"]
/-- a digit is taken -/
theorem take_ok {σ : L2.St} {i : Nat} {p : Addr} {N n : Int} {E : XK} {H : Hp} {Q : VK} (hσ : σ[i]? = some (some (.ref p))) (pu : Purse H p n) (hn : n ≤ 100000) (h0 : 0 < N) (h1 : N < 1000000)
    (q : ∀ d G, 0 ≤ d → d < N → Kp (· ≠ p) H G → Purse G p (n + 1) → Q (.int d) G) : tCall spTake [] E (tCons (tVar i) (tCons (tC (.int N)) tNil)) σ H Q :=
  ⟨_, hσ, p, N, n, rfl, pu, hn, h0, h1, fun d G d0 d1 pu eq => q d G d0 d1 (kp_take eq) pu⟩
theorem _root_.Bf.Purse.ne {H : Hp} {p a : Addr} {n : Int} (pu : Purse H p n) (h : H a = none) : a ≠ p := let ⟨_, _, _, e, _⟩ := pu; ne_free e h
theorem _root_.Bf.Purse.same {H G : Hp} {p : Addr} {n : Int} (pu : Purse H p n) (s : Same H G) : Purse G p n := let ⟨x, y, z, e, r⟩ := pu; ⟨x, y, z, s _ _ e, r⟩
theorem _root_.Bf.Purse.back {H G : Hp} {p a : Addr} {n : Int} (pu : Purse G p n) (k : Kp (· ≠ p) H G) (h : G a = none) : H a = none := let ⟨_, _, _, e, _⟩ := pu; fr_back k e h
/-! ### _law_of -/
def spOf (K : PySem.W.Frag) : Sp := fun vs H Q _ => ∃ (p L : Addr) (n : Int) (xs : List V), vs = [.ref p, .ref L] ∧ Purse H p n ∧ n ≤ 100000 ∧ H L = some (.lst xs) ∧ L ≠ p ∧ xs ≠ [] ∧ xs.length ≤ 1000 ∧ ∀ v G, v ∈ xs → Kp (· ≠ p) H G → Purse G p (n + 1) → Q v G
theorem scOf : FnScope ["_law_purse_here", "_law_some"] ["_law_purse_here", "_law_some"] (defScope sOf) := ⟨rfl, rfl, rfl, by decide +kernel, rfl, by decide +kernel, by decide +kernel⟩
theorem ok_of {f ft : Addr} {fd fdt : FuncData} (F : Fun K "_law_of" "_law_of" sOf f fd) (DT : Df K mg "_law_take" ft fdt pTake) (GT : FnOk P w K mg base CX0 1 ft fdt pTake spTake) (ml : mg "len" = none) :
    FnOk P w K mg base CX0 2 f fd ["_law_purse_here", "_law_some"] (spOf K) := by
  refine F.ok scOf (fun vs H Q E h => ?_) (fun cdv A outer s H vs Q E hr h => ?_)
  · obtain ⟨p, L, n, xs, rfl, _⟩ := h
    rfl
  · obtain ⟨p, L, n, xs, rfl, pu, hn, hL, nL, ne, l, q⟩ := h
    refine ⟨_, pss_one (ps_ret (pe_ix ix_list (pv 1) (pe_call GT hr (by rfl) DT.at_ DT.kp DT.bd .nil pass0 (pa_cons (pv 0) (pa_cons (pe_callB call_len_seq (by rfl) ml PySem.boot_len (pa_cons (pv 1) pa_nil)) pa_nil))) (fun _ _ => rfl))), ?_⟩
    have l0 : 0 < xs.length := List.length_pos_iff.mpr ne
    refine ⟨_, rfl, _, rfl, _, rfl, L, xs, rfl, .inl (SqL.of hL), p, _, n, rfl, pu, hn, by omega, by omega, fun d G d0 d1 pu2 eq => ?_⟩
    obtain ⟨v, mv, ev⟩ := pick (xs := xs) d0 d1
    exact ⟨L, xs, d, v, rfl, rfl, SqL.of ((eq L nL).trans hL), ev, q v G mv (kp_take eq) pu2⟩
/-! ### _law_name -/
abbrev LET : Str := "abcdefghijklmnopqrstuvwxyz"
def nmOk (z : Str) : Prop := (∀ c ∈ z.cps.toList, c < 16 ^ 8) ∧ z.cps.size ≤ 8
theorem let_small : ∀ c ∈ LET.cps.toList, c < 16 ^ 8 := by decide +kernel
def spLN : Sp := fun vs H Q _ => ∃ (p : Addr) (n : Int), vs = [.ref p] ∧ Purse H p n ∧ n ≤ 99980 ∧ ∀ z G, nmOk z → Kp (· ≠ p) H G → Purse G p (n + 11) → Q (.str z) G
abbrev nLN : List Str := ["_law_purse_here", "_law_letters", "_law_word", "_law_k"]
theorem scLN : FnScope nLN ["_law_purse_here"] (defScope sLName) := ⟨rfl, rfl, rfl, by decide +kernel, rfl, by decide +kernel, by decide +kernel⟩
theorem at_let {d N : Int} (d0 : 0 ≤ d) (d1 : d < N) (hN : N ≤ 26) : ∃ c, atI LET.cps.toList d = some c ∧ c ∈ LET.cps.toList := by
  have l : LET.cps.toList.length = 26 := by decide +kernel
  have lt : d.toNat < LET.cps.toList.length := by omega
  refine ⟨LET.cps.toList[d.toNat], ?_, List.getElem_mem lt⟩
  have e := atI_nat (List.getElem?_eq_getElem lt)
  rw [Int.toNat_of_nonneg d0] at e
  exact e
theorem one_ok {c : Nat} (h : c ∈ LET.cps.toList) : nmOk ⟨#[c]⟩ := ⟨fun x m => by rw [List.mem_singleton.mp (show x ∈ [c] from m)]; exact let_small c h, by show 1 ≤ 8; decide⟩
/-- signs put together -/
theorem word_ok {cs : List Nat} (h : ∀ c ∈ cs, c ∈ LET.cps.toList) (l : cs.length ≤ 8) : nmOk (Txt.join "" (cs.map fun c => (⟨#[c]⟩ : Str))) := by
  refine ⟨fun c m => ?_, ?_⟩
  · have e : Txt.join "" (cs.map fun c => (⟨#[c]⟩ : Str)) = Str.join "" (cs.map fun c => (⟨#[c]⟩ : Str)) := StrLaws.glued_eq_join _ _
    rw [e, mem_join] at m
    rcases m with ⟨t, mt, mc⟩ | ⟨_, mc⟩
    · obtain ⟨x, mx, rfl⟩ := List.mem_map.mp mt
      rw [List.mem_singleton.mp (show c ∈ [x] from mc)]
      exact let_small x (h x mx)
    · cases mc
  · have e := size_glued "" (cs.map fun c => (⟨#[c]⟩ : Str))
    have s0 : ∀ l : List Nat, ((l.map fun c => (⟨#[c]⟩ : Str)).map (·.length)).sum = l.length := by
      intro l
      induction l with
      | nil => rfl
      | cons a r ih => rw [List.map_cons, List.map_cons, List.sum_cons, ih, List.length_cons]; show 1 + r.length = _; omega
    rw [s0] at e
    show (Builtin.Str.glued "" _).length ≤ 8
    rw [e, show (("" : Str)).length = 0 from rfl]
    omega
theorem cut_ok {z : Str} (h : nmOk z) (lo hi : Option Int) : nmOk (cutS z lo hi) := by
  refine ⟨fun c m => ?_, ?_⟩
  · exact h.1 c (List.mem_of_mem_drop (List.mem_of_mem_take m))
  · have e : (cutS z lo hi).cps.size = ((z.cps.toList.drop (HT.sIx z.length 0 lo)).take (HT.sIx z.length z.length hi - HT.sIx z.length 0 lo)).length := by unfold cutS; rw [List.size_toArray]
    have l8 : z.cps.toList.length ≤ 8 := h.2
    rw [e, List.length_take, List.length_drop]
    omega
theorem ok_lname {f ft : Addr} {fd fdt : FuncData} (F : Fun K "_law_name" "_law_name" sLName f fd) (DT : Df K mg "_law_take" ft fdt pTake) (GT : FnOk P w K mg base CX0 1 ft fdt pTake spTake) (mr : mg "range" = none) :
    FnOk P w K mg base CX0 2 f fd ["_law_purse_here"] spLN := by
  refine F.ok scLN (fun vs H Q E h => ?_) (fun cdv A outer s H vs Q E hr h => ?_)
  · obtain ⟨p, n, rfl, _⟩ := h
    rfl
  · obtain ⟨p, n, rfl, pu, hn, q⟩ := h
    refine ⟨_, pss_cons (ps_set (i := 1) scLN.nd rfl (Or.inr rfl) pe_str)
      (pss_cons (ps_set (i := 2) scLN.nd rfl (Or.inl rfl) (pe_join pe_str (pe_lc (own := [("_law_k", 3)]) (g := gName 3) (tt := tYes) rfl scLN.nd (pi_range1 (by rfl) mr (pa_cons pe_int pa_nil)) (blkOk_by (N := nLN) (sc := defScope sLName) (by decide +kernel))
        (fun _ _ _ _ _ => pg_name (i := 3) scLN.nd rfl (Or.inl rfl)) (fun _ _ _ _ _ => pts_nil) (fun _ _ _ _ _ => pe_ix ix_str (pv 1) (pe_call GT hr (by rfl) DT.at_ DT.kp DT.bd .nil pass0 (pa_cons (pv 0) (pa_cons pe_int pa_nil))) (fun _ _ => rfl)))))
      (pss_cons (ps_set (i := 2) scLN.nd rfl (Or.inl rfl) (pe_slice sl_str (pv 2) po_none (po_some (pe_op op_add pe_int (pe_call GT hr (by rfl) DT.at_ DT.kp DT.bd .nil pass0 (pa_cons (pv 0) (pa_cons pe_int pa_nil)))))))
      (pss_one (ps_ret (pe_ifExp (pt_cmpR op_gt (pe_call GT hr (by rfl) DT.at_ DT.kp DT.bd .nil pass0 (pa_cons (pv 0) (pa_cons pe_int pa_nil))) pe_int (nomark _))
        (pe_ix ix_str (pv 1) (pe_call GT hr (by rfl) DT.at_ DT.kp DT.bd .nil pass0 (pa_cons (pv 0) (pa_cons pe_int pa_nil))) (fun _ _ => rfl)) (pv 2)))))), ?_⟩
    refine ⟨⟨_, rfl⟩, 8, rfl, by decide, by decide, fun D hD => ?_⟩
    have nD := pu.ne hD
    refine lc_range (lo := 0) (n := 8) (fun k G => ∃ cs : List Nat, cs.length = k ∧ (∀ c ∈ cs, c ∈ LET.cps.toList) ∧ G D = some (.lst ((cs.map fun c => (⟨#[c]⟩ : Str)).map V.str)) ∧ Kp (· ≠ p) H G ∧ Purse G p (n + (k : Int)))
      ⟨[], rfl, (fun _ m => nomatch m), upd_same, kp_same (same_new hD), by rw [show n + ((0 : Nat) : Int) = n by omega]; exact pu.of (upd_ne nD.symm)⟩ (fun k G hk pv => ?_) fun G pv => ?_
    · obtain ⟨cs, lc, hc, gD, kG, pG⟩ := pv
      refine ⟨rfl, _, rfl, take_ok (i := 0) rfl pG (by omega) (by decide) (by decide) (fun d G2 d0 d1 k2 pu2 => ?_)⟩
      obtain ⟨c, ec, mc⟩ := at_let d0 d1 (by decide)
      refine ⟨LET, d, c, rfl, rfl, by decide +kernel, ec, _, k2 _ _ nD gD, by rw [List.length_map, List.length_map, lc]; exact small1000 (by omega), cs ++ [c], by rw [List.length_append, lc]; rfl, fun x m => ?_, ?_, fun a o na h => ?_, ?_⟩
      · rcases List.mem_append.mp m with m | m
        · exact hc x m
        · rw [List.mem_singleton.mp m]; exact mc
      · rw [upd_same, List.map_append, List.map_append]; rfl
      · rw [upd_ne (ne_of_none h hD)]
        exact k2 a o na (kG a o na h)
      · rw [show n + ((k + 1 : Nat) : Int) = n + (k : Int) + 1 by omega]
        exact pu2.of (upd_ne nD.symm)
    · obtain ⟨cs, lc, hc, gD, kG, pG⟩ := pv
      have w0 := word_ok hc (by omega)
      have sz0 : (((cs.map fun c => (⟨#[c]⟩ : Str))).map (·.length)).sum = cs.length := by
        have : ∀ l : List Nat, ((l.map fun c => (⟨#[c]⟩ : Str)).map (·.length)).sum = l.length := by
          intro l
          induction l with
          | nil => rfl
          | cons a r ih => rw [List.map_cons, List.map_cons, List.sum_cons, ih, List.length_cons]; show 1 + r.length = _; omega
        exact this cs
      refine ⟨"", D, _, rfl, rfl, .inl (SqL.of gD), ?_, ?_⟩
      · rw [sz0, lc, List.length_map, lc]; decide
      refine ⟨_, rfl, take_ok (i := 0) rfl pG (by omega) (by decide) (by decide) (fun d G2 d0 d1 k2 pu2 => ?_)⟩
      refine ⟨_, _, rfl, rfl, _, rfl, _, rfl, Nat.le_trans w0.2 (by decide), ?_⟩
      have w1 := cut_ok w0 none (some (1 + d))
      generalize cutS (Txt.join "" (cs.map fun c => (⟨#[c]⟩ : Str))) none (some (1 + d)) = z at w1
      refine take_ok (i := 0) rfl pu2 (by omega) (by decide) (by decide) (fun e G3 e0 e1 k3 pu3 => ?_)
      have k03 : Kp (· ≠ p) H G3 := fun a o na h => k3 a o na (k2 a o na (kG a o na h))
      refine ⟨_, _, rfl, rfl, _, rfl, ite2 (fun _ => ?_) (fun _ => ?_)⟩
      · refine ⟨_, rfl, take_ok (i := 0) rfl pu3 (by omega) (by decide) (by decide) (fun u G4 u0 u1 k4 pu4 => ?_)⟩
        obtain ⟨c, ec, mc⟩ := at_let u0 u1 (by decide)
        exact ⟨LET, u, c, rfl, rfl, by decide +kernel, ec, q _ _ (one_ok mc) (fun a o na h => k4 a o na (k03 a o na h)) (pu4.mono (by omega))⟩
      · exact ⟨_, rfl, q _ _ w1 k03 (pu3.mono (by omega))⟩
end
end P4
end Bf

namespace Bf
open PySem PySem.Spec PyProof.Rows L2
theorem ixT {X : Cx} {K : PySem.W.Frag} (h : X.K = K) : IxR X (rIxT K) := by
  subst h
  exact ix_tup
theorem ixL {X : Cx} {K : PySem.W.Frag} (h : X.K = K) : IxR X (rIxL K) := by
  subst h
  exact ix_list
theorem lenK {X : Cx} {K : PySem.W.Frag} (h : X.K = K) : CallR X (.builtin "len") (fun xs H Q => ∃ p ys, xs = [.ref p] ∧ (SqL K H p ys ∨ SqT K H p ys) ∧ Q (.int ys.length) H) := by
  subst h
  exact call_len_seq
namespace P4
section
variable {P : Program} {w : World} {K : PySem.W.Frag} {mg : Str → Option Value} {base : Heap}
/-- a promise of nothing -/
theorem fn_false {f : Addr} {fd : FuncData} {ps : List Str} {k : Nat} : FnOk P w K mg base CX0 k f fd ps (fun _ _ _ _ => False) := ⟨fun _ _ _ _ h => h.elim, fun _ _ _ _ _ _ _ _ _ _ _ _ _ h => h.elim⟩
/-! ### _law_kind -/
def KindV (H G : Hp) (v : V) : Prop := (∃ z : Int, v = .int z ∧ 1 ≤ z ∧ z ≤ 8) ∨ ∃ (t : Addr) (m z : Int), v = .ref t ∧ H t = none ∧ G t = some (.tup [.int m, .int z]) ∧ 2 ≤ m ∧ m ≤ 4 ∧ 1 ≤ z ∧ z ≤ 8
def spLK : Sp := fun vs H Q _ => ∃ (p : Addr) (n : Int), vs = [.ref p] ∧ Purse H p n ∧ n ≤ 99980 ∧ ∀ v G, KindV H G v → Kp (· ≠ p) H G → Purse G p (n + 4) → Q v G
theorem scLK : FnScope ["_law_purse_here", "_law_width"] ["_law_purse_here"] (defScope sLKind) := ⟨rfl, rfl, rfl, by decide +kernel, rfl, by decide +kernel, by decide +kernel⟩
theorem ok_lkind {f ft : Addr} {fd fdt : FuncData} (F : Fun K "_law_kind" "_law_kind" sLKind f fd) (DT : Df K mg "_law_take" ft fdt pTake) (GT : FnOk P w K mg base CX0 1 ft fdt pTake spTake) : FnOk P w K mg base CX0 2 f fd ["_law_purse_here"] spLK := by
  refine F.ok scLK (fun vs H Q E h => ?_) (fun cdv A outer s H vs Q E hr h => ?_)
  · obtain ⟨p, n, rfl, _⟩ := h
    rfl
  · obtain ⟨p, n, rfl, pu, hn, q⟩ := h
    refine ⟨_, pss_cons (ps_set (i := 1) scLK.nd rfl (Or.inl rfl) (pe_ix ix_list (pe_lst (pa_cons pe_int (pa_cons pe_int (pa_cons (pe_op op_add pe_int (pe_call GT hr (by rfl) DT.at_ DT.kp DT.bd .nil pass0 (pa_cons (pv 0) (pa_cons pe_int pa_nil)))) pa_nil))))
        (pe_call GT hr (by rfl) DT.at_ DT.kp DT.bd .nil pass0 (pa_cons (pv 0) (pa_cons pe_int pa_nil))) (fun _ _ => rfl)))
      (pss_one (ps_ret (pe_ix ix_list (pe_lst (pa_cons (pv 1) (pa_cons (pv 1) (pa_cons (pe_tup (pa_cons (pe_op op_add pe_int (pe_call GT hr (by rfl) DT.at_ DT.kp DT.bd .nil pass0 (pa_cons (pv 0) (pa_cons pe_int pa_nil)))) (pa_cons (pv 1) pa_nil))) pa_nil))))
        (pe_call GT hr (by rfl) DT.at_ DT.kp DT.bd .nil pass0 (pa_cons (pv 0) (pa_cons pe_int pa_nil))) (fun _ _ => rfl)))), ?_⟩
    dsimp only [gName, tSeq, tAsg]
    refine take_ok (i := 0) rfl pu (by omega) (by decide) (by decide) (fun d H1 d0 d1 k1 pu1 => ⟨_, _, rfl, rfl, by show 3 ≤ sizeLine; decide, fun L hL => ?_⟩)
    have nL := pu1.ne hL
    refine take_ok (i := 0) rfl (pu1.of (upd_ne nL.symm)) (by omega) (by decide) (by decide) (fun e H2 e0 e1 k2 pu2 => ?_)
    obtain ⟨v, mv, ev⟩ := pick (xs := [.int 1, .int 8, .int (1 + d)]) e0 e1
    refine ⟨L, _, e, v, rfl, rfl, SqL.of (k2 _ _ nL upd_same), ev, ?_⟩
    have k02 : Kp (· ≠ p) H H2 := fun a o na h => k2 a o na (by rw [upd_ne (ne_of_none (k1 a o na h) hL)]; exact k1 a o na h)
    clear ev
    obtain ⟨z, rfl, z1, z8⟩ : ∃ z : Int, v = .int z ∧ 1 ≤ z ∧ z ≤ 8 := by
      simp only [List.mem_cons, List.not_mem_nil, or_false] at mv
      rcases mv with rfl | rfl | rfl
      · exact ⟨_, rfl, by decide, by decide⟩
      · exact ⟨_, rfl, by decide, by decide⟩
      · exact ⟨_, rfl, by omega, by omega⟩
    refine ⟨_, rfl, _, rfl, take_ok (i := 0) rfl pu2 (by omega) (by decide) (by decide) (fun d' H3 d0' d1' k3 pu3 => ⟨_, _, rfl, rfl, _, rfl, by show 2 ≤ sizeLine; decide, fun t ht => ⟨by show 3 ≤ sizeLine; decide, fun L2 hL2 => ?_⟩⟩)⟩
    have nt := pu3.ne ht
    have pu3' := pu3.of (H' := upd H3 t (.tup [.int (2 + d'), .int z])) (upd_ne nt.symm)
    have nL2 := pu3'.ne hL2
    have ntL : t ≠ L2 := fun e => by rw [← e, upd_same] at hL2; cases hL2
    refine take_ok (i := 0) rfl (pu3'.of (upd_ne nL2.symm)) (by omega) (by decide) (by decide) (fun e' H4 e0' e1' k4 pu4 => ?_)
    obtain ⟨v, mv, ev⟩ := pick (xs := [V.int z, .int z, .ref t]) e0' e1'
    refine ⟨L2, _, e', v, rfl, rfl, SqL.of (k4 _ _ nL2 upd_same), ev, ?_⟩
    clear ev
    have k03 : Kp (· ≠ p) H H3 := fun a o na h => k3 a o na (k02 a o na h)
    have s4 : Same H3 (upd (upd H3 t (.tup [.int (2 + d'), .int z])) L2 (.lst [.int z, .int z, .ref t])) := same_trans_new (same_new ht) hL2
    have k04 : Kp (· ≠ p) H H4 := fun a o na h => k4 a o na (s4 a o (k03 a o na h))
    have pu4' := pu4.mono (m := n + 4) (by omega)
    simp only [List.mem_cons, List.not_mem_nil, or_false] at mv
    rcases mv with rfl | rfl | rfl
    · exact q _ _ (.inl ⟨z, rfl, z1, z8⟩) k04 pu4'
    · exact q _ _ (.inl ⟨z, rfl, z1, z8⟩) k04 pu4'
    · exact q _ _ (.inr ⟨t, _, z, rfl, pu3.back k03 ht, k4 _ _ nt (by rw [upd_ne ntL, upd_same]), by omega, by omega, z1, z8⟩) k04 pu4'
/-! ### _law_worth -/
def spLW (m : Nat) : Sp := fun vs H Q _ => ∃ (p : Addr) (n : Int) (k : V), vs = [.ref p, k] ∧ Purse H p n ∧ n ≤ 99980 ∧
  ((0 < m ∧ ∃ z : Int, k = .int z ∧ 1 ≤ z ∧ z ≤ 8 ∧ ∀ i G, 0 ≤ i → i < 256 → Kp (· ≠ p) H G → Purse G p (n + 2) → Q (.int i) G) ∨
   (1 < m ∧ n ≤ 99970 ∧ ∃ (t : Addr) (c z : Int), k = .ref t ∧ H t = some (.tup [.int c, .int z]) ∧ 2 ≤ c ∧ c ≤ 4 ∧ 1 ≤ z ∧ z ≤ 8 ∧
     ∀ (u : Addr) (js : List Int) G, js.length ≤ 4 → (∀ j ∈ js, 0 ≤ j ∧ j < 256) → H u = none → G u = some (.tup (js.map V.int)) → Kp (· ≠ p) H G → Purse G p (n + 8) → Q (.ref u) G))
abbrev pLW : List Str := ["_law_purse_here", "_law_kind_here"]
abbrev nLW : List Str := ["_law_purse_here", "_law_kind_here", "_law_k"]
theorem scLW : FnScope nLW pLW (defScope sLWorth) := ⟨rfl, rfl, rfl, by decide +kernel, rfl, by decide +kernel, by decide +kernel⟩
theorem ok_lworth {f ft : Addr} {fd fdt : FuncData} (F : Fun K "_law_worth" "_law_worth" sLWorth f fd) (D : Df K mg "_law_worth" f fd pLW) (DT : Df K mg "_law_take" ft fdt pTake) (GT : FnOk P w K mg base CX0 1 ft fdt pTake spTake) (mi : mg "isinstance" = none) (mt : mg "tuple" = none) (mr : mg "range" = none) :
    ∀ m, FnOk P w K mg base CX0 (m + 1) f fd pLW (spLW m)
  | 0 => ⟨fun _ _ _ _ ⟨_, _, _, e, _⟩ => by rw [e]; rfl, fun _ _ _ _ _ _ _ _ _ _ _ _ _ ⟨_, _, _, _, _, _, h⟩ => by
      rcases h with ⟨z, _⟩ | ⟨z, _⟩
      · exact absurd z (by decide)
      · exact absurd z (by decide)⟩
  | m + 1 => by
    have GR := ok_lworth F D DT GT mi mt mr m
    refine F.ok scLW (fun vs H Q E h => ?_) (fun cdv A outer s H vs Q E hr h => ?_)
    · obtain ⟨p, n, k, rfl, _⟩ := h
      rfl
    · obtain ⟨p, n, k, rfl, pu, hn, q⟩ := h
      have hr1 := hr.mono (by omega : 1 ≤ m + 1)
      refine ⟨_, pss_cons (ps_if (pt_val (pe_callB call_isi (by rfl) mi (by decide +kernel) (pa_cons (pv 1) (pa_cons (pe_bltn (v := .ty "tuple") (by rfl) mt (by decide +kernel) rfl) pa_nil))))
          (pss_one (ps_ret (pe_callTy call_tuple_of (by rfl) mt (by decide +kernel) (pa_cons (pe_lc (own := [("_law_k", 2)]) (g := gName 2) (tt := tYes) rfl scLW.nd (pi_range1 (by rfl) mr (pa_cons (pe_ix ix_tup (pv 1) pe_int (fun _ _ => rfl)) pa_nil)) (blkOk_by (N := nLW) (sc := defScope sLWorth) (by decide +kernel))
            (fun _ _ _ _ _ => pg_name (i := 2) scLW.nd rfl (Or.inl rfl)) (fun _ _ _ _ _ => pts_nil) (fun _ _ _ _ _ => pe_call GR hr (by rfl) D.at_ D.kp D.bd .nil pass0 (pa_cons (pv 0) (pa_cons (pe_ix (ixT (K := K) rfl) (pv 1) pe_int (fun _ _ => rfl)) pa_nil)))) pa_nil)))) pss_nil)
        (pss_one (ps_ret (pe_ix ix_list (pe_lst (pa_cons pe_int (pa_cons (pe_op op_sub (pe_op op_shl pe_int (pv 1)) pe_int) (pa_cons (pe_call GT hr1 (by rfl) DT.at_ DT.kp DT.bd .nil pass0 (pa_cons (pv 0) (pa_cons (pe_op op_shl pe_int (pv 1)) pa_nil))) pa_nil))))
          (pe_call GT hr1 (by rfl) DT.at_ DT.kp DT.bd .nil pass0 (pa_cons (pv 0) (pa_cons pe_int pa_nil))) (fun _ _ => rfl)))), ?_⟩
      rcases q with ⟨-, z, rfl, z1, z8, q⟩ | ⟨m1, hn7, t, c, z, rfl, ht, c2, c4, z1, z8, q⟩
      · refine ⟨_, rfl, .int z, .ty "tuple", _, _, _, rfl, .ty "tuple", (Kn.int (K := K) (H := H) z).ty, kit_ty (by decide +kernel), _, rfl, iteF ?_⟩
        obtain ⟨T, hT, t2, t256⟩ : ∃ T : Int, (2 : Int) ^ z.toNat = T ∧ 2 ≤ T ∧ T ≤ 256 := by
          have c : z = 1 ∨ z = 2 ∨ z = 3 ∨ z = 4 ∨ z = 5 ∨ z = 6 ∨ z = 7 ∨ z = 8 := by omega
          rcases c with rfl | rfl | rfl | rfl | rfl | rfl | rfl | rfl <;> exact ⟨_, rfl, by decide, by decide⟩
        refine ⟨_, rfl, _, _, rfl, rfl, ⟨by omega, by omega, by decide⟩, _, _, rfl, rfl, ?_⟩
        refine ⟨_, rfl, _, rfl, _, _, rfl, rfl, ⟨by omega, by omega, by decide⟩, p, _, n, rfl, pu, by omega, by rw [hT]; omega, by rw [hT]; omega, fun d H1 d0 d1 pu1 eq1 => ?_⟩
        refine ⟨by show 3 ≤ sizeLine; decide, fun L hL => ?_⟩
        have nL := pu1.ne hL
        refine take_ok (i := 0) rfl (pu1.of (upd_ne nL.symm)) (by omega) (by decide) (by decide) (fun e H2 e0 e1 k2 pu2 => ?_)
        obtain ⟨v, mv, ev⟩ := pick (xs := [.int 0, .int (1 * 2 ^ z.toNat - 1), .int d]) e0 e1
        refine ⟨L, _, e, v, rfl, rfl, SqL.of (k2 _ _ nL upd_same), ev, ?_⟩
        have k02 : Kp (· ≠ p) H H2 := fun a o na h => k2 a o na (by rw [upd_ne (ne_of_none ((eq1 a na).trans h) hL)]; exact (eq1 a na).trans h)
        clear ev
        simp only [List.mem_cons, List.not_mem_nil, or_false] at mv
        rw [hT] at mv d1
        have pu2' := pu2.mono (m := n + 2) (by omega)
        rcases mv with rfl | rfl | rfl
        · exact q _ _ (by omega) (by omega) k02 pu2'
        · exact q _ _ (by omega) (by omega) k02 pu2'
        · exact q _ _ (by omega) (by omega) k02 pu2'
      · have ntp : t ≠ p := fun e => by
          obtain ⟨_, _, _, e2, _⟩ := id pu
          rw [← e, ht] at e2
          cases e2
        refine ⟨_, rfl, .ref t, .ty "tuple", _, _, _, rfl, .ty "tuple", (Kn.tup (K := K) (.base (.tup ht))).ty, kit_ty (by decide +kernel), _, rfl, iteT ?_⟩
        refine ⟨_, rfl, t, _, 0, _, rfl, rfl, SqT.of ht, rfl, c, rfl, by omega, by omega, fun D hD => ?_⟩
        have nD := pu.ne hD
        refine lc_range (lo := 0) (n := c.toNat) (fun k G => ∃ js : List Int, js.length = k ∧ (∀ j ∈ js, 0 ≤ j ∧ j < 256) ∧ G D = some (.lst (js.map V.int)) ∧ Kp (· ≠ p) H G ∧ Purse G p (n + 2 * (k : Int)))
          ⟨[], rfl, (fun _ m => nomatch m), upd_same, kp_same (same_new hD), by rw [show n + 2 * ((0 : Nat) : Int) = n by omega]; exact pu.of (upd_ne nD.symm)⟩ (fun k G hk pv => ?_) fun G pv => ?_
        · obtain ⟨js, lj, hj, gD, kG, pG⟩ := pv
          refine ⟨rfl, _, rfl, _, rfl, t, _, 1, _, rfl, rfl, SqT.of (kG _ _ ntp ht), rfl, p, _, _, rfl, pG, by omega, .inl ⟨by omega, z, rfl, z1, z8, fun i G2 i0 i1 k2 pu2 => ?_⟩⟩
          refine ⟨_, k2 _ _ nD gD, by rw [List.length_map, lj]; exact small1000 (by omega), js ++ [i], by rw [List.length_append, lj]; rfl, fun x mx => ?_, ?_, fun a o na h => ?_, ?_⟩
          · rcases List.mem_append.mp mx with mx | mx
            · exact hj x mx
            · rw [List.mem_singleton.mp mx]; exact ⟨i0, i1⟩
          · rw [upd_same, List.map_append]; rfl
          · rw [upd_ne (ne_of_none h hD)]
            exact k2 a o na (kG a o na h)
          · rw [show n + 2 * ((k + 1 : Nat) : Int) = n + 2 * (k : Int) + 2 by omega]
            exact pu2.of (upd_ne nD.symm)
        · obtain ⟨js, lj, hj, gD, kG, pG⟩ := pv
          refine ⟨D, _, rfl, .inl ⟨SqL.of gD, fun u hu => ?_⟩⟩
          exact q u js _ (by omega) hj (pG.back kG hu) upd_same (fun a o na h => same_new hu _ _ (kG a o na h)) ((pG.of (upd_ne (pG.ne hu).symm)).mono (by omega))
end
end P4
end Bf

namespace Bf
open PySem PySem.Spec PyProof.Rows L2
namespace P4
def S : Nat → Nat
  | 0 => 150
  | k + 1 => 4 * S k + 60
def T : Nat → Nat
  | 0 => 13
  | k + 1 => 3 * T k + 14
theorem S_ge : ∀ k, 150 ≤ S k
  | 0 => Nat.le_refl _
  | k + 1 => by have := S_ge k; show 150 ≤ 4 * S k + 60; omega
theorem T_ge : ∀ k, 13 ≤ T k
  | 0 => Nat.le_refl _
  | k + 1 => by have := T_ge k; show 13 ≤ 3 * T k + 14; omega
theorem slS {z : Str} {n : Nat} (h : z.cps.size ≤ n) : sl (.str z) ≤ 10 * n + 3 := by
  simp only [sl]; omega
theorem fitA_nil {w k : Nat} : ∀ d ∈ ([] : List PyData), fit w k d := fun _ m => nomatch m
theorem fitA_cons {w k : Nat} {d : PyData} {r : List PyData} (h : fit w k d) (t : ∀ d ∈ r, fit w k d) : ∀ e ∈ d :: r, fit w k e := fun e m => (List.mem_cons.mp m).elim (fun z => z ▸ h) (t e)
theorem nm_fit {w k : Nat} {z : Str} (h : nmOk z) : fit w k (.str z) := fit_str.mpr (Bool.and_eq_true_iff.mpr ⟨List.all_eq_true.mpr fun c m => decide_eq_true (h.1 c m), decide_eq_true (Nat.le_trans h.2 (by decide))⟩)
theorem int_fit {w k : Nat} {i : Int} (a : -1000 ≤ i) (b : i ≤ 1000) : fit w k (.int i) := fit_int.mpr (.inl (by omega))
theorem sl_small {i : Int} (a : -1000 ≤ i) (b : i ≤ 1000) : sl (.int i) ≤ 14 := sl_int (by omega)
section
variable {p : Addr} {H G G' : Hp} {v : V} {d : PyData} {n : Int}
theorem sh_step (pu : Purse H p n) (k : Kp (· ≠ p) G G') (h : Sh G (Fr H) true v d) : Sh G' (Fr H) true v d := Sh.on (fun _ _ f _ => f) (fun a o f e => k a o (pu.ne f) e) d v h
theorem sh_same {P : Addr → Prop} {b : Bool} (s : Same G G') (h : Sh G P b v d) : Sh G' P b v d := Sh.on (fun _ _ f _ => f) (fun a o _ e => s a o e) d v h
theorem sh_back (pu : Purse G p n) (k : Kp (· ≠ p) H G) (h : Sh G' (Fr G) true v d) : Sh G' (Fr H) true v d := Sh.on (fun _ _ f _ => pu.back k f) (fun _ _ _ e => e) d v h
theorem shAll_same {P : Addr → Prop} {b : Bool} {vs : List V} {ds : List PyData} (s : Same G G') (h : ShAll G P b vs ds) : ShAll G' P b vs ds := ShAll.on (fun _ _ f _ => f) (fun a o _ e => s a o e) ds vs h
theorem shAll_ints {P : Addr → Prop} {b : Bool} : ∀ ns : List Int, ShAll G P b (ns.map V.int) (ns.map PyData.int)
  | [] => .nil
  | n :: r => .cons (.int n) (shAll_ints r)
/-- a kind as data -/
theorem kind_data (h : KindV H G v) : ∃ d, Sh G (Fr H) true v d ∧ fit 4 1 d ∧ sl d ≤ 35 := by
  rcases h with ⟨z, rfl, z1, z8⟩ | ⟨t, m, z, rfl, ht, gt, m2, m4, z1, z8⟩
  · exact ⟨_, .int z, int_fit (by omega) (by omega), Nat.le_trans (sl_small (by omega) (by omega)) (by decide)⟩
  · refine ⟨.tuple [.int m, .int z], .tup gt ht (.cons (.int m) (.cons (.int z) .nil)), fit_tup.mpr ⟨by show 2 ≤ 4; decide, fitA_cons (int_fit (by omega) (by omega)) (fitA_cons (int_fit (by omega) (by omega)) fitA_nil)⟩, ?_⟩
    have a := sl_small (i := m) (by omega) (by omega)
    have b := sl_small (i := z) (by omega) (by omega)
    rw [sl_tup, slA_cons, slA_cons, slA_nil]
    omega
theorem ints_data {t : Addr} {js : List Int} (l : js.length ≤ 4) (hj : ∀ j ∈ js, 0 ≤ j ∧ j < 256) (ht : H t = none) (gt : G t = some (.tup (js.map V.int))) : ∃ d, Sh G (Fr H) true (.ref t) d ∧ fit 4 1 d ∧ sl d ≤ 67 := by
  refine ⟨.tuple (js.map PyData.int), .tup gt ht (shAll_ints js), fit_tup.mpr ⟨by rw [List.length_map]; exact l, fun d m => ?_⟩, ?_⟩
  · obtain ⟨j, mj, rfl⟩ := List.mem_map.mp m
    have := hj j mj
    exact int_fit (by omega) (by omega)
  · have a := slA_le (n := 14) (l := js.map PyData.int) fun d m => by
      obtain ⟨j, mj, rfl⟩ := List.mem_map.mp m
      have := hj j mj
      exact sl_small (by omega) (by omega)
    rw [List.length_map] at a
    rw [sl_tup]
    omega
end
def spAny (m : Nat) : Sp := fun vs H Q _ => ∃ (p : Addr) (n e : Int) (k : Nat), vs = [.ref p, .int e] ∧ e = (k : Int) ∧ k < m ∧ Purse H p n ∧ n + (T k : Int) ≤ 99900 ∧
  ∀ v d G, Sh G (Fr H) true v d → fit 4 (2 * k + 2) d → sl d ≤ S k → (∃ ds, d = .tuple ds ∧ ds ≠ []) → Kp (· ≠ p) H G → Purse G p (n + (T k : Int)) → Q v G
abbrev pAny : List Str := ["_law_purse_here", "_law_deep"]
abbrev nAny : List Str := ["_law_purse_here", "_law_deep", "_law_way", "_law_kind_here", "_law_one", "_law_other"]
theorem scAny : FnScope nAny pAny (defScope sAny) := ⟨rfl, rfl, rfl, by decide +kernel, rfl, by decide +kernel, by decide +kernel⟩
section
variable {P : Program} {w : World} {K : PySem.W.Frag} {mg : Str → Option Value} {base : Heap}
/-- the defs that the makers call -/
structure Mkr (P : Program) (w : World) (K : PySem.W.Frag) (mg : Str → Option Value) (base : Heap) (ft fn fk fo : Addr) (dt dn dk do_ : FuncData) : Prop where
  DT : Df K mg "_law_take" ft dt pTake
  GT : FnOk P w K mg base CX0 1 ft dt pTake spTake
  DN : Df K mg "_law_name" fn dn ["_law_purse_here"]
  GN : FnOk P w K mg base CX0 2 fn dn ["_law_purse_here"] spLN
  DK : Df K mg "_law_kind" fk dk ["_law_purse_here"]
  GK : FnOk P w K mg base CX0 2 fk dk ["_law_purse_here"] spLK
  DO : Df K mg "_law_worth" fo do_ pLW
  GO : FnOk P w K mg base CX0 3 fo do_ pLW (spLW 2)
theorem if_take {b : Bool} {σ : L2.St} {i : Nat} {p : Addr} {n : Int} {E : XK} {H : Hp} {Q : VK} (hσ : σ[i]? = some (some (.ref p))) (pu : Purse H p n) (hn : n ≤ 100000)
    (q : ∀ d G, 0 ≤ d → d < 12 → (b = true → d < 3) → Kp (· ≠ p) H G → Purse G p (n + 1) → Q (.int d) G) :
    if b = true then tCall spTake [] E (tCons (tVar i) (tCons (tC (.int 3)) tNil)) σ H Q else tCall spTake [] E (tCons (tVar i) (tCons (tC (.int 12)) tNil)) σ H Q := by
  cases b with
  | true => exact iteT (take_ok hσ pu hn (by decide) (by decide) fun d G d0 d1 => q d G d0 (by omega) fun _ => d1)
  | false => exact iteF (take_ok hσ pu hn (by decide) (by decide) fun d G d0 d1 => q d G d0 d1 fun z => nomatch z)
/-- [1, 8, 1 + a digit][a digit] -/
theorem size_ok {σ : L2.St} {i : Nat} {p : Addr} {n : Int} {E E2 : XK} {H : Hp} {Q : VK} (hσ : σ[i]? = some (some (.ref p))) (pu : Purse H p n) (hn : n ≤ 99990) (q : ∀ k G, 1 ≤ k → k ≤ 8 → Kp (· ≠ p) H G → Purse G p (n + 2) → Q (.int k) G) :
    tOp (rIxL K) (tLst (tCons (tC (.int 1)) (tCons (tC (.int 8)) (tCons (tOp (rI0 fun i j => .int (i + j)) (tC (.int 1)) (tCall spTake [] E (tCons (tVar i) (tCons (tC (.int 8)) tNil)))) tNil)))) (tCall spTake [] E2 (tCons (tVar i) (tCons (tC (.int 3)) tNil))) σ H Q := by
  refine take_ok hσ pu (by omega) (by decide) (by decide) (fun d H1 d0 d1 k1 pu1 => ⟨_, _, rfl, rfl, by show 3 ≤ sizeLine; decide, fun L hL => ?_⟩)
  have nL := pu1.ne hL
  refine take_ok hσ (pu1.of (upd_ne nL.symm)) (by omega) (by decide) (by decide) (fun e H2 e0 e1 k2 pu2 => ?_)
  obtain ⟨v, mv, ev⟩ := pick (xs := [.int 1, .int 8, .int (1 + d)]) e0 e1
  refine ⟨L, _, e, v, rfl, rfl, SqL.of (k2 _ _ nL upd_same), ev, ?_⟩
  have k02 : Kp (· ≠ p) H H2 := fun a o na h => k2 a o na (same_new hL _ _ (k1 a o na h))
  clear ev
  have pu3 := pu2.mono (m := n + 2) (by omega)
  simp only [List.mem_cons, List.not_mem_nil, or_false] at mv
  rcases mv with rfl | rfl | rfl
  · exact q _ _ (by decide) (by decide) k02 pu3
  · exact q _ _ (by decide) (by decide) k02 pu3
  · exact q _ _ (by omega) (by omega) k02 pu3
set_option maxHeartbeats 2000000 in
theorem ok_any {f ft fn fk fo : Addr} {fd dt dn dk do_ : FuncData} (F : Fun K "_law_any" "_law_any" sAny f fd) (D : Df K mg "_law_any" f fd pAny) (M : Mkr P w K mg base ft fn fk fo dt dn dk do_) : ∀ m, FnOk P w K mg base CX0 (m + 3) f fd pAny (spAny m)
  | 0 => ⟨fun _ _ _ _ ⟨_, _, _, _, e, _⟩ => by rw [e]; rfl, fun _ _ _ _ _ _ _ _ _ _ _ _ _ ⟨_, _, _, _, _, _, h, _⟩ => absurd h (Nat.not_lt_zero _)⟩
  | m + 1 => by
    have GR := ok_any F D M m
    refine F.ok scAny (fun vs H Q E h => ?_) (fun cdv A outer s H vs Q E hr h => ?_)
    · obtain ⟨p, n, e, k, rfl, _⟩ := h
      rfl
    · obtain ⟨p, n, e, k, rfl, he, hk, pu, hn, q⟩ := h
      have hr1 := hr.mono (by omega : 1 ≤ m + 3)
      have hr2 := hr.mono (by omega : 2 ≤ m + 3)
      have hr3 := hr.mono (by omega : 3 ≤ m + 3)
      refine ⟨_, (pss_cons (ps_set (i := 2) scAny.nd rfl (Or.inl rfl) (pe_ifExp (pt_cmpR op_eq (pv 1) pe_int (nomark _)) (pe_call M.GT hr1 (by rfl) M.DT.at_ M.DT.kp M.DT.bd .nil pass0 (pa_cons (pv 0) (pa_cons pe_int pa_nil))) (pe_call M.GT hr1 (by rfl) M.DT.at_ M.DT.kp M.DT.bd .nil pass0 (pa_cons (pv 0) (pa_cons pe_int pa_nil)))))
        (pss_cons (ps_if (pt_cmpR op_eq (pv 2) pe_int (nomark _)) (pss_cons (ps_set (i := 3) scAny.nd rfl (Or.inl rfl) (pe_call M.GK hr2 (by rfl) M.DK.at_ M.DK.kp M.DK.bd .nil pass0 (pa_cons (pv 0) pa_nil)))
        (pss_one (ps_ret (pe_tup (pa_cons pe_str (pa_cons (pv 3) (pa_cons (pe_call M.GO hr3 (by rfl) M.DO.at_ M.DO.kp M.DO.bd .nil pass0 (pa_cons (pv 0) (pa_cons (pv 3) pa_nil))) pa_nil))))))) pss_nil)
        (pss_cons (ps_if (pt_cmpR op_lt (pv 2) pe_int (nomark _)) (pss_one (ps_ret (pe_tup (pa_cons (pe_ix ix_list (pe_lst (pa_cons pe_str (pa_cons pe_str pa_nil))) (pe_op op_sub (pv 2) pe_int) (fun _ _ => rfl)) (pa_cons (pe_call M.GN hr2 (by rfl) M.DN.at_ M.DN.kp M.DN.bd .nil pass0 (pa_cons (pv 0) pa_nil)) pa_nil))))) pss_nil)
        (pss_cons (ps_par (i := 4) (j := 5) rfl scAny.nd rfl rfl (by decide) rfl rfl (pa_cons (pe_call GR hr (by rfl) D.at_ D.kp D.bd .nil pass0 (pa_cons (pv 0) (pa_cons (pe_op op_sub (pv 1) pe_int) pa_nil))) (pa_cons (pe_call GR hr (by rfl) D.at_ D.kp D.bd .nil pass0 (pa_cons (pv 0) (pa_cons (pe_op op_sub (pv 1) pe_int) pa_nil))) pa_nil)) rfl)
        (pss_cons (ps_if (pt_cmpR op_eq (pv 2) pe_int (nomark _)) (pss_one (ps_ret (pe_tup (pa_cons pe_str (pa_cons (pe_ix ix_list (pe_lst (pa_cons pe_int (pa_cons pe_int (pa_cons (pe_op op_add pe_int (pe_call M.GT hr1 (by rfl) M.DT.at_ M.DT.kp M.DT.bd .nil pass0 (pa_cons (pv 0) (pa_cons pe_int pa_nil)))) pa_nil)))) (pe_call M.GT hr1 (by rfl) M.DT.at_ M.DT.kp M.DT.bd .nil pass0 (pa_cons (pv 0) (pa_cons pe_int pa_nil))) (fun _ _ => rfl)) (pa_cons (pv 4) pa_nil)))))) pss_nil)
        (pss_cons (ps_if (pt_cmpR op_eq (pv 2) pe_int (nomark _)) (pss_one (ps_ret (pe_ix ix_list (pe_lst (pa_cons (pe_tup (pa_cons pe_str (pa_cons (pe_call M.GT hr1 (by rfl) M.DT.at_ M.DT.kp M.DT.bd .nil pass0 (pa_cons (pv 0) (pa_cons pe_int pa_nil))) (pa_cons (pv 4) pa_nil)))) (pa_cons (pe_tup (pa_cons pe_str (pa_cons (pe_call M.GT hr1 (by rfl) M.DT.at_ M.DT.kp M.DT.bd .nil pass0 (pa_cons (pv 0) (pa_cons pe_int pa_nil))) (pa_cons (pv 4) pa_nil)))) pa_nil))) (pe_call M.GT hr1 (by rfl) M.DT.at_ M.DT.kp M.DT.bd .nil pass0 (pa_cons (pv 0) (pa_cons pe_int pa_nil))) (fun _ _ => rfl)))) pss_nil)
        (pss_cons (ps_if (pt_cmpR op_eq (pv 2) pe_int (nomark _)) (pss_one (ps_ret (pe_tup (pa_cons pe_str (pa_cons (pv 4) (pa_cons (pe_call M.GN hr2 (by rfl) M.DN.at_ M.DN.kp M.DN.bd .nil pass0 (pa_cons (pv 0) pa_nil)) (pa_cons (pe_call M.GT hr1 (by rfl) M.DT.at_ M.DT.kp M.DT.bd .nil pass0 (pa_cons (pv 0) (pa_cons pe_int pa_nil))) pa_nil))))))) pss_nil)
        (pss_cons (ps_if (pt_cmpR op_eq (pv 2) pe_int (nomark _)) (pss_one (ps_ret (pe_tup (pa_cons pe_str (pa_cons (pe_call M.GN hr2 (by rfl) M.DN.at_ M.DN.kp M.DN.bd .nil pass0 (pa_cons (pv 0) pa_nil)) (pa_cons (pv 4) (pa_cons (pv 5) pa_nil))))))) pss_nil)
        (pss_cons (ps_if (pt_cmpR op_eq (pv 2) pe_int (nomark _)) (pss_one (ps_ret (pe_tup (pa_cons pe_str (pa_cons (pe_slice sl_tupA (pe_tup (pa_cons (pv 4) (pa_cons (pv 5) (pa_cons (pv 4) (pa_cons (pv 5) pa_nil))))) po_none (po_some (pe_op op_add pe_int (pe_call M.GT hr1 (by rfl) M.DT.at_ M.DT.kp M.DT.bd .nil pass0 (pa_cons (pv 0) (pa_cons pe_int pa_nil)))))) pa_nil))))) pss_nil)
        (pss_cons (ps_if (pt_cmpR op_eq (pv 2) pe_int (nomark _)) (pss_one (ps_ret (pe_tup (pa_cons pe_str (pa_cons (pv 4) (pa_cons (pv 5) (pa_cons (pe_call GR hr (by rfl) D.at_ D.kp D.bd .nil pass0 (pa_cons (pv 0) (pa_cons (pe_op op_sub (pv 1) pe_int) pa_nil))) pa_nil))))))) pss_nil)
        (pss_cons (ps_if (pt_cmpR op_eq (pv 2) pe_int (nomark _)) (pss_one (ps_ret (pe_tup (pa_cons pe_str (pa_cons (pv 4) pa_nil))))) pss_nil)
        (pss_one (ps_ret (pe_tup (pa_cons (pe_ix ix_list (pe_lst (pa_cons pe_str (pa_cons pe_str (pa_cons pe_str (pa_cons pe_str (pa_cons pe_str (pa_cons pe_str (pa_cons pe_str (pa_cons pe_str pa_nil))))))))) (pe_call M.GT hr1 (by rfl) M.DT.at_ M.DT.kp M.DT.bd .nil pass0 (pa_cons (pv 0) (pa_cons pe_int pa_nil))) (fun _ _ => rfl)) (pa_cons (pv 4) (pa_cons (pv 5) pa_nil))))))))))))))))), ?_⟩
      have T13 := T_ge k
      have S150 := S_ge k
      have fin2 : ∀ (G : Hp) (t : Addr) (vs : List V) (ds : List PyData) (n' : Int), Kp (· ≠ p) H G → Purse G p n' → n' ≤ n + (T k : Int) → H t = none → G t = some (.tup vs) → ShAll G (Fr H) true vs ds → (∀ d ∈ ds, fit 4 (2 * k + 1) d) → ds.length ≤ 4 → slA ds + 3 ≤ S k → ds ≠ [] → Q (.ref t) G := fun G t vs ds n' kG pG ln ht gt sh ft l4 sl' ne =>
        q _ (.tuple ds) _ (.tup gt ht sh) (fit_tup.mpr ⟨l4, ft⟩) (by rw [sl_tup]; exact sl') ⟨ds, rfl, ne⟩ kG (pG.mono ln)
      have fin : ∀ (G : Hp) (vs : List V) (ds : List PyData) (n' : Int), Kp (· ≠ p) H G → Purse G p n' → n' ≤ n + (T k : Int) → ShAll G (Fr H) true vs ds → (∀ d ∈ ds, fit 4 (2 * k + 1) d) → ds.length ≤ 4 → slA ds + 3 ≤ S k → ds ≠ [] → ∀ t, G t = none → Q (.ref t) (upd G t (.tup vs)) := fun G vs ds n' kG pG ln sh ft l4 sl' ne t ht =>
        fin2 _ t vs ds n' (fun a o na h => same_new ht _ _ (kG a o na h)) (pG.of (upd_ne (pG.ne ht).symm)) ln (pG.back kG ht) upd_same (shAll_same (same_new ht) sh) ft l4 sl' ne
      refine ⟨_, rfl, rfl, _, rfl, if_take (by rfl) pu (by omega) (fun d G1 d0 d12 dk k1 pu1 => ?_)⟩
      dsimp only [gName]
      have dk : k = 0 → d < 3 := fun z => dk (decide_eq_true (by rw [he, z]; rfl))
      refine ⟨_, rfl, rfl, _, rfl, ite2 (fun c => ?_) (fun c => ?_)⟩
      · -- lit
        refine ⟨_, rfl, p, _, rfl, pu1, by omega, fun v G2 kv k2 pu2 => ?_⟩
        have k02 : Kp (· ≠ p) H G2 := fun a o na h => k2 a o na (k1 a o na h)
        obtain ⟨dv, shv, fv, slv⟩ := kind_data kv
        have shv := sh_back pu1 k1 shv
        dsimp only [gName]
        have e1 : sl (.str "lit") ≤ 33 := slS (n := 3) (by decide)
        have fv' : fit 4 (2 * k + 1) dv := fit_mono (Nat.le_refl _) dv (by omega) fv
        refine ⟨_, rfl, _, rfl, _, rfl, p, _, _, rfl, pu2, by omega, ?_⟩
        rcases kv with ⟨z, rfl, z1, z8⟩ | ⟨t, m', z, rfl, ht, gt, m2, m4, z1, z8⟩
        · refine .inl ⟨by decide, z, rfl, z1, z8, fun i G3 i0 i1 k3 pu3 => ⟨by show 3 ≤ sizeLine; decide, fin G3 _ [.str "lit", dv, .int i] _ (fun a o na h => k3 a o na (k02 a o na h)) pu3 (by omega) (.cons (.str _) (.cons (sh_step pu k3 shv) (.cons (.int i) .nil))) (fitA_cons (fit_str.mpr (by decide +kernel)) (fitA_cons fv' (fitA_cons (int_fit (by omega) (by omega)) fitA_nil))) (by show 3 ≤ 4; decide) ?_ (by simp)⟩⟩
          have := sl_small (i := i) (by omega) (by omega)
          rw [slA_cons, slA_cons, slA_cons, slA_nil]; omega
        · refine .inr ⟨by decide, by omega, t, m', z, rfl, gt, m2, m4, z1, z8, fun u js G3 lj hj hu gu k3 pu3 => ?_⟩
          obtain ⟨du, shu, fu, slu⟩ := ints_data lj hj hu gu
          refine ⟨by show 3 ≤ sizeLine; decide, fin G3 _ [.str "lit", dv, du] _ (fun a o na h => k3 a o na (k02 a o na h)) pu3 (by omega) (.cons (.str _) (.cons (sh_step pu k3 shv) (.cons (sh_back pu2 k02 shu) .nil))) (fitA_cons (fit_str.mpr (by decide +kernel)) (fitA_cons fv' (fitA_cons (fit_mono (Nat.le_refl _) du (by omega) fu) fitA_nil))) (by show 3 ≤ 4; decide) ?_ (by simp)⟩
          rw [slA_cons, slA_cons, slA_cons, slA_nil]; omega
      have d1 : 1 ≤ d := by
        rcases Int.lt_or_le d 1 with h | h
        · exact absurd (decide_eq_true (by rw [show d = 0 by omega])) c
        · exact h
      refine ⟨_, rfl, _, _, rfl, rfl, _, rfl, ite2 (fun c3 => ?_) (fun c3 => ?_)⟩
      · -- name, last
        have d3 := of_decide_eq_true c3
        refine ⟨by show 2 ≤ sizeLine; decide, fun L hL => ⟨_, rfl, _, _, rfl, rfl, ?_⟩⟩
        have nL := pu1.ne hL
        obtain ⟨v, mv, ev⟩ := pick (xs := [.str "name", .str "last"]) (d := d - 1) (by omega) (by show d - 1 < 2; omega)
        refine ⟨L, _, d - 1, v, rfl, rfl, SqL.of upd_same, ev, _, rfl, p, _, rfl, pu1.of (upd_ne nL.symm), by omega, fun z G2 nz k2 pu2 => ?_⟩
        have k02 : Kp (· ≠ p) H G2 := fun a o na h => k2 a o na (same_new hL _ _ (k1 a o na h))
        clear ev
        have e4 : sl (.str z) ≤ 83 := slS (n := 8) nz.2
        obtain ⟨y, rfl, fy, sy⟩ : ∃ y : Str, v = .str y ∧ strOk y = true ∧ sl (.str y) ≤ 43 := by
          simp only [List.mem_cons, List.not_mem_nil, or_false] at mv
          rcases mv with rfl | rfl
          · exact ⟨_, rfl, by decide +kernel, slS (n := 4) (by decide)⟩
          · exact ⟨_, rfl, by decide +kernel, slS (n := 4) (by decide)⟩
        refine ⟨by show 2 ≤ sizeLine; decide, fin G2 _ [.str y, .str z] _ k02 pu2 (by omega) (.cons (.str _) (.cons (.str _) .nil)) (fitA_cons (fit_str.mpr fy) (fitA_cons (nm_fit nz) fitA_nil)) (by show 2 ≤ 4; decide) ?_ (by simp)⟩
        rw [slA_cons, slA_cons, slA_nil]; omega
      have d3 : 3 ≤ d := Int.not_lt.mp fun h => c3 (decide_eq_true h)
      obtain ⟨k', rfl⟩ : ∃ k', k = k' + 1 := ⟨k - 1, by
        rcases Nat.eq_zero_or_pos k with z | z
        · exact absurd (dk z) (by omega)
        · omega⟩
      have eT : T (k' + 1) = 3 * T k' + 14 := rfl
      have eS : S (k' + 1) = 4 * S k' + 60 := rfl
      have T13' := T_ge k'
      have S150' := S_ge k'
      refine ⟨_, rfl, _, rfl, _, _, rfl, rfl, p, _, _, k', rfl, by omega, by omega, pu1, by omega, fun v1 x1 G2 sh1 f1 s1 _ k2 pu2 => ?_⟩
      have k02 : Kp (· ≠ p) H G2 := fun a o na h => k2 a o na (k1 a o na h)
      refine ⟨_, rfl, _, rfl, _, _, rfl, rfl, p, _, _, k', rfl, by omega, by omega, pu2, by omega, fun v2 x2 G3 sh2 f2 s2 _ k3 pu3 => ⟨v1, v2, rfl, ?_⟩⟩
      have k03 : Kp (· ≠ p) H G3 := fun a o na h => k3 a o na (k02 a o na h)
      have sh1 : Sh G3 (Fr H) true v1 x1 := sh_step pu k3 (sh_back pu1 k1 sh1)
      have sh2 : Sh G3 (Fr H) true v2 x2 := sh_back pu2 k02 sh2
      have f1' : fit 4 (2 * (k' + 1) + 1) x1 := fit_mono (Nat.le_refl _) x1 (by omega) f1
      have f2' : fit 4 (2 * (k' + 1) + 1) x2 := fit_mono (Nat.le_refl _) x2 (by omega) f2
      refine ⟨_, rfl, rfl, _, rfl, ite2 (fun _ => ?_) (fun _ => ?_)⟩
      · -- wide
        refine size_ok (i := 0) rfl pu3 (by omega) (fun z G4 z1 z8 k4 pu4 => ⟨_, rfl, by show 3 ≤ sizeLine; decide, fin G4 _ [.str "wide", .int z, x1] _ (fun a o na h => k4 a o na (k03 a o na h)) pu4 (by omega) (.cons (.str _) (.cons (.int z) (.cons (sh_step pu k4 sh1) .nil))) (fitA_cons (fit_str.mpr (by decide +kernel)) (fitA_cons (int_fit (by omega) (by omega)) (fitA_cons f1' fitA_nil))) (by show 3 ≤ 4; decide) ?_ (by simp)⟩)
        have e1 : sl (.str "wide") ≤ 43 := slS (n := 4) (by decide)
        have := sl_small (i := z) (by omega) (by omega)
        rw [slA_cons, slA_cons, slA_cons, slA_nil]; omega
      refine ⟨_, rfl, rfl, _, rfl, ite2 (fun _ => ?_) (fun _ => ?_)⟩
      · -- bit, at
        refine take_ok (i := 0) rfl pu3 (by omega) (by decide) (by decide) (fun z G4 z0 z8 k4 pu4 => ⟨_, rfl, by show 3 ≤ sizeLine; decide, fun t1 h1 => ?_⟩)
        have n1 := pu4.ne h1
        have k04 : Kp (· ≠ p) H G4 := fun a o na h => k4 a o na (k03 a o na h)
        refine take_ok (i := 0) rfl (pu4.of (upd_ne n1.symm)) (by omega) (by decide) (by decide) (fun y G5 y0 y4 k5 pu5 => ⟨_, rfl, by show 3 ≤ sizeLine; decide, fun t2 h2 => ⟨by show 2 ≤ sizeLine; decide, fun L hL => ?_⟩⟩)
        have k45 : Kp (· ≠ p) G4 G5 := fun a o na h => k5 a o na (same_new h1 _ _ h)
        have k05 : Kp (· ≠ p) H G5 := fun a o na h => k45 a o na (k04 a o na h)
        have s2L : Same G5 (upd (upd G5 t2 (.tup [.str "at", .int y, v1])) L (.lst [.ref t1, .ref t2])) := same_trans_new (same_new h2) hL
        have puL := pu5.same s2L
        refine take_ok (i := 0) rfl puL (by omega) (by decide) (by decide) (fun u G6 u0 u1 k6 pu6 => ?_)
        have nL : L ≠ p := (pu5.same (same_new h2)).ne hL
        have n2 := pu5.ne h2
        obtain ⟨v, mv, ev⟩ := pick (xs := [V.ref t1, .ref t2]) u0 u1
        refine ⟨L, _, u, v, rfl, rfl, SqL.of (k6 _ _ nL upd_same), ev, ?_⟩
        have k56 : Kp (· ≠ p) G5 G6 := fun a o na h => k6 a o na (s2L _ _ h)
        have k06 : Kp (· ≠ p) H G6 := fun a o na h => k56 a o na (k05 a o na h)
        have k36 : Kp (· ≠ p) G3 G6 := fun a o na h => k56 a o na (k45 a o na (k4 a o na h))
        clear ev
        have e1 : sl (.str "bit") ≤ 33 := slS (n := 3) (by decide)
        have e2 : sl (.str "at") ≤ 23 := slS (n := 2) (by decide)
        simp only [List.mem_cons, List.not_mem_nil, or_false] at mv
        rcases mv with rfl | rfl
        · refine fin2 G6 t1 _ [.str "bit", .int z, x1] _ k06 pu6 (by omega) (pu4.back k04 h1) (k56 _ _ n1 (k5 _ _ n1 upd_same)) (.cons (.str _) (.cons (.int z) (.cons (sh_step pu k36 sh1) .nil))) (fitA_cons (fit_str.mpr (by decide +kernel)) (fitA_cons (int_fit (by omega) (by omega)) (fitA_cons f1' fitA_nil))) (by show 3 ≤ 4; decide) ?_ (by simp)
          have := sl_small (i := z) (by omega) (by omega)
          rw [slA_cons, slA_cons, slA_cons, slA_nil]; omega
        · refine fin2 G6 t2 _ [.str "at", .int y, x1] _ k06 pu6 (by omega) (pu5.back k05 h2) (k6 _ _ n2 ((same_new hL) _ _ upd_same)) (.cons (.str _) (.cons (.int y) (.cons (sh_step pu k36 sh1) .nil))) (fitA_cons (fit_str.mpr (by decide +kernel)) (fitA_cons (int_fit (by omega) (by omega)) (fitA_cons f1' fitA_nil))) (by show 3 ≤ 4; decide) ?_ (by simp)
          have := sl_small (i := y) (by omega) (by omega)
          rw [slA_cons, slA_cons, slA_cons, slA_nil]; omega
      refine ⟨_, rfl, rfl, _, rfl, ite2 (fun _ => ?_) (fun _ => ?_)⟩
      · -- when
        refine ⟨_, rfl, _, rfl, p, _, rfl, pu3, by omega, fun z G4 nz k4 pu4 => take_ok (i := 0) rfl pu4 (by omega) (by decide) (by decide) (fun y G5 y0 y2 k5 pu5 => ⟨by show 4 ≤ sizeLine; decide, fin G5 _ [.str "when", x1, .str z, .int y] _ (fun a o na h => k5 a o na (k4 a o na (k03 a o na h))) pu5 (by omega) (.cons (.str _) (.cons (sh_step pu k5 (sh_step pu k4 sh1)) (.cons (.str _) (.cons (.int y) .nil)))) (fitA_cons (fit_str.mpr (by decide +kernel)) (fitA_cons f1' (fitA_cons (nm_fit nz) (fitA_cons (int_fit (by omega) (by omega)) fitA_nil)))) (by show 4 ≤ 4; decide) ?_ (by simp)⟩)⟩
        have e1 : sl (.str "when") ≤ 43 := slS (n := 4) (by decide)
        have e4 : sl (.str z) ≤ 83 := slS (n := 8) nz.2
        have := sl_small (i := y) (by omega) (by omega)
        rw [slA_cons, slA_cons, slA_cons, slA_cons, slA_nil]; omega
      refine ⟨_, rfl, rfl, _, rfl, ite2 (fun _ => ?_) (fun _ => ?_)⟩
      · -- merge
        refine ⟨_, rfl, p, _, rfl, pu3, by omega, fun z G4 nz k4 pu4 => ⟨_, rfl, _, rfl, by show 4 ≤ sizeLine; decide, fin G4 _ [.str "merge", .str z, x1, x2] _ (fun a o na h => k4 a o na (k03 a o na h)) pu4 (by omega) (.cons (.str _) (.cons (.str _) (.cons (sh_step pu k4 sh1) (.cons (sh_step pu k4 sh2) .nil)))) (fitA_cons (fit_str.mpr (by decide +kernel)) (fitA_cons (nm_fit nz) (fitA_cons f1' (fitA_cons f2' fitA_nil)))) (by show 4 ≤ 4; decide) ?_ (by simp)⟩⟩
        have e1 : sl (.str "merge") ≤ 53 := slS (n := 5) (by decide)
        have e4 : sl (.str z) ≤ 83 := slS (n := 8) nz.2
        rw [slA_cons, slA_cons, slA_cons, slA_cons, slA_nil]; omega
      refine ⟨_, rfl, rfl, _, rfl, ite2 (fun _ => ?_) (fun _ => ?_)⟩
      · -- row
        have row : ∀ (G : Hp) (r : Addr) (ys : List V) (ds : List PyData) (n' : Int), Kp (· ≠ p) H G → Purse G p n' → n' ≤ n + (T (k' + 1) : Int) → H r = none → G r = some (.tup ys) → ShAll G (Fr H) true ys ds → (∀ d ∈ ds, d = x1 ∨ d = x2) → ds.length ≤ 4 → ∀ t, G t = none → Q (.ref t) (upd G t (.tup [.str "row", .ref r])) := fun G r ys ds n' kG pG ln hr gr sh mem l4 t ht => by
          refine fin G _ [.str "row", .tuple ds] n' kG pG ln (.cons (.str _) (.cons (.tup gr hr sh) .nil)) (fitA_cons (fit_str.mpr (by decide +kernel)) (fitA_cons (fit_tup (k := 2 * k' + 2).mpr ⟨l4, fun d m => (mem d m).elim (fun e => e ▸ f1) fun e => e ▸ f2⟩) fitA_nil)) (by show 2 ≤ 4; decide) ?_ (by simp) t ht
          have a := slA_le (n := S k') (l := ds) fun d m => (mem d m).elim (fun e => e ▸ s1) fun e => e ▸ s2
          have b : (S k' + 2) * ds.length ≤ (S k' + 2) * 4 := Nat.mul_le_mul_left _ l4
          have e1 : sl (.str "row") ≤ 33 := slS (n := 3) (by decide)
          rw [slA_cons, slA_cons, slA_nil, sl_tup]; omega
        refine ⟨_, rfl, _, rfl, _, rfl, _, rfl, by show 4 ≤ sizeLine; decide, fun t ht => ?_⟩
        have nt := pu3.ne ht
        refine take_ok (i := 0) rfl (pu3.of (upd_ne nt.symm)) (by omega) (by decide) (by decide) (fun z G4 z0 z3 k4 pu4 => ⟨_, _, rfl, rfl, _, rfl, t, _, rfl, SqT.of (k4 _ _ nt upd_same), ?_, ?_⟩)
        · intro full
          have k34 : Kp (· ≠ p) G3 G4 := fun a o na h => k4 a o na (same_new ht _ _ h)
          have sh1' := sh_step pu k34 sh1
          have sh2' := sh_step pu k34 sh2
          refine ⟨by show 2 ≤ sizeLine; decide, row G4 t _ [x1, x2, x1, x2] _ (fun a o na h => k34 a o na (k03 a o na h)) pu4 (by omega) (pu3.back k03 ht) (k4 _ _ nt upd_same) (.cons sh1' (.cons sh2' (.cons sh1' (.cons sh2' .nil)))) (fun d m => by simp only [List.mem_cons, List.not_mem_nil, or_false] at m; rcases m with h | h | h | h <;> simp [h]) (by show 4 ≤ 4; decide)⟩
        · intro nf r hr'
          have k34 : Kp (· ≠ p) G3 G4 := fun a o na h => k4 a o na (same_new ht _ _ h)
          have sn := same_new (o := .tup (cutV [v1, v2, v1, v2] none (some (2 + z)))) hr'
          have sh1' := sh_same sn (sh_step pu k34 sh1)
          have sh2' := sh_same sn (sh_step pu k34 sh2)
          have k04 : Kp (· ≠ p) H G4 := fun a o na h => k34 a o na (k03 a o na h)
          have go : ∀ (ys : List V) (ds : List PyData), cutV [v1, v2, v1, v2] none (some (2 + z)) = ys → ShAll (upd G4 r (.tup (cutV [v1, v2, v1, v2] none (some (2 + z))))) (Fr H) true ys ds → (∀ d ∈ ds, d = x1 ∨ d = x2) → ds.length ≤ 4 → _ := fun ys ds e sh mem l4 =>
            (⟨by show 2 ≤ sizeLine; decide, row _ r ys ds _ (fun a o na h => sn _ _ (k04 a o na h)) (pu4.same sn) (by omega) (pu4.back k04 hr') (by rw [← e, upd_same]) sh mem l4⟩ : 2 ≤ sizeLine ∧ ∀ t', upd G4 r (.tup (cutV [v1, v2, v1, v2] none (some (2 + z)))) t' = none → Q (.ref t') (upd (upd G4 r (.tup (cutV [v1, v2, v1, v2] none (some (2 + z))))) t' (.tup [.str "row", .ref r])))
          rcases (by omega : z = 0 ∨ z = 1 ∨ z = 2) with rfl | rfl | rfl
          · exact go [v1, v2] [x1, x2] rfl (.cons sh1' (.cons sh2' .nil)) (fun d m => by simp only [List.mem_cons, List.not_mem_nil, or_false] at m; exact m) (by show 2 ≤ 4; decide)
          · exact go [v1, v2, v1] [x1, x2, x1] rfl (.cons sh1' (.cons sh2' (.cons sh1' .nil))) (fun d m => by simp only [List.mem_cons, List.not_mem_nil, or_false] at m; rcases m with h | h | h <;> simp [h]) (by show 3 ≤ 4; decide)
          · exact go [v1, v2, v1, v2] [x1, x2, x1, x2] rfl (.cons sh1' (.cons sh2' (.cons sh1' (.cons sh2' .nil)))) (fun d m => by simp only [List.mem_cons, List.not_mem_nil, or_false] at m; rcases m with h | h | h | h <;> simp [h]) (by show 4 ≤ 4; decide)
      refine ⟨_, rfl, rfl, _, rfl, ite2 (fun _ => ?_) (fun _ => ?_)⟩
      · -- pick
        refine ⟨_, rfl, _, rfl, _, rfl, _, rfl, _, _, rfl, rfl, p, _, _, k', rfl, by omega, by omega, pu3, by omega, fun v3 x3 G4 sh3 f3 s3 _ k4 pu4 => ⟨by show 4 ≤ sizeLine; decide, fin G4 _ [.str "pick", x1, x2, x3] _ (fun a o na h => k4 a o na (k03 a o na h)) pu4 (by omega) (.cons (.str _) (.cons (sh_step pu k4 sh1) (.cons (sh_step pu k4 sh2) (.cons (sh_back pu3 k03 sh3) .nil)))) (fitA_cons (fit_str.mpr (by decide +kernel)) (fitA_cons f1' (fitA_cons f2' (fitA_cons (fit_mono (Nat.le_refl _) x3 (by omega) f3) fitA_nil)))) (by show 4 ≤ 4; decide) ?_ (by simp)⟩⟩
        have e1 : sl (.str "pick") ≤ 43 := slS (n := 4) (by decide)
        rw [slA_cons, slA_cons, slA_cons, slA_cons, slA_nil]; omega
      refine ⟨_, rfl, rfl, _, rfl, ite2 (fun _ => ?_) (fun _ => ?_)⟩
      · -- not
        refine ⟨_, rfl, by show 2 ≤ sizeLine; decide, fin G3 _ [.str "not", x1] _ k03 pu3 (by omega) (.cons (.str _) (.cons sh1 .nil)) (fitA_cons (fit_str.mpr (by decide +kernel)) (fitA_cons f1' fitA_nil)) (by show 2 ≤ 4; decide) ?_ (by simp)⟩
        have e1 : sl (.str "not") ≤ 33 := slS (n := 3) (by decide)
        rw [slA_cons, slA_cons, slA_nil]; omega
      · -- of two
        refine ⟨by show 8 ≤ sizeLine; decide, fun L hL => ?_⟩
        have nL := pu3.ne hL
        refine take_ok (i := 0) rfl (pu3.of (upd_ne nL.symm)) (by omega) (by decide) (by decide) (fun u G4 u0 u8 k4 pu4 => ?_)
        obtain ⟨v, mv, ev⟩ := pick (xs := [V.str "first", .str "and", .str "or", .str "xor", .str "add", .str "sub", .str "less", .str "same"]) u0 u8
        refine ⟨L, _, u, v, rfl, rfl, SqL.of (k4 _ _ nL upd_same), ev, ?_⟩
        have k34 : Kp (· ≠ p) G3 G4 := fun a o na h => k4 a o na (same_new hL _ _ h)
        clear ev
        obtain ⟨y, rfl, fy, sy⟩ : ∃ y : Str, v = .str y ∧ strOk y = true ∧ sl (.str y) ≤ 53 := by
          simp only [List.mem_cons, List.not_mem_nil, or_false] at mv
          rcases mv with rfl | rfl | rfl | rfl | rfl | rfl | rfl | rfl <;> exact ⟨_, rfl, by decide +kernel, slS (n := 5) (by decide)⟩
        refine ⟨_, rfl, _, rfl, by show 3 ≤ sizeLine; decide, fin G4 _ [.str y, x1, x2] _ (fun a o na h => k34 a o na (k03 a o na h)) pu4 (by omega) (.cons (.str _) (.cons (sh_step pu k34 sh1) (.cons (sh_step pu k34 sh2) .nil))) (fitA_cons (fit_str.mpr fy) (fitA_cons f1' (fitA_cons f2' fitA_nil))) (by show 3 ≤ 4; decide) ?_ (by simp)⟩
        rw [slA_cons, slA_cons, slA_cons, slA_nil]; omega
end
end P4
end Bf

namespace Bf
open PySem PySem.Spec PyProof.Rows L2
namespace P4
/-- a node's name, or a text as long -/
def ndOk (z : Str) : Prop := (∀ c ∈ z.cps.toList, c < 16 ^ 8) ∧ z.cps.size ≤ 17
theorem nd_fit {w k : Nat} {z : Str} (h : ndOk z) : fit w k (.str z) := fit_str.mpr (Bool.and_eq_true_iff.mpr ⟨List.all_eq_true.mpr fun c m => decide_eq_true (h.1 c m), decide_eq_true (Nat.le_trans h.2 (by decide))⟩)
theorem app_cps (a b : Str) : (a ++ b).cps = a.cps ++ b.cps := rfl
theorem app_ok {a b : Str} {n : Nat} (ha : ∀ c ∈ a.cps.toList, c < 16 ^ 8) (hb : ∀ c ∈ b.cps.toList, c < 16 ^ 8) (l : a.cps.size + b.cps.size ≤ n) : (∀ c ∈ (a ++ b).cps.toList, c < 16 ^ 8) ∧ (a ++ b).cps.size ≤ n := by
  rw [app_cps]
  refine ⟨fun c m => ?_, by rw [Array.size_append]; exact l⟩
  rw [Array.toList_append] at m
  exact (List.mem_append.mp m).elim (ha c) (hb c)
abbrev pSide : List Str := ["_law_purse_here", "_law_deep"]
abbrev nSide : List Str := ["_law_purse_here", "_law_deep", "_law_way", "_law_node", "_law_every", "_law_many", "_law_args", "_law_some", "_law_k"]
theorem scSide : FnScope nSide pSide (defScope sSide) := ⟨rfl, rfl, rfl, by decide +kernel, rfl, by decide +kernel, by decide +kernel⟩
def spSide : Sp := fun vs H Q _ => ∃ (p : Addr) (n e : Int) (k : Nat), vs = [.ref p, .int e] ∧ e = (k : Int) ∧ k ≤ 3 ∧ Purse H p n ∧ n ≤ 90000 ∧
  ∀ v d G, Sh G (Fr H) true v d → fit 6 10 d → sl d ≤ 77000 → (∃ ds, d = .tuple ds ∧ ds ≠ []) → Kp (· ≠ p) H G → Purse G p (n + 8200) → Q v G
section
variable {P : Program} {w : World} {K : PySem.W.Frag} {mg : Str → Option Value} {base : Heap}
theorem _root_.Bf.ShAll.append {H : Hp} {P : Addr → Prop} {b : Bool} : ∀ {vs : List V} {ds : List PyData} {ws : List V} {es : List PyData}, ShAll H P b vs ds → ShAll H P b ws es → ShAll H P b (vs ++ ws) (ds ++ es)
  | _, _, _, _, .nil, r => r
  | _, _, _, _, .cons h t, r => .cons h (ShAll.append t r)
theorem anys_ok {p : Addr} {n e c : Int} {k m : Nat} {E : XK} {H : Hp} {Q : VK} {u2 u3 u4 u6 u7 u8 : Option V} (he : e = (k : Int)) (hm : k < m) (pu : Purse H p n) (hn : n + 6 * (T k : Int) ≤ 99900) (c0 : 0 ≤ c) (c6 : c ≤ 6)
    (q : ∀ (u : Addr) (xs : List V) (ds : List PyData) G, ds.length ≤ 6 → ShAll G (Fr H) true xs ds → (∀ d ∈ ds, fit 4 (2 * k + 2) d ∧ sl d ≤ S k) → H u = none → G u = some (.tup xs) → Kp (· ≠ p) H G → Purse G p (n + 6 * (T k : Int)) → Q (.ref u) G) :
    tCB (fun xs H Q => ∃ p ys, xs = [.ref p] ∧ ((SqL K H p ys ∧ ∀ l, H l = none → Q (.ref l) (upd H l (.tup ys))) ∨ (SqT K H p ys ∧ Q (.ref p) H)))
      (tCons (tLc (iRng1 (tCons (tVar 5) tNil)) (gName 8) tYes (tCall (spAny m) [] E (tCons (tVar 0) (tCons (tVar 1) tNil))) [8]) tNil)
      [some (.ref p), some (.int e), u2, u3, u4, some (.int c), u6, u7, u8] H Q := by
  refine ⟨_, rfl, c, rfl, by omega, by omega, fun D hD => ?_⟩
  have nD := pu.ne hD
  have cle : (c.toNat : Int) ≤ 6 := by omega
  refine lc_range (lo := 0) (n := c.toNat) (fun i G => ∃ xs ds, ds.length = i ∧ ShAll G (fun a => Fr H a ∧ a ≠ D) true xs ds ∧ (∀ d ∈ ds, fit 4 (2 * k + 2) d ∧ sl d ≤ S k) ∧ G D = some (.lst xs) ∧ Kp (· ≠ p) H G ∧ Purse G p (n + (i : Int) * (T k : Int)))
    ⟨[], [], rfl, .nil, (fun _ m => nomatch m), upd_same, kp_same (same_new hD), by rw [show n + ((0 : Nat) : Int) * (T k : Int) = n by simp]; exact pu.of (upd_ne nD.symm)⟩ (fun i G hi pv => ?_) fun G pv => ?_
  · obtain ⟨xs, ds, ld, sh, hd, gD, kG, pG⟩ := pv
    have bi : ((i + 1 : Nat) : Int) * (T k : Int) ≤ 6 * (T k : Int) := Int.mul_le_mul_of_nonneg_right (by omega) (by omega)
    have ei : ((i + 1 : Nat) : Int) * (T k : Int) = (i : Int) * (T k : Int) + (T k : Int) := by rw [Int.natCast_add, Int.add_mul]; simp
    refine ⟨rfl, _, rfl, _, rfl, p, _, e, k, rfl, he, hm, pG, by omega, fun v d G2 shv fv sv _ k2 pu2 => ?_⟩
    have lx := shAll_len sh
    refine ⟨xs, k2 _ _ nD gD, by rw [lx, ld]; exact small1000 (by omega), xs ++ [v], ds ++ [d], by rw [List.length_append, ld]; rfl, ?_, fun x mx => ?_, upd_same, fun a o na h => ?_, ?_⟩
    · refine (ShAll.on (fun _ _ f _ => f) (fun a o f e => ?_) ds xs sh).append (.cons (Sh.on (fun a o f _ => ⟨pG.back kG f, fun z => ?_⟩) (fun a o f e => ?_) d v shv) .nil)
      · rw [upd_ne f.2]; exact k2 a o (pu.ne f.1) e
      · rw [upd_ne (fun z => by rw [z] at f; exact absurd (gD.symm.trans f) (fun z => nomatch z))]; exact e
      · rw [z] at f; exact absurd (gD.symm.trans f) (fun z => nomatch z)
    · rcases List.mem_append.mp mx with mx | mx
      · exact hd x mx
      · rw [List.mem_singleton.mp mx]; exact ⟨fv, sv⟩
    · rw [upd_ne (ne_of_none h hD)]
      exact k2 a o na (kG a o na h)
    · rw [ei, ← Int.add_assoc]
      exact pu2.of (upd_ne nD.symm)
  · obtain ⟨xs, ds, ld, sh, hd, gD, kG, pG⟩ := pv
    refine ⟨D, xs, rfl, .inl ⟨SqL.of gD, fun u hu => ?_⟩⟩
    have bi : (c.toNat : Int) * (T k : Int) ≤ 6 * (T k : Int) := Int.mul_le_mul_of_nonneg_right cle (by omega)
    exact q u xs ds _ (by omega) (ShAll.on (fun _ _ f _ => f.1) (fun a o _ e => same_new hu a o e) ds xs sh) hd (pG.back kG hu) upd_same (fun a o na h => same_new hu _ _ (kG a o na h)) ((pG.of (upd_ne (pG.ne hu).symm)).mono (by omega))
theorem ok_side {f fa ft fn fk fo : Addr} {fd da dt dn dk do_ : FuncData} (F : Fun K "_law_side" "_law_side" sSide f fd) (DA : Df K mg "_law_any" fa da pAny) (GA : FnOk P w K mg base CX0 8 fa da pAny (spAny 5)) (M : Mkr P w K mg base ft fn fk fo dt dn dk do_) (mr : mg "range" = none) (mt : mg "tuple" = none) :
    FnOk P w K mg base CX0 9 f fd pSide spSide := by
  refine F.ok scSide (fun vs H Q E h => ?_) (fun cdv A outer s H vs Q E hr h => ?_)
  · obtain ⟨p, n, e, k, rfl, _⟩ := h
    rfl
  · obtain ⟨p, n, e, k, rfl, he, hk, pu, hn, q⟩ := h
    have hr1 := hr.mono (by omega : 1 ≤ 8)
    have hr2 := hr.mono (by omega : 2 ≤ 8)
    have hr4 := hr
    refine ⟨_, (pss_cons (ps_set (i := 2) scSide.nd rfl (Or.inl rfl) (pe_call M.GT hr1 (by rfl) M.DT.at_ M.DT.kp M.DT.bd .nil pass0 (pa_cons (pv 0) (pa_cons pe_int pa_nil))))
        (pss_cons (ps_set (i := 3) scSide.nd rfl (Or.inl rfl) (pe_op op_add_str (pe_call M.GN hr2 (by rfl) M.DN.at_ M.DN.kp M.DN.bd .nil pass0 (pa_cons (pv 0) pa_nil)) (pe_ix ix_list (pe_lst (pa_cons pe_str (pa_cons (pe_op op_add_str pe_str (pe_call M.GN hr2 (by rfl) M.DN.at_ M.DN.kp M.DN.bd .nil pass0 (pa_cons (pv 0) pa_nil))) pa_nil))) (pe_call M.GT hr1 (by rfl) M.DT.at_ M.DT.kp M.DT.bd .nil pass0 (pa_cons (pv 0) (pa_cons pe_int pa_nil))) (fun _ _ => rfl))))
        (pss_cons (ps_set (i := 4) scSide.nd rfl (Or.inl rfl) (pe_ix ix_list (pe_lst (pa_cons pe_non (pa_cons (pe_call M.GN hr2 (by rfl) M.DN.at_ M.DN.kp M.DN.bd .nil pass0 (pa_cons (pv 0) pa_nil)) pa_nil))) (pe_call M.GT hr1 (by rfl) M.DT.at_ M.DT.kp M.DT.bd .nil pass0 (pa_cons (pv 0) (pa_cons pe_int pa_nil))) (fun _ _ => rfl)))
        (pss_cons (ps_set (i := 5) scSide.nd rfl (Or.inl rfl) (pe_ix ix_list (pe_lst (pa_cons pe_int (pa_cons pe_int (pa_cons (pe_call M.GT hr1 (by rfl) M.DT.at_ M.DT.kp M.DT.bd .nil pass0 (pa_cons (pv 0) (pa_cons pe_int pa_nil))) pa_nil)))) (pe_call M.GT hr1 (by rfl) M.DT.at_ M.DT.kp M.DT.bd .nil pass0 (pa_cons (pv 0) (pa_cons pe_int pa_nil))) (fun _ _ => rfl)))
        (pss_cons (ps_set (i := 6) scSide.nd rfl (Or.inl rfl) (pe_callTy call_tuple_of (by rfl) mt (by decide +kernel) (pa_cons (pe_lc (own := [("_law_k", 8)]) (g := gName 8) (tt := tYes) rfl scSide.nd (pi_range1 (by rfl) mr (pa_cons (pv 5) pa_nil)) (blkOk_by (N := nSide) (sc := defScope sSide) (by decide +kernel)) (fun _ _ _ _ _ => pg_name (i := 8) scSide.nd rfl (Or.inl rfl)) (fun _ _ _ _ _ => pts_nil) (fun _ _ _ _ _ => (pe_call GA hr4 (by rfl) DA.at_ DA.kp DA.bd .nil pass0 (pa_cons (pv 0) (pa_cons (pv 1) pa_nil))))) pa_nil)))
        (pss_cons (ps_set (i := 5) scSide.nd rfl (Or.inl rfl) (pe_ix ix_list (pe_lst (pa_cons pe_int (pa_cons pe_int (pa_cons (pe_op op_add pe_int (pe_call M.GT hr1 (by rfl) M.DT.at_ M.DT.kp M.DT.bd .nil pass0 (pa_cons (pv 0) (pa_cons pe_int pa_nil)))) pa_nil)))) (pe_call M.GT hr1 (by rfl) M.DT.at_ M.DT.kp M.DT.bd .nil pass0 (pa_cons (pv 0) (pa_cons pe_int pa_nil))) (fun _ _ => rfl)))
        (pss_cons (ps_set (i := 7) scSide.nd rfl (Or.inl rfl) (pe_callTy call_tuple_of (by rfl) mt (by decide +kernel) (pa_cons (pe_lc (own := [("_law_k", 8)]) (g := gName 8) (tt := tYes) rfl scSide.nd (pi_range1 (by rfl) mr (pa_cons (pv 5) pa_nil)) (blkOk_by (N := nSide) (sc := defScope sSide) (by decide +kernel)) (fun _ _ _ _ _ => pg_name (i := 8) scSide.nd rfl (Or.inl rfl)) (fun _ _ _ _ _ => pts_nil) (fun _ _ _ _ _ => (pe_call GA hr4 (by rfl) DA.at_ DA.kp DA.bd .nil pass0 (pa_cons (pv 0) (pa_cons (pv 1) pa_nil))))) pa_nil)))
        (pss_cons (ps_if (pt_cmpR op_lt (pv 2) pe_int (nomark _)) (pss_one (ps_ret (pe_call GA hr4 (by rfl) DA.at_ DA.kp DA.bd .nil pass0 (pa_cons (pv 0) (pa_cons (pe_op op_add (pv 1) pe_int) pa_nil))))) pss_nil)
        (pss_cons (ps_if (pt_cmpR op_eq (pv 2) pe_int (nomark _)) (pss_one (ps_ret (pe_tup (pa_cons pe_str (pa_cons (pv 3) (pa_cons (pv 6) (pa_cons (pv 4) pa_nil))))))) pss_nil)
        (pss_cons (ps_if (pt_cmpR op_eq (pv 2) pe_int (nomark _)) (pss_one (ps_ret (pe_tup (pa_cons pe_str (pa_cons (pv 3) (pa_cons (pv 7) (pa_cons (pv 4) pa_nil))))))) pss_nil)
        (pss_cons (ps_if (pt_cmpR op_eq (pv 2) pe_int (nomark _)) (pss_one (ps_ret (pe_tup (pa_cons pe_str (pa_cons (pv 3) (pa_cons (pe_call GA hr4 (by rfl) DA.at_ DA.kp DA.bd .nil pass0 (pa_cons (pv 0) (pa_cons (pv 1) pa_nil))) (pa_cons (pv 7) (pa_cons (pv 4) pa_nil)))))))) pss_nil)
        (pss_one (ps_ret (pe_tup (pa_cons pe_str (pa_cons (pv 3) (pa_cons (pe_call GA hr4 (by rfl) DA.at_ DA.kp DA.bd .nil pass0 (pa_cons (pv 0) (pa_cons (pv 1) pa_nil))) (pa_cons (pv 4) pa_nil)))))))))))))))))), ?_⟩
    have Tk : 12 * (T k : Int) + (T (k + 1) : Int) ≤ 8009 := by
      rcases (by omega : k = 0 ∨ k = 1 ∨ k = 2 ∨ k = 3) with rfl | rfl | rfl | rfl <;> decide
    have Tle : T k ≤ T (k + 1) := by show T k ≤ 3 * T k + 14; omega
    have Sk : S k ≤ 10860 ∧ S (k + 1) ≤ 43500 := by
      rcases (by omega : k = 0 ∨ k = 1 ∨ k = 2 ∨ k = 3) with rfl | rfl | rfl | rfl <;> decide
    refine take_ok (i := 0) rfl pu (by omega) (by decide) (by decide) (fun d G1 d0 d8 k1 pu1 => ?_)
    -- node
    refine ⟨_, rfl, p, _, rfl, pu1, by omega, fun z1 G2 nz1 k2 pu2 => ⟨_, rfl, p, _, rfl, pu2, by omega, fun z2 G3 nz2 k3 pu3 => ⟨_, _, rfl, rfl, Nat.le_trans (Nat.add_le_add_left nz2.2 1) (by decide), by show 2 ≤ sizeLine; decide, fun L hL => ?_⟩⟩⟩
    have nL := pu3.ne hL
    refine take_ok (i := 0) rfl (pu3.of (upd_ne nL.symm)) (by omega) (by decide) (by decide) (fun u G4 u0 u1 k4 pu4 => ?_)
    obtain ⟨v, mv, ev⟩ := pick (xs := [V.str "", .str ("." ++ z2)]) u0 u1
    obtain ⟨y, rfl, hy⟩ : ∃ y : Str, v = .str y ∧ (∀ c ∈ y.cps.toList, c < 16 ^ 8) ∧ y.cps.size ≤ 9 := by
      simp only [List.mem_cons, List.not_mem_nil, or_false] at mv
      rcases mv with rfl | rfl
      · exact ⟨_, rfl, (fun _ m => nomatch m), by decide⟩
      · exact ⟨_, rfl, app_ok (by decide +kernel) nz2.1 (Nat.add_le_add_left nz2.2 1)⟩
    have k04 : Kp (· ≠ p) H G4 := fun a o na h => k4 a o na (same_new hL _ _ (k3 a o na (k2 a o na (k1 a o na h))))
    have nd : ndOk (z1 ++ y) := app_ok nz1.1 hy.1 (Nat.add_le_add nz1.2 hy.2)
    refine ⟨L, _, u, _, rfl, rfl, SqL.of (k4 _ _ nL upd_same), ev, _, _, rfl, rfl, Nat.le_trans (Nat.add_le_add nz1.2 hy.2) (by decide), ?_⟩
    generalize z1 ++ y = nde at nd
    clear mv ev hL nL k1 k2 k3 k4
    -- every
    refine ⟨_, rfl, p, _, rfl, pu4, by omega, fun z3 G5 nz3 k5 pu5 => ⟨by show 2 ≤ sizeLine; decide, fun L hL => ?_⟩⟩
    have nL := pu5.ne hL
    refine take_ok (i := 0) rfl (pu5.of (upd_ne nL.symm)) (by omega) (by decide) (by decide) (fun u G6 u0 u1 k6 pu6 => ?_)
    obtain ⟨ev_, mv, eve⟩ := pick (xs := [V.non, .str z3]) u0 u1
    obtain ⟨de, she, fe, se⟩ : ∃ de : PyData, (∀ G P, Sh G P true ev_ de) ∧ fit 6 9 de ∧ sl de ≤ 83 := by
      simp only [List.mem_cons, List.not_mem_nil, or_false] at mv
      rcases mv with rfl | rfl
      · exact ⟨_, fun _ _ => .non, fit_non, by simp only [sl]; omega⟩
      · exact ⟨_, fun _ _ => .str _, nm_fit nz3, slS (n := 8) nz3.2⟩
    have k06 : Kp (· ≠ p) H G6 := fun a o na h => k6 a o na (same_new hL _ _ (k5 a o na (k04 a o na h)))
    refine ⟨L, _, u, _, rfl, rfl, SqL.of (k6 _ _ nL upd_same), eve, ?_⟩
    clear mv eve hL nL k5 k6 k04
    dsimp only [gName]
    -- args
    refine take_ok (i := 0) rfl pu6 (by omega) (by decide) (by decide) (fun c1 G7 c0 c7 k7 pu7 => ⟨by show 3 ≤ sizeLine; decide, fun L hL => ?_⟩)
    have nL := pu7.ne hL
    refine take_ok (i := 0) rfl (pu7.of (upd_ne nL.symm)) (by omega) (by decide) (by decide) (fun u G8 u0 u1 k8 pu8 => ?_)
    obtain ⟨v, mv, ev⟩ := pick (xs := [V.int 0, .int 6, .int c1]) u0 u1
    obtain ⟨c, rfl, cl, ch⟩ : ∃ c : Int, v = .int c ∧ 0 ≤ c ∧ c ≤ 6 := by
      simp only [List.mem_cons, List.not_mem_nil, or_false] at mv
      rcases mv with rfl | rfl | rfl
      · exact ⟨_, rfl, by decide, by decide⟩
      · exact ⟨_, rfl, by decide, by decide⟩
      · exact ⟨_, rfl, by omega, by omega⟩
    have k08 : Kp (· ≠ p) H G8 := fun a o na h => k8 a o na (same_new hL _ _ (k7 a o na (k06 a o na h)))
    refine ⟨L, _, u, _, rfl, rfl, SqL.of (k8 _ _ nL upd_same), ev, ?_⟩
    clear mv ev hL nL k7 k8 k06
    dsimp only [gName, tSeq, tAsg]
    refine anys_ok (K := K) (m := 5) (k := k) he (by omega) pu8 (by omega) cl ch (fun ua xa da_ G9 la sha fa hua gua k9 pu9 => ?_)
    have k09 : Kp (· ≠ p) H G9 := fun a o na h => k9 a o na (k08 a o na h)
    have sha := ShAll.on (P' := Fr H) (fun _ _ f _ => pu8.back k08 f) (fun _ _ _ e => e) _ _ sha
    have hua := pu8.back k08 hua
    -- some
    refine take_ok (i := 0) rfl pu9 (by omega) (by decide) (by decide) (fun c1 G10 c0 c7 k10 pu10 => ⟨_, _, rfl, rfl, by show 3 ≤ sizeLine; decide, fun L hL => ?_⟩)
    have nL := pu10.ne hL
    refine take_ok (i := 0) rfl (pu10.of (upd_ne nL.symm)) (by omega) (by decide) (by decide) (fun u G11 u0 u1 k11 pu11 => ?_)
    obtain ⟨v, mv, ev⟩ := pick (xs := [V.int 1, .int 4, .int (1 + c1)]) u0 u1
    obtain ⟨c, rfl, cl, ch⟩ : ∃ c : Int, v = .int c ∧ 0 ≤ c ∧ c ≤ 6 := by
      simp only [List.mem_cons, List.not_mem_nil, or_false] at mv
      rcases mv with rfl | rfl | rfl
      · exact ⟨_, rfl, by decide, by decide⟩
      · exact ⟨_, rfl, by decide, by decide⟩
      · exact ⟨_, rfl, by omega, by omega⟩
    have k9b : Kp (· ≠ p) G9 G11 := fun a o na h => k11 a o na (same_new hL _ _ (k10 a o na h))
    have k011 : Kp (· ≠ p) H G11 := fun a o na h => k9b a o na (k09 a o na h)
    refine ⟨L, _, u, _, rfl, rfl, SqL.of (k11 _ _ nL upd_same), ev, ?_⟩
    clear mv ev hL nL k10 k11
    dsimp only [gName, tSeq, tAsg]
    refine anys_ok (K := K) (m := 5) (k := k) he (by omega) pu11 (by omega) cl ch (fun us xs ds_ G12 ls shs fs hus gus k12 pu12 => ?_)
    have k9c : Kp (· ≠ p) G9 G12 := fun a o na h => k12 a o na (k9b a o na h)
    have k012 : Kp (· ≠ p) H G12 := fun a o na h => k9c a o na (k09 a o na h)
    have shs := ShAll.on (P' := Fr H) (fun _ _ f _ => pu11.back k011 f) (fun _ _ _ e => e) _ _ shs
    have hus := pu11.back k011 hus
    have sha : ShAll G12 (Fr H) true xa da_ := ShAll.on (fun _ _ f _ => f) (fun a o f e => k9c a o (pu.ne f) e) _ _ sha
    have gua := k9c _ _ (pu.ne hua) gua
    have fit_mono' : ∀ d, fit 4 (2 * k + 2) d → fit 6 8 d := fun d h => fit_mono (by decide) d (by omega) h
    have ha : Sh G12 (Fr H) true (.ref ua) (.tuple da_) ∧ fit 6 9 (.tuple da_) ∧ sl (.tuple da_) ≤ 65180 := by
      refine ⟨.tup gua hua sha, fit_tup.mpr ⟨la, fun d m => fit_mono' d (fa d m).1⟩, ?_⟩
      have a := slA_le (n := S k) (l := da_) fun d m => (fa d m).2
      have b : (S k + 2) * da_.length ≤ (S k + 2) * 6 := Nat.mul_le_mul_left _ la
      rw [sl_tup]; omega
    have hs : Sh G12 (Fr H) true (.ref us) (.tuple ds_) ∧ fit 6 9 (.tuple ds_) ∧ sl (.tuple ds_) ≤ 65180 := by
      refine ⟨.tup gus hus shs, fit_tup.mpr ⟨ls, fun d m => fit_mono' d (fs d m).1⟩, ?_⟩
      have a := slA_le (n := S k) (l := ds_) fun d m => (fs d m).2
      have b : (S k + 2) * ds_.length ≤ (S k + 2) * 6 := Nat.mul_le_mul_left _ ls
      rw [sl_tup]; omega
    have en : sl (.str nde) ≤ 173 := slS (n := 17) nd.2
    clear sha shs gua gus hua hus fa fs
    have fin : ∀ (G : Hp) (vs : List V) (ds : List PyData) (n' : Int), Kp (· ≠ p) H G → Purse G p n' → n' ≤ n + 8200 → ShAll G (Fr H) true vs ds → (∀ d ∈ ds, fit 6 9 d) → ds.length ≤ 6 → slA ds + 3 ≤ 77000 → ds ≠ [] → ∀ t, G t = none → Q (.ref t) (upd G t (.tup vs)) := fun G vs ds n' kG pG ln sh ft l4 sl' ne t ht =>
      q _ (.tuple ds) _ (.tup upd_same (pG.back kG ht) (shAll_same (same_new ht) sh)) (fit_tup.mpr ⟨l4, ft⟩) (by rw [sl_tup]; exact sl') ⟨ds, rfl, ne⟩ (fun a o na h => same_new ht _ _ (kG a o na h)) ((pG.of (upd_ne (pG.ne ht).symm)).mono ln)
    refine ⟨_, rfl, _, _, rfl, rfl, _, rfl, ite2 (fun _ => ?_) (fun _ => ?_)⟩
    · refine ⟨_, rfl, _, rfl, _, _, rfl, rfl, p, _, _, k + 1, rfl, by omega, by omega, pu12, by omega, fun v d G13 shv fv sv tv k13 pu13 => ?_⟩
      exact q _ d _ (sh_back pu12 k012 shv) (fit_mono (by decide) d (by omega) fv) (by omega) tv (fun a o na h => k13 a o na (k012 a o na h)) (pu13.mono (by omega))
    refine ⟨_, rfl, rfl, _, rfl, ite2 (fun _ => ?_) (fun _ => ?_)⟩
    · refine ⟨_, rfl, _, rfl, _, rfl, by show 4 ≤ sizeLine; decide, fin G12 _ [.str "call", .str nde, .tuple da_, de] _ k012 pu12 (by omega) (.cons (.str _) (.cons (.str _) (.cons ha.1 (.cons (she _ _) .nil)))) (fitA_cons (fit_str.mpr (by decide +kernel)) (fitA_cons (nd_fit nd) (fitA_cons ha.2.1 (fitA_cons fe fitA_nil)))) (by show 4 ≤ 6; decide) ?_ (by simp)⟩
      have e1 : sl (.str "call") ≤ 43 := slS (n := 4) (by decide)
      have := ha.2.2
      rw [slA_cons, slA_cons, slA_cons, slA_cons, slA_nil]; omega
    refine ⟨_, rfl, rfl, _, rfl, ite2 (fun _ => ?_) (fun _ => ?_)⟩
    · refine ⟨_, rfl, _, rfl, _, rfl, by show 4 ≤ sizeLine; decide, fin G12 _ [.str "map", .str nde, .tuple ds_, de] _ k012 pu12 (by omega) (.cons (.str _) (.cons (.str _) (.cons hs.1 (.cons (she _ _) .nil)))) (fitA_cons (fit_str.mpr (by decide +kernel)) (fitA_cons (nd_fit nd) (fitA_cons hs.2.1 (fitA_cons fe fitA_nil)))) (by show 4 ≤ 6; decide) ?_ (by simp)⟩
      have e1 : sl (.str "map") ≤ 33 := slS (n := 3) (by decide)
      have := hs.2.2
      rw [slA_cons, slA_cons, slA_cons, slA_cons, slA_nil]; omega
    refine ⟨_, rfl, rfl, _, rfl, ite2 (fun _ => ?_) (fun _ => ?_)⟩
    · refine ⟨_, rfl, _, rfl, _, rfl, p, _, _, k, rfl, he, by omega, pu12, by omega, fun v d G13 shv fv sv tv k13 pu13 => ⟨_, rfl, _, rfl, by show 5 ≤ sizeLine; decide, fin G13 _ [.str "fold", .str nde, d, .tuple ds_, de] _ (fun a o na h => k13 a o na (k012 a o na h)) pu13 (by omega) (.cons (.str _) (.cons (.str _) (.cons (sh_back pu12 k012 shv) (.cons (sh_step pu k13 hs.1) (.cons (she _ _) .nil))))) (fitA_cons (fit_str.mpr (by decide +kernel)) (fitA_cons (nd_fit nd) (fitA_cons (fit_mono (by decide) d (by omega) fv) (fitA_cons hs.2.1 (fitA_cons fe fitA_nil))))) (by show 5 ≤ 6; decide) ?_ (by simp)⟩⟩
      have e1 : sl (.str "fold") ≤ 43 := slS (n := 4) (by decide)
      have := hs.2.2
      rw [slA_cons, slA_cons, slA_cons, slA_cons, slA_cons, slA_nil]; omega
    · refine ⟨_, rfl, _, rfl, _, rfl, p, _, _, k, rfl, he, by omega, pu12, by omega, fun v d G13 shv fv sv tv k13 pu13 => ⟨_, rfl, by show 4 ≤ sizeLine; decide, fin G13 _ [.str "pairs", .str nde, d, de] _ (fun a o na h => k13 a o na (k012 a o na h)) pu13 (by omega) (.cons (.str _) (.cons (.str _) (.cons (sh_back pu12 k012 shv) (.cons (she _ _) .nil)))) (fitA_cons (fit_str.mpr (by decide +kernel)) (fitA_cons (nd_fit nd) (fitA_cons (fit_mono (by decide) d (by omega) fv) (fitA_cons fe fitA_nil)))) (by show 4 ≤ 6; decide) ?_ (by simp)⟩⟩
      have e1 : sl (.str "pairs") ≤ 53 := slS (n := 5) (by decide)
      rw [slA_cons, slA_cons, slA_cons, slA_cons, slA_nil]; omega
end
end P4
end Bf

namespace Bf
open PySem PySem.Spec PyProof.Rows L2
/-- comprehensions over a tuple that keep what fails a test -/
theorem filter_take {α : Type} {p : α → Bool} {l : List α} {i : Nat} {x : α} (h : l[i]? = some x) : (l.take (i + 1)).filter p = (l.take i).filter p ++ if p x = true then [x] else [] := by
  rw [List.take_add_one, h, List.filter_append]
  congr 1
  show [x].filter p = _
  rw [List.filter_cons, List.filter_nil]
theorem filter_empty {α : Type} {p : α → Bool} {l : List α} : (l.filter fun x => !p x).isEmpty = l.all p := by
  induction l with
  | nil => rfl
  | cons a r ih =>
    rw [List.filter_cons, List.all_cons]
    cases p a with
    | true => exact ih
    | false => rfl
namespace P4
section
variable {P : Program} {w : World} {K : PySem.W.Frag} {mg : Str → Option Value} {base : Heap}
abbrev nLNum : List Str := ["_law_thing", "_law_low", "_law_high"]
theorem scLNum : FnScope nLNum nLNum (defScope sLNumber) := ⟨rfl, rfl, rfl, by decide +kernel, rfl, by decide +kernel, by decide +kernel⟩
theorem ok_lnum {f : Addr} {fd : FuncData} (F : Fun K "_law_is_number" "_law_is_number" sLNumber f fd) (mi : mg "isinstance" = none) (mI : mg "int" = none) (mb : mg "bool" = none) :
    FnOk P w K mg base CX0 1 f fd nLNum (spWhole K) := by
  refine F.ok scLNum (fun vs H Q E h => ?_) (fun cdv A outer s H vs Q E hr h => ?_)
  · obtain ⟨x, n, lo, hi, rfl, _⟩ := h
    rfl
  · obtain ⟨x, n, lo, hi, rfl, kn, q⟩ := h
    refine ⟨_, (pss_one (ps_ret (pe_and (pe_callB call_isi (by rfl) mi (by decide +kernel) (pa_cons (pv 0) (pa_cons (pe_bltn (v := .ty "int") (by rfl) mI (by decide +kernel) rfl) pa_nil))) (pe_and (pe_not (pe_callB call_isi (by rfl) mi (by decide +kernel) (pa_cons (pv 0) (pa_cons (pe_bltn (v := .ty "bool") (by rfl) mb (by decide +kernel) rfl) pa_nil)))) (pe_and (pe_cmpR op_le (pv 1) (pv 0) (nomark _)) (pe_one (pe_cmpR op_le (pv 0) (pv 2) (nomark _)))))))), ?_⟩
    cases kn with
    | int i =>
      refine ⟨_, rfl, _, _, _, _, _, rfl, .ty "int", .base (.int i), kit_ty (by decide +kernel), _, rfl, iteT ?_⟩
      refine ⟨_, rfl, _, _, _, _, false, rfl, .ty "bool", .base (.int i), kit_ty (by decide +kernel), _, rfl, _, rfl, iteT ?_⟩
      refine ⟨_, rfl, _, rfl, _, _, rfl, rfl, _, rfl, ite2 (fun h1 => ?_) (fun h1 => ?_)⟩
      · refine ⟨_, rfl, _, rfl, _, _, rfl, rfl, ?_⟩
        have e : wholeB (.int i) lo hi = decide (i ≤ hi) := by
          show (decide (lo ≤ i) && decide (i ≤ hi)) = _
          rw [h1]; rfl
        rw [e] at q; exact q
      · have e : wholeB (.int i) lo hi = false := by
          show (decide (lo ≤ i) && decide (i ≤ hi)) = _
          rw [Bool.eq_false_iff.mpr h1]; rfl
        rw [e] at q; exact q
    | bl b =>
      refine ⟨_, rfl, _, _, _, _, _, rfl, .ty "int", .base (.bl b), kit_ty (by decide +kernel), _, rfl, iteT ?_⟩
      exact ⟨_, rfl, _, _, _, _, true, rfl, .ty "bool", .base (.bl b), kit_ty (by decide +kernel), _, rfl, _, rfl, iteF q⟩
    | non => exact ⟨_, rfl, _, _, _, _, _, rfl, .ty "int", .base .non, kit_ty (by decide +kernel), _, rfl, iteF q⟩
    | str z => exact ⟨_, rfl, _, _, _, _, _, rfl, .ty "int", .base (.str z), kit_ty (by decide +kernel), _, rfl, iteF q⟩
    | lst t => exact ⟨_, rfl, _, _, _, _, _, rfl, .ty "int", t, kit_ty (by decide +kernel), _, rfl, iteF q⟩
    | tup t => exact ⟨_, rfl, _, _, _, _, _, rfl, .ty "int", t, kit_ty (by decide +kernel), _, rfl, iteF q⟩
    | dic t => exact ⟨_, rfl, _, _, _, _, _, rfl, .ty "int", t, kit_ty (by decide +kernel), _, rfl, iteF q⟩
abbrev nLIsName : List Str := ["_law_thing", "_law_sign"]
theorem scLIsName : FnScope nLIsName ["_law_thing"] (defScope sLIsName) := ⟨rfl, rfl, rfl, by decide +kernel, rfl, by decide +kernel, by decide +kernel⟩
theorem ok_lisname {f : Addr} {fd : FuncData} (F : Fun K "_law_is_name" "_law_is_name" sLIsName f fd) (mi : mg "isinstance" = none) (ms : mg "str" = none) (ml : mg "len" = none) : FnOk P w K mg base CX0 1 f fd ["_law_thing"] spName := by
  refine F.ok scLIsName (fun vs H Q E h => ?_) (fun cdv A outer s H vs Q E hr h => ?_)
  · obtain ⟨x, d, rfl, _⟩ := h
    rfl
  · obtain ⟨x, d, rfl, da, q⟩ := h
    refine ⟨_, (pss_cons (ps_if (PW.pt (pw_or (pt_not (pt_val (pe_callB call_isi (by rfl) mi (by decide +kernel) (pa_cons (pv 0) (pa_cons (pe_bltn (v := .ty "str") (by rfl) ms (by decide +kernel) rfl) pa_nil))))) (pw_or (pt_cmpR op_lt (pe_callB call_len_str (by rfl) ml PySem.boot_len (pa_cons (pv 0) pa_nil)) pe_int (nomark _)) (pw_or1 (pt_cmpR op_gt (pe_callB call_len_str (by rfl) ml PySem.boot_len (pa_cons (pv 0) pa_nil)) pe_int (nomark _)))))) (pss_one (ps_ret pe_bl)) pss_nil)
        (pss_one (ps_ret (pe_cmpR (op_eqNil hr.units) (pe_lc (own := [("_law_sign", 1)]) (g := gName 1) (tt := _) rfl scLIsName.nd (pi_str (pv 0)) (blkOk_by (N := nLIsName) (sc := defScope sLIsName) (by decide +kernel)) (fun _ _ _ _ _ => pg_name (i := 1) scLIsName.nd rfl (Or.inl rfl)) (fun _ _ _ _ _ => (pts_one (pt_not (pt_chain op_le_str op_le_str pe_str (pv 1) pe_str)))) (fun _ _ _ _ _ => (pv 1))) (pe_lst pa_nil) (nomark _))))), ?_⟩
    refine ⟨_, rfl, x, .ty "str", _, _, _, rfl, .ty "str", da.kn.ty, kit_ty (kit_str d), _, rfl, ?_⟩
    cases da with
    | str z hz =>
      refine iteF ?_
      have lz : z.length = z.cps.size := rfl
      have nn : nameD (.str z) = ((decide (1 ≤ z.length) && decide (z.length ≤ 8)) && z.cps.toList.all signB) := rfl
      rw [nn] at q
      refine ⟨_, rfl, z, rfl, Nat.le_trans hz (by decide), _, _, rfl, rfl, _, rfl, ?_⟩
      by_cases h1 : z.length < 1
      · refine iteB (decide_eq_true (by omega)) (iteT ?_)
        rw [decide_eq_false (show ¬ 1 ≤ z.length by omega), Bool.false_and, Bool.false_and] at q
        exact q _ (Same.refl _)
      refine iteN (decide_eq_false (by omega)) ?_
      rw [decide_eq_true (show 1 ≤ z.length by omega), Bool.true_and] at q
      refine ⟨_, rfl, z, rfl, Nat.le_trans hz (by decide), _, _, rfl, rfl, _, rfl, ?_⟩
      by_cases h8 : 8 < z.length
      · refine iteB (decide_eq_true (by omega)) ?_
        rw [decide_eq_false (show ¬ z.length ≤ 8 by omega), Bool.false_and] at q
        exact q _ (Same.refl _)
      refine iteN (decide_eq_false (by omega)) ?_
      rw [decide_eq_true (show z.length ≤ 8 by omega), Bool.true_and] at q
      refine ⟨_, rfl, z, rfl, fun D hD => ?_⟩
      refine lc_its (x := z) (fun i H' => Same H H' ∧ H' D = some (.lst (((z.cps.toList.take i).filter fun c => !signB c).map fun c => V.str ⟨#[c]⟩))) ⟨same_new hD, upd_same⟩ (fun i c H' hc pv => ?_) fun H' pv => ?_
      · have hi : i < z.cps.size := (Array.getElem?_eq_some_iff.mp hc).1
        have hc' : z.cps.toList[i]? = some c := by rw [Array.getElem?_toList]; exact hc
        have ft := filter_take (p := fun c => !signB c) hc'
        have put : signB c = false → ∃ v, some (some (V.str ⟨#[c]⟩)) = some (some v) ∧ ∃ acc, H' D = some (.lst acc) ∧ acc.length < sizeLine ∧ Same H (upd H' D (.lst (acc ++ [v]))) ∧ upd H' D (.lst (acc ++ [v])) D = some (.lst (((z.cps.toList.take (i + 1)).filter fun c => !signB c).map fun c => V.str ⟨#[c]⟩)) := fun e => by
          refine ⟨_, rfl, _, pv.2, ?_, fun a o h => ?_, ?_⟩
          · rw [List.length_map]
            exact small1000 (Nat.le_trans (List.length_filter_le _ _) (by rw [List.length_take]; omega))
          · rw [upd_ne (ne_of_none h hD)]; exact pv.1 _ _ h
          · rw [upd_same, ft, e, List.map_append]
            rfl
        have pass : signB c = true → Same H H' ∧ H' D = some (.lst (((z.cps.toList.take (i + 1)).filter fun c => !signB c).map fun c => V.str ⟨#[c]⟩)) := fun e => ⟨pv.1, by rw [ft, e, pv.2]; simp⟩
        refine ⟨rfl, _, rfl, _, _, rfl, rfl, _, rfl, ite2 (fun g => ⟨_, _, rfl, rfl, _, rfl, ite2 (fun g2 => put ?_) (fun g2 => pass ?_)⟩) (fun g => ⟨_, rfl, iteT (put ?_)⟩)⟩
        · unfold signB
          rw [show (!decide (([c] : List Nat) < ("a" : Str).cps.toList)) = true from g, Bool.true_and]
          simpa using g2
        · unfold signB
          rw [show (!decide (([c] : List Nat) < ("a" : Str).cps.toList)) = true from g, Bool.true_and]
          simpa using g2
        · unfold signB
          rw [show (!decide (([c] : List Nat) < ("a" : Str).cps.toList)) = false from Bool.eq_false_iff.mpr g, Bool.false_and]
      · have e : (z.cps.toList.take z.cps.size) = z.cps.toList := by rw [← Array.length_toList, List.take_length]
        rw [e] at pv
        refine ⟨by show 0 ≤ sizeLine; decide, fun L hL => ⟨D, L, _, rfl, rfl, SqL.of ((same_new hL) _ _ pv.2), SqL.of upd_same, ?_⟩⟩
        rw [List.isEmpty_map, filter_empty]
        exact q _ (pv.1.trans (same_new hL))
    | _ => exact iteT (q _ (Same.refl _))
abbrev nLIsKind : List Str := ["_law_thing"]
theorem scLIsKind : FnScope nLIsKind nLIsKind (defScope sLIsKind) := ⟨rfl, rfl, rfl, by decide +kernel, rfl, by decide +kernel, by decide +kernel⟩
theorem ok_liskind {f fn : Addr} {fd dn : FuncData} (F : Fun K "_law_is_kind" "_law_is_kind" sLIsKind f fd) (Dn : Df K mg "_law_is_number" fn dn nLNum) (Gn : FnOk P w K mg base CX0 1 fn dn nLNum (spWhole K)) (mi : mg "isinstance" = none) (mt : mg "tuple" = none) (ml : mg "len" = none) :
    FnOk P w K mg base CX0 2 f fd nLIsKind spKind := by
  refine F.ok scLIsKind (fun vs H Q E h => ?_) (fun cdv A outer s H vs Q E hr h => ?_)
  · obtain ⟨x, d, rfl, _⟩ := h
    rfl
  · obtain ⟨x, d, rfl, da, q⟩ := h
    refine ⟨_, (pss_cons (ps_if (pt_val (pe_callB call_isi (by rfl) mi (by decide +kernel) (pa_cons (pv 0) (pa_cons (pe_bltn (v := .ty "tuple") (by rfl) mt (by decide +kernel) rfl) pa_nil)))) (pss_one (ps_ret (pe_and (pe_cmpR op_eq (pe_callB call_len_seq (by rfl) ml PySem.boot_len (pa_cons (pv 0) pa_nil)) pe_int (nomark _)) (pe_and (pe_call Gn hr (by rfl) Dn.at_ Dn.kp Dn.bd .nil pass0 (pa_cons (pe_ix ix_tup (pv 0) pe_int (fun _ _ => rfl)) (pa_cons pe_int (pa_cons pe_int pa_nil)))) (pe_one (pe_call Gn hr (by rfl) Dn.at_ Dn.kp Dn.bd .nil pass0 (pa_cons (pe_ix ix_tup (pv 0) pe_int (fun _ _ => rfl)) (pa_cons pe_int (pa_cons pe_int pa_nil))))))))) pss_nil)
        (pss_one (ps_ret (pe_call Gn hr (by rfl) Dn.at_ Dn.kp Dn.bd .nil pass0 (pa_cons (pv 0) (pa_cons pe_int (pa_cons pe_int pa_nil))))))), ?_⟩
    refine ⟨_, rfl, x, .ty "tuple", _, _, _, rfl, .ty "tuple", da.kn.ty, kit_ty (kit_tup d), _, rfl, ?_⟩
    have out : (tyD d == "tuple") = false → kindD d = wholeB x 1 8 := fun e => by
      cases da with
      | tup _ _ _ => cases e
      | int i => rfl
      | _ => rfl
    by_cases e : (tyD d == "tuple") = true
    · rw [e]
      refine iteT ?_
      cases da with
      | @tup a xs ds h l r =>
        refine ⟨_, rfl, a, xs, rfl, .inr (SqT.of h), rfl, ?_⟩
        by_cases e2 : xs.length = 2
        · match xs, e2, r with
          | [u, v], _, .cons (d := du) h1 (.cons (d := dv) h2 .nil) =>
            refine ⟨_, rfl, iteB (by rfl) ?_⟩
            refine ⟨_, rfl, a, _, 0, _, rfl, rfl, SqT.of h, rfl, u, _, 2, 4, rfl, h1.kn, ?_⟩
            have k : kindD (.tuple [du, dv]) = (wholeB u 2 4 && wholeB v 1 8) := by
              show (wholeD du 2 4 && wholeD dv 1 8) = _
              rw [h1.whole, h2.whole]
            rw [k] at q
            refine ⟨_, rfl, ite2 (fun w1 => ?_) (fun w1 => ?_)⟩
            · rw [w1, Bool.true_and] at q
              exact ⟨_, rfl, a, _, 1, _, rfl, rfl, SqT.of h, rfl, v, _, 1, 8, rfl, h2.kn, q⟩
            · rw [Bool.eq_false_iff.mpr w1, Bool.false_and] at q
              exact q
        · have nl : ¬ V.int ((xs.length : Nat) : Int) = V.int 2 := fun z => e2 (by have := V.int.inj z; omega)
          have k : kindD (.tuple ds) = false := by
            have ld := r.len
            match ds, ld with
            | [], _ => rfl
            | [_], _ => rfl
            | [_, _], ld => exact absurd ld e2
            | _ :: _ :: _ :: _, _ => rfl
          rw [k] at q
          exact ⟨_, rfl, iteN (decide_eq_false nl) q⟩
      | _ => cases e
    · have e' := Bool.eq_false_iff.mpr e
      rw [e']
      rw [out e'] at q
      exact iteF ⟨_, rfl, x, _, 1, 8, rfl, da.kn, q⟩
abbrev nLIsWorth : List Str := ["_law_thing", "_law_kind_here", "_law_one"]
theorem scLIsWorth : FnScope nLIsWorth ["_law_thing", "_law_kind_here"] (defScope sLIsWorth) := ⟨rfl, rfl, rfl, by decide +kernel, rfl, by decide +kernel, by decide +kernel⟩
/-- as many whole numbers, asked one by one -/
theorem da_all {H : Hp} {z : Int} : ∀ {xs : List V} {ds : List PyData}, DaAll H xs ds → (xs.all fun y => wholeB y 0 (topW z)) = ds.all fun e => wholeD e 0 (topW z)
  | _, _, .nil => rfl
  | _, _, .cons h r => by rw [List.all_cons, List.all_cons, da_all r, h.whole]
theorem ok_lisworth {f fn : Addr} {fd dn : FuncData} (F : Fun K "_law_is_worth" "_law_is_worth" sLIsWorth f fd) (Dn : Df K mg "_law_is_number" fn dn nLNum) (Gn : FnOk P w K mg base CX0 1 fn dn nLNum (spWhole K)) (mi : mg "isinstance" = none) (mt : mg "tuple" = none) (ml : mg "len" = none) :
    FnOk P w K mg base CX0 2 f fd ["_law_thing", "_law_kind_here"] spIsWorth := by
  refine F.ok scLIsWorth (fun vs H Q E h => ?_) (fun cdv A outer s H vs Q E hr h => ?_)
  · obtain ⟨x, k, d, e, rfl, _⟩ := h
    rfl
  · obtain ⟨x, k, d, e, rfl, da, db, hk, q⟩ := h
    refine ⟨_, (pss_cons (ps_if (pt_not (pt_val (pe_callB call_isi (by rfl) mi (by decide +kernel) (pa_cons (pv 1) (pa_cons (pe_bltn (v := .ty "tuple") (by rfl) mt (by decide +kernel) rfl) pa_nil))))) (pss_one (ps_ret (pe_call Gn hr (by rfl) Dn.at_ Dn.kp Dn.bd .nil pass0 (pa_cons (pv 0) (pa_cons pe_int (pa_cons (pe_op op_sub (pe_op op_shl pe_int (pv 1)) pe_int) pa_nil)))))) pss_nil)
        (pss_cons (ps_if (PW.pt (pw_or (pt_not (pt_val (pe_callB call_isi (by rfl) mi (by decide +kernel) (pa_cons (pv 0) (pa_cons (pe_bltn (v := .ty "tuple") (by rfl) mt (by decide +kernel) rfl) pa_nil))))) (pw_or1 (pt_cmpR op_ne (pe_callB call_len_seq (by rfl) ml PySem.boot_len (pa_cons (pv 0) pa_nil)) (pe_ix ix_tup (pv 1) pe_int (fun _ _ => rfl)) (nomark _))))) (pss_one (ps_ret pe_bl)) pss_nil)
        (pss_one (ps_ret (pe_cmpR (op_eqNil hr.units) (pe_lc (own := [("_law_one", 2)]) (g := gName 2) (tt := _) rfl scLIsWorth.nd (pi_tup (pv 0)) (blkOk_by (N := nLIsWorth) (sc := defScope sLIsWorth) (by decide +kernel)) (fun _ _ _ _ _ => pg_name (i := 2) scLIsWorth.nd rfl (Or.inl rfl)) (fun _ _ _ _ _ => (pts_one (pt_not (pt_val (pe_call Gn hr (by rfl) Dn.at_ Dn.kp Dn.bd .nil pass0 (pa_cons (pv 2) (pa_cons pe_int (pa_cons (pe_op op_sub (pe_op op_shl pe_int (pe_ix (ixT (K := K) rfl) (pv 1) pe_int (fun _ _ => rfl))) pe_int) pa_nil)))))))) (fun _ _ _ _ _ => (pv 2))) (pe_lst pa_nil) (nomark _)))))), ?_⟩
    refine ⟨_, rfl, k, .ty "tuple", _, _, _, rfl, .ty "tuple", db.kn.ty, kit_ty (kit_tup e), _, rfl, ?_⟩
    rcases kind_inv hk with ⟨z, rfl, z1, z8⟩ | ⟨m, z, rfl, m2, m4, z1, z8⟩
    · cases db
      refine iteT ⟨_, rfl, _, rfl, _, _, rfl, rfl, ⟨by omega, by omega, by decide⟩, _, _, rfl, rfl, x, _, 0, _, rfl, da.kn, ?_⟩
      rw [Int.one_mul]
      have e1 : wholeB x 0 (2 ^ z.toNat - 1) = worthD d (.int z) := da.whole 0 (topW z)
      rw [e1]
      exact q _ (Same.refl _)
    · obtain ⟨kb, ks, rfl, hkb, -, rk⟩ := db.tup_inv
      cases rk with
      | cons r1 rk =>
        cases rk with
        | cons r2 rk =>
          cases rk
          cases r1
          cases r2
          refine iteF ?_
          refine ⟨_, rfl, x, .ty "tuple", _, _, _, rfl, .ty "tuple", da.kn.ty, kit_ty (kit_tup d), _, rfl, ?_⟩
          cases da with
          | @tup a xs ds h l r =>
            refine iteF ?_
            refine ⟨_, rfl, a, xs, rfl, .inr (SqT.of h), _, rfl, kb, _, 0, _, rfl, rfl, SqT.of hkb, rfl, rfl, _, rfl, ?_⟩
            have w0 : worthD (.tuple ds) (.tuple [.int m, .int z]) = (decide ((ds.length : Int) = m) && ds.all fun e => wholeD e 0 (topW z)) := rfl
            by_cases e2 : (xs.length : Int) = m
            · refine iteN (by rw [e2, decide_eq_true rfl]; rfl) ?_
              rw [w0, ← r.len, decide_eq_true e2, Bool.true_and, ← da_all r] at q
              refine ⟨_, rfl, a, rfl, ⟨xs, SqT.of h⟩, fun D hD => lc_tup (K := K) (a := a) (xs := xs) (fun i H' => Same H H' ∧ H' D = some (.lst ((xs.take i).filter fun y => !wholeB y 0 (topW z)))) ⟨same_new hD, upd_same⟩
                (fun i H' _ pv => SqT.of (pv.1 _ _ h)) (fun i y H' hy pv => ?_) fun H' pv => ?_⟩
              · obtain ⟨dy, hdy, day⟩ := r.get hy
                have hi := (List.getElem?_eq_some_iff.mp hy).1
                have ft := filter_take (p := fun y => !wholeB y 0 (topW z)) hy
                have day' := Da.same pv.1 dy y day
                refine ⟨rfl, _, rfl, _, rfl, kb, _, 1, _, rfl, rfl, SqT.of (pv.1 _ _ hkb), rfl, _, _, rfl, rfl, ⟨by omega, by omega, by decide⟩, _, _, rfl, rfl, y, _, 0, _, rfl, day'.kn, _, rfl, ?_⟩
                rw [Int.one_mul]
                show if (!wholeB y 0 (topW z)) = true then _ else _
                cases ew : wholeB y 0 (topW z) with
                | true => exact iteF ⟨pv.1, by rw [ft, ew, pv.2]; simp⟩
                | false =>
                  refine iteT ⟨_, rfl, _, pv.2, ?_, fun b o h => ?_, ?_⟩
                  · exact small1000 (Nat.le_trans (List.length_filter_le _ _) (by rw [List.length_take]; omega))
                  · rw [upd_ne (ne_of_none h hD)]; exact pv.1 _ _ h
                  · rw [upd_same, ft, ew]; rfl
              · rw [List.take_length] at pv
                refine ⟨by show 0 ≤ sizeLine; decide, fun L hL => ⟨D, L, _, rfl, rfl, SqL.of ((same_new hL) _ _ pv.2), SqL.of upd_same, ?_⟩⟩
                rw [filter_empty]
                exact q _ (pv.1.trans (same_new hL))
            · have nl : ¬ V.int ((xs.length : Nat) : Int) = V.int m := fun z => e2 (V.int.inj z)
              refine iteB (by rw [decide_eq_false nl]; rfl) ?_
              rw [w0, ← r.len, decide_eq_false e2, Bool.false_and] at q
              exact q _ (Same.refl _)
          | _ => exact iteT (q _ (Same.refl _))
end
end P4
end Bf

namespace Bf
open PySem PySem.Spec PyProof.Rows L2
namespace P4
theorem term_at {c : Str} {rest : List PyData} {ss : List Str} (e : lk c FM = some ss) : termD (.tuple (.str c :: rest)) = (((decide (rest.length = ss.length) && (List.zipWith fitsD ss rest).all id && (!decide (V.str c = V.str "lit") || litD rest)) && !callS c) && ((List.zipWith oneD ss rest).flatten).all termD) := by
  rw [termD_eq, formed_eq e, within_eq e]
  rfl
theorem term_not {c : Str} {rest : List PyData} (e : lk c FM = none ∨ callS c = true) : termD (.tuple (.str c :: rest)) = false := by
  rw [termD_eq]
  rcases e with e | e
  · have : formedD (.tuple (.str c :: rest)) = false := by
      show (match lk c FM with | some ss => _ | none => false) = _
      rw [e]
    rw [this]; rfl
  · have : callX (.tuple (.str c :: rest)) = true := e
    rw [this]; simp
theorem term_odd {d : PyData} (h : ∀ c rest, d ≠ .tuple (.str c :: rest)) : termD d = false := by
  rw [termD_eq]
  have : formedD d = false := by
    unfold formedD
    split
    · exact absurd rfl (h _ _)
    · rfl
  rw [this]; rfl
theorem fits_kind {d : PyData} : fitsD "kind" d = kindD d := rfl
theorem fits_worth {d : PyData} : fitsD "worth" d = true := rfl
theorem fits_term {d : PyData} : fitsD "term" d = true := rfl
theorem fits_name {d : PyData} : fitsD "name" d = nameD d := rfl
theorem fits_truth {d : PyData} : fitsD "truth" d = wholeD d 0 1 := rfl
theorem fits_width {d : PyData} : fitsD "width" d = wholeD d 1 8 := rfl
theorem fits_bit {d : PyData} : fitsD "bit" d = wholeD d 0 7 := rfl
theorem fits_place {d : PyData} : fitsD "place" d = wholeD d 0 3 := rfl
theorem fits_parts {d : PyData} : fitsD "parts" d = rangeD 2 4 d := rfl
theorem one_kind {d : PyData} : oneD "kind" d = [] := rfl
theorem one_worth {d : PyData} : oneD "worth" d = [] := rfl
theorem one_term {d : PyData} : oneD "term" d = [d] := rfl
theorem one_name {d : PyData} : oneD "name" d = [] := rfl
theorem one_truth {d : PyData} : oneD "truth" d = [] := rfl
theorem one_width {d : PyData} : oneD "width" d = [] := rfl
theorem one_bit {d : PyData} : oneD "bit" d = [] := rfl
theorem one_place {d : PyData} : oneD "place" d = [] := rfl
theorem one_parts {ds : List PyData} : oneD "parts" (.tuple ds) = ds := rfl
def areD (lo hi : Int) : PyData → Bool
  | .tuple ds => (decide (lo ≤ (ds.length : Int)) && decide ((ds.length : Int) ≤ hi)) && ds.all termD
  | _ => false
def litT : List PyData → Bool
  | [k, x] => kindD k && worthD x k
  | _ => false
theorem term_lit (rest : List PyData) : termD (.tuple (.str "lit" :: rest)) = litT rest := by
  rw [term_at (ss := ["kind", "worth"]) (by decide +kernel), show callS "lit" = false by decide +kernel]
  match rest with
  | [] => rfl
  | [_] => rfl
  | [k, x] =>
    simp only [List.zipWith, fits_kind, fits_worth, one_kind, one_worth, litD, litT]
    simp
  | _ :: _ :: _ :: _ => simp [litT]
def oneT : List PyData → Bool
  | [x] => nameD x
  | _ => false
theorem term_nm {c : Str} (h : c = "name" ∨ c = "last") (rest : List PyData) : termD (.tuple (.str c :: rest)) = oneT rest := by
  have e : lk c FM = some (["name"] : List Str) ∧ callS c = false ∧ decide (V.str c = V.str "lit") = false := by rcases h with rfl | rfl <;> decide +kernel
  rw [term_at e.1, e.2.1, e.2.2]
  match rest with
  | [] => rfl
  | [x] =>
    simp only [List.zipWith, fits_name, one_name, oneT]
    simp
  | _ :: _ :: _ => simp [oneT]
def whenT : List PyData → Bool
  | [a, x, t] => termD a && (nameD x && wholeD t 0 1)
  | _ => false
theorem term_when (rest : List PyData) : termD (.tuple (.str "when" :: rest)) = whenT rest := by
  rw [term_at (ss := ["term", "name", "truth"]) (by decide +kernel), show callS "when" = false by decide +kernel, show decide (V.str "when" = V.str "lit") = false by decide +kernel]
  match rest with
  | [] => rfl
  | [_] => rfl
  | [_, _] => rfl
  | [a, x, t] =>
    simp only [List.zipWith, fits_name, fits_term, fits_truth, one_name, one_term, one_truth, whenT]
    simp [Bool.and_comm]
  | _ :: _ :: _ :: _ :: _ => simp [whenT]
def mergeT : List PyData → Bool
  | [x, a, b] => nameD x && (termD a && termD b)
  | _ => false
theorem term_merge (rest : List PyData) : termD (.tuple (.str "merge" :: rest)) = mergeT rest := by
  rw [term_at (ss := ["name", "term", "term"]) (by decide +kernel), show callS "merge" = false by decide +kernel, show decide (V.str "merge" = V.str "lit") = false by decide +kernel]
  match rest with
  | [] => rfl
  | [_] => rfl
  | [_, _] => rfl
  | [x, a, b] =>
    simp only [List.zipWith, fits_name, fits_term, one_name, one_term, mergeT]
    simp
  | _ :: _ :: _ :: _ :: _ => simp [mergeT]
def rowT : List PyData → Bool
  | [p] => areD 2 4 p
  | _ => false
theorem term_row (rest : List PyData) : termD (.tuple (.str "row" :: rest)) = rowT rest := by
  rw [term_at (ss := ["parts"]) (by decide +kernel), show callS "row" = false by decide +kernel, show decide (V.str "row" = V.str "lit") = false by decide +kernel]
  match rest with
  | [] => rfl
  | [p] =>
    cases p with
    | tuple ds =>
      simp only [List.zipWith, fits_parts, one_parts, rowT, areD, rangeD]
      simp
    | _ => rfl
  | _ :: _ :: _ => simp [rowT]
def numT (lo hi : Int) : List PyData → Bool
  | [k, a] => wholeD k lo hi && termD a
  | _ => false
theorem term_num {c s : Str} {lo hi : Int} (h : c = "wide" ∧ s = "width" ∧ lo = 1 ∧ hi = 8 ∨ c = "bit" ∧ s = "bit" ∧ lo = 0 ∧ hi = 7 ∨ c = "at" ∧ s = "place" ∧ lo = 0 ∧ hi = 3) (rest : List PyData) : termD (.tuple (.str c :: rest)) = numT lo hi rest := by
  have e : lk c FM = some [s, "term"] ∧ callS c = false ∧ decide (V.str c = V.str "lit") = false := by rcases h with ⟨rfl, rfl, _, _⟩ | ⟨rfl, rfl, _, _⟩ | ⟨rfl, rfl, _, _⟩ <;> decide +kernel
  have f : ∀ d, fitsD s d = wholeD d lo hi ∧ oneD s d = [] := fun d => by rcases h with ⟨_, rfl, rfl, rfl⟩ | ⟨_, rfl, rfl, rfl⟩ | ⟨_, rfl, rfl, rfl⟩ <;> exact ⟨rfl, rfl⟩
  rw [term_at e.1, e.2.1, e.2.2]
  match rest with
  | [] => rfl
  | [_] => rfl
  | [k, a] =>
    simp only [List.zipWith, (f k).1, (f k).2, fits_term, one_term, numT]
    simp
  | _ :: _ :: _ :: _ => simp [numT]
theorem term_all {c : Str} {n : Nat} (h : lk c FM = some (List.replicate n ("term" : Str)) ∧ callS c = false ∧ decide (V.str c = V.str "lit") = false) (rest : List PyData) : termD (.tuple (.str c :: rest)) = areD n n (.tuple rest) := by
  rw [term_at h.1, h.2.1, h.2.2, List.length_replicate]
  by_cases e : rest.length = n
  · subst e
    have z1 : (List.zipWith fitsD (List.replicate rest.length ("term" : Str)) rest).all id = true := by
      rw [List.all_eq_true]
      intro b m
      obtain ⟨i, hi, rfl⟩ := List.mem_iff_getElem.mp m
      rw [List.getElem_zipWith, List.getElem_replicate]
      rfl
    have z2 : (List.zipWith oneD (List.replicate rest.length ("term" : Str)) rest).flatten = rest := by
      clear z1 h
      induction rest with
      | nil => rfl
      | cons a r ih =>
        rw [List.length_cons, List.replicate_succ, List.zipWith_cons_cons, List.flatten_cons, ih, one_term]
        rfl
    rw [z1, z2]
    simp [areD]
  · have : areD n n (.tuple rest) = false := by
      show ((decide ((n : Int) ≤ (rest.length : Int)) && decide ((rest.length : Int) ≤ (n : Int))) && _) = false
      by_cases h1 : n ≤ rest.length
      · rw [decide_eq_false (show ¬ (rest.length : Int) ≤ (n : Int) by omega)]; simp
      · rw [decide_eq_false (show ¬ (n : Int) ≤ (rest.length : Int) by omega)]; simp
    rw [this, decide_eq_false e]
    simp
abbrev W8 : List Str := ["first", "and", "or", "xor", "add", "sub", "less", "same"]
theorem w8_at : ∀ c ∈ W8, lk c FM = some (List.replicate 2 ("term" : Str)) ∧ callS c = false ∧ decide (V.str c = V.str "lit") = false := by decide +kernel
/-- a word that is none of a term's -/
theorem no_word {c : Str} (h : c ∉ ((["lit", "name", "last", "when", "merge", "row", "wide", "bit", "at", "not", "pick"] : List Str) ++ W8)) : lk c FM = none ∨ callS c = true := by
  have all : ∀ p ∈ FM, p.1 ∈ ((["lit", "name", "last", "when", "merge", "row", "wide", "bit", "at", "not", "pick"] : List Str) ++ W8) ∨ callS p.1 = true := by decide +kernel
  have key : ∀ l : List (Str × List Str), (∀ p ∈ l, p.1 ∈ ((["lit", "name", "last", "when", "merge", "row", "wide", "bit", "at", "not", "pick"] : List Str) ++ W8) ∨ callS p.1 = true) → lk c l = none ∨ callS c = true := by
    intro l
    induction l with
    | nil => intro _; exact .inl rfl
    | cons p r ih =>
      obtain ⟨k, v⟩ := p
      intro hl
      unfold lk
      by_cases e : (k == c) = true
      · have e' := eq_of_beq e
        subst e'
        rcases hl _ List.mem_cons_self with m | m
        · exact absurd m h
        · exact .inr m
      · rw [if_neg e]
        exact ih fun p m => hl p (List.mem_cons_of_mem _ m)
  exact key FM all
theorem inV_str (c : Str) (ws : List Str) : inV (.str c) (ws.map V.str) = ws.any fun z => z == c := by
  unfold inV
  rw [List.any_map]
  rfl
theorem inV_iff {c : Str} {ws : List Str} : inV (.str c) (ws.map V.str) = true ↔ c ∈ ws := by
  rw [inV_str, List.any_eq_true]
  exact ⟨fun ⟨x, m, e⟩ => eq_of_beq e ▸ m, fun m => ⟨c, m, beq_self_eq_true c⟩⟩
end P4
end Bf

namespace Bf
open PySem PySem.Spec PyProof.Rows L2
namespace P4
def spLT (m : Nat) : Sp := fun vs H Q _ => ∃ (x : V) (d : PyData) (k : Nat), vs = [x] ∧ Da H x d ∧ fit 50 k d ∧ k < m ∧ ∀ H', Same H H' → Q (.bl (termD d)) H'
def spLA (m : Nat) : Sp := fun vs H Q _ => ∃ (x : V) (d : PyData) (lo hi : Int), vs = [x, .int lo, .int hi] ∧ Da H x d ∧ (∀ ds, d = .tuple ds → ∀ e ∈ ds, ∃ k, k < m ∧ fit 50 k e) ∧ ∀ H', Same H H' → Q (.bl (areD lo hi d)) H'
abbrev pLAre : List Str := ["_law_thing", "_law_low", "_law_high"]
abbrev nLAre : List Str := ["_law_thing", "_law_low", "_law_high", "_law_one"]
theorem scLAre : FnScope nLAre pLAre (defScope sLAre) := ⟨rfl, rfl, rfl, by decide +kernel, rfl, by decide +kernel, by decide +kernel⟩
abbrev nLTerm : List Str := ["_law_thing", "_law_word", "_law_parts_here", "_law_low", "_law_high"]
theorem scLTerm : FnScope nLTerm ["_law_thing"] (defScope sLTerm) := ⟨rfl, rfl, rfl, by decide +kernel, rfl, by decide +kernel, by decide +kernel⟩
section
variable {P : Program} {w : World} {K : PySem.W.Frag} {mg : Str → Option Value} {base : Heap}
/-- the values of a list of data, kept by a test on the data -/
def keepV (p : PyData → Bool) : List V → List PyData → List V
  | v :: vs, d :: ds => if p d = true then keepV p vs ds else v :: keepV p vs ds
  | _, _ => []
theorem keepV_empty {p : PyData → Bool} : ∀ {vs : List V} {ds : List PyData}, vs.length = ds.length → (keepV p vs ds).isEmpty = ds.all p
  | [], [], _ => rfl
  | v :: vs, d :: ds, h => by
    unfold keepV
    rw [List.all_cons]
    cases p d with
    | true => exact keepV_empty (Nat.succ.inj h)
    | false => rfl
theorem keepV_take {p : PyData → Bool} : ∀ {vs : List V} {ds : List PyData} {i : Nat} {v : V} {d : PyData}, vs[i]? = some v → ds[i]? = some d → keepV p (vs.take (i + 1)) (ds.take (i + 1)) = keepV p (vs.take i) (ds.take i) ++ if p d = true then [] else [v]
  | _ :: _, _ :: _, 0, _, _, h1, h2 => by
    cases h1; cases h2
    rename_i v vs d ds
    show keepV p [v] [d] = keepV p [] [] ++ _
    unfold keepV
    cases p d <;> rfl
  | a :: vs, b :: ds, i + 1, v, d, h1, h2 => by
    have ih := keepV_take (p := p) (vs := vs) (ds := ds) (i := i) h1 h2
    show keepV p (a :: vs.take (i + 1)) (b :: ds.take (i + 1)) = keepV p (a :: vs.take i) (b :: ds.take i) ++ _
    unfold keepV
    cases p b with
    | true => exact ih
    | false =>
      show a :: keepV p (vs.take (i + 1)) (ds.take (i + 1)) = a :: keepV p (vs.take i) (ds.take i) ++ _
      rw [ih]; rfl
theorem keepV_len {p : PyData → Bool} : ∀ (vs : List V) (ds : List PyData), (keepV p vs ds).length ≤ vs.length
  | [], _ => by unfold keepV; exact Nat.zero_le _
  | _ :: _, [] => by unfold keepV; exact Nat.zero_le _
  | v :: vs, d :: ds => by
    unfold keepV
    have := keepV_len (p := p) vs ds
    split
    · rw [List.length_cons]; omega
    · rw [List.length_cons, List.length_cons]; omega
theorem ok_lare {m : Nat} {f ft : Addr} {fd dt : FuncData} (F : Fun K "_law_are_terms" "_law_are_terms" sLAre f fd) (Dt : Df K mg "_law_is_term" ft dt ["_law_thing"]) (Gt : FnOk P w K mg base CX0 (2 * m + 2) ft dt ["_law_thing"] (spLT m)) (mi : mg "isinstance" = none) (mt : mg "tuple" = none) (ml : mg "len" = none) :
    FnOk P w K mg base CX0 (2 * m + 3) f fd pLAre (spLA m) := by
  refine F.ok scLAre (fun vs H Q E h => ?_) (fun cdv A outer s H vs Q E hr h => ?_)
  · obtain ⟨x, d, lo, hi, rfl, _⟩ := h
    rfl
  · obtain ⟨x, d, lo, hi, rfl, da, hf, q⟩ := h
    refine ⟨_, (pss_cons (ps_if (PW.pt (pw_or (pt_not (pt_val (pe_callB call_isi (by rfl) mi (by decide +kernel) (pa_cons (pv 0) (pa_cons (pe_bltn (v := .ty "tuple") (by rfl) mt (by decide +kernel) rfl) pa_nil))))) (pw_or (pt_cmpR op_lt (pe_callB call_len_seq (by rfl) ml PySem.boot_len (pa_cons (pv 0) pa_nil)) (pv 1) (nomark _)) (pw_or1 (pt_cmpR op_gt (pe_callB call_len_seq (by rfl) ml PySem.boot_len (pa_cons (pv 0) pa_nil)) (pv 2) (nomark _)))))) (pss_one (ps_ret pe_bl)) pss_nil)
        (pss_one (ps_ret (pe_cmpR (op_eqNil hr.units) (pe_lc (own := [("_law_one", 3)]) (g := gName 3) (tt := _) rfl scLAre.nd (pi_tup (pv 0)) (blkOk_by (N := nLAre) (sc := defScope sLAre) (by decide +kernel)) (fun _ _ _ _ _ => pg_name (i := 3) scLAre.nd rfl (Or.inl rfl)) (fun _ _ _ _ _ => (pts_one (pt_not (pt_val (pe_call Gt hr (by rfl) Dt.at_ Dt.kp Dt.bd .nil pass0 (pa_cons (pv 3) pa_nil)))))) (fun _ _ _ _ _ => (pv 3))) (pe_lst pa_nil) (nomark _))))), ?_⟩
    refine ⟨_, rfl, x, .ty "tuple", _, _, _, rfl, .ty "tuple", da.kn.ty, kit_ty (kit_tup d), _, rfl, ?_⟩
    cases da with
    | @tup a xs ds h l r =>
      have lr := r.len
      have ea : areD lo hi (.tuple ds) = ((decide (lo ≤ (ds.length : Int)) && decide ((ds.length : Int) ≤ hi)) && ds.all termD) := rfl
      rw [ea] at q
      refine iteF ⟨_, rfl, a, xs, rfl, .inr (SqT.of h), _, rfl, _, _, rfl, rfl, _, rfl, ?_⟩
      by_cases h1 : (xs.length : Int) < lo
      · refine iteB (decide_eq_true h1) (iteT ?_)
        rw [decide_eq_false (show ¬ lo ≤ (ds.length : Int) by omega), Bool.false_and, Bool.false_and] at q
        exact q _ (Same.refl _)
      refine iteN (decide_eq_false h1) ?_
      rw [decide_eq_true (show lo ≤ (ds.length : Int) by omega), Bool.true_and] at q
      refine ⟨_, rfl, a, xs, rfl, .inr (SqT.of h), _, rfl, _, _, rfl, rfl, _, rfl, ?_⟩
      by_cases h2 : hi < (xs.length : Int)
      · refine iteB (decide_eq_true h2) ?_
        rw [decide_eq_false (show ¬ (ds.length : Int) ≤ hi by omega), Bool.false_and] at q
        exact q _ (Same.refl _)
      refine iteN (decide_eq_false h2) ?_
      rw [decide_eq_true (show (ds.length : Int) ≤ hi by omega), Bool.true_and] at q
      refine ⟨_, rfl, a, rfl, ⟨xs, SqT.of h⟩, fun D hD => lc_tup (K := K) (a := a) (xs := xs) (fun i H' => Same H H' ∧ H' D = some (.lst (keepV termD (xs.take i) (ds.take i)))) ⟨same_new hD, upd_same⟩
        (fun i H' _ pv => SqT.of (pv.1 _ _ h)) (fun i y H' hy pv => ?_) fun H' pv => ?_⟩
      · obtain ⟨dy, hdy, day⟩ := r.get hy
        obtain ⟨k, hk, fk⟩ := hf ds rfl dy (List.mem_of_getElem? hdy)
        have hi := (List.getElem?_eq_some_iff.mp hy).1
        have kt := keepV_take (p := termD) hy hdy
        refine ⟨rfl, _, rfl, y, dy, k, rfl, Da.same pv.1 dy y day, fk, hk, fun H2 s2 => ⟨_, rfl, ?_⟩⟩
        have s02 := pv.1.trans s2
        cases et : termD dy with
        | true => exact iteF ⟨s02, by rw [kt, et]; simp; exact s2 _ _ pv.2⟩
        | false =>
          refine iteT ⟨_, rfl, _, s2 _ _ pv.2, ?_, fun b o hb => ?_, ?_⟩
          · exact small1000 (Nat.le_trans (keepV_len _ _) (by rw [List.length_take]; omega))
          · rw [upd_ne (ne_of_none hb hD)]; exact s02 _ _ hb
          · rw [upd_same, kt, et]; rfl
      · rw [List.take_length, lr, List.take_length] at pv
        refine ⟨by show 0 ≤ sizeLine; decide, fun L hL => ⟨D, L, _, rfl, rfl, SqL.of ((same_new hL) _ _ pv.2), SqL.of upd_same, ?_⟩⟩
        rw [keepV_empty lr]
        exact q _ (pv.1.trans (same_new hL))
    | _ => exact iteT (iteT (q _ (Same.refl _)))
theorem litT_no {r : List PyData} (h : r.length ≠ 2) : litT r = false := by
  match r, h with
  | [], _ => rfl
  | [_], _ => rfl
  | [_, _], h => exact absurd rfl h
  | _ :: _ :: _ :: _, _ => rfl
theorem oneT_no {r : List PyData} (h : r.length ≠ 1) : oneT r = false := by
  match r, h with
  | [], _ => rfl
  | [_], h => exact absurd rfl h
  | _ :: _ :: _, _ => rfl
theorem whenT_no {r : List PyData} (h : r.length ≠ 3) : whenT r = false := by
  match r, h with
  | [], _ => rfl
  | [_], _ => rfl
  | [_, _], _ => rfl
  | [_, _, _], h => exact absurd rfl h
  | _ :: _ :: _ :: _ :: _, _ => rfl
theorem mergeT_no {r : List PyData} (h : r.length ≠ 3) : mergeT r = false := by
  match r, h with
  | [], _ => rfl
  | [_], _ => rfl
  | [_, _], _ => rfl
  | [_, _, _], h => exact absurd rfl h
  | _ :: _ :: _ :: _ :: _, _ => rfl
theorem rowT_no {r : List PyData} (h : r.length ≠ 1) : rowT r = false := by
  match r, h with
  | [], _ => rfl
  | [_], h => exact absurd rfl h
  | _ :: _ :: _, _ => rfl
theorem numT_no {lo hi : Int} {r : List PyData} (h : r.length ≠ 2) : numT lo hi r = false := by
  match r, h with
  | [], _ => rfl
  | [_], _ => rfl
  | [_, _], h => exact absurd rfl h
  | _ :: _ :: _ :: _, _ => rfl
/-- the small looks that the law calls -/
structure Lks (P : Program) (w : World) (K : PySem.W.Frag) (mg : Str → Option Value) (base : Heap) (fn fm fk fo : Addr) (dn dm dk do_ : FuncData) : Prop where
  Dn : Df K mg "_law_is_number" fn dn nLNum
  Gn : FnOk P w K mg base CX0 1 fn dn nLNum (spWhole K)
  Dm : Df K mg "_law_is_name" fm dm ["_law_thing"]
  Gm : FnOk P w K mg base CX0 1 fm dm ["_law_thing"] spName
  Dk : Df K mg "_law_is_kind" fk dk ["_law_thing"]
  Gk : FnOk P w K mg base CX0 2 fk dk ["_law_thing"] spKind
  Do : Df K mg "_law_is_worth" fo do_ ["_law_thing", "_law_kind_here"]
  Go : FnOk P w K mg base CX0 2 fo do_ ["_law_thing", "_law_kind_here"] spIsWorth
  mi : mg "isinstance" = none
  mt : mg "tuple" = none
  ms : mg "str" = none
  ml : mg "len" = none
set_option maxHeartbeats 2000000 in
theorem ok_lterm {f fa fn fm fk fo : Addr} {fd da_ dn dm dk do_ : FuncData} (F : Fun K "_law_is_term" "_law_is_term" sLTerm f fd) (Dt : Df K mg "_law_is_term" f fd ["_law_thing"]) (FA : Fun K "_law_are_terms" "_law_are_terms" sLAre fa da_) (Da_ : Df K mg "_law_are_terms" fa da_ pLAre) (L : Lks P w K mg base fn fm fk fo dn dm dk do_) :
    ∀ m, FnOk P w K mg base CX0 (2 * m + 2) f fd ["_law_thing"] (spLT m)
  | 0 => ⟨fun _ _ _ _ ⟨_, _, _, e, _⟩ => by rw [e]; rfl, fun _ _ _ _ _ _ _ _ _ _ _ _ _ ⟨_, _, _, _, _, _, h, _⟩ => absurd h (Nat.not_lt_zero _)⟩
  | m + 1 => by
    have Gt := ok_lterm F Dt FA Da_ L m
    have Ga := ok_lare (m := m) FA Dt Gt L.mi L.mt L.ml
    refine F.ok (k := 2 * m + 3) scLTerm (fun vs H Q E h => ?_) (fun cdv A outer s H vs Q E hr h => ?_)
    · obtain ⟨x, d, k, rfl, _⟩ := h
      rfl
    · obtain ⟨x, d, k, rfl, da, fit_, hk, q⟩ := h
      have hrt := hr.mono (by omega : 2 * m + 2 ≤ 2 * m + 3)
      have hr1 := hr.mono (by omega : 1 ≤ 2 * m + 3)
      have hr2 := hr.mono (by omega : 2 ≤ 2 * m + 3)
      refine ⟨_, (pss_cons (ps_if (PW.pt (pw_or (pt_not (pt_val (pe_callB call_isi (by rfl) L.mi (by decide +kernel) (pa_cons (pv 0) (pa_cons (pe_bltn (v := .ty "tuple") (by rfl) L.mt (by decide +kernel) rfl) pa_nil))))) (pw_or (pt_cmpR op_eq (pe_callB call_len_seq (by rfl) L.ml PySem.boot_len (pa_cons (pv 0) pa_nil)) pe_int (nomark _)) (pw_or1 (pt_not (pt_val (pe_callB call_isi (by rfl) L.mi (by decide +kernel) (pa_cons (pe_ix ix_tup (pv 0) pe_int (fun _ _ => rfl)) (pa_cons (pe_bltn (v := .ty "str") (by rfl) L.ms (by decide +kernel) rfl) pa_nil))))))))) (pss_one (ps_ret pe_bl)) pss_nil)
        (pss_cons (ps_par (i := 1) (j := 2) rfl scLTerm.nd rfl rfl (by decide) rfl rfl (pa_cons (pe_ix ix_tup (pv 0) pe_int (fun _ _ => rfl)) (pa_cons (pe_slice sl_tupA (pv 0) (po_some pe_int) po_none) pa_nil)) rfl)
        (pss_cons (ps_if (pt_cmpR op_eq (pv 1) pe_str (nomark _)) (pss_one (ps_ret (pe_and (pe_cmpR op_eq (pe_callB call_len_seq (by rfl) L.ml PySem.boot_len (pa_cons (pv 2) pa_nil)) pe_int (nomark _)) (pe_and (pe_call L.Gk hr2 (by rfl) L.Dk.at_ L.Dk.kp L.Dk.bd .nil pass0 (pa_cons (pe_ix ix_tup (pv 2) pe_int (fun _ _ => rfl)) pa_nil)) (pe_one (pe_call L.Go hr2 (by rfl) L.Do.at_ L.Do.kp L.Do.bd .nil pass0 (pa_cons (pe_ix ix_tup (pv 2) pe_int (fun _ _ => rfl)) (pa_cons (pe_ix ix_tup (pv 2) pe_int (fun _ _ => rfl)) pa_nil)))))))) pss_nil)
        (pss_cons (ps_if (pt_cmpR op_in_seq (pv 1) (pe_tup (pa_cons pe_str (pa_cons pe_str pa_nil))) (by rfl)) (pss_one (ps_ret (pe_and (pe_cmpR op_eq (pe_callB call_len_seq (by rfl) L.ml PySem.boot_len (pa_cons (pv 2) pa_nil)) pe_int (nomark _)) (pe_one (pe_call L.Gm hr1 (by rfl) L.Dm.at_ L.Dm.kp L.Dm.bd .nil pass0 (pa_cons (pe_ix ix_tup (pv 2) pe_int (fun _ _ => rfl)) pa_nil)))))) pss_nil)
        (pss_cons (ps_if (pt_cmpR op_eq (pv 1) pe_str (nomark _)) (pss_cons (ps_if (PW.pt (pw_or (pt_cmpR op_ne (pe_callB call_len_seq (by rfl) L.ml PySem.boot_len (pa_cons (pv 2) pa_nil)) pe_int (nomark _)) (pw_or1 (pt_not (pt_val (pe_call Gt hrt (by rfl) Dt.at_ Dt.kp Dt.bd .nil pass0 (pa_cons (pe_ix ix_tup (pv 2) pe_int (fun _ _ => rfl)) pa_nil))))))) (pss_one (ps_ret pe_bl)) pss_nil)
        (pss_one (ps_ret (pe_and (pe_call L.Gm hr1 (by rfl) L.Dm.at_ L.Dm.kp L.Dm.bd .nil pass0 (pa_cons (pe_ix ix_tup (pv 2) pe_int (fun _ _ => rfl)) pa_nil)) (pe_one (pe_call L.Gn hr1 (by rfl) L.Dn.at_ L.Dn.kp L.Dn.bd .nil pass0 (pa_cons (pe_ix ix_tup (pv 2) pe_int (fun _ _ => rfl)) (pa_cons pe_int (pa_cons pe_int pa_nil))))))))) pss_nil)
        (pss_cons (ps_if (pt_cmpR op_eq (pv 1) pe_str (nomark _)) (pss_one (ps_ret (pe_and (pe_cmpR op_eq (pe_callB call_len_seq (by rfl) L.ml PySem.boot_len (pa_cons (pv 2) pa_nil)) pe_int (nomark _)) (pe_and (pe_call L.Gm hr1 (by rfl) L.Dm.at_ L.Dm.kp L.Dm.bd .nil pass0 (pa_cons (pe_ix ix_tup (pv 2) pe_int (fun _ _ => rfl)) pa_nil)) (pe_and (pe_call Gt hrt (by rfl) Dt.at_ Dt.kp Dt.bd .nil pass0 (pa_cons (pe_ix ix_tup (pv 2) pe_int (fun _ _ => rfl)) pa_nil)) (pe_one (pe_call Gt hrt (by rfl) Dt.at_ Dt.kp Dt.bd .nil pass0 (pa_cons (pe_ix ix_tup (pv 2) pe_int (fun _ _ => rfl)) pa_nil)))))))) pss_nil)
        (pss_cons (ps_if (pt_cmpR op_eq (pv 1) pe_str (nomark _)) (pss_one (ps_ret (pe_and (pe_cmpR op_eq (pe_callB call_len_seq (by rfl) L.ml PySem.boot_len (pa_cons (pv 2) pa_nil)) pe_int (nomark _)) (pe_one (pe_call Ga hr (by rfl) Da_.at_ Da_.kp Da_.bd .nil pass0 (pa_cons (pe_ix ix_tup (pv 2) pe_int (fun _ _ => rfl)) (pa_cons pe_int (pa_cons pe_int pa_nil)))))))) pss_nil)
        (pss_cons (ps_if (pt_cmpR op_in_seq (pv 1) (pe_tup (pa_cons pe_str (pa_cons pe_str (pa_cons pe_str pa_nil)))) (by rfl)) (pss_cons (ps_asg (pe_dget (Nat.lt_of_le_of_lt (Nat.add_le_add_left (by decide) _) hr.units) (pe_disp (pps_cons pe_str (pe_tup (pa_cons pe_int (pa_cons pe_int pa_nil))) (pps_cons pe_str (pe_tup (pa_cons pe_int (pa_cons pe_int pa_nil))) (pps_cons pe_str (pe_tup (pa_cons pe_int (pa_cons pe_int pa_nil))) pps_nil))) rfl rfl (by simp) (by decide)) (pv 1) (fun _ _ => rfl)) (pg_tup rfl (pgs_cons (pg_name (i := 3) scLTerm.nd rfl (Or.inl rfl)) (pgs_cons (pg_name (i := 4) scLTerm.nd rfl (Or.inl rfl)) pgs_nil))))
        (pss_one (ps_ret (pe_and (pe_cmpR op_eq (pe_callB call_len_seq (by rfl) L.ml PySem.boot_len (pa_cons (pv 2) pa_nil)) pe_int (nomark _)) (pe_and (pe_call L.Gn hr1 (by rfl) L.Dn.at_ L.Dn.kp L.Dn.bd .nil pass0 (pa_cons (pe_ix ix_tup (pv 2) pe_int (fun _ _ => rfl)) (pa_cons (pv 3) (pa_cons (pv 4) pa_nil)))) (pe_one (pe_call Gt hrt (by rfl) Dt.at_ Dt.kp Dt.bd .nil pass0 (pa_cons (pe_ix ix_tup (pv 2) pe_int (fun _ _ => rfl)) pa_nil)))))))) pss_nil)
        (pss_cons (ps_if (pt_cmpR op_in_seq (pv 1) (pe_tup (pa_cons pe_str (pa_cons pe_str pa_nil))) (by rfl)) (pss_one (ps_ret (pe_call Ga hr (by rfl) Da_.at_ Da_.kp Da_.bd .nil pass0 (pa_cons (pv 2) (pa_cons (pe_dget (Nat.lt_of_le_of_lt (Nat.add_le_add_left (by decide) _) hr.units) (pe_disp (pps_cons pe_str pe_int (pps_cons pe_str pe_int pps_nil)) rfl rfl (by simp) (by decide)) (pv 1) (fun _ _ => rfl)) (pa_cons (pe_dget (Nat.lt_of_le_of_lt (Nat.add_le_add_left (by decide) _) hr.units) (pe_disp (pps_cons pe_str pe_int (pps_cons pe_str pe_int pps_nil)) rfl rfl (by simp) (by decide)) (pv 1) (fun _ _ => rfl)) pa_nil)))))) pss_nil)
        (pss_one (ps_ret (pe_and (pe_cmpR op_in_seq (pv 1) (pe_tup (pa_cons pe_str (pa_cons pe_str (pa_cons pe_str (pa_cons pe_str (pa_cons pe_str (pa_cons pe_str (pa_cons pe_str (pa_cons pe_str pa_nil))))))))) (by rfl)) (pe_one (pe_call Ga hr (by rfl) Da_.at_ Da_.kp Da_.bd .nil pass0 (pa_cons (pv 2) (pa_cons pe_int (pa_cons pe_int pa_nil))))))))))))))))), ?_⟩
      have q0 : (∀ c rest, d ≠ .tuple (.str c :: rest)) → Q (.bl false) H := fun no => by
        have z := q H (Same.refl _)
        rw [term_odd no] at z
        exact z
      refine ⟨_, rfl, x, .ty "tuple", _, _, _, rfl, .ty "tuple", da.kn.ty, kit_ty (kit_tup d), _, rfl, ?_⟩
      cases da with
      | @tup a xs ds h l r =>
        refine iteF ⟨_, rfl, a, xs, rfl, .inr (SqT.of h), rfl, _, rfl, ?_⟩
        cases r with
        | nil => exact iteB (by rfl) (iteT (q0 fun _ _ z => by cases z))
        | @cons v vs d1 rest hv rv =>
          have nz : ¬ V.int (((v :: vs).length : Nat) : Int) = V.int 0 := fun z => by have := V.int.inj z; rw [List.length_cons] at this; omega
          refine iteN (decide_eq_false nz) ?_
          refine ⟨_, rfl, a, _, ((0 : Nat) : Int), v, rfl, rfl, SqT.of h, atI_nat rfl, v, .ty "str", _, _, _, rfl, .ty "str", hv.kn.ty, kit_ty (kit_str d1), _, rfl, ?_⟩
          cases hv with
          | str c hc =>
            refine iteF ⟨_, rfl, a, _, ((0 : Nat) : Int), _, rfl, rfl, SqT.of h, atI_nat rfl, _, rfl, 1, rfl, a, _, rfl, SqT.of h, (fun z => absurd z (not_whole (k := 1) (by decide) (by simp))), fun _ t ht => ⟨_, _, rfl, ?_⟩⟩
            have ec : cutV (V.str c :: vs) (some (1 : Int)) none = vs := cut_from (k := 1)
            rw [ec]
            obtain ⟨H1, eH1⟩ : ∃ H1, H1 = upd H t (.tup vs) := ⟨_, rfl⟩
            have gt : H1 t = some (.tup vs) := by rw [eH1, upd_same]
            have s1 : Same H H1 := by rw [eH1]; exact same_new ht
            rw [← eH1]
            clear eH1 ht ec nz
            obtain ⟨k', rfl⟩ : ∃ k', k = k' + 1 := by
              cases k with
              | zero => simp only [fit] at fit_
              | succ k' => exact ⟨k', rfl⟩
            have fr : ∀ e ∈ rest, fit 50 k' e := fun e m => (fit_tup.mp fit_).2 e (List.mem_cons_of_mem _ m)
            have hk' : k' < m := by omega
            have lr := rv.len
            refine ⟨_, rfl, rfl, _, rfl, ite2 (fun e => ?_) (fun n1 => ?_)⟩
            · -- lit
              have e := V.str.inj (of_decide_eq_true e)
              subst e
              rw [term_lit] at q
              by_cases l2 : vs.length = 2
              · match vs, rest, rv, l2 with
                | [u, v], [du, dv], .cons h1 (.cons h2 .nil), _ =>
                  refine ⟨_, rfl, t, _, rfl, .inr (SqT.of gt), rfl, _, rfl, iteB (by rfl) ?_⟩
                  have h1' := Da.same s1 du u h1
                  have h2' := Da.same s1 dv v h2
                  have lq : litT [du, dv] = (kindD du && worthD dv du) := rfl
                  rw [lq] at q
                  refine ⟨_, rfl, t, _, 0, _, rfl, rfl, SqT.of gt, rfl, u, du, rfl, h1', _, rfl, ite2 (fun k1 => ?_) (fun k1 => ?_)⟩
                  · rw [k1, Bool.true_and] at q
                    exact ⟨_, rfl, t, _, 1, _, rfl, rfl, SqT.of gt, rfl, _, rfl, t, _, 0, _, rfl, rfl, SqT.of gt, rfl, v, u, dv, du, rfl, h2', h1', k1, fun H' s' => q _ (s1.trans s')⟩
                  · rw [Bool.eq_false_iff.mpr k1, Bool.false_and] at q
                    exact q _ s1
              · rw [litT_no (by omega)] at q
                exact ⟨_, rfl, t, _, rfl, .inr (SqT.of gt), rfl, _, rfl, iteN (decide_eq_false fun z => l2 (by have := V.int.inj z; omega)) (q _ s1)⟩
            -- name, last
            refine ⟨_, rfl, by show 2 ≤ sizeLine; decide, fun T1 hT1 => ⟨T1, _, rfl, .inr (SqT.of upd_same), rfl, rfl, _, rfl, ?_⟩⟩
            obtain ⟨H2, eH2⟩ : ∃ H2, H2 = upd H1 T1 (.tup [.str "name", .str "last"]) := ⟨_, rfl⟩
            have s2 : Same H H2 := by rw [eH2]; exact same_trans_new s1 hT1
            have gt2 : H2 t = some (.tup vs) := by rw [eH2]; exact same_new hT1 _ _ gt
            rw [← eH2]
            clear eH2 hT1 gt s1
            refine ite2 (fun e => ?_) (fun n2 => ?_)
            · have e := (inV_iff (ws := ["name", "last"])).mp e
              have e : c = "name" ∨ c = "last" := by simpa using e
              rw [term_nm e] at q
              by_cases l1 : vs.length = 1
              · match vs, rest, rv, l1 with
                | [u], [du], .cons h1 .nil, _ => exact ⟨_, rfl, t, _, rfl, .inr (SqT.of gt2), rfl, _, rfl, iteB (by rfl) ⟨_, rfl, t, _, 0, _, rfl, rfl, SqT.of gt2, rfl, u, du, rfl, Da.same s2 du u h1, fun H' s' => q _ (s2.trans s')⟩⟩
              · rw [oneT_no (by omega)] at q
                exact ⟨_, rfl, t, _, rfl, .inr (SqT.of gt2), rfl, _, rfl, iteN (decide_eq_false fun z => l1 (by have := V.int.inj z; omega)) (q _ s2)⟩
            refine ⟨_, rfl, rfl, _, rfl, ite2 (fun e => ?_) (fun n3 => ?_)⟩
            · -- when
              have e := V.str.inj (of_decide_eq_true e)
              subst e
              rw [term_when] at q
              by_cases l3 : vs.length = 3
              · match vs, rest, rv, l3 with
                | [u, v, y], [du, dv, dy], .cons h1 (.cons h2 (.cons h3 .nil)), _ =>
                  have lq : whenT [du, dv, dy] = (termD du && (nameD dv && wholeD dy 0 1)) := rfl
                  rw [lq] at q
                  refine ⟨_, rfl, t, _, rfl, .inr (SqT.of gt2), rfl, _, rfl, iteN (by rfl) ?_⟩
                  refine ⟨_, rfl, t, _, 0, _, rfl, rfl, SqT.of gt2, rfl, u, du, k', rfl, Da.same s2 du u h1, fr du (by simp), hk', fun H3 s3 => ⟨_, rfl, ?_⟩⟩
                  have s03 := s2.trans s3
                  cases e1 : termD du with
                  | true =>
                    rw [e1, Bool.true_and] at q
                    refine iteF ⟨_, rfl, t, _, 1, _, rfl, rfl, SqT.of (s3 _ _ gt2), rfl, v, dv, rfl, Da.same s03 dv v h2, fun H4 s4 => ⟨_, rfl, ite2 (fun k1 => ?_) (fun k1 => ?_)⟩⟩
                    · have s04 := s03.trans s4
                      rw [k1, Bool.true_and, ← (Da.same s04 dy y h3).whole] at q
                      exact ⟨_, rfl, t, _, 2, _, rfl, rfl, SqT.of (s4 _ _ (s3 _ _ gt2)), rfl, y, _, 0, 1, rfl, (Da.same s04 dy y h3).kn, q _ s04⟩
                    · rw [Bool.eq_false_iff.mpr k1, Bool.false_and] at q
                      exact q _ (s03.trans s4)
                  | false =>
                    rw [e1, Bool.false_and] at q
                    exact iteT (q _ s03)
              · rw [whenT_no (by omega)] at q
                exact ⟨_, rfl, t, _, rfl, .inr (SqT.of gt2), rfl, _, rfl, iteB (by rw [decide_eq_false fun z => l3 (by have := V.int.inj z; omega)]; rfl) (q _ s2)⟩
            refine ⟨_, rfl, rfl, _, rfl, ite2 (fun e => ?_) (fun n4 => ?_)⟩
            · -- merge
              have e := V.str.inj (of_decide_eq_true e)
              subst e
              rw [term_merge] at q
              by_cases l3 : vs.length = 3
              · match vs, rest, rv, l3 with
                | [u, v, y], [du, dv, dy], .cons h1 (.cons h2 (.cons h3 .nil)), _ =>
                  have lq : mergeT [du, dv, dy] = (nameD du && (termD dv && termD dy)) := rfl
                  rw [lq] at q
                  refine ⟨_, rfl, t, _, rfl, .inr (SqT.of gt2), rfl, _, rfl, iteB (by rfl) ?_⟩
                  refine ⟨_, rfl, t, _, 0, _, rfl, rfl, SqT.of gt2, rfl, u, du, rfl, Da.same s2 du u h1, fun H3 s3 => ⟨_, rfl, ite2 (fun k1 => ?_) (fun k1 => ?_)⟩⟩
                  · have s03 := s2.trans s3
                    rw [k1, Bool.true_and] at q
                    refine ⟨_, rfl, t, _, 1, _, rfl, rfl, SqT.of (s3 _ _ gt2), rfl, v, dv, k', rfl, Da.same s03 dv v h2, fr dv (by simp), hk', fun H4 s4 => ⟨_, rfl, ite2 (fun k2 => ?_) (fun k2 => ?_)⟩⟩
                    · have s04 := s03.trans s4
                      rw [k2, Bool.true_and] at q
                      exact ⟨_, rfl, t, _, 2, _, rfl, rfl, SqT.of (s4 _ _ (s3 _ _ gt2)), rfl, y, dy, k', rfl, Da.same s04 dy y h3, fr dy (by simp), hk', fun H5 s5 => q _ (s04.trans s5)⟩
                    · rw [Bool.eq_false_iff.mpr k2, Bool.false_and] at q
                      exact q _ (s03.trans s4)
                  · rw [Bool.eq_false_iff.mpr k1, Bool.false_and] at q
                    exact q _ (s2.trans s3)
              · rw [mergeT_no (by omega)] at q
                exact ⟨_, rfl, t, _, rfl, .inr (SqT.of gt2), rfl, _, rfl, iteN (decide_eq_false fun z => l3 (by have := V.int.inj z; omega)) (q _ s2)⟩
            refine ⟨_, rfl, rfl, _, rfl, ite2 (fun e => ?_) (fun n5 => ?_)⟩
            · -- row
              have e := V.str.inj (of_decide_eq_true e)
              subst e
              rw [term_row] at q
              by_cases l1 : vs.length = 1
              · match vs, rest, rv, l1 with
                | [u], [du], .cons h1 .nil, _ =>
                  refine ⟨_, rfl, t, _, rfl, .inr (SqT.of gt2), rfl, _, rfl, iteB (by rfl) ⟨_, rfl, t, _, 0, _, rfl, rfl, SqT.of gt2, rfl, u, du, 2, 4, rfl, Da.same s2 du u h1, fun es ed e me => ?_, fun H' s' => q _ (s2.trans s')⟩⟩
                  have fu := fr du (by simp)
                  rw [ed] at fu
                  cases k' with
                  | zero => simp only [fit] at fu
                  | succ k'' => exact ⟨k'', by omega, (fit_tup.mp fu).2 e me⟩
              · rw [rowT_no (by omega)] at q
                exact ⟨_, rfl, t, _, rfl, .inr (SqT.of gt2), rfl, _, rfl, iteN (decide_eq_false fun z => l1 (by have := V.int.inj z; omega)) (q _ s2)⟩
            -- wide, bit, at
            refine ⟨_, rfl, by show 3 ≤ sizeLine; decide, fun T1 hT1 => ⟨T1, _, rfl, .inr (SqT.of upd_same), rfl, rfl, _, rfl, ?_⟩⟩
            obtain ⟨H3, eH3⟩ : ∃ H3, H3 = upd H2 T1 (.tup [.str "wide", .str "bit", .str "at"]) := ⟨_, rfl⟩
            have s3 : Same H H3 := by rw [eH3]; exact same_trans_new s2 hT1
            have gt3 : H3 t = some (.tup vs) := by rw [eH3]; exact same_new hT1 _ _ gt2
            rw [← eH3]
            clear eH3 hT1 gt2 s2
            refine ite2 (fun e => ?_) (fun n6 => ?_)
            · have e := (inV_iff (ws := ["wide", "bit", "at"])).mp e
              refine fun p0 hp0 => ⟨by show 2 ≤ sizeLine; decide, fun a1 ha1 => ⟨by show 2 ≤ sizeLine; decide, fun a2 ha2 => ⟨by show 2 ≤ sizeLine; decide, fun a3 ha3 => ?_⟩⟩⟩
              obtain ⟨G, eG⟩ : ∃ G, G = upd (upd (upd (upd H3 p0 (.dK [])) a1 (.tup [.int 1, .int 8])) a2 (.tup [.int 0, .int 7])) a3 (.tup [.int 0, .int 3]) := ⟨_, rfl⟩
              have gp : G p0 = some (.dK []) := by rw [eG]; exact same_new ha3 _ _ (same_new ha2 _ _ (same_new ha1 _ _ upd_same))
              have g1 : G a1 = some (.tup [.int 1, .int 8]) := by rw [eG]; exact same_new ha3 _ _ (same_new ha2 _ _ upd_same)
              have g2 : G a2 = some (.tup [.int 0, .int 7]) := by rw [eG]; exact same_new ha3 _ _ upd_same
              have g3 : G a3 = some (.tup [.int 0, .int 3]) := by rw [eG, upd_same]
              have np1 : a1 ≠ p0 := ne_free upd_same ha1
              have np2 : a2 ≠ p0 := ne_free (same_new ha1 _ _ upd_same) ha2
              have np3 : a3 ≠ p0 := ne_free (same_new ha2 _ _ (same_new ha1 _ _ upd_same)) ha3
              have sG : Same H3 G := by rw [eG]; exact same_trans_new (same_trans_new (same_trans_new (same_new hp0) ha1) ha2) ha3
              rw [← eG]
              clear eG ha1 ha2 ha3
              obtain ⟨ai, sl_, lo, hi, ev, gi, ni, tn⟩ : ∃ (ai : Addr) (sl_ : Str) (lo hi : Int), valV (mergeK [] [(.inr "wide", .ref a1), (.inr "bit", .ref a2), (.inr "at", .ref a3)]) (.inr c) = some (.ref ai) ∧ G ai = some (.tup [.int lo, .int hi]) ∧ ai ≠ p0 ∧
                  (c = "wide" ∧ sl_ = "width" ∧ lo = 1 ∧ hi = 8 ∨ c = "bit" ∧ sl_ = "bit" ∧ lo = 0 ∧ hi = 7 ∨ c = "at" ∧ sl_ = "place" ∧ lo = 0 ∧ hi = 3) := by
                simp only [List.mem_cons, List.not_mem_nil, or_false] at e
                rcases e with rfl | rfl | rfl
                · exact ⟨a1, "width", 1, 8, rfl, g1, np1, .inl ⟨rfl, rfl, rfl, rfl⟩⟩
                · exact ⟨a2, "bit", 0, 7, rfl, g2, np2, .inr (.inl ⟨rfl, rfl, rfl, rfl⟩)⟩
                · exact ⟨a3, "place", 0, 3, rfl, g3, np3, .inr (.inr ⟨rfl, rfl, rfl, rfl⟩)⟩
              rw [term_num tn] at q
              refine ⟨gp, [(.inr "wide", .ref a1), (.inr "bit", .ref a2), (.inr "at", .ref a3)], rfl, by show 3 ≤ 15; decide, _, rfl, p0, .ref ai, rfl, by rw [← ev]; exact DGet.k (k := .inr c) upd_same, ai, _, rfl, SqT.of (by rw [upd_ne ni]; exact gi), rfl, _, _, rfl, _, _, rfl, rfl, ?_⟩
              obtain ⟨H4, eH4⟩ : ∃ H4, H4 = upd G p0 (.dK (mergeK [] [(.inr "wide", .ref a1), (.inr "bit", .ref a2), (.inr "at", .ref a3)])) := ⟨_, rfl⟩
              have s34 : Same H3 H4 := fun b o hb => by rw [eH4, upd_ne (ne_of_none hb hp0)]; exact sG _ _ hb
              rw [← eH4]
              have s4 := s3.trans s34
              have gt4 := s34 _ _ gt3
              by_cases l2 : vs.length = 2
              · match vs, rest, rv, l2 with
                | [u, v], [du, dv], .cons h1 (.cons h2 .nil), _ =>
                  have lq : numT lo hi [du, dv] = (wholeD du lo hi && termD dv) := rfl
                  rw [lq, ← (Da.same s4 du u h1).whole] at q
                  refine ⟨_, rfl, t, _, rfl, .inr (SqT.of gt4), rfl, _, rfl, iteB (by rfl) ?_⟩
                  refine ⟨_, rfl, t, _, 0, _, rfl, rfl, SqT.of gt4, rfl, _, rfl, _, rfl, u, _, lo, hi, rfl, (Da.same s4 du u h1).kn, _, rfl, ite2 (fun k1 => ?_) (fun k1 => ?_)⟩
                  · rw [k1, Bool.true_and] at q
                    exact ⟨_, rfl, t, _, 1, _, rfl, rfl, SqT.of gt4, rfl, v, dv, k', rfl, Da.same s4 dv v h2, fr dv (by simp), hk', fun H5 s5 => q _ (s4.trans s5)⟩
                  · rw [Bool.eq_false_iff.mpr k1, Bool.false_and] at q
                    exact q _ s4
              · rw [numT_no (by omega)] at q
                exact ⟨_, rfl, t, _, rfl, .inr (SqT.of gt4), rfl, _, rfl, iteN (decide_eq_false fun z => l2 (by have := V.int.inj z; omega)) (q _ s4)⟩
            -- not, pick
            refine ⟨_, rfl, by show 2 ≤ sizeLine; decide, fun T1 hT1 => ⟨T1, _, rfl, .inr (SqT.of upd_same), rfl, rfl, _, rfl, ?_⟩⟩
            obtain ⟨H4, eH4⟩ : ∃ H4, H4 = upd H3 T1 (.tup [.str "not", .str "pick"]) := ⟨_, rfl⟩
            have s4 : Same H H4 := by rw [eH4]; exact same_trans_new s3 hT1
            have gt4 : H4 t = some (.tup vs) := by rw [eH4]; exact same_new hT1 _ _ gt3
            rw [← eH4]
            clear eH4 hT1 gt3 s3
            have lt : vs.length ≤ 1000 := Nat.le_trans (Nat.le_succ _) l
            refine ite2 (fun e => ?_) (fun n7 => ?_)
            · have e := (inV_iff (ws := ["not", "pick"])).mp e
              obtain ⟨n, ev, tn⟩ : ∃ n : Nat, valV (mergeK [] [(.inr "not", .int 1), (.inr "pick", .int 3)]) (.inr c) = some (.int (n : Int)) ∧ (lk c FM = some (List.replicate n ("term" : Str)) ∧ callS c = false ∧ decide (V.str c = V.str "lit") = false) := by
                simp only [List.mem_cons, List.not_mem_nil, or_false] at e
                rcases e with rfl | rfl
                · exact ⟨1, rfl, by decide +kernel⟩
                · exact ⟨3, rfl, by decide +kernel⟩
              rw [term_all tn] at q
              refine ⟨_, rfl, fun p1 hp1 => ⟨upd_same, [(.inr "not", .int 1), (.inr "pick", .int 3)], rfl, by show 2 ≤ 15; decide, _, rfl, p1, .int n, rfl, by rw [← ev]; exact DGet.k (k := .inr c) upd_same, fun p2 hp2 => ⟨upd_same, [(.inr "not", .int 1), (.inr "pick", .int 3)], rfl, by show 2 ≤ 15; decide, _, rfl, p2, .int n, rfl, by rw [← ev]; exact DGet.k (k := .inr c) upd_same, ?_⟩⟩⟩
              obtain ⟨H5, eH5⟩ : ∃ H5, H5 = upd (upd (upd (upd H4 p1 (.dK [])) p1 (.dK (mergeK [] [(.inr "not", .int 1), (.inr "pick", .int 3)]))) p2 (.dK [])) p2 (.dK (mergeK [] [(.inr "not", .int 1), (.inr "pick", .int 3)])) := ⟨_, rfl⟩
              have s45 : Same H4 H5 := fun b o hb => by
                have b1 : b ≠ p1 := ne_of_none hb hp1
                have b2 : b ≠ p2 := ne_of_none (by rw [upd_ne b1, upd_ne b1]; exact hb) hp2
                rw [eH5, upd_ne b2, upd_ne b2, upd_ne b1, upd_ne b1]
                exact hb
              rw [← eH5]
              have s5 := s4.trans s45
              exact ⟨.ref t, .tuple rest, n, n, rfl, .tup (s45 _ _ gt4) lt (rv.same s5), fun es ed e me => ⟨k', hk', fr e (by cases ed; exact me)⟩, fun H' s' => q _ (s5.trans s')⟩
            -- words of two
            refine ⟨_, rfl, by show 8 ≤ sizeLine; decide, fun T1 hT1 => ⟨T1, _, rfl, .inr (SqT.of upd_same), rfl, rfl, ?_⟩⟩
            obtain ⟨H5, eH5⟩ : ∃ H5, H5 = upd H4 T1 (.tup [.str "first", .str "and", .str "or", .str "xor", .str "add", .str "sub", .str "less", .str "same"]) := ⟨_, rfl⟩
            have s5 : Same H H5 := by rw [eH5]; exact same_trans_new s4 hT1
            have gt5 : H5 t = some (.tup vs) := by rw [eH5]; exact same_new hT1 _ _ gt4
            rw [← eH5]
            refine ⟨_, rfl, ite2 (fun e => ?_) (fun n8 => ?_)⟩
            · have e := (inV_iff (ws := W8)).mp e
              rw [term_all (w8_at c e)] at q
              exact ⟨_, rfl, .ref t, .tuple rest, 2, 2, rfl, .tup gt5 lt (rv.same s5), fun es ed e me => ⟨k', hk', fr e (by cases ed; exact me)⟩, fun H' s' => q _ (s5.trans s')⟩
            · have nw : termD (.tuple (.str c :: rest)) = false := by
                refine term_not (no_word fun m => ?_)
                rcases List.mem_append.mp m with m | m
                · simp only [List.mem_cons, List.not_mem_nil, or_false] at m
                  rcases m with rfl | rfl | rfl | rfl | rfl | rfl | rfl | rfl | rfl | rfl | rfl
                  · exact n1 (by decide)
                  · exact n2 (by decide +kernel)
                  · exact n2 (by decide +kernel)
                  · exact n3 (by decide)
                  · exact n4 (by decide)
                  · exact n5 (by decide)
                  · exact n6 (by decide +kernel)
                  · exact n6 (by decide +kernel)
                  · exact n6 (by decide +kernel)
                  · exact n7 (by decide +kernel)
                  · exact n7 (by decide +kernel)
                · exact n8 ((inV_iff (ws := W8)).mpr m)
              rw [nw] at q
              have e8 : inV (.str c) [.str "first", .str "and", .str "or", .str "xor", .str "add", .str "sub", .str "less", .str "same"] = false := Bool.eq_false_iff.mpr n8
              first
                | exact q _ s5
                | (show Q (.bl (inV (.str c) [.str "first", .str "and", .str "or", .str "xor", .str "add", .str "sub", .str "less", .str "same"])) H5; rw [e8]; exact q _ s5)
          | _ => exact iteT (q0 fun _ _ z => by cases z)
      | _ => exact iteT (iteT (q0 fun _ _ z => by cases z))
end
end P4
end Bf

namespace Bf
open PySem PySem.Spec PyProof.Rows L2
theorem Da.odd {H : Hp} {x : V} {d : PyData} (h : Da H x d) : Odd H x := by
  cases h with
  | non => exact .non
  | bl c => exact .bl c
  | int i => exact .int i
  | str z _ => exact .str z
  | lst h _ _ => exact .lst h
  | tup h _ _ => exact .tup h
  | emp h => exact .emp h
namespace P4
theorem right_at {c : Str} {rest : List PyData} {ss : List Str} (e : lk c FM = some ss) : rightD (.tuple (.str c :: rest)) = ((decide (rest.length = ss.length) && (List.zipWith fitsD ss rest).all id && (!decide (V.str c = V.str "lit") || litD rest)) && ((List.zipWith oneD ss rest).flatten).all termD) := by
  unfold rightD
  rw [formed_eq e, within_eq e]
theorem right_term {d : PyData} (h : termD d = true) : rightD d = true := by
  obtain ⟨a, _, c⟩ := term_inv h
  unfold rightD
  rw [a, List.all_eq_true.mpr c]; rfl
theorem right_other {d : PyData} (h : callX d = false) : rightD d = termD d := by
  rw [termD_eq, h]
  unfold rightD
  simp
def everyD (d : PyData) : Bool := fitsD "every" d
theorem every_eq {d : PyData} : everyD d = (match d with | .none => true | d => nameD d) := by
  cases d <;> rfl
theorem fits_every {d : PyData} : fitsD "every" d = everyD d := rfl
theorem fits_node {d : PyData} : fitsD "node" d = nodeD d := rfl
theorem fits_args {d : PyData} : fitsD "args" d = rangeD 0 6 d := rfl
theorem fits_rows {d : PyData} : fitsD "rows" d = rangeD 1 4 d := rfl
theorem one_every {d : PyData} : oneD "every" d = [] := rfl
theorem one_node {d : PyData} : oneD "node" d = [] := rfl
theorem one_args {ds : List PyData} : oneD "args" (.tuple ds) = ds := rfl
theorem one_rows {ds : List PyData} : oneD "rows" (.tuple ds) = ds := rfl
def callR (lo hi : Int) : List PyData → Bool
  | [n, a, e] => (nodeD n && everyD e) && areD lo hi a
  | _ => false
def foldR : List PyData → Bool
  | [n, s, a, e] => (nodeD n && everyD e) && (termD s && areD 1 4 a)
  | _ => false
def pairsR : List PyData → Bool
  | [n, s, e] => (nodeD n && everyD e) && termD s
  | _ => false
theorem right_call (rest : List PyData) : rightD (.tuple (.str "call" :: rest)) = callR 0 6 rest := by
  rw [right_at (ss := ["node", "args", "every"]) (by decide +kernel), show decide (V.str "call" = V.str "lit") = false by decide +kernel]
  match rest with
  | [] => rfl
  | [_] => rfl
  | [_, _] => rfl
  | [n, a, e] =>
    cases a with
    | tuple ds =>
      simp only [List.zipWith, fits_node, fits_args, fits_every, one_node, one_args, one_every, callR, areD, rangeD]
      cases nodeD n <;> cases everyD e <;> simp
    | _ =>
      simp only [List.zipWith, fits_node, fits_args, fits_every, callR, areD, rangeD]
      simp
  | _ :: _ :: _ :: _ :: _ => simp [callR]
theorem right_map (rest : List PyData) : rightD (.tuple (.str "map" :: rest)) = callR 1 4 rest := by
  rw [right_at (ss := ["node", "rows", "every"]) (by decide +kernel), show decide (V.str "map" = V.str "lit") = false by decide +kernel]
  match rest with
  | [] => rfl
  | [_] => rfl
  | [_, _] => rfl
  | [n, a, e] =>
    cases a with
    | tuple ds =>
      simp only [List.zipWith, fits_node, fits_rows, fits_every, one_node, one_rows, one_every, callR, areD, rangeD]
      cases nodeD n <;> cases everyD e <;> simp
    | _ =>
      simp only [List.zipWith, fits_node, fits_rows, fits_every, callR, areD, rangeD]
      simp
  | _ :: _ :: _ :: _ :: _ => simp [callR]
theorem right_fold (rest : List PyData) : rightD (.tuple (.str "fold" :: rest)) = foldR rest := by
  rw [right_at (ss := ["node", "term", "rows", "every"]) (by decide +kernel), show decide (V.str "fold" = V.str "lit") = false by decide +kernel]
  match rest with
  | [] => rfl
  | [_] => rfl
  | [_, _] => rfl
  | [_, _, _] => rfl
  | [n, s, a, e] =>
    cases a with
    | tuple ds =>
      simp only [List.zipWith, fits_node, fits_rows, fits_every, fits_term, one_node, one_rows, one_every, one_term, foldR, areD, rangeD]
      cases nodeD n <;> cases everyD e <;> cases hs : termD s <;> simp [hs]
    | _ =>
      simp only [List.zipWith, fits_node, fits_rows, fits_every, foldR, areD, rangeD]
      simp
  | _ :: _ :: _ :: _ :: _ :: _ => simp [foldR]
theorem right_pairs (rest : List PyData) : rightD (.tuple (.str "pairs" :: rest)) = pairsR rest := by
  rw [right_at (ss := ["node", "term", "every"]) (by decide +kernel), show decide (V.str "pairs" = V.str "lit") = false by decide +kernel]
  match rest with
  | [] => rfl
  | [_] => rfl
  | [_, _] => rfl
  | [n, s, e] =>
    simp only [List.zipWith, fits_node, fits_every, fits_term, one_node, one_every, one_term, pairsR]
    cases nodeD n <;> cases everyD e <;> simp
  | _ :: _ :: _ :: _ :: _ => simp [pairsR]
def sideR : List PyData → Bool
  | .str c :: rest => if c = "call" then callR 0 6 rest else if c = "map" then callR 1 4 rest else if c = "fold" then foldR rest else if c = "pairs" then pairsR rest else false
  | _ => false
theorem right_side {ds : List PyData} (h : termD (.tuple ds) = false) : rightD (.tuple ds) = sideR ds := by
  match ds, h with
  | [], _ => rfl
  | .str c :: rest, h =>
    show _ = if c = "call" then callR 0 6 rest else if c = "map" then callR 1 4 rest else if c = "fold" then foldR rest else if c = "pairs" then pairsR rest else false
    by_cases h1 : c = "call"
    · subst h1; rw [if_pos rfl]; exact right_call rest
    rw [if_neg h1]
    by_cases h2 : c = "map"
    · subst h2; rw [if_pos rfl]; exact right_map rest
    rw [if_neg h2]
    by_cases h3 : c = "fold"
    · subst h3; rw [if_pos rfl]; exact right_fold rest
    rw [if_neg h3]
    by_cases h4 : c = "pairs"
    · subst h4; rw [if_pos rfl]; exact right_pairs rest
    rw [if_neg h4, right_other, h]
    show callS c = false
    unfold callS
    refine Bool.eq_false_iff.mpr fun z => ?_
    have m := (inV_iff (ws := CL)).mp z
    simp only [CL, List.mem_cons, List.not_mem_nil, or_false] at m
    rcases m with m | m | m | m
    · exact h1 m
    · exact h2 m
    · exact h3 m
    · exact h4 m
  | .none :: _, h => rw [right_other rfl, h]; rfl
  | .bool _ :: _, h => rw [right_other rfl, h]; rfl
  | .int _ :: _, h => rw [right_other rfl, h]; rfl
  | .list _ :: _, h => rw [right_other rfl, h]; rfl
  | .tuple _ :: _, h => rw [right_other rfl, h]; rfl
  | .dict _ :: _, h => rw [right_other rfl, h]; rfl
theorem right_odd {d : PyData} (h : ∀ ds, d ≠ .tuple ds) : rightD d = false := by
  cases d with
  | tuple ds => exact absurd rfl (h ds)
  | _ => rfl
/-- four things at least, a node's name, an end that is none or a name -/
theorem side_short {ds : List PyData} (h : ds.length < 4) : sideR ds = false := by
  match ds, h with
  | [], _ => rfl
  | [d], _ => cases d <;> simp [sideR, callR, foldR, pairsR]
  | [d, _], _ => cases d <;> simp [sideR, callR, foldR, pairsR]
  | [d, _, _], _ => cases d <;> simp [sideR, callR, foldR, pairsR]
  | _ :: _ :: _ :: _ :: _, h => simp at h; omega
theorem side_node {d0 d1 d2 d3 : PyData} {dr : List PyData} (h : nodeD d1 = false) : sideR (d0 :: d1 :: d2 :: d3 :: dr) = false := by
  cases d0 with
  | str c =>
    show (if c = "call" then _ else if c = "map" then _ else if c = "fold" then _ else if c = "pairs" then _ else false) = false
    match dr with
    | [] => simp [callR, foldR, pairsR, h]
    | [_] => simp [callR, foldR, pairsR, h]
    | _ :: _ :: _ => simp [callR, foldR, pairsR]
  | _ => rfl
theorem side_every {d0 d1 d2 d3 : PyData} {dr : List PyData} (h : everyD ((d0 :: d1 :: d2 :: d3 :: dr).getLast (by simp)) = false) : sideR (d0 :: d1 :: d2 :: d3 :: dr) = false := by
  cases d0 with
  | str c =>
    show (if c = "call" then _ else if c = "map" then _ else if c = "fold" then _ else if c = "pairs" then _ else false) = false
    match dr, h with
    | [], h =>
      have h : everyD d3 = false := h
      simp [callR, foldR, pairsR, h]
    | [d4], h =>
      have h : everyD d4 = false := h
      simp [callR, foldR, pairsR, h]
    | _ :: _ :: _, _ => simp [callR, foldR, pairsR]
  | _ => rfl
theorem side_eq (c : Str) (rest : List PyData) : sideR (.str c :: rest) = if c = "call" then callR 0 6 rest else if c = "map" then callR 1 4 rest else if c = "fold" then foldR rest else if c = "pairs" then pairsR rest else false := rfl
theorem side_call (rest : List PyData) : sideR (.str "call" :: rest) = callR 0 6 rest := by rw [side_eq, if_pos rfl]
theorem side_map (rest : List PyData) : sideR (.str "map" :: rest) = callR 1 4 rest := by rw [side_eq, if_neg (by decide), if_pos rfl]
theorem side_fold (rest : List PyData) : sideR (.str "fold" :: rest) = foldR rest := by rw [side_eq, if_neg (by decide), if_neg (by decide), if_pos rfl]
theorem side_pairs (rest : List PyData) : sideR (.str "pairs" :: rest) = pairsR rest := by rw [side_eq, if_neg (by decide), if_neg (by decide), if_neg (by decide), if_pos rfl]
theorem side_none {d0 : PyData} {rest : List PyData} (h1 : d0 ≠ .str "call") (h2 : d0 ≠ .str "map") (h3 : d0 ≠ .str "fold") (h4 : d0 ≠ .str "pairs") : sideR (d0 :: rest) = false := by
  cases d0 with
  | str c =>
    show (if c = "call" then _ else if c = "map" then _ else if c = "fold" then _ else if c = "pairs" then _ else false) = false
    rw [if_neg fun z => h1 (congrArg _ z), if_neg fun z => h2 (congrArg _ z), if_neg fun z => h3 (congrArg _ z), if_neg fun z => h4 (congrArg _ z)]
  | _ => rfl
theorem da_str {H : Hp} {z : Str} {d : PyData} (h : Da H (.str z) d) : d = .str z := by
  cases h
  rfl
theorem da_non {H : Hp} {d : PyData} (h : Da H .non d) : d = .none := by
  cases h
  rfl
theorem at_last {xs : List V} {v : V} (h : xs[xs.length - 1]? = some v) : atI xs (-1) = some v := by
  have l0 : 0 < xs.length := by
    cases xs with
    | nil => cases h
    | cons _ _ => simp
  unfold atI ixN
  rw [if_neg (by decide)]
  have e : (-1 + (xs.length : Int)).toNat = xs.length - 1 := by omega
  first
    | (rw [if_pos (by omega)]; show xs[_]? = _; rw [e]; exact h)
    | simp [h]
abbrev nLSide : List Str := ["_law_thing", "_law_names", "_law_one"]
theorem scLSide : FnScope nLSide ["_law_thing"] (defScope sLSide) := ⟨rfl, rfl, rfl, by decide +kernel, rfl, by decide +kernel, by decide +kernel⟩
def spLS : Sp := fun vs H Q _ => ∃ (x : V) (d : PyData) (k : Nat), vs = [x] ∧ Da H x d ∧ fit 50 k d ∧ k < 40 ∧ ∀ H', Same H H' → Q (.bl (rightD d)) H'
theorem da_strs {H : Hp} : ∀ (zs : List Str), (∀ z ∈ zs, z.length ≤ 1000) → DaAll H (zs.map V.str) (zs.map PyData.str)
  | [], _ => .nil
  | z :: r, h => .cons (.str z (h z List.mem_cons_self)) (da_strs r fun y m => h y (List.mem_cons_of_mem _ m))
section
variable {P : Program} {w : World} {K : PySem.W.Frag} {mg : Str → Option Value} {base : Heap}
set_option maxHeartbeats 2000000 in
theorem ok_lside {f ft fa fn fm fk fo : Addr} {fd dt da_ dn dm dk do_ : FuncData} (F : Fun K "_law_is_side" "_law_is_side" sLSide f fd) (Dt : Df K mg "_law_is_term" ft dt ["_law_thing"]) (Gt : FnOk P w K mg base CX0 82 ft dt ["_law_thing"] (spLT 40)) (Da_ : Df K mg "_law_are_terms" fa da_ pLAre) (Ga : FnOk P w K mg base CX0 83 fa da_ pLAre (spLA 40)) (L : Lks P w K mg base fn fm fk fo dn dm dk do_) :
    FnOk P w K mg base CX0 84 f fd ["_law_thing"] spLS := by
  refine F.ok scLSide (fun vs H Q E h => ?_) (fun cdv A outer s H vs Q E hr h => ?_)
  · obtain ⟨x, d, k, rfl, _⟩ := h
    rfl
  · obtain ⟨x, d, k, rfl, da, fit_, hk, q⟩ := h
    have hrt := hr.mono (by omega : 82 ≤ 83)
    have hra := hr
    have hr1 := hr.mono (by omega : 1 ≤ 83)
    refine ⟨_, (pss_cons (ps_if (pt_val (pe_call Gt hrt (by rfl) Dt.at_ Dt.kp Dt.bd .nil pass0 (pa_cons (pv 0) pa_nil))) (pss_one (ps_ret pe_bl)) pss_nil)
        (pss_cons (ps_if (PW.pt (pw_or (pt_not (pt_val (pe_callB call_isi (by rfl) L.mi (by decide +kernel) (pa_cons (pv 0) (pa_cons (pe_bltn (v := .ty "tuple") (by rfl) L.mt (by decide +kernel) rfl) pa_nil))))) (pw_or (pt_cmpR op_lt (pe_callB call_len_seq (by rfl) L.ml PySem.boot_len (pa_cons (pv 0) pa_nil)) pe_int (nomark _)) (pw_or1 (pt_not (pt_val (pe_callB call_isi (by rfl) L.mi (by decide +kernel) (pa_cons (pe_ix ix_tup (pv 0) pe_int (fun _ _ => rfl)) (pa_cons (pe_bltn (v := .ty "str") (by rfl) L.ms (by decide +kernel) rfl) pa_nil))))))))) (pss_one (ps_ret pe_bl)) pss_nil)
        (pss_cons (ps_set (i := 1) scLSide.nd rfl (Or.inl rfl) (pe_split (pe_ix ix_tup (pv 0) pe_int (fun _ _ => rfl)) pe_str))
        (pss_cons (ps_if (PW.pt (pw_or (pt_cmpR op_gt (pe_callB call_len_seq (by rfl) L.ml PySem.boot_len (pa_cons (pv 1) pa_nil)) pe_int (nomark _)) (pw_or1 (pt_cmpR (op_neNil hr.units) (pe_lc (own := [("_law_one", 2)]) (g := gName 2) (tt := _) rfl scLSide.nd (pi_list (pv 1)) (blkOk_by (N := nLSide) (sc := defScope sLSide) (by decide +kernel)) (fun _ _ _ _ _ => pg_name (i := 2) scLSide.nd rfl (Or.inl rfl)) (fun _ _ _ _ _ => (pts_one (pt_not (pt_val (pe_call L.Gm hr1 (by rfl) L.Dm.at_ L.Dm.kp L.Dm.bd .nil pass0 (pa_cons (pv 2) pa_nil)))))) (fun _ _ _ _ _ => (pv 2))) (pe_lst pa_nil) (nomark _))))) (pss_one (ps_ret pe_bl)) pss_nil)
        (pss_cons (ps_if (PW.pt (pw_and (pt_cmpR op_notN (pe_ix ix_tup (pv 0) (pe_un un_neg pe_int) (fun _ _ => rfl)) pe_non (nomark _)) (pw_and1 (pt_not (pt_val (pe_call L.Gm hr1 (by rfl) L.Dm.at_ L.Dm.kp L.Dm.bd .nil pass0 (pa_cons (pe_ix ix_tup (pv 0) (pe_un un_neg pe_int) (fun _ _ => rfl)) pa_nil))))))) (pss_one (ps_ret pe_bl)) pss_nil)
        (pss_cons (ps_if (pt_cmpR (op_eqS hr.units) (pe_ix ix_tup (pv 0) pe_int (fun _ _ => rfl)) pe_str (nomark _)) (pss_one (ps_ret (pe_and (pe_cmpR op_eq (pe_callB call_len_seq (by rfl) L.ml PySem.boot_len (pa_cons (pv 0) pa_nil)) pe_int (nomark _)) (pe_one (pe_call Ga hra (by rfl) Da_.at_ Da_.kp Da_.bd .nil pass0 (pa_cons (pe_ix ix_tup (pv 0) pe_int (fun _ _ => rfl)) (pa_cons pe_int (pa_cons pe_int pa_nil)))))))) pss_nil)
        (pss_cons (ps_if (pt_cmpR (op_eqS hr.units) (pe_ix ix_tup (pv 0) pe_int (fun _ _ => rfl)) pe_str (nomark _)) (pss_one (ps_ret (pe_and (pe_cmpR op_eq (pe_callB call_len_seq (by rfl) L.ml PySem.boot_len (pa_cons (pv 0) pa_nil)) pe_int (nomark _)) (pe_one (pe_call Ga hra (by rfl) Da_.at_ Da_.kp Da_.bd .nil pass0 (pa_cons (pe_ix ix_tup (pv 0) pe_int (fun _ _ => rfl)) (pa_cons pe_int (pa_cons pe_int pa_nil)))))))) pss_nil)
        (pss_cons (ps_if (pt_cmpR (op_eqS hr.units) (pe_ix ix_tup (pv 0) pe_int (fun _ _ => rfl)) pe_str (nomark _)) (pss_one (ps_ret (pe_and (pe_cmpR op_eq (pe_callB call_len_seq (by rfl) L.ml PySem.boot_len (pa_cons (pv 0) pa_nil)) pe_int (nomark _)) (pe_and (pe_call Gt hrt (by rfl) Dt.at_ Dt.kp Dt.bd .nil pass0 (pa_cons (pe_ix ix_tup (pv 0) pe_int (fun _ _ => rfl)) pa_nil)) (pe_one (pe_call Ga hra (by rfl) Da_.at_ Da_.kp Da_.bd .nil pass0 (pa_cons (pe_ix ix_tup (pv 0) pe_int (fun _ _ => rfl)) (pa_cons pe_int (pa_cons pe_int pa_nil))))))))) pss_nil)
        (pss_one (ps_ret (pe_and (pe_cmpR (op_eqS hr.units) (pe_ix ix_tup (pv 0) pe_int (fun _ _ => rfl)) pe_str (nomark _)) (pe_and (pe_cmpR op_eq (pe_callB call_len_seq (by rfl) L.ml PySem.boot_len (pa_cons (pv 0) pa_nil)) pe_int (nomark _)) (pe_one (pe_call Gt hrt (by rfl) Dt.at_ Dt.kp Dt.bd .nil pass0 (pa_cons (pe_ix ix_tup (pv 0) pe_int (fun _ _ => rfl)) pa_nil))))))))))))))), ?_⟩
    refine ⟨_, rfl, x, d, k, rfl, da, fit_, hk, fun H1 s1 => ⟨_, rfl, ite2 (fun t1 => ?_) (fun t1 => ?_)⟩⟩
    · rw [right_term t1] at q
      exact q _ s1
    have t1 := Bool.eq_false_iff.mpr t1
    refine ⟨_, rfl, x, .ty "tuple", _, _, _, rfl, .ty "tuple", (Da.same s1 d x da).kn.ty, kit_ty (kit_tup d), _, rfl, ?_⟩
    cases da with
    | @tup a xs ds h l r =>
      rw [right_side t1] at q
      have lr := r.len
      refine iteF ⟨_, rfl, a, xs, rfl, .inr (SqT.of (s1 _ _ h)), _, _, rfl, rfl, _, rfl, ?_⟩
      by_cases l4 : xs.length < 4
      · refine iteB (decide_eq_true (by omega)) (iteT ?_)
        rw [side_short (by omega)] at q
        exact q _ s1
      refine iteN (decide_eq_false (by omega)) ?_
      match xs, ds, r, l4 with
      | [], _, _, l4 => exact absurd (by simp) l4
      | [_], _, _, l4 => exact absurd (by simp) l4
      | [_, _], _, _, l4 => exact absurd (by simp) l4
      | [_, _, _], _, _, l4 => exact absurd (by simp) l4
      | x0 :: x1 :: x2 :: x3 :: xr, d0 :: d1 :: d2 :: d3 :: dr, .cons h0 (.cons h1 (.cons h2 (.cons h3 hr_))), _ =>
        have gx := SqT.of (K := K) (s1 _ _ h)
        obtain ⟨kk, rfl⟩ : ∃ kk, k = kk + 1 := by
          cases k with
          | zero => simp only [fit] at fit_
          | succ kk => exact ⟨kk, rfl⟩
        have fr : ∀ e ∈ d0 :: d1 :: d2 :: d3 :: dr, fit 50 kk e := (fit_tup.mp fit_).2
        have deep : ∀ d ∈ d0 :: d1 :: d2 :: d3 :: dr, ∀ es, d = .tuple es → ∀ e ∈ es, ∃ k, k < 40 ∧ fit 50 k e := fun d m es ed e me => by
          have f := fr d m
          rw [ed] at f
          cases kk with
          | zero => simp only [fit] at f
          | succ k2 => exact ⟨k2, by omega, (fit_tup.mp f).2 e me⟩
        refine ⟨_, rfl, a, _, ((1 : Nat) : Int), x1, rfl, rfl, gx, atI_nat rfl, x1, .ty "str", _, _, _, rfl, .ty "str", (Da.same s1 d1 x1 h1).kn.ty, kit_ty (kit_str d1), _, rfl, ?_⟩
        cases h1 with
        | str z hz =>
          refine iteF ⟨_, rfl, a, _, ((1 : Nat) : Int), _, rfl, rfl, gx, atI_nat rfl, ⟨_, rfl⟩, z, ".", rfl, rfl, by decide +kernel, Nat.le_trans (Nat.add_le_add_right hz 2) (by decide), fun p hp => ?_⟩
          have nS : nodeD (.str z) = (decide ((Txt.split z ".").length ≤ 2) && (Txt.split z ".").all nameS) := rfl
          have ss : ∀ y ∈ Txt.split z ".", y.length ≤ 1000 := fun y m => Nat.le_trans (split_short m) hz
          generalize Txt.split z "." = ns at nS ss
          obtain ⟨H2, eH2⟩ : ∃ H2, H2 = upd H1 p (.lst (ns.map V.str)) := ⟨_, rfl⟩
          have s2 : Same H H2 := by rw [eH2]; exact same_trans_new s1 hp
          have gp : H2 p = some (.lst (ns.map V.str)) := by rw [eH2, upd_same]
          rw [← eH2]
          clear eH2 hp gx
          refine ⟨_, rfl, p, _, rfl, .inl (SqL.of gp), _, _, rfl, rfl, _, rfl, ?_⟩
          have ln : (ns.map V.str).length = ns.length := List.length_map _
          by_cases l2 : 2 < ns.length
          · refine iteB (decide_eq_true (by omega)) ?_
            rw [side_node (by rw [nS, decide_eq_false (by omega)]; rfl)] at q
            exact q _ s2
          refine iteN (decide_eq_false (by omega)) ?_
          rw [decide_eq_true (show ns.length ≤ 2 by omega), Bool.true_and] at nS
          refine ⟨_, rfl, p, rfl, ⟨_, SqL.of gp⟩, fun D hD => lc_list (K := K) (a := p) (xs := ns.map V.str) (fun i H' => Same H2 H' ∧ H' D = some (.lst (keepV nameD ((ns.map V.str).take i) ((ns.map PyData.str).take i)))) ⟨same_new hD, upd_same⟩
            (fun i H' _ pv => SqL.of (pv.1 _ _ gp)) (fun i y H' hy pv => ?_) fun H' pv => ?_⟩
          · obtain ⟨dy, hdy, day⟩ := (da_strs (H := H') ns ss).get hy
            have hi := (List.getElem?_eq_some_iff.mp hy).1
            have kt := keepV_take (p := nameD) hy hdy
            refine ⟨rfl, _, rfl, y, dy, rfl, day, fun H3 s3 => ⟨_, rfl, ?_⟩⟩
            have s23 := pv.1.trans s3
            cases et : nameD dy with
            | true => exact iteF ⟨s23, by rw [kt, et]; simp; exact s3 _ _ pv.2⟩
            | false =>
              refine iteT ⟨_, rfl, _, s3 _ _ pv.2, ?_, fun b o hb => ?_, ?_⟩
              · exact small1000 (Nat.le_trans (keepV_len _ _) (by rw [List.length_take]; omega))
              · rw [upd_ne (ne_of_none hb hD)]; exact s23 _ _ hb
              · rw [upd_same, kt, et]; rfl
          · have le : (ns.map V.str).length = (ns.map PyData.str).length := by rw [List.length_map, List.length_map]
            rw [List.take_length, le, List.take_length] at pv
            refine ⟨by show 0 ≤ sizeLine; decide, fun L hL => ⟨D, L, _, rfl, rfl, SqL.of ((same_new hL) _ _ pv.2), SqL.of upd_same, _, rfl, ?_⟩⟩
            rw [keepV_empty le, show (ns.map PyData.str).all nameD = ns.all nameS by rw [List.all_map]; rfl, ← nS]
            have s3 : Same H (upd H' L (.lst [])) := (s2.trans pv.1).trans (same_new hL)
            generalize upd H' L (.lst []) = H3 at s3
            clear hL pv hD gp H'
            by_cases nd : nodeD (.str z) = true
            · rw [nd]
              refine iteF ?_
              -- the end
              have rr : DaAll H (x0 :: .str z :: x2 :: x3 :: xr) (d0 :: .str z :: d2 :: d3 :: dr) := .cons h0 (.cons (.str z hz) (.cons h2 (.cons h3 hr_)))
              obtain ⟨vl, dl, ds', evl, eds, dal, _⟩ := last_of rr (by simp)
              have gl : (d0 :: .str z :: d2 :: d3 :: dr).getLast (by simp) = dl := by
                have key : ∀ (l : List PyData) (h : l ≠ []), l = ds' ++ [dl] → l.getLast h = dl := by
                  intro l h e
                  subst e
                  simp
                exact key _ _ eds
              have al := at_last evl
              have gx := fun {G : Hp} (s : Same H G) => SqT.of (K := K) (s _ _ h)
              have bad : everyD dl = false → sideR (d0 :: .str z :: d2 :: d3 :: dr) = false := fun e => side_every (by rw [gl]; exact e)
              refine ⟨_, rfl, _, rfl, a, _, -1, vl, rfl, rfl, gx s3, al, rfl, _, rfl, ?_⟩
              have two : (vl = .non ∧ everyD dl = true) ∨ (vl ≠ .non ∧ everyD dl = nameD dl) := by
                by_cases e : vl = .non
                · subst e
                  rw [da_non dal]
                  exact .inl ⟨rfl, rfl⟩
                · refine .inr ⟨e, ?_⟩
                  rw [every_eq]
                  cases dal <;> first | rfl | exact absurd rfl e
              rcases two with ⟨ev, ee⟩ | ⟨ev, ee⟩
              · refine iteN (by rw [ev]; rfl) (iteF ?_)
                obtain ⟨H4, eH4⟩ : ∃ H4, H4 = H3 := ⟨_, rfl⟩
                rw [← eH4] at s3 ⊢
                have s4 := s3
                have ok := ee
                refine ⟨_, rfl, a, _, ((0 : Nat) : Int), x0, rfl, rfl, gx s4, atI_nat rfl, "call", rfl, (Da.same s4 d0 x0 h0).odd, _, rfl, ite2 (fun e => ?_) (fun n1 => ?_)⟩
                · have e := of_decide_eq_true e
                  subst e
                  rw [da_str h0, side_call] at q
                  match xr, dr, hr_ with
                  | [], [], .nil =>
                    have cq : callR 0 6 [.str z, d2, d3] = ((nodeD (.str z) && everyD d3) && areD 0 6 d2) := rfl
                    have e3 : everyD d3 = true := by
                      have : d3 = dl := gl
                      rw [this]; exact ok
                    rw [cq, nd, e3, Bool.true_and, Bool.true_and] at q
                    refine ⟨_, rfl, a, _, rfl, .inr (gx s4), rfl, _, rfl, iteB (by rfl) ⟨_, rfl, a, _, 2, _, rfl, rfl, gx s4, rfl, x2, d2, 0, 6, rfl, Da.same s4 d2 x2 h2, fun es ed e me => ?_, fun H5 s5 => q _ (s4.trans s5)⟩⟩
                    exact deep d2 (by simp) es ed e me
                  | _ :: _, _ :: _, .cons _ rx =>
                    have cq : ∀ a b c d r, callR 0 6 (a :: b :: c :: d :: r) = false := fun _ _ _ _ _ => rfl
                    rw [cq] at q
                    exact ⟨_, rfl, a, _, rfl, .inr (gx s4), rfl, _, rfl, iteN (decide_eq_false fun z => by have := V.int.inj z; simp at this; omega) (q _ s4)⟩
                refine ⟨_, rfl, a, _, ((0 : Nat) : Int), x0, rfl, rfl, gx s4, atI_nat rfl, "map", rfl, (Da.same s4 d0 x0 h0).odd, _, rfl, ite2 (fun e => ?_) (fun n2 => ?_)⟩
                · have e := of_decide_eq_true e
                  subst e
                  rw [da_str h0, side_map] at q
                  match xr, dr, hr_ with
                  | [], [], .nil =>
                    have cq : callR 1 4 [.str z, d2, d3] = ((nodeD (.str z) && everyD d3) && areD 1 4 d2) := rfl
                    have e3 : everyD d3 = true := by
                      have : d3 = dl := gl
                      rw [this]; exact ok
                    rw [cq, nd, e3, Bool.true_and, Bool.true_and] at q
                    refine ⟨_, rfl, a, _, rfl, .inr (gx s4), rfl, _, rfl, iteB (by rfl) ⟨_, rfl, a, _, 2, _, rfl, rfl, gx s4, rfl, x2, d2, 1, 4, rfl, Da.same s4 d2 x2 h2, fun es ed e me => ?_, fun H5 s5 => q _ (s4.trans s5)⟩⟩
                    exact deep d2 (by simp) es ed e me
                  | _ :: _, _ :: _, .cons _ rx =>
                    have cq : ∀ a b c d r, callR 1 4 (a :: b :: c :: d :: r) = false := fun _ _ _ _ _ => rfl
                    rw [cq] at q
                    exact ⟨_, rfl, a, _, rfl, .inr (gx s4), rfl, _, rfl, iteN (decide_eq_false fun z => by have := V.int.inj z; simp at this; omega) (q _ s4)⟩
                refine ⟨_, rfl, a, _, ((0 : Nat) : Int), x0, rfl, rfl, gx s4, atI_nat rfl, "fold", rfl, (Da.same s4 d0 x0 h0).odd, _, rfl, ite2 (fun e => ?_) (fun n3 => ?_)⟩
                · have e := of_decide_eq_true e
                  subst e
                  rw [da_str h0, side_fold] at q
                  match xr, dr, hr_ with
                  | [], [], .nil =>
                    have cq : foldR [.str z, d2, d3] = false := rfl
                    rw [cq] at q
                    exact ⟨_, rfl, a, _, rfl, .inr (gx s4), rfl, _, rfl, iteN (by rfl) (q _ s4)⟩
                  | [x4], [d4], .cons h4 .nil =>
                    have cq : foldR [.str z, d2, d3, d4] = ((nodeD (.str z) && everyD d4) && (termD d2 && areD 1 4 d3)) := rfl
                    have e4 : everyD d4 = true := by
                      have : d4 = dl := gl
                      rw [this]; exact ok
                    rw [cq, nd, e4, Bool.true_and, Bool.true_and] at q
                    refine ⟨_, rfl, a, _, rfl, .inr (gx s4), rfl, _, rfl, iteB (by rfl) ⟨_, rfl, a, _, 2, _, rfl, rfl, gx s4, rfl, x2, d2, kk, rfl, Da.same s4 d2 x2 h2, fr d2 (by simp), by omega, fun H5 s5 => ⟨_, rfl, ite2 (fun t2 => ?_) (fun t2 => ?_)⟩⟩⟩
                    · rw [t2, Bool.true_and] at q
                      have s05 := s4.trans s5
                      refine ⟨_, rfl, a, _, 3, _, rfl, rfl, gx s05, rfl, x3, d3, 1, 4, rfl, Da.same s05 d3 x3 h3, fun es ed e me => ?_, fun H6 s6 => q _ (s05.trans s6)⟩
                      exact deep d3 (by simp) es ed e me
                    · rw [Bool.eq_false_iff.mpr t2, Bool.false_and] at q
                      exact q _ (s4.trans s5)
                  | _ :: _ :: _, _ :: _ :: _, .cons _ (.cons _ rx) =>
                    have cq : ∀ a b c d e r, foldR (a :: b :: c :: d :: e :: r) = false := fun _ _ _ _ _ _ => rfl
                    rw [cq] at q
                    exact ⟨_, rfl, a, _, rfl, .inr (gx s4), rfl, _, rfl, iteN (decide_eq_false fun z => by have := V.int.inj z; simp at this; omega) (q _ s4)⟩
                refine ⟨_, rfl, a, _, ((0 : Nat) : Int), x0, rfl, rfl, gx s4, atI_nat rfl, "pairs", rfl, (Da.same s4 d0 x0 h0).odd, _, rfl, ite2 (fun e => ?_) (fun n4 => ?_)⟩
                · have e := of_decide_eq_true e
                  subst e
                  rw [da_str h0, side_pairs] at q
                  match xr, dr, hr_ with
                  | [], [], .nil =>
                    have cq : pairsR [.str z, d2, d3] = ((nodeD (.str z) && everyD d3) && termD d2) := rfl
                    have e3 : everyD d3 = true := by
                      have : d3 = dl := gl
                      rw [this]; exact ok
                    rw [cq, nd, e3, Bool.true_and, Bool.true_and] at q
                    exact ⟨_, rfl, a, _, rfl, .inr (gx s4), rfl, _, rfl, iteB (by rfl) ⟨_, rfl, a, _, 2, _, rfl, rfl, gx s4, rfl, x2, d2, kk, rfl, Da.same s4 d2 x2 h2, fr d2 (by simp), by omega, fun H5 s5 => q _ (s4.trans s5)⟩⟩
                  | _ :: _, _ :: _, .cons _ rx =>
                    have cq : ∀ a b c d r, pairsR (a :: b :: c :: d :: r) = false := fun _ _ _ _ _ => rfl
                    rw [cq] at q
                    exact ⟨_, rfl, a, _, rfl, .inr (gx s4), rfl, _, rfl, iteN (decide_eq_false fun z => by have := V.int.inj z; simp at this; omega) (q _ s4)⟩
                have no : ∀ {c : Str}, ¬ decide (x0 = V.str c) = true → d0 ≠ .str c := fun {c} n e => by
                  subst e
                  cases h0
                  exact n (decide_eq_true rfl)
                rw [side_none (no n1) (no n2) (no n3) (no n4)] at q
                have e4 : decide (x0 = V.str "pairs") = false := Bool.eq_false_iff.mpr n4
                first
                  | exact q _ s4
                  | (rw [e4]; exact q _ s4)
              · refine iteB (by rw [decide_eq_false ev]; rfl) ⟨_, rfl, _, rfl, a, _, -1, vl, rfl, rfl, gx s3, al, vl, dl, rfl, Da.same s3 dl vl dal, fun H4 s34 => ⟨_, rfl, ?_⟩⟩
                by_cases ok : nameD dl = true
                · rw [ok]
                  refine iteF ?_
                  have ok : everyD dl = true := ee.trans ok
                  have s4 := s3.trans s34
                  refine ⟨_, rfl, a, _, ((0 : Nat) : Int), x0, rfl, rfl, gx s4, atI_nat rfl, "call", rfl, (Da.same s4 d0 x0 h0).odd, _, rfl, ite2 (fun e => ?_) (fun n1 => ?_)⟩
                  · have e := of_decide_eq_true e
                    subst e
                    rw [da_str h0, side_call] at q
                    match xr, dr, hr_ with
                    | [], [], .nil =>
                      have cq : callR 0 6 [.str z, d2, d3] = ((nodeD (.str z) && everyD d3) && areD 0 6 d2) := rfl
                      have e3 : everyD d3 = true := by
                        have : d3 = dl := gl
                        rw [this]; exact ok
                      rw [cq, nd, e3, Bool.true_and, Bool.true_and] at q
                      refine ⟨_, rfl, a, _, rfl, .inr (gx s4), rfl, _, rfl, iteB (by rfl) ⟨_, rfl, a, _, 2, _, rfl, rfl, gx s4, rfl, x2, d2, 0, 6, rfl, Da.same s4 d2 x2 h2, fun es ed e me => ?_, fun H5 s5 => q _ (s4.trans s5)⟩⟩
                      exact deep d2 (by simp) es ed e me
                    | _ :: _, _ :: _, .cons _ rx =>
                      have cq : ∀ a b c d r, callR 0 6 (a :: b :: c :: d :: r) = false := fun _ _ _ _ _ => rfl
                      rw [cq] at q
                      exact ⟨_, rfl, a, _, rfl, .inr (gx s4), rfl, _, rfl, iteN (decide_eq_false fun z => by have := V.int.inj z; simp at this; omega) (q _ s4)⟩
                  refine ⟨_, rfl, a, _, ((0 : Nat) : Int), x0, rfl, rfl, gx s4, atI_nat rfl, "map", rfl, (Da.same s4 d0 x0 h0).odd, _, rfl, ite2 (fun e => ?_) (fun n2 => ?_)⟩
                  · have e := of_decide_eq_true e
                    subst e
                    rw [da_str h0, side_map] at q
                    match xr, dr, hr_ with
                    | [], [], .nil =>
                      have cq : callR 1 4 [.str z, d2, d3] = ((nodeD (.str z) && everyD d3) && areD 1 4 d2) := rfl
                      have e3 : everyD d3 = true := by
                        have : d3 = dl := gl
                        rw [this]; exact ok
                      rw [cq, nd, e3, Bool.true_and, Bool.true_and] at q
                      refine ⟨_, rfl, a, _, rfl, .inr (gx s4), rfl, _, rfl, iteB (by rfl) ⟨_, rfl, a, _, 2, _, rfl, rfl, gx s4, rfl, x2, d2, 1, 4, rfl, Da.same s4 d2 x2 h2, fun es ed e me => ?_, fun H5 s5 => q _ (s4.trans s5)⟩⟩
                      exact deep d2 (by simp) es ed e me
                    | _ :: _, _ :: _, .cons _ rx =>
                      have cq : ∀ a b c d r, callR 1 4 (a :: b :: c :: d :: r) = false := fun _ _ _ _ _ => rfl
                      rw [cq] at q
                      exact ⟨_, rfl, a, _, rfl, .inr (gx s4), rfl, _, rfl, iteN (decide_eq_false fun z => by have := V.int.inj z; simp at this; omega) (q _ s4)⟩
                  refine ⟨_, rfl, a, _, ((0 : Nat) : Int), x0, rfl, rfl, gx s4, atI_nat rfl, "fold", rfl, (Da.same s4 d0 x0 h0).odd, _, rfl, ite2 (fun e => ?_) (fun n3 => ?_)⟩
                  · have e := of_decide_eq_true e
                    subst e
                    rw [da_str h0, side_fold] at q
                    match xr, dr, hr_ with
                    | [], [], .nil =>
                      have cq : foldR [.str z, d2, d3] = false := rfl
                      rw [cq] at q
                      exact ⟨_, rfl, a, _, rfl, .inr (gx s4), rfl, _, rfl, iteN (by rfl) (q _ s4)⟩
                    | [x4], [d4], .cons h4 .nil =>
                      have cq : foldR [.str z, d2, d3, d4] = ((nodeD (.str z) && everyD d4) && (termD d2 && areD 1 4 d3)) := rfl
                      have e4 : everyD d4 = true := by
                        have : d4 = dl := gl
                        rw [this]; exact ok
                      rw [cq, nd, e4, Bool.true_and, Bool.true_and] at q
                      refine ⟨_, rfl, a, _, rfl, .inr (gx s4), rfl, _, rfl, iteB (by rfl) ⟨_, rfl, a, _, 2, _, rfl, rfl, gx s4, rfl, x2, d2, kk, rfl, Da.same s4 d2 x2 h2, fr d2 (by simp), by omega, fun H5 s5 => ⟨_, rfl, ite2 (fun t2 => ?_) (fun t2 => ?_)⟩⟩⟩
                      · rw [t2, Bool.true_and] at q
                        have s05 := s4.trans s5
                        refine ⟨_, rfl, a, _, 3, _, rfl, rfl, gx s05, rfl, x3, d3, 1, 4, rfl, Da.same s05 d3 x3 h3, fun es ed e me => ?_, fun H6 s6 => q _ (s05.trans s6)⟩
                        exact deep d3 (by simp) es ed e me
                      · rw [Bool.eq_false_iff.mpr t2, Bool.false_and] at q
                        exact q _ (s4.trans s5)
                    | _ :: _ :: _, _ :: _ :: _, .cons _ (.cons _ rx) =>
                      have cq : ∀ a b c d e r, foldR (a :: b :: c :: d :: e :: r) = false := fun _ _ _ _ _ _ => rfl
                      rw [cq] at q
                      exact ⟨_, rfl, a, _, rfl, .inr (gx s4), rfl, _, rfl, iteN (decide_eq_false fun z => by have := V.int.inj z; simp at this; omega) (q _ s4)⟩
                  refine ⟨_, rfl, a, _, ((0 : Nat) : Int), x0, rfl, rfl, gx s4, atI_nat rfl, "pairs", rfl, (Da.same s4 d0 x0 h0).odd, _, rfl, ite2 (fun e => ?_) (fun n4 => ?_)⟩
                  · have e := of_decide_eq_true e
                    subst e
                    rw [da_str h0, side_pairs] at q
                    match xr, dr, hr_ with
                    | [], [], .nil =>
                      have cq : pairsR [.str z, d2, d3] = ((nodeD (.str z) && everyD d3) && termD d2) := rfl
                      have e3 : everyD d3 = true := by
                        have : d3 = dl := gl
                        rw [this]; exact ok
                      rw [cq, nd, e3, Bool.true_and, Bool.true_and] at q
                      exact ⟨_, rfl, a, _, rfl, .inr (gx s4), rfl, _, rfl, iteB (by rfl) ⟨_, rfl, a, _, 2, _, rfl, rfl, gx s4, rfl, x2, d2, kk, rfl, Da.same s4 d2 x2 h2, fr d2 (by simp), by omega, fun H5 s5 => q _ (s4.trans s5)⟩⟩
                    | _ :: _, _ :: _, .cons _ rx =>
                      have cq : ∀ a b c d r, pairsR (a :: b :: c :: d :: r) = false := fun _ _ _ _ _ => rfl
                      rw [cq] at q
                      exact ⟨_, rfl, a, _, rfl, .inr (gx s4), rfl, _, rfl, iteN (decide_eq_false fun z => by have := V.int.inj z; simp at this; omega) (q _ s4)⟩
                  have no : ∀ {c : Str}, ¬ decide (x0 = V.str c) = true → d0 ≠ .str c := fun {c} n e => by
                    subst e
                    cases h0
                    exact n (decide_eq_true rfl)
                  rw [side_none (no n1) (no n2) (no n3) (no n4)] at q
                  have e4 : decide (x0 = V.str "pairs") = false := Bool.eq_false_iff.mpr n4
                  first
                    | exact q _ s4
                    | (rw [e4]; exact q _ s4)

                · have ok := Bool.eq_false_iff.mpr ok
                  rw [ok]
                  rw [bad (ee.trans ok)] at q
                  exact iteT (q _ (s3.trans s34))
            · have nd := Bool.eq_false_iff.mpr nd
              rw [nd]
              rw [side_node nd] at q
              exact iteT (q _ s3)
        | _ => exact iteT (by rw [side_node rfl] at q; exact q _ s1)
    | _ => exact iteT (iteT (by rw [right_odd (by intro ds e; cases e)] at q; exact q _ s1))
end
end P4
end Bf

namespace Bf
open PySem PySem.Spec PyProof.Rows L2
/-! ### what an expression makes -/
def Mks (t : TE) (σ : L2.St) (H : Hp) (Φ : V → Hp → Prop) : Prop := ∀ Q : VK, (∀ v G, Same H G → Φ v G → Q v G) → t σ H Q
def MksA (t : TA) (σ : L2.St) (H : Hp) (n : Nat) (Φ : V → Hp → Prop) : Prop := ∀ Q : List V → Hp → Prop, (∀ vs G, Same H G → vs.length = n → (∀ v ∈ vs, Φ v G) → Q vs G) → t σ H Q
namespace P4
/-- where it is a list, what stands in it isn't the list -/
def Lok (P : Addr → Prop) (G : Hp) (v : V) (d : PyData) : Prop := ∀ es, d = .list es → ∃ (a : Addr) (xs : List V), v = .ref a ∧ G a = some (.lst xs) ∧ ShAll G (fun q => P q ∧ q ≠ a) true xs es
theorem Lok.on {H H' : Hp} {P P' : Addr → Prop} {v : V} {d : PyData} (hp : ∀ a o, P a → H a = some o → P' a) (k : ∀ a o, P a → H a = some o → H' a = some o) (sh : Sh H P true v d) (h : Lok P H v d) : Lok P' H' v d := fun es e => by
  obtain ⟨a, xs, ev, ha, r⟩ := h es e
  subst e ev
  cases sh with
  | lst h p _ _ =>
    rw [ha] at h
    cases h
    exact ⟨a, xs, rfl, k _ _ p ha, ShAll.on (fun c o q h => ⟨hp c o q.1 h, q.2⟩) (fun c o q h => k c o q.1 h) es xs r⟩
/-- a thing that an expression made of new objects -/
def OV (H0 : Hp) (k N : Nat) (v : V) (G : Hp) : Prop := ∃ d, Sh G (Fr H0) true v d ∧ fit 4 k d ∧ sl d ≤ N ∧ Lok (Fr H0) G v d
theorem OV.same {H0 G G' : Hp} {k N : Nat} {v : V} (s : Same G G') (h : OV H0 k N v G) : OV H0 k N v G' := by
  obtain ⟨d, sh, f, l, lo⟩ := h
  exact ⟨d, sh_same s sh, f, l, lo.on (fun _ _ p _ => p) (fun a o _ e => s a o e) sh⟩
theorem OV.mono {H0 G : Hp} {k k' N N' : Nat} {v : V} (hk : k ≤ k') (hN : N ≤ N') (h : OV H0 k N v G) : OV H0 k' N' v G := by
  obtain ⟨d, sh, f, l, lo⟩ := h
  exact ⟨d, sh, fit_mono (Nat.le_refl _) d hk f, Nat.le_trans l hN, lo⟩
theorem ov_leaf {H0 G : Hp} {v : V} {d : PyData} (sh : Sh G (Fr H0) true v d) (f : fit 4 0 d) (l : sl d ≤ 130) : OV H0 0 130 v G := by
  refine ⟨d, sh, f, l, fun es e => ?_⟩
  subst e
  simp only [fit] at f
def MkE (σ : L2.St) (H0 : Hp) (t : TE) (k N : Nat) : Prop := ∀ G, Same H0 G → Mks t σ G (OV H0 k N)
def MkA (σ : L2.St) (H0 : Hp) (t : TA) (n k N : Nat) : Prop := ∀ G, Same H0 G → MksA t σ G n (OV H0 k N)
section
variable {σ : L2.St} {H0 : Hp} {k N n : Nat} {t : TE} {u : TA}
theorem mk_nil : MkA σ H0 tNil 0 k N := fun G _ Q q => q [] G (Same.refl G) rfl fun _ m => nomatch m
theorem mk_cons (h1 : MkE σ H0 t k N) (h2 : MkA σ H0 u n k N) : MkA σ H0 (tCons t u) (n + 1) k N := fun G s Q q =>
  h1 G s _ fun v G1 s1 p1 => h2 G1 (s.trans s1) _ fun vs G2 s2 l p2 => q (v :: vs) G2 (s1.trans s2) (by rw [List.length_cons, l]) fun x m => (List.mem_cons.mp m).elim (fun e => e ▸ p1.same s2) (p2 x)
theorem mk_mono {k' N' : Nat} (hk : k ≤ k') (hN : N ≤ N') (h : MkE σ H0 t k N) : MkE σ H0 t k' N' := fun G s Q q => h G s Q fun v G' s' p => q v G' s' (p.mono hk hN)
theorem mk_non : MkE σ H0 (tC .non) 0 130 := fun G _ Q q => q _ G (Same.refl G) (ov_leaf .non fit_non (by simp only [sl]; omega))
theorem mk_bl {b : Bool} : MkE σ H0 (tC (.bl b)) 0 130 := fun G _ Q q => q _ G (Same.refl G) (ov_leaf (.bl b) fit_bl (by simp only [sl]; omega))
theorem mk_int {i : Int} (a : -1000 ≤ i) (b : i ≤ 1000) : MkE σ H0 (tC (.int i)) 0 130 := fun G _ Q q => q _ G (Same.refl G) (ov_leaf (.int i) (int_fit a b) (Nat.le_trans (sl_small a b) (by decide)))
theorem mk_str {z : Str} (a : strOk z = true) (b : z.cps.size ≤ 12) : MkE σ H0 (tC (.str z)) 0 130 := fun G _ Q q => q _ G (Same.refl G) (ov_leaf (.str z) (fit_str.mpr a) (Nat.le_trans (slS b) (by decide)))
theorem mk_neg {i : Int} (a : -1000 ≤ -i) (b : -i ≤ 1000) : MkE σ H0 (tUn (rU fun i => .int (-i)) (tC (.int i))) 0 130 := fun G _ Q q => ⟨i, rfl, q _ G (Same.refl G) (ov_leaf (.int (-i)) (int_fit a b) (Nat.le_trans (sl_small a b) (by decide)))⟩
theorem mk_emp : MkE σ H0 tDNewK 1 130 := fun G s Q q a ha => q _ _ (same_new ha) ⟨.dict [], .emp rfl upd_same (s.free ha), by simp only [fit], by simp only [sl]; omega, fun es e => nomatch e⟩
theorem ov_all {G : Hp} : ∀ {vs : List V}, (∀ v ∈ vs, OV H0 k N v G) → ∃ ds, ShAll G (Fr H0) true vs ds ∧ (∀ d ∈ ds, fit 4 k d) ∧ slA ds ≤ (N + 2) * vs.length ∧ ds.length = vs.length
  | [], _ => ⟨[], .nil, fitA_nil, by rw [slA_nil]; exact Nat.zero_le _, rfl⟩
  | v :: vs, h => by
    obtain ⟨d, sh, f, l, _⟩ := h v List.mem_cons_self
    obtain ⟨ds, shs, fs, ls, len⟩ := ov_all (vs := vs) fun x m => h x (List.mem_cons_of_mem _ m)
    refine ⟨d :: ds, .cons sh shs, fitA_cons f fs, ?_, by rw [List.length_cons, len]; rfl⟩
    rw [slA_cons, List.length_cons, Nat.mul_add]
    omega
theorem mk_tup (h : MkA σ H0 u n k N) (hn : n ≤ 4) : MkE σ H0 (tTup u) (k + 1) ((N + 2) * n + 3) := fun G s Q q => h G s _ fun vs G1 s1 l p => by
  refine ⟨Nat.le_trans (show vs.length ≤ 4 by omega) (by decide), fun a ha => ?_⟩
  obtain ⟨ds, shs, fs, ls, len⟩ := ov_all p
  exact q _ _ (s1.trans (same_new ha)) ⟨.tuple ds, .tup upd_same ((s.trans s1).free ha) (shAll_same (same_new ha) shs), fit_tup.mpr ⟨by omega, fs⟩, by rw [sl_tup, ← l]; omega, fun es e => nomatch e⟩
theorem mk_lst (h : MkA σ H0 u n k N) (hn : n ≤ 4) : MkE σ H0 (tLstN u) (k + 1) ((N + 2) * n + 3) := fun G s Q q => h G s _ fun vs G1 s1 l p => by
  refine ⟨by omega, fun a ha na => ?_⟩
  obtain ⟨ds, shs, fs, ls, len⟩ := ov_all p
  have sn := same_new (o := .lst vs) ha
  refine q _ _ (s1.trans sn) ⟨.list ds, .lst upd_same ((s.trans s1).free ha) (fun _ => na) (shAll_same sn shs), fit_lst.mpr ⟨by omega, fs⟩, by rw [sl_lst, ← l]; omega, fun es e => ?_⟩
  cases e
  exact ⟨a, vs, rfl, upd_same, ShAll.on (fun c o q h => ⟨q, ne_of_none h ha⟩) (fun c o _ h => sn c o h) _ _ shs⟩
end
theorem seq_asg {te : TE} {i : Nat} {r : TS} {D : Ends} {σ : L2.St} {H : Hp} (h : te σ H fun v G => r D (σ.set i (some v)) G) : tSeq (tAsg te (gName i)) r D σ H := h
abbrev nOdd : List Str := ["_law_purse_here", "_law_some"]
theorem scOdd : FnScope nOdd ["_law_purse_here"] (defScope sOdd) := ⟨rfl, rfl, rfl, by decide +kernel, rfl, by decide +kernel, by decide +kernel⟩
def spOdd : Sp := fun vs H Q _ => ∃ (p : Addr) (n : Int), vs = [.ref p] ∧ Purse H p n ∧ n ≤ 99990 ∧ ∀ v G, OV H 3 900 v G → Kp (· ≠ p) H G → Purse G p (n + 1) → Q v G
section
variable {P : Program} {w : World} {K : PySem.W.Frag} {mg : Str → Option Value} {base : Heap}
theorem mk_big {σ : L2.St} {H0 : Hp} : MkE σ H0 (tOp (rI CPow fun i j => .int (i ^ j.toNat)) (tC (.int 10)) (tC (.int 29))) 0 130 := fun G _ Q q =>
  ⟨10, 29, rfl, rfl, ⟨by decide, by decide, by decide⟩, q _ G (Same.refl G) (ov_leaf (.int _) (fit_int.mpr (.inr rfl)) (by decide +kernel))⟩
/-- a list of written things -/
theorem lst_mk {σ : L2.St} {H0 : Hp} {u : TA} {n k N : Nat} (h : MkA σ H0 u n k N) (hn : n ≤ 1000) {G : Hp} (s : Same H0 G) :
    Mks (tLstN u) σ G fun v G' => ∃ (L : Addr) (vs : List V), v = .ref L ∧ G' L = some (.lst vs) ∧ H0 L = none ∧ vs.length = n ∧ ∀ x ∈ vs, OV H0 k N x G' := fun Q q => h G s _ fun vs G1 s1 l p => by
  refine ⟨by omega, fun a ha _ => q _ _ (s1.trans (same_new ha)) ⟨a, vs, rfl, upd_same, (s.trans s1).free ha, l, fun x m => (p x m).same (same_new ha)⟩⟩
set_option maxHeartbeats 4000000 in
theorem ok_odd {f fo : Addr} {fd do_ : FuncData} (F : Fun K "_law_odd" "_law_odd" sOdd f fd) (DO : Df K mg "_law_of" fo do_ ["_law_purse_here", "_law_some"]) (GO : FnOk P w K mg base CX0 2 fo do_ ["_law_purse_here", "_law_some"] (spOf K)) :
    FnOk P w K mg base CX0 3 f fd ["_law_purse_here"] spOdd := by
  refine F.ok scOdd (fun vs H Q E h => ?_) (fun cdv A outer s H vs Q E hr h => ?_)
  · obtain ⟨p, n, rfl, _⟩ := h
    rfl
  · obtain ⟨p, n, rfl, pu, hn, q⟩ := h
    refine ⟨_, (pss_cons (ps_set (i := 1) scOdd.nd rfl (Or.inl rfl) (pe_lstN (pa_cons pe_non (pa_cons pe_bl (pa_cons pe_bl (pa_cons (pe_un un_neg pe_int) (pa_cons pe_int (pa_cons pe_int (pa_cons pe_int (pa_cons pe_int (pa_cons pe_str (pa_cons pe_str (pa_cons pe_str (pa_cons pe_str (pa_cons pe_str (pa_cons pe_str (pa_cons pe_str (pa_cons (pe_lstN pa_nil) (pa_cons (pe_lstN (pa_cons pe_str pa_nil)) (pa_cons (pe_tup pa_nil) (pa_cons pe_dnewK pa_nil)))))))))))))))))))))
        (pss_cons (ps_set (i := 1) scOdd.nd rfl (Or.inl rfl) (pe_op op_catN (pv 1) (pe_lstN (pa_cons pe_str (pa_cons pe_str (pa_cons pe_str (pa_cons pe_str (pa_cons pe_str pa_nil))))))))
        (pss_cons (ps_set (i := 1) scOdd.nd rfl (Or.inl rfl) (pe_op op_catN (pv 1) (pe_lstN (pa_cons (pe_tup (pa_cons pe_str (pa_cons pe_str pa_nil))) (pa_cons (pe_tup (pa_cons pe_str pa_nil)) (pa_cons (pe_lstN (pa_cons pe_str (pa_cons pe_str pa_nil))) (pa_cons (pe_tup (pa_cons pe_str (pa_cons pe_int (pa_cons pe_int pa_nil)))) (pa_cons (pe_tup (pa_cons pe_str (pa_cons pe_int (pa_cons pe_bl pa_nil)))) (pa_cons (pe_tup (pa_cons pe_str (pa_cons (pe_tup (pa_cons pe_int (pa_cons pe_int pa_nil))) (pa_cons (pe_tup (pa_cons pe_int pa_nil)) pa_nil)))) pa_nil)))))))))
        (pss_cons (ps_set (i := 1) scOdd.nd rfl (Or.inl rfl) (pe_op op_catN (pv 1) (pe_lstN (pa_cons (pe_tup (pa_cons pe_str (pa_cons (pe_tup (pa_cons pe_int (pa_cons pe_int pa_nil))) (pa_cons (pe_tup (pa_cons pe_int pa_nil)) pa_nil)))) (pa_cons (pe_op op_pow pe_int pe_int) (pa_cons (pe_tup (pa_cons pe_str (pa_cons pe_str (pa_cons pe_str pa_nil)))) (pa_cons (pe_tup (pa_cons pe_str (pa_cons (pe_tup (pa_cons (pe_tup (pa_cons pe_str (pa_cons pe_str pa_nil))) pa_nil)) pa_nil))) (pa_cons pe_int (pa_cons pe_int (pa_cons pe_int (pa_cons pe_int pa_nil)))))))))))
        (pss_one (ps_ret (pe_call GO hr (by rfl) DO.at_ DO.kp DO.bd .nil pass0 (pa_cons (pv 0) (pa_cons (pv 1) pa_nil))))))))), ?_⟩
    have cat : ∀ {G2 : Hp} {L1 L2 : Addr} {vs1 vs2 : List V} {Q2 : VK}, Same H G2 → G2 L1 = some (.lst vs1) → G2 L2 = some (.lst vs2) → vs1.length ≤ 100 → vs2.length ≤ 100 → (∀ x ∈ vs1, OV H 3 900 x G2) → (∀ x ∈ vs2, OV H 3 900 x G2) →
        (∀ L3 G3, Same G2 G3 → G3 L3 = some (.lst (vs1 ++ vs2)) → H L3 = none → (∀ x ∈ vs1 ++ vs2, OV H 3 900 x G3) → Q2 (.ref L3) G3) → rCatN (.ref L1) (.ref L2) G2 Q2 := fun {G2 L1 L2 vs1 vs2 Q2} s g1 g2 l1 l2 p1 p2 q2 =>
      ⟨L1, L2, vs1, vs2, rfl, rfl, g1, g2, Nat.le_trans (show vs1.length + vs2.length ≤ 200 by omega) (by decide), fun L3 h3 _ => q2 L3 _ (same_new h3) upd_same (s.free h3) fun x m => ((List.mem_append.mp m).elim (p1 x) (p2 x)).same (same_new h3)⟩
    refine seq_asg (lst_mk (k := 3) (N := 900) (mk_cons (mk_mono (by decide) (by decide) mk_non) (mk_cons (mk_mono (by decide) (by decide) mk_bl) (mk_cons (mk_mono (by decide) (by decide) mk_bl) (mk_cons (mk_mono (by decide) (by decide) (mk_neg (by decide) (by decide))) (mk_cons (mk_mono (by decide) (by decide) (mk_int (by decide) (by decide))) (mk_cons (mk_mono (by decide) (by decide) (mk_int (by decide) (by decide))) (mk_cons (mk_mono (by decide) (by decide) (mk_int (by decide) (by decide))) (mk_cons (mk_mono (by decide) (by decide) (mk_int (by decide) (by decide))) (mk_cons (mk_mono (by decide) (by decide) (mk_str (by decide +kernel) (by decide))) (mk_cons (mk_mono (by decide) (by decide) (mk_str (by decide +kernel) (by decide))) (mk_cons (mk_mono (by decide) (by decide) (mk_str (by decide +kernel) (by decide))) (mk_cons (mk_mono (by decide) (by decide) (mk_str (by decide +kernel) (by decide))) (mk_cons (mk_mono (by decide) (by decide) (mk_str (by decide +kernel) (by decide))) (mk_cons (mk_mono (by decide) (by decide) (mk_str (by decide +kernel) (by decide))) (mk_cons (mk_mono (by decide) (by decide) (mk_str (by decide +kernel) (by decide))) (mk_cons (mk_mono (by decide) (by decide) (mk_lst (k := 0) (N := 130) mk_nil (by decide))) (mk_cons (mk_mono (by decide) (by decide) (mk_lst (k := 0) (N := 130) (mk_cons (mk_mono (by decide) (by decide) (mk_str (by decide +kernel) (by decide))) mk_nil) (by decide))) (mk_cons (mk_mono (by decide) (by decide) (mk_tup (k := 0) (N := 130) mk_nil (by decide))) (mk_cons (mk_mono (by decide) (by decide) mk_emp) mk_nil))))))))))))))))))) (by decide) (Same.refl H) _ fun v1 G1 s1 ⟨L1, vs1, e1, g1, f1, l1, p1⟩ => ?_)
    subst e1
    refine ⟨_, rfl, lst_mk (k := 3) (N := 900) (mk_cons (mk_mono (by decide) (by decide) (mk_str (by decide +kernel) (by decide))) (mk_cons (mk_mono (by decide) (by decide) (mk_str (by decide +kernel) (by decide))) (mk_cons (mk_mono (by decide) (by decide) (mk_str (by decide +kernel) (by decide))) (mk_cons (mk_mono (by decide) (by decide) (mk_str (by decide +kernel) (by decide))) (mk_cons (mk_mono (by decide) (by decide) (mk_str (by decide +kernel) (by decide))) mk_nil))))) (by decide) s1 _ fun v2 G2 s2 ⟨L2, vs2, e2, g2, f2, l2, p2⟩ => ?_⟩
    subst e2
    have s12 := s1.trans s2
    refine cat s12 (s2 _ _ g1) g2 (by omega) (by omega) (fun x m => (p1 x m).same s2) p2 fun L3 G3 s3 g3 f3 p3 => ?_
    have l3 : (vs1 ++ vs2).length = 24 := by rw [List.length_append, l1, l2]
    generalize vs1 ++ vs2 = vs3 at l3 g3 p3
    have s13 := s12.trans s3
    clear s1 s2 s3 s12 g1 g2 f1 f2 p1 p2 l1 l2
    refine ⟨_, rfl, lst_mk (k := 3) (N := 900) (mk_cons (mk_mono (by decide) (by decide) (mk_tup (k := 0) (N := 130) (mk_cons (mk_mono (by decide) (by decide) (mk_str (by decide +kernel) (by decide))) (mk_cons (mk_mono (by decide) (by decide) (mk_str (by decide +kernel) (by decide))) mk_nil)) (by decide))) (mk_cons (mk_mono (by decide) (by decide) (mk_tup (k := 0) (N := 130) (mk_cons (mk_mono (by decide) (by decide) (mk_str (by decide +kernel) (by decide))) mk_nil) (by decide))) (mk_cons (mk_mono (by decide) (by decide) (mk_lst (k := 0) (N := 130) (mk_cons (mk_mono (by decide) (by decide) (mk_str (by decide +kernel) (by decide))) (mk_cons (mk_mono (by decide) (by decide) (mk_str (by decide +kernel) (by decide))) mk_nil)) (by decide))) (mk_cons (mk_mono (by decide) (by decide) (mk_tup (k := 0) (N := 130) (mk_cons (mk_mono (by decide) (by decide) (mk_str (by decide +kernel) (by decide))) (mk_cons (mk_mono (by decide) (by decide) (mk_int (by decide) (by decide))) (mk_cons (mk_mono (by decide) (by decide) (mk_int (by decide) (by decide))) mk_nil))) (by decide))) (mk_cons (mk_mono (by decide) (by decide) (mk_tup (k := 0) (N := 130) (mk_cons (mk_mono (by decide) (by decide) (mk_str (by decide +kernel) (by decide))) (mk_cons (mk_mono (by decide) (by decide) (mk_int (by decide) (by decide))) (mk_cons (mk_mono (by decide) (by decide) mk_bl) mk_nil))) (by decide))) (mk_cons (mk_mono (by decide) (by decide) (mk_tup (k := 1) (N := 267) (mk_cons (mk_mono (by decide) (by decide) (mk_str (by decide +kernel) (by decide))) (mk_cons (mk_mono (by decide) (by decide) (mk_tup (k := 0) (N := 130) (mk_cons (mk_mono (by decide) (by decide) (mk_int (by decide) (by decide))) (mk_cons (mk_mono (by decide) (by decide) (mk_int (by decide) (by decide))) mk_nil)) (by decide))) (mk_cons (mk_mono (by decide) (by decide) (mk_tup (k := 0) (N := 130) (mk_cons (mk_mono (by decide) (by decide) (mk_int (by decide) (by decide))) mk_nil) (by decide))) mk_nil))) (by decide))) mk_nil)))))) (by decide) s13 _ fun v2 G4 s4 ⟨L4, vs4, e4, g4, f4, l4, p4⟩ => ?_⟩
    subst e4
    have s14 := s13.trans s4
    refine cat s14 (s4 _ _ g3) g4 (by omega) (by omega) (fun x m => (p3 x m).same s4) p4 fun L5 G5 s5 g5 f5 p5 => ?_
    have l5 : (vs3 ++ vs4).length = 30 := by rw [List.length_append, l3, l4]
    generalize vs3 ++ vs4 = vs5 at l5 g5 p5
    have s15 := s14.trans s5
    clear s4 s5 s14 s13 g3 g4 f3 f4 p3 p4 l3 l4
    refine ⟨_, rfl, lst_mk (k := 3) (N := 900) (mk_cons (mk_mono (by decide) (by decide) (mk_tup (k := 1) (N := 267) (mk_cons (mk_mono (by decide) (by decide) (mk_str (by decide +kernel) (by decide))) (mk_cons (mk_mono (by decide) (by decide) (mk_tup (k := 0) (N := 130) (mk_cons (mk_mono (by decide) (by decide) (mk_int (by decide) (by decide))) (mk_cons (mk_mono (by decide) (by decide) (mk_int (by decide) (by decide))) mk_nil)) (by decide))) (mk_cons (mk_mono (by decide) (by decide) (mk_tup (k := 0) (N := 130) (mk_cons (mk_mono (by decide) (by decide) (mk_int (by decide) (by decide))) mk_nil) (by decide))) mk_nil))) (by decide))) (mk_cons (mk_mono (by decide) (by decide) mk_big) (mk_cons (mk_mono (by decide) (by decide) (mk_tup (k := 0) (N := 130) (mk_cons (mk_mono (by decide) (by decide) (mk_str (by decide +kernel) (by decide))) (mk_cons (mk_mono (by decide) (by decide) (mk_str (by decide +kernel) (by decide))) (mk_cons (mk_mono (by decide) (by decide) (mk_str (by decide +kernel) (by decide))) mk_nil))) (by decide))) (mk_cons (mk_mono (by decide) (by decide) (mk_tup (k := 2) (N := 272) (mk_cons (mk_mono (by decide) (by decide) (mk_str (by decide +kernel) (by decide))) (mk_cons (mk_mono (by decide) (by decide) (mk_tup (k := 1) (N := 267) (mk_cons (mk_mono (by decide) (by decide) (mk_tup (k := 0) (N := 130) (mk_cons (mk_mono (by decide) (by decide) (mk_str (by decide +kernel) (by decide))) (mk_cons (mk_mono (by decide) (by decide) (mk_str (by decide +kernel) (by decide))) mk_nil)) (by decide))) mk_nil) (by decide))) mk_nil)) (by decide))) (mk_cons (mk_mono (by decide) (by decide) (mk_int (by decide) (by decide))) (mk_cons (mk_mono (by decide) (by decide) (mk_int (by decide) (by decide))) (mk_cons (mk_mono (by decide) (by decide) (mk_int (by decide) (by decide))) (mk_cons (mk_mono (by decide) (by decide) (mk_int (by decide) (by decide))) mk_nil)))))))) (by decide) s15 _ fun v2 G6 s6 ⟨L6, vs6, e6, g6, f6, l6, p6⟩ => ?_⟩
    subst e6
    have s16 := s15.trans s6
    refine cat s16 (s6 _ _ g5) g6 (by omega) (by omega) (fun x m => (p5 x m).same s6) p6 fun L7 G7 s7 g7 f7 p7 => ?_
    have l7 : (vs5 ++ vs6).length = 38 := by rw [List.length_append, l5, l6]
    generalize vs5 ++ vs6 = vs7 at l7 g7 p7
    have s17 := s16.trans s7
    refine ⟨_, rfl, _, rfl, p, L7, n, vs7, rfl, pu.same s17, by omega, g7, pu.ne f7, (fun e => by rw [e] at l7; cases l7), by omega, fun v G8 mv k8 pu8 => ?_⟩
    obtain ⟨d, sh, fd_, ld, lo⟩ := p7 v mv
    exact q v G8 ⟨d, sh_step pu k8 sh, fd_, ld, lo.on (fun _ _ f _ => f) (fun a o f e => k8 a o (pu.ne f) e) sh⟩ (fun a o na h => k8 a o na (s17 _ _ h)) pu8
end
end P4
end Bf

namespace Bf
open PySem PySem.Spec PyProof.Rows L2
def ifB : Stmt → List Stmt
  | .If _ b _ _ => b
  | _ => []
namespace P4
def cutG {α : Type} (l : List α) (lo hi : Option Int) : List α := (l.drop (HT.sIx l.length 0 lo)).take (HT.sIx l.length l.length hi - HT.sIx l.length 0 lo)
theorem cutG_to {α : Type} (l : List α) (k : Nat) : cutG l none (some (k : Int)) = l.take k := by
  unfold cutG
  rw [HT.sIx_none, HT.sIx_nat, List.drop_zero, Nat.sub_zero, ← List.take_eq_take_min]
theorem cutG_from {α : Type} (l : List α) (k : Nat) : cutG l (some (k : Int)) none = l.drop k := by
  unfold cutG
  rw [HT.sIx_none, HT.sIx_nat]
  by_cases h : k ≤ l.length
  · rw [Nat.min_eq_left h]
    have e : l.length - k = (l.drop k).length := by rw [List.length_drop]
    rw [e, List.take_length]
  · rw [Nat.min_eq_right (by omega), Nat.sub_self, List.take_zero, List.drop_eq_nil_of_le (by omega)]
theorem cutG_sub {α : Type} (l : List α) (lo hi : Option Int) : ∃ a b, cutG l lo hi = (l.drop a).take b := ⟨_, _, rfl⟩
theorem cutG_all {α : Type} (l : List α) {lo hi : Option Int} (h : HT.sIx l.length 0 lo = 0 ∧ HT.sIx l.length l.length hi = l.length) : cutG l lo hi = l := by
  unfold cutG
  rw [h.1, h.2, List.drop_zero, Nat.sub_zero, List.take_length]
theorem ShAll.drop {H : Hp} {P : Addr → Prop} {b : Bool} : ∀ {vs : List V} {ds : List PyData} (n : Nat), ShAll H P b vs ds → ShAll H P b (vs.drop n) (ds.drop n)
  | _, _, 0, r => r
  | _, _, _ + 1, .nil => .nil
  | _, _, n + 1, .cons _ r => ShAll.drop n r
theorem ShAll.take {H : Hp} {P : Addr → Prop} {b : Bool} : ∀ {vs : List V} {ds : List PyData} (n : Nat), ShAll H P b vs ds → ShAll H P b (vs.take n) (ds.take n)
  | _, _, 0, _ => .nil
  | _, _, _ + 1, .nil => .nil
  | _, _, n + 1, .cons h r => .cons h (ShAll.take n r)
theorem ShAll.cut {H : Hp} {P : Addr → Prop} {b : Bool} {vs : List V} {ds : List PyData} (lo hi : Option Int) (r : ShAll H P b vs ds) : ShAll H P b (cutG vs lo hi) (cutG ds lo hi) := by
  unfold cutG
  rw [shAll_len r]
  exact ShAll.take _ (ShAll.drop _ r)
theorem slA_take (l : List PyData) (n : Nat) : slA l = slA (l.take n) + slA (l.drop n) := by
  rw [← slA_app, List.take_append_drop]
/-- a tuple of these data -/
def Tq (P : Addr → Prop) (G : Hp) (v : V) (ds : List PyData) : Prop := ∃ (a : Addr) (ys : List V), v = .ref a ∧ G a = some (.tup ys) ∧ P a ∧ ShAll G P true ys ds
section
variable {P : Addr → Prop} {G G' : Hp} {x y : V} {ds es : List PyData}
theorem Tq.same (s : Same G G') (h : Tq P G x ds) : Tq P G' x ds := by
  obtain ⟨a, ys, e, g, p, r⟩ := h
  exact ⟨a, ys, e, s _ _ g, p, shAll_same s r⟩
theorem Tq.kp {p : Addr} (np : ¬ P p) (k : Kp (· ≠ p) G G') (h : Tq P G x ds) : Tq P G' x ds := by
  obtain ⟨a, ys, e, g, pa, r⟩ := h
  exact ⟨a, ys, e, k _ _ (fun z => np (z ▸ pa)) g, pa, ShAll.on (fun _ _ q _ => q) (fun c o q h => k c o (fun z => np (z ▸ q)) h) _ _ r⟩
theorem cut_okT {K : PySem.W.Frag} {lo hi : Option Int} {Q : VK} (fr : ∀ a, G a = none → P a) (h : Tq P G x ds) (q : ∀ z G', Same G G' → Tq P G' z (cutG ds lo hi) → Q z G') : rSlA K x lo hi G Q := by
  obtain ⟨a, ys, e, g, p, r⟩ := h
  have l := shAll_len r
  refine ⟨a, ys, e, SqT.of g, fun f => ?_, fun _ t ht => ?_⟩
  · refine q _ _ (Same.refl G) ⟨a, ys, rfl, g, p, ?_⟩
    rw [l] at f
    rw [cutG_all ds f]
    exact r
  · have sn := same_new (o := .tup (cutV ys lo hi)) ht
    exact q _ _ sn ⟨t, _, rfl, upd_same, fr t ht, ShAll.cut lo hi (shAll_same sn r)⟩
theorem cat_okT {K : PySem.W.Frag} {Q : VK} (fr : ∀ a, G a = none → P a) (h1 : Tq P G x ds) (h2 : Tq P G y es) (l : ds.length + es.length ≤ 5000) (q : ∀ z G', Same G G' → Tq P G' z (ds ++ es) → Q z G') : rCatA K x y G Q := by
  obtain ⟨a, ys, e, g, p, r⟩ := h1
  obtain ⟨b, zs, e2, g2, p2, r2⟩ := h2
  have l1 := shAll_len r
  have l2 := shAll_len r2
  refine ⟨a, b, ys, zs, e, e2, SqT.of g, SqT.of g2, Nat.le_trans (show ys.length + zs.length ≤ 5000 by omega) (by decide), fun n => ?_, fun _ n => ?_, fun _ _ t ht => ?_⟩
  · subst n
    cases r
    exact q _ _ (Same.refl G) ⟨b, zs, rfl, g2, p2, r2⟩
  · subst n
    cases r2
    exact q _ _ (Same.refl G) ⟨a, ys, rfl, g, p, by rw [List.append_nil]; exact r⟩
  · have sn := same_new (o := .tup (ys ++ zs)) ht
    exact q _ _ sn ⟨t, _, rfl, upd_same, fr t ht, (shAll_same sn r).append (shAll_same sn r2)⟩
end
theorem _root_.Bf.Sh.knK {K : PySem.W.Frag} {H : Hp} {P : Addr → Prop} {b : Bool} {x : V} {d : PyData} (h : Sh H P b x d) : Kn K H x (tyD d) := by
  cases h with
  | non => exact .non
  | bl c => exact .bl c
  | int i => exact .int i
  | str z => exact .str z
  | lst h p _ r => exact .lst (.base (.lst h))
  | tup h p r => exact .tup (.base (.tup h))
  | emp _ h p => exact .dic (.base (.dK h))
theorem no_part {σ : L2.St} {H : Hp} {Q : Option Int → Hp → Prop} (h : Q none H) : tNoPart σ H Q := h
/-- what comes of a bent thing -/
structure BentOk (P : Addr → Prop) (H : Hp) (d : PyData) (w k : Nat) (y : V) (e : PyData) (G : Hp) : Prop where
  sh : Sh G (fun a => P a ∨ H a = none) true y e
  ft : fit (2 * w + 1) (k + 4) e
  le : sl e ≤ 2 * sl d + 1000
  lo : Lok (fun a => P a ∨ H a = none) G y e
  nw : ∀ es a, e = .list es → y = .ref a → H a = none
  fr : (∀ ds, d ≠ .tuple ds) → Sh G (Fr H) true y e ∧ Lok (Fr H) G y e
abbrev pBent : List Str := ["_law_purse_here", "_law_thing"]
abbrev nBent : List Str := ["_law_purse_here", "_law_thing", "_law_way", "_law_at", "_law_head", "_law_tail", "_law_rest"]
theorem scBent : FnScope nBent pBent (defScope sBent) := ⟨rfl, rfl, rfl, by decide +kernel, rfl, by decide +kernel, by decide +kernel⟩
section
variable {P_ : Program} {w_ : World} {K : PySem.W.Frag} {mg : Str → Option Value} {base : Heap}
theorem bent_odd {P : Addr → Prop} {H G0 G : Hp} {p : Addr} {n : Int} {d : PyData} {w k : Nat} {v : V} (w4 : 4 ≤ w) (pu : Purse G0 p n) (k0 : Kp (· ≠ p) H G0) (h : OV G0 3 900 v G) : ∃ e, BentOk P H d w k v e G := by
  obtain ⟨e, sh, f, l, lo⟩ := h
  have shH := sh_back pu k0 sh
  have loH : Lok (Fr H) G v e := lo.on (fun _ _ q _ => pu.back k0 q) (fun _ _ _ e => e) sh
  refine ⟨e, Sh.on (fun _ _ q _ => .inr q) (fun _ _ _ e => e) e v shH, fit_mono (by omega) e (by omega) f, by omega, loH.on (fun _ _ q _ => .inr q) (fun _ _ _ e => e) shH, fun es a ee ev => ?_, fun _ => ⟨shH, loH⟩⟩
  subst ee ev
  cases shH with
  | lst _ q _ _ => exact q
theorem bent_then {f ft fn fk fo fod : Addr} {dt dn dk do_ dod : FuncData} (M : Mkr P_ w_ K mg base ft fn fk fo dt dn dk do_) (L : mg "isinstance" = none ∧ mg "tuple" = none ∧ mg "len" = none ∧ mg "list" = none) (DOd : Df K mg "_law_odd" fod dod ["_law_purse_here"]) (GOd : FnOk P_ w_ K mg base CX0 3 fod dod ["_law_purse_here"] spOdd)
    {cdv : Value} {A : Around} {outer : List Env} {s : Shared} {H0 : Hp} {E : XK} (hr3 : Room 3 (A.deeper (envOfC "_law_bent" (defScope sBent) s.heap.objs.size f cdv))) :
    ∃ t, PSs (cxOf CX0 P_ w_ K mg base nBent "_law_bent" (defScope sBent) f cdv A outer s H0 E).nox (ifB ((defBody sBent).getD 0 (.Pass ⟨0, 0, 0, 0⟩))) t ∧ ∀ (D : Ends) (H : Hp) (p : Addr) (n : Int) (x : V) (d : PyData) (P : Addr → Prop) (w k : Nat) (u2 u3 u4 u5 u6 : Option V),
      Purse H p n → n ≤ 99900 → Sh H P true x d → fit w k d → 4 ≤ w → w ≤ 400 → ¬ P p → (∀ y e G, BentOk P H d w k y e G → Kp (· ≠ p) H G → Purse G p (n + 5) → D.rt y G) → t D [some (.ref p), some x, u2, u3, u4, u5, u6] H := by
  have hr1 := hr3.mono (by decide : 1 ≤ 3)
  obtain ⟨mi, mt, ml, mL⟩ := L
  refine ⟨_, (pss_cons (ps_set (i := 2) scBent.nd rfl (Or.inl rfl) (pe_call M.GT hr1 (by rfl) M.DT.at_ M.DT.kp M.DT.bd .nil pass0 (pa_cons (pv 0) (pa_cons pe_int pa_nil))))
        (pss_cons (ps_if (PW.pt (pw_and (pt_val (pe_callB call_isi (by rfl) mi (by decide +kernel) (pa_cons (pv 1) (pa_cons (pe_bltn (v := .ty "tuple") (by rfl) mt (by decide +kernel) rfl) pa_nil)))) (pw_and1 (pt_cmpR op_lt (pv 2) pe_int (nomark _))))) (pss_cons (ps_set (i := 3) scBent.nd rfl (Or.inl rfl) (pe_call M.GT hr1 (by rfl) M.DT.at_ M.DT.kp M.DT.bd .nil pass0 (pa_cons (pv 0) (pa_cons (pe_op op_add (pe_callB call_len_seq (by rfl) ml PySem.boot_len (pa_cons (pv 1) pa_nil)) pe_int) pa_nil))))
        (pss_cons (ps_par (i := 4) (j := 5) rfl scBent.nd rfl rfl (by decide) rfl rfl (pa_cons (pe_slice sl_tupA (pv 1) po_none (po_some (pv 3))) (pa_cons (pe_slice sl_tupA (pv 1) (po_some (pv 3)) po_none) pa_nil)) rfl)
        (pss_cons (ps_set (i := 6) scBent.nd rfl (Or.inl rfl) (pe_lst (pa_cons (pe_op op_catA (pv 4) (pe_slice sl_tupA (pv 5) (po_some pe_int) po_none)) (pa_cons (pe_op op_catA (pe_op op_catA (pv 4) (pe_tup (pa_cons (pe_call GOd hr3 (by rfl) DOd.at_ DOd.kp DOd.bd .nil pass0 (pa_cons (pv 0) pa_nil)) pa_nil))) (pv 5)) (pa_cons (pe_callTy call_listN (by rfl) mL (by decide +kernel) (pa_cons (pv 1) pa_nil)) (pa_cons (pe_op op_catA (pe_op op_catA (pv 4) (pe_slice sl_tupA (pv 4) (po_some (pe_un un_neg pe_int)) po_none)) (pv 5)) pa_nil))))))
        (pss_one (ps_ret (pe_ix ix_list (pv 6) (pv 2) (fun _ _ => rfl))))))) pss_nil)
        (pss_one (ps_ret (pe_call GOd hr3 (by rfl) DOd.at_ DOd.kp DOd.bd .nil pass0 (pa_cons (pv 0) pa_nil)))))), ?_⟩
  intro D H p n x d P w k u2 u3 u4 u5 u6 pu hn sh ft w4 w400 np fin
  have np1 : ¬ (P p ∨ H p = none) := fun h => by
    obtain ⟨_, _, _, e, _⟩ := id pu
    rcases h with h | h
    · exact np h
    · rw [e] at h; cases h
  refine seq_asg (take_ok (i := 0) rfl pu (by omega) (by decide) (by decide) (fun u G1 u0 u5' k1 pu1 => ?_))
  have shG : ∀ {G : Hp}, Kp (· ≠ p) H G → Sh G P true x d := fun {G} k => Sh.on (fun _ _ q _ => q) (fun a o q e => k a o (fun z => np (z ▸ q)) e) d x sh
  -- the last row
  have last : ∀ {σ : L2.St} {E2 : XK}, σ[0]? = some (some (.ref p)) → tRet (tCall spOdd [] E2 (tCons (tVar 0) tNil)) D σ G1 := fun {σ E2} hσ =>
    ⟨_, hσ, p, _, rfl, pu1, by omega, fun v G2 ov k2 pu2 => by
      obtain ⟨e, be⟩ := bent_odd (P := P) (d := d) (w := w) (k := k) w4 pu1 k1 ov
      exact fin v e G2 be (fun a o na h => k2 a o na (k1 a o na h)) (pu2.mono (by omega))⟩
  refine ⟨_, rfl, x, .ty "tuple", _, _, _, rfl, .ty "tuple", (shG k1).knK.ty, kit_ty (kit_tup d), _, rfl, ?_⟩
  by_cases ht : (tyD d == "tuple") = true
  · refine iteB ht ⟨_, rfl, _, _, rfl, rfl, _, rfl, ite2 (fun lt4 => ?_) (fun _ => last rfl)⟩
    have lt4 := of_decide_eq_true lt4
    obtain ⟨ds, rfl⟩ : ∃ ds, d = .tuple ds := by
      cases d with
      | tuple ds => exact ⟨ds, rfl⟩
      | _ => cases ht
    obtain ⟨a, xs, rfl, ga, pa, r⟩ : ∃ a xs, x = .ref a ∧ G1 a = some (.tup xs) ∧ P a ∧ ShAll G1 P true xs ds := by
      have := shG k1
      cases this with
      | tup h p r => exact ⟨_, _, rfl, h, p, r⟩
    obtain ⟨k', rfl⟩ : ∃ k', k = k' + 1 := by
      cases k with
      | zero => simp only [fit] at ft
      | succ k' => exact ⟨k', rfl⟩
    obtain ⟨lw, fe⟩ := fit_tup.mp ft
    have lx := shAll_len r
    have sld := sl_tup ds
    have frs : ∀ {G : Hp} {m : Int}, Kp (· ≠ p) H G → Purse G p m → ∀ b, G b = none → (P b ∨ H b = none) := fun k pu b hb => .inr (pu.back k hb)
    have tx1 : Tq (fun b => P b ∨ H b = none) G1 (.ref a) ds := ⟨a, xs, rfl, ga, .inl pa, ShAll.on (fun _ _ q _ => .inl q) (fun _ _ _ e => e) _ _ r⟩
    refine seq_asg ⟨_, rfl, _, rfl, a, xs, rfl, .inr (SqT.of ga), _, _, rfl, rfl, p, _, _, rfl, pu1, by omega, by omega, by omega, fun i G2 i0 i1 pu2 eq2 => ?_⟩
    have k12 := kp_take eq2
    have k2 : Kp (· ≠ p) H G2 := fun b o nb h => k12 b o nb (k1 b o nb h)
    obtain ⟨j, rfl⟩ : ∃ j : Nat, i = (j : Int) := ⟨i.toNat, by omega⟩
    have tx2 := tx1.kp np1 k12
    refine ⟨_, rfl, _, rfl, _, rfl, cut_okT (frs k2 pu2) tx2 fun zh G3 s3 th3 => ?_⟩
    rw [cutG_to] at th3
    have k3 : Kp (· ≠ p) H G3 := fun b o nb h => s3 b o (k2 b o nb h)
    have pu3 := pu2.same s3
    refine ⟨_, rfl, _, rfl, _, rfl, no_part (cut_okT (frs k3 pu3) (tx2.same s3) fun zt G4 s4 tt4 => ⟨_, _, rfl, ?_⟩)⟩
    rw [cutG_from] at tt4
    have th4 := th3.same s4
    have k4 : Kp (· ≠ p) H G4 := fun b o nb h => s4 b o (k3 b o nb h)
    have pu4 := pu3.same s4
    have lh : (ds.take j).length ≤ 400 := by rw [List.length_take]; omega
    have lt_ : (ds.drop j).length ≤ 400 := by rw [List.length_drop]; omega
    -- head + tail[1:]
    refine ⟨_, rfl, _, rfl, _, rfl, no_part (cut_okT (frs k4 pu4) tt4 fun z1 G5 s5 t1 => ?_)⟩
    have e1 := cutG_from (ds.drop j) 1
    rw [show ((1 : Nat) : Int) = 1 from rfl] at e1
    rw [e1] at t1
    have k5 : Kp (· ≠ p) H G5 := fun b o nb h => s5 b o (k4 b o nb h)
    have pu5 := pu4.same s5
    have ld : ((ds.drop j).drop 1).length ≤ 400 := by rw [List.length_drop]; omega
    refine cat_okT (frs k5 pu5) (th4.same s5) t1 (by omega) fun zA G6 s6 tA6 => ?_
    have k6 : Kp (· ≠ p) H G6 := fun b o nb h => s6 b o (k5 b o nb h)
    have pu6 := pu5.same s6
    -- head + (odd,) + tail
    refine ⟨_, rfl, _, rfl, p, _, rfl, pu6, by omega, fun vo G7 ov k67 pu7 => ⟨by show 1 ≤ sizeLine; decide, fun t7 h7 => ?_⟩⟩
    have k7 : Kp (· ≠ p) H G7 := fun b o nb h => k67 b o nb (k6 b o nb h)
    obtain ⟨eo, sho, fo_, lo_, _⟩ := ov
    have sho : Sh G7 (fun b => P b ∨ H b = none) true vo eo := Sh.on (fun _ _ q _ => .inr (pu6.back k6 q)) (fun _ _ _ e => e) _ _ sho
    have s78 := same_new (o := .tup [vo]) h7
    have to8 : Tq (fun b => P b ∨ H b = none) (upd G7 t7 (.tup [vo])) (.ref t7) [eo] := ⟨t7, _, rfl, upd_same, frs k7 pu7 t7 h7, .cons (sh_same s78 sho) .nil⟩
    obtain ⟨G8, eG8⟩ : ∃ G8, G8 = upd G7 t7 (.tup [vo]) := ⟨_, rfl⟩
    rw [← eG8] at s78 to8 ⊢
    have k8 : Kp (· ≠ p) H G8 := fun b o nb h => s78 b o (k7 b o nb h)
    have pu8 := pu7.same s78
    have up8 : ∀ {v : V} {es : List PyData}, Tq (fun b => P b ∨ H b = none) G6 v es → Tq (fun b => P b ∨ H b = none) G8 v es := fun h => (h.kp np1 k67).same s78
    have s46 := s5.trans s6
    refine cat_okT (frs k8 pu8) (up8 (th4.same s46)) to8 (by rw [List.length_singleton]; omega) fun z2 G9 s9 t9 => ⟨_, rfl, ?_⟩
    have k9 : Kp (· ≠ p) H G9 := fun b o nb h => s9 b o (k8 b o nb h)
    have pu9 := pu8.same s9
    refine cat_okT (frs k9 pu9) t9 ((up8 (tt4.same s46)).same s9) (by rw [List.length_append, List.length_singleton]; omega) fun zB G10 s10 tB10 => ?_
    have k10 : Kp (· ≠ p) H G10 := fun b o nb h => s10 b o (k9 b o nb h)
    have pu10 := pu9.same s10
    have s810 := s9.trans s10
    -- list(thing)
    have txG : ∀ {G : Hp}, Kp (· ≠ p) G1 G → G a = some (.tup xs) := fun k => k a _ (fun z => np (z ▸ pa)) ga
    have k110 : Kp (· ≠ p) G1 G10 := fun b o nb h => s810 b o (s78 b o (k67 b o nb (s46 b o (s4 b o (s3 b o (k12 b o nb h))))))
    refine ⟨_, rfl, a, xs, rfl, .inr (SqT.of (txG k110)), fun Ls hLs nLs => ?_⟩
    have s11 := same_new (o := .lst xs) hLs
    obtain ⟨G11, eG11⟩ : ∃ G11, G11 = upd G10 Ls (.lst xs) := ⟨_, rfl⟩
    have gL11 : G11 Ls = some (.lst xs) := by rw [eG11, upd_same]
    rw [← eG11] at s11 ⊢
    have k11 : Kp (· ≠ p) H G11 := fun b o nb h => s11 b o (k10 b o nb h)
    have pu11 := pu10.same s11
    have fL := pu10.back k10 hLs
    -- head + head[-1:] + tail
    have s811 := s810.trans s11
    have th11 := (up8 (th4.same s46)).same s811
    refine ⟨_, rfl, _, rfl, _, rfl, _, rfl, no_part (cut_okT (frs k11 pu11) th11 fun z3 G12 s12 t12 => ?_)⟩
    have k12' : Kp (· ≠ p) H G12 := fun b o nb h => s12 b o (k11 b o nb h)
    have pu12 := pu11.same s12
    obtain ⟨ca, cb, ec⟩ := cutG_sub (ds.take j) (some (-1)) none
    have lc : (cutG (ds.take j) (some (-1)) none).length ≤ (ds.take j).length := by rw [ec, List.length_take, List.length_drop]; omega
    have mc : ∀ e ∈ cutG (ds.take j) (some (-1)) none, e ∈ ds := fun e m => by
      rw [ec] at m
      exact List.mem_of_mem_take (List.mem_of_mem_drop (List.mem_of_mem_take m))
    have sc : slA (cutG (ds.take j) (some (-1)) none) ≤ slA (ds.take j) := by
      rw [ec]
      have a1 := slA_take (ds.take j) ca
      have a2 := slA_take ((ds.take j).drop ca) cb
      omega
    generalize cutG (ds.take j) (some (-1)) none = cs at t12 lc mc sc
    refine cat_okT (frs k12' pu12) (th11.same s12) t12 (by omega) fun z4 G13 s13 t13 => ⟨_, rfl, ?_⟩
    have k13 : Kp (· ≠ p) H G13 := fun b o nb h => s13 b o (k12' b o nb h)
    have pu13 := pu12.same s13
    have s1113 := s12.trans s13
    refine cat_okT (frs k13 pu13) t13 ((up8 (tt4.same s46)).same (s811.trans s1113)) (by rw [List.length_append]; omega) fun zD G14 s14 tD14 => ?_
    have s1114 := s1113.trans s14
    refine ⟨by show 4 ≤ sizeLine; decide, fun R hR => ?_⟩
    have s15 := same_new (o := .lst [zA, zB, .ref Ls, zD]) hR
    obtain ⟨v, mv, ev⟩ := pick (xs := [zA, zB, .ref Ls, zD]) u0 (by show u < 4; omega)
    refine ⟨_, rfl, _, rfl, R, _, u, v, rfl, rfl, SqL.of upd_same, ev, ?_⟩
    obtain ⟨G15, eG15⟩ : ∃ G15, G15 = upd G14 R (.lst [zA, zB, .ref Ls, zD]) := ⟨_, rfl⟩
    rw [← eG15] at s15 ⊢
    have s1115 := s1114.trans s15
    have k15 : Kp (· ≠ p) H G15 := fun b o nb h => s1115 b o (k11 b o nb h)
    have pu15 : Purse G15 p (n + 5) := (pu11.same s1115).mono (by omega)
    clear ev eG15 hR
    have sj := slA_take ds j
    -- a tuple that comes
    have finT : ∀ (y : V) (es : List PyData), Tq (fun b => P b ∨ H b = none) G15 y es → (∀ e ∈ es, e ∈ ds ∨ e = eo) → es.length ≤ 2 * w + 1 → slA es ≤ 2 * slA ds + 990 → D.rt y G15 := fun y es h me le_ se => by
      obtain ⟨b, ys, rfl, gb, pb, rb⟩ := h
      refine fin _ (.tuple es) G15 ⟨.tup gb pb rb, fit_tup.mpr ⟨le_, fun e m => ?_⟩, by rw [sl_tup, sl_tup]; omega, (fun _ z => nomatch z), (fun _ _ z => nomatch z), fun no => absurd rfl (no ds)⟩ k15 pu15
      rcases me e m with h | h
      · exact fit_mono (by omega) e (by omega) (fe e h)
      · rw [h]; exact fit_mono (by omega) eo (by omega) fo_
    simp only [List.mem_cons, List.not_mem_nil, or_false] at mv
    rcases mv with rfl | rfl | rfl | rfl
    · refine finT _ _ (((up8 tA6).same s811).same s1115) (fun e m => .inl ?_) (by rw [List.length_append, List.length_take, List.length_drop, List.length_drop]; omega) ?_
      · exact (List.mem_append.mp m).elim List.mem_of_mem_take fun m => List.mem_of_mem_drop (List.mem_of_mem_drop m)
      · have := slA_take (ds.drop j) 1
        rw [slA_app]; omega
    · refine finT _ _ ((tB10.same s11).same s1115) (fun e m => ?_) (by rw [List.length_append, List.length_append, List.length_singleton, List.length_take, List.length_drop]; omega) ?_
      · rcases List.mem_append.mp m with m | m
        · rcases List.mem_append.mp m with m | m
          · exact .inl (List.mem_of_mem_take m)
          · exact .inr (List.mem_singleton.mp m)
        · exact .inl (List.mem_of_mem_drop m)
      · rw [slA_app, slA_app, slA_cons, slA_nil]; omega
    · have gL := s1115 _ _ gL11
      have k115 : Kp (· ≠ p) G1 G15 := fun b o nb h => s1115 b o (s11 b o (k110 b o nb h))
      have r15 : ShAll G15 P true xs ds := ShAll.on (fun _ _ q _ => q) (fun c o q h => k115 c o (fun z => np (z ▸ q)) h) _ _ r
      have nP : ∀ b, P b → G1 b ≠ none → b ≠ Ls := fun b _ hb e => by
        rw [e] at hb
        cases z : G1 Ls with
        | none => exact hb z
        | some o =>
          have := k110 Ls o (pu10.ne hLs) z
          rw [hLs] at this
          cases this
      refine fin _ (.list ds) G15 ⟨.lst gL (.inr fL) (fun _ => nLs) (ShAll.on (fun _ _ q _ => .inl q) (fun _ _ _ e => e) _ _ r15), fit_lst.mpr ⟨by omega, fun e m => fit_mono (by omega) e (by omega) (fe e m)⟩, by rw [sl_lst, sl_tup]; omega, fun es e => ?_, fun es b _ e => by cases e; exact fL, fun no => absurd rfl (no ds)⟩ k15 pu15
      cases e
      refine ⟨Ls, xs, rfl, gL, ShAll.on (fun c o q h => ⟨.inl q.1, q.2⟩) (fun _ _ _ e => e) _ _ (ShAll.on (P' := fun c => P c ∧ c ≠ Ls) (fun c o q h => ⟨q, nP c q (by rw [h]; exact fun z => nomatch z)⟩) (fun c o q h => k115 c o (fun z => np (z ▸ q)) h) _ _ r)⟩
    · refine finT _ _ (tD14.same s15) (fun e m => .inl ?_) (by rw [List.length_append, List.length_append, List.length_take, List.length_drop]; rw [List.length_take] at lc; omega) ?_
      · rcases List.mem_append.mp m with m | m
        · exact (List.mem_append.mp m).elim List.mem_of_mem_take (mc e)
        · exact List.mem_of_mem_drop m
      · rw [slA_app, slA_app]; omega
  · have ht := Bool.eq_false_iff.mpr ht
    exact iteN ht (iteF (last rfl))
theorem BentOk.back {P : Addr → Prop} {H H' : Hp} {d : PyData} {w k : Nat} {y : V} {e : PyData} {G : Hp} (b : ∀ a, H' a = none → H a = none) (h : BentOk P H' d w k y e G) : BentOk P H d w k y e G :=
  ⟨Sh.on (fun a _ q _ => q.imp_right (b a)) (fun _ _ _ e => e) e y h.sh, h.ft, h.le, h.lo.on (fun a _ q _ => q.imp_right (b a)) (fun _ _ _ e => e) h.sh, fun es a z1 z2 => b a (h.nw es a z1 z2),
    fun no => ⟨Sh.on (fun a _ q _ => b a q) (fun _ _ _ e => e) e y (h.fr no).1, (h.fr no).2.on (fun a _ q _ => b a q) (fun _ _ _ e => e) (h.fr no).1⟩⟩
theorem ShAll.get {H : Hp} {P : Addr → Prop} {b : Bool} : ∀ {vs : List V} {ds : List PyData}, ShAll H P b vs ds → ∀ {i : Nat} {v : V}, vs[i]? = some v → ∃ d, ds[i]? = some d ∧ Sh H P b v d
  | _, _, .cons h r, 0, _, e => by cases e; exact ⟨_, rfl, h⟩
  | _, _, .cons h r, i + 1, _, e => ShAll.get r (i := i) e
def spBent (m : Nat) : Sp := fun vs H Q _ => ∃ (p : Addr) (n : Int) (x : V) (d : PyData) (P : Addr → Prop) (w k : Nat), vs = [.ref p, x] ∧ Purse H p n ∧ n + 4 * (k : Int) + 10 ≤ 99900 ∧ Sh H P true x d ∧ fit w k d ∧ k < m ∧ 4 ≤ w ∧ w ≤ 400 ∧ ¬ P p ∧
  ∀ y e G, BentOk P H d w k y e G → Kp (· ≠ p) H G → Purse G p (n + 4 * (k : Int) + 10) → Q y G
set_option maxHeartbeats 2000000 in
theorem ok_bent {f ft fn fk fo fod : Addr} {fd dt dn dk do_ dod : FuncData} (F : Fun K "_law_bent" "_law_bent" sBent f fd) (DB : Df K mg "_law_bent" f fd pBent) (M : Mkr P_ w_ K mg base ft fn fk fo dt dn dk do_) (L : mg "isinstance" = none ∧ mg "tuple" = none ∧ mg "len" = none ∧ mg "list" = none) (DOd : Df K mg "_law_odd" fod dod ["_law_purse_here"]) (GOd : FnOk P_ w_ K mg base CX0 3 fod dod ["_law_purse_here"] spOdd) :
    ∀ m, FnOk P_ w_ K mg base CX0 (m + 3) f fd pBent (spBent m)
  | 0 => ⟨fun _ _ _ _ ⟨_, _, _, _, _, _, _, e, _⟩ => by rw [e]; rfl, fun _ _ _ _ _ _ _ _ _ _ _ _ _ ⟨_, _, _, _, _, _, _, _, _, _, _, _, h, _⟩ => absurd h (Nat.not_lt_zero _)⟩
  | m + 1 => by
    have GR := ok_bent F DB M L DOd GOd m
    obtain ⟨mi, mt, ml, mL⟩ := id L
    refine F.ok scBent (fun vs H Q E h => ?_) (fun cdv A outer s H vs Q E hr h => ?_)
    · obtain ⟨p, n, x, d, P, w, k, rfl, _⟩ := h
      rfl
    · obtain ⟨p, n, x, d, P, w, k, rfl, pu, hn, sh, ft, hk, w4, w400, np, q⟩ := h
      have hr1 := hr.mono (by omega : 1 ≤ m + 3)
      have hr3 := hr.mono (by omega : 3 ≤ m + 3)
      obtain ⟨tt, hThen, then_⟩ := bent_then (base := base) (P_ := P_) (w_ := w_) (outer := outer) (H0 := H) (E := E) M L DOd GOd hr3
      refine ⟨_, (pss_cons (ps_if (PW.pt (pw_or (pt_not (pt_val (pe_callB call_isi (by rfl) mi (by decide +kernel) (pa_cons (pv 1) (pa_cons (pe_bltn (v := .ty "tuple") (by rfl) mt (by decide +kernel) rfl) pa_nil))))) (pw_or (pt_cmpR (op_eqNilT hr.units) (pv 1) (pe_tup pa_nil) (nomark _)) (pw_or1 (pt_cmpR op_eq (pe_call M.GT hr1 (by rfl) M.DT.at_ M.DT.kp M.DT.bd .nil pass0 (pa_cons (pv 0) (pa_cons pe_int pa_nil))) pe_int (nomark _)))))) hThen pss_nil)
        (pss_cons (ps_set (i := 3) scBent.nd rfl (Or.inl rfl) (pe_call M.GT hr1 (by rfl) M.DT.at_ M.DT.kp M.DT.bd .nil pass0 (pa_cons (pv 0) (pa_cons (pe_callB call_len_seq (by rfl) ml PySem.boot_len (pa_cons (pv 1) pa_nil)) pa_nil))))
        (pss_one (ps_ret (pe_op op_catA (pe_op op_catA (pe_slice sl_tupA (pv 1) po_none (po_some (pv 3))) (pe_tup (pa_cons (pe_call GR hr (by rfl) DB.at_ DB.kp DB.bd .nil pass0 (pa_cons (pv 0) (pa_cons (pe_ix ix_tup (pv 1) (pv 3) (fun _ _ => rfl)) pa_nil))) pa_nil))) (pe_slice sl_tupA (pv 1) (po_some (pe_op op_add (pv 3) pe_int)) po_none)))))), ?_⟩
      refine ⟨_, rfl, x, .ty "tuple", _, _, _, rfl, .ty "tuple", sh.knK.ty, kit_ty (kit_tup d), _, rfl, ?_⟩
      by_cases ht : (tyD d == "tuple") = true
      · refine iteN (by rw [ht]; rfl) ?_
        obtain ⟨ds, rfl⟩ : ∃ ds, d = .tuple ds := by
          cases d with
          | tuple ds => exact ⟨ds, rfl⟩
          | _ => cases ht
        obtain ⟨a, xs, rfl, ga, pa, r⟩ : ∃ a xs, x = .ref a ∧ H a = some (.tup xs) ∧ P a ∧ ShAll H P true xs ds := by
          cases sh with
          | tup h p r => exact ⟨_, _, rfl, h, p, r⟩
        refine ⟨_, rfl, by show 0 ≤ sizeLine; decide, fun T1 hT1 => ⟨a, T1, xs, rfl, rfl, SqT.of (same_new hT1 _ _ ga), SqT.of upd_same, _, rfl, ?_⟩⟩
        have s1 : Same H (upd H T1 (.tup [])) := same_new hT1
        generalize upd H T1 (.tup []) = H1 at s1
        have pu1 := pu.same s1
        have shS : ∀ {G : Hp}, Kp (· ≠ p) H G → Sh G P true (.ref a) (.tuple ds) := fun {G} k => Sh.on (fun _ _ q _ => q) (fun c o q e => k c o (fun z => np (z ▸ q)) e) _ _ sh
        by_cases he : xs.isEmpty = true
        · refine iteB he (iteT ?_)
          exact then_ _ H1 p n _ _ P w k _ _ _ _ _ pu1 (by omega) (shS (kp_same s1)) ft w4 w400 np fun y e G be kG puG => q y e G (be.back fun b hb => s1.free hb) (fun b o nb h => kG b o nb (s1 _ _ h)) (puG.mono (by omega))
        · refine iteN (Bool.eq_false_iff.mpr he) ?_
          obtain ⟨k', rfl⟩ : ∃ k', k = k' + 1 := by
            cases k with
            | zero => simp only [fit] at ft
            | succ k' => exact ⟨k', rfl⟩
          refine take_ok (i := 0) rfl pu1 (by omega) (by decide) (by decide) (fun u G2 u0 u4 k12 pu2 => ⟨rfl, _, rfl, ite2 (fun _ => ?_) (fun _ => ?_)⟩)
          · have k2 : Kp (· ≠ p) H G2 := fun b o nb h => k12 b o nb (s1 _ _ h)
            exact then_ _ G2 p _ _ _ P w (k' + 1) _ _ _ _ _ pu2 (by omega) (shS k2) ft w4 w400 np fun y e G be kG puG => q y e G (be.back fun b hb => pu2.back k2 hb) (fun b o nb h => kG b o nb (k2 b o nb h)) (puG.mono (by omega))
          · -- one of its things
            have k2 : Kp (· ≠ p) H G2 := fun b o nb h => k12 b o nb (s1 _ _ h)
            have ga2 := k2 a _ (fun z => np (z ▸ pa)) ga
            have lx := shAll_len r
            obtain ⟨lw, fe⟩ := fit_tup.mp ft
            have lp : 0 < xs.length := by
              cases xs with
              | nil => exact absurd rfl he
              | cons _ _ => simp
            have np1 : ¬ (P p ∨ H p = none) := fun h => by
              obtain ⟨_, _, _, e, _⟩ := id pu
              rcases h with h | h
              · exact np h
              · rw [e] at h; cases h
            refine ⟨_, rfl, _, rfl, a, xs, rfl, .inr (SqT.of ga2), p, _, _, rfl, pu2, by omega, by omega, by omega, fun i G3 i0 i1 pu3 eq3 => ?_⟩
            have k23 := kp_take eq3
            have k3 : Kp (· ≠ p) H G3 := fun b o nb h => k23 b o nb (k2 b o nb h)
            obtain ⟨j, rfl⟩ : ∃ j : Nat, i = (j : Int) := ⟨i.toNat, by omega⟩
            have frs : ∀ {G : Hp} {m : Int}, Kp (· ≠ p) H G → Purse G p m → ∀ b, G b = none → (P b ∨ H b = none) := fun k pu b hb => .inr (pu.back k hb)
            have tx : ∀ {G : Hp}, Kp (· ≠ p) H G → Tq (fun b => P b ∨ H b = none) G (.ref a) ds := fun k => ⟨a, xs, rfl, k a _ (fun z => np (z ▸ pa)) ga, .inl pa, ShAll.on (fun _ _ q _ => .inl q) (fun _ _ _ e => e) _ _ (ShAll.on (fun _ _ q _ => q) (fun c o q e => k c o (fun z => np (z ▸ q)) e) _ _ r)⟩
            refine ⟨_, rfl, _, rfl, _, rfl, cut_okT (frs k3 pu3) (tx k3) fun zh G4 s4 th4 => ?_⟩
            rw [cutG_to] at th4
            have k4 : Kp (· ≠ p) H G4 := fun b o nb h => s4 b o (k3 b o nb h)
            have pu4 := pu3.same s4
            -- bent within
            obtain ⟨xi, exi⟩ : ∃ xi, xs[j]? = some xi := ⟨_, List.getElem?_eq_getElem (by omega)⟩
            obtain ⟨di, edi, shi⟩ := ShAll.get r exi
            have fdi := fe di (List.mem_of_getElem? edi)
            have ga4 := k4 a _ (fun z => np (z ▸ pa)) ga
            refine ⟨_, rfl, _, rfl, _, rfl, a, xs, (j : Int), xi, rfl, rfl, SqT.of ga4, atI_nat exi, p, _, xi, di, P, w, k', rfl, pu4, by omega, Sh.on (fun _ _ q _ => q) (fun c o q e => k4 c o (fun z => np (z ▸ q)) e) _ _ shi, fdi, by omega, w4, w400, np, fun y e G5 be k45 pu5 => ⟨by show 1 ≤ sizeLine; decide, fun t5 h5 => ?_⟩⟩
            have k5 : Kp (· ≠ p) H G5 := fun b o nb h => k45 b o nb (k4 b o nb h)
            have s56 := same_new (o := .tup [y]) h5
            have ty : Tq (fun b => P b ∨ H b = none) (upd G5 t5 (.tup [y])) (.ref t5) [e] := ⟨t5, _, rfl, upd_same, frs k5 pu5 t5 h5, .cons (sh_same s56 (Sh.on (fun b _ q _ => q.imp_right (pu4.back k4)) (fun _ _ _ e => e) _ _ be.sh)) .nil⟩
            obtain ⟨G6, eG6⟩ : ∃ G6, G6 = upd G5 t5 (.tup [y]) := ⟨_, rfl⟩
            rw [← eG6] at s56 ty ⊢
            have k6 : Kp (· ≠ p) H G6 := fun b o nb h => s56 b o (k5 b o nb h)
            have pu6 := pu5.same s56
            have lh : (ds.take j).length ≤ 400 := by rw [List.length_take]; omega
            have lt_ : (ds.drop (j + 1)).length ≤ 400 := by rw [List.length_drop]; omega
            refine cat_okT (frs k6 pu6) ((th4.kp np1 k45).same s56) ty (by rw [List.length_singleton]; omega) fun z1 G7 s7 t7 => ?_
            have k7 : Kp (· ≠ p) H G7 := fun b o nb h => s7 b o (k6 b o nb h)
            have pu7 := pu6.same s7
            refine ⟨_, rfl, _, rfl, _, _, rfl, rfl, _, rfl, no_part (cut_okT (frs k7 pu7) (tx k7) fun zt G8 s8 tt8 => ?_)⟩
            have e8 := cutG_from ds (j + 1)
            rw [show ((j + 1 : Nat) : Int) = (j : Int) + 1 from rfl] at e8
            rw [e8] at tt8
            have k8 : Kp (· ≠ p) H G8 := fun b o nb h => s8 b o (k7 b o nb h)
            have pu8 := pu7.same s8
            refine cat_okT (frs k8 pu8) (t7.same s8) tt8 (by rw [List.length_append, List.length_singleton]; omega) fun zf G9 s9 t9 => ?_
            have k9 : Kp (· ≠ p) H G9 := fun b o nb h => s9 b o (k8 b o nb h)
            have pu9 := pu8.same s9
            obtain ⟨b, ys, rfl, gb, pb, rb⟩ := t9
            have lj : j < ds.length := by omega
            have sj := slA_take ds j
            have sj2 : slA (ds.drop j) = sl di + 2 + slA (ds.drop (j + 1)) := by
              rw [List.drop_eq_getElem_cons lj, slA_cons]
              rw [List.getElem?_eq_getElem lj] at edi
              rw [Option.some.inj edi]
            have bl := be.le
            refine q _ (.tuple (ds.take j ++ [e] ++ ds.drop (j + 1))) G9 ⟨.tup gb pb rb, fit_tup.mpr ⟨?_, fun c m => ?_⟩, ?_, (fun _ z => nomatch z), (fun _ _ z => nomatch z), fun no => absurd rfl (no ds)⟩ k9 (pu9.mono (by omega))
            · rw [List.length_append, List.length_append, List.length_singleton, List.length_take, List.length_drop]; omega
            · rcases List.mem_append.mp m with m | m
              · rcases List.mem_append.mp m with m | m
                · exact fit_mono (by omega) c (by omega) (fe c (List.mem_of_mem_take m))
                · rw [List.mem_singleton.mp m]; exact fit_mono (Nat.le_refl _) e (by omega) be.ft
              · exact fit_mono (by omega) c (by omega) (fe c (List.mem_of_mem_drop m))
            · rw [sl_tup, sl_tup, slA_app, slA_app, slA_cons, slA_nil]; omega
      · have ht := Bool.eq_false_iff.mpr ht
        refine iteB (by rw [ht]; rfl) (iteT ?_)
        exact then_ _ H p n x d P w k _ _ _ _ _ pu (by omega) sh ft w4 w400 np fun y e G be kG puG => q y e G be kG (puG.mono (by omega))
end
end P4
end Bf

namespace Bf
open PySem PySem.Spec PyProof.Rows L2
namespace P4
def isTupD : PyData → Bool
  | .tuple _ => true
  | _ => false
theorem isTup_ty (d : PyData) : (tyD d == "tuple") = isTupD d := by cases d <;> rfl
/-- what the law goes through within a term -/
def inD (c : Str) (one : PyData) : List PyData := if decide (V.str c = V.str "row") = true then (match one with | .tuple es => es | _ => []) else [one]
def keepD (c : Str) (e : PyData) : Bool := isTupD e && !decide (V.str c = V.str "lit")
def okSlot (c s : Str) : Bool :=
  (decide (V.str c = V.str "lit") && (decide (s = "kind") || decide (s = "worth")) && !decide (V.str c = V.str "row")) ||
  (!decide (V.str c = V.str "lit") && decide (V.str c = V.str "row") && decide (s = "parts")) ||
  (!decide (V.str c = V.str "lit") && !decide (V.str c = V.str "row") && (decide (s = "term") || decide (s = "name") || decide (s = "truth") || decide (s = "width") || decide (s = "bit") || decide (s = "place")))
theorem fm_slots : ∀ p ∈ FM, callS p.1 = false → ∀ s ∈ p.2, okSlot p.1 s = true := by decide +kernel
theorem lk_mem {α : Type} {c : Str} {v : α} : ∀ {l : List (Str × α)}, lk c l = some v → (c, v) ∈ l
  | [], h => by cases h
  | (k, u) :: r, h => by
    unfold lk at h
    by_cases e : (k == c) = true
    · rw [if_pos e] at h
      cases h
      rw [eq_of_beq e]
      exact List.mem_cons_self
    · rw [if_neg e] at h
      exact List.mem_cons_of_mem _ (lk_mem h)
theorem term_tup {e : PyData} (h : termD e = true) : isTupD e = true := by
  obtain ⟨f, _⟩ := term_inv h
  obtain ⟨c, rest, ss, ed, _⟩ := formed_inv f
  rw [ed]; rfl
theorem filter_all {α : Type} {p : α → Bool} : ∀ {l : List α}, (∀ x ∈ l, p x = true) → l.filter p = l
  | [], _ => rfl
  | a :: r, h => by rw [List.filter_cons, if_pos (h a List.mem_cons_self), filter_all fun x m => h x (List.mem_cons_of_mem _ m)]
theorem in_slot {c s : Str} {one : PyData} (ok : okSlot c s = true) (f : fitsD s one = true) (t : ∀ e ∈ oneD s one, termD e = true) : (inD c one).filter (keepD c) = oneD s one := by
  unfold okSlot at ok
  by_cases hl : V.str c = V.str "lit"
  · have nr : ¬ V.str c = V.str "row" := fun z => by rw [hl] at z; exact absurd z (by decide)
    rw [decide_eq_true hl, decide_eq_false nr] at ok
    have ok : s = "kind" ∨ s = "worth" := by simpa using ok
    have e0 : (inD c one).filter (keepD c) = [] := by
      rw [List.filter_eq_nil_iff]
      intro e _
      unfold keepD
      rw [decide_eq_true hl]
      simp
    rw [e0]
    rcases ok with rfl | rfl <;> rfl
  · by_cases hr : V.str c = V.str "row"
    · rw [decide_eq_false hl, decide_eq_true hr] at ok
      have ok : s = "parts" := by simpa using ok
      subst ok
      have f : rangeD 2 4 one = true := f
      obtain ⟨es, rfl⟩ := range_inv f
      have ei : inD c (.tuple es) = es := by unfold inD; rw [if_pos (decide_eq_true hr)]
      rw [ei, one_parts]
      rw [one_parts] at t
      refine filter_all fun x m => ?_
      unfold keepD
      rw [term_tup (t x m), decide_eq_false hl]
      rfl
    · rw [decide_eq_false hl, decide_eq_false hr] at ok
      have ei : inD c one = [one] := by unfold inD; rw [if_neg (by rw [decide_eq_false hr]; exact Bool.false_ne_true)]
      have ek : keepD c one = isTupD one := by unfold keepD; rw [decide_eq_false hl]; simp
      rw [ei, List.filter_cons, List.filter_nil, ek]
      have num : ∀ lo hi, wholeD one lo hi = true → isTupD one = false := fun lo hi h => by cases one <;> first | rfl | cases h
      have ok : s = "term" ∨ s = "name" ∨ s = "truth" ∨ s = "width" ∨ s = "bit" ∨ s = "place" := by simpa [or_assoc] using ok
      rcases ok with rfl | rfl | rfl | rfl | rfl | rfl
      · rw [one_term] at t ⊢
        rw [term_tup (t one List.mem_cons_self)]; rfl
      · have : isTupD one = false := by
          have f : nameD one = true := f
          cases one <;> first | rfl | cases f
        rw [this]; rfl
      · rw [num 0 1 f]; rfl
      · rw [num 1 8 f]; rfl
      · rw [num 0 7 f]; rfl
      · rw [num 0 3 f]; rfl
theorem within_in {c : Str} {rest : List PyData} (h : termD (.tuple (.str c :: rest)) = true) : (rest.map fun one => (inD c one).filter (keepD c)).flatten = withinD (.tuple (.str c :: rest)) := by
  obtain ⟨f, cx, w⟩ := term_inv h
  obtain ⟨c', rest', ss, ed, el, hl, hf, _⟩ := formed_inv f
  cases ed
  have slots := fm_slots (c, ss) (lk_mem el) cx
  rw [within_eq el] at w ⊢
  have key : ∀ (ss : List Str) (rest : List PyData), rest.length = ss.length → (∀ s ∈ ss, okSlot c s = true) → (List.zipWith fitsD ss rest).all id = true → (∀ e ∈ (List.zipWith oneD ss rest).flatten, termD e = true) → (rest.map fun one => (inD c one).filter (keepD c)).flatten = (List.zipWith oneD ss rest).flatten := by
    intro ss
    induction ss with
    | nil =>
      intro rest hl _ _ _
      rw [List.eq_nil_of_length_eq_zero hl]; rfl
    | cons s ss ih =>
      intro rest hl hs hf ht
      match rest, hl with
      | one :: rest, hl =>
        rw [List.zipWith_cons_cons] at hf ht ⊢
        rw [List.all_cons] at hf
        obtain ⟨f1, f2⟩ := Bool.and_eq_true_iff.mp hf
        rw [List.map_cons, List.flatten_cons, List.flatten_cons, in_slot (hs s List.mem_cons_self) f1 fun e m => ht e (by rw [List.flatten_cons]; exact List.mem_append.mpr (.inl m)),
          ih rest (Nat.succ.inj hl) (fun x m => hs x (List.mem_cons_of_mem _ m)) f2 fun e m => ht e (by rw [List.flatten_cons]; exact List.mem_append.mpr (.inr m))]
  exact key ss rest hl slots hf w
abbrev nLParts : List Str := ["_law_term", "_law_found", "_law_one", "_law_inner", "_law_part"]
theorem scLParts : FnScope nLParts ["_law_term"] (defScope sLParts) := ⟨rfl, rfl, rfl, by decide +kernel, rfl, by decide +kernel, by decide +kernel⟩
def spLP (m : Nat) : Sp := fun vs H Q _ => ∃ (x : V) (d : PyData) (Hs : Hp) (k : Nat), vs = [x] ∧ Same Hs H ∧ Da Hs x d ∧ termD d = true ∧ fit 50 k d ∧ k < m ∧ sz d ≤ 900000 ∧
  ∀ p H' xs, Same H H' → H p = none → p ≠ sysModules → H' p = some (.lst xs) → DaAll Hs xs (partD d) → Q (.ref p) H'
section
variable {P : Program} {w : World} {K : PySem.W.Frag} {mg : Str → Option Value} {base : Heap}
theorem flat_flat {α β γ : Type} {g : α → List β} {p : β → List γ} : ∀ (l : List α), (l.map fun x => ((g x).map p).flatten).flatten = ((l.map g).flatten.map p).flatten
  | [] => rfl
  | a :: r => by rw [List.map_cons, List.flatten_cons, List.map_cons, List.flatten_cons, List.map_append, List.flatten_append, flat_flat r]
theorem if_join {b : Bool} {ta tb : TE} {σ : L2.St} {H : Hp} {Q : VK} {C : V → Hp → Prop} (h1 : b = true → ∀ Q' : VK, (∀ v G, C v G → Q' v G) → ta σ H Q') (h2 : b = false → ∀ Q' : VK, (∀ v G, C v G → Q' v G) → tb σ H Q') (q : ∀ v G, C v G → Q v G) : if b = true then ta σ H Q else tb σ H Q := by
  cases b with
  | true => exact iteT (h1 rfl Q q)
  | false => exact iteF (h2 rfl Q q)
theorem ok_lparts {f : Addr} {fd : FuncData} (F : Fun K "_law_parts" "_law_parts" sLParts f fd) (DP : Df K mg "_law_parts" f fd ["_law_term"]) (mi : mg "isinstance" = none) (mt : mg "tuple" = none) (mL : mg "list" = none) : ∀ m, FnOk P w K mg base CX0 m f fd ["_law_term"] (spLP m)
  | 0 => ⟨fun _ _ _ _ ⟨_, _, _, _, e, _⟩ => by rw [e]; rfl, fun _ _ _ _ _ _ _ _ _ _ _ _ _ ⟨_, _, _, _, _, _, _, _, _, h, _⟩ => absurd h (Nat.not_lt_zero _)⟩
  | m + 1 => by
    have GR := ok_lparts F DP mi mt mL m
    refine F.ok scLParts (fun vs H Q E h => ?_) (fun cdv A outer s H vs Q E hr h => ?_)
    · obtain ⟨x, d, Hs, k, rfl, _⟩ := h
      rfl
    · obtain ⟨x, d, Hs, k, rfl, sH, da, td, ft, hk, hz, q⟩ := h
      refine ⟨_, (pss_cons (ps_set (i := 1) scLParts.nd rfl (Or.inl rfl) (pe_lstN (pa_cons (pv 0) pa_nil)))
        (pss_cons (ps_for PassesOwn.never rfl (pi_tup (pe_slice sl_tupA (pv 0) (po_some pe_int) po_none)) (pg_name (i := 2) scLParts.nd rfl (Or.inl rfl)) (pss_cons (ps_set (i := 3) scLParts.nd rfl (Or.inl rfl) (pe_ifExp (pt_cmpR op_eq (pe_ix ix_tup (pv 0) pe_int (fun _ _ => rfl)) pe_str (nomark _)) (pe_callTy call_listN (by rfl) mL (by decide +kernel) (pa_cons (pv 2) pa_nil)) (pe_lstN (pa_cons (pv 2) pa_nil))))
        (pss_one (ps_for PassesOwn.never rfl (pi_list (pv 3)) (pg_name (i := 4) scLParts.nd rfl (Or.inl rfl)) (pss_one (ps_if (PW.pt (pw_and (pt_val (pe_callB call_isi (by rfl) mi (by decide +kernel) (pa_cons (pv 4) (pa_cons (pe_bltn (v := .ty "tuple") (by rfl) mt (by decide +kernel) rfl) pa_nil)))) (pw_and1 (pt_cmpR op_ne (pe_ix ix_tup (pv 0) pe_int (fun _ _ => rfl)) pe_str (nomark _))))) (pss_one (ps_set (i := 1) scLParts.nd rfl (Or.inl rfl) (pe_op op_catN (pv 1) (pe_call GR hr (by rfl) DP.at_ DP.kp DP.bd .nil pass0 (pa_cons (pv 4) pa_nil))))) pss_nil))))))
        (pss_one (ps_ret (pv 1))))), ?_⟩
      obtain ⟨fo, cx, wt⟩ := term_inv td
      obtain ⟨c, rest, ss, rfl, el, _⟩ := formed_inv fo
      obtain ⟨a, xs0, rfl, ha, lx0, r0⟩ := da.tup_inv
      have win := within_in td
      have szw := within_sz (.tuple (.str c :: rest))
      cases r0 with
      | @cons v0 vs _ _ hv rv =>
        cases hv
        obtain ⟨k', rfl⟩ : ∃ k', k = k' + 1 := by
          cases k with
          | zero => simp only [fit] at ft
          | succ k' => exact ⟨k', rfl⟩
        have fr : ∀ e ∈ rest, fit 50 k' e := fun e m => (fit_tup.mp ft).2 e (List.mem_cons_of_mem _ m)
        have pe := partD_eq (.tuple (.str c :: rest))
        have plen := partD_le _ (.tuple (.str c :: rest)) (Nat.le_refl _)
        rw [← win, ← flat_flat] at pe
        have mem_w : ∀ one ∈ rest, ∀ e ∈ inD c one, keepD c e = true → e ∈ withinD (.tuple (.str c :: rest)) := fun one m e me ke => by
          rw [← win]
          exact List.mem_flatten.mpr ⟨_, List.mem_map.mpr ⟨one, m, rfl⟩, List.mem_filter.mpr ⟨me, ke⟩⟩
        have fit_i : ∀ one ∈ rest, ∀ e ∈ inD c one, fit 50 k' e := fun one m e me => by
          unfold inD at me
          split at me
          · split at me
            · have f1 := fr _ m
              cases k' with
              | zero => simp only [fit] at f1
              | succ k2 => exact fit_mono (Nat.le_refl _) e (Nat.le_succ _) ((fit_tup.mp f1).2 e me)
            · cases me
          · rw [List.mem_singleton.mp me]; exact fr one m
        refine seq_asg ⟨_, rfl, by show 1 ≤ 1000; decide, fun L0 hL0 nL0 => ?_⟩
        have s1 : Same H (upd H L0 (.lst [.ref a])) := same_new hL0
        refine ⟨_, rfl, 1, rfl, no_part ⟨a, _, rfl, SqT.of (s1 _ _ (sH _ _ ha)), (fun z => absurd z (not_whole (k := 1) (by decide) (by simp))), fun _ t ht => ?_⟩⟩
        have ec : cutV (V.str c :: vs) (some (1 : Int)) none = vs := cut_from (k := 1)
        rw [ec]
        have st := same_new (o := .tup vs) ht
        refine ⟨t, rfl, ⟨vs, SqT.of upd_same⟩, for_tup (K := K) (a := t) (xs := vs) (fun i σ G => ∃ (u2 u3 u4 : Option V) (L : Addr) (xs : List V) (A : List PyData), σ = [some (.ref a), some (.ref L), u2, u3, u4] ∧ H L = none ∧ L ≠ sysModules ∧ G L = some (.lst xs) ∧ DaAll Hs xs A ∧
            A ++ ((rest.drop i).map fun one => (((inD c one).filter (keepD c)).map partD).flatten).flatten = partD (.tuple (.str c :: rest)) ∧ Same H G ∧ G t = some (.tup vs))
          ⟨_, _, _, L0, [.ref a], [.tuple (.str c :: rest)], rfl, hL0, nL0, st _ _ upd_same, .cons da .nil, by rw [List.drop_zero, pe]; rfl, s1.trans st, upd_same⟩ (fun i σ G _ pv => ?_) (fun i y σ G hy pv => ?_) fun σ G pv => ?_⟩
        · obtain ⟨_, _, _, _, _, _, _, _, _, _, _, _, _, gt⟩ := pv
          exact SqT.of gt
        · obtain ⟨u2, u3, u4, L, xs, A, rfl, hL, nL, gL, dA, eA, sG, gt⟩ := pv
          obtain ⟨dy, hdy, day⟩ := rv.get hy
          have mdy := List.mem_of_getElem? hdy
          have hdr : rest.drop i = dy :: rest.drop (i + 1) := by
            have lt := (List.getElem?_eq_some_iff.mp hdy).1
            rw [List.drop_eq_getElem_cons lt]
            rw [List.getElem?_eq_getElem lt] at hdy
            rw [Option.some.inj hdy]
          rw [hdr, List.map_cons, List.flatten_cons] at eA
          refine ⟨_, rfl, a, _, ((0 : Nat) : Int), _, rfl, rfl, SqT.of (sG _ _ (sH _ _ ha)), atI_nat rfl, rfl, _, rfl, if_join (C := fun v G' => ∃ (I : Addr) (ys : List V), v = .ref I ∧ G I = none ∧ Same G G' ∧ G' I = some (.lst ys) ∧ DaAll Hs ys (inD c dy)) (fun e Q' q' => ?_) (fun e Q' q' => ?_) fun v G1 hC => ?_⟩
          · -- a row
            have ec : c = "row" := V.str.inj (of_decide_eq_true e)
            obtain ⟨es, rfl⟩ : ∃ es, dy = .tuple es := by
              subst ec
              rw [term_row] at td
              match rest, mdy, td with
              | [p], m, td =>
                rw [List.mem_singleton.mp m]
                have td : areD 2 4 p = true := td
                cases p with
                | tuple es => exact ⟨es, rfl⟩
                | _ => cases td
            obtain ⟨b, ys, rfl, hb, _, rb⟩ := day.tup_inv
            refine ⟨_, rfl, b, ys, rfl, .inr (SqT.of (sG _ _ (sH _ _ hb))), fun I hI _ => q' _ _ ⟨I, ys, rfl, hI, same_new hI, upd_same, ?_⟩⟩
            have : inD c (.tuple es) = es := by unfold inD; rw [if_pos e]
            rw [this]
            exact rb
          · refine ⟨_, rfl, by show 1 ≤ 1000; decide, fun I hI _ => q' _ _ ⟨I, [y], rfl, hI, same_new hI, upd_same, ?_⟩⟩
            have : inD c dy = [dy] := by unfold inD; rw [if_neg (by rw [e]; exact Bool.false_ne_true)]
            rw [this]
            exact .cons day .nil
          · obtain ⟨I, ys, rfl, hI, s1', gI, rI⟩ := hC
            have fitI := fit_i dy mdy
            have memI := mem_w dy mdy
            generalize inD c dy = es at rI eA fitI memI
            have sG1 := sG.trans s1'
            refine ⟨_, rfl, I, rfl, ⟨ys, SqL.of gI⟩, for_list (K := K) (a := I) (xs := ys) (fun j σ G2 => ∃ (u4 : Option V) (L : Addr) (xs : List V) (A : List PyData), σ = [some (.ref a), some (.ref L), some y, some (.ref I), u4] ∧ H L = none ∧ L ≠ sysModules ∧ G2 L = some (.lst xs) ∧ DaAll Hs xs A ∧
                A ++ ((((es.drop j).filter (keepD c)).map partD).flatten ++ ((rest.drop (i + 1)).map fun one => (((inD c one).filter (keepD c)).map partD).flatten).flatten) = partD (.tuple (.str c :: rest)) ∧ Same H G2 ∧ G2 t = some (.tup vs) ∧ G2 I = some (.lst ys))
              ⟨_, L, xs, A, rfl, hL, nL, s1' _ _ gL, dA, by rw [List.drop_zero]; exact eA, sG1, s1' _ _ gt, gI⟩ (fun j σ G2 _ pv => ?_) (fun j z σ G2 hz2 pv => ?_) fun σ G2 pv => ?_⟩
            · obtain ⟨_, _, _, _, _, _, _, _, _, _, _, _, g⟩ := pv
              exact SqL.of g
            · obtain ⟨u4', L2, xs2, A2, rfl, hL2, nL2, gL2, dA2, eA2, sG2, gt2, gI2⟩ := pv
              obtain ⟨dz, hdz, daz⟩ := rI.get hz2
              have mdz := List.mem_of_getElem? hdz
              have hdr2 : es.drop j = dz :: es.drop (j + 1) := by
                have lt := (List.getElem?_eq_some_iff.mp hdz).1
                rw [List.drop_eq_getElem_cons lt]
                rw [List.getElem?_eq_getElem lt] at hdz
                rw [Option.some.inj hdz]
              rw [hdr2, List.filter_cons] at eA2
              have skip : keepD c dz = false → ∃ (u4 : Option V) (L : Addr) (xs : List V) (A : List PyData), [some (V.ref a), some (V.ref L2), some y, some (V.ref I), some z] = [some (.ref a), some (.ref L), some y, some (.ref I), u4] ∧ H L = none ∧ L ≠ sysModules ∧ G2 L = some (.lst xs) ∧ DaAll Hs xs A ∧
                  A ++ ((((es.drop (j + 1)).filter (keepD c)).map partD).flatten ++ ((rest.drop (i + 1)).map fun one => (((inD c one).filter (keepD c)).map partD).flatten).flatten) = partD (.tuple (.str c :: rest)) ∧ Same H G2 ∧ G2 t = some (.tup vs) ∧ G2 I = some (.lst ys) := fun e => by
                rw [e] at eA2
                exact ⟨_, L2, xs2, A2, rfl, hL2, nL2, gL2, dA2, eA2, sG2, gt2, gI2⟩
              refine ⟨_, rfl, z, .ty "tuple", _, _, _, rfl, .ty "tuple", (Da.same (sH.trans sG2) dz z daz).kn.ty, kit_ty (kit_tup dz), _, rfl, ?_⟩
              by_cases ht2 : (tyD dz == "tuple") = true
              · refine iteB ht2 ⟨_, rfl, a, _, ((0 : Nat) : Int), _, rfl, rfl, SqT.of (sG2 _ _ (sH _ _ ha)), atI_nat rfl, rfl, _, rfl, ?_⟩
                have kd : keepD c dz = !decide (V.str c = V.str "lit") := by
                  unfold keepD
                  rw [← isTup_ty, ht2, Bool.true_and]
                by_cases hk2 : keepD c dz = true
                · refine iteB (by rw [← hk2, kd]) ?_
                  have mw := memI dz mdz hk2
                  have szz := szA_mem mw
                  rw [hk2, if_pos rfl, List.map_cons, List.flatten_cons] at eA2
                  refine ⟨_, rfl, _, rfl, z, dz, Hs, k', rfl, sH.trans sG2, daz, wt dz mw, fitI dz mdz, by omega, by omega, fun p H' zs s2' hp np gp rz => ?_⟩
                  have lA := dA2.len
                  have lz := rz.len
                  have tot : A2.length + (partD dz).length ≤ (partD (.tuple (.str c :: rest))).length := by
                    rw [← eA2, List.length_append, List.length_append, List.length_append]; omega
                  have sG3 := sG2.trans s2'
                  refine ⟨L2, p, xs2, zs, rfl, rfl, s2' _ _ gL2, gp, by rw [sizeLine_eq]; omega, fun L3 h3 n3 => ⟨_, L3, xs2 ++ zs, A2 ++ partD dz, rfl, sG3.free h3, n3, upd_same, dA2.append rz, ?_, sG3.trans (same_new h3), same_new h3 _ _ (s2' _ _ gt2), same_new h3 _ _ (s2' _ _ gI2)⟩⟩
                  rw [← eA2, List.append_assoc, List.append_assoc]
                · have hk2 := Bool.eq_false_iff.mpr hk2
                  refine iteN (by rw [← hk2, kd]) (skip hk2)
              · have ht2 := Bool.eq_false_iff.mpr ht2
                refine iteN ht2 (iteF (skip ?_))
                unfold keepD
                rw [← isTup_ty, ht2]; rfl
            · obtain ⟨u4', L2, xs2, A2, rfl, hL2, nL2, gL2, dA2, eA2, sG2, gt2, gI2⟩ := pv
              have le := rI.len
              rw [le, List.drop_length, List.filter_nil, List.map_nil, List.flatten_nil, List.nil_append] at eA2
              exact ⟨_, _, _, L2, xs2, A2, rfl, hL2, nL2, gL2, dA2, eA2, sG2, gt2⟩
        · obtain ⟨u2, u3, u4, L, xs, A, rfl, hL, nL, gL, dA, eA, sG, gt⟩ := pv
          have lv := rv.len
          rw [lv, List.drop_length, List.map_nil, List.flatten_nil, List.append_nil] at eA
          rw [eA] at dA
          exact ⟨_, rfl, q L G xs sG hL nL gL dA⟩
end
end P4
end Bf

namespace Bf
open PySem PySem.Spec PyProof.Rows L2
namespace P4
mutual
/-- no list and no dict in it -/
def noLD : PyData → Bool
  | .list _ => false
  | .dict _ => false
  | .tuple ds => noLDA ds
  | .none => true
  | .bool _ => true
  | .int _ => true
  | .str _ => true
def noLDA : List PyData → Bool
  | [] => true
  | d :: r => noLD d && noLDA r
end
theorem noLD_tup {ds : List PyData} : noLD (.tuple ds) = noLDA ds := by simp only [noLD]
theorem noLDA_iff : ∀ {ds : List PyData}, noLDA ds = true ↔ ∀ d ∈ ds, noLD d = true
  | [] => ⟨(fun _ _ m => nomatch m), fun _ => by simp only [noLDA]⟩
  | d :: r => by
    have e : noLDA (d :: r) = (noLD d && noLDA r) := by simp only [noLDA]
    rw [e, Bool.and_eq_true, noLDA_iff (ds := r)]
    exact ⟨fun ⟨a, b⟩ x m => (List.mem_cons.mp m).elim (fun e => e ▸ a) (b x), fun h => ⟨h d List.mem_cons_self, fun x m => h x (List.mem_cons_of_mem _ m)⟩⟩
mutual
theorem da_sh {H : Hp} {b : Bool} : ∀ (d : PyData) (v : V), noLD d = true → Da H v d → Sh H (fun _ => True) b v d
  | .none, _, _, h => by cases h; exact .non
  | .bool _, _, _, h => by cases h; exact .bl _
  | .int _, _, _, h => by cases h; exact .int _
  | .str _, _, _, h => by cases h; exact .str _
  | .list _, _, n, _ => by simp only [noLD] at n; cases n
  | .dict _, _, n, _ => by simp only [noLD] at n; cases n
  | .tuple ds, _, n, h => by
    cases h with
    | tup h _ r => exact .tup h trivial (da_shAll ds _ (by simpa only [noLD] using n) r)
theorem da_shAll {H : Hp} {b : Bool} : ∀ (ds : List PyData) (vs : List V), noLDA ds = true → DaAll H vs ds → ShAll H (fun _ => True) b vs ds
  | [], _, _, h => by cases h; exact .nil
  | d :: ds, _, n, h => by
    cases h with
    | cons h r =>
      have n : (noLD d && noLDA ds) = true := by simpa only [noLDA] using n
      obtain ⟨a, c⟩ := Bool.and_eq_true_iff.mp n
      exact .cons (da_sh d _ a h) (da_shAll ds _ c r)
end
theorem no_int {d : PyData} {lo hi : Int} (h : wholeD d lo hi = true) : noLD d = true := by
  cases d <;> first | (simp only [noLD]; done) | cases h
theorem no_name {d : PyData} (h : nameD d = true) : noLD d = true := by
  cases d <;> first | (simp only [noLD]; done) | cases h
theorem no_node {d : PyData} (h : nodeD d = true) : noLD d = true := by
  cases d <;> first | (simp only [noLD]; done) | cases h
theorem no_every {d : PyData} (h : everyD d = true) : noLD d = true := by
  rw [every_eq] at h
  cases d <;> first | (simp only [noLD]; done) | cases h
theorem no_kind {d : PyData} (h : kindD d = true) : noLD d = true := by
  rcases kind_inv h with ⟨z, rfl, _⟩ | ⟨m, z, rfl, _⟩ <;> simp [noLD, noLDA]
theorem no_worth {d k : PyData} (hk : kindD k = true) (h : worthD d k = true) : noLD d = true := by
  rcases kind_inv hk with ⟨z, rfl, _⟩ | ⟨m, z, rfl, _⟩
  · exact no_int (lo := 0) (hi := topW z) h
  · cases d with
    | tuple ds =>
      have h : (decide ((ds.length : Int) = m) && ds.all fun e => wholeD e 0 (topW z)) = true := h
      obtain ⟨_, h⟩ := Bool.and_eq_true_iff.mp h
      rw [noLD_tup, noLDA_iff]
      exact fun e me => no_int (List.all_eq_true.mp h e me)
    | _ => cases h
theorem fm_all : ∀ p ∈ FM, ∀ s ∈ p.2, s ∈ (["kind", "worth", "name", "term", "width", "bit", "truth", "parts", "place", "node", "args", "every", "rows"] : List Str) := by decide +kernel
theorem fm_lit : ∀ p ∈ FM, ("worth" : Str) ∈ p.2 → p.1 = ("lit" : Str) := by decide +kernel
theorem no_range {lo hi : Int} {s : Str} {d : PyData} (hs : oneD s d = (match d with | .tuple ds => ds | _ => [])) (h : rangeD lo hi d = true) (n : ∀ e ∈ oneD s d, noLD e = true) : noLD d = true := by
  obtain ⟨ds, rfl⟩ := range_inv h
  rw [hs] at n
  rw [noLD_tup, noLDA_iff]
  exact n
theorem no_slot {s : Str} {d : PyData} (hs : s ∈ (["kind", "worth", "name", "term", "width", "bit", "truth", "parts", "place", "node", "args", "every", "rows"] : List Str)) (hw : s ≠ "worth") (f : fitsD s d = true) (n : ∀ e ∈ oneD s d, noLD e = true) : noLD d = true := by
  simp only [List.mem_cons, List.not_mem_nil, or_false] at hs
  rcases hs with rfl | rfl | rfl | rfl | rfl | rfl | rfl | rfl | rfl | rfl | rfl | rfl | rfl
  · exact no_kind f
  · exact absurd rfl hw
  · exact no_name f
  · exact n d (by rw [one_term]; exact List.mem_cons_self)
  · exact no_int (lo := 1) (hi := 8) f
  · exact no_int (lo := 0) (hi := 7) f
  · exact no_int (lo := 0) (hi := 1) f
  · exact no_range (lo := 2) (hi := 4) rfl f n
  · exact no_int (lo := 0) (hi := 3) f
  · exact no_node f
  · exact no_range (lo := 0) (hi := 6) rfl f n
  · exact no_every f
  · exact no_range (lo := 1) (hi := 4) rfl f n
theorem no_formed : ∀ (n : Nat) (d : PyData), sz d ≤ n → formedD d = true → (∀ e ∈ withinD d, termD e = true) → noLD d = true
  | 0, d, h, _, _ => absurd h (by have := sz_pos d; omega)
  | n + 1, d, h, f, t => by
    have ws := within_sz d
    have ih : ∀ e ∈ withinD d, noLD e = true := fun e m => by
      obtain ⟨f1, _, t1⟩ := term_inv (t e m)
      have := szA_mem m
      exact no_formed n e (by omega) f1 t1
    obtain ⟨c, rest, ss, rfl, el, hl, hf, hlit⟩ := formed_inv f
    rw [within_eq el] at ih
    have sl_ := fm_all (c, ss) (lk_mem el)
    have lit_ := fm_lit (c, ss) (lk_mem el)
    rw [noLD_tup]
    have e0 : noLDA (.str c :: rest) = noLDA rest := by simp only [noLDA, noLD, Bool.true_and]
    rw [e0]
    by_cases hc : c = "lit"
    · subst hc
      have es : ss = (["kind", "worth"] : List Str) := by
        have e2 : lk "lit" FM = some (["kind", "worth"] : List Str) := by decide +kernel
        rw [e2] at el
        exact (Option.some.inj el).symm
      subst es
      match rest, hl, hf, hlit with
      | [k, x], _, hf, hlit =>
        have hk : kindD k = true := (List.all_eq_true.mp hf) (fitsD "kind" k) List.mem_cons_self
        have hx : worthD x k = true := by
          have : (!decide (V.str "lit" = V.str "lit") || litD [k, x]) = true := hlit
          simpa [litD] using this
        rw [noLDA_iff]
        intro e m
        simp only [List.mem_cons, List.not_mem_nil, or_false] at m
        rcases m with rfl | rfl
        · exact no_kind hk
        · exact no_worth hk hx
    · have nw : ∀ s ∈ ss, s ≠ ("worth" : Str) := fun s m e => hc (lit_ (e ▸ m))
      clear hlit lit_ el f t ws h
      have key : ∀ (ss : List Str) (rest : List PyData), rest.length = ss.length → (∀ s ∈ ss, s ∈ (["kind", "worth", "name", "term", "width", "bit", "truth", "parts", "place", "node", "args", "every", "rows"] : List Str)) → (∀ s ∈ ss, s ≠ ("worth" : Str)) → (List.zipWith fitsD ss rest).all id = true → (∀ e ∈ (List.zipWith oneD ss rest).flatten, noLD e = true) → noLDA rest = true := by
        intro ss
        induction ss with
        | nil =>
          intro rest hl _ _ _ _
          rw [List.eq_nil_of_length_eq_zero hl]; simp only [noLDA]
        | cons s ss ih =>
          intro rest hl h1 h2 h3 h4
          match rest, hl with
          | d :: rest, hl =>
            rw [List.zipWith_cons_cons] at h3 h4
            rw [List.all_cons] at h3
            obtain ⟨f1, f2⟩ := Bool.and_eq_true_iff.mp h3
            have a := no_slot (h1 s List.mem_cons_self) (h2 s List.mem_cons_self) f1 fun e m => h4 e (by rw [List.flatten_cons]; exact List.mem_append.mpr (.inl m))
            have b := ih rest (Nat.succ.inj hl) (fun x m => h1 x (List.mem_cons_of_mem _ m)) (fun x m => h2 x (List.mem_cons_of_mem _ m)) f2 fun e m => h4 e (by rw [List.flatten_cons]; exact List.mem_append.mpr (.inr m))
            simp only [noLDA, a, b, Bool.and_self]
      exact key ss rest hl sl_ nw hf ih
theorem no_right {d : PyData} (h : rightD d = true) : noLD d = true := let ⟨f, t⟩ := right_inv h; no_formed _ d (Nat.le_refl _) f t
theorem no_term {d : PyData} (h : termD d = true) : noLD d = true := let ⟨f, _, t⟩ := term_inv h; no_formed _ d (Nat.le_refl _) f t
/-- all parts are terms -/
theorem part_terms : ∀ (n : Nat) (d : PyData), sz d ≤ n → termD d = true → ∀ e ∈ partD d, termD e = true
  | 0, d, h, _ => absurd h (by have := sz_pos d; omega)
  | n + 1, d, h, t => fun e m => by
    obtain ⟨_, _, tw⟩ := term_inv t
    rw [partD_eq] at m
    rcases List.mem_cons.mp m with rfl | m
    · exact t
    · obtain ⟨l, ml, me⟩ := List.mem_flatten.mp m
      obtain ⟨x, mx, rfl⟩ := List.mem_map.mp ml
      have := szA_mem mx
      have := within_sz d
      exact part_terms n x (by omega) (tw x mx) e me
theorem parts_terms {d : PyData} (h : rightD d = true) : ∀ e ∈ partsD d, termD e = true := fun e m => by
  obtain ⟨f, tw⟩ := right_inv h
  unfold partsD at m
  by_cases hc : callX d = true
  · rw [if_pos hc] at m
    obtain ⟨l, ml, me⟩ := List.mem_flatten.mp m
    obtain ⟨x, mx, rfl⟩ := List.mem_map.mp ml
    exact part_terms _ x (Nat.le_refl _) (tw x mx) e me
  · rw [if_neg hc] at m
    have t : termD d = true := by rw [← right_other (Bool.eq_false_iff.mpr hc)]; exact h
    exact part_terms _ d (Nat.le_refl _) t e m
theorem parts_len {d : PyData} : (partsD d).length ≤ sz d := by
  unfold partsD
  by_cases hc : callX d = true
  · rw [if_pos hc]
    have key : ∀ l : List PyData, ((l.map partD).flatten).length ≤ szA l := by
      intro l
      induction l with
      | nil => rw [List.map_nil, List.flatten_nil, szA_nil]; exact Nat.le_refl _
      | cons e r ih =>
        rw [szA_cons, List.map_cons, List.flatten_cons, List.length_append]
        have := partD_le _ e (Nat.le_refl _)
        omega
    have := key (withinD d)
    have := within_sz d
    omega
  · rw [if_neg hc]
    exact partD_le _ d (Nat.le_refl _)
abbrev nLSP : List Str := ["_law_side_here", "_law_terms", "_law_found", "_law_term"]
theorem scLSP : FnScope nLSP ["_law_side_here"] (defScope sLSideParts) := ⟨rfl, rfl, rfl, by decide +kernel, rfl, by decide +kernel, by decide +kernel⟩
def spLSP : Sp := fun vs H Q _ => ∃ (x : V) (d : PyData) (Hs : Hp) (k : Nat), vs = [x] ∧ Same Hs H ∧ Da Hs x d ∧ rightD d = true ∧ fit 50 k d ∧ k < 40 ∧ sz d ≤ 900000 ∧
  ∀ p H' xs, Same H H' → H p = none → p ≠ sysModules → H' p = some (.lst xs) → DaAll Hs xs (partsD d) → Q (.ref p) H'
section
variable {P : Program} {w : World} {K : PySem.W.Frag} {mg : Str → Option Value} {base : Heap}
theorem lsp_tail {f ft fp : Addr} {dt dp : FuncData} (Dp : Df K mg "_law_parts" fp dp ["_law_term"]) (Gp : FnOk P w K mg base CX0 41 fp dp ["_law_term"] (spLP 41))
    {cdv : Value} {A : Around} {outer : List Env} {s : Shared} {H0 : Hp} {E : XK} (hrp : Room 41 (A.deeper (envOfC "_law_side_parts" (defScope sLSideParts) s.heap.objs.size f cdv))) :
    ∃ t, PSs (cxOf CX0 P w K mg base nLSP "_law_side_parts" (defScope sLSideParts) f cdv A outer s H0 E).nox ((defBody sLSideParts).drop 4) t ∧ ∀ (D : Ends) (H Hs : Hp) (T : Addr) (ts : List V) (es : List PyData) (k : Nat) (u0 u2 u3 : Option V),
      Same Hs H → H T = some (.lst ts) → DaAll Hs ts es → (∀ e ∈ es, termD e = true ∧ fit 50 k e) → k < 41 → szA es ≤ 900000 →
      (∀ p H' xs, Same H H' → H p = none → p ≠ sysModules → H' p = some (.lst xs) → DaAll Hs xs (es.map partD).flatten → D.rt (.ref p) H') → t D [u0, some (.ref T), u2, u3] H := by
  refine ⟨_, (pss_cons (ps_set (i := 2) scLSP.nd rfl (Or.inl rfl) (pe_lstN pa_nil))
        (pss_cons (ps_for PassesOwn.never rfl (pi_list (pv 1)) (pg_name (i := 3) scLSP.nd rfl (Or.inl rfl)) (pss_one (ps_set (i := 2) scLSP.nd rfl (Or.inl rfl) (pe_op op_catN (pv 2) (pe_call Gp hrp (by rfl) Dp.at_ Dp.kp Dp.bd .nil pass0 (pa_cons (pv 3) pa_nil))))))
        (pss_one (ps_ret (pv 2))))), ?_⟩
  intro D H Hs T ts es k u0 u2 u3 sH gT rT tE hk hz fin
  refine seq_asg ⟨by show 0 ≤ 1000; decide, fun L0 hL0 nL0 => ?_⟩
  have s1 : Same H (upd H L0 (.lst [])) := same_new hL0
  refine ⟨_, rfl, T, rfl, ⟨ts, SqL.of (s1 _ _ gT)⟩, for_list (K := K) (a := T) (xs := ts) (fun j σ G => ∃ (u3 : Option V) (L : Addr) (xs : List V) (A : List PyData), σ = [u0, some (.ref T), some (.ref L), u3] ∧ H L = none ∧ L ≠ sysModules ∧ G L = some (.lst xs) ∧ DaAll Hs xs A ∧
      A ++ ((es.drop j).map partD).flatten = (es.map partD).flatten ∧ Same H G ∧ G T = some (.lst ts))
    ⟨_, L0, [], [], rfl, hL0, nL0, upd_same, .nil, by rw [List.drop_zero]; rfl, s1, s1 _ _ gT⟩ (fun j σ G _ pv => ?_) (fun j z σ G hz2 pv => ?_) fun σ G pv => ?_⟩
  · obtain ⟨_, _, _, _, _, _, _, _, _, _, _, g⟩ := pv
    exact SqL.of g
  · obtain ⟨u3', L2, xs2, A2, rfl, hL2, nL2, gL2, dA2, eA2, sG2, gT2⟩ := pv
    obtain ⟨dz, hdz, daz⟩ := rT.get hz2
    have mdz := List.mem_of_getElem? hdz
    have hdr2 : es.drop j = dz :: es.drop (j + 1) := by
      have lt := (List.getElem?_eq_some_iff.mp hdz).1
      rw [List.drop_eq_getElem_cons lt]
      rw [List.getElem?_eq_getElem lt] at hdz
      rw [Option.some.inj hdz]
    rw [hdr2, List.map_cons, List.flatten_cons] at eA2
    obtain ⟨tz, fz⟩ := tE dz mdz
    have szz := szA_mem mdz
    refine ⟨_, rfl, _, rfl, z, dz, Hs, k, rfl, sH.trans sG2, daz, tz, fz, hk, by omega, fun p H' zs s2' hp np gp rz => ?_⟩
    have lA := dA2.len
    have lz := rz.len
    have all : ((es.map partD).flatten).length ≤ szA es := by
      have key : ∀ l : List PyData, ((l.map partD).flatten).length ≤ szA l := by
        intro l
        induction l with
        | nil => rw [List.map_nil, List.flatten_nil, szA_nil]; exact Nat.le_refl _
        | cons e r ih =>
          rw [szA_cons, List.map_cons, List.flatten_cons, List.length_append]
          have := partD_le _ e (Nat.le_refl _)
          omega
      exact key es
    have tot : A2.length + (partD dz).length ≤ ((es.map partD).flatten).length := by
      rw [← eA2, List.length_append, List.length_append]; omega
    have sG3 := sG2.trans s2'
    refine ⟨L2, p, xs2, zs, rfl, rfl, s2' _ _ gL2, gp, by rw [sizeLine_eq]; omega, fun L3 h3 n3 => ⟨_, L3, xs2 ++ zs, A2 ++ partD dz, rfl, sG3.free h3, n3, upd_same, dA2.append rz, ?_, sG3.trans (same_new h3), same_new h3 _ _ (s2' _ _ gT2)⟩⟩
    rw [← eA2, List.append_assoc]
  · obtain ⟨u3', L2, xs2, A2, rfl, hL2, nL2, gL2, dA2, eA2, sG2, gT2⟩ := pv
    have le := rT.len
    rw [le, List.drop_length, List.map_nil, List.flatten_nil, List.append_nil] at eA2
    rw [eA2] at dA2
    exact ⟨_, rfl, fin L2 G xs2 sG2 hL2 nL2 gL2 dA2⟩
/-- a call, a map, a fold, pairs: what the law reads of it -/
inductive CallF : Str → List PyData → List PyData → Prop
  | call {n e : PyData} {es : List PyData} : CallF "call" [n, .tuple es, e] es
  | map {n e : PyData} {es : List PyData} : CallF "map" [n, .tuple es, e] es
  | fold {n s e : PyData} {es : List PyData} : CallF "fold" [n, s, .tuple es, e] (s :: es)
  | pairs {n s e : PyData} : CallF "pairs" [n, s, e] [s]
theorem are_tup {lo hi : Int} {d : PyData} (h : areD lo hi d = true) : ∃ es, d = .tuple es := by
  cases d with
  | tuple es => exact ⟨es, rfl⟩
  | _ => cases h
theorem callR_inv {lo hi : Int} {rest : List PyData} (h : callR lo hi rest = true) : ∃ n es e, rest = [n, .tuple es, e] := by
  match rest, h with
  | [n, a, e], h =>
    have h : ((nodeD n && everyD e) && areD lo hi a) = true := h
    obtain ⟨es, rfl⟩ := are_tup (Bool.and_eq_true_iff.mp h).2
    exact ⟨n, es, e, rfl⟩
theorem call_form {d : PyData} (h : rightD d = true) (t : termD d = false) : ∃ c rest, d = .tuple (.str c :: rest) ∧ CallF c rest (withinD d) ∧ partsD d = ((withinD d).map partD).flatten := by
  have cx : callX d = true := by
    cases e : callX d with
    | true => rfl
    | false => rw [right_other e, t] at h; cases h
  have ep : partsD d = ((withinD d).map partD).flatten := by unfold partsD; rw [if_pos cx]
  obtain ⟨f, _⟩ := right_inv h
  obtain ⟨c, rest, ss, rfl, el, _⟩ := formed_inv f
  refine ⟨c, rest, rfl, ?_, ep⟩
  have m := (inV_iff (ws := CL)).mp (show inV (.str c) (CL.map V.str) = true from cx)
  simp only [CL, List.mem_cons, List.not_mem_nil, or_false] at m
  rcases m with rfl | rfl | rfl | rfl
  · rw [right_call] at h
    obtain ⟨n, es, e, rfl⟩ := callR_inv h
    rw [within_eq (ss := ["node", "args", "every"]) (by decide +kernel)]
    simp only [List.zipWith, one_node, one_args, one_every]
    simp
    exact .call
  · rw [right_map] at h
    obtain ⟨n, es, e, rfl⟩ := callR_inv h
    rw [within_eq (ss := ["node", "rows", "every"]) (by decide +kernel)]
    simp only [List.zipWith, one_node, one_rows, one_every]
    simp
    exact .map
  · rw [right_fold] at h
    match rest, h with
    | [n, s, a, e], h =>
      have h : ((nodeD n && everyD e) && (termD s && areD 1 4 a)) = true := h
      obtain ⟨es, rfl⟩ := are_tup (Bool.and_eq_true_iff.mp (Bool.and_eq_true_iff.mp h).2).2
      rw [within_eq (ss := ["node", "term", "rows", "every"]) (by decide +kernel)]
      simp only [List.zipWith, one_node, one_rows, one_every, one_term]
      simp
      exact .fold
  · rw [right_pairs] at h
    match rest, h with
    | [n, s, e], h =>
      rw [within_eq (ss := ["node", "term", "every"]) (by decide +kernel)]
      simp only [List.zipWith, one_node, one_every, one_term]
      simp
      exact .pairs
/-- the dict of lists, asked by the first word -/
theorem dict4 {a : Addr} {xs : List V} {c : Str} {x2 : V} {u1 u2 u3 : Option V} {H : Hp} {Q : VK} {T0 : List V} (hc : (c = "call" ∨ c = "map") ∧ T0 = [] ∨ (c = "fold" ∨ c = "pairs") ∧ T0 = [x2]) (gx : H a = some (.tup xs)) (e0 : xs[0]? = some (.str c)) (e2 : xs[2]? = some x2)
    (q : ∀ li G, Same H G → H li = none → li ≠ sysModules → G li = some (.lst T0) → Q (.ref li) G) :
    tDGet (tDisp [(tC (.str "call"), tLstN tNil), (tC (.str "map"), tLstN tNil), (tC (.str "fold"), tLstN (tCons (tOp (rIxT K) (tVar 0) (tC (.int 2))) tNil)), (tC (.str "pairs"), tLstN (tCons (tOp (rIxT K) (tVar 0) (tC (.int 2))) tNil))])
      (tOp (rIxT K) (tVar 0) (tC (.int 0))) [some (.ref a), u1, u2, u3] H Q := by
  refine fun p0 hp0 => ?_
  have s0 : Same H (upd H p0 (.dK [])) := same_new hp0
  refine ⟨by show 0 ≤ 1000; decide, fun l1 h1 n1 => ⟨by show 0 ≤ 1000; decide, fun l2 h2 n2 => ?_⟩⟩
  have s1 := same_trans_new (o := .lst []) s0 h1
  have s2 := same_trans_new (o := .lst []) s1 h2
  refine ⟨_, rfl, a, _, ((2 : Nat) : Int), _, rfl, rfl, SqT.of (s2 _ _ gx), atI_nat e2, by show 1 ≤ 1000; decide, fun l3 h3 n3 => ?_⟩
  have s3 := same_trans_new (o := .lst [x2]) s2 h3
  refine ⟨_, rfl, a, _, ((2 : Nat) : Int), _, rfl, rfl, SqT.of (s3 _ _ gx), atI_nat e2, by show 1 ≤ 1000; decide, fun l4 h4 n4 => ?_⟩
  have s4 := same_trans_new (o := .lst [x2]) s3 h4
  have f1 := s0.free h1
  have f2 := s1.free h2
  have f3 := s2.free h3
  have f4 := s3.free h4
  have g0 := same_new (o := .lst [x2]) h4 _ _ (same_new (o := .lst [x2]) h3 _ _ (same_new (o := .lst []) h2 _ _ (same_new (o := .lst []) h1 _ _ (upd_same (H := H) (a := p0) (o := .dK [])))))
  have g1 := same_new (o := .lst [x2]) h4 _ _ (same_new (o := .lst [x2]) h3 _ _ (same_new (o := .lst []) h2 _ _ (upd_same (H := upd H p0 (.dK [])) (a := l1) (o := .lst []))))
  have g2 := same_new (o := .lst [x2]) h4 _ _ (same_new (o := .lst [x2]) h3 _ _ (upd_same (H := upd (upd H p0 (.dK [])) l1 (.lst [])) (a := l2) (o := .lst [])))
  have g3 := same_new (o := .lst [x2]) h4 _ _ (upd_same (H := upd (upd (upd H p0 (.dK [])) l1 (.lst [])) l2 (.lst [])) (a := l3) (o := .lst [x2]))
  have g4 := upd_same (H := upd (upd (upd (upd H p0 (.dK [])) l1 (.lst [])) l2 (.lst [])) l3 (.lst [x2])) (a := l4) (o := .lst [x2])
  generalize upd (upd (upd (upd (upd H p0 (.dK [])) l1 (.lst [])) l2 (.lst [])) l3 (.lst [x2])) l4 (.lst [x2]) = G at s4 g0 g1 g2 g3 g4
  clear h1 h2 h3 h4 s0 s1 s2 s3
  have ne : ∀ {l : Addr} {xs : List V}, G l = some (.lst xs) → l ≠ p0 := fun h e => by rw [e, g0] at h; cases h
  obtain ⟨li, ev, fl, nl, gl⟩ : ∃ li, valV (mergeK [] [(.inr "call", .ref l1), (.inr "map", .ref l2), (.inr "fold", .ref l3), (.inr "pairs", .ref l4)]) (.inr c) = some (.ref li) ∧ H li = none ∧ li ≠ sysModules ∧ G li = some (.lst T0) := by
    rcases hc with ⟨rfl | rfl, rfl⟩ | ⟨rfl | rfl, rfl⟩
    · exact ⟨l1, rfl, f1, n1, g1⟩
    · exact ⟨l2, rfl, f2, n2, g2⟩
    · exact ⟨l3, rfl, f3, n3, g3⟩
    · exact ⟨l4, rfl, f4, n4, g4⟩
  have s5 : Same H (upd G p0 (.dK (mergeK [] [(.inr "call", .ref l1), (.inr "map", .ref l2), (.inr "fold", .ref l3), (.inr "pairs", .ref l4)]))) := fun b o hb => by rw [upd_ne (ne_of_none hb hp0)]; exact s4 _ _ hb
  refine ⟨g0, [(.inr "call", .ref l1), (.inr "map", .ref l2), (.inr "fold", .ref l3), (.inr "pairs", .ref l4)], rfl, by show 4 ≤ 15; decide, _, rfl, a, _, ((0 : Nat) : Int), _, rfl, rfl, SqT.of (s5 _ _ gx), atI_nat e0, p0, .ref li, rfl, by rw [← ev]; exact DGet.k (k := .inr c) upd_same, ?_⟩
  exact q li _ s5 fl nl (by rw [upd_ne (ne gl)]; exact gl)
set_option maxHeartbeats 2000000 in
theorem ok_lsp {f ft fp : Addr} {fd dt dp : FuncData} (F : Fun K "_law_side_parts" "_law_side_parts" sLSideParts f fd) (Dt : Df K mg "_law_is_term" ft dt ["_law_thing"]) (Gt : FnOk P w K mg base CX0 82 ft dt ["_law_thing"] (spLT 40)) (Dp : Df K mg "_law_parts" fp dp ["_law_term"]) (Gp : FnOk P w K mg base CX0 41 fp dp ["_law_term"] (spLP 41)) (mL : mg "list" = none) :
    FnOk P w K mg base CX0 83 f fd ["_law_side_here"] spLSP := by
  refine F.ok (k := 82) scLSP (fun vs H Q E h => ?_) (fun cdv A outer s H vs Q E hr h => ?_)
  · obtain ⟨x, d, Hs, k, rfl, _⟩ := h
    rfl
  · obtain ⟨x, d, Hs, k, rfl, sH, da, rd, ft_, hk, hz, q⟩ := h
    have hrp := hr.mono (by omega : 41 ≤ 82)
    obtain ⟨tt, hTail, tail⟩ := lsp_tail (base := base) (P := P) (w := w) (f := f) (ft := ft) (dt := dt) (outer := outer) (H0 := H) (E := E) Dp Gp hrp
    refine ⟨_, (pss_cons (ps_if (pt_val (pe_call Gt hr (by rfl) Dt.at_ Dt.kp Dt.bd .nil pass0 (pa_cons (pv 0) pa_nil))) (pss_one (ps_ret (pe_call Gp hrp (by rfl) Dp.at_ Dp.kp Dp.bd .nil pass0 (pa_cons (pv 0) pa_nil)))) pss_nil)
        (pss_cons (ps_set (i := 1) scLSP.nd rfl (Or.inl rfl) (pe_dget (Nat.lt_of_le_of_lt (Nat.add_le_add_left (by decide) _) hr.units) (pe_disp (pps_cons pe_str (pe_lstN pa_nil) (pps_cons pe_str (pe_lstN pa_nil) (pps_cons pe_str (pe_lstN (pa_cons (pe_ix ix_tup (pv 0) pe_int (fun _ _ => rfl)) pa_nil)) (pps_cons pe_str (pe_lstN (pa_cons (pe_ix ix_tup (pv 0) pe_int (fun _ _ => rfl)) pa_nil)) pps_nil)))) rfl rfl (by simp) (by decide)) (pe_ix ix_tup (pv 0) pe_int (fun _ _ => rfl)) (fun _ _ => rfl)))
        (pss_cons (ps_if (pt_cmpR op_in_seq (pe_ix ix_tup (pv 0) pe_int (fun _ _ => rfl)) (pe_tup (pa_cons pe_str (pa_cons pe_str pa_nil))) (by rfl)) (pss_one (ps_set (i := 1) scLSP.nd rfl (Or.inl rfl) (pe_callTy call_listN (by rfl) mL (by decide +kernel) (pa_cons (pe_ix ix_tup (pv 0) pe_int (fun _ _ => rfl)) pa_nil)))) pss_nil)
        (pss_cons (ps_if (pt_cmpR op_eq (pe_ix ix_tup (pv 0) pe_int (fun _ _ => rfl)) pe_str (nomark _)) (pss_one (ps_set (i := 1) scLSP.nd rfl (Or.inl rfl) (pe_op op_catN (pv 1) (pe_callTy call_listN (by rfl) mL (by decide +kernel) (pa_cons (pe_ix ix_tup (pv 0) pe_int (fun _ _ => rfl)) pa_nil))))) pss_nil)
        hTail)))), ?_⟩
    refine ⟨_, rfl, x, d, k, rfl, Da.same sH d x da, ft_, hk, fun H1 s1 => ⟨_, rfl, ite2 (fun t1 => ?_) (fun t1 => ?_)⟩⟩
    · have ep : partsD d = partD d := by
        unfold partsD
        rw [if_neg (by rw [(term_inv t1).2.1]; exact Bool.false_ne_true)]
      rw [ep] at q
      exact ⟨_, rfl, x, d, Hs, k, rfl, sH.trans s1, da, t1, ft_, by omega, hz, fun p H' xs s2 hp np gp r => q p H' xs (s1.trans s2) (s1.free hp) np gp r⟩
    have t1 := Bool.eq_false_iff.mpr t1
    obtain ⟨c, rest, rfl, cf, ep⟩ := call_form rd t1
    rw [ep] at q
    have tw := (right_inv rd).2
    have szw := within_sz (.tuple (.str c :: rest))
    obtain ⟨a, xs0, rfl, ha, lx, r0⟩ := da.tup_inv
    obtain ⟨k', rfl⟩ : ∃ k', k = k' + 1 := by
      cases k with
      | zero => simp only [fit] at ft_
      | succ k' => exact ⟨k', rfl⟩
    have fr : ∀ e ∈ rest, fit 50 k' e := fun e m => (fit_tup.mp ft_).2 e (List.mem_cons_of_mem _ m)
    have fin2 : ∀ es, (.tuple es) ∈ rest → ∀ e ∈ es, fit 50 k' e := fun es m e me => by
      have f := fr _ m
      cases k' with
      | zero => simp only [fit] at f
      | succ k2 => exact fit_mono (Nat.le_refl _) e (Nat.le_succ _) ((fit_tup.mp f).2 e me)
    have gx := s1 _ _ (sH _ _ ha)
    have sH1 := sH.trans s1
    have szz : szA (withinD (.tuple (.str c :: rest))) ≤ 900000 := by omega
    have qq : ∀ {G : Hp}, Same H1 G → ∀ p H' xs, Same G H' → G p = none → p ≠ sysModules → H' p = some (.lst xs) → DaAll Hs xs ((withinD (.tuple (.str c :: rest))).map partD).flatten → Q (.ref p) H' := fun s p H' xs s' hp np gp r => q p H' xs ((s1.trans s).trans s') ((s1.trans s).free hp) np gp r
    have w0 : xs0[0]? = some (.str c) := by
      cases r0 with
      | cons h _ => cases h; rfl
    generalize withinD (.tuple (.str c :: rest)) = W at cf qq tw szz q ep szw
    obtain ⟨x2, e2⟩ : ∃ x2, xs0[2]? = some x2 := by
      have l0 := r0.len
      have l3 : 3 ≤ rest.length := by cases cf <;> simp
      rw [List.length_cons] at l0
      exact ⟨_, List.getElem?_eq_getElem (by omega)⟩
    obtain ⟨d2, ed2, da2⟩ := r0.get e2
    have memT : ∀ e ∈ W, termD e = true ∧ fit 50 k' e := fun e m => ⟨tw e m, by
      cases cf with
      | call => exact fin2 _ (by simp) e m
      | map => exact fin2 _ (by simp) e m
      | fold =>
        rcases List.mem_cons.mp m with rfl | m
        · exact fr _ (by simp)
        · exact fin2 _ (by simp) e m
      | pairs =>
        rw [List.mem_singleton.mp m]
        exact fr _ (by simp)⟩
    clear tw fin2 fr rd t1 szw ep
    -- terms = list(side[2]), where it is a call or a map
    cases cf with
    | call =>
      have ed2 : d2 = .tuple W := by simpa using ed2.symm
      subst ed2
      obtain ⟨b, ys, rfl, gb, _, rb⟩ := da2.tup_inv
      refine seq_asg (dict4 (K := K) (x2 := .ref b) (.inl ⟨.inl rfl, rfl⟩) gx w0 e2 fun li G s2 fl nl gl => ?_)
      have gx2 := s2 _ _ gx
      refine ⟨_, rfl, a, _, ((0 : Nat) : Int), _, rfl, rfl, SqT.of gx2, atI_nat w0, by show 2 ≤ sizeLine; decide, fun T1 hT1 => ⟨T1, _, rfl, .inr (SqT.of upd_same), rfl, rfl, _, rfl, iteB (by decide +kernel) ?_⟩⟩
      have s3 := same_trans_new (o := .tup [.str "call", .str "map"]) s2 hT1
      generalize upd G T1 (.tup [.str "call", .str "map"]) = G3 at s3
      refine ⟨_, rfl, a, _, ((2 : Nat) : Int), _, rfl, rfl, SqT.of (s3 _ _ gx), atI_nat e2, b, ys, rfl, .inr (SqT.of (s3 _ _ (sH1 _ _ gb))), fun L hL nL => ?_⟩
      have s4 := same_trans_new (o := .lst ys) s3 hL
      have gL : upd G3 L (.lst ys) L = some (.lst ys) := upd_same
      generalize upd G3 L (.lst ys) = G4 at s4 gL
      refine ⟨_, rfl, a, _, ((0 : Nat) : Int), _, rfl, rfl, SqT.of (s4 _ _ gx), atI_nat w0, rfl, _, rfl, iteN (by decide +kernel) ?_⟩
      exact tail _ G4 Hs L ys W k' _ _ _ (sH1.trans s4) gL rb memT (by omega) szz (qq s4)
    | map =>
      have ed2 : d2 = .tuple W := by simpa using ed2.symm
      subst ed2
      obtain ⟨b, ys, rfl, gb, _, rb⟩ := da2.tup_inv
      refine seq_asg (dict4 (K := K) (x2 := .ref b) (.inl ⟨.inr rfl, rfl⟩) gx w0 e2 fun li G s2 fl nl gl => ?_)
      have gx2 := s2 _ _ gx
      refine ⟨_, rfl, a, _, ((0 : Nat) : Int), _, rfl, rfl, SqT.of gx2, atI_nat w0, by show 2 ≤ sizeLine; decide, fun T1 hT1 => ⟨T1, _, rfl, .inr (SqT.of upd_same), rfl, rfl, _, rfl, iteB (by decide +kernel) ?_⟩⟩
      have s3 := same_trans_new (o := .tup [.str "call", .str "map"]) s2 hT1
      generalize upd G T1 (.tup [.str "call", .str "map"]) = G3 at s3
      refine ⟨_, rfl, a, _, ((2 : Nat) : Int), _, rfl, rfl, SqT.of (s3 _ _ gx), atI_nat e2, b, ys, rfl, .inr (SqT.of (s3 _ _ (sH1 _ _ gb))), fun L hL nL => ?_⟩
      have s4 := same_trans_new (o := .lst ys) s3 hL
      have gL : upd G3 L (.lst ys) L = some (.lst ys) := upd_same
      generalize upd G3 L (.lst ys) = G4 at s4 gL
      refine ⟨_, rfl, a, _, ((0 : Nat) : Int), _, rfl, rfl, SqT.of (s4 _ _ gx), atI_nat w0, rfl, _, rfl, iteN (by decide +kernel) ?_⟩
      exact tail _ G4 Hs L ys W k' _ _ _ (sH1.trans s4) gL rb memT (by omega) szz (qq s4)
    | @fold n s_ e es =>
      have ed2 : d2 = s_ := by simpa using ed2.symm
      subst ed2
      obtain ⟨x3, e3, da3⟩ := r0.getD (i := 3) (d := .tuple es) rfl
      obtain ⟨b, ys, rfl, gb, _, rb⟩ := da3.tup_inv
      have lb := rb.len
      refine seq_asg (dict4 (K := K) (x2 := x2) (.inr ⟨.inl rfl, rfl⟩) gx w0 e2 fun li G s2 fl nl gl => ?_)
      have gx2 := s2 _ _ gx
      refine ⟨_, rfl, a, _, ((0 : Nat) : Int), _, rfl, rfl, SqT.of gx2, atI_nat w0, by show 2 ≤ sizeLine; decide, fun T1 hT1 => ⟨T1, _, rfl, .inr (SqT.of upd_same), rfl, rfl, _, rfl, iteN (by decide +kernel) ?_⟩⟩
      have s3 := same_trans_new (o := .tup [.str "call", .str "map"]) s2 hT1
      have gl3 := same_new (o := .tup [.str "call", .str "map"]) hT1 _ _ gl
      generalize upd G T1 (.tup [.str "call", .str "map"]) = G3 at s3 gl3
      refine ⟨_, rfl, a, _, ((0 : Nat) : Int), _, rfl, rfl, SqT.of (s3 _ _ gx), atI_nat w0, rfl, _, rfl, iteB (by decide +kernel) ?_⟩
      refine ⟨_, rfl, _, rfl, a, _, ((3 : Nat) : Int), _, rfl, rfl, SqT.of (s3 _ _ gx), atI_nat e3, b, ys, rfl, .inr (SqT.of (s3 _ _ (sH1 _ _ gb))), fun L hL nL => ⟨li, L, [x2], ys, rfl, rfl, same_new hL _ _ gl3, upd_same, ?_, fun L2 hL2 nL2 => ?_⟩⟩
      · have z1 := szA_len (d2 :: es)
        rw [List.length_cons] at z1
        rw [sizeLine_eq, List.length_singleton]; omega
      have s4 := same_trans_new (o := .lst ([x2] ++ ys)) (same_trans_new (o := .lst ys) s3 hL) hL2
      have gL : upd (upd G3 L (.lst ys)) L2 (.lst ([x2] ++ ys)) L2 = some (.lst ([x2] ++ ys)) := upd_same
      generalize upd (upd G3 L (.lst ys)) L2 (.lst ([x2] ++ ys)) = G4 at s4 gL
      exact tail _ G4 Hs L2 _ (d2 :: es) k' _ _ _ (sH1.trans s4) gL (.cons da2 rb) memT (by omega) szz (qq s4)
    | @pairs n s_ e =>
      have ed2 : d2 = s_ := by simpa using ed2.symm
      subst ed2
      refine seq_asg (dict4 (K := K) (x2 := x2) (.inr ⟨.inr rfl, rfl⟩) gx w0 e2 fun li G s2 fl nl gl => ?_)
      have gx2 := s2 _ _ gx
      refine ⟨_, rfl, a, _, ((0 : Nat) : Int), _, rfl, rfl, SqT.of gx2, atI_nat w0, by show 2 ≤ sizeLine; decide, fun T1 hT1 => ⟨T1, _, rfl, .inr (SqT.of upd_same), rfl, rfl, _, rfl, iteN (by decide +kernel) ?_⟩⟩
      have s3 := same_trans_new (o := .tup [.str "call", .str "map"]) s2 hT1
      have gl3 := same_new (o := .tup [.str "call", .str "map"]) hT1 _ _ gl
      generalize upd G T1 (.tup [.str "call", .str "map"]) = G3 at s3 gl3
      refine ⟨_, rfl, a, _, ((0 : Nat) : Int), _, rfl, rfl, SqT.of (s3 _ _ gx), atI_nat w0, rfl, _, rfl, iteN (by decide +kernel) ?_⟩
      exact tail _ G3 Hs li _ [d2] k' _ _ _ (sH1.trans s3) gl3 (.cons da2 .nil) memT (by omega) szz (qq s3)
end
end P4
end Bf

namespace Bf
open PySem PySem.Spec PyProof.Rows L2
namespace P4
section
variable {P : Program} {w : World} {K : PySem.W.Frag} {mg : Str → Option Value} {base : Heap}
def spAskedL : Sp := fun vs H Q _ => ∃ (way : Int) (x : V) (d : PyData) (Hs : Hp), vs = [.int way, x] ∧ Same Hs H ∧ Da Hs x d ∧ sz d ≤ 900000 ∧
  ((rightD d = false ∧ ∀ p H', Same H H' → H p = none → H' p = some (.lst [.str "term", x]) → p ≠ sysModules → Q (.ref p) H') ∨
   (rightD d = true ∧ way = 0 ∧ ∀ p l xs H', Same H H' → H p = none → H l = none → l ≠ p → H' p = some (.lst [.str "told", .ref l]) → H' l = some (.lst xs) → DaAll Hs xs (partsD d) → Q (.ref p) H') ∨
   (rightD d = true ∧ way = 1 ∧ ∀ p H', Same H H' → H p = none → H' p = some (.lst [.str "told", .int (sizeD d)]) → Q (.ref p) H'))
theorem scAskedL : FnScope ["_law_way", "_law_thing", "e"] ["_law_way", "_law_thing"] (defScope sAsked) := ⟨rfl, rfl, rfl, by decide +kernel, rfl, by decide +kernel, by decide +kernel⟩
theorem ok_askedL {f cT fT fp fs : Addr} {fd fdT fdp fds : FuncData} (F : Fun K "_law_asked" "_law_asked" sAsked f fd) (TT : ExT K mg "NoTerm" cT fT fdT) (X : PySem.W.exmOne K (.ref cT) (.ref cT) = some true)
    (Dp : Df K mg "parts_of" fp fdp ["right"]) (Gp : FnOk P w K mg base (CXL P w) 10 fp fdp ["right"] (spPartsOf cT))
    (Ds : Df K mg "size_of" fs fds ["right"]) (Gs : FnOk P w K mg base (CXL P w) 10 fs fds ["right"] (spSizeOf cT)) : FnOk P w K mg base CX0 11 f fd ["_law_way", "_law_thing"] spAskedL := by
  refine F.ok scAskedL (fun vs H Q E h => ?_) (fun cdv A outer s H vs Q E hr h => ?_)
  · obtain ⟨way, x, d, Hs, rfl, _⟩ := h
    rfl
  · obtain ⟨way, x, d, Hs, rfl, sH, da, hz, q⟩ := h
    refine ⟨_, pss_one (ps_arms rfl rfl scAskedL.nd
      (fun W pn xe tk _ => pss_one (ps_ret (pe_lstN (pa_cons pe_str (pa_cons (pe_ifExp (pt_cmpR op_eq (pv 0) pe_int (nomark _))
        (pe_callS Gp hr (by rfl) Dp.at_ Dp.kp Dp.bd (fun σ => L2.passAt tk σ) (pa_cons (pv 1) pa_nil))
        (pe_callS Gs hr (by rfl) Ds.at_ Ds.kp Ds.bd (fun σ => L2.passAt tk σ) (pa_cons (pv 1) pa_nil))) pa_nil)))))
      (Arms.cons (c := .ref cT) (i := 2) ⟨by rfl, by decide, .inl TT.gC⟩ rfl rfl (fun a oe cls d pn hz hf => pss_one (ps_ret (pe_lstN (pa_cons pe_str (pa_cons (pe_xf TT.xf TT.nf hz hf (pv 2)) pa_nil))))) Arms.nil)), ?_⟩
    refine ⟨_, rfl, rfl, _, rfl, ?_⟩
    have daH := Da.same sH _ _ da
    rcases q with ⟨e, q⟩ | ⟨e, rfl, q⟩ | ⟨e, rfl, q⟩
    · refine ite2 (fun _ => ?_) (fun _ => ?_)
      · exact ⟨_, rfl, x, d, Hs, rfl, sH, da, hz, .inl ⟨e, fun d' H' s' hd hx => ⟨true, X, fun _ a ha => ⟨_, rfl, rfl, rfl, d', _, _, rfl, hx, rfl, by show 2 ≤ 1000; decide, fun p hp np => q p _ (same_trans_new s' hp) (s'.free hp) upd_same np⟩, fun z => nomatch z⟩⟩⟩
      · exact ⟨_, rfl, x, d, rfl, daH, hz, .inl ⟨e, fun d' H' s' hd hx => ⟨true, X, fun _ a ha => ⟨_, rfl, rfl, rfl, d', _, _, rfl, hx, rfl, by show 2 ≤ 1000; decide, fun p hp np => q p _ (same_trans_new s' hp) (s'.free hp) upd_same np⟩, fun z => nomatch z⟩⟩⟩
    · refine iteT ⟨_, rfl, x, d, Hs, rfl, sH, da, hz, .inr ⟨e, fun l H' xs s1 hl gl r => ?_⟩⟩
      refine ⟨by show 2 ≤ 1000; decide, fun p hp np => ?_⟩
      refine q p l xs _ (same_trans_new s1 hp) (s1.free hp) hl (ne_of_none gl hp) upd_same ?_ r
      rw [upd_ne (ne_of_none gl hp)]
      exact gl
    · refine iteF ⟨_, rfl, x, d, rfl, daH, hz, .inr ⟨e, fun H' s1 => ?_⟩⟩
      exact ⟨by show 2 ≤ 1000; decide, fun p hp np => q p _ (same_trans_new s1 hp) (s1.free hp) upd_same⟩
end
end P4
end Bf

namespace Bf
open PySem PySem.Spec PyProof.Rows L2
namespace P4
theorem one_sl (s : Str) (d : PyData) : slA (oneD s d) ≤ sl d + 2 := by
  unfold oneD
  split
  · rw [slA_cons, slA_nil]; omega
  · split
    · split
      · rw [sl_tup]; omega
      · rw [slA_nil]; omega
    · rw [slA_nil]; omega
theorem ones_sl : ∀ (ss : List Str) (ds : List PyData), slA (List.zipWith oneD ss ds).flatten ≤ slA ds
  | [], ds => by rw [List.zipWith_nil_left, List.flatten_nil, slA_nil]; omega
  | _ :: _, [] => by rw [List.zipWith_nil_right, List.flatten_nil, slA_nil]; omega
  | s :: ss, d :: ds => by
    rw [List.zipWith_cons_cons, List.flatten_cons, slA_app, slA_cons]
    have := one_sl s d
    have := ones_sl ss ds
    omega
theorem within_sl (d : PyData) : slA (withinD d) ≤ sl d := by
  unfold withinD
  split
  · rename_i c rest
    rw [sl_tup, slA_cons]
    split
    · rename_i ss _
      have := ones_sl ss rest
      omega
    · rw [slA_nil]; omega
  · rw [slA_nil]; omega
theorem one_fit {w k : Nat} {s : Str} {d e : PyData} (f : fit w k d) (m : e ∈ oneD s d) : fit w k e := by
  unfold oneD at m
  split at m
  · rw [List.mem_singleton.mp m]; exact f
  · split at m
    · split at m
      · cases k with
        | zero => simp only [fit] at f
        | succ k => exact fit_mono (Nat.le_refl _) e (Nat.le_succ _) ((fit_tup.mp f).2 e m)
      · cases m
    · cases m
theorem ones_fit {w k : Nat} {e : PyData} : ∀ (ss : List Str) (ds : List PyData), (∀ d ∈ ds, fit w k d) → e ∈ (List.zipWith oneD ss ds).flatten → fit w k e
  | [], ds, _, m => by rw [List.zipWith_nil_left, List.flatten_nil] at m; cases m
  | _ :: _, [], _, m => by rw [List.zipWith_nil_right, List.flatten_nil] at m; cases m
  | s :: ss, d :: ds, h, m => by
    rw [List.zipWith_cons_cons, List.flatten_cons] at m
    rcases List.mem_append.mp m with m | m
    · exact one_fit (h d List.mem_cons_self) m
    · exact ones_fit ss ds (fun x y => h x (List.mem_cons_of_mem _ y)) m
theorem within_fit {w k : Nat} {d e : PyData} (f : fit w k d) (m : e ∈ withinD d) : ∃ k', k = k' + 1 ∧ fit w k' e := by
  unfold withinD at m
  split at m
  · rename_i c rest
    cases k with
    | zero => simp only [fit] at f
    | succ k =>
      refine ⟨k, rfl, ?_⟩
      split at m
      · rename_i ss _
        exact ones_fit ss rest (fun x y => (fit_tup.mp f).2 x (List.mem_cons_of_mem _ y)) m
      · cases m
  · cases m
theorem parts_sum {w k N : Nat} (ih : ∀ e, fit w k e → slA (partD e) ≤ N * (sl e + 2)) : ∀ {l : List PyData}, (∀ e ∈ l, fit w k e) → slA (l.map partD).flatten ≤ N * slA l
  | [], _ => by rw [List.map_nil, List.flatten_nil, slA_nil]; omega
  | d :: l, h => by
    have h1 := ih d (h d List.mem_cons_self)
    have h2 := parts_sum ih (l := l) fun e m => h e (List.mem_cons_of_mem _ m)
    rw [List.map_cons, List.flatten_cons, slA_app, slA_cons, Nat.mul_add]
    omega
theorem part_sl {w : Nat} : ∀ (k : Nat) (d : PyData), fit w k d → slA (partD d) ≤ (k + 1) * (sl d + 2)
  | 0, d, f => by
    have e : withinD d = [] := by
      cases z : withinD d with
      | nil => rfl
      | cons x r =>
        obtain ⟨_, h, _⟩ := within_fit (e := x) f (by rw [z]; exact List.mem_cons_self)
        cases h
    rw [partD_eq, e, List.map_nil, List.flatten_nil, slA_cons, slA_nil]
    omega
  | k + 1, d, f => by
    have h := parts_sum (w := w) (k := k) (N := k + 1) (fun e fe => part_sl k e fe) (l := withinD d) fun e m => by
      obtain ⟨k', e', fe⟩ := within_fit f m
      cases e'
      exact fe
    have ws := within_sl d
    have h2 : (k + 1) * slA (withinD d) ≤ (k + 1) * sl d := Nat.mul_le_mul_left _ ws
    rw [partD_eq, slA_cons]
    have e1 : (k + 1 + 1) * (sl d + 2) = (k + 1) * sl d + (k + 1) * 2 + (sl d + 2) := by rw [Nat.succ_mul, Nat.mul_add]
    rw [e1]
    omega
theorem part_fit {w : Nat} : ∀ (k : Nat) (d : PyData), fit w k d → ∀ e ∈ partD d, fit w k e
  | k, d, f, e, m => by
    rw [partD_eq] at m
    rcases List.mem_cons.mp m with rfl | m
    · exact f
    · obtain ⟨l, ml, me⟩ := List.mem_flatten.mp m
      obtain ⟨x, mx, rfl⟩ := List.mem_map.mp ml
      obtain ⟨k', rfl, fx⟩ := within_fit f mx
      exact fit_mono (Nat.le_refl _) e (Nat.le_succ _) (part_fit k' x fx e me)
theorem parts_sl {w k : Nat} {d : PyData} (f : fit w k d) : slA (partsD d) ≤ (k + 1) * (sl d + 2) ∧ ∀ e ∈ partsD d, fit w k e := by
  unfold partsD
  split
  · cases k with
    | zero =>
      have e : withinD d = [] := by
        cases z : withinD d with
        | nil => rfl
        | cons x r =>
          obtain ⟨_, h, _⟩ := within_fit (e := x) f (by rw [z]; exact List.mem_cons_self)
          cases h
      rw [e]
      exact ⟨by rw [List.map_nil, List.flatten_nil, slA_nil]; omega, fun _ m => by cases m⟩
    | succ k =>
      refine ⟨?_, fun e m => ?_⟩
      · have h := parts_sum (w := w) (k := k) (N := k + 1) (fun e fe => part_sl k e fe) (l := withinD d) fun e m => by
          obtain ⟨k', e', fe⟩ := within_fit f m
          cases e'
          exact fe
        have ws := within_sl d
        have h2 : (k + 1) * slA (withinD d) ≤ (k + 1) * sl d := Nat.mul_le_mul_left _ ws
        have e1 : (k + 1 + 1) * (sl d + 2) = (k + 1) * sl d + (k + 1) * 2 + (sl d + 2) := by rw [Nat.succ_mul, Nat.mul_add]
        omega
      · obtain ⟨l, ml, me⟩ := List.mem_flatten.mp m
        obtain ⟨x, mx, rfl⟩ := List.mem_map.mp ml
        obtain ⟨k', e', fx⟩ := within_fit f mx
        cases e'
        exact fit_mono (Nat.le_refl _) e (Nat.le_succ _) (part_fit _ x fx e me)
  · exact ⟨part_sl k d f, part_fit k d f⟩
/-- data that stand in a list of any length, as repr wants them -/
theorem list_shows {w k : Nat} {ds : List PyData} (h : ∀ d ∈ ds, fit w k d) : (PyData.list ds).showable = true ∧ (PyData.list ds).depth ≤ k + 1 ∧ (PyData.list ds).shown.length ≤ slA ds + 3 := by
  have f : fit (max w ds.length) (k + 1) (.list ds) := fit_lst.mpr ⟨Nat.le_max_right _ _, fun d m => fit_mono (Nat.le_max_left _ _) d (Nat.le_refl _) (h d m)⟩
  obtain ⟨a, b, c⟩ := fit_shows _ f
  exact ⟨a, b, by rw [sl_lst] at c; exact c⟩
theorem fit_len {w k n : Nat} {ds : List PyData} (h : ∀ d ∈ ds, fit w k d) (hw : w ≤ n) (hn : ds.length ≤ n) : fit n (k + 1) (.list ds) := fit_lst.mpr ⟨hn, fun d m => fit_mono hw d (Nat.le_refl _) (h d m)⟩
end P4
end Bf

namespace Bf
open PySem PySem.Spec PyProof.Rows L2
namespace P4
abbrev nLRight : List Str := ["_law_thing", "_law_kept", "_law_found", "_law_side_here", "_law_both", "_law_due", "_law_many", "_law_way"]
theorem scLRight : FnScope nLRight ["_law_thing"] (defScope sRight) := ⟨rfl, rfl, rfl, by decide +kernel, rfl, by decide +kernel, by decide +kernel⟩
structure Rts (P : Program) (w : World) (K : PySem.W.Frag) (mg : Str → Option Value) (base : Heap) (fit_ fir fls flt fas fsp : Addr) (dit dir dls dlt das dsp : FuncData) : Prop where
  Dit : Df K mg "is_term" fit_ dit ["thing"]
  Git : FnOk P w K mg base CX0 8 fit_ dit ["thing"] spIsTerm
  Dir : Df K mg "is_right" fir dir ["thing"]
  Gir : FnOk P w K mg base CX0 8 fir dir ["thing"] spIsRight
  Dls : Df K mg "_law_is_side" fls dls ["_law_thing"]
  Gls : FnOk P w K mg base CX0 84 fls dls ["_law_thing"] spLS
  Dlt : Df K mg "_law_is_term" flt dlt ["_law_thing"]
  Glt : FnOk P w K mg base CX0 82 flt dlt ["_law_thing"] (spLT 40)
  Das : Df K mg "_law_asked" fas das ["_law_way", "_law_thing"]
  Gas : FnOk P w K mg base CX0 11 fas das ["_law_way", "_law_thing"] spAskedL
  Dsp : Df K mg "_law_side_parts" fsp dsp ["_law_side_here"]
  Gsp : FnOk P w K mg base CX0 83 fsp dsp ["_law_side_here"] spLSP
  mi : mg "isinstance" = none
  mL : mg "list" = none
  ml : mg "len" = none
  mI : mg "int" = none
  mp : mg "repr" = none
/-- all is kept but a list that is the thing -/
def Keeps (x : V) (H G : Hp) : Prop := ∀ a o, H a = some o → (∀ xs, x = .ref a → o ≠ .lst xs) → G a = some o
theorem keeps_same {x : V} {H G : Hp} (s : Same H G) : Keeps x H G := fun a o h _ => s a o h
theorem term_sl : sl (.str "term") = 43 ∧ strOk "term" = true := by decide +kernel
theorem told_sl : sl (.str "told") = 43 ∧ strOk "told" = true := by decide +kernel
/-- the answer ['term', thing], twice -/
abbrev dTerm (d : PyData) : PyData := .list [.str "term", d]
theorem dterm_shows {d : PyData} {k : Nat} (f : fit 60 k d) (hk : k ≤ 50) (hl : sl d ≤ 400000) : (PyData.list [dTerm d, dTerm d]).showable = true ∧ (PyData.list [dTerm d, dTerm d]).depth ≤ 60 ∧ (PyData.list [dTerm d, dTerm d]).shown.length ≤ sizeLine := by
  have f1 : fit 60 (k + 1) (dTerm d) := fit_lst.mpr ⟨by show 2 ≤ 60; decide, fun e m => by
    simp only [List.mem_cons, List.not_mem_nil, or_false] at m
    rcases m with rfl | rfl
    · exact fit_str.mpr term_sl.2
    · exact f⟩
  obtain ⟨a, b, c⟩ := list_shows (w := 60) (k := k + 1) (ds := [dTerm d, dTerm d]) fun e m => by
    simp only [List.mem_cons, List.not_mem_nil, or_false] at m
    rcases m with rfl | rfl <;> exact f1
  refine ⟨a, by omega, Nat.le_trans c ?_⟩
  rw [slA_cons, slA_cons, slA_nil, sl_lst, slA_cons, slA_cons, slA_nil, term_sl.1, sizeLine_eq]
  omega
section
variable {P : Program} {w : World} {K : PySem.W.Frag} {mg : Str → Option Value} {base : Heap} {fit_ fir fls flt fas fsp : Addr} {dit dir dls dlt das dsp : FuncData}
set_option maxHeartbeats 2000000 in
theorem right_not (R : Rts P w K mg base fit_ fir fls flt fas fsp dit dir dls dlt das dsp)
    {f : Addr} {cdv : Value} {A : Around} {outer : List Env} {s : Shared} {H0 : Hp} {E : XK} (hA' : (A.deeper (envOfC "_law_right" (defScope sRight) s.heap.objs.size f cdv)).guards = some []) (hr : Room 84 (A.deeper (envOfC "_law_right" (defScope sRight) s.heap.objs.size f cdv))) :
    ∃ t, PSs (cxOf CX0 P w K mg base nLRight "_law_right" (defScope sRight) f cdv A outer s H0 E) (match (defBody sRight).getD 4 (.Pass ⟨0, 0, 0, 0⟩) with | .If _ b _ _ => b | _ => []) t ∧ ∀ (D : Ends) (H : Hp) (x : V) (d : PyData) (P0 : Addr → Prop) (k : Nat) (u1 u2 u3 u4 u5 u6 u7 : Option V),
      Sh H P0 true x d → Lok P0 H x d → fit 50 k d → k ≤ 30 → sl d ≤ 330000 → rightD d = false → (∀ G, Keeps x H G → D.rt (.bl true) G) → t D [some x, u1, u2, u3, u4, u5, u6, u7] H := by
  have hr10 := hr.mono (by decide : 11 ≤ 84)
  refine ⟨_, (pss_cons (ps_setLc (i := 4) (own := [("_law_way", 7)]) (g := gName 7) (tt := tYes) (by rfl) scLRight.nd rfl rfl (sw_true rfl rfl rfl (by decide +kernel)) (pi_tup (pe_tup (pa_cons pe_int (pa_cons pe_int pa_nil)))) (blkOk_by (N := nLRight) (sc := defScope sRight) (by decide +kernel)) (fun _ _ _ _ _ => pg_name (i := 7) scLRight.nd rfl (Or.inl rfl)) (fun _ _ _ _ _ => pts_nil) (fun _ _ _ _ _ => (pe_call R.Gas hr10 (by rfl) R.Das.at_ R.Das.kp R.Das.bd .nil pass0 (pa_cons (pv 7) (pa_cons (pv 0) pa_nil)))))
        (pss_cons (ps_if (pt_cmpR op_ne (pe_callB (call_reprL hA' hr.units) (by rfl) R.mp (by decide +kernel) (pa_cons (pv 4) pa_nil)) (pe_callB (call_repr hA' hr.units) (by rfl) R.mp (by decide +kernel) (pa_cons (pe_op op_repN (pe_lstN (pa_cons (pe_lstN (pa_cons pe_str (pa_cons (pv 0) pa_nil))) pa_nil)) pe_int) pa_nil)) (nomark _)) (pss_one (ps_ret pe_bl)) pss_nil)
        (pss_cons (ps_if (pt_val (pe_callB call_isi (by rfl) R.mi (by decide +kernel) (pa_cons (pv 0) (pa_cons (pe_bltn (v := .ty "list") (by rfl) R.mL (by decide +kernel) rfl) pa_nil)))) (pss_one (ps_expr (pe_bm PySem.F.plainAttrs_list PySem.F.slot_list_append PySem.F.type_list_append mt_append (pv 0) (pa_cons pe_int pa_nil)))) pss_nil)
        (pss_one (ps_ret (pe_cmpR op_eq (pe_callB (call_reprL hA' hr.units) (by rfl) R.mp (by decide +kernel) (pa_cons (pv 4) pa_nil)) (pe_callB (call_repr hA' hr.units) (by rfl) R.mp (by decide +kernel) (pa_cons (pe_op op_repN (pe_lstN (pa_cons (pe_lstN (pa_cons pe_str (pa_cons (pv 0) pa_nil))) pa_nil)) pe_int) pa_nil)) (nomark _))))))), ?_⟩
  intro D H x d P0 k u1 u2 u3 u4 u5 u6 u7 sh lo ft hk hl nr q
  have shT := Sh.on (P' := fun _ => True) (fun _ _ _ _ => trivial) (fun _ _ _ e => e) d x sh
  have da := sh_da (by decide) d x ft sh
  have hz : sz d ≤ 900000 := by have := sz_sl d; omega
  refine seq_asg ⟨by show 2 ≤ sizeLine; decide, fun t ht => ⟨t, rfl, ⟨_, SqT.of upd_same⟩, fun L hL => lc_tup (K := K) (a := t) (xs := [.int 0, .int 1]) (fun i G => Same H G ∧ G t = some (.tup [.int 0, .int 1]) ∧ ∃ ps : List Addr, ps.length = i ∧ G L = some (.lst (ps.map V.ref)) ∧ ∀ p ∈ ps, G p = some (.lst [.str "term", x]) ∧ p ≠ sysModules ∧ H p = none)
    ⟨(same_new ht).trans (same_new hL), by rw [upd_ne (fun e => by rw [← e, upd_same] at hL; cases hL), upd_same], [], rfl, upd_same, fun _ m => nomatch m⟩ (fun i G _ pv => SqT.of pv.2.1) (fun i y G hy pv => ?_) fun G pv => ?_⟩⟩
  · obtain ⟨z, rfl⟩ : ∃ z, y = V.int z := by
      match i, hy with
      | 0, hy => cases hy; exact ⟨_, rfl⟩
      | 1, hy => cases hy; exact ⟨_, rfl⟩
      | i + 2, hy => simp at hy
    obtain ⟨sG, gt, ps, lp, gL, gp⟩ := pv
    refine ⟨rfl, ?_⟩
    show tCall spAskedL [] _ (tCons (tVar 7) (tCons (tVar 0) tNil)) _ _ _
    refine ⟨_, rfl, _, rfl, z, x, d, H, rfl, sG, da, hz, .inl ⟨nr, fun p G' s' hp gp' np => ?_⟩⟩
    have hLH := (same_new (o := .tup [.int 0, .int 1]) ht).free hL
    have ln : ps.length < 2 := by
      have := (List.getElem?_eq_some_iff.mp hy).1
      rw [lp]
      exact this
    refine ⟨_, s' _ _ gL, by rw [List.length_map, sizeLine_eq]; omega, fun b o e => ?_, ?_, ps ++ [p], by rw [List.length_append, lp]; rfl, by rw [upd_same, List.map_append]; rfl, fun p' m => ?_⟩
    · rw [upd_ne (ne_of_none e hLH)]
      exact s' _ _ (sG _ _ e)
    · rw [upd_ne (fun e => by rw [← e, gt] at gL; cases gL)]
      exact s' _ _ gt
    · have hpL : ∀ {p' : Addr}, G' p' = some (.lst [.str "term", x]) → p' ≠ L := fun h e => by
        rw [e, s' _ _ gL] at h
        have h := HO.lst.inj (Option.some.inj h)
        match ps, h with
        | [], h => cases h
        | _ :: _, h => cases h
      rcases List.mem_append.mp m with m | m
      · obtain ⟨g1, g2, g3⟩ := gp p' m
        exact ⟨by rw [upd_ne (hpL (s' _ _ g1))]; exact s' _ _ g1, g2, g3⟩
      · rw [List.mem_singleton.mp m]
        exact ⟨by rw [upd_ne (hpL gp')]; exact gp', np, sG.free hp⟩
  · obtain ⟨sG, gt, ps, lp, gL, gp⟩ := pv
    match ps, lp with
    | [p1, p2], _ =>
    obtain ⟨g1, n1, f1⟩ := gp p1 (by simp)
    obtain ⟨g2, n2, f2⟩ := gp p2 (by simp)
    have hLH : H L = none := (same_new (o := .tup [.int 0, .int 1]) ht).free hL
    -- how two equal answers are shown
    have two : ∀ {G : Hp} {d' : PyData}, Sh G (fun _ => True) true x d' → G p1 = some (.lst [.str "term", x]) → G p2 = some (.lst [.str "term", x]) → ShAll G (fun _ => True) true [.ref p1, .ref p2] [dTerm d', dTerm d'] := fun sh' h1 h2 =>
      .cons (.lst h1 trivial (fun _ => n1) (.cons (.str _) (.cons sh' .nil))) (.cons (.lst h2 trivial (fun _ => n2) (.cons (.str _) (.cons sh' .nil))) .nil)
    have rep : ∀ {G : Hp} {d' : PyData} {A B C : Addr}, Sh G (fun _ => True) true x d' → G A = none → A ≠ sysModules → upd G A (.lst [.str "term", x]) B = none → upd (upd G A (.lst [.str "term", x])) B (.lst [.ref A]) C = none → C ≠ sysModules →
        Same G (upd (upd (upd G A (.lst [.str "term", x])) B (.lst [.ref A])) C (.lst [.ref A, .ref A])) ∧ Sh (upd (upd (upd G A (.lst [.str "term", x])) B (.lst [.ref A])) C (.lst [.ref A, .ref A])) (fun _ => True) true (.ref C) (.list [dTerm d', dTerm d']) := fun {G d' A B C} sh' hA nA hB hC nC => by
      have sA := same_new (o := .lst [.str "term", x]) hA
      have sB := same_new (o := .lst [.ref A]) hB
      have sC := same_new (o := .lst [.ref A, .ref A]) hC
      have gA := sC _ _ (sB _ _ (upd_same (H := G) (a := A) (o := .lst [.str "term", x])))
      have sh3 := sh_same ((sA.trans sB).trans sC) sh'
      have a1 := Sh.lst (P := fun _ => True) (b := true) gA trivial (fun _ => nA) (.cons (.str "term") (.cons sh3 .nil))
      exact ⟨(sA.trans sB).trans sC, .lst upd_same trivial (fun _ => nC) (.cons a1 (.cons a1 .nil))⟩
    obtain ⟨sw, dp, szl⟩ := dterm_shows (fit_mono (by decide) d (Nat.le_refl _) ft) (by omega) (by omega)
    have shG := sh_same sG shT
    refine ⟨_, rfl, L, _, fun _ => True, true, _, rfl, gL, two shG g1 g2, sw, dp, szl, ?_⟩
    refine ⟨_, rfl, by show 2 ≤ 1000; decide, fun A hA nA => ⟨by show 1 ≤ 1000; decide, fun B hB nB => ⟨B, 2, [.ref A], rfl, rfl, upd_same, by decide, by decide, by show 1 * 2 ≤ sizeLine; decide, fun C hC nC => ?_⟩⟩⟩
    obtain ⟨s3, sh3⟩ := rep shG hA nA hB hC nC
    have eR : (List.replicate (Int.toNat 2) [V.ref A]).flatten = [.ref A, .ref A] := rfl
    rw [eR]
    refine ⟨.ref C, fun _ => True, true, _, rfl, sh3, sw, dp, szl, rfl, _, rfl, iteNS rfl ?_⟩
    have s03 := sG.trans s3
    have g13 := s3 _ _ g1
    have g23 := s3 _ _ g2
    have gL3 := s3 _ _ gL
    clear sh3
    generalize upd (upd (upd G A (.lst [.str "term", x])) B (.lst [.ref A])) C (.lst [.ref A, .ref A]) = G3 at s3 s03 g13 g23 gL3
    clear s3 hA hB hC nA nC shG gL g1 g2 sG gt gp
    refine ⟨_, rfl, x, .ty "list", _, _, _, rfl, .ty "list", (Da.same s03 _ _ da).kn.ty, kit_ty (kit_list d), _, rfl, ?_⟩
    have kL := fun e : (tyD d == "list") = true => e
    by_cases hd : (tyD d == "list") = true
    · have hd' := hd
      rw [hd']
      refine iteT ?_
      obtain ⟨es, rfl⟩ : ∃ es, d = .list es := by
        cases d with
        | list es => exact ⟨es, rfl⟩
        | _ => cases hd
      obtain ⟨a, xs, rfl, ga, ra⟩ := lo es rfl
      cases k with
      | zero => simp only [fit] at ft
      | succ k =>
      obtain ⟨lw, fe⟩ := fit_lst.mp ft
      have lx := shAll_len ra
      refine ⟨_, rfl, .inl ⟨rfl, _, SqL.of (s03 _ _ ga)⟩, a, _, _, rfl, rfl, s03 _ _ ga, by rw [sizeLine_eq]; omega, ?_⟩
      have nap : ∀ {b : Addr}, H b = none → b ≠ a := fun h e => by rw [e, ga] at h; cases h
      have k4 : Keeps (.ref a) H (upd G3 a (.lst (xs ++ [.int 0]))) := fun b o e n => by
        by_cases hb : b = a
        · subst hb
          rw [ga] at e
          cases e
          exact absurd rfl (n xs rfl)
        · rw [upd_ne hb]
          exact s03 _ _ e
      have fE : fit 60 k (.int 0) := fit_int.mpr (.inl (by decide))
      have f' : fit 60 (k + 1) (.list (es ++ [.int 0])) := fit_lst.mpr ⟨by rw [List.length_append, List.length_singleton]; omega, fun e m => by
        rcases List.mem_append.mp m with m | m
        · exact fit_mono (by decide) e (Nat.le_refl _) (fe e m)
        · rw [List.mem_singleton.mp m]; exact fE⟩
      have l' : sl (.list (es ++ [.int 0])) ≤ 400000 := by
        have z := sl_int (i := 0) (by decide)
        rw [sl_lst] at hl
        rw [sl_lst, slA_app, slA_cons, slA_nil]
        omega
      obtain ⟨sw, dp, szl⟩ := dterm_shows f' (by omega) l'
      have na : a ≠ sysModules := by
        cases sh with
        | lst _ _ q _ => exact q rfl
      have ra4 := ShAll.on (P' := fun _ => True) (H' := upd G3 a (.lst (xs ++ [.int 0]))) (fun _ _ _ _ => trivial) (fun b o e h => by rw [upd_ne e.2]; exact s03 _ _ h) es xs ra
      have sh4 : Sh (upd G3 a (.lst (xs ++ [.int 0]))) (fun _ => True) true (.ref a) (.list (es ++ [.int 0])) := .lst upd_same trivial (fun _ => na) (ra4.append (.cons (.int 0) .nil))
      have h1 := (upd_ne (H := G3) (o := .lst (xs ++ [.int 0])) (nap f1)).trans g13
      have h2 := (upd_ne (H := G3) (o := .lst (xs ++ [.int 0])) (nap f2)).trans g23
      have hL4 := (upd_ne (H := G3) (o := .lst (xs ++ [.int 0])) (nap hLH)).trans gL3
      refine ⟨_, rfl, L, _, fun _ => True, true, _, rfl, hL4, two sh4 h1 h2, sw, dp, szl, _, rfl, by show 2 ≤ 1000; decide, fun A hA nA => ⟨by show 1 ≤ 1000; decide, fun B hB nB => ⟨B, 2, [.ref A], rfl, rfl, upd_same, by decide, by decide, by show 1 * 2 ≤ sizeLine; decide, fun C hC nC => ?_⟩⟩⟩
      obtain ⟨s5, sh5⟩ := rep sh4 hA nA hB hC nC
      refine ⟨.ref C, fun _ => True, true, _, rfl, sh5, sw, dp, szl, rfl, ?_⟩
      rw [decide_eq_true rfl]
      exact q _ fun b o e n => s5 _ _ (k4 b o e n)
    · rw [Bool.eq_false_iff.mpr hd]
      refine iteF ?_
      refine ⟨_, rfl, L, _, fun _ => True, true, _, rfl, gL3, two (sh_same s03 shT) g13 g23, sw, dp, szl, _, rfl, by show 2 ≤ 1000; decide, fun A hA nA => ⟨by show 1 ≤ 1000; decide, fun B hB nB => ⟨B, 2, [.ref A], rfl, rfl, upd_same, by decide, by decide, by show 1 * 2 ≤ sizeLine; decide, fun C hC nC => ?_⟩⟩⟩
      obtain ⟨s5, sh5⟩ := rep (sh_same s03 shT) hA nA hB hC nC
      refine ⟨.ref C, fun _ => True, true, _, rfl, sh5, sw, dp, szl, rfl, ?_⟩
      rw [decide_eq_true rfl]
      exact q _ (keeps_same (s03.trans s5))
end
end P4
end Bf

namespace Bf
open PySem PySem.Spec PyProof.Rows L2
namespace P4
abbrev dTold (e : PyData) : PyData := .list [.str "told", e]
theorem size_right {d : PyData} (h : rightD d = true) : ((partsD d).length : Int) + (if (!termD d) = true then 1 else 0) = ((sizeD d : Nat) : Int) := by
  unfold sizeD
  cases e : callX d with
  | true =>
    have t : termD d = false := by
      cases z : termD d with
      | false => rfl
      | true => have := (term_inv z).2.1; rw [e] at this; cases this
    rw [t]
    rfl
  | false =>
    have t : termD d = true := by rw [← right_other e]; exact h
    rw [t]
    simp
theorem dtold_shows {d : PyData} {k : Nat} (f : fit 50 k d) (hk : k ≤ 20) (hl : sl d ≤ 330000) {n : Int} (hn : n.natAbs < 10 ^ 12) :
    ((PyData.list [dTold (.list (partsD d)), dTold (.int n)]).showable = true ∧ (PyData.list [dTold (.list (partsD d)), dTold (.int n)]).depth ≤ 60 ∧ (PyData.list [dTold (.list (partsD d)), dTold (.int n)]).shown.length ≤ sizeLine) ∧
    ((dTold (.list (partsD d))).showable = true ∧ (dTold (.list (partsD d))).depth ≤ 60 ∧ (dTold (.list (partsD d))).shown.length ≤ sizeLine) := by
  obtain ⟨p1, p2⟩ := parts_sl f
  have m : (k + 1) * (sl d + 2) ≤ 21 * 330002 := Nat.mul_le_mul (by omega) (by omega)
  have f1 : fit (max 50 (partsD d).length) (k + 1) (.list (partsD d)) := fit_len p2 (Nat.le_max_left _ _) (Nat.le_max_right _ _)
  have f0 : ∀ {j : Nat}, fit (max 50 (partsD d).length) j (.str "told") := fit_str.mpr told_sl.2
  have w2 : 2 ≤ max 50 (partsD d).length := Nat.le_trans (by decide) (Nat.le_max_left _ _)
  have f2 : fit (max 50 (partsD d).length) (k + 2) (dTold (.list (partsD d))) := fit_lst.mpr ⟨w2, fun e m => by
    simp only [List.mem_cons, List.not_mem_nil, or_false] at m
    rcases m with rfl | rfl
    · exact f0
    · exact f1⟩
  have f3 : fit (max 50 (partsD d).length) (k + 2) (dTold (.int n)) := fit_lst.mpr ⟨w2, fun e m => by
    simp only [List.mem_cons, List.not_mem_nil, or_false] at m
    rcases m with rfl | rfl
    · exact f0
    · exact fit_int.mpr (.inl hn)⟩
  have f4 : fit (max 50 (partsD d).length) (k + 3) (.list [dTold (.list (partsD d)), dTold (.int n)]) := fit_lst.mpr ⟨w2, fun e m => by
    simp only [List.mem_cons, List.not_mem_nil, or_false] at m
    rcases m with rfl | rfl
    · exact f2
    · exact f3⟩
  have li := sl_int hn
  obtain ⟨a, b, c⟩ := fit_shows _ f4
  obtain ⟨a2, b2, c2⟩ := fit_shows _ f2
  have e1 : sl (dTold (.list (partsD d))) = slA (partsD d) + 53 := by rw [sl_lst, slA_cons, slA_cons, slA_nil, sl_lst, told_sl.1]; omega
  have e2 : sl (dTold (.int n)) = sl (.int n) + 50 := by rw [sl_lst, slA_cons, slA_cons, slA_nil, told_sl.1]; omega
  refine ⟨⟨a, by omega, Nat.le_trans c ?_⟩, a2, by omega, Nat.le_trans c2 ?_⟩
  · rw [sl_lst, slA_cons, slA_cons, slA_nil, e1, e2, sizeLine_eq]; omega
  · rw [e1, sizeLine_eq]; omega
end P4
end Bf

namespace Bf
open PySem PySem.Spec PyProof.Rows L2
namespace P4
section
variable {P : Program} {w : World} {K : PySem.W.Frag} {mg : Str → Option Value} {base : Heap} {fit_ fir fls flt fas fsp : Addr} {dit dir dls dlt das dsp : FuncData}
set_option maxHeartbeats 2000000 in
theorem right_tail (R : Rts P w K mg base fit_ fir fls flt fas fsp dit dir dls dlt das dsp)
    {f : Addr} {cdv : Value} {A : Around} {outer : List Env} {s : Shared} {H0 : Hp} {E : XK} (hA' : (A.deeper (envOfC "_law_right" (defScope sRight) s.heap.objs.size f cdv)).guards = some []) (hr : Room 84 (A.deeper (envOfC "_law_right" (defScope sRight) s.heap.objs.size f cdv))) :
    ∃ t, PSs (cxOf CX0 P w K mg base nLRight "_law_right" (defScope sRight) f cdv A outer s H0 E) ((defBody sRight).drop 5) t ∧ ∀ (D : Ends) (H : Hp) (x : V) (d : PyData) (P0 : Addr → Prop) (k : Nat) (u2 u3 u4 u5 u6 u7 : Option V),
      Sh H P0 true x d → fit 50 k d → k ≤ 20 → sl d ≤ 330000 → rightD d = true → (∀ G, Same H G → D.rt (.bl true) G) → t D [some x, some (.str d.shown), u2, u3, u4, u5, u6, u7] H := by
  have hr10 := hr.mono (by decide : 11 ≤ 84)
  have hr82 := hr.mono (by decide : 82 ≤ 84)
  have hr83 := hr.mono (by decide : 83 ≤ 84)
  refine ⟨_, (pss_cons (ps_set (i := 5) scLRight.nd rfl (Or.inl rfl) (pe_call R.Gsp hr83 (by rfl) R.Dsp.at_ R.Dsp.kp R.Dsp.bd .nil pass0 (pa_cons (pv 0) pa_nil)))
        (pss_cons (ps_set (i := 6) scLRight.nd rfl (Or.inl rfl) (pe_op op_add (pe_callB call_len_seq (by rfl) R.ml PySem.boot_len (pa_cons (pv 5) pa_nil)) (pe_callTy call_int1 (by rfl) R.mI (by decide +kernel) (pa_cons (pe_not (pe_call R.Glt hr82 (by rfl) R.Dlt.at_ R.Dlt.kp R.Dlt.bd .nil pass0 (pa_cons (pv 0) pa_nil))) pa_nil))))
        (pss_cons (ps_setLc (i := 4) (own := [("_law_way", 7)]) (g := gName 7) (tt := tYes) (by rfl) scLRight.nd rfl rfl (sw_true rfl rfl rfl (by decide +kernel)) (pi_tup (pe_tup (pa_cons pe_int (pa_cons pe_int pa_nil)))) (blkOk_by (N := nLRight) (sc := defScope sRight) (by decide +kernel)) (fun _ _ _ _ _ => pg_name (i := 7) scLRight.nd rfl (Or.inl rfl)) (fun _ _ _ _ _ => pts_nil) (fun _ _ _ _ _ => (pe_call R.Gas hr10 (by rfl) R.Das.at_ R.Das.kp R.Das.bd .nil pass0 (pa_cons (pv 7) (pa_cons (pv 0) pa_nil)))))
        (pss_cons (ps_if (pt_cmpR op_ne (pe_callB (call_repr hA' hr.units) (by rfl) R.mp (by decide +kernel) (pa_cons (pv 4) pa_nil)) (pe_callB (call_repr hA' hr.units) (by rfl) R.mp (by decide +kernel) (pa_cons (pe_lstN (pa_cons (pe_lstN (pa_cons pe_str (pa_cons (pv 5) pa_nil))) (pa_cons (pe_lstN (pa_cons pe_str (pa_cons (pv 6) pa_nil))) pa_nil))) pa_nil)) (nomark _)) (pss_one (ps_ret pe_bl)) pss_nil)
        (pss_cons (ps_expr (pe_bm PySem.F.plainAttrs_list PySem.F.slot_list_append PySem.F.type_list_append mt_append (pe_ix ix_list (pe_ix ix_list (pv 4) pe_int (fun _ _ => rfl)) pe_int (fun _ _ => rfl)) (pa_cons pe_int pa_nil)))
        (pss_one (ps_ret (pe_and (pe_cmpR op_eq (pe_callB (call_repr hA' hr.units) (by rfl) R.mp (by decide +kernel) (pa_cons (pe_call R.Gas hr10 (by rfl) R.Das.at_ R.Das.kp R.Das.bd .nil pass0 (pa_cons pe_int (pa_cons (pv 0) pa_nil))) pa_nil)) (pe_callB (call_repr hA' hr.units) (by rfl) R.mp (by decide +kernel) (pa_cons (pe_lstN (pa_cons pe_str (pa_cons (pv 5) pa_nil))) pa_nil)) (nomark _)) (pe_one (pe_cmpR op_eq (pe_callB (call_repr hA' hr.units) (by rfl) R.mp (by decide +kernel) (pa_cons (pv 0) pa_nil)) (pv 1) (nomark _))))))))))), ?_⟩
  intro D H x d P0 k u2 u3 u4 u5 u6 u7 sh ft hk hl rd q
  have shT := Sh.on (P' := fun _ => True) (fun _ _ _ _ => trivial) (fun _ _ _ e => e) d x sh
  have da := sh_da (by decide) d x ft sh
  have hz : sz d ≤ 900000 := by have := sz_sl d; omega
  have pl := parts_len (d := d)
  have nld : noLDA (partsD d) = true := noLDA_iff.mpr fun e m => no_term (parts_terms rd e m)
  have szn : ((sizeD d : Nat) : Int).natAbs < 10 ^ 12 := by
    have : sizeD d ≤ (partsD d).length + 1 := by
      unfold sizeD
      split <;> omega
    omega
  obtain ⟨⟨bw, bd, bs⟩, ow, od, os⟩ := dtold_shows ft hk hl szn
  obtain ⟨dw, dd, ds⟩ := fit_shows d ft
  have ds' : d.shown.length ≤ sizeLine := by rw [sizeLine_eq]; omega
  -- the due parts
  refine ⟨_, rfl, x, d, H, k, rfl, Same.refl _, da, rd, ft, by omega, hz, fun p1 H1 xs1 s1 hp1 np1 gp1 r1 => ?_⟩
  refine ⟨_, rfl, p1, xs1, rfl, .inl (SqL.of gp1), _, rfl, x, d, k, rfl, Da.same s1 _ _ da, ft, by omega, fun H2 s2 => ⟨_, rfl, .inr ⟨_, rfl, _, _, rfl, rfl, ?_⟩⟩⟩
  have e6 : ((xs1.length : Nat) : Int) + (if (!termD d) = true then 1 else 0) = ((sizeD d : Nat) : Int) := by rw [r1.len]; exact size_right rd
  have e7 : (fun i j => V.int (i + j)) ((xs1.length : Nat) : Int) (if (!termD d) = true then 1 else 0) = V.int ((sizeD d : Nat) : Int) := congrArg V.int e6
  rw [e7]
  have s12 := s1.trans s2
  have gp1' := s2 _ _ gp1
  -- both answers
  refine ⟨by show 2 ≤ sizeLine; decide, fun t ht => ⟨t, rfl, ⟨_, SqT.of upd_same⟩, fun L hL => lc_tup (K := K) (a := t) (xs := [.int 0, .int 1]) (fun i G => Same H2 G ∧ G t = some (.tup [.int 0, .int 1]) ∧ H2 L = none ∧ H2 t = none ∧
      ((i = 0 ∧ G L = some (.lst [])) ∨ (∃ q0 l xs, H2 q0 = none ∧ H2 l = none ∧ G q0 = some (.lst [.str "told", .ref l]) ∧ G l = some (.lst xs) ∧ DaAll H xs (partsD d) ∧ l ≠ q0 ∧ L ≠ l ∧ L ≠ q0 ∧ ((i = 1 ∧ G L = some (.lst [.ref q0])) ∨ (i = 2 ∧ ∃ q1, H2 q1 = none ∧ G q1 = some (.lst [.str "told", .int (sizeD d)]) ∧ q1 ≠ l ∧ q1 ≠ L ∧ G L = some (.lst [.ref q0, .ref q1]))))))
    ⟨(same_new ht).trans (same_new hL), by rw [upd_ne (fun e => by rw [← e, upd_same] at hL; cases hL), upd_same], (same_new (o := .tup [.int 0, .int 1]) ht).free hL, ht, .inl ⟨rfl, upd_same⟩⟩ (fun i G _ pv => SqT.of pv.2.1) (fun i y G hy pv => ?_) fun G pv => ?_⟩⟩
  · obtain ⟨sG, gt, fL, ft', pv⟩ := pv
    match i, hy with
    | 0, hy =>
      cases hy
      rcases pv with ⟨_, gL⟩ | ⟨q0, l, xs, _, _, _, _, _, _, _, _, ⟨h, _⟩ | ⟨h, _⟩⟩
      · refine ⟨rfl, ?_⟩
        show tCall spAskedL [] _ (tCons (tVar 7) (tCons (tVar 0) tNil)) _ _ _
        refine ⟨_, rfl, _, rfl, 0, x, d, H, rfl, s12.trans sG, da, hz, .inr (.inl ⟨rd, rfl, fun p l xs G' s' hp hl nlp gp gl r => ?_⟩)⟩
        have gL' := s' _ _ gL
        have gt' := s' _ _ gt
        have nLp : L ≠ p := fun e => by rw [e, gp] at gL'; cases gL'
        have nLl : L ≠ l := fun e => by rw [e, hl] at gL; cases gL
        refine ⟨_, gL', by show 0 < sizeLine; decide, fun b o e => ?_, ?_, fL, ft', .inr ⟨p, l, xs, sG.free hp, sG.free hl, ?_, ?_, r, nlp, nLl, nLp, .inl ⟨rfl, upd_same⟩⟩⟩
        · rw [upd_ne (ne_of_none e fL)]; exact s' _ _ (sG _ _ e)
        · rw [upd_ne (fun e => by rw [e, gL'] at gt'; cases gt')]; exact gt'
        · rw [upd_ne nLp.symm]; exact gp
        · rw [upd_ne nLl.symm]; exact gl
      · cases h
      · cases h
    | 1, hy =>
      cases hy
      rcases pv with ⟨h, _⟩ | ⟨q0, l, xs, hq0, hl, g0, gl, r, nl0, nLl, nL0, ⟨_, gL⟩ | ⟨h, _⟩⟩
      · cases h
      · refine ⟨rfl, ?_⟩
        show tCall spAskedL [] _ (tCons (tVar 7) (tCons (tVar 0) tNil)) _ _ _
        refine ⟨_, rfl, _, rfl, 1, x, d, H, rfl, s12.trans sG, da, hz, .inr (.inr ⟨rd, rfl, fun p G' s' hp gp => ?_⟩)⟩
        have gL' := s' _ _ gL
        have gt' := s' _ _ gt
        have nLp : p ≠ L := fun e => by rw [e, gL] at hp; cases hp
        have npl : p ≠ l := fun e => by rw [e, gl] at hp; cases hp
        refine ⟨_, gL', by show 1 < sizeLine; decide, fun b o e => ?_, ?_, fL, ft', .inr ⟨q0, l, xs, hq0, hl, ?_, ?_, r, nl0, nLl, nL0, .inr ⟨rfl, p, sG.free hp, ?_, npl, nLp, upd_same⟩⟩⟩
        · rw [upd_ne (ne_of_none e fL)]; exact s' _ _ (sG _ _ e)
        · rw [upd_ne (fun e => by rw [e, gL'] at gt'; cases gt')]; exact gt'
        · rw [upd_ne nL0.symm]; exact s' _ _ g0
        · rw [upd_ne nLl.symm]; exact s' _ _ gl
        · rw [upd_ne nLp]; exact gp
      · cases h
    | i + 2, hy => simp at hy
  · obtain ⟨sG, gt, fL, ft', ⟨h, _⟩ | ⟨q0, l, xs, hq0, hl, g0, gl, r, nl0, nLl, nL0, ⟨h, _⟩ | ⟨_, q1, hq1, g1, nq1l, nq1L, gL⟩⟩⟩ := pv
    · cases h
    · cases h
    have sHG := s12.trans sG
    have shD : ∀ {F : Hp} {ys : List V}, Same H F → DaAll H ys (partsD d) → ShAll F (fun _ => True) false ys (partsD d) := fun sF r => shAll_same sF (da_shAll _ _ nld r)
    refine ⟨_, rfl, .ref L, fun _ => True, false, _, rfl, .lst gL trivial (fun z => nomatch z) (.cons (.lst g0 trivial (fun z => nomatch z) (.cons (.str _) (.cons (.lst gl trivial (fun z => nomatch z) (shD sHG r)) .nil))) (.cons (.lst g1 trivial (fun z => nomatch z) (.cons (.str _) (.cons (.int _) .nil))) .nil)), bw, bd, bs, ?_⟩
    have gp1G := sG _ _ gp1'
    refine ⟨_, rfl, by show 2 ≤ 1000; decide, fun A hA nA => ⟨_, rfl, by show 2 ≤ 1000; decide, fun B hB nB => ⟨by show 2 ≤ 1000; decide, fun C hC nC => ?_⟩⟩⟩
    have sA := same_new (o := .lst [.str "told", .ref p1]) hA
    have sB := same_new (o := .lst [.str "told", .int (sizeD d)]) hB
    have sC := same_new (o := .lst [.ref A, .ref B]) hC
    have sABC := (sA.trans sB).trans sC
    have gA := sC _ _ (sB _ _ (upd_same (H := G) (a := A) (o := .lst [.str "told", .ref p1])))
    have gB := sC _ _ (upd_same (H := upd G A (.lst [.str "told", .ref p1])) (a := B) (o := .lst [.str "told", .int (sizeD d)]))
    have gC := upd_same (H := upd (upd G A (.lst [.str "told", .ref p1])) B (.lst [.str "told", .int (sizeD d)])) (a := C) (o := .lst [.ref A, .ref B])
    have k0 := sABC _ _ g0
    have kl := sABC _ _ gl
    have kL := sABC _ _ gL
    have kp1 := sABC _ _ gp1G
    have sH3 := sHG.trans sABC
    generalize upd (upd (upd G A (.lst [.str "told", .ref p1])) B (.lst [.str "told", .int (sizeD d)])) C (.lst [.ref A, .ref B]) = G3 at *
    refine ⟨.ref C, fun _ => True, false, _, rfl, .lst gC trivial (fun z => nomatch z) (.cons (.lst gA trivial (fun z => nomatch z) (.cons (.str _) (.cons (.lst kp1 trivial (fun z => nomatch z) (shD sH3 r1)) .nil))) (.cons (.lst gB trivial (fun z => nomatch z) (.cons (.str _) (.cons (.int _) .nil))) .nil)), bw, bd, bs, rfl, _, rfl, iteNS rfl ?_⟩
    have lr := r.len
    have hlH : H l = none := s12.free hl
    refine ⟨_, rfl, L, _, ((0 : Nat) : Int), _, rfl, rfl, SqL.of kL, atI_nat rfl, q0, _, ((1 : Nat) : Int), _, rfl, rfl, SqL.of k0, atI_nat rfl, .inl ⟨rfl, _, SqL.of kl⟩, l, _, _, rfl, rfl, kl, by rw [sizeLine_eq]; omega, ?_⟩
    have sH4 : Same H (upd G3 l (.lst (xs ++ [.int 0]))) := fun b o e => by rw [upd_ne (ne_of_none e hlH)]; exact sH3 _ _ e
    have kp4 : upd G3 l (.lst (xs ++ [.int 0])) p1 = some (.lst xs1) := by rw [upd_ne (ne_of_none gp1' hl)]; exact kp1
    clear sABC sA sB sC gA gB gC k0 kl kL kp1 gL gl g0 g1 sG gt
    generalize upd G3 l (.lst (xs ++ [.int 0])) = G4 at sH4 kp4
    refine ⟨_, rfl, 0, x, d, H, rfl, sH4, da, hz, .inr (.inl ⟨rd, rfl, fun p l2 xs2 F s' hp hl2 nlp gp gl2 r2 => ?_⟩)⟩
    have sF := sH4.trans s'
    refine ⟨.ref p, fun _ => True, false, _, rfl, .lst gp trivial (fun z => nomatch z) (.cons (.str _) (.cons (.lst gl2 trivial (fun z => nomatch z) (shD sF r2)) .nil)), ow, od, os, ?_⟩
    refine ⟨_, rfl, by show 2 ≤ 1000; decide, fun C2 hC2 nC2 => ?_⟩
    have sC2 := same_new (o := .lst [.str "told", .ref p1]) hC2
    have kp5 := sC2 _ _ (s' _ _ kp4)
    have gC2 := upd_same (H := F) (a := C2) (o := .lst [.str "told", .ref p1])
    have sF2 := sF.trans sC2
    generalize upd F C2 (.lst [.str "told", .ref p1]) = F2 at sF2 kp5 gC2
    refine ⟨.ref C2, fun _ => True, false, _, rfl, .lst gC2 trivial (fun z => nomatch z) (.cons (.str _) (.cons (.lst kp5 trivial (fun z => nomatch z) (shD sF2 r1)) .nil)), ow, od, os, rfl, ?_⟩
    refine ⟨_, rfl, iteB (decide_eq_true rfl) ?_⟩
    refine ⟨_, rfl, x, fun _ => True, true, d, rfl, sh_same sF2 shT, dw, by omega, ds', _, rfl, rfl, ?_⟩
    rw [decide_eq_true rfl]
    exact q _ sF2
end
end P4
end Bf

namespace Bf
open PySem PySem.Spec PyProof.Rows L2
namespace P4
def spLRight : Sp := fun vs H Q _ => ∃ (x : V) (d : PyData) (P0 : Addr → Prop) (k : Nat), vs = [x] ∧ Sh H P0 true x d ∧ Lok P0 H x d ∧ fit 50 k d ∧ k ≤ 20 ∧ sl d ≤ 330000 ∧ ∀ G, Keeps x H G → Q (.bl true) G
theorem four_shows (a b : Bool) : (PyData.list [.bool a, .bool b, .bool a, .bool b]).showable = true ∧ (PyData.list [.bool a, .bool b, .bool a, .bool b]).depth ≤ 60 ∧ (PyData.list [.bool a, .bool b, .bool a, .bool b]).shown.length ≤ sizeLine := by
  have f : fit 50 1 (.list [.bool a, .bool b, .bool a, .bool b]) := fit_lst.mpr ⟨by show 4 ≤ 50; decide, fun e m => by
    simp only [List.mem_cons, List.not_mem_nil, or_false] at m
    rcases m with rfl | rfl | rfl | rfl <;> exact fit_bl⟩
  obtain ⟨x, y, z⟩ := fit_shows _ f
  refine ⟨x, by omega, Nat.le_trans z ?_⟩
  rw [sl_lst, slA_cons, slA_cons, slA_cons, slA_cons, slA_nil, sizeLine_eq]
  simp only [sl]
  omega
section
variable {P : Program} {w : World} {K : PySem.W.Frag} {mg : Str → Option Value} {base : Heap} {fit_ fir fls flt fas fsp : Addr} {dit dir dls dlt das dsp : FuncData}
set_option maxHeartbeats 2000000 in
theorem ok_lright {f : Addr} {fd : FuncData} (F : Fun K "_law_right" "_law_right" sRight f fd) (R : Rts P w K mg base fit_ fir fls flt fas fsp dit dir dls dlt das dsp) :
    FnG P w K mg base CX0 85 f fd ["_law_thing"] spLRight := by
  refine Fun.okG F scLRight (fun vs H Q E h => ?_) (fun cdv A outer s H vs Q E hA hr h => ?_)
  · obtain ⟨x, d, P0, k, rfl, _⟩ := h
    rfl
  · obtain ⟨x, d, P0, k, rfl, sh, lo, ft, hk, hl, q⟩ := h
    have hA' : (A.deeper (envOfC "_law_right" (defScope sRight) s.heap.objs.size f cdv)).guards = some [] := hA
    have hr7 := hr.mono (by decide : 8 ≤ 84)
    have hr82 := hr.mono (by decide : 82 ≤ 84)
    have hr84 := hr
    obtain ⟨tn, hThen, then_⟩ := right_not (outer := outer) (s := s) (H0 := H) (E := E) R hA' hr
    obtain ⟨tt, hTail, tail⟩ := right_tail (outer := outer) (s := s) (H0 := H) (E := E) R hA' hr
    refine ⟨_, (pss_cons (ps_set (i := 1) scLRight.nd rfl (Or.inl rfl) (pe_callB (call_repr hA' hr.units) (by rfl) R.mp (by decide +kernel) (pa_cons (pv 0) pa_nil)))
        (pss_cons (ps_set (i := 2) scLRight.nd rfl (Or.inl rfl) (pe_lstN (pa_cons (pe_call R.Git hr7 (by rfl) R.Dit.at_ R.Dit.kp R.Dit.bd .nil pass0 (pa_cons (pv 0) pa_nil)) (pa_cons (pe_call R.Gir hr7 (by rfl) R.Dir.at_ R.Dir.kp R.Dir.bd .nil pass0 (pa_cons (pv 0) pa_nil)) (pa_cons (pe_call R.Git hr7 (by rfl) R.Dit.at_ R.Dit.kp R.Dit.bd .nil pass0 (pa_cons (pv 0) pa_nil)) (pa_cons (pe_call R.Gir hr7 (by rfl) R.Dir.at_ R.Dir.kp R.Dir.bd .nil pass0 (pa_cons (pv 0) pa_nil)) pa_nil))))))
        (pss_cons (ps_set (i := 3) scLRight.nd rfl (Or.inl rfl) (pe_call R.Gls hr84 (by rfl) R.Dls.at_ R.Dls.kp R.Dls.bd .nil pass0 (pa_cons (pv 0) pa_nil)))
        (pss_cons (ps_if (PW.pt (pw_or (pt_cmpR op_ne (pe_callB (call_repr hA' hr.units) (by rfl) R.mp (by decide +kernel) (pa_cons (pv 2) pa_nil)) (pe_callB (call_repr hA' hr.units) (by rfl) R.mp (by decide +kernel) (pa_cons (pe_op op_repN (pe_lstN (pa_cons (pe_call R.Glt hr82 (by rfl) R.Dlt.at_ R.Dlt.kp R.Dlt.bd .nil pass0 (pa_cons (pv 0) pa_nil)) (pa_cons (pv 3) pa_nil))) pe_int) pa_nil)) (nomark _)) (pw_or1 (pt_cmpR op_ne (pe_callB (call_repr hA' hr.units) (by rfl) R.mp (by decide +kernel) (pa_cons (pv 0) pa_nil)) (pv 1) (nomark _))))) (pss_one (ps_ret pe_bl)) pss_nil)
        (pss_cons (ps_if (pt_not (pt_val (pv 3))) hThen pss_nil)
        hTail))))), ?_⟩
    have da := sh_da (by decide) d x ft sh
    have hz : sz d ≤ 900000 := by have := sz_sl d; omega
    obtain ⟨dw, dp, ds⟩ := fit_shows d ft
    have ds' : d.shown.length ≤ sizeLine := by rw [sizeLine_eq]; omega
    obtain ⟨fw, fp, fs⟩ := four_shows (termD d) (rightD d)
    refine ⟨_, rfl, x, P0, true, d, rfl, sh, dw, by omega, ds', ?_⟩
    refine ⟨_, rfl, x, d, rfl, da, hz, fun G1 s1 => ⟨_, rfl, x, d, rfl, da.same s1, hz, fun G2 s2 => ⟨_, rfl, x, d, rfl, da.same (s1.trans s2), hz, fun G3 s3 => ⟨_, rfl, x, d, rfl, da.same ((s1.trans s2).trans s3), hz, fun G4 s4 => ⟨by show 4 ≤ 1000; decide, fun L hL nL => ?_⟩⟩⟩⟩⟩
    have s5 := same_trans_new (o := .lst [.bl (termD d), .bl (rightD d), .bl (termD d), .bl (rightD d)]) (((s1.trans s2).trans s3).trans s4) hL
    have gL := upd_same (H := G4) (a := L) (o := .lst [.bl (termD d), .bl (rightD d), .bl (termD d), .bl (rightD d)])
    generalize upd G4 L (.lst [.bl (termD d), .bl (rightD d), .bl (termD d), .bl (rightD d)]) = G5 at s5 gL
    refine ⟨_, rfl, x, d, k, rfl, da.same s5, ft, by omega, fun G6 s6 => ?_⟩
    refine ⟨_, rfl, .ref L, fun _ => True, false, _, rfl, .lst (s6 _ _ gL) trivial (fun z => nomatch z) (.cons (.bl _) (.cons (.bl _) (.cons (.bl _) (.cons (.bl _) .nil)))), fw, fp, fs, _, rfl, x, d, k, rfl, da.same (s5.trans s6), ft, by omega, fun G7 s7 => ⟨_, rfl, by show 2 ≤ 1000; decide, fun A1 hA1 nA1 => ⟨A1, 2, _, rfl, rfl, upd_same, by decide, by decide, by show 2 * 2 ≤ sizeLine; decide, fun C hC nC => ?_⟩⟩⟩
    have eR : (List.replicate (Int.toNat 2) [V.bl (termD d), V.bl (rightD d)]).flatten = [.bl (termD d), .bl (rightD d), .bl (termD d), .bl (rightD d)] := rfl
    rw [eR]
    refine ⟨.ref C, fun _ => True, false, _, rfl, .lst upd_same trivial (fun z => nomatch z) (.cons (.bl _) (.cons (.bl _) (.cons (.bl _) (.cons (.bl _) .nil)))), fw, fp, fs, rfl, _, rfl, iteNS rfl ?_⟩
    have s8 : Same H (upd (upd G7 A1 (.lst [.bl (termD d), .bl (rightD d)])) C (.lst [.bl (termD d), .bl (rightD d), .bl (termD d), .bl (rightD d)])) := same_trans_new (same_trans_new ((s5.trans s6).trans s7) hA1) hC
    generalize upd (upd G7 A1 (.lst [.bl (termD d), .bl (rightD d)])) C (.lst [.bl (termD d), .bl (rightD d), .bl (termD d), .bl (rightD d)]) = G8 at s8
    refine ⟨_, rfl, x, P0, true, d, rfl, sh_same s8 sh, dw, by omega, ds', _, rfl, rfl, _, rfl, iteNS rfl ?_⟩
    refine ⟨_, rfl, _, rfl, ?_⟩
    cases rd : rightD d with
    | false => exact iteT (then_ _ _ x d P0 k _ _ _ _ _ _ _ (sh_same s8 sh) (lo.on (fun _ _ h _ => h) (fun a o _ e => s8 a o e) sh) ft (by omega) hl rd fun G kG => q G fun a o e n => kG a o (s8 _ _ e) n)
    | true => exact iteF (tail _ _ x d P0 k _ _ _ _ _ _ (sh_same s8 sh) ft hk hl rd fun G sG => q G (keeps_same (s8.trans sG)))
end
end P4
end Bf

namespace Bf
open PySem PySem.Spec PyProof.Rows L2
namespace P4
/-- things to be asked one after another; a list is changed when it has been asked, what follows doesn't hold it -/
inductive Good (H : Hp) : (Addr → Prop) → List V → List PyData → Prop
  | nil {N : Addr → Prop} : Good H N [] []
  | cons {N : Addr → Prop} {v : V} {vs : List V} {d : PyData} {ds : List PyData} {k : Nat} (sh : Sh H N true v d) (lo : Lok N H v d) (ft : fit 50 k d) (hk : k ≤ 20) (hl : sl d ≤ 330000)
      (r : Good H (fun a => N a ∧ ∀ es, d = .list es → v ≠ .ref a) vs ds) : Good H N (v :: vs) (d :: ds)
theorem Good.on {H H' : Hp} {N N' : Addr → Prop} {vs : List V} {ds : List PyData} (g : Good H N vs ds) (hp : ∀ a o, N a → H a = some o → N' a) (k : ∀ a o, N a → H a = some o → H' a = some o) : Good H' N' vs ds := by
  induction g generalizing N' with
  | nil => exact .nil
  | cons sh lo ft hk hl r ih =>
    exact .cons (Sh.on hp k _ _ sh) (lo.on hp k sh) ft hk hl (ih (fun a o h e => ⟨hp a o h.1 e, h.2⟩) fun a o h e => k a o h.1 e)
def LsA : List V → List PyData → Addr → Prop
  | v :: vs, d :: ds, a => ((∃ es, d = .list es) ∧ v = .ref a) ∨ LsA vs ds a
  | _, _, _ => False
theorem Good.ls {H : Hp} {N : Addr → Prop} {vs : List V} {ds : List PyData} (g : Good H N vs ds) : ∀ a, LsA vs ds a → N a ∧ ∃ o, H a = some o := by
  induction g with
  | nil => exact fun _ h => h.elim
  | cons sh lo ft hk hl r ih =>
    rintro a (⟨⟨es, rfl⟩, rfl⟩ | h)
    · cases sh with
      | lst h p _ _ => exact ⟨p, _, h⟩
    · obtain ⟨h1, h2⟩ := ih a h
      exact ⟨h1.1, h2⟩
theorem Good.snoc {H G : Hp} {N P : Addr → Prop} {vs : List V} {ds : List PyData} {v : V} {d : PyData} {k : Nat} (g : Good H N vs ds) (kp : ∀ a o, N a → H a = some o → G a = some o)
    (hP : ∀ a, P a → N a ∧ ¬ LsA vs ds a) (sh : Sh G P true v d) (lo : Lok P G v d) (ft : fit 50 k d) (hk : k ≤ 20) (hl : sl d ≤ 330000) : Good G N (vs ++ [v]) (ds ++ [d]) := by
  induction g with
  | nil => exact .cons (Sh.on (fun a _ h _ => (hP a h).1) (fun _ _ _ e => e) _ _ sh) (lo.on (fun a _ h _ => (hP a h).1) (fun _ _ _ e => e) sh) ft hk hl .nil
  | cons sh0 lo0 ft0 hk0 hl0 r ih =>
    exact .cons (Sh.on (fun _ _ h _ => h) kp _ _ sh0) (lo0.on (fun _ _ h _ => h) kp sh0) ft0 hk0 hl0 (ih (fun a o h e => kp a o h.1 e) fun a h =>
      ⟨⟨(hP a h).1, fun es e1 e2 => (hP a h).2 (.inl ⟨⟨es, e1⟩, e2⟩)⟩, fun z => (hP a h).2 (.inr z)⟩)
theorem lsA_snoc : ∀ {vs : List V} {ds : List PyData} {v : V} {d : PyData} {a : Addr}, vs.length = ds.length → LsA (vs ++ [v]) (ds ++ [d]) a → LsA vs ds a ∨ ((∃ es, d = .list es) ∧ v = .ref a)
  | [], [], _, _, _, _, h => h.elim .inr fun z => z.elim
  | _ :: vs, _ :: ds, _, _, _, l, h => h.elim (fun z => .inl (.inl z)) fun z => (lsA_snoc (Nat.succ.inj l) z).imp_left .inr
  | [], _ :: _, _, _, _, l, _ => nomatch l
  | _ :: _, [], _, _, _, l, _ => nomatch l
theorem Good.len {H : Hp} {N : Addr → Prop} {vs : List V} {ds : List PyData} (g : Good H N vs ds) : vs.length = ds.length := by
  induction g with
  | nil => rfl
  | cons _ _ _ _ _ _ ih => rw [List.length_cons, List.length_cons, ih]
theorem lok_tup {P : Addr → Prop} {G : Hp} {v : V} {ds : List PyData} : Lok P G v (.tuple ds) := fun _ e => nomatch e

abbrev nLaw : List Str := ["_law_script", "_law_k", "_law_purse_here", "_law_turn", "_law_side_here", "_law_bent_here", "_law_things", "_law_chain", "_law_lap", "_law_thing"]
theorem scLaw : FnScope nLaw ["_law_script"] (defScope sLaw) := ⟨rfl, rfl, rfl, by decide +kernel, rfl, by decide +kernel, by decide +kernel⟩
/-- what the law calls -/
structure Need (P : Program) (w : World) (K : PySem.W.Frag) (mg : Str → Option Value) (base : Heap) (fc fp ft fs fa fb fo fr : Addr) (dc dp dt ds da db do_ dr : FuncData) : Prop where
  DC : Df K mg "_law_cell" fc dc ["_law_script", "_law_k"]
  GC : FnOk P w K mg base CX0 1 fc dc ["_law_script", "_law_k"] (spCell K)
  DP : Df K mg "_law_purse" fp dp ["_law_cell_here"]
  GP : FnOk P w K mg base CX0 1 fp dp ["_law_cell_here"] spPurse
  DT : Df K mg "_law_take" ft dt ["_law_purse_here", "_law_many"]
  GT : FnOk P w K mg base CX0 1 ft dt ["_law_purse_here", "_law_many"] spTake
  DS : Df K mg "_law_side" fs ds pSide
  GS : FnOk P w K mg base CX0 9 fs ds pSide spSide
  DA : Df K mg "_law_any" fa da pAny
  GA : FnOk P w K mg base CX0 8 fa da pAny (spAny 5)
  DB : Df K mg "_law_bent" fb db pBent
  GB : FnOk P w K mg base CX0 18 fb db pBent (spBent 15)
  DO : Df K mg "_law_odd" fo do_ ["_law_purse_here"]
  GO : FnOk P w K mg base CX0 3 fo do_ ["_law_purse_here"] spOdd
  DR : Df K mg "_law_right" fr dr ["_law_thing"]
  GR : FnG P w K mg base CX0 85 fr dr ["_law_thing"] spLRight
  mr : mg "range" = none
  ml : mg "len" = none
  mx : mg "max" = none
  mn : mg "min" = none
abbrev bF : List Stmt := match (defBody sLaw).getD 0 (.Pass ⟨0, 0, 0, 0⟩) with | .For _ _ b _ _ => b | _ => []
abbrev bT : List Stmt := match bF.getD 1 (.Pass ⟨0, 0, 0, 0⟩) with | .For _ _ b _ _ => b | _ => []
section
variable {P : Program} {w : World} {K : PySem.W.Frag} {mg : Str → Option Value} {base : Heap} {fc fp ft fs fa fb fo fr : Addr} {dc dp dt ds da db do_ dr : FuncData}
abbrev xLaw (P : Program) (w : World) (K : PySem.W.Frag) (mg : Str → Option Value) (base : Heap) (f : Addr) (cdv : Value) (A : Around) (outer : List Env) (s : Shared) (H : Hp) (E : XK) : Cx := cxOf CX0 P w K mg base nLaw "law" (defScope sLaw) f cdv A outer s H E
set_option maxHeartbeats 2000000 in
theorem law_ask (N : Need P w K mg base fc fp ft fs fa fb fo fr dc dp dt ds da db do_ dr) {f : Addr} {cdv : Value} {A : Around} {outer : List Env} {s : Shared} {H0 : Hp} {E : XK}
    (hA' : (A.deeper (envOfC "law" (defScope sLaw) s.heap.objs.size f cdv)).guards = some []) (hr : Room 85 (A.deeper (envOfC "law" (defScope sLaw) s.heap.objs.size f cdv))) :
    ∃ t, PSs (xLaw P w K mg base f cdv A outer s H0 E) (bT.drop 8) t ∧ ∀ (D : Ends) (G : Hp) (T : Addr) (vs : List V) (ds : List PyData) (N : Addr → Prop) (u0 u1 u2 u3 u4 u5 u7 u8 u9 : Option V),
      G T = some (.lst vs) → Good G N vs ds → ¬ N T → (∀ u9 G', (∀ b o, ¬ N b → G b = some o → G' b = some o) → D.nx [u0, u1, u2, u3, u4, u5, some (.ref T), u7, u8, u9] G') → t D [u0, u1, u2, u3, u4, u5, some (.ref T), u7, u8, u9] G := by
  refine ⟨_, (pss_one (ps_for PassesOwn.leaving rfl (pi_list (pv 6)) (pg_name (i := 9) scLaw.nd rfl (Or.inl rfl)) (pss_one (ps_if (pt_not (pt_val (pe_callG N.GR hA' hr (by rfl) N.DR.at_ N.DR.kp N.DR.bd pass0 (pa_cons (pv 9) pa_nil)))) (pss_one (ps_ret pe_bl)) pss_nil)))), ?_⟩
  intro D G T vs ds N u0 u1 u2 u3 u4 u5 u7 u8 u9 gT g nT fin
  refine ⟨_, rfl, T, rfl, ⟨vs, SqL.of gT⟩, for_list (K := K) (a := T) (xs := vs) (fun j σ G1 => ∃ (u9 : Option V) (M : Addr → Prop) (es : List PyData), σ = [u0, u1, u2, u3, u4, u5, some (.ref T), u7, u8, u9] ∧ G1 T = some (.lst vs) ∧ Good G1 M (vs.drop j) es ∧ (∀ b, M b → N b) ∧ (∀ b o, ¬ N b → G b = some o → G1 b = some o))
    ⟨_, N, ds, rfl, gT, g, fun _ h => h, fun _ _ _ e => e⟩ (fun j σ G1 _ pv => ?_) (fun j z σ G1 hz pv => ?_) fun σ G1 pv => ?_⟩
  · obtain ⟨_, _, _, _, h, _⟩ := pv
    exact SqL.of h
  · obtain ⟨u9', M, es, rfl, gT1, g1, hM, kp⟩ := pv
    have lt := (List.getElem?_eq_some_iff.mp hz).1
    have ez := (List.getElem?_eq_some_iff.mp hz).2
    rw [List.drop_eq_getElem_cons lt, ez] at g1
    cases g1 with
    | cons sh lo ft hk hl r =>
      refine ⟨_, rfl, z, _, M, _, rfl, sh, lo, ft, hk, hl, fun G2 k2 => ⟨_, rfl, iteF ?_⟩⟩
      have own : ∀ b, z = .ref b → (∃ xs, G1 b = some (.lst xs)) → M b := fun b e ⟨xs, h⟩ => by
        subst e
        cases sh with
        | lst _ p _ _ => exact p
        | tup h' p _ => exact p
        | emp _ h' p => exact p
      have keep : ∀ b o, ¬ N b → G1 b = some o → G2 b = some o := fun b o nb e => k2 b o e fun xs e1 e2 => nb (hM b (own b e1 ⟨xs, by rw [e, e2]⟩))
      refine ⟨_, _, _, rfl, keep _ _ nT gT1, r.on (N' := _) (fun _ _ h _ => h) (fun b o h e => k2 b o e fun xs e1 e2 => ?_), fun b h => hM b h.1, fun b o nb e => keep b o nb (kp b o nb e)⟩
      subst e1 e2
      cases sh with
      | lst h' p _ _ => exact h.2 _ rfl rfl
      | tup h' p _ => rw [h'] at e; cases e
      | emp _ h' p => rw [h'] at e; cases e
  · obtain ⟨u9', M, es, rfl, _, _, _, kp⟩ := pv
    exact fin _ _ kp
end
end P4
end Bf

namespace Bf
open PySem PySem.Spec PyProof.Rows L2
namespace P4
/-- a chain of terms, all its objects new -/
def Chn (G0 : Hp) (i : Nat) (v : V) (G : Hp) : Prop := ∃ ds, Sh G (Fr G0) true v (.tuple ds) ∧ fit 10 (i + 1) (.tuple ds) ∧ sl (.tuple ds) ≤ 100 + 150 * i
theorem chn_sl : sl (.str "name") = 43 ∧ sl (.str "a") = 13 ∧ sl (.str "A") = 13 ∧ sl (.str "not") = 33 ∧ sl (.str "at") = 23 ∧ sl (.str "when") = 43 ∧ sl (.str "b") = 13 := by decide +kernel
theorem chn_ok : strOk "name" = true ∧ strOk "a" = true ∧ strOk "A" = true ∧ strOk "not" = true ∧ strOk "at" = true ∧ strOk "when" = true ∧ strOk "b" = true := by decide +kernel
theorem chn_same {G0 G G' : Hp} {i : Nat} {v : V} (s : ∀ a o, Fr G0 a → G a = some o → G' a = some o) (h : Chn G0 i v G) : Chn G0 i v G' := by
  obtain ⟨ds, a, b, c⟩ := h
  exact ⟨ds, Sh.on (fun _ _ h _ => h) s _ _ a, b, c⟩
section
variable {P : Program} {w : World} {K : PySem.W.Frag} {mg : Str → Option Value} {base : Heap} {fc fp ft fs fa fb fo fr : Addr} {dc dp dt ds da db do_ dr : FuncData}
set_option maxHeartbeats 2000000 in
theorem law_chain (N : Need P w K mg base fc fp ft fs fa fb fo fr dc dp dt ds da db do_ dr) {f : Addr} {cdv : Value} {A : Around} {outer : List Env} {s : Shared} {H0 : Hp} {E : XK}
    (hA' : (A.deeper (envOfC "law" (defScope sLaw) s.heap.objs.size f cdv)).guards = some []) (hr : Room 85 (A.deeper (envOfC "law" (defScope sLaw) s.heap.objs.size f cdv))) :
    ∃ t, PSs (xLaw P w K mg base f cdv A outer s H0 E) (bT.drop 5) t ∧ ∀ (D : Ends) (G : Hp) (p T : Addr) (n : Int) (vs : List V) (ds : List PyData) (N : Addr → Prop) (u0 u1 u3 u4 u5 u7 u8 u9 : Option V),
      Purse G p n → n ≤ 99000 → G T = some (.lst vs) → vs.length ≤ 100 → Good G N vs ds → ¬ N T → ¬ N p → T ≠ p → (∀ a, G a = none → N a) →
      (∀ u7 u8 u9 G', (∀ b o, ¬ N b → b ≠ p → b ≠ T → G b = some o → G' b = some o) → Purse G' p (n + 8) → D.nx [u0, u1, some (.ref p), u3, u4, u5, some (.ref T), u7, u8, u9] G') → t D [u0, u1, some (.ref p), u3, u4, u5, some (.ref T), u7, u8, u9] G := by
  have hr1 := hr.mono (by decide : 1 ≤ 85)
  obtain ⟨tt, hTail, tail⟩ := law_ask (outer := outer) (s := s) (H0 := H0) (E := E) N hA' hr
  refine ⟨_, (pss_cons (ps_set (i := 7) scLaw.nd rfl (Or.inl rfl) (pe_ix ix_list (pe_lstN (pa_cons (pe_tup (pa_cons pe_str (pa_cons pe_str pa_nil))) (pa_cons (pe_tup (pa_cons pe_str (pa_cons pe_str pa_nil))) pa_nil))) (pe_call N.GT hr1 (by rfl) N.DT.at_ N.DT.kp N.DT.bd .nil pass0 (pa_cons (pv 2) (pa_cons pe_int pa_nil))) (fun _ _ => rfl)))
        (pss_cons (ps_for PassesOwn.leaving rfl (pi_range1 (by rfl) N.mr (pa_cons pe_int pa_nil)) (pg_name (i := 8) scLaw.nd rfl (Or.inl rfl)) (pss_one (ps_set (i := 7) scLaw.nd rfl (Or.inl rfl) (pe_ix ix_list (pe_lstN (pa_cons (pe_tup (pa_cons pe_str (pa_cons (pv 7) pa_nil))) (pa_cons (pe_tup (pa_cons pe_str (pa_cons pe_int (pa_cons (pv 7) pa_nil)))) (pa_cons (pe_tup (pa_cons pe_str (pa_cons (pv 7) (pa_cons pe_str (pa_cons pe_int pa_nil))))) pa_nil)))) (pe_call N.GT hr1 (by rfl) N.DT.at_ N.DT.kp N.DT.bd .nil pass0 (pa_cons (pv 2) (pa_cons pe_int pa_nil))) (fun _ _ => rfl)))))
        (pss_cons (ps_expr (pe_bm PySem.F.plainAttrs_list PySem.F.slot_list_append PySem.F.type_list_append mt_append (pv 6) (pa_cons (pv 7) pa_nil)))
        hTail))), ?_⟩
  intro D G p T n vs ds M u0 u1 u3 u4 u5 u7 u8 u9 pu hn gT lv g nT np nTp hM fin
  obtain ⟨l1, l2, l3, l4, l5, l6, l7⟩ := chn_sl
  obtain ⟨o1, o2, o3, o4, o5, o6, o7⟩ := chn_ok
  -- the start
  refine ⟨by show 2 ≤ sizeLine; decide, fun A1 hA1 => ⟨by show 2 ≤ sizeLine; decide, fun B1 hB1 => ⟨by show 2 ≤ 1000; decide, fun L1 hL1 nL1 => ?_⟩⟩⟩
  have sA := same_new (o := .tup [.str "name", .str "a"]) hA1
  have sB := same_new (o := .tup [.str "name", .str "A"]) hB1
  have sL := same_new (o := .lst [.ref A1, .ref B1]) hL1
  have gA := sL _ _ (sB _ _ (upd_same (H := G) (a := A1) (o := .tup [.str "name", .str "a"])))
  have gB := sL _ _ (upd_same (H := upd G A1 (.tup [.str "name", .str "a"])) (a := B1) (o := .tup [.str "name", .str "A"]))
  have gL := upd_same (H := upd (upd G A1 (.tup [.str "name", .str "a"])) B1 (.tup [.str "name", .str "A"])) (a := L1) (o := .lst [.ref A1, .ref B1])
  have s1 := (sA.trans sB).trans sL
  have fB := sA.free hB1
  have fL := (sA.trans sB).free hL1
  generalize upd (upd (upd G A1 (.tup [.str "name", .str "a"])) B1 (.tup [.str "name", .str "A"])) L1 (.lst [.ref A1, .ref B1]) = G1 at *
  refine take_ok rfl (pu.same s1) (by omega) (by decide) (by decide) (fun c G2 c0 c1 k2 pu2 => ?_)
  have nL := pu.ne fL
  obtain ⟨v, mv, ev⟩ := pick (xs := [V.ref A1, V.ref B1]) c0 c1
  have ch0 : Chn G 0 v G2 := by
    simp only [List.mem_cons, List.not_mem_nil, or_false] at mv
    rcases mv with rfl | rfl
    · refine ⟨[.str "name", .str "a"], .tup (k2 _ _ (pu.ne hA1) gA) hA1 (.cons (.str _) (.cons (.str _) .nil)), fit_tup.mpr ⟨by show 2 ≤ 10; decide, fitA_cons (fit_str.mpr o1) (fitA_cons (fit_str.mpr o2) fitA_nil)⟩, ?_⟩
      rw [sl_tup, slA_cons, slA_cons, slA_nil, l1, l2]; omega
    · refine ⟨[.str "name", .str "A"], .tup (k2 _ _ (pu.ne fB) gB) fB (.cons (.str _) (.cons (.str _) .nil)), fit_tup.mpr ⟨by show 2 ≤ 10; decide, fitA_cons (fit_str.mpr o1) (fitA_cons (fit_str.mpr o3) fitA_nil)⟩, ?_⟩
      rw [sl_tup, slA_cons, slA_cons, slA_nil, l1, l3]; omega
  have k12 : Kp (· ≠ p) G G2 := (kp_same s1).trans k2
  refine ⟨L1, _, c, v, rfl, rfl, SqL.of (k2 _ _ nL gL), ev, ?_⟩
  -- the laps
  refine ⟨7, rfl, by decide, by decide, for_range (lo := 0) (n := 7) (fun i σ G3 => ∃ (v : V) (u8 : Option V), σ = [u0, u1, some (.ref p), u3, u4, u5, some (.ref T), some v, u8, u9] ∧ Chn G i v G3 ∧ Kp (· ≠ p) G G3 ∧ Purse G3 p (n + 1 + i))
    ⟨v, _, rfl, ch0, k12, by simpa using pu2⟩ (fun i σ G3 hi pv => ?_) fun σ G3 pv => ?_⟩
  · obtain ⟨v3, u8', rfl, ch, k3, pu3⟩ := pv
    refine ⟨_, rfl, by show 2 ≤ sizeLine; decide, fun A hA => ⟨_, rfl, by show 3 ≤ sizeLine; decide, fun B hB => ⟨_, rfl, by show 4 ≤ sizeLine; decide, fun C hC => ⟨by show 3 ≤ 1000; decide, fun L hL _ => ?_⟩⟩⟩⟩
    have sA := same_new (o := .tup [.str "not", v3]) hA
    have sB := same_new (o := .tup [.str "at", .int 1, v3]) hB
    have sC := same_new (o := .tup [.str "when", v3, .str "b", .int 1]) hC
    have sL := same_new (o := .lst [.ref A, .ref B, .ref C]) hL
    have gA := sL _ _ (sC _ _ (sB _ _ (upd_same (H := G3) (a := A) (o := .tup [.str "not", v3]))))
    have gB := sL _ _ (sC _ _ (upd_same (H := upd G3 A (.tup [.str "not", v3])) (a := B) (o := .tup [.str "at", .int 1, v3])))
    have gC := sL _ _ (upd_same (H := upd (upd G3 A (.tup [.str "not", v3])) B (.tup [.str "at", .int 1, v3])) (a := C) (o := .tup [.str "when", v3, .str "b", .int 1]))
    have gL := upd_same (H := upd (upd (upd G3 A (.tup [.str "not", v3])) B (.tup [.str "at", .int 1, v3])) C (.tup [.str "when", v3, .str "b", .int 1])) (a := L) (o := .lst [.ref A, .ref B, .ref C])
    have s4 := ((sA.trans sB).trans sC).trans sL
    have fB := sA.free hB
    have fC := (sA.trans sB).free hC
    have fL := ((sA.trans sB).trans sC).free hL
    generalize upd (upd (upd (upd G3 A (.tup [.str "not", v3])) B (.tup [.str "at", .int 1, v3])) C (.tup [.str "when", v3, .str "b", .int 1])) L (.lst [.ref A, .ref B, .ref C]) = G4 at *
    have bk : ∀ {a : Addr}, G3 a = none → G a = none := fun h => pu3.back k3 h
    refine take_ok rfl (pu3.same s4) (by omega) (by decide) (by decide) (fun c G5 c0 c1 k5 pu5 => ?_)
    obtain ⟨y, my, ey⟩ := pick (xs := [V.ref A, V.ref B, V.ref C]) c0 c1
    have ch4 : Chn G i v3 G5 := chn_same (fun a o h e => k5 a o (pu.ne h) (s4 _ _ e)) ch
    obtain ⟨es, sh, ft, hl⟩ := ch4
    have ch5 : Chn G (i + 1) y G5 := by
      simp only [List.mem_cons, List.not_mem_nil, or_false] at my
      rcases my with rfl | rfl | rfl
      · refine ⟨[.str "not", .tuple es], .tup (k5 _ _ (pu3.ne hA) gA) (bk hA) (.cons (.str _) (.cons sh .nil)), fit_tup.mpr ⟨by show 2 ≤ 10; decide, fitA_cons (fit_str.mpr o4) (fitA_cons ft fitA_nil)⟩, ?_⟩
        rw [sl_tup, slA_cons, slA_cons, slA_nil, l4]; omega
      · refine ⟨[.str "at", .int 1, .tuple es], .tup (k5 _ _ (pu3.ne fB) gB) (bk fB) (.cons (.str _) (.cons (.int _) (.cons sh .nil))), fit_tup.mpr ⟨by show 3 ≤ 10; decide, fitA_cons (fit_str.mpr o5) (fitA_cons (fit_int.mpr (.inl (by decide))) (fitA_cons ft fitA_nil))⟩, ?_⟩
        have := sl_int (i := 1) (by decide)
        rw [sl_tup, slA_cons, slA_cons, slA_cons, slA_nil, l5]; omega
      · refine ⟨[.str "when", .tuple es, .str "b", .int 1], .tup (k5 _ _ (pu3.ne fC) gC) (bk fC) (.cons (.str _) (.cons sh (.cons (.str _) (.cons (.int _) .nil)))), fit_tup.mpr ⟨by show 4 ≤ 10; decide, fitA_cons (fit_str.mpr o6) (fitA_cons ft (fitA_cons (fit_str.mpr o7) (fitA_cons (fit_int.mpr (.inl (by decide))) fitA_nil)))⟩, ?_⟩
        have := sl_int (i := 1) (by decide)
        rw [sl_tup, slA_cons, slA_cons, slA_cons, slA_cons, slA_nil, l6, l7]; omega
    refine ⟨L, _, c, y, rfl, rfl, SqL.of (k5 _ _ (pu3.ne fL) gL), ey, ?_⟩
    refine ⟨y, _, rfl, ch5, (k3.trans (kp_same s4)).trans k5, pu5.mono (by omega)⟩
  · obtain ⟨v3, u8', rfl, ⟨es, sh, ft, hl⟩, k3, pu3⟩ := pv
    have gT3 := k3 _ _ nTp gT
    refine ⟨_, rfl, .inl ⟨rfl, _, SqL.of gT3⟩, _, rfl, T, _, _, rfl, rfl, gT3, by rw [sizeLine_eq]; omega, ?_⟩
    have kN : ∀ b o, b ≠ p → b ≠ T → G b = some o → upd G3 T (.lst (vs ++ [v3])) b = some o := fun b o n1 n2 e => by rw [upd_ne n2]; exact k3 _ _ n1 e
    have ne2 : ∀ b, M b → b ≠ p ∧ b ≠ T := fun b h => ⟨fun e => np (e ▸ h), fun e => nT (e ▸ h)⟩
    have fT : ∀ a, Fr G a → a ≠ T := fun a h e => by rw [e, Fr, gT] at h; cases h
    have g2 := g.snoc (P := Fr G) (G := upd G3 T (.lst (vs ++ [v3]))) (k := 9) (fun a o h e => kN a o (ne2 a h).1 (ne2 a h).2 e) (fun a h => ⟨hM a h, fun z => by
        obtain ⟨_, o, e⟩ := g.ls a z
        rw [Fr, e] at h
        cases h⟩) (Sh.on (fun _ _ h _ => h) (fun a o h e => by rw [upd_ne (fT a h)]; exact e) _ _ sh) lok_tup (fit_mono (by decide) _ (by decide) ft) (by decide) (by omega)
    refine tail D _ T _ _ M _ _ _ _ _ _ _ _ _ upd_same g2 nT fun u9' G' kG => fin _ _ _ G' (fun b o nb n1 n2 e => kG b o nb (kN b o n1 n2 e)) ?_
    have pu4 : Purse (upd G3 T (.lst (vs ++ [v3]))) p (n + 8) := (pu3.of (upd_ne (Ne.symm nTp))).mono (by omega)
    obtain ⟨x, y, z, e, r⟩ := pu4
    exact ⟨x, y, z, kG _ _ np e, r⟩
end
end P4
end Bf

namespace Bf
open PySem PySem.Spec PyProof.Rows L2
namespace P4
theorem Good.snocT {H : Hp} {N P : Addr → Prop} {vs : List V} {ds es : List PyData} {v : V} {k : Nat} (g : Good H N vs ds) (hN : ∀ a, P a → N a) (av : ∀ a, LsA vs ds a → ¬ P a) (sh : Sh H P true v (.tuple es)) (ft : fit 50 k (.tuple es)) (hk : k ≤ 20) (hl : sl (.tuple es) ≤ 330000) :
    Good H N (vs ++ [v]) (ds ++ [.tuple es]) ∧ ∀ a, LsA (vs ++ [v]) (ds ++ [.tuple es]) a → ¬ P a :=
  ⟨g.snoc (fun _ _ _ e => e) (fun a h => ⟨hN a h, fun z => av a z h⟩) sh lok_tup ft hk hl, fun a z => (lsA_snoc g.len z).elim (av a) fun ⟨⟨_, e⟩, _⟩ => nomatch e⟩
theorem more_sl : sl (.str "call") = 43 ∧ sl (.str "k") = 13 ∧ sl (.str "fold") = 43 ∧ strOk "call" = true ∧ strOk "k" = true ∧ strOk "fold" = true ∧ sl .none = 5 := by decide +kernel
section
variable {P : Program} {w : World} {K : PySem.W.Frag} {mg : Str → Option Value} {base : Heap} {fc fp ft fs fa fb fo fr : Addr} {dc dp dt ds da db do_ dr : FuncData}
set_option maxHeartbeats 4000000 in
theorem law_more (N : Need P w K mg base fc fp ft fs fa fb fo fr dc dp dt ds da db do_ dr) {f : Addr} {cdv : Value} {A : Around} {outer : List Env} {s : Shared} {H0 : Hp} {E : XK}
    (hA' : (A.deeper (envOfC "law" (defScope sLaw) s.heap.objs.size f cdv)).guards = some []) (hr : Room 85 (A.deeper (envOfC "law" (defScope sLaw) s.heap.objs.size f cdv))) :
    ∃ t, PSs (xLaw P w K mg base f cdv A outer s H0 E) (bT.drop 3) t ∧ ∀ (D : Ends) (G : Hp) (p T1 : Addr) (n : Int) (vs : List V) (ds es1 : List PyData) (N PS : Addr → Prop) (v1 : V) (u0 u1 u3 u5 u7 u8 u9 : Option V),
      Purse G p n → n ≤ 99000 → G T1 = some (.lst vs) → vs.length = 5 → Good G N vs ds → ¬ N p → (∀ a, G a = none → N a) →
      Sh G PS true v1 (.tuple es1) → (∀ a, PS a → N a) → (∀ a, LsA vs ds a → ¬ PS a) → fit 6 10 (.tuple es1) → sl (.tuple es1) ≤ 77000 →
      (∀ u6 u7 u8 u9 G', (∀ b o, ¬ N b → b ≠ p → G b = some o → G' b = some o) → Purse G' p (n + 8) → D.nx [u0, u1, some (.ref p), u3, some v1, u5, u6, u7, u8, u9] G') → t D [u0, u1, some (.ref p), u3, some v1, u5, some (.ref T1), u7, u8, u9] G := by
  obtain ⟨tt, hTail, tail⟩ := law_chain (outer := outer) (s := s) (H0 := H0) (E := E) N hA' hr
  refine ⟨_, (pss_cons (ps_set (i := 6) scLaw.nd rfl (Or.inl rfl) (pe_op op_catN (pv 6) (pe_lstN (pa_cons (pe_lstN (pa_cons (pv 4) pa_nil)) (pa_cons (pe_tup (pa_cons (pv 4) pa_nil)) (pa_cons (pe_slice sl_tupA (pv 4) po_none (po_some pe_int)) (pa_cons (pe_tup (pa_cons pe_str (pa_cons (pv 4) pa_nil))) (pa_cons (pe_tup (pa_cons pe_str (pa_cons pe_str (pa_cons (pe_tup (pa_cons (pv 4) pa_nil)) (pa_cons pe_non pa_nil))))) pa_nil))))))))
        (pss_cons (ps_expr (pe_bm PySem.F.plainAttrs_list PySem.F.slot_list_append PySem.F.type_list_append mt_append (pv 6) (pa_cons (pe_tup (pa_cons pe_str (pa_cons pe_str (pa_cons (pv 4) (pa_cons (pe_tup (pa_cons (pe_tup (pa_cons pe_str (pa_cons pe_str pa_nil))) pa_nil)) (pa_cons pe_non pa_nil)))))) pa_nil)))
        hTail)), ?_⟩
  intro D G p T1 n vs ds es1 M PS v1 u0 u1 u3 u5 u7 u8 u9 pu hn gT1 lv g np hM sh1 hPS av ft1 hl1 fin
  obtain ⟨l1, l2, l3, o1, o2, o3, l4⟩ := more_sl
  have ln := chn_sl
  have on_ := chn_ok
  have np' : ∀ {a : Addr}, G a = none → a ≠ p := fun h => pu.ne h
  -- the side's objects
  have shQ : Sh G (fun a => PS a ∧ ∃ o, G a = some o) true v1 (.tuple es1) := Sh.on (fun a o h e => ⟨h, o, e⟩) (fun _ _ _ e => e) _ _ sh1
  refine ⟨_, rfl, _, rfl, by show 1 ≤ 1000; decide, fun L6 hL6 nL6 => ⟨_, rfl, by show 1 ≤ sizeLine; decide, fun T7 hT7 => ⟨_, rfl, _, rfl, ?_⟩⟩⟩
  have sL := same_new (o := .lst [v1]) hL6
  have gL0 := upd_same (H := G) (a := L6) (o := .lst [v1])
  obtain ⟨F1, eF1⟩ : ∃ F1, F1 = upd G L6 (.lst [v1]) := ⟨_, rfl⟩
  rw [← eF1] at sL gL0 hT7 ⊢
  obtain ⟨P7, eP7⟩ : ∃ P7 : Addr → Prop, P7 = fun a => (PS a ∧ ∃ o, G a = some o) ∨ F1 a = none := ⟨_, rfl⟩
  have p7n : ∀ a, P7 a → M a := fun a h => by
    rw [eP7] at h
    exact h.elim (fun h => hPS a h.1) fun h => hM a (sL.free h)
  have fr7 : ∀ {F : Hp}, Same F1 F → ∀ a, F a = none → P7 a := fun sF a h => by rw [eP7]; exact .inr (sF.free h)
  have sh7 : ∀ {F : Hp}, Same G F → Sh F P7 true v1 (.tuple es1) := fun sF => Sh.on (fun a o h _ => by rw [eP7]; exact .inl h) (fun a o _ e => sF a o e) _ _ shQ
  have sT7 := same_new (o := .tup [v1]) hT7
  have gT70 := upd_same (H := F1) (a := T7) (o := .tup [v1])
  have pT7 : P7 T7 := fr7 (Same.refl F1) _ hT7
  generalize upd F1 T7 (.tup [v1]) = F2 at sT7 gT70 ⊢
  have tq : Tq P7 F2 v1 es1 := by
    have h := sh7 (sL.trans sT7)
    cases h with
    | tup h p r => exact ⟨_, _, rfl, h, p, r⟩
  refine cut_okT (fr7 sT7) tq fun z8 F3 s3 t8 => ?_
  have e8 := cutG_to es1 1
  rw [show ((1 : Nat) : Int) = 1 from rfl] at e8
  rw [e8] at t8
  refine ⟨_, rfl, by show 2 ≤ sizeLine; decide, fun T9 hT9 => ⟨_, rfl, by show 1 ≤ sizeLine; decide, fun Ti hTi => ⟨by show 4 ≤ sizeLine; decide, fun T10 hT10 => ⟨by show 5 ≤ 1000; decide, fun T2 hT2 nT2 => ?_⟩⟩⟩⟩
  have s13 := sT7.trans s3
  have pT9 : P7 T9 := fr7 s13 _ hT9
  have s9 := same_new (o := .tup [.str "not", v1]) hT9
  have g9 := upd_same (H := F3) (a := T9) (o := .tup [.str "not", v1])
  generalize upd F3 T9 (.tup [.str "not", v1]) = F4 at s9 g9 hTi hT10 hT2 ⊢
  have s14 := s13.trans s9
  have pTi : P7 Ti := fr7 s14 _ hTi
  have si := same_new (o := .tup [v1]) hTi
  have gi := upd_same (H := F4) (a := Ti) (o := .tup [v1])
  generalize upd F4 Ti (.tup [v1]) = F5 at si gi hT10 hT2 ⊢
  have s15 := s14.trans si
  have pT10 : P7 T10 := fr7 s15 _ hT10
  have s10 := same_new (o := .tup [.str "call", .str "k", .ref Ti, .non]) hT10
  have g10 := upd_same (H := F5) (a := T10) (o := .tup [.str "call", .str "k", .ref Ti, .non])
  generalize upd F5 T10 (.tup [.str "call", .str "k", .ref Ti, .non]) = F6 at s10 g10 hT2 ⊢
  have s16 := s15.trans s10
  have sT2 := same_new (o := .lst [.ref L6, .ref T7, z8, .ref T9, .ref T10]) hT2
  have gT2 := upd_same (H := F6) (a := T2) (o := .lst [.ref L6, .ref T7, z8, .ref T9, .ref T10])
  generalize upd F6 T2 (.lst [.ref L6, .ref T7, z8, .ref T9, .ref T10]) = F7 at sT2 gT2 ⊢
  have s17 := s16.trans sT2
  have sG7 := sL.trans s17
  refine ⟨T1, T2, vs, _, rfl, rfl, sG7 _ _ gT1, gT2, by rw [sizeLine_eq, lv]; show 5 + 5 ≤ 16777216; decide, fun T3 hT3 nT3 => ?_⟩
  have sT3 := same_new (o := .lst (vs ++ [.ref L6, .ref T7, z8, .ref T9, .ref T10])) hT3
  have gT3 := upd_same (H := F7) (a := T3) (o := .lst (vs ++ [.ref L6, .ref T7, z8, .ref T9, .ref T10]))
  have hT3G : G T3 = none := sG7.free hT3
  have hT31 : F1 T3 = none := s17.free hT3
  generalize upd F7 T3 (.lst (vs ++ [.ref L6, .ref T7, z8, .ref T9, .ref T10])) = F8 at sT3 gT3 ⊢
  have s18 := s17.trans sT3
  have sG8 := sL.trans s18
  -- the five
  have gl6 : F7 L6 = some (.lst [v1]) := s17 _ _ gL0
  have gt7 : F7 T7 = some (.tup [v1]) := sT2 _ _ (s10 _ _ (si _ _ (s9 _ _ (s3 _ _ gT70))))
  have t8' := (((t8.same s9).same si).same s10).same sT2
  have gt9 : F7 T9 = some (.tup [.str "not", v1]) := sT2 _ _ (s10 _ _ (si _ _ g9))
  have gti : F7 Ti = some (.tup [v1]) := sT2 _ _ (s10 _ _ gi)
  have gt10 : F7 T10 = some (.tup [.str "call", .str "k", .ref Ti, .non]) := sT2 _ _ g10
  have v8 := sh7 sG7
  have q6 : ∀ a, (PS a ∧ ∃ o, G a = some o) → a ≠ L6 := fun a ⟨_, o, e⟩ z => by rw [z, hL6] at e; cases e
  obtain ⟨lw, fe⟩ := fit_tup.mp ft1
  have f1 : fit 50 10 (.tuple es1) := fit_mono (by decide) _ (Nat.le_refl _) ft1
  have g0 : Good F7 M vs ds := g.on (fun _ _ h _ => h) fun a o _ e => sG7 a o e
  have g6 : Good F7 M (vs ++ [.ref L6]) (ds ++ [.list [.tuple es1]]) := g0.snoc (P := fun a => (PS a ∧ ∃ o, G a = some o) ∨ G a = none) (k := 11) (fun _ _ _ e => e)
    (fun a h => ⟨h.elim (fun h => hPS a h.1) (hM a), fun z => h.elim (fun h => av a z h.1) fun h => by obtain ⟨_, o, e⟩ := g.ls a z; rw [h] at e; cases e⟩)
    (.lst gl6 (.inr hL6) (fun _ => nL6) (.cons (Sh.on (fun a o h _ => .inl h) (fun a o _ e => sG7 a o e) _ _ shQ) .nil))
    (fun es e => by
      cases e
      exact ⟨L6, _, rfl, gl6, .cons (Sh.on (fun a o h _ => ⟨.inl h, q6 a h⟩) (fun a o _ e => sG7 a o e) _ _ shQ) .nil⟩)
    (fit_lst.mpr ⟨by show 1 ≤ 50; decide, fitA_cons f1 fitA_nil⟩) (by decide) (by rw [sl_lst, slA_cons, slA_nil]; omega)
  have av6 : ∀ a, LsA (vs ++ [.ref L6]) (ds ++ [.list [.tuple es1]]) a → ¬ P7 a := fun a z h => by
    rw [eP7] at h
    rcases lsA_snoc g.len z with z | ⟨_, z⟩
    · rcases h with h | h
      · exact av a z h.1
      · obtain ⟨_, o, e⟩ := g.ls a z
        rw [sL _ _ e] at h
        cases h
    · cases z
      rcases h with h | h
      · exact q6 _ h rfl
      · rw [gL0] at h
        cases h
  obtain ⟨g7, av7⟩ := g6.snocT (v := .ref T7) (es := [.tuple es1]) (k := 11) p7n av6 (.tup gt7 pT7 (.cons v8 .nil)) (fit_tup.mpr ⟨by show 1 ≤ 50; decide, fitA_cons f1 fitA_nil⟩) (by decide) (by rw [sl_tup, slA_cons, slA_nil]; omega)
  obtain ⟨a8, y8, rfl, h8, p8, r8⟩ := t8'
  have m8 : ∀ e ∈ es1.take 1, e ∈ es1 := fun e m => List.mem_of_mem_take m
  have sl8 : slA (es1.take 1) ≤ slA es1 := by
    have z := slA_app (es1.take 1) (es1.drop 1)
    rw [List.take_append_drop] at z
    omega
  rw [sl_tup] at hl1
  obtain ⟨g8_, av8⟩ := g7.snocT (v := .ref a8) (es := es1.take 1) (k := 10) p7n av7 (.tup h8 p8 r8) (fit_tup.mpr ⟨by rw [List.length_take]; omega, fun e m => fit_mono (by decide) e (Nat.le_refl _) (fe e (m8 e m))⟩) (by decide) (by rw [sl_tup]; omega)
  obtain ⟨g9_, av9⟩ := g8_.snocT (v := .ref T9) (es := [.str "not", .tuple es1]) (k := 11) p7n av8 (.tup gt9 pT9 (.cons (.str _) (.cons v8 .nil))) (fit_tup.mpr ⟨by show 2 ≤ 50; decide, fitA_cons (fit_str.mpr on_.2.2.2.1) (fitA_cons f1 fitA_nil)⟩) (by decide) (by rw [sl_tup, slA_cons, slA_cons, slA_nil, ln.2.2.2.1, sl_tup]; omega)
  obtain ⟨g10_, av10⟩ := g9_.snocT (v := .ref T10) (es := [.str "call", .str "k", .tuple [.tuple es1], .none]) (k := 12) p7n av9 (.tup gt10 pT10 (.cons (.str _) (.cons (.str _) (.cons (.tup gti pTi (.cons v8 .nil)) (.cons .non .nil)))))
    (fit_tup.mpr ⟨by show 4 ≤ 50; decide, fitA_cons (fit_str.mpr o1) (fitA_cons (fit_str.mpr o2) (fitA_cons (fit_tup.mpr ⟨by show 1 ≤ 50; decide, fitA_cons f1 fitA_nil⟩) (fitA_cons fit_non fitA_nil)))⟩) (by decide)
    (by rw [sl_tup, slA_cons, slA_cons, slA_cons, slA_cons, slA_nil, l1, l2, l4, sl_tup, slA_cons, slA_nil, sl_tup]; omega)
  have elist : vs ++ [V.ref L6] ++ [V.ref T7] ++ [V.ref a8] ++ [V.ref T9] ++ [V.ref T10] = vs ++ [.ref L6, .ref T7, .ref a8, .ref T9, .ref T10] := by simp
  rw [elist] at g10_ av10
  generalize ds ++ [PyData.list [.tuple es1]] ++ [PyData.tuple [.tuple es1]] ++ [PyData.tuple (es1.take 1)] ++ [PyData.tuple [.str "not", .tuple es1]] ++ [PyData.tuple [.str "call", .str "k", .tuple [.tuple es1], .none]] = ds10 at g10_ av10
  have lv10 : (vs ++ [V.ref L6, .ref T7, .ref a8, .ref T9, .ref T10]).length = 10 := by rw [List.length_append, lv]; rfl
  generalize vs ++ [V.ref L6, .ref T7, .ref a8, .ref T9, .ref T10] = vs10 at g10_ av10 lv10 gT3 ⊢
  clear g9_ av9 g8_ av8 g7 av7 g6 av6 elist
  -- the fold
  refine ⟨_, rfl, .inl ⟨rfl, _, SqL.of gT3⟩, _, rfl, by show 2 ≤ sizeLine; decide, fun A1 hA1 => ⟨by show 1 ≤ sizeLine; decide, fun A2 hA2 => ⟨by show 5 ≤ sizeLine; decide, fun A3 hA3 => ?_⟩⟩⟩
  have r1 := same_new (o := .tup [.str "name", .str "a"]) hA1
  have ga1 := upd_same (H := F8) (a := A1) (o := .tup [.str "name", .str "a"])
  have pA1 := fr7 s18 _ hA1
  have nA1 : A1 ≠ T3 := ne_free gT3 hA1
  generalize upd F8 A1 (.tup [.str "name", .str "a"]) = F9 at r1 ga1 hA2 hA3 ⊢
  have s19 := s18.trans r1
  have r2 := same_new (o := .tup [.ref A1]) hA2
  have ga2 := upd_same (H := F9) (a := A2) (o := .tup [.ref A1])
  have pA2 := fr7 s19 _ hA2
  have gT39 := r1 _ _ gT3
  have nA2 : A2 ≠ T3 := ne_free gT39 hA2
  generalize upd F9 A2 (.tup [.ref A1]) = F10 at r2 ga2 hA3 ⊢
  have s110 := s19.trans r2
  have r3 := same_new (o := .tup [.str "fold", .str "k", v1, .ref A2, .non]) hA3
  have ga3 := upd_same (H := F10) (a := A3) (o := .tup [.str "fold", .str "k", v1, .ref A2, .non])
  have pA3 := fr7 s110 _ hA3
  have gT310 := r2 _ _ gT39
  have nA3 : A3 ≠ T3 := ne_free gT310 hA3
  generalize upd F10 A3 (.tup [.str "fold", .str "k", v1, .ref A2, .non]) = F11 at r3 ga3 ⊢
  have gT311 := r3 _ _ gT310
  have s111 := s110.trans r3
  have sG11 := sL.trans s111
  have s711 := ((sT3.trans r1).trans r2).trans r3
  refine ⟨T3, _, _, rfl, rfl, gT311, by rw [lv10, sizeLine_eq]; decide, ?_⟩
  have up : ∀ {a : Addr} {o : HO}, a ≠ T3 → F11 a = some o → upd F11 T3 (.lst (vs10 ++ [.ref A3])) a = some o := fun n e => (upd_ne n).trans e
  have gA1 := up nA1 (r3 _ _ (r2 _ _ ga1))
  have gA2 := up nA2 (r3 _ _ ga2)
  have gA3 := up nA3 ga3
  have nG3 : ∀ {a : Addr} {o : HO}, G a = some o → a ≠ T3 := fun e => ne_of_none e hT3G
  have v12 : Sh (upd F11 T3 (.lst (vs10 ++ [.ref A3]))) (fun a => P7 a ∧ a ≠ T3) true v1 (.tuple es1) := Sh.on (fun a o h e => ⟨by rw [eP7]; exact .inl h, nG3 e⟩) (fun a o _ e => up (nG3 e) (sG11 _ _ e)) _ _ shQ
  have hT37 := hT3
  have g12 : Good (upd F11 T3 (.lst (vs10 ++ [.ref A3]))) (fun a => M a ∧ a ≠ T3) (vs10 ++ [.ref A3]) (ds10 ++ [.tuple [.str "fold", .str "k", .tuple es1, .tuple [.tuple [.str "name", .str "a"]], .none]]) :=
    Good.snoc (H := upd F11 T3 (.lst (vs10 ++ [.ref A3]))) (P := fun a => P7 a ∧ a ≠ T3) (k := 12) (g10_.on (N' := fun a => M a ∧ a ≠ T3) (fun a o h e => ⟨h, ne_of_none e hT37⟩) fun a o _ e => up (ne_of_none e hT37) (s711 _ _ e)) (fun _ _ _ e => e)
      (fun a h => ⟨⟨p7n a h.1, h.2⟩, fun z => av10 a z h.1⟩)
      (.tup gA3 ⟨pA3, nA3⟩ (.cons (.str _) (.cons (.str _) (.cons v12 (.cons (.tup gA2 ⟨pA2, nA2⟩ (.cons (.tup gA1 ⟨pA1, nA1⟩ (.cons (.str _) (.cons (.str _) .nil))) .nil)) (.cons .non .nil)))))) lok_tup
      (fit_tup.mpr ⟨by show 5 ≤ 50; decide, fitA_cons (fit_str.mpr o3) (fitA_cons (fit_str.mpr o2) (fitA_cons (fit_mono (Nat.le_refl _) _ (by decide) f1) (fitA_cons (fit_tup.mpr ⟨by show 1 ≤ 50; decide, fitA_cons (fit_tup.mpr ⟨by show 2 ≤ 50; decide, fitA_cons (fit_str.mpr on_.1) (fitA_cons (fit_str.mpr on_.2.1) fitA_nil)⟩) fitA_nil⟩) (fitA_cons fit_non fitA_nil))))⟩) (by decide)
      (by
        have z1 : sl (.tuple [.str "name", .str "a"]) = 63 := by rw [sl_tup, slA_cons, slA_cons, slA_nil, ln.1, ln.2.1]
        have z2 : sl (.tuple [.tuple [.str "name", .str "a"]]) = 68 := by rw [sl_tup, slA_cons, slA_nil, z1]
        rw [sl_tup, slA_cons, slA_cons, slA_cons, slA_cons, slA_cons, slA_nil, l2, l3, l4, z2, sl_tup]; omega)
  have nT3p : T3 ≠ p := np' hT3G
  have pu12 : Purse (upd F11 T3 (.lst (vs10 ++ [.ref A3]))) p n := (pu.same sG11).of (upd_ne nT3p.symm)
  refine tail D _ p T3 n _ _ (fun a => M a ∧ a ≠ T3) _ _ _ _ _ _ _ _ pu12 hn upd_same (by rw [List.length_append, lv10]; show 10 + 1 ≤ 100; decide) g12 (fun h => h.2 rfl) (fun h => np h.1) nT3p (fun a h => ?_) fun u7' u8' u9' G' kG puG => fin _ _ _ _ G' (fun b o nb n1 e => kG b o (fun h => nb h.1) n1 (nG3 e) (up (nG3 e) (sG11 _ _ e))) puG
  have na : a ≠ T3 := fun e => by rw [e, upd_same] at h; cases h
  rw [upd_ne na] at h
  exact ⟨hM a (sG11.free h), na⟩
end
end P4
end Bf

namespace Bf
open PySem PySem.Spec PyProof.Rows L2
namespace P4
theorem TS3 : T 3 = 533 ∧ S 3 = 10860 := by decide +kernel
section
variable {P : Program} {w : World} {K : PySem.W.Frag} {mg : Str → Option Value} {base : Heap} {fc fp ft fs fa fb fo fr : Addr} {dc dp dt ds da db do_ dr : FuncData}
set_option maxHeartbeats 4000000 in
theorem law_turn (N : Need P w K mg base fc fp ft fs fa fb fo fr dc dp dt ds da db do_ dr) {f : Addr} {cdv : Value} {A : Around} {outer : List Env} {s : Shared} {H0 : Hp} {E : XK}
    (hA' : (A.deeper (envOfC "law" (defScope sLaw) s.heap.objs.size f cdv)).guards = some []) (hr : Room 85 (A.deeper (envOfC "law" (defScope sLaw) s.heap.objs.size f cdv))) :
    ∃ t, PSs (xLaw P w K mg base f cdv A outer s H0 E) bT t ∧ ∀ (D : Ends) (H : Hp) (p : Addr) (n : Int) (u0 u1 u3 u4 u5 u6 u7 u8 u9 : Option V),
      Purse H p n → n ≤ 50000 → (∀ u4 u5 u6 u7 u8 u9 G, Kp (· ≠ p) H G → Purse G p (n + 9000) → D.nx [u0, u1, some (.ref p), u3, u4, u5, u6, u7, u8, u9] G) → t D [u0, u1, some (.ref p), u3, u4, u5, u6, u7, u8, u9] H := by
  have hr1 := hr.mono (by decide : 1 ≤ 85)
  have hr3 := hr.mono (by decide : 3 ≤ 85)
  have hr8 := hr.mono (by decide : 8 ≤ 85)
  have hr9 := hr.mono (by decide : 9 ≤ 85)
  have hr18 := hr.mono (by decide : 18 ≤ 85)
  obtain ⟨tt, hTail, tail⟩ := law_more (outer := outer) (s := s) (H0 := H0) (E := E) N hA' hr
  refine ⟨_, (pss_cons (ps_set (i := 4) scLaw.nd rfl (Or.inl rfl) (pe_call N.GS hr9 (by rfl) N.DS.at_ N.DS.kp N.DS.bd .nil pass0 (pa_cons (pv 2) (pa_cons (pe_ix ix_list (pe_lstN (pa_cons pe_int (pa_cons pe_int (pa_cons pe_int (pa_cons pe_int (pa_cons pe_int pa_nil)))))) (pe_call N.GT hr1 (by rfl) N.DT.at_ N.DT.kp N.DT.bd .nil pass0 (pa_cons (pv 2) (pa_cons pe_int pa_nil))) (fun _ _ => rfl)) pa_nil))))
        (pss_cons (ps_set (i := 5) scLaw.nd rfl (Or.inl rfl) (pe_call N.GB hr18 (by rfl) N.DB.at_ N.DB.kp N.DB.bd .nil pass0 (pa_cons (pv 2) (pa_cons (pv 4) pa_nil))))
        (pss_cons (ps_set (i := 6) scLaw.nd rfl (Or.inl rfl) (pe_lstN (pa_cons (pv 4) (pa_cons (pv 5) (pa_cons (pe_call N.GB hr18 (by rfl) N.DB.at_ N.DB.kp N.DB.bd .nil pass0 (pa_cons (pv 2) (pa_cons (pv 5) pa_nil))) (pa_cons (pe_call N.GA hr8 (by rfl) N.DA.at_ N.DA.kp N.DA.bd .nil pass0 (pa_cons (pv 2) (pa_cons pe_int pa_nil))) (pa_cons (pe_call N.GO hr3 (by rfl) N.DO.at_ N.DO.kp N.DO.bd .nil pass0 (pa_cons (pv 2) pa_nil)) pa_nil)))))))
        hTail))), ?_⟩
  intro D H p n u0 u1 u3 u4 u5 u6 u7 u8 u9 pu hn fin
  obtain ⟨eT3, eS3⟩ := TS3
  -- the side
  refine ⟨_, rfl, by show 5 ≤ 1000; decide, fun L hL nL => take_ok rfl (pu.same (same_new hL)) (by omega) (by decide) (by decide) (fun c G2 c0 c1 k2 pu2 => ?_)⟩
  have gL := k2 _ _ (pu.ne hL) (upd_same (H := H) (a := L) (o := .lst [.int 0, .int 1, .int 2, .int 3, .int 1]))
  have k02 : Kp (· ≠ p) H G2 := (kp_same (same_new hL)).trans k2
  obtain ⟨v, mv, ev⟩ := pick (xs := [V.int 0, .int 1, .int 2, .int 3, .int 1]) c0 c1
  obtain ⟨k, rfl, hk⟩ : ∃ k : Nat, v = V.int ((k : Nat) : Int) ∧ k ≤ 3 := by
    simp only [List.mem_cons, List.not_mem_nil, or_false] at mv
    rcases mv with rfl | rfl | rfl | rfl | rfl
    · exact ⟨0, rfl, by decide⟩
    · exact ⟨1, rfl, by decide⟩
    · exact ⟨2, rfl, by decide⟩
    · exact ⟨3, rfl, by decide⟩
    · exact ⟨1, rfl, by decide⟩
  refine ⟨L, _, c, _, rfl, rfl, SqL.of gL, ev, p, n + 1, _, k, rfl, rfl, hk, pu2, by omega, fun v1 d1 Hs sh1 ft1 hl1 tp1 k3 pu3 => ?_⟩
  obtain ⟨es1, rfl, _⟩ := tp1
  have k0s : Kp (· ≠ p) H Hs := k02.trans k3
  obtain ⟨PS, eP⟩ : ∃ PS : Addr → Prop, PS = fun a => Fr H a ∧ ∃ o, Hs a = some o := ⟨_, rfl⟩
  have ps1 : ∀ a, PS a → Fr H a := fun a h => by rw [eP] at h; exact h.1
  have psp : ¬ PS p := fun h => fr_ne (pu.choose_spec.choose_spec.choose_spec.1) (ps1 p h) rfl
  have shS : Sh Hs PS true v1 (.tuple es1) := Sh.on (fun a o h e => by rw [eP]; exact ⟨pu2.back k02 h, o, e⟩) (fun _ _ _ e => e) _ _ sh1
  -- bent
  refine ⟨_, rfl, _, rfl, p, n + 1 + 8200, v1, _, PS, 6, 10, rfl, pu3, by omega, shS, ft1, by decide, by decide, by decide, psp, fun y e Gb bo kb pub => ?_⟩
  have k0b : Kp (· ≠ p) H Gb := k0s.trans kb
  have bks : ∀ {a : Addr}, Hs a = none → H a = none := fun h => pu3.back k0s h
  have bkb : ∀ {a : Addr}, Gb a = none → Hs a = none := fun h => pub.back kb h
  have pb : ∀ a, (PS a ∨ Hs a = none) → Fr H a := fun a h => h.elim (ps1 a) bks
  have npH : ∀ a, Fr H a → a ≠ p := fun a h => pu.ne h
  have shB : Sh Gb (fun a => Fr H a ∧ ∃ o, Gb a = some o) true y e := Sh.on (fun a o h e => ⟨pb a h, o, e⟩) (fun _ _ _ e => e) _ _ bo.sh
  have hle := bo.le
  -- the things
  refine ⟨_, rfl, _, rfl, _, rfl, _, rfl, p, _, y, e, _, 13, 14, rfl, pub, by omega, shB, bo.ft, by decide, by decide, by decide, fun h => npH p h.1 rfl, fun y2 e2 Gc bo2 kc puc => ?_⟩
  have hle2 := bo2.le
  have bkc : ∀ {a : Addr}, Gc a = none → Gb a = none := fun h => puc.back kc h
  refine ⟨_, rfl, p, _, 3, 3, rfl, rfl, by decide, puc, by rw [eT3]; omega, fun v4 d4 Gd sh4 ft4 hl4 tp4 kd pud => ?_⟩
  obtain ⟨es4, rfl, _⟩ := tp4
  rw [eS3] at hl4
  rw [eT3] at pud
  have bkd : ∀ {a : Addr}, Gd a = none → Gc a = none := fun h => pud.back kd h
  refine ⟨_, rfl, p, _, rfl, pud, by omega, fun v5 Ge ov ke pue => ⟨by show 5 ≤ 1000; decide, fun T1 hT1 nT1 => ?_⟩⟩
  obtain ⟨d5, sh5, ft5, hl5, lo5⟩ := ov
  have bke : ∀ {a : Addr}, Ge a = none → Gd a = none := fun h => pue.back ke h
  -- all five
  have kpH : ∀ {G G' : Hp}, Kp (· ≠ p) G G' → ∀ a o, Fr H a → G a = some o → G' a = some o := fun k a o h e => k a o (npH a h) e
  have g1 : Good Gb (Fr H) [v1] [.tuple es1] := .cons (Sh.on (fun a _ h _ => ps1 a h) (fun a o h e => kb a o (npH a (ps1 a h)) e) _ _ shS) lok_tup (fit_mono (by decide) _ (Nat.le_refl _) ft1) (by decide) (by omega) .nil
  have g2 : Good Gb (Fr H) [v1, y] [.tuple es1, e] := g1.snoc (P := fun a => PS a ∨ Hs a = none) (fun _ _ _ e => e) (fun a h => ⟨pb a h, fun z => z.elim (fun ⟨⟨_, e⟩, _⟩ => nomatch e) fun z => z⟩) bo.sh bo.lo (fit_mono (by decide) _ (Nat.le_refl _) bo.ft) (by decide) (by omega)
  have ls2 : ∀ a, LsA [v1, y] [.tuple es1, e] a → Hs a = none := fun a z => by
    rcases z with ⟨⟨_, e⟩, _⟩ | ⟨⟨es, e⟩, ey⟩ | z
    · cases e
    · exact bo.nw es a e ey
    · exact z.elim
  obtain ⟨P3, sh3, lo3, p3, av3⟩ : ∃ P3 : Addr → Prop, Sh Gc P3 true y2 e2 ∧ Lok P3 Gc y2 e2 ∧ (∀ a, P3 a → Fr H a) ∧ ∀ a, P3 a → ¬ LsA [v1, y] [.tuple es1, e] a := by
    by_cases ht : ∃ es, e = .tuple es
    · obtain ⟨es, rfl⟩ := ht
      refine ⟨_, bo2.sh, bo2.lo, fun a h => h.elim (fun h => h.1) fun h => bks (bkb h), fun a _ z => ?_⟩
      rcases z with ⟨⟨_, e⟩, _⟩ | ⟨⟨es, e⟩, ey⟩ | z
      · cases e
      · cases e
      · exact z.elim
    · obtain ⟨s3, l3⟩ := bo2.fr fun ds e' => ht ⟨ds, e'⟩
      refine ⟨_, s3, l3, fun a h => bks (bkb h), fun a h z => ?_⟩
      obtain ⟨_, o, e'⟩ := g2.ls a z
      rw [Fr, e'] at h
      cases h
  have g3 : Good Gc (Fr H) [v1, y, y2] [.tuple es1, e, e2] := g2.snoc (P := P3) (kpH kc) (fun a h => ⟨p3 a h, av3 a h⟩) sh3 lo3 (fit_mono (by decide) _ (Nat.le_refl _) bo2.ft) (by decide) (by omega)
  have ls3 : ∀ a, LsA [v1, y, y2] [.tuple es1, e, e2] a → Hs a = none := fun a z => by
    rcases lsA_snoc (vs := [v1, y]) (ds := [.tuple es1, e]) rfl z with z | ⟨⟨es, e'⟩, ey⟩
    · exact ls2 a z
    · exact bkb (bo2.nw es a e' ey)
  have g4 : Good Gd (Fr H) [v1, y, y2, v4] [.tuple es1, e, e2, .tuple es4] := g3.snoc (P := Fr Gc) (kpH kd) (fun a h => ⟨bks (bkb (bkc h)), fun z => by
      obtain ⟨_, o, e'⟩ := g3.ls a z
      rw [Fr, e'] at h
      cases h⟩) sh4 lok_tup (fit_mono (by decide) _ (by decide) ft4) (by decide : 8 ≤ 20) (by omega)
  have g5 : Good Ge (Fr H) [v1, y, y2, v4, v5] [.tuple es1, e, e2, .tuple es4, d5] := g4.snoc (P := Fr Gd) (kpH ke) (fun a h => ⟨bks (bkb (bkc (bkd h))), fun z => by
      obtain ⟨_, o, e'⟩ := g4.ls a z
      rw [Fr, e'] at h
      cases h⟩) sh5 lo5 (fit_mono (by decide) _ (Nat.le_refl _) ft5) (by decide) (by omega)
  have ls5 : ∀ a, LsA [v1, y, y2, v4, v5] [.tuple es1, e, e2, .tuple es4, d5] a → ¬ PS a := fun a z h => by
    have hs : Hs a = none := by
      rcases lsA_snoc (vs := [v1, y, y2, v4]) (ds := [.tuple es1, e, e2, .tuple es4]) rfl z with z | ⟨⟨es, e'⟩, ey⟩
      · rcases lsA_snoc (vs := [v1, y, y2]) (ds := [.tuple es1, e, e2]) rfl z with z | ⟨⟨es, e'⟩, ey⟩
        · exact ls3 a z
        · cases e'
      · subst e' ey
        cases sh5 with
        | lst _ p _ _ => exact bkb (bkc (bkd p))
    rw [eP] at h
    obtain ⟨_, o, e'⟩ := h
    rw [hs] at e'
    cases e'
  have sT := same_new (o := .lst [v1, y, y2, v4, v5]) hT1
  have k0e : Kp (· ≠ p) H Ge := ((k0b.trans kc).trans kd).trans ke
  have kse : Kp (· ≠ p) Hs Ge := ((kb.trans kc).trans kd).trans ke
  have puf := pue.same sT
  refine tail D _ p T1 _ _ _ es1 (Fr H) PS v1 _ _ _ _ _ _ _ puf (by omega) upd_same rfl (g5.on (fun _ _ h _ => h) fun a o _ e => sT a o e) (fun h => npH p h rfl) (fun a h => bks (bkb (bkc (bkd (bke (sT.free h))))))
    (Sh.on (fun _ _ h _ => h) (fun a o h e => sT _ _ (kse a o (npH a (ps1 a h)) e)) _ _ shS) ps1 ls5 ft1 hl1 fun u6' u7' u8' u9' G' kG puG => fin _ _ _ _ _ _ G' (fun b o nb e => kG b o (fun h => by rw [Fr, e] at h; cases h) nb (sT _ _ (k0e b o nb e))) (puG.mono (by omega))
end
end P4
end Bf

namespace Bf
open PySem PySem.Spec PyProof.Rows L2
namespace P4
section
variable {P : Program} {w : World} {K : PySem.W.Frag} {mg : Str → Option Value} {base : Heap} {fc fp ft fs fa fb fo fr : Addr} {dc dp dt ds da db do_ dr : FuncData}
def spLaw (K : PySem.W.Frag) : Sp := fun vs H Q _ => ∃ (a : Addr) (ns : List Int), vs = [.ref a] ∧ SqL K H a (ns.map V.int) ∧ ns.length ≤ 63 ∧ ∀ H', Q (.bl true) H'
theorem ok_law {f : Addr} {fd : FuncData} (F : Fun K "law" "law" sLaw f fd) (N : Need P w K mg base fc fp ft fs fa fb fo fr dc dp dt ds da db do_ dr) :
    FnG P w K mg base CX0 86 f fd ["_law_script"] (spLaw K) := by
  refine Fun.okG F scLaw (fun vs H Q E h => ?_) (fun cdv A outer s H vs Q E hA hr h => ?_)
  · obtain ⟨a, ns, rfl, _⟩ := h
    rfl
  · obtain ⟨a, ns, rfl, hS, hl, q⟩ := h
    have hr1 := hr.mono (by decide : 1 ≤ 85)
    have hA' : (A.deeper (envOfC "law" (defScope sLaw) s.heap.objs.size f cdv)).guards = some [] := hA
    obtain ⟨tt, hTurn, turn⟩ := law_turn (outer := outer) (s := s) (H0 := H) (E := E) N hA' hr
    refine ⟨_, pss_cons (ps_for PassesOwn.leaving rfl (pi_range1 (by rfl) N.mr (pa_cons (pe_callB (call_max2 rfl) (by rfl) N.mx (by decide +kernel) (pa_cons pe_int (pa_cons (pe_callB (call_min2 rfl) (by rfl) N.mn (by decide +kernel)
          (pa_cons pe_int (pa_cons (pe_callB call_len_seq (by rfl) N.ml PySem.boot_len (pa_cons (pv 0) pa_nil)) pa_nil))) pa_nil))) pa_nil)) (pg_name (i := 1) scLaw.nd rfl (Or.inl rfl))
        (pss_cons (ps_set (i := 2) scLaw.nd rfl (Or.inl rfl) (pe_call N.GP hr1 (by rfl) N.DP.at_ N.DP.kp N.DP.bd .nil pass0 (pa_cons (pe_call N.GC hr1 (by rfl) N.DC.at_ N.DC.kp N.DC.bd .nil pass0 (pa_cons (pv 0) (pa_cons (pv 1) pa_nil))) pa_nil)))
        (pss_one (ps_for PassesOwn.leaving rfl (pi_range1 (by rfl) N.mr (pa_cons pe_int pa_nil)) (pg_name (i := 3) scLaw.nd rfl (Or.inl rfl)) hTurn))))
      (pss_one (ps_ret pe_bl)), ?_⟩
    have hcnt : ∀ l : Nat, 0 ≤ (if (if (l : Int) < 8 then (l : Int) else 8) > 2 then (if (l : Int) < 8 then (l : Int) else 8) else (2 : Int)) ∧ (if (if (l : Int) < 8 then (l : Int) else 8) > 2 then (if (l : Int) < 8 then (l : Int) else 8) else (2 : Int)) ≤ 8 := by
      intro l
      split <;> split <;> omega
    obtain ⟨c0, c8⟩ := hcnt (ns.map V.int).length
    refine ⟨_, rfl, a, _, rfl, .inl hS, _, _, rfl, _, _, rfl, _, rfl, Int.le_trans (by decide) c0, Int.lt_of_le_of_lt c8 (by decide), for_range (lo := 0) (n := _) (fun i σ H1 => (∃ v1 v2 v3 v4 v5 v6 v7 v8 v9, σ = [some (.ref a), v1, v2, v3, v4, v5, v6, v7, v8, v9]) ∧ SqL K H1 a (ns.map V.int))
      ⟨⟨_, _, _, _, _, _, _, _, _, rfl⟩, hS⟩ (fun i σ H1 hi pv => ?_) fun σ H1 pv => q H1⟩
    obtain ⟨⟨v1, v2, v3, v4, v5, v6, v7, v8, v9, rfl⟩, hS1⟩ := pv
    have hi8 : (i : Int) ≤ 8 := by omega
    refine ⟨_, rfl, _, rfl, a, ns, 0 + (i : Int), rfl, hS1, by omega, by omega, fun c => ⟨c, rfl, fun p H2 hp np eq2 pu2 => ?_⟩⟩
    have s2 : Same H1 H2 := fun b o e => (eq2 b (ne_of_none e hp)).trans e
    refine ⟨4, rfl, by decide, by decide, for_range (lo := 0) (n := 4) (fun i' σ G => (∃ w1 w3 w4 w5 w6 w7 w8 w9, σ = [some (.ref a), w1, some (.ref p), w3, w4, w5, w6, w7, w8, w9]) ∧ Kp (· ≠ p) H2 G ∧ Purse G p (9000 * (i' : Int)))
      ⟨⟨_, _, _, _, _, _, _, _, rfl⟩, kp_same (Same.refl _), by simpa using pu2⟩ (fun i' σ G hi' pv => ?_) fun σ G pv => ?_⟩
    · obtain ⟨⟨w1, w3, w4, w5, w6, w7, w8, w9, rfl⟩, kG, puG⟩ := pv
      exact turn _ G p _ _ _ _ _ _ _ _ _ _ puG (by omega) fun u4 u5 u6 u7 u8 u9 G' k' pu' => ⟨⟨_, _, _, _, _, _, _, _, rfl⟩, kG.trans k', pu'.mono (by omega)⟩
    · obtain ⟨⟨w1, w3, w4, w5, w6, w7, w8, w9, rfl⟩, kG, _⟩ := pv
      exact ⟨⟨_, _, _, _, _, _, _, _, _, rfl⟩, Same.seq (fun b o e => kG b o (ne_of_none e hp) (s2 _ _ e)) hS1⟩
end
end P4
end Bf

namespace Bf
open PySem PySem.Spec PyProof.Rows L2
namespace P4
set_option maxHeartbeats 4000000 in
theorem all_mk {l : PySem.W.OpenLaw} {w : World} {K : PySem.W.Frag} {h : Heap} {mg : Str → Option Value} {fa : Addr} (X : K.In h) (G : h.Ns mainGlobals mg) (hfa : mg "law" = some (.ref fa))
    {fnb : Addr} {odnb annb : Option Addr} {slnb : Array (Option Value)} {ocnb kVnb dcnb pmnb cdnb ctnb : Value}
    {fwh : Addr} {odwh anwh : Option Addr} {slwh : Array (Option Value)} {ocwh kVwh dcwh pmwh cdwh ctwh : Value}
    {fna : Addr} {odna anna : Option Addr} {slna : Array (Option Value)} {ocna kVna dcna pmna cdna ctna : Value}
    {fwi : Addr} {odwi anwi : Option Addr} {slwi : Array (Option Value)} {ocwi kVwi dcwi pmwi cdwi ctwi : Value}
    {ftr : Addr} {odtr antr : Option Addr} {sltr : Array (Option Value)} {octr kVtr dctr pmtr cdtr cttr : Value}
    {fki : Addr} {odki anki : Option Addr} {slki : Array (Option Value)} {ocki kVki dcki pmki cdki ctki : Value}
    {fiw : Addr} {odiw aniw : Option Addr} {sliw : Array (Option Value)} {ociw kViw dciw pmiw cdiw ctiw : Value}
    {fgr : Addr} {odgr angr : Option Addr} {slgr : Array (Option Value)} {ocgr kVgr dcgr pmgr cdgr ctgr : Value}
    {fwo : Addr} {odwo anwo : Option Addr} {slwo : Array (Option Value)} {ocwo kVwo dcwo pmwo cdwo ctwo : Value}
    {far : Addr} {odar anar : Option Addr} {slar : Array (Option Value)} {ocar kVar dcar pmar cdar ctar : Value}
    {fit : Addr} {odit anit : Option Addr} {slit : Array (Option Value)} {ocit kVit dcit pmit cdit ctit : Value}
    {fir : Addr} {odir anir : Option Addr} {slir : Array (Option Value)} {ocir kVir dcir pmir cdir ctir : Value}
    {fpo : Addr} {odpo anpo : Option Addr} {slpo : Array (Option Value)} {ocpo kVpo dcpo pmpo cdpo ctpo : Value}
    {fso : Addr} {odso anso : Option Addr} {slso : Array (Option Value)} {ocso kVso dcso pmso cdso ctso : Value}
    {fnn : Addr} {odnn annn : Option Addr} {slnn : Array (Option Value)} {ocnn kVnn dcnn pmnn cdnn ctnn : Value}
    {fnr : Addr} {odnr annr : Option Addr} {slnr : Array (Option Value)} {ocnr kVnr dcnr pmnr cdnr ctnr : Value}
    {fic : Addr} {odic anic : Option Addr} {slic : Array (Option Value)} {ocic kVic dcic pmic cdic ctic : Value}
    {fat : Addr} {odat anat : Option Addr} {slat : Array (Option Value)} {ocat kVat dcat pmat cdat ctat : Value}
    {ffo : Addr} {odfo anfo : Option Addr} {slfo : Array (Option Value)} {ocfo kVfo dcfo pmfo cdfo ctfo : Value}
    {ffi : Addr} {odfi anfi : Option Addr} {slfi : Array (Option Value)} {ocfi kVfi dcfi pmfi cdfi ctfi : Value}
    {ftw : Addr} {odtw antw : Option Addr} {sltw : Array (Option Value)} {octw kVtw dctw pmtw cdtw cttw : Value}
    {fpa : Addr} {odpa anpa : Option Addr} {slpa : Array (Option Value)} {ocpa kVpa dcpa pmpa cdpa ctpa : Value}
    {fce : Addr} {odce ance : Option Addr} {slce : Array (Option Value)} {occe kVce dcce pmce cdce ctce : Value}
    {fpu : Addr} {odpu anpu : Option Addr} {slpu : Array (Option Value)} {ocpu kVpu dcpu pmpu cdpu ctpu : Value}
    {fta : Addr} {odta anta : Option Addr} {slta : Array (Option Value)} {octa kVta dcta pmta cdta ctta : Value}
    {fof : Addr} {odof anof : Option Addr} {slof : Array (Option Value)} {ocof kVof dcof pmof cdof ctof : Value}
    {fln : Addr} {odln anln : Option Addr} {slln : Array (Option Value)} {ocln kVln dcln pmln cdln ctln : Value}
    {flk : Addr} {odlk anlk : Option Addr} {sllk : Array (Option Value)} {oclk kVlk dclk pmlk cdlk ctlk : Value}
    {flw : Addr} {odlw anlw : Option Addr} {sllw : Array (Option Value)} {oclw kVlw dclw pmlw cdlw ctlw : Value}
    {fan : Addr} {odan anan : Option Addr} {slan : Array (Option Value)} {ocan kVan dcan pman cdan ctan : Value}
    {fsi : Addr} {odsi ansi : Option Addr} {slsi : Array (Option Value)} {ocsi kVsi dcsi pmsi cdsi ctsi : Value}
    {fnu : Addr} {odnu annu : Option Addr} {slnu : Array (Option Value)} {ocnu kVnu dcnu pmnu cdnu ctnu : Value}
    {flm : Addr} {odlm anlm : Option Addr} {sllm : Array (Option Value)} {oclm kVlm dclm pmlm cdlm ctlm : Value}
    {flj : Addr} {odlj anlj : Option Addr} {sllj : Array (Option Value)} {oclj kVlj dclj pmlj cdlj ctlj : Value}
    {flo : Addr} {odlo anlo : Option Addr} {sllo : Array (Option Value)} {oclo kVlo dclo pmlo cdlo ctlo : Value}
    {fle : Addr} {odle anle : Option Addr} {slle : Array (Option Value)} {ocle kVle dcle pmle cdle ctle : Value}
    {flt : Addr} {odlt anlt : Option Addr} {sllt : Array (Option Value)} {oclt kVlt dclt pmlt cdlt ctlt : Value}
    {fls : Addr} {odls anls : Option Addr} {slls : Array (Option Value)} {ocls kVls dcls pmls cdls ctls : Value}
    {fod : Addr} {odod anod : Option Addr} {slod : Array (Option Value)} {ocod kVod dcod pmod cdod ctod : Value}
    {fbe : Addr} {odbe anbe : Option Addr} {slbe : Array (Option Value)} {ocbe kVbe dcbe pmbe cdbe ctbe : Value}
    {flp : Addr} {odlp anlp : Option Addr} {sllp : Array (Option Value)} {oclp kVlp dclp pmlp cdlp ctlp : Value}
    {fsp : Addr} {odsp ansp : Option Addr} {slsp : Array (Option Value)} {ocsp kVsp dcsp pmsp cdsp ctsp : Value}
    {fas : Addr} {odas anas : Option Addr} {slas : Array (Option Value)} {ocas kVas dcas pmas cdas ctas : Value}
    {fri : Addr} {odri anri : Option Addr} {slri : Array (Option Value)} {ocri kVri dcri pmri cdri ctri : Value}
    {fla : Addr} {odla anla : Option Addr} {slla : Array (Option Value)} {ocla kVla dcla pmla cdla ctla : Value}
    {dF : Addr} {esdF : Array DictEntry} {ndF : Nat} {qdF0 qdF1 qdF2 qdF3 qdF4 qdF5 qdF6 qdF7 qdF8 qdF9 qdF10 qdF11 qdF12 qdF13 qdF14 qdF15 qdF16 qdF17 qdF18 qdF19 qdF20 qdF21 qdF22 : Addr}
    {odqdF0t : Option Addr} {slqdF0t : Array (Option Value)} {nqdF0t : Nat} {twqdF0x0 twqdF0x1 : Tok}
    {odqdF1t : Option Addr} {slqdF1t : Array (Option Value)} {nqdF1t : Nat} {twqdF1x0 : Tok}
    {odqdF2t : Option Addr} {slqdF2t : Array (Option Value)} {nqdF2t : Nat} {twqdF2x0 : Tok}
    {odqdF3t : Option Addr} {slqdF3t : Array (Option Value)} {nqdF3t : Nat} {twqdF3x0 twqdF3x1 : Tok}
    {odqdF4t : Option Addr} {slqdF4t : Array (Option Value)} {nqdF4t : Nat} {twqdF4x0 : Tok}
    {odqdF5t : Option Addr} {slqdF5t : Array (Option Value)} {nqdF5t : Nat} {twqdF5x0 twqdF5x1 : Tok}
    {odqdF6t : Option Addr} {slqdF6t : Array (Option Value)} {nqdF6t : Nat} {twqdF6x0 twqdF6x1 : Tok}
    {odqdF7t : Option Addr} {slqdF7t : Array (Option Value)} {nqdF7t : Nat} {twqdF7x0 twqdF7x1 : Tok}
    {odqdF8t : Option Addr} {slqdF8t : Array (Option Value)} {nqdF8t : Nat} {twqdF8x0 twqdF8x1 : Tok}
    {odqdF9t : Option Addr} {slqdF9t : Array (Option Value)} {nqdF9t : Nat} {twqdF9x0 twqdF9x1 : Tok}
    {odqdF10t : Option Addr} {slqdF10t : Array (Option Value)} {nqdF10t : Nat} {twqdF10x0 twqdF10x1 : Tok}
    {odqdF11t : Option Addr} {slqdF11t : Array (Option Value)} {nqdF11t : Nat} {twqdF11x0 twqdF11x1 : Tok}
    {odqdF12t : Option Addr} {slqdF12t : Array (Option Value)} {nqdF12t : Nat} {twqdF12x0 twqdF12x1 : Tok}
    {odqdF13t : Option Addr} {slqdF13t : Array (Option Value)} {nqdF13t : Nat} {twqdF13x0 twqdF13x1 : Tok}
    {odqdF14t : Option Addr} {slqdF14t : Array (Option Value)} {nqdF14t : Nat} {twqdF14x0 twqdF14x1 twqdF14x2 : Tok}
    {odqdF15t : Option Addr} {slqdF15t : Array (Option Value)} {nqdF15t : Nat} {twqdF15x0 twqdF15x1 twqdF15x2 : Tok}
    {odqdF16t : Option Addr} {slqdF16t : Array (Option Value)} {nqdF16t : Nat} {twqdF16x0 twqdF16x1 twqdF16x2 : Tok}
    {odqdF17t : Option Addr} {slqdF17t : Array (Option Value)} {nqdF17t : Nat} {twqdF17x0 : Tok}
    {odqdF18t : Option Addr} {slqdF18t : Array (Option Value)} {nqdF18t : Nat} {twqdF18x0 twqdF18x1 : Tok}
    {odqdF19t : Option Addr} {slqdF19t : Array (Option Value)} {nqdF19t : Nat} {twqdF19x0 twqdF19x1 twqdF19x2 : Tok}
    {odqdF20t : Option Addr} {slqdF20t : Array (Option Value)} {nqdF20t : Nat} {twqdF20x0 twqdF20x1 twqdF20x2 : Tok}
    {odqdF21t : Option Addr} {slqdF21t : Array (Option Value)} {nqdF21t : Nat} {twqdF21x0 twqdF21x1 twqdF21x2 twqdF21x3 : Tok}
    {odqdF22t : Option Addr} {slqdF22t : Array (Option Value)} {nqdF22t : Nat} {twqdF22x0 twqdF22x1 twqdF22x2 : Tok}
    {dS : Addr} {esdS : Array DictEntry} {ndS : Nat} {qdS0 qdS1 qdS2 : Addr}
    {odqdS0t : Option Addr} {slqdS0t : Array (Option Value)} {nqdS0t : Nat} {twqdS0x0 twqdS0x1 : Tok}
    {odqdS1t : Option Addr} {slqdS1t : Array (Option Value)} {nqdS1t : Nat} {twqdS1x0 twqdS1x1 : Tok}
    {odqdS2t : Option Addr} {slqdS2t : Array (Option Value)} {nqdS2t : Nat} {twqdS2x0 twqdS2x1 : Tok}
    {dC : Addr} {oddCt : Option Addr} {sldCt : Array (Option Value)} {ndCt : Nat} {twdCx0 twdCx1 twdCx2 twdCx3 : Tok}
    {CF fF : Addr} {odF anF : Option Addr} {slF : Array (Option Value)} {ocF kVF dcF pmF cdF ctF : Value}
    {CT fT : Addr} {odT anT : Option Addr} {slT : Array (Option Value)} {ocT kVT dcT pmT cdT ctT : Value} {nmT qT : Str} {NT : Addr} {bsT bmT : List Value} {snT : List Str} {subT : List Value} {abT : Bool} {colT : Option Bool} {ddT : Option Addr} {m0T m1T m2T m3T m5T : Option Value}
    (anb : PySem.W.nsIn K mainGlobals "is_number" = some (some (.ref fnb)))
    (lnb : K.lookup fnb = some ⟨ocnb, odnb, .func (PySem.W.fnOf "is_number" "is_number" (defArgs sNumber) (defBody sNumber) (defScope sNumber) .none kVnb dcnb pmnb annb cdnb ctnb), slnb⟩)
    (cnb : PySem.W.codeIn K cdnb "is_number" = true)
    (knb : PySem.W.keepIn K (.ref fnb) = true)
    (awh : PySem.W.nsIn K mainGlobals "is_whole" = some (some (.ref fwh)))
    (lwh : K.lookup fwh = some ⟨ocwh, odwh, .func (PySem.W.fnOf "is_whole" "is_whole" (defArgs sWhole) (defBody sWhole) (defScope sWhole) .none kVwh dcwh pmwh anwh cdwh ctwh), slwh⟩)
    (cwh : PySem.W.codeIn K cdwh "is_whole" = true)
    (kwh : PySem.W.keepIn K (.ref fwh) = true)
    (ana : PySem.W.nsIn K mainGlobals "is_name" = some (some (.ref fna)))
    (lna : K.lookup fna = some ⟨ocna, odna, .func (PySem.W.fnOf "is_name" "is_name" (defArgs sName) (defBody sName) (defScope sName) .none kVna dcna pmna anna cdna ctna), slna⟩)
    (cna : PySem.W.codeIn K cdna "is_name" = true)
    (kna : PySem.W.keepIn K (.ref fna) = true)
    (awi : PySem.W.nsIn K mainGlobals "is_width" = some (some (.ref fwi)))
    (lwi : K.lookup fwi = some ⟨ocwi, odwi, .func (PySem.W.fnOf "is_width" "is_width" (defArgs sWidth) (defBody sWidth) (defScope sWidth) .none kVwi dcwi pmwi anwi cdwi ctwi), slwi⟩)
    (cwi : PySem.W.codeIn K cdwi "is_width" = true)
    (kwi : PySem.W.keepIn K (.ref fwi) = true)
    (atr : PySem.W.nsIn K mainGlobals "is_truth" = some (some (.ref ftr)))
    (ltr : K.lookup ftr = some ⟨octr, odtr, .func (PySem.W.fnOf "is_truth" "is_truth" (defArgs sTruth) (defBody sTruth) (defScope sTruth) .none kVtr dctr pmtr antr cdtr cttr), sltr⟩)
    (ctr : PySem.W.codeIn K cdtr "is_truth" = true)
    (ktr : PySem.W.keepIn K (.ref ftr) = true)
    (aki : PySem.W.nsIn K mainGlobals "is_kind" = some (some (.ref fki)))
    (lki : K.lookup fki = some ⟨ocki, odki, .func (PySem.W.fnOf "is_kind" "is_kind" (defArgs sKind) (defBody sKind) (defScope sKind) .none kVki dcki pmki anki cdki ctki), slki⟩)
    (cki : PySem.W.codeIn K cdki "is_kind" = true)
    (kki : PySem.W.keepIn K (.ref fki) = true)
    (aiw : PySem.W.nsIn K mainGlobals "is_worth" = some (some (.ref fiw)))
    (liw : K.lookup fiw = some ⟨ociw, odiw, .func (PySem.W.fnOf "is_worth" "is_worth" (defArgs sIsWorth) (defBody sIsWorth) (defScope sIsWorth) .none kViw dciw pmiw aniw cdiw ctiw), sliw⟩)
    (ciw : PySem.W.codeIn K cdiw "is_worth" = true)
    (kiw : PySem.W.keepIn K (.ref fiw) = true)
    (agr : PySem.W.nsIn K mainGlobals "_greatest" = some (some (.ref fgr)))
    (lgr : K.lookup fgr = some ⟨ocgr, odgr, .func (PySem.W.fnOf "_greatest" "_greatest" (defArgs sGreat) (defBody sGreat) (defScope sGreat) .none kVgr dcgr pmgr angr cdgr ctgr), slgr⟩)
    (cgr : PySem.W.codeIn K cdgr "_greatest" = true)
    (kgr : PySem.W.keepIn K (.ref fgr) = true)
    (awo : PySem.W.nsIn K mainGlobals "_is_worth_of_width" = some (some (.ref fwo)))
    (lwo : K.lookup fwo = some ⟨ocwo, odwo, .func (PySem.W.fnOf "_is_worth_of_width" "_is_worth_of_width" (defArgs sWorthOf) (defBody sWorthOf) (defScope sWorthOf) .none kVwo dcwo pmwo anwo cdwo ctwo), slwo⟩)
    (cwo : PySem.W.codeIn K cdwo "_is_worth_of_width" = true)
    (kwo : PySem.W.keepIn K (.ref fwo) = true)
    (aar : PySem.W.nsIn K mainGlobals "_are_worths_of_width" = some (some (.ref far)))
    (lar : K.lookup far = some ⟨ocar, odar, .func (PySem.W.fnOf "_are_worths_of_width" "_are_worths_of_width" (defArgs sAre) (defBody sAre) (defScope sAre) .none kVar dcar pmar anar cdar ctar), slar⟩)
    (car : PySem.W.codeIn K cdar "_are_worths_of_width" = true)
    (kar : PySem.W.keepIn K (.ref far) = true)
    (ait : PySem.W.nsIn K mainGlobals "is_term" = some (some (.ref fit)))
    (lit : K.lookup fit = some ⟨ocit, odit, .func (PySem.W.fnOf "is_term" "is_term" (defArgs sIsTerm) (defBody sIsTerm) (defScope sIsTerm) .none kVit dcit pmit anit cdit ctit), slit⟩)
    (cit : PySem.W.codeIn K cdit "is_term" = true)
    (kit : PySem.W.keepIn K (.ref fit) = true)
    (air : PySem.W.nsIn K mainGlobals "is_right" = some (some (.ref fir)))
    (lir : K.lookup fir = some ⟨ocir, odir, .func (PySem.W.fnOf "is_right" "is_right" (defArgs sIsRight) (defBody sIsRight) (defScope sIsRight) .none kVir dcir pmir anir cdir ctir), slir⟩)
    (cir : PySem.W.codeIn K cdir "is_right" = true)
    (kir : PySem.W.keepIn K (.ref fir) = true)
    (apo : PySem.W.nsIn K mainGlobals "parts_of" = some (some (.ref fpo)))
    (lpo : K.lookup fpo = some ⟨ocpo, odpo, .func (PySem.W.fnOf "parts_of" "parts_of" (defArgs sPartsOf) (defBody sPartsOf) (defScope sPartsOf) .none kVpo dcpo pmpo anpo cdpo ctpo), slpo⟩)
    (cpo : PySem.W.codeIn K cdpo "parts_of" = true)
    (kpo : PySem.W.keepIn K (.ref fpo) = true)
    (aso : PySem.W.nsIn K mainGlobals "size_of" = some (some (.ref fso)))
    (lso : K.lookup fso = some ⟨ocso, odso, .func (PySem.W.fnOf "size_of" "size_of" (defArgs sSizeOf) (defBody sSizeOf) (defScope sSizeOf) .none kVso dcso pmso anso cdso ctso), slso⟩)
    (cso : PySem.W.codeIn K cdso "size_of" = true)
    (kso : PySem.W.keepIn K (.ref fso) = true)
    (ann : PySem.W.nsIn K mainGlobals "is_node_name" = some (some (.ref fnn)))
    (lnn : K.lookup fnn = some ⟨ocnn, odnn, .func (PySem.W.fnOf "is_node_name" "is_node_name" (defArgs sNodeName) (defBody sNodeName) (defScope sNodeName) .none kVnn dcnn pmnn annn cdnn ctnn), slnn⟩)
    (cnn : PySem.W.codeIn K cdnn "is_node_name" = true)
    (knn : PySem.W.keepIn K (.ref fnn) = true)
    (anr : PySem.W.nsIn K mainGlobals "_need_right" = some (some (.ref fnr)))
    (lnr : K.lookup fnr = some ⟨ocnr, odnr, .func (PySem.W.fnOf "_need_right" "_need_right" (defArgs sNeedRight) (defBody sNeedRight) (defScope sNeedRight) .none kVnr dcnr pmnr annr cdnr ctnr), slnr⟩)
    (cnr : PySem.W.codeIn K cdnr "_need_right" = true)
    (knr : PySem.W.keepIn K (.ref fnr) = true)
    (aic : PySem.W.nsIn K mainGlobals "is_call" = some (some (.ref fic)))
    (lic : K.lookup fic = some ⟨ocic, odic, .func (PySem.W.fnOf "is_call" "is_call" (defArgs sIsCall) (defBody sIsCall) (defScope sIsCall) .none kVic dcic pmic anic cdic ctic), slic⟩)
    (cic : PySem.W.codeIn K cdic "is_call" = true)
    (kic : PySem.W.keepIn K (.ref fic) = true)
    (aat : PySem.W.nsIn K mainGlobals "_are_terms" = some (some (.ref fat)))
    (lat : K.lookup fat = some ⟨ocat, odat, .func (PySem.W.fnOf "_are_terms" "_are_terms" (defArgs sAreTerms) (defBody sAreTerms) (defScope sAreTerms) .none kVat dcat pmat anat cdat ctat), slat⟩)
    (cat : PySem.W.codeIn K cdat "_are_terms" = true)
    (kat : PySem.W.keepIn K (.ref fat) = true)
    (afo : PySem.W.nsIn K mainGlobals "_is_formed" = some (some (.ref ffo)))
    (lfo : K.lookup ffo = some ⟨ocfo, odfo, .func (PySem.W.fnOf "_is_formed" "_is_formed" (defArgs sFormed) (defBody sFormed) (defScope sFormed) .none kVfo dcfo pmfo anfo cdfo ctfo), slfo⟩)
    (cfo : PySem.W.codeIn K cdfo "_is_formed" = true)
    (kfo : PySem.W.keepIn K (.ref ffo) = true)
    (afi : PySem.W.nsIn K mainGlobals "_fits" = some (some (.ref ffi)))
    (lfi : K.lookup ffi = some ⟨ocfi, odfi, .func (PySem.W.fnOf "_fits" "_fits" (defArgs sFits) (defBody sFits) (defScope sFits) .none kVfi dcfi pmfi anfi cdfi ctfi), slfi⟩)
    (cfi : PySem.W.codeIn K cdfi "_fits" = true)
    (kfi : PySem.W.keepIn K (.ref ffi) = true)
    (atw : PySem.W.nsIn K mainGlobals "terms_within" = some (some (.ref ftw)))
    (ltw : K.lookup ftw = some ⟨octw, odtw, .func (PySem.W.fnOf "terms_within" "terms_within" (defArgs sWithin) (defBody sWithin) (defScope sWithin) .none kVtw dctw pmtw antw cdtw cttw), sltw⟩)
    (ctw : PySem.W.codeIn K cdtw "terms_within" = true)
    (ktw : PySem.W.keepIn K (.ref ftw) = true)
    (apa : PySem.W.nsIn K mainGlobals "_parts" = some (some (.ref fpa)))
    (lpa : K.lookup fpa = some ⟨ocpa, odpa, .func (PySem.W.fnOf "_parts" "_parts" (defArgs sParts) (defBody sParts) (defScope sParts) .none kVpa dcpa pmpa anpa cdpa ctpa), slpa⟩)
    (cpa : PySem.W.codeIn K cdpa "_parts" = true)
    (kpa : PySem.W.keepIn K (.ref fpa) = true)
    (ace : PySem.W.nsIn K mainGlobals "_law_cell" = some (some (.ref fce)))
    (lce : K.lookup fce = some ⟨occe, odce, .func (PySem.W.fnOf "_law_cell" "_law_cell" (defArgs sCell) (defBody sCell) (defScope sCell) .none kVce dcce pmce ance cdce ctce), slce⟩)
    (cce : PySem.W.codeIn K cdce "_law_cell" = true)
    (kce : PySem.W.keepIn K (.ref fce) = true)
    (apu : PySem.W.nsIn K mainGlobals "_law_purse" = some (some (.ref fpu)))
    (lpu : K.lookup fpu = some ⟨ocpu, odpu, .func (PySem.W.fnOf "_law_purse" "_law_purse" (defArgs sPurse) (defBody sPurse) (defScope sPurse) .none kVpu dcpu pmpu anpu cdpu ctpu), slpu⟩)
    (cpu : PySem.W.codeIn K cdpu "_law_purse" = true)
    (kpu : PySem.W.keepIn K (.ref fpu) = true)
    (ata : PySem.W.nsIn K mainGlobals "_law_take" = some (some (.ref fta)))
    (lta : K.lookup fta = some ⟨octa, odta, .func (PySem.W.fnOf "_law_take" "_law_take" (defArgs sTake) (defBody sTake) (defScope sTake) .none kVta dcta pmta anta cdta ctta), slta⟩)
    (cta : PySem.W.codeIn K cdta "_law_take" = true)
    (kta : PySem.W.keepIn K (.ref fta) = true)
    (aof : PySem.W.nsIn K mainGlobals "_law_of" = some (some (.ref fof)))
    (lof : K.lookup fof = some ⟨ocof, odof, .func (PySem.W.fnOf "_law_of" "_law_of" (defArgs sOf) (defBody sOf) (defScope sOf) .none kVof dcof pmof anof cdof ctof), slof⟩)
    (cof : PySem.W.codeIn K cdof "_law_of" = true)
    (kof : PySem.W.keepIn K (.ref fof) = true)
    (aln : PySem.W.nsIn K mainGlobals "_law_name" = some (some (.ref fln)))
    (lln : K.lookup fln = some ⟨ocln, odln, .func (PySem.W.fnOf "_law_name" "_law_name" (defArgs sLName) (defBody sLName) (defScope sLName) .none kVln dcln pmln anln cdln ctln), slln⟩)
    (cln : PySem.W.codeIn K cdln "_law_name" = true)
    (kln : PySem.W.keepIn K (.ref fln) = true)
    (alk : PySem.W.nsIn K mainGlobals "_law_kind" = some (some (.ref flk)))
    (llk : K.lookup flk = some ⟨oclk, odlk, .func (PySem.W.fnOf "_law_kind" "_law_kind" (defArgs sLKind) (defBody sLKind) (defScope sLKind) .none kVlk dclk pmlk anlk cdlk ctlk), sllk⟩)
    (clk : PySem.W.codeIn K cdlk "_law_kind" = true)
    (klk : PySem.W.keepIn K (.ref flk) = true)
    (alw : PySem.W.nsIn K mainGlobals "_law_worth" = some (some (.ref flw)))
    (llw : K.lookup flw = some ⟨oclw, odlw, .func (PySem.W.fnOf "_law_worth" "_law_worth" (defArgs sLWorth) (defBody sLWorth) (defScope sLWorth) .none kVlw dclw pmlw anlw cdlw ctlw), sllw⟩)
    (clw : PySem.W.codeIn K cdlw "_law_worth" = true)
    (klw : PySem.W.keepIn K (.ref flw) = true)
    (aan : PySem.W.nsIn K mainGlobals "_law_any" = some (some (.ref fan)))
    (lan : K.lookup fan = some ⟨ocan, odan, .func (PySem.W.fnOf "_law_any" "_law_any" (defArgs sAny) (defBody sAny) (defScope sAny) .none kVan dcan pman anan cdan ctan), slan⟩)
    (can : PySem.W.codeIn K cdan "_law_any" = true)
    (kan : PySem.W.keepIn K (.ref fan) = true)
    (asi : PySem.W.nsIn K mainGlobals "_law_side" = some (some (.ref fsi)))
    (lsi : K.lookup fsi = some ⟨ocsi, odsi, .func (PySem.W.fnOf "_law_side" "_law_side" (defArgs sSide) (defBody sSide) (defScope sSide) .none kVsi dcsi pmsi ansi cdsi ctsi), slsi⟩)
    (csi : PySem.W.codeIn K cdsi "_law_side" = true)
    (ksi : PySem.W.keepIn K (.ref fsi) = true)
    (anu : PySem.W.nsIn K mainGlobals "_law_is_number" = some (some (.ref fnu)))
    (lnu : K.lookup fnu = some ⟨ocnu, odnu, .func (PySem.W.fnOf "_law_is_number" "_law_is_number" (defArgs sLNumber) (defBody sLNumber) (defScope sLNumber) .none kVnu dcnu pmnu annu cdnu ctnu), slnu⟩)
    (cnu : PySem.W.codeIn K cdnu "_law_is_number" = true)
    (knu : PySem.W.keepIn K (.ref fnu) = true)
    (alm : PySem.W.nsIn K mainGlobals "_law_is_name" = some (some (.ref flm)))
    (llm : K.lookup flm = some ⟨oclm, odlm, .func (PySem.W.fnOf "_law_is_name" "_law_is_name" (defArgs sLIsName) (defBody sLIsName) (defScope sLIsName) .none kVlm dclm pmlm anlm cdlm ctlm), sllm⟩)
    (clm : PySem.W.codeIn K cdlm "_law_is_name" = true)
    (klm : PySem.W.keepIn K (.ref flm) = true)
    (alj : PySem.W.nsIn K mainGlobals "_law_is_kind" = some (some (.ref flj)))
    (llj : K.lookup flj = some ⟨oclj, odlj, .func (PySem.W.fnOf "_law_is_kind" "_law_is_kind" (defArgs sLIsKind) (defBody sLIsKind) (defScope sLIsKind) .none kVlj dclj pmlj anlj cdlj ctlj), sllj⟩)
    (clj : PySem.W.codeIn K cdlj "_law_is_kind" = true)
    (klj : PySem.W.keepIn K (.ref flj) = true)
    (alo : PySem.W.nsIn K mainGlobals "_law_is_worth" = some (some (.ref flo)))
    (llo : K.lookup flo = some ⟨oclo, odlo, .func (PySem.W.fnOf "_law_is_worth" "_law_is_worth" (defArgs sLIsWorth) (defBody sLIsWorth) (defScope sLIsWorth) .none kVlo dclo pmlo anlo cdlo ctlo), sllo⟩)
    (clo : PySem.W.codeIn K cdlo "_law_is_worth" = true)
    (klo : PySem.W.keepIn K (.ref flo) = true)
    (ale : PySem.W.nsIn K mainGlobals "_law_are_terms" = some (some (.ref fle)))
    (lle : K.lookup fle = some ⟨ocle, odle, .func (PySem.W.fnOf "_law_are_terms" "_law_are_terms" (defArgs sLAre) (defBody sLAre) (defScope sLAre) .none kVle dcle pmle anle cdle ctle), slle⟩)
    (cle : PySem.W.codeIn K cdle "_law_are_terms" = true)
    (kle : PySem.W.keepIn K (.ref fle) = true)
    (alt : PySem.W.nsIn K mainGlobals "_law_is_term" = some (some (.ref flt)))
    (llt : K.lookup flt = some ⟨oclt, odlt, .func (PySem.W.fnOf "_law_is_term" "_law_is_term" (defArgs sLTerm) (defBody sLTerm) (defScope sLTerm) .none kVlt dclt pmlt anlt cdlt ctlt), sllt⟩)
    (clt : PySem.W.codeIn K cdlt "_law_is_term" = true)
    (klt : PySem.W.keepIn K (.ref flt) = true)
    (als : PySem.W.nsIn K mainGlobals "_law_is_side" = some (some (.ref fls)))
    (lls : K.lookup fls = some ⟨ocls, odls, .func (PySem.W.fnOf "_law_is_side" "_law_is_side" (defArgs sLSide) (defBody sLSide) (defScope sLSide) .none kVls dcls pmls anls cdls ctls), slls⟩)
    (cls : PySem.W.codeIn K cdls "_law_is_side" = true)
    (kls : PySem.W.keepIn K (.ref fls) = true)
    (aod : PySem.W.nsIn K mainGlobals "_law_odd" = some (some (.ref fod)))
    (lod : K.lookup fod = some ⟨ocod, odod, .func (PySem.W.fnOf "_law_odd" "_law_odd" (defArgs sOdd) (defBody sOdd) (defScope sOdd) .none kVod dcod pmod anod cdod ctod), slod⟩)
    (cod : PySem.W.codeIn K cdod "_law_odd" = true)
    (kod : PySem.W.keepIn K (.ref fod) = true)
    (abe : PySem.W.nsIn K mainGlobals "_law_bent" = some (some (.ref fbe)))
    (lbe : K.lookup fbe = some ⟨ocbe, odbe, .func (PySem.W.fnOf "_law_bent" "_law_bent" (defArgs sBent) (defBody sBent) (defScope sBent) .none kVbe dcbe pmbe anbe cdbe ctbe), slbe⟩)
    (cbe : PySem.W.codeIn K cdbe "_law_bent" = true)
    (kbe : PySem.W.keepIn K (.ref fbe) = true)
    (alp : PySem.W.nsIn K mainGlobals "_law_parts" = some (some (.ref flp)))
    (llp : K.lookup flp = some ⟨oclp, odlp, .func (PySem.W.fnOf "_law_parts" "_law_parts" (defArgs sLParts) (defBody sLParts) (defScope sLParts) .none kVlp dclp pmlp anlp cdlp ctlp), sllp⟩)
    (clp : PySem.W.codeIn K cdlp "_law_parts" = true)
    (klp : PySem.W.keepIn K (.ref flp) = true)
    (asp : PySem.W.nsIn K mainGlobals "_law_side_parts" = some (some (.ref fsp)))
    (lsp : K.lookup fsp = some ⟨ocsp, odsp, .func (PySem.W.fnOf "_law_side_parts" "_law_side_parts" (defArgs sLSideParts) (defBody sLSideParts) (defScope sLSideParts) .none kVsp dcsp pmsp ansp cdsp ctsp), slsp⟩)
    (csp : PySem.W.codeIn K cdsp "_law_side_parts" = true)
    (ksp : PySem.W.keepIn K (.ref fsp) = true)
    (aas : PySem.W.nsIn K mainGlobals "_law_asked" = some (some (.ref fas)))
    (las : K.lookup fas = some ⟨ocas, odas, .func (PySem.W.fnOf "_law_asked" "_law_asked" (defArgs sAsked) (defBody sAsked) (defScope sAsked) .none kVas dcas pmas anas cdas ctas), slas⟩)
    (cas : PySem.W.codeIn K cdas "_law_asked" = true)
    (kas : PySem.W.keepIn K (.ref fas) = true)
    (ari : PySem.W.nsIn K mainGlobals "_law_right" = some (some (.ref fri)))
    (lri : K.lookup fri = some ⟨ocri, odri, .func (PySem.W.fnOf "_law_right" "_law_right" (defArgs sRight) (defBody sRight) (defScope sRight) .none kVri dcri pmri anri cdri ctri), slri⟩)
    (cri : PySem.W.codeIn K cdri "_law_right" = true)
    (kri : PySem.W.keepIn K (.ref fri) = true)
    (ala : PySem.W.nsIn K mainGlobals "law" = some (some (.ref fla)))
    (lla : K.lookup fla = some ⟨ocla, odla, .func (PySem.W.fnOf "law" "law" (defArgs sLaw) (defBody sLaw) (defScope sLaw) .none kVla dcla pmla anla cdla ctla), slla⟩)
    (cla : PySem.W.codeIn K cdla "law" = true)
    (kla : PySem.W.keepIn K (.ref fla) = true)
    (gdF : PySem.W.nsIn K mainGlobals "FORMS" = some (some (.ref dF)))
    (ldF : K.lookup dF = some ⟨.type "dict", none, .dict esdF ndF, #[]⟩)
    (ydF : PySem.W.KeysLit w.params esdF.toList)
    (lowdF : (dF == sysModules) = false)
    (wdF : Rows esdF.toList [("lit", V.ref qdF0), ("name", V.ref qdF1), ("last", V.ref qdF2), ("first", V.ref qdF3), ("not", V.ref qdF4), ("and", V.ref qdF5), ("or", V.ref qdF6), ("xor", V.ref qdF7), ("add", V.ref qdF8), ("sub", V.ref qdF9), ("less", V.ref qdF10), ("same", V.ref qdF11), ("wide", V.ref qdF12), ("bit", V.ref qdF13), ("pick", V.ref qdF14), ("when", V.ref qdF15), ("merge", V.ref qdF16), ("row", V.ref qdF17), ("at", V.ref qdF18), ("call", V.ref qdF19), ("map", V.ref qdF20), ("fold", V.ref qdF21), ("pairs", V.ref qdF22)])
    (lqdF0t : K.lookup qdF0 = some ⟨.type "tuple", odqdF0t, .seq #[.str "kind" twqdF0x0, .str "worth" twqdF0x1] nqdF0t, slqdF0t⟩)
    (lqdF1t : K.lookup qdF1 = some ⟨.type "tuple", odqdF1t, .seq #[.str "name" twqdF1x0] nqdF1t, slqdF1t⟩)
    (lqdF2t : K.lookup qdF2 = some ⟨.type "tuple", odqdF2t, .seq #[.str "name" twqdF2x0] nqdF2t, slqdF2t⟩)
    (lqdF3t : K.lookup qdF3 = some ⟨.type "tuple", odqdF3t, .seq #[.str "term" twqdF3x0, .str "term" twqdF3x1] nqdF3t, slqdF3t⟩)
    (lqdF4t : K.lookup qdF4 = some ⟨.type "tuple", odqdF4t, .seq #[.str "term" twqdF4x0] nqdF4t, slqdF4t⟩)
    (lqdF5t : K.lookup qdF5 = some ⟨.type "tuple", odqdF5t, .seq #[.str "term" twqdF5x0, .str "term" twqdF5x1] nqdF5t, slqdF5t⟩)
    (lqdF6t : K.lookup qdF6 = some ⟨.type "tuple", odqdF6t, .seq #[.str "term" twqdF6x0, .str "term" twqdF6x1] nqdF6t, slqdF6t⟩)
    (lqdF7t : K.lookup qdF7 = some ⟨.type "tuple", odqdF7t, .seq #[.str "term" twqdF7x0, .str "term" twqdF7x1] nqdF7t, slqdF7t⟩)
    (lqdF8t : K.lookup qdF8 = some ⟨.type "tuple", odqdF8t, .seq #[.str "term" twqdF8x0, .str "term" twqdF8x1] nqdF8t, slqdF8t⟩)
    (lqdF9t : K.lookup qdF9 = some ⟨.type "tuple", odqdF9t, .seq #[.str "term" twqdF9x0, .str "term" twqdF9x1] nqdF9t, slqdF9t⟩)
    (lqdF10t : K.lookup qdF10 = some ⟨.type "tuple", odqdF10t, .seq #[.str "term" twqdF10x0, .str "term" twqdF10x1] nqdF10t, slqdF10t⟩)
    (lqdF11t : K.lookup qdF11 = some ⟨.type "tuple", odqdF11t, .seq #[.str "term" twqdF11x0, .str "term" twqdF11x1] nqdF11t, slqdF11t⟩)
    (lqdF12t : K.lookup qdF12 = some ⟨.type "tuple", odqdF12t, .seq #[.str "width" twqdF12x0, .str "term" twqdF12x1] nqdF12t, slqdF12t⟩)
    (lqdF13t : K.lookup qdF13 = some ⟨.type "tuple", odqdF13t, .seq #[.str "bit" twqdF13x0, .str "term" twqdF13x1] nqdF13t, slqdF13t⟩)
    (lqdF14t : K.lookup qdF14 = some ⟨.type "tuple", odqdF14t, .seq #[.str "term" twqdF14x0, .str "term" twqdF14x1, .str "term" twqdF14x2] nqdF14t, slqdF14t⟩)
    (lqdF15t : K.lookup qdF15 = some ⟨.type "tuple", odqdF15t, .seq #[.str "term" twqdF15x0, .str "name" twqdF15x1, .str "truth" twqdF15x2] nqdF15t, slqdF15t⟩)
    (lqdF16t : K.lookup qdF16 = some ⟨.type "tuple", odqdF16t, .seq #[.str "name" twqdF16x0, .str "term" twqdF16x1, .str "term" twqdF16x2] nqdF16t, slqdF16t⟩)
    (lqdF17t : K.lookup qdF17 = some ⟨.type "tuple", odqdF17t, .seq #[.str "parts" twqdF17x0] nqdF17t, slqdF17t⟩)
    (lqdF18t : K.lookup qdF18 = some ⟨.type "tuple", odqdF18t, .seq #[.str "place" twqdF18x0, .str "term" twqdF18x1] nqdF18t, slqdF18t⟩)
    (lqdF19t : K.lookup qdF19 = some ⟨.type "tuple", odqdF19t, .seq #[.str "node" twqdF19x0, .str "args" twqdF19x1, .str "every" twqdF19x2] nqdF19t, slqdF19t⟩)
    (lqdF20t : K.lookup qdF20 = some ⟨.type "tuple", odqdF20t, .seq #[.str "node" twqdF20x0, .str "rows" twqdF20x1, .str "every" twqdF20x2] nqdF20t, slqdF20t⟩)
    (lqdF21t : K.lookup qdF21 = some ⟨.type "tuple", odqdF21t, .seq #[.str "node" twqdF21x0, .str "term" twqdF21x1, .str "rows" twqdF21x2, .str "every" twqdF21x3] nqdF21t, slqdF21t⟩)
    (lqdF22t : K.lookup qdF22 = some ⟨.type "tuple", odqdF22t, .seq #[.str "node" twqdF22x0, .str "term" twqdF22x1, .str "every" twqdF22x2] nqdF22t, slqdF22t⟩)
    (gdS : PySem.W.nsIn K mainGlobals "SLOTS_OF_TERMS" = some (some (.ref dS)))
    (ldS : K.lookup dS = some ⟨.type "dict", none, .dict esdS ndS, #[]⟩)
    (ydS : PySem.W.KeysLit w.params esdS.toList)
    (lowdS : (dS == sysModules) = false)
    (wdS : Rows esdS.toList [("parts", V.ref qdS0), ("args", V.ref qdS1), ("rows", V.ref qdS2)])
    (lqdS0t : K.lookup qdS0 = some ⟨.type "tuple", odqdS0t, .seq #[.int 2 twqdS0x0, .int 4 twqdS0x1] nqdS0t, slqdS0t⟩)
    (lqdS1t : K.lookup qdS1 = some ⟨.type "tuple", odqdS1t, .seq #[.int 0 twqdS1x0, .int 6 twqdS1x1] nqdS1t, slqdS1t⟩)
    (lqdS2t : K.lookup qdS2 = some ⟨.type "tuple", odqdS2t, .seq #[.int 1 twqdS2x0, .int 4 twqdS2x1] nqdS2t, slqdS2t⟩)
    (gdC : PySem.W.nsIn K mainGlobals "CALLS" = some (some (.ref dC)))
    (ldCt : K.lookup dC = some ⟨.type "tuple", oddCt, .seq #[.str "call" twdCx0, .str "map" twdCx1, .str "fold" twdCx2, .str "pairs" twdCx3] ndCt, sldCt⟩)
    (aF : PySem.W.nsIn K mainGlobals "FlowError" = some (some (.ref CF)))
    (rF : PySem.W.readsIn K CF (.type "type") = true)
    (gF : PySem.W.specialIn K (.ref CF) "__getattribute__" = some (some (.builtin "type.__getattribute__")))
    (vF : PySem.W.findCls K (.ref CF) (.type "type") "__init__" = some (.val (.ref fF)))
    (lF : K.lookup fF = some ⟨ocF, odF, .func (PySem.W.fnOf "__init__" "FlowError.__init__" (defArgs sFE) (defBody sFE) (defScope sFE) .none kVF dcF pmF anF cdF ctF), slF⟩)
    (cF : PySem.W.codeIn K cdF "FlowError.__init__" = true)
    (kF : PySem.W.keepIn K (.ref fF) = true)
    (vV : PySem.W.findCls K (.type "ValueError") (.type "type") "__init__" = some (.val (.builtin "ValueError.__init__")))
    (aT : PySem.W.nsIn K mainGlobals "NoTerm" = some (some (.ref CT)))
    (xT : K.lookup CT = some (excClassObj nmT qT CT NT bsT bmT true snT subT abT colT ddT m0T m1T m2T m3T m5T "ValueError.__new__"))
    (veT : PySem.HandSPX.refsVE bmT = true)
    (saT : PySem.W.findIn K (.ref CT) "__setattr__" = some (some (.builtin "object.__setattr__")))
    (gaT : PySem.W.findIn K (.ref CT) "__getattribute__" = some (some (.builtin "BaseException.__getattribute__")))
    (ggT : PySem.W.findIn K (.ref CT) "__getattr__" = some none)
    (nfT : PySem.W.findIn K (.ref CT) "found" = some none)
    (iT : PySem.W.findIn K (.ref CT) "__init__" = some (some (.ref fT)))
    (tT : PySem.W.typeIn K (.ref fT) = some (.type "function"))
    (lT : K.lookup fT = some ⟨ocT, odT, .func (PySem.W.fnOf "__init__" "NoTerm.__init__" (defArgs sNT) (defBody sNT) (defScope sNT) .none kVT dcT pmT anT cdT ctT), slT⟩)
    (cT : PySem.W.codeIn K cdT "NoTerm.__init__" = true)
    (kT : PySem.W.keepIn K (.ref fT) = true)
    (kCT : PySem.W.keepIn K (.ref CT) = true)
    (eCT : PySem.W.subIn K (.ref CT) (.type "BaseException") = some true)
    (tCT : PySem.W.typeIn K (.ref CT) = some (.type "type"))
    (hCT : PySem.W.hasDictIn K CT = true)
    (uTT : PySem.W.subIn K (.ref CT) (.ref CT) = some true)
    (zisinstance : PySem.W.nsIn K mainGlobals "isinstance" = some none)
    (zint : PySem.W.nsIn K mainGlobals "int" = some none)
    (zbool : PySem.W.nsIn K mainGlobals "bool" = some none)
    (zlist : PySem.W.nsIn K mainGlobals "list" = some none)
    (ztuple : PySem.W.nsIn K mainGlobals "tuple" = some none)
    (zrange : PySem.W.nsIn K mainGlobals "range" = some none)
    (zlen : PySem.W.nsIn K mainGlobals "len" = some none)
    (zall : PySem.W.nsIn K mainGlobals "all" = some none)
    (zValueError : PySem.W.nsIn K mainGlobals "ValueError" = some none)
    (zmax : PySem.W.nsIn K mainGlobals "max" = some none)
    (zmin : PySem.W.nsIn K mainGlobals "min" = some none)
    (zrepr : PySem.W.nsIn K mainGlobals "repr" = some none)
    (zzip : PySem.W.nsIn K mainGlobals "zip" = some none)
    (zstr : PySem.W.nsIn K mainGlobals "str" = some none) :
    ∃ fd : FuncData, (∀ (s : Shared) (v : Value), BindsTo s fd ⟨[v], []⟩ [("_law_script", v)]) ∧ ∀ base : Heap, K.In base → base.Ns mainGlobals mg → FnG l.prog w K mg base CX0 86 fa fd ["_law_script"] (spLaw K) := by
  have e := hfa.symm.trans (PySem.W.mg_of X G ala)
  cases e
  have Fnb := fun_mk (st := sNumber) lnb cnb knb
  have bnb := Fnb.binds (ps := ["thing"]) fun _ _ _ _ _ _ us hl => match us, hl with | [_], _ => rfl
  have Dnb : Df K mg "is_number" fnb _ ["thing"] := ⟨PySem.W.mg_of X G anb, knb, bnb⟩
  have Fwh := fun_mk (st := sWhole) lwh cwh kwh
  have bwh := Fwh.binds (ps := ["thing", "low", "high"]) fun _ _ _ _ _ _ us hl => match us, hl with | [_, _, _], _ => rfl
  have Dwh : Df K mg "is_whole" fwh _ ["thing", "low", "high"] := ⟨PySem.W.mg_of X G awh, kwh, bwh⟩
  have Fna := fun_mk (st := sName) lna cna kna
  have bna := Fna.binds (ps := ["thing"]) fun _ _ _ _ _ _ us hl => match us, hl with | [_], _ => rfl
  have Dna : Df K mg "is_name" fna _ ["thing"] := ⟨PySem.W.mg_of X G ana, kna, bna⟩
  have Fwi := fun_mk (st := sWidth) lwi cwi kwi
  have bwi := Fwi.binds (ps := ["thing"]) fun _ _ _ _ _ _ us hl => match us, hl with | [_], _ => rfl
  have Dwi : Df K mg "is_width" fwi _ ["thing"] := ⟨PySem.W.mg_of X G awi, kwi, bwi⟩
  have Ftr := fun_mk (st := sTruth) ltr ctr ktr
  have btr := Ftr.binds (ps := ["thing"]) fun _ _ _ _ _ _ us hl => match us, hl with | [_], _ => rfl
  have Dtr : Df K mg "is_truth" ftr _ ["thing"] := ⟨PySem.W.mg_of X G atr, ktr, btr⟩
  have Fki := fun_mk (st := sKind) lki cki kki
  have bki := Fki.binds (ps := ["thing"]) fun _ _ _ _ _ _ us hl => match us, hl with | [_], _ => rfl
  have Dki : Df K mg "is_kind" fki _ ["thing"] := ⟨PySem.W.mg_of X G aki, kki, bki⟩
  have Fiw := fun_mk (st := sIsWorth) liw ciw kiw
  have biw := Fiw.binds (ps := ["thing", "kind"]) fun _ _ _ _ _ _ us hl => match us, hl with | [_, _], _ => rfl
  have Diw : Df K mg "is_worth" fiw _ ["thing", "kind"] := ⟨PySem.W.mg_of X G aiw, kiw, biw⟩
  have Fgr := fun_mk (st := sGreat) lgr cgr kgr
  have bgr := Fgr.binds (ps := ["width"]) fun _ _ _ _ _ _ us hl => match us, hl with | [_], _ => rfl
  have Dgr : Df K mg "_greatest" fgr _ ["width"] := ⟨PySem.W.mg_of X G agr, kgr, bgr⟩
  have Fwo := fun_mk (st := sWorthOf) lwo cwo kwo
  have bwo := Fwo.binds (ps := ["thing", "width"]) fun _ _ _ _ _ _ us hl => match us, hl with | [_, _], _ => rfl
  have Dwo : Df K mg "_is_worth_of_width" fwo _ ["thing", "width"] := ⟨PySem.W.mg_of X G awo, kwo, bwo⟩
  have Far := fun_mk (st := sAre) lar car kar
  have bar := Far.binds (ps := ["things", "width"]) fun _ _ _ _ _ _ us hl => match us, hl with | [_, _], _ => rfl
  have Dar : Df K mg "_are_worths_of_width" far _ ["things", "width"] := ⟨PySem.W.mg_of X G aar, kar, bar⟩
  have Fit := fun_mk (st := sIsTerm) lit cit kit
  have bit := Fit.binds (ps := ["thing"]) fun _ _ _ _ _ _ us hl => match us, hl with | [_], _ => rfl
  have Dit : Df K mg "is_term" fit _ ["thing"] := ⟨PySem.W.mg_of X G ait, kit, bit⟩
  have Fir := fun_mk (st := sIsRight) lir cir kir
  have bir := Fir.binds (ps := ["thing"]) fun _ _ _ _ _ _ us hl => match us, hl with | [_], _ => rfl
  have Dir : Df K mg "is_right" fir _ ["thing"] := ⟨PySem.W.mg_of X G air, kir, bir⟩
  have Fpo := fun_mk (st := sPartsOf) lpo cpo kpo
  have bpo := Fpo.binds (ps := ["right"]) fun _ _ _ _ _ _ us hl => match us, hl with | [_], _ => rfl
  have Dpo : Df K mg "parts_of" fpo _ ["right"] := ⟨PySem.W.mg_of X G apo, kpo, bpo⟩
  have Fso := fun_mk (st := sSizeOf) lso cso kso
  have bso := Fso.binds (ps := ["right"]) fun _ _ _ _ _ _ us hl => match us, hl with | [_], _ => rfl
  have Dso : Df K mg "size_of" fso _ ["right"] := ⟨PySem.W.mg_of X G aso, kso, bso⟩
  have Fnn := fun_mk (st := sNodeName) lnn cnn knn
  have bnn := Fnn.binds (ps := ["thing"]) fun _ _ _ _ _ _ us hl => match us, hl with | [_], _ => rfl
  have Dnn : Df K mg "is_node_name" fnn _ ["thing"] := ⟨PySem.W.mg_of X G ann, knn, bnn⟩
  have Fnr := fun_mk (st := sNeedRight) lnr cnr knr
  have bnr := Fnr.binds (ps := ["thing"]) fun _ _ _ _ _ _ us hl => match us, hl with | [_], _ => rfl
  have Dnr : Df K mg "_need_right" fnr _ ["thing"] := ⟨PySem.W.mg_of X G anr, knr, bnr⟩
  have Fic := fun_mk (st := sIsCall) lic cic kic
  have bic := Fic.binds (ps := ["right"]) fun _ _ _ _ _ _ us hl => match us, hl with | [_], _ => rfl
  have Dic : Df K mg "is_call" fic _ ["right"] := ⟨PySem.W.mg_of X G aic, kic, bic⟩
  have Fat := fun_mk (st := sAreTerms) lat cat kat
  have bat := Fat.binds (ps := ["things"]) fun _ _ _ _ _ _ us hl => match us, hl with | [_], _ => rfl
  have Dat : Df K mg "_are_terms" fat _ ["things"] := ⟨PySem.W.mg_of X G aat, kat, bat⟩
  have Ffo := fun_mk (st := sFormed) lfo cfo kfo
  have bfo := Ffo.binds (ps := ["thing"]) fun _ _ _ _ _ _ us hl => match us, hl with | [_], _ => rfl
  have Dfo : Df K mg "_is_formed" ffo _ ["thing"] := ⟨PySem.W.mg_of X G afo, kfo, bfo⟩
  have Ffi := fun_mk (st := sFits) lfi cfi kfi
  have bfi := Ffi.binds (ps := ["slot", "thing"]) fun _ _ _ _ _ _ us hl => match us, hl with | [_, _], _ => rfl
  have Dfi : Df K mg "_fits" ffi _ ["slot", "thing"] := ⟨PySem.W.mg_of X G afi, kfi, bfi⟩
  have Ftw := fun_mk (st := sWithin) ltw ctw ktw
  have btw := Ftw.binds (ps := ["right"]) fun _ _ _ _ _ _ us hl => match us, hl with | [_], _ => rfl
  have Dtw : Df K mg "terms_within" ftw _ ["right"] := ⟨PySem.W.mg_of X G atw, ktw, btw⟩
  have Fpa := fun_mk (st := sParts) lpa cpa kpa
  have bpa := Fpa.binds (ps := ["right"]) fun _ _ _ _ _ _ us hl => match us, hl with | [_], _ => rfl
  have Dpa : Df K mg "_parts" fpa _ ["right"] := ⟨PySem.W.mg_of X G apa, kpa, bpa⟩
  have Fce := fun_mk (st := sCell) lce cce kce
  have bce := Fce.binds (ps := ["_law_script", "_law_k"]) fun _ _ _ _ _ _ us hl => match us, hl with | [_, _], _ => rfl
  have Dce : Df K mg "_law_cell" fce _ ["_law_script", "_law_k"] := ⟨PySem.W.mg_of X G ace, kce, bce⟩
  have Fpu := fun_mk (st := sPurse) lpu cpu kpu
  have bpu := Fpu.binds (ps := ["_law_cell_here"]) fun _ _ _ _ _ _ us hl => match us, hl with | [_], _ => rfl
  have Dpu : Df K mg "_law_purse" fpu _ ["_law_cell_here"] := ⟨PySem.W.mg_of X G apu, kpu, bpu⟩
  have Fta := fun_mk (st := sTake) lta cta kta
  have bta := Fta.binds (ps := ["_law_purse_here", "_law_many"]) fun _ _ _ _ _ _ us hl => match us, hl with | [_, _], _ => rfl
  have Dta : Df K mg "_law_take" fta _ ["_law_purse_here", "_law_many"] := ⟨PySem.W.mg_of X G ata, kta, bta⟩
  have Fof := fun_mk (st := sOf) lof cof kof
  have bof := Fof.binds (ps := ["_law_purse_here", "_law_some"]) fun _ _ _ _ _ _ us hl => match us, hl with | [_, _], _ => rfl
  have Dof : Df K mg "_law_of" fof _ ["_law_purse_here", "_law_some"] := ⟨PySem.W.mg_of X G aof, kof, bof⟩
  have Fln := fun_mk (st := sLName) lln cln kln
  have bln := Fln.binds (ps := ["_law_purse_here"]) fun _ _ _ _ _ _ us hl => match us, hl with | [_], _ => rfl
  have Dln : Df K mg "_law_name" fln _ ["_law_purse_here"] := ⟨PySem.W.mg_of X G aln, kln, bln⟩
  have Flk := fun_mk (st := sLKind) llk clk klk
  have blk := Flk.binds (ps := ["_law_purse_here"]) fun _ _ _ _ _ _ us hl => match us, hl with | [_], _ => rfl
  have Dlk : Df K mg "_law_kind" flk _ ["_law_purse_here"] := ⟨PySem.W.mg_of X G alk, klk, blk⟩
  have Flw := fun_mk (st := sLWorth) llw clw klw
  have blw := Flw.binds (ps := ["_law_purse_here", "_law_kind_here"]) fun _ _ _ _ _ _ us hl => match us, hl with | [_, _], _ => rfl
  have Dlw : Df K mg "_law_worth" flw _ ["_law_purse_here", "_law_kind_here"] := ⟨PySem.W.mg_of X G alw, klw, blw⟩
  have Fan := fun_mk (st := sAny) lan can kan
  have ban := Fan.binds (ps := ["_law_purse_here", "_law_deep"]) fun _ _ _ _ _ _ us hl => match us, hl with | [_, _], _ => rfl
  have Dan : Df K mg "_law_any" fan _ ["_law_purse_here", "_law_deep"] := ⟨PySem.W.mg_of X G aan, kan, ban⟩
  have Fsi := fun_mk (st := sSide) lsi csi ksi
  have bsi := Fsi.binds (ps := ["_law_purse_here", "_law_deep"]) fun _ _ _ _ _ _ us hl => match us, hl with | [_, _], _ => rfl
  have Dsi : Df K mg "_law_side" fsi _ ["_law_purse_here", "_law_deep"] := ⟨PySem.W.mg_of X G asi, ksi, bsi⟩
  have Fnu := fun_mk (st := sLNumber) lnu cnu knu
  have bnu := Fnu.binds (ps := ["_law_thing", "_law_low", "_law_high"]) fun _ _ _ _ _ _ us hl => match us, hl with | [_, _, _], _ => rfl
  have Dnu : Df K mg "_law_is_number" fnu _ ["_law_thing", "_law_low", "_law_high"] := ⟨PySem.W.mg_of X G anu, knu, bnu⟩
  have Flm := fun_mk (st := sLIsName) llm clm klm
  have blm := Flm.binds (ps := ["_law_thing"]) fun _ _ _ _ _ _ us hl => match us, hl with | [_], _ => rfl
  have Dlm : Df K mg "_law_is_name" flm _ ["_law_thing"] := ⟨PySem.W.mg_of X G alm, klm, blm⟩
  have Flj := fun_mk (st := sLIsKind) llj clj klj
  have blj := Flj.binds (ps := ["_law_thing"]) fun _ _ _ _ _ _ us hl => match us, hl with | [_], _ => rfl
  have Dlj : Df K mg "_law_is_kind" flj _ ["_law_thing"] := ⟨PySem.W.mg_of X G alj, klj, blj⟩
  have Flo := fun_mk (st := sLIsWorth) llo clo klo
  have blo := Flo.binds (ps := ["_law_thing", "_law_kind_here"]) fun _ _ _ _ _ _ us hl => match us, hl with | [_, _], _ => rfl
  have Dlo : Df K mg "_law_is_worth" flo _ ["_law_thing", "_law_kind_here"] := ⟨PySem.W.mg_of X G alo, klo, blo⟩
  have Fle := fun_mk (st := sLAre) lle cle kle
  have ble := Fle.binds (ps := ["_law_thing", "_law_low", "_law_high"]) fun _ _ _ _ _ _ us hl => match us, hl with | [_, _, _], _ => rfl
  have Dle : Df K mg "_law_are_terms" fle _ ["_law_thing", "_law_low", "_law_high"] := ⟨PySem.W.mg_of X G ale, kle, ble⟩
  have Flt := fun_mk (st := sLTerm) llt clt klt
  have blt := Flt.binds (ps := ["_law_thing"]) fun _ _ _ _ _ _ us hl => match us, hl with | [_], _ => rfl
  have Dlt : Df K mg "_law_is_term" flt _ ["_law_thing"] := ⟨PySem.W.mg_of X G alt, klt, blt⟩
  have Fls := fun_mk (st := sLSide) lls cls kls
  have bls := Fls.binds (ps := ["_law_thing"]) fun _ _ _ _ _ _ us hl => match us, hl with | [_], _ => rfl
  have Dls : Df K mg "_law_is_side" fls _ ["_law_thing"] := ⟨PySem.W.mg_of X G als, kls, bls⟩
  have Fod := fun_mk (st := sOdd) lod cod kod
  have bod := Fod.binds (ps := ["_law_purse_here"]) fun _ _ _ _ _ _ us hl => match us, hl with | [_], _ => rfl
  have Dod : Df K mg "_law_odd" fod _ ["_law_purse_here"] := ⟨PySem.W.mg_of X G aod, kod, bod⟩
  have Fbe := fun_mk (st := sBent) lbe cbe kbe
  have bbe := Fbe.binds (ps := ["_law_purse_here", "_law_thing"]) fun _ _ _ _ _ _ us hl => match us, hl with | [_, _], _ => rfl
  have Dbe : Df K mg "_law_bent" fbe _ ["_law_purse_here", "_law_thing"] := ⟨PySem.W.mg_of X G abe, kbe, bbe⟩
  have Flp := fun_mk (st := sLParts) llp clp klp
  have blp := Flp.binds (ps := ["_law_term"]) fun _ _ _ _ _ _ us hl => match us, hl with | [_], _ => rfl
  have Dlp : Df K mg "_law_parts" flp _ ["_law_term"] := ⟨PySem.W.mg_of X G alp, klp, blp⟩
  have Fsp := fun_mk (st := sLSideParts) lsp csp ksp
  have bsp := Fsp.binds (ps := ["_law_side_here"]) fun _ _ _ _ _ _ us hl => match us, hl with | [_], _ => rfl
  have Dsp : Df K mg "_law_side_parts" fsp _ ["_law_side_here"] := ⟨PySem.W.mg_of X G asp, ksp, bsp⟩
  have Fas := fun_mk (st := sAsked) las cas kas
  have bas := Fas.binds (ps := ["_law_way", "_law_thing"]) fun _ _ _ _ _ _ us hl => match us, hl with | [_, _], _ => rfl
  have Das : Df K mg "_law_asked" fas _ ["_law_way", "_law_thing"] := ⟨PySem.W.mg_of X G aas, kas, bas⟩
  have Fri := fun_mk (st := sRight) lri cri kri
  have bri := Fri.binds (ps := ["_law_thing"]) fun _ _ _ _ _ _ us hl => match us, hl with | [_], _ => rfl
  have Dri : Df K mg "_law_right" fri _ ["_law_thing"] := ⟨PySem.W.mg_of X G ari, kri, bri⟩
  have Fla := fun_mk (st := sLaw) lla cla kla
  have sqdF0t : ∀ H, SqT K H qdF0 [V.str "kind", V.str "worth"] := fun _ => .inr ⟨_, _, _, lqdF0t, rfl, rfl, by show 2 ≤ sizeLine; decide, .cons ⟨_, rfl⟩ (.cons ⟨_, rfl⟩ (.nil))⟩
  have sqdF1t : ∀ H, SqT K H qdF1 [V.str "name"] := fun _ => .inr ⟨_, _, _, lqdF1t, rfl, rfl, by show 1 ≤ sizeLine; decide, .cons ⟨_, rfl⟩ (.nil)⟩
  have sqdF2t : ∀ H, SqT K H qdF2 [V.str "name"] := fun _ => .inr ⟨_, _, _, lqdF2t, rfl, rfl, by show 1 ≤ sizeLine; decide, .cons ⟨_, rfl⟩ (.nil)⟩
  have sqdF3t : ∀ H, SqT K H qdF3 [V.str "term", V.str "term"] := fun _ => .inr ⟨_, _, _, lqdF3t, rfl, rfl, by show 2 ≤ sizeLine; decide, .cons ⟨_, rfl⟩ (.cons ⟨_, rfl⟩ (.nil))⟩
  have sqdF4t : ∀ H, SqT K H qdF4 [V.str "term"] := fun _ => .inr ⟨_, _, _, lqdF4t, rfl, rfl, by show 1 ≤ sizeLine; decide, .cons ⟨_, rfl⟩ (.nil)⟩
  have sqdF5t : ∀ H, SqT K H qdF5 [V.str "term", V.str "term"] := fun _ => .inr ⟨_, _, _, lqdF5t, rfl, rfl, by show 2 ≤ sizeLine; decide, .cons ⟨_, rfl⟩ (.cons ⟨_, rfl⟩ (.nil))⟩
  have sqdF6t : ∀ H, SqT K H qdF6 [V.str "term", V.str "term"] := fun _ => .inr ⟨_, _, _, lqdF6t, rfl, rfl, by show 2 ≤ sizeLine; decide, .cons ⟨_, rfl⟩ (.cons ⟨_, rfl⟩ (.nil))⟩
  have sqdF7t : ∀ H, SqT K H qdF7 [V.str "term", V.str "term"] := fun _ => .inr ⟨_, _, _, lqdF7t, rfl, rfl, by show 2 ≤ sizeLine; decide, .cons ⟨_, rfl⟩ (.cons ⟨_, rfl⟩ (.nil))⟩
  have sqdF8t : ∀ H, SqT K H qdF8 [V.str "term", V.str "term"] := fun _ => .inr ⟨_, _, _, lqdF8t, rfl, rfl, by show 2 ≤ sizeLine; decide, .cons ⟨_, rfl⟩ (.cons ⟨_, rfl⟩ (.nil))⟩
  have sqdF9t : ∀ H, SqT K H qdF9 [V.str "term", V.str "term"] := fun _ => .inr ⟨_, _, _, lqdF9t, rfl, rfl, by show 2 ≤ sizeLine; decide, .cons ⟨_, rfl⟩ (.cons ⟨_, rfl⟩ (.nil))⟩
  have sqdF10t : ∀ H, SqT K H qdF10 [V.str "term", V.str "term"] := fun _ => .inr ⟨_, _, _, lqdF10t, rfl, rfl, by show 2 ≤ sizeLine; decide, .cons ⟨_, rfl⟩ (.cons ⟨_, rfl⟩ (.nil))⟩
  have sqdF11t : ∀ H, SqT K H qdF11 [V.str "term", V.str "term"] := fun _ => .inr ⟨_, _, _, lqdF11t, rfl, rfl, by show 2 ≤ sizeLine; decide, .cons ⟨_, rfl⟩ (.cons ⟨_, rfl⟩ (.nil))⟩
  have sqdF12t : ∀ H, SqT K H qdF12 [V.str "width", V.str "term"] := fun _ => .inr ⟨_, _, _, lqdF12t, rfl, rfl, by show 2 ≤ sizeLine; decide, .cons ⟨_, rfl⟩ (.cons ⟨_, rfl⟩ (.nil))⟩
  have sqdF13t : ∀ H, SqT K H qdF13 [V.str "bit", V.str "term"] := fun _ => .inr ⟨_, _, _, lqdF13t, rfl, rfl, by show 2 ≤ sizeLine; decide, .cons ⟨_, rfl⟩ (.cons ⟨_, rfl⟩ (.nil))⟩
  have sqdF14t : ∀ H, SqT K H qdF14 [V.str "term", V.str "term", V.str "term"] := fun _ => .inr ⟨_, _, _, lqdF14t, rfl, rfl, by show 3 ≤ sizeLine; decide, .cons ⟨_, rfl⟩ (.cons ⟨_, rfl⟩ (.cons ⟨_, rfl⟩ (.nil)))⟩
  have sqdF15t : ∀ H, SqT K H qdF15 [V.str "term", V.str "name", V.str "truth"] := fun _ => .inr ⟨_, _, _, lqdF15t, rfl, rfl, by show 3 ≤ sizeLine; decide, .cons ⟨_, rfl⟩ (.cons ⟨_, rfl⟩ (.cons ⟨_, rfl⟩ (.nil)))⟩
  have sqdF16t : ∀ H, SqT K H qdF16 [V.str "name", V.str "term", V.str "term"] := fun _ => .inr ⟨_, _, _, lqdF16t, rfl, rfl, by show 3 ≤ sizeLine; decide, .cons ⟨_, rfl⟩ (.cons ⟨_, rfl⟩ (.cons ⟨_, rfl⟩ (.nil)))⟩
  have sqdF17t : ∀ H, SqT K H qdF17 [V.str "parts"] := fun _ => .inr ⟨_, _, _, lqdF17t, rfl, rfl, by show 1 ≤ sizeLine; decide, .cons ⟨_, rfl⟩ (.nil)⟩
  have sqdF18t : ∀ H, SqT K H qdF18 [V.str "place", V.str "term"] := fun _ => .inr ⟨_, _, _, lqdF18t, rfl, rfl, by show 2 ≤ sizeLine; decide, .cons ⟨_, rfl⟩ (.cons ⟨_, rfl⟩ (.nil))⟩
  have sqdF19t : ∀ H, SqT K H qdF19 [V.str "node", V.str "args", V.str "every"] := fun _ => .inr ⟨_, _, _, lqdF19t, rfl, rfl, by show 3 ≤ sizeLine; decide, .cons ⟨_, rfl⟩ (.cons ⟨_, rfl⟩ (.cons ⟨_, rfl⟩ (.nil)))⟩
  have sqdF20t : ∀ H, SqT K H qdF20 [V.str "node", V.str "rows", V.str "every"] := fun _ => .inr ⟨_, _, _, lqdF20t, rfl, rfl, by show 3 ≤ sizeLine; decide, .cons ⟨_, rfl⟩ (.cons ⟨_, rfl⟩ (.cons ⟨_, rfl⟩ (.nil)))⟩
  have sqdF21t : ∀ H, SqT K H qdF21 [V.str "node", V.str "term", V.str "rows", V.str "every"] := fun _ => .inr ⟨_, _, _, lqdF21t, rfl, rfl, by show 4 ≤ sizeLine; decide, .cons ⟨_, rfl⟩ (.cons ⟨_, rfl⟩ (.cons ⟨_, rfl⟩ (.cons ⟨_, rfl⟩ (.nil))))⟩
  have sqdF22t : ∀ H, SqT K H qdF22 [V.str "node", V.str "term", V.str "every"] := fun _ => .inr ⟨_, _, _, lqdF22t, rfl, rfl, by show 3 ≤ sizeLine; decide, .cons ⟨_, rfl⟩ (.cons ⟨_, rfl⟩ (.cons ⟨_, rfl⟩ (.nil)))⟩
  have fdF : FTab K FMv [("lit", V.ref qdF0), ("name", V.ref qdF1), ("last", V.ref qdF2), ("first", V.ref qdF3), ("not", V.ref qdF4), ("and", V.ref qdF5), ("or", V.ref qdF6), ("xor", V.ref qdF7), ("add", V.ref qdF8), ("sub", V.ref qdF9), ("less", V.ref qdF10), ("same", V.ref qdF11), ("wide", V.ref qdF12), ("bit", V.ref qdF13), ("pick", V.ref qdF14), ("when", V.ref qdF15), ("merge", V.ref qdF16), ("row", V.ref qdF17), ("at", V.ref qdF18), ("call", V.ref qdF19), ("map", V.ref qdF20), ("fold", V.ref qdF21), ("pairs", V.ref qdF22)] := .cons sqdF0t (.cons sqdF1t (.cons sqdF2t (.cons sqdF3t (.cons sqdF4t (.cons sqdF5t (.cons sqdF6t (.cons sqdF7t (.cons sqdF8t (.cons sqdF9t (.cons sqdF10t (.cons sqdF11t (.cons sqdF12t (.cons sqdF13t (.cons sqdF14t (.cons sqdF15t (.cons sqdF16t (.cons sqdF17t (.cons sqdF18t (.cons sqdF19t (.cons sqdF20t (.cons sqdF21t (.cons sqdF22t (.nil)))))))))))))))))))))))
  have DdF : Dct K w dF [("lit", V.ref qdF0), ("name", V.ref qdF1), ("last", V.ref qdF2), ("first", V.ref qdF3), ("not", V.ref qdF4), ("and", V.ref qdF5), ("or", V.ref qdF6), ("xor", V.ref qdF7), ("add", V.ref qdF8), ("sub", V.ref qdF9), ("less", V.ref qdF10), ("same", V.ref qdF11), ("wide", V.ref qdF12), ("bit", V.ref qdF13), ("pick", V.ref qdF14), ("when", V.ref qdF15), ("merge", V.ref qdF16), ("row", V.ref qdF17), ("at", V.ref qdF18), ("call", V.ref qdF19), ("map", V.ref qdF20), ("fold", V.ref qdF21), ("pairs", V.ref qdF22)] := ⟨⟨_, _, ⟨ldF, ydF, lowdF⟩, wdF⟩⟩
  have sqdS0t : ∀ H, SqT K H qdS0 [V.int 2, V.int 4] := fun _ => .inr ⟨_, _, _, lqdS0t, rfl, rfl, by show 2 ≤ sizeLine; decide, .cons ⟨_, rfl⟩ (.cons ⟨_, rfl⟩ (.nil))⟩
  have sqdS1t : ∀ H, SqT K H qdS1 [V.int 0, V.int 6] := fun _ => .inr ⟨_, _, _, lqdS1t, rfl, rfl, by show 2 ≤ sizeLine; decide, .cons ⟨_, rfl⟩ (.cons ⟨_, rfl⟩ (.nil))⟩
  have sqdS2t : ∀ H, SqT K H qdS2 [V.int 1, V.int 4] := fun _ => .inr ⟨_, _, _, lqdS2t, rfl, rfl, by show 2 ≤ sizeLine; decide, .cons ⟨_, rfl⟩ (.cons ⟨_, rfl⟩ (.nil))⟩
  have fdS : FTab K STv [("parts", V.ref qdS0), ("args", V.ref qdS1), ("rows", V.ref qdS2)] := .cons sqdS0t (.cons sqdS1t (.cons sqdS2t (.nil)))
  have DdS : Dct K w dS [("parts", V.ref qdS0), ("args", V.ref qdS1), ("rows", V.ref qdS2)] := ⟨⟨_, _, ⟨ldS, ydS, lowdS⟩, wdS⟩⟩
  have sdCt : ∀ H, SqT K H dC [V.str "call", V.str "map", V.str "fold", V.str "pairs"] := fun _ => .inr ⟨_, _, _, ldCt, rfl, rfl, by show 4 ≤ sizeLine; decide, .cons ⟨_, rfl⟩ (.cons ⟨_, rfl⟩ (.cons ⟨_, rfl⟩ (.cons ⟨_, rfl⟩ (.nil))))⟩
  have TB : Tbs K w mg dF dS dC := ⟨PySem.W.mg_of X G gdF, PySem.W.mg_of X G gdS, PySem.W.mg_of X G gdC, ⟨_, DdF, fdF⟩, ⟨_, DdS, fdS⟩, sdCt⟩
  have FF := fun_mk (st := sFE) lF cF kF
  have bF := FF.binds (ps := ["self", "text"]) fun _ _ _ _ _ _ us hl => match us, hl with | [_, _], _ => rfl
  have FT := fun_mk (st := sNT) lT cT kT
  have bT := FT.binds (ps := ["self", "found"]) fun _ _ _ _ _ _ us hl => match us, hl with | [_, _], _ => rfl
  have OT : OexC K CT := ⟨⟨_, _, _, _, _, _, _, _, _, _, _, _, _, _, _, xT, veT⟩, saT, eCT, tCT, kCT⟩
  have TT : ExT K mg "NoTerm" CT fT _ := ⟨PySem.W.mg_of X G aT, OT, iT, tT, nfT, ⟨gaT, ggT, eCT, hCT⟩, bT⟩
  have EX := PySem.W.exm_ref eCT hCT tCT uTT
  have misinstance := PySem.W.mg_none_of X G zisinstance
  have mint := PySem.W.mg_none_of X G zint
  have mbool := PySem.W.mg_none_of X G zbool
  have mlist := PySem.W.mg_none_of X G zlist
  have mtuple := PySem.W.mg_none_of X G ztuple
  have mrange := PySem.W.mg_none_of X G zrange
  have mlen := PySem.W.mg_none_of X G zlen
  have mall := PySem.W.mg_none_of X G zall
  have mValueError := PySem.W.mg_none_of X G zValueError
  have mmax := PySem.W.mg_none_of X G zmax
  have mmin := PySem.W.mg_none_of X G zmin
  have mrepr := PySem.W.mg_none_of X G zrepr
  have mzip := PySem.W.mg_none_of X G zzip
  have mstr := PySem.W.mg_none_of X G zstr
  refine ⟨PySem.W.fnOf "law" "law" (defArgs sLaw) (defBody sLaw) (defScope sLaw) .none kVla dcla pmla anla cdla ctla, fun s v => .of_eq rfl, fun base _ _ => ?_⟩
  have BT : BaseT l.prog w K mg base (.type "type") CF fF _ := ⟨PySem.W.mg_of X G aF, ⟨rF, gF⟩, vF, kF, bF, ok_FE FF mValueError vV⟩
  have Gnb : FnOk l.prog w K mg base CX0 1 fnb _ _ _ := ok_num Fnb misinstance mint mbool
  have Gwh : FnOk l.prog w K mg base CX0 2 fwh _ _ _ := ok_whole Fwh Dnb Gnb
  have Gna : FnOk l.prog w K mg base CX0 2 fna _ _ _ := ok_name Fna misinstance mstr mlen mall
  have Gwi : FnOk l.prog w K mg base CX0 3 fwi _ _ _ := ok_width Fwi Dwh Gwh
  have Gtr : FnOk l.prog w K mg base CX0 3 ftr _ _ _ := ok_truth Ftr Dwh Gwh
  have Gki : FnOk l.prog w K mg base CX0 4 fki _ _ _ := ok_kind Fki Dwi Gwi Dwh Gwh misinstance mtuple mlen
  have Ggr : FnOk l.prog w K mg base CX0 2 fgr _ _ _ := ok_great Fgr
  have Gwo : FnOk l.prog w K mg base CX0 3 fwo _ _ _ := ok_worthOf Fwo Dwh Gwh Dgr Ggr
  have Gar : FnOk l.prog w K mg base CX0 4 far _ _ _ := ok_are Far Dwo Gwo mall
  have Giw : FnOk l.prog w K mg base CX0 5 fiw _ _ _ := ok_isWorth Fiw Dki Gki Dwo Gwo Dar Gar misinstance mtuple mlen
  have Gnn : FnOk l.prog w K mg base CX0 3 fnn _ _ _ := ok_node Fnn Dna Gna misinstance mstr mlen mall
  have SM : Sml l.prog w K mg base fwh fwi ftr fna fki fnn _ _ _ _ _ _ := ⟨Dwh, Gwh, Dwi, Gwi, Dtr, Gtr, Dna, Gna, Dki, Gki, Dnn, Gnn, misinstance, mtuple, mstr, mlen, mall, mzip, mlist⟩
  have Gfi : FnOk l.prog w K mg base CX0 5 ffi _ _ _ := ok_fits Ffi TB SM
  have Gfo : FnOk l.prog w K mg base CX0 6 ffo _ _ _ := ok_formed Ffo TB SM Dfi Gfi Diw Giw
  have Gic : FnOk l.prog w K mg base CX0 2 fic _ _ _ := ok_call Fic TB
  have Gtw : FnOk l.prog w K mg base CX0 2 ftw _ _ _ := ok_within Ftw TB mzip
  have Gat : FnOk l.prog w K mg base CX0 7 fat _ _ _ := ok_areTerms Fat Dfo Gfo Dic Gic Dtw Gtw mlist
  have Git : FnOk l.prog w K mg base CX0 8 fit _ _ _ := ok_isTerm Fit Dat Gat
  have Gir : FnOk l.prog w K mg base CX0 8 fir _ _ _ := ok_isRight Fir Dat Gat Dfo Gfo Dtw Gtw
  have GT : FnOk l.prog w K mg base CX0 3 fT _ _ _ := ok_NT FT BT OT nfT
  have Gnr : FnOk l.prog w K mg base (CXL l.prog w) 9 fnr _ _ _ := ok_need Fnr TT GT Dir Gir
  have Gpa : FnOk l.prog w K mg base CX0 3 fpa _ _ _ := ok_parts Fpa Dic Gic Dtw Gtw
  have Gpo : FnOk l.prog w K mg base (CXL l.prog w) 10 fpo _ _ _ := ok_partsOf Fpo Dnr Gnr Dpa Gpa
  have Gso : FnOk l.prog w K mg base (CXL l.prog w) 10 fso _ _ _ := ok_sizeOf Fso Dnr Gnr Dpa Gpa Dic Gic mlen
  have Gce : FnOk l.prog w K mg base CX0 1 fce _ _ _ := ok_cell Fce mlen
  have Gpu : FnOk l.prog w K mg base CX0 1 fpu _ _ _ := ok_purse Fpu mmax
  have Gta : FnOk l.prog w K mg base CX0 1 fta _ _ _ := ok_take Fta
  have Gof : FnOk l.prog w K mg base CX0 2 fof _ _ _ := ok_of Fof Dta Gta mlen
  have Gln : FnOk l.prog w K mg base CX0 2 fln _ _ _ := ok_lname Fln Dta Gta mrange
  have Glk : FnOk l.prog w K mg base CX0 2 flk _ _ _ := ok_lkind Flk Dta Gta
  have Glw : FnOk l.prog w K mg base CX0 3 flw _ _ (spLW 2) := ok_lworth Flw Dlw Dta Gta misinstance mtuple mrange 2
  have MK : Mkr l.prog w K mg base fta fln flk flw _ _ _ _ := ⟨Dta, Gta, Dln, Gln, Dlk, Glk, Dlw, Glw⟩
  have Gan : FnOk l.prog w K mg base CX0 8 fan _ _ (spAny 5) := ok_any Fan Dan MK 5
  have Gsi : FnOk l.prog w K mg base CX0 9 fsi _ _ _ := ok_side Fsi Dan Gan MK mrange mtuple
  have Gnu : FnOk l.prog w K mg base CX0 1 fnu _ _ _ := ok_lnum Fnu misinstance mint mbool
  have Glm : FnOk l.prog w K mg base CX0 1 flm _ _ _ := ok_lisname Flm misinstance mstr mlen
  have Glj : FnOk l.prog w K mg base CX0 2 flj _ _ _ := ok_liskind Flj Dnu Gnu misinstance mtuple mlen
  have Glo : FnOk l.prog w K mg base CX0 2 flo _ _ _ := ok_lisworth Flo Dnu Gnu misinstance mtuple mlen
  have LK : Lks l.prog w K mg base fnu flm flj flo _ _ _ _ := ⟨Dnu, Gnu, Dlm, Glm, Dlj, Glj, Dlo, Glo, misinstance, mtuple, mstr, mlen⟩
  have Glt : FnOk l.prog w K mg base CX0 82 flt _ _ (spLT 40) := ok_lterm Flt Dlt Fle Dle LK 40
  have Gle : FnOk l.prog w K mg base CX0 83 fle _ _ (spLA 40) := ok_lare (m := 40) Fle Dlt Glt misinstance mtuple mlen
  have Gls : FnOk l.prog w K mg base CX0 84 fls _ _ _ := ok_lside Fls Dlt Glt Dle Gle LK
  have God : FnOk l.prog w K mg base CX0 3 fod _ _ _ := ok_odd Fod Dof Gof
  have Gbe : FnOk l.prog w K mg base CX0 18 fbe _ _ (spBent 15) := ok_bent Fbe Dbe MK ⟨misinstance, mtuple, mlen, mlist⟩ Dod God 15
  have Glp : FnOk l.prog w K mg base CX0 41 flp _ _ (spLP 41) := ok_lparts Flp Dlp misinstance mtuple mlist 41
  have Gsp : FnOk l.prog w K mg base CX0 83 fsp _ _ _ := ok_lsp Fsp Dlt Glt Dlp Glp mlist
  have Gas : FnOk l.prog w K mg base CX0 11 fas _ _ _ := ok_askedL Fas TT EX Dpo Gpo Dso Gso
  have RT : Rts l.prog w K mg base fit fir fls flt fas fsp _ _ _ _ _ _ := ⟨Dit, Git, Dir, Gir, Dls, Gls, Dlt, Glt, Das, Gas, Dsp, Gsp, misinstance, mlist, mlen, mint, mrepr⟩
  have Gri : FnG l.prog w K mg base CX0 85 fri _ _ _ := ok_lright Fri RT
  exact ok_law Fla ⟨Dce, Gce, Dpu, Gpu, Dta, Gta, Dsi, Gsi, Dan, Gan, Dbe, Gbe, Dod, God, Dri, Gri, mrange, mlen, mmax, mmin⟩
end P4
end Bf

open PySem PySem.W PyProof.Rows in
set_option maxRecDepth 100000 in
set_option maxHeartbeats 0 in
theorem PySem.Challenge.cw_beatflows_k04_terms_of_anything_holds : PySem.Challenge.rw_beatflows_k04_terms_of_anything.Holds := by
  w_on; o_law; k_head; (case hw => w_witness2)
  k_fill
  refine Bf.walkG (l := PySem.Challenge.rw_beatflows_k04_terms_of_anything) (n := 63) (k := 86) (x := "_law_script") (sp := Bf.P4.spLaw) rfl (by decide) rfl ⟨rfl, by decide, by decide⟩ (fun w h Y => PySem.W.kIn_of Y) ?F
    (fun K H a ns hl hS _ => ⟨a, ns, rfl, hS, hl, fun _ => rfl⟩)
  case F =>
    intro w mg fa h KX G hmg
    refine' Bf.P4.all_mk KX G hmg ?zz_anb ?zz_lnb ?zz_cnb ?zz_knb ?zz_awh ?zz_lwh ?zz_cwh ?zz_kwh ?zz_ana ?zz_lna ?zz_cna ?zz_kna ?zz_awi ?zz_lwi ?zz_cwi ?zz_kwi ?zz_atr ?zz_ltr ?zz_ctr ?zz_ktr ?zz_aki ?zz_lki ?zz_cki ?zz_kki ?zz_aiw ?zz_liw ?zz_ciw ?zz_kiw ?zz_agr ?zz_lgr ?zz_cgr ?zz_kgr ?zz_awo ?zz_lwo ?zz_cwo ?zz_kwo ?zz_aar ?zz_lar ?zz_car ?zz_kar ?zz_ait ?zz_lit ?zz_cit ?zz_kit ?zz_air ?zz_lir ?zz_cir ?zz_kir ?zz_apo ?zz_lpo ?zz_cpo ?zz_kpo ?zz_aso ?zz_lso ?zz_cso ?zz_kso ?zz_ann ?zz_lnn ?zz_cnn ?zz_knn ?zz_anr ?zz_lnr ?zz_cnr ?zz_knr ?zz_aic ?zz_lic ?zz_cic ?zz_kic ?zz_aat ?zz_lat ?zz_cat ?zz_kat ?zz_afo ?zz_lfo ?zz_cfo ?zz_kfo ?zz_afi ?zz_lfi ?zz_cfi ?zz_kfi ?zz_atw ?zz_ltw ?zz_ctw ?zz_ktw ?zz_apa ?zz_lpa ?zz_cpa ?zz_kpa ?zz_ace ?zz_lce ?zz_cce ?zz_kce ?zz_apu ?zz_lpu ?zz_cpu ?zz_kpu ?zz_ata ?zz_lta ?zz_cta ?zz_kta ?zz_aof ?zz_lof ?zz_cof ?zz_kof ?zz_aln ?zz_lln ?zz_cln ?zz_kln ?zz_alk ?zz_llk ?zz_clk ?zz_klk ?zz_alw ?zz_llw ?zz_clw ?zz_klw ?zz_aan ?zz_lan ?zz_can ?zz_kan ?zz_asi ?zz_lsi ?zz_csi ?zz_ksi ?zz_anu ?zz_lnu ?zz_cnu ?zz_knu ?zz_alm ?zz_llm ?zz_clm ?zz_klm ?zz_alj ?zz_llj ?zz_clj ?zz_klj ?zz_alo ?zz_llo ?zz_clo ?zz_klo ?zz_ale ?zz_lle ?zz_cle ?zz_kle ?zz_alt ?zz_llt ?zz_clt ?zz_klt ?zz_als ?zz_lls ?zz_cls ?zz_kls ?zz_aod ?zz_lod ?zz_cod ?zz_kod ?zz_abe ?zz_lbe ?zz_cbe ?zz_kbe ?zz_alp ?zz_llp ?zz_clp ?zz_klp ?zz_asp ?zz_lsp ?zz_csp ?zz_ksp ?zz_aas ?zz_las ?zz_cas ?zz_kas ?zz_ari ?zz_lri ?zz_cri ?zz_kri ?zz_ala ?zz_lla ?zz_cla ?zz_kla ?zz_gdF ?zz_ldF ?zz_ydF ?zz_lowdF ?zz_wdF ?zz_lqdF0t ?zz_lqdF1t ?zz_lqdF2t ?zz_lqdF3t ?zz_lqdF4t ?zz_lqdF5t ?zz_lqdF6t ?zz_lqdF7t ?zz_lqdF8t ?zz_lqdF9t ?zz_lqdF10t ?zz_lqdF11t ?zz_lqdF12t ?zz_lqdF13t ?zz_lqdF14t ?zz_lqdF15t ?zz_lqdF16t ?zz_lqdF17t ?zz_lqdF18t ?zz_lqdF19t ?zz_lqdF20t ?zz_lqdF21t ?zz_lqdF22t ?zz_gdS ?zz_ldS ?zz_ydS ?zz_lowdS ?zz_wdS ?zz_lqdS0t ?zz_lqdS1t ?zz_lqdS2t ?zz_gdC ?zz_ldCt ?zz_aF ?zz_rF ?zz_gF ?zz_vF ?zz_lF ?zz_cF ?zz_kF ?zz_vV ?zz_aT ?zz_xT ?zz_veT ?zz_saT ?zz_gaT ?zz_ggT ?zz_nfT ?zz_iT ?zz_tT ?zz_lT ?zz_cT ?zz_kT ?zz_kCT ?zz_eCT ?zz_tCT ?zz_hCT ?zz_uTT ?zz_zisinstance ?zz_zint ?zz_zbool ?zz_zlist ?zz_ztuple ?zz_zrange ?zz_zlen ?zz_zall ?zz_zValueError ?zz_zmax ?zz_zmin ?zz_zrepr ?zz_zzip ?zz_zstr
    (case zz_anb => k_is)
    (case zz_lnb => k_is)
    (case zz_cnb => k_is)
    (case zz_knb => k_is)
    (case zz_awh => k_is)
    (case zz_lwh => k_is)
    (case zz_cwh => k_is)
    (case zz_kwh => k_is)
    (case zz_ana => k_is)
    (case zz_lna => k_is)
    (case zz_cna => k_is)
    (case zz_kna => k_is)
    (case zz_awi => k_is)
    (case zz_lwi => k_is)
    (case zz_cwi => k_is)
    (case zz_kwi => k_is)
    (case zz_atr => k_is)
    (case zz_ltr => k_is)
    (case zz_ctr => k_is)
    (case zz_ktr => k_is)
    (case zz_aki => k_is)
    (case zz_lki => k_is)
    (case zz_cki => k_is)
    (case zz_kki => k_is)
    (case zz_aiw => k_is)
    (case zz_liw => k_is)
    (case zz_ciw => k_is)
    (case zz_kiw => k_is)
    (case zz_agr => k_is)
    (case zz_lgr => k_is)
    (case zz_cgr => k_is)
    (case zz_kgr => k_is)
    (case zz_awo => k_is)
    (case zz_lwo => k_is)
    (case zz_cwo => k_is)
    (case zz_kwo => k_is)
    (case zz_aar => k_is)
    (case zz_lar => k_is)
    (case zz_car => k_is)
    (case zz_kar => k_is)
    (case zz_ait => k_is)
    (case zz_lit => k_is)
    (case zz_cit => k_is)
    (case zz_kit => k_is)
    (case zz_air => k_is)
    (case zz_lir => k_is)
    (case zz_cir => k_is)
    (case zz_kir => k_is)
    (case zz_apo => k_is)
    (case zz_lpo => k_is)
    (case zz_cpo => k_is)
    (case zz_kpo => k_is)
    (case zz_aso => k_is)
    (case zz_lso => k_is)
    (case zz_cso => k_is)
    (case zz_kso => k_is)
    (case zz_ann => k_is)
    (case zz_lnn => k_is)
    (case zz_cnn => k_is)
    (case zz_knn => k_is)
    (case zz_anr => k_is)
    (case zz_lnr => k_is)
    (case zz_cnr => k_is)
    (case zz_knr => k_is)
    (case zz_aic => k_is)
    (case zz_lic => k_is)
    (case zz_cic => k_is)
    (case zz_kic => k_is)
    (case zz_aat => k_is)
    (case zz_lat => k_is)
    (case zz_cat => k_is)
    (case zz_kat => k_is)
    (case zz_afo => k_is)
    (case zz_lfo => k_is)
    (case zz_cfo => k_is)
    (case zz_kfo => k_is)
    (case zz_afi => k_is)
    (case zz_lfi => k_is)
    (case zz_cfi => k_is)
    (case zz_kfi => k_is)
    (case zz_atw => k_is)
    (case zz_ltw => k_is)
    (case zz_ctw => k_is)
    (case zz_ktw => k_is)
    (case zz_apa => k_is)
    (case zz_lpa => k_is)
    (case zz_cpa => k_is)
    (case zz_kpa => k_is)
    (case zz_ace => k_is)
    (case zz_lce => k_is)
    (case zz_cce => k_is)
    (case zz_kce => k_is)
    (case zz_apu => k_is)
    (case zz_lpu => k_is)
    (case zz_cpu => k_is)
    (case zz_kpu => k_is)
    (case zz_ata => k_is)
    (case zz_lta => k_is)
    (case zz_cta => k_is)
    (case zz_kta => k_is)
    (case zz_aof => k_is)
    (case zz_lof => k_is)
    (case zz_cof => k_is)
    (case zz_kof => k_is)
    (case zz_aln => k_is)
    (case zz_lln => k_is)
    (case zz_cln => k_is)
    (case zz_kln => k_is)
    (case zz_alk => k_is)
    (case zz_llk => k_is)
    (case zz_clk => k_is)
    (case zz_klk => k_is)
    (case zz_alw => k_is)
    (case zz_llw => k_is)
    (case zz_clw => k_is)
    (case zz_klw => k_is)
    (case zz_aan => k_is)
    (case zz_lan => k_is)
    (case zz_can => k_is)
    (case zz_kan => k_is)
    (case zz_asi => k_is)
    (case zz_lsi => k_is)
    (case zz_csi => k_is)
    (case zz_ksi => k_is)
    (case zz_anu => k_is)
    (case zz_lnu => k_is)
    (case zz_cnu => k_is)
    (case zz_knu => k_is)
    (case zz_alm => k_is)
    (case zz_llm => k_is)
    (case zz_clm => k_is)
    (case zz_klm => k_is)
    (case zz_alj => k_is)
    (case zz_llj => k_is)
    (case zz_clj => k_is)
    (case zz_klj => k_is)
    (case zz_alo => k_is)
    (case zz_llo => k_is)
    (case zz_clo => k_is)
    (case zz_klo => k_is)
    (case zz_ale => k_is)
    (case zz_lle => k_is)
    (case zz_cle => k_is)
    (case zz_kle => k_is)
    (case zz_alt => k_is)
    (case zz_llt => k_is)
    (case zz_clt => k_is)
    (case zz_klt => k_is)
    (case zz_als => k_is)
    (case zz_lls => k_is)
    (case zz_cls => k_is)
    (case zz_kls => k_is)
    (case zz_aod => k_is)
    (case zz_lod => k_is)
    (case zz_cod => k_is)
    (case zz_kod => k_is)
    (case zz_abe => k_is)
    (case zz_lbe => k_is)
    (case zz_cbe => k_is)
    (case zz_kbe => k_is)
    (case zz_alp => k_is)
    (case zz_llp => k_is)
    (case zz_clp => k_is)
    (case zz_klp => k_is)
    (case zz_asp => k_is)
    (case zz_lsp => k_is)
    (case zz_csp => k_is)
    (case zz_ksp => k_is)
    (case zz_aas => k_is)
    (case zz_las => k_is)
    (case zz_cas => k_is)
    (case zz_kas => k_is)
    (case zz_ari => k_is)
    (case zz_lri => k_is)
    (case zz_cri => k_is)
    (case zz_kri => k_is)
    (case zz_ala => k_is)
    (case zz_lla => k_is)
    (case zz_cla => k_is)
    (case zz_kla => k_is)
    (case zz_gdF => k_is)
    (case zz_ldF => k_is)
    (case zz_ydF => repeat (first | exact trivial | refine ⟨⟨_, _, rfl, rfl⟩, ?_⟩))
    (case zz_lowdF => rfl)
    (case zz_wdF => repeat (first | exact .nil | refine .cons rfl rfl ?_))
    (case zz_lqdF0t => k_is)
    (case zz_lqdF1t => k_is)
    (case zz_lqdF2t => k_is)
    (case zz_lqdF3t => k_is)
    (case zz_lqdF4t => k_is)
    (case zz_lqdF5t => k_is)
    (case zz_lqdF6t => k_is)
    (case zz_lqdF7t => k_is)
    (case zz_lqdF8t => k_is)
    (case zz_lqdF9t => k_is)
    (case zz_lqdF10t => k_is)
    (case zz_lqdF11t => k_is)
    (case zz_lqdF12t => k_is)
    (case zz_lqdF13t => k_is)
    (case zz_lqdF14t => k_is)
    (case zz_lqdF15t => k_is)
    (case zz_lqdF16t => k_is)
    (case zz_lqdF17t => k_is)
    (case zz_lqdF18t => k_is)
    (case zz_lqdF19t => k_is)
    (case zz_lqdF20t => k_is)
    (case zz_lqdF21t => k_is)
    (case zz_lqdF22t => k_is)
    (case zz_gdS => k_is)
    (case zz_ldS => k_is)
    (case zz_ydS => repeat (first | exact trivial | refine ⟨⟨_, _, rfl, rfl⟩, ?_⟩))
    (case zz_lowdS => rfl)
    (case zz_wdS => repeat (first | exact .nil | refine .cons rfl rfl ?_))
    (case zz_lqdS0t => k_is)
    (case zz_lqdS1t => k_is)
    (case zz_lqdS2t => k_is)
    (case zz_gdC => k_is)
    (case zz_ldCt => k_is)
    (case zz_aF => k_is)
    (case zz_rF => k_is)
    (case zz_gF => k_is)
    (case zz_vF => k_is)
    (case zz_lF => k_is)
    (case zz_cF => k_is)
    (case zz_kF => k_is)
    (case zz_vV => k_is)
    (case zz_aT => k_is)
    (case zz_xT => k_is)
    (case zz_veT => first | rfl | decide +kernel)
    (case zz_saT => k_is)
    (case zz_gaT => k_is)
    (case zz_ggT => k_is)
    (case zz_nfT => k_is)
    (case zz_iT => k_is)
    (case zz_tT => k_is)
    (case zz_lT => k_is)
    (case zz_cT => k_is)
    (case zz_kT => k_is)
    (case zz_kCT => k_is)
    (case zz_eCT => k_is)
    (case zz_tCT => k_is)
    (case zz_hCT => k_is)
    (case zz_uTT => first | k_is | rfl)
    (case zz_zisinstance => k_is)
    (case zz_zint => k_is)
    (case zz_zbool => k_is)
    (case zz_zlist => k_is)
    (case zz_ztuple => k_is)
    (case zz_zrange => k_is)
    (case zz_zlen => k_is)
    (case zz_zall => k_is)
    (case zz_zValueError => k_is)
    (case zz_zmax => k_is)
    (case zz_zmin => k_is)
    (case zz_zrepr => k_is)
    (case zz_zzip => k_is)
    (case zz_zstr => k_is)
