import PyProof.Rows.All
import Wide.All
import OpenK.AllK
import Wide.FinOn
import HandS.ForMost
import HandS.ForExc
import HandS.ExcInit
import HandS.ExcField
import HandS.IsInst
import HandS.ClsMeth
import HandS.ForSpec
import KE.GoesMore
import HandS.WideBits
import HandS.ExcIs
import PySem.Challenge.RW_beatflows_k02_bits_of_worths
set_option Elab.async false
set_option maxRecDepth 100000

/-! Own rules over the hand layer, for all laws of this program: calls by keywords alone, a base's __init__ by its class's name, several except clauses with names, repr of data. -/
namespace Bf
open PySem PySem.Spec PyProof.Rows L2

/-! ### f(k = v, ..) -/
section
variable {X : Cx} {CX : CXT} {k : Nat} {f : Addr} {fd : FuncData} {ps ks : List Str} {sp : Sp} {E : XK} {x : Str} {p pos : Pos} {kws : List Keyword} {tk : TA}
  {g : List Value → List Value → List Value} {gV : List V → List V → List V}
def tKw (sp : Sp) (gV : List V → List V → List V) (E : XK) (tk : TA) : TE := fun σ H Q => tk σ H fun zs H2 => sp (gV [] zs) H2 Q E
theorem pe_kw (F : FnOk X.prog X.w X.K X.mg X.base CX k f fd ps sp) (hr : Room k X.A) (hg : Gl X x) (hm : X.mg x = some (.ref f))
    (hk : PySem.W.keepIn X.K (.ref f) = true) (hb : KBinds X.K fd ps ks g gV) (hx : Passes CX X E) (hkw : PK X kws tk)
    (h1 : (backToKw pos (keywordEach kws X.env)).all (·.1.isSome) = true := by rfl)
    (h2 : (backToKw pos (keywordEach kws X.env)).filterMap (·.1) = ks := by rfl)
    (h3 : (x == ("__debug__" : Str)) = false := by decide)
    (h4 : ((backTo pos (starEach [] X.env)).any (·.1) || (backToKw pos (keywordEach kws X.env)).any (·.1.isNone)) = false := by rfl) :
    PE X (.Call (.Name x p) [] kws pos) (tKw sp gV E tk) := ⟨fun pins s σ H Q I h => by
  refine wpAny_Call_Name_kw (ld_glob I hg hm (PySem.W.callWith_KW0 (h₀ := X.base) I.ok.mod.kin hk h1 (thn (hkw.run pos pins s σ H _ I h) ?_) h4) h3)
  intro ws s2 q
  obtain ⟨zs, H2, I2, rz, q2⟩ := q
  refine ⟨I2.kIn, ?_⟩
  rw [h2]
  exact run_fnk (us := []) (vs := []) F hr hb hx I2 .nil rz q2⟩
end

/-! ### C.m(e, ..), C a class of the text, m a def of it -/
section
variable {X : Cx} {CX : CXT} {k : Nat} {f C : Addr} {fd : FuncData} {ps : List Str} {sp : Sp} {E : XK} {x m : Str} {p1 p2 pos : Pos} {e : Expr} {es : List Expr} {t : TA} {mc : Value}
theorem pe_clsFn {pl : Sem Bool} (F : FnOk X.prog X.w X.K X.mg X.base CX k f fd ps sp) (hr : Room k X.A) (hg : Gl X x) (hm : X.mg x = some (.ref C))
    (rd : ClX.CRead X.K C mc) (va : PySem.W.findCls X.K (.ref C) mc m = some (.val (.ref f))) (hk : PySem.W.keepIn X.K (.ref f) = true) (hb : Binds X.K fd ps []) (hx : Passes CX X E) (ha : PA X (e :: es) t)
    (hc : eval (.Call (.Attribute (.Name x p1) m p2) (e :: es) [] pos) X.env = (do
      let ov ← eval (.Name x p1) X.env
      standAt p2.atName
      let (g, first) ← holding [ov] (getMethod ov m pl)
      callWith pos g first (backTo pos (starEach (e :: es) X.env)) (backToKw pos (keywordEach [] X.env))) := by rfl)
    (hdb : (x == ("__debug__" : Str)) = false := by decide)
    (he : starEach (e :: es) X.env = (false, eval e X.env) :: starEach es X.env := by rfl) (hpl : (backTo pos (starEach es X.env)).any (·.1) = false := by rfl) :
    PE X (.Call (.Attribute (.Name x p1) m p2) (e :: es) [] pos) (tCall sp [] E t) := ⟨fun pins s σ H Q I h => by
  refine PySem.W.methodCall_KW (ld_glob I hg hm ?_ hdb) hc
  refine PySem.W.method_cls I.kIn rd.ga (PySem.W.cls_value I.kIn rd.rd va rfl ?_)
  have I' := I.tok (X := X) (s.toks + 1)
  exact PySem.W.callWith_K (h₀ := X.base) I.ok.mod.kin hk (thn (ha.run pos pins _ σ H _ I' h) fun us s1 ⟨vs, H1, I1, r, q⟩ => ⟨I1.kIn, run_fn F hr hb .nil hx I1 r q⟩) he hpl⟩
end

/-! ### try: body, several clauses «except C as n: suite»; what follows them is never reached -/
structure Arm where
  c : Value
  i : Nat
  ts : Addr → Value → Option Addr → TS
/-- behind a suite the clause's name is gone -/
def Gone (i : Nat) (D : Ends) : Ends where
  nx := fun σ H => D.nx (σ.set i none) H
  rt := D.rt
  bk := fun σ H => D.bk (σ.set i none) H
  ct := fun σ H => D.ct (σ.set i none) H
def wArms (K : PySem.W.Frag) (D : Ends) : List Arm → WX
  | [] => fun _ _ _ _ => False
  | m :: r => fun cls d σ H => ∃ b, PySem.W.exmOne K cls m.c = some b ∧ (b = true → ∀ a, H a = none → m.ts a cls d (Gone m.i D) (σ.set m.i (some (.ref a))) H) ∧ (b = false → wArms K D r cls d σ H)
inductive Arms (X : Cx) : List ExceptHandler → List Arm → Prop
  | nil {hds : List ExceptHandler} : Arms X hds []
  | cons {x n : Str} {c : Value} {i : Nat} {ts : Addr → Value → Option Addr → TS} {b0 : Stmt} {suite : List Stmt} {np pos' : Pos} {hds : List ExceptHandler} {l : List Arm}
      (hc : Names X x c) (hi : X.N[i]? = some n) (hl : X.env.kindOf n = some .local)
      (hsu : ∀ (a : Addr) (oe : Obj) (cls : Value) (d : Option Addr) (pn : List (Addr × Obj)), Zc cls d oe → (∃ vs, oe.data = .fields vs) → PSs (X.suite a ((a, oe) :: pn)) (b0 :: suite) (ts a cls d))
      (r : Arms X hds l) : Arms X (.ExceptHandler (some (.Name x np)) (some n) (b0 :: suite) pos' :: hds) (⟨c, i, ts⟩ :: l)

section
variable {X : Cx} {pins : List (Addr × Obj)} {σ : L2.St} {H : Hp} {sI s' : Shared} {B : Heap} {a : Addr} {cls : Value} {d : Option Addr} {D : Ends}
/-- an exception noted and landed meets the clauses -/
theorem arms_go (hs : X.stack = X.env :: X.outer) (hf : X.env.frame = some X.env.locals) (hN : X.N.Nodup) (J : L2.Inv X pins σ H sI) (na : H a = none)
    (nb : ∀ b o, sI.heap.get? b = some o → b ∉ frs X.stack → B.get? b = some o) (os : s'.os = sI.os) (ag : AllBare s'.gens) (up : sI.heap.UpToSlots s'.heap)
    (fl : HandSPX.FlyingZ B (X.env :: X.outer) a (Zc cls d) s'.heap) {hds : List ExceptHandler} {l : List Arm} (hh : Arms X hds l) (w : wArms X.K D l cls d σ H) :
    wpAny (model X.prog X.w) X.A (handleBy (.ref a) X.env hds) (SP X pins D) X.xe s' := by
  induction hh with
  | nil => exact w.elim
  | @cons x n c i ts b0 suite np pos' hds' l' hc hi hl hsu r ih =>
    obtain ⟨b, hb, yes, no⟩ := w
    -- what stands in the heap of the exception, wherever it has landed
    have site : ∀ {h : Heap}, HandSPX.FlyingZ B (X.env :: X.outer) a (Zc cls d) h → sI.heap.UpToSlots h →
        ∃ oe vs, h.get? a = some oe ∧ Zc cls d oe ∧ oe.data = .fields vs ∧ L2.Inv (X.suite a ((a, oe) :: (X.pn ++ pins))) [] σ H { s' with heap := h } := fun {h} z u => by
      obtain ⟨oe, vs, e1, e2, e3⟩ := z.there
      have nofr : a ∉ frs (X.env :: X.outer) := fun hm => by
        obtain ⟨_, o', e', hnf⟩ := z.2.2.1.mem hm
        rw [e1] at e'
        cases e'
        exact hnf _ e3
      refine ⟨oe, vs, e1, e2, e3, (J.landed (s' := { s' with heap := h }) nb z.1 u os ag).suite e1 e3 na (fun z => nofr (List.mem_filterMap.mpr ⟨X.env, List.mem_cons_self, by rw [hf, z]⟩)) fun hm => nofr ?_⟩
      obtain ⟨e, he, q⟩ := List.mem_filterMap.mp hm
      exact List.mem_filterMap.mpr ⟨e, List.mem_cons_of_mem _ he, q⟩
    obtain ⟨oe, vs, e1, e2, e3, S⟩ := site fl up
    refine wpAny_handleBy_cons (codeAny_handlers_test ?_) (fun q => nomatch q)
    have ty : PySem.W.Looks (model X.prog X.w) s'.heap (typeOf (.ref a)) cls := fun A Q E s k q => wpAny_typeOf_ref (k _ _ e1) (by rw [e2.1]; exact q)
    have mt := PySem.W.exm_one (M := model X.prog X.w) S.kIn ty hb
    have nm : ∀ {Q : Value → Shared → Prop} {E : Value → Shared → Prop}, Q c s' → wpAny (model X.prog X.w) (X.A.mark (some (.ref a))) (eval (.Name x np) X.env) Q E s' := fun {Q E} q =>
      hc.2.2.elim (fun hm => ld_glob (X := X.suite a ((a, oe) :: (X.pn ++ pins))) S hc.1 hm q hc.2.1) fun hm => ld_blt (X := X.suite a ((a, oe) :: (X.pn ++ pins))) S hc.1 hm.1 hm.2.1 q hm.2.2 hc.2.1
    refine nm (mt.here ?_)
    cases b with
    | false => exact ih (no rfl)
    | true =>
      refine codeAny_handlers_suite_as (HandSPX.lands_againZ fl fun h4 fl4 up4 => ?_)
      obtain ⟨oe4, vs4, g1, g2, g3, S4⟩ := site fl4 (up.trans up4)
      refine store_ok (X := X.suite a ((a, oe4) :: (X.pn ++ pins))) (v := .ref a) S4 hN hi (.inl hl) rfl (fun s5 S5 => ?_) (.inr hl)
      refine wpAny_mono ((hsu a oe4 cls d (X.pn ++ pins) g2 ⟨_, g3⟩).run [] s5 _ H _ S5 (yes rfl a na)) (fun f s6 sp => ?_) (fun _ _ z => z.elim)
      have fin : ∀ {σ6 : L2.St} {H6 : Hp} {R : Shared → Prop}, L2.Inv (X.suite a ((a, oe4) :: (X.pn ++ pins))) [] σ6 H6 s6 → (∀ s7, L2.Inv X pins (σ6.set i none) H6 s7 → R s7) →
          wpAny (model X.prog X.w) X.A (do bindName X.env n .none; unbindBehindTheSuite X.env n pos') (fun _ s7 => R s7) X.xe s6 := fun {_ _ _} S6 q => gone_ok (S6.unsuite J.ok) hN hi hl q
      cases f with
      | next => exact let ⟨_, _, S6, q6⟩ := sp; fin S6 fun _ J7 => ⟨_, _, J7, q6⟩
      | brk => exact let ⟨_, _, S6, q6⟩ := sp; fin S6 fun _ J7 => ⟨_, _, J7, q6⟩
      | cont => exact let ⟨_, _, S6, q6⟩ := sp; fin S6 fun _ J7 => ⟨_, _, J7, q6⟩
      | ret u => exact let ⟨_, _, _, S6, r6, q6⟩ := sp; fin S6 fun _ J7 => ⟨_, _, _, J7, r6, q6⟩
end
section
variable {X : Cx} {body : List Stmt} {h0 : ExceptHandler} {hds : List ExceptHandler} {l : List Arm} {pos : Pos} {tb : WX → TS}
theorem ps_arms (hs : X.stack = X.env :: X.outer) (hf : X.env.frame = some X.env.locals) (hN : X.N.Nodup)
    (hb : ∀ (W : WX) (pn : List (Addr × Obj)) (xe : Value → Shared → Prop), Takes (X.tr pn xe) W → PassesOwn (model X.prog X.w) X.A X.env xe → PSs (X.tr pn xe) body (tb W))
    (hh : Arms X (h0 :: hds) l) : PS X (.Try body (h0 :: hds) [] [] pos) (fun D σ H => tb (wArms X.K D l) D σ H) := ⟨fun pins s σ H D I h => by
  have fr : X.A.frames = some (X.env :: X.outer) := I.ok.frames.trans (by rw [hs])
  refine wpAny_Try_except (wpAny_mono ((hb (wArms X.K D l) (X.pn ++ pins) (fun e t1 => wpAny (model X.prog X.w) X.A (noteFrame e X.env) (fun _ t2 => wpAny (model X.prog X.w) X.A (setFlight e none)
    (fun _ t3 => wpAny (model X.prog X.w) X.A (handleBy e X.env (h0 :: hds)) (SP X pins D) X.xe t3) X.xe t2) X.xe t1) (fun u s' q => ?_) PassesOwn.looking).run [] s σ H D (I.toTry _) h) (fun f s1 q => ?_) fun _ _ z => z)
  · obtain ⟨a, B, sI, pins', σ', H', cls, d, rfl, J, nb, up, sky, na, os, ag, w⟩ := q
    refine Sky.land Zc.steady fr hf (show Sky B (X.env :: X.outer) a (Zc cls d) X.env.locals s'.heap from by rw [← hs]; exact sky) fun h3 fl up3 => ?_
    exact arms_go (s' := { s' with heap := h3 }) hs hf hN (J.ofTry I.ok) na nb os ag (up.trans up3) fl hh w
  · cases f with
    | next => exact let ⟨_, _, J, z⟩ := q; wpAny_execs_nil ⟨_, _, J.ofTry I.ok, z⟩
    | brk => exact let ⟨_, _, J, z⟩ := q; ⟨_, _, J.ofTry I.ok, z⟩
    | cont => exact let ⟨_, _, J, z⟩ := q; ⟨_, _, J.ofTry I.ok, z⟩
    | ret u => exact let ⟨_, _, _, J, r, z⟩ := q; ⟨_, _, _, J.ofTry I.ok, r, z⟩⟩
end
end Bf

/-! Own rules: defs that call repr. A repr asks that none is under way around it (Around.guards); the promise FnG is given under that. -/
namespace Bf
open PySem PySem.Spec PyProof.Rows L2

/-! ### promises where no repr is under way -/
structure FnG (P : Program) (w : World) (K : PySem.W.Frag) (mg : Str → Option Value) (base : Heap) (CX : CXT) (k : Nat) (f : Addr) (fd : FuncData) (ps : List Str) (sp : Sp) : Prop where
  len : ∀ vs H Q E, sp vs H Q E → vs.length = ps.length
  go : ∀ (A : Around) (outer : List Env) (s : Shared) (H : Hp) (args : Args) (us : List Value) (vs : List V) (Q : VK) (E : XK), A.guards = some [] → Room k A →
    Env0 P w K mg base A outer s H → BindsTo s fd args (ps.zip us) → Vals vs us → sp vs H Q E → codeAny (model P w) A (.call (.ref f) args) (CR CX outer P w H s Q E) s

section
variable {P : Program} {w : World} {K : PySem.W.Frag} {mg : Str → Option Value} {base : Heap} {CX : CXT}
theorem Fun.okG {x qual : Str} {st : Stmt} {f : Addr} {fd : FuncData} {N ps : List Str} {k : Nat} {sp : Sp} (F : Fun K x qual st f fd) (S : FnScope N ps (defScope st))
    (len : ∀ vs H Q E, sp vs H Q E → vs.length = ps.length)
    (hbody : ∀ (cdv : Value) (A : Around) (outer : List Env) (s : Shared) (H : Hp) (vs : List V) (Q : VK) (E : XK), A.guards = some [] → Room k (A.deeper (envOfC qual (defScope st) s.heap.objs.size f cdv)) → sp vs H Q E →
      ∃ t, PSs (cxOf CX P w K mg base N qual (defScope st) f cdv A outer s H E) (defBody st) t ∧ t { nx := fun _ H' => Q .non H', rt := Q } (start N vs) H) :
    FnG P w K mg base CX (k + 1) f fd ps sp := by
  obtain ⟨oc, od, kV, doc, pm, an, cdv, ct, osl, rfl, lk, hcd⟩ := F.ex
  refine ⟨len, fun A outer s H args us vs Q E hA hr e0 hb r hsp => ?_⟩
  have bk : ∀ b o, base.get? b = some o → s.heap.get? b = some o := fun b o e => (e0.bs b o e).1
  have KX := e0.mod.kin.keeps bk
  refine codeAny_call_function hr.depth (KX _ _ lk) rfl S.co S.gen rfl (PySem.W.codeRec_of KX hcd) (hb _ _ _ _ (wpAny_newFunctionEnv_cells S.kind (fun y hy => ?_) fun env he s1 x => ?_))
  · rcases S.par y.1 (List.of_mem_zip (show (y.1, y.2) ∈ _ from hy)).1 with q | q
    · exact .inl q
    · exact .inr ⟨q, PySem.W.cellsFrom_some _ _ _ (.inl q)⟩
  · cases he
    obtain ⟨t, ht, hq⟩ := hbody cdv A outer s H vs Q E hA (hr.deeper _) hsp
    refine ⟨(e0.mod.nolimit.keeps bk).keeps x.toInCall.keep, codeAny_func (wpAny_mono (ht.run [] s1 _ H _ (inv_start S hr.hd e0 (len _ _ _ _ hsp) r x) hq) (fun fl s' z => ?_) fun _ _ z => z)⟩
    cases fl with
    | next => exact let ⟨_, H', J, q⟩ := z; ⟨.non, H', J.os, J.bare, J.base, J.hok, rfl, q⟩
    | ret u => exact let ⟨v, _, H', J, rv, q⟩ := z; ⟨v, H', J.os, J.bare, J.base, J.hok, rv, q⟩
    | brk => exact let ⟨_, _, _, q⟩ := z; q.elim
    | cont => exact let ⟨_, _, _, q⟩ := z; q.elim
end
section
variable {X : Cx} {CX : CXT} {k : Nat} {f : Addr} {fd : FuncData} {ps : List Str} {sp : Sp} {E : XK} {x : Str} {p pos : Pos} {e : Expr} {es : List Expr} {t : TA}
theorem pe_callG (F : FnG X.prog X.w X.K X.mg X.base CX k f fd ps sp) (hA : X.A.guards = some []) (hr : Room k X.A) (hg : Gl X x) (hm : X.mg x = some (.ref f)) (hk : PySem.W.keepIn X.K (.ref f) = true)
    (hb : Binds X.K fd ps []) (hx : Passes CX X E) (ha : PA X (e :: es) t) (hdb : (x == ("__debug__" : Str)) = false := by decide)
    (he : starEach (e :: es) X.env = (false, eval e X.env) :: starEach es X.env := by rfl) (hpl : (backTo pos (starEach es X.env)).any (·.1) = false := by rfl) :
    PE X (.Call (.Name x p) (e :: es) [] pos) (tCall sp [] E t) := ⟨fun pins s σ H Q I h => by
  refine wpAny_Call_Name_kw (ld_glob I hg hm (PySem.W.callWith_K (h₀ := X.base) I.ok.mod.kin hk (thn (ha.run pos pins s σ H _ I h) fun us s1 ⟨vs, H1, I1, r, q⟩ => ⟨I1.kIn, ?_⟩) he hpl) hdb)
  have q : sp (vs ++ []) H1 Q E := q
  rw [List.append_nil] at q
  have hl : us.length = ps.length := r.length.symm.trans (F.len _ _ _ _ q)
  have bd : BindsTo s1 fd ⟨us, []⟩ (ps.zip us) := by
    have z := hb s1 us I1.kIn (by rw [List.append_nil]; exact hl)
    rw [List.append_nil] at z
    exact z
  refine wpAny_call (codeAny_mono (F.go X.A X.stack s1 H1 ⟨us, []⟩ us vs Q E hA hr I1.env0 bd r q) fun r s' hq => ?_)
  cases r with
  | error e => exact hx pins σ H1 s1 e s' I1 hq
  | ok fl =>
    cases fl with
    | ret u => exact I1.after hq
    | next => exact hq.elim
    | brk => exact hq.elim
    | cont => exact hq.elim⟩
end

/-! ### data as repr shows it -/
mutual
/-- x stands for the data d; every list, tuple and dict in it is tracked, at an address of which P holds; b: there may be an empty dict in it, then no list is the module table -/
inductive Sh (H : Hp) (P : Addr → Prop) (b : Bool) : V → PyData → Prop
  | non : Sh H P b .non .none
  | bl (c : Bool) : Sh H P b (.bl c) (.bool c)
  | int (i : Int) : Sh H P b (.int i) (.int i)
  | str (z : Str) : Sh H P b (.str z) (.str z)
  | lst {a : Addr} {xs : List V} {ds : List PyData} (h : H a = some (.lst xs)) (p : P a) (q : b = true → a ≠ sysModules) (r : ShAll H P b xs ds) : Sh H P b (.ref a) (.list ds)
  | tup {a : Addr} {xs : List V} {ds : List PyData} (h : H a = some (.tup xs)) (p : P a) (r : ShAll H P b xs ds) : Sh H P b (.ref a) (.tuple ds)
  | emp {a : Addr} (hb : b = true) (h : H a = some (.dK [])) (p : P a) : Sh H P b (.ref a) (.dict [])
inductive ShAll (H : Hp) (P : Addr → Prop) (b : Bool) : List V → List PyData → Prop
  | nil : ShAll H P b [] []
  | cons {v : V} {vs : List V} {d : PyData} {ds : List PyData} (h : Sh H P b v d) (r : ShAll H P b vs ds) : ShAll H P b (v :: vs) (d :: ds)
end

section
variable {X : Cx} {pins : List (Addr × Obj)} {σ : L2.St} {H : Hp} {s : Shared} {P : Addr → Prop} {b : Bool}
mutual
theorem Sh.reads (I : L2.Inv X pins σ H s) : ∀ (d : PyData) (v : V) (u : Value), Sh H P b v d → RelV v u → ∃ as, Reads s.heap u d as ∧ (b = true → ∀ a ∈ as, a ≠ sysModules)
  | .none, _, _, h, r => by
    cases h; cases r
    exact ⟨_, .none, fun _ _ z => nomatch z⟩
  | .bool c, _, _, h, r => by
    cases h; cases r
    exact ⟨_, .bool c, fun _ _ z => nomatch z⟩
  | .int i, _, _, h, r => by
    cases h; obtain ⟨t, rfl⟩ := r
    exact ⟨_, .int i t, fun _ _ z => nomatch z⟩
  | .str x, _, _, h, r => by
    cases h; obtain ⟨t, rfl⟩ := r
    exact ⟨_, .str x t, fun _ _ z => nomatch z⟩
  | .list ds, _, _, h, r => by
    cases h with
    | lst h p q ha =>
      cases r
      obtain ⟨_, its, n, rv, e⟩ := I.hok _ _ h
      obtain ⟨as, hr, hp⟩ := Sh.readsAll I ds _ its ha rv
      exact ⟨_, .list e rfl rfl hr, fun hb a z => (List.mem_cons.mp z).elim (fun y => y ▸ q hb) (hp hb a)⟩
  | .tuple ds, _, _, h, r => by
    cases h with
    | tup h p ha =>
      cases r
      obtain ⟨_, its, rv, o, e1, e2, n, e3⟩ := I.hok _ _ h
      obtain ⟨as, hr, hp⟩ := Sh.readsAll I ds _ its ha rv
      exact ⟨_, .tuple e1 e2 e3 hr, hp⟩
  | .dict _, _, _, h, r => by
    cases h with
    | emp hb h p =>
      cases r
      obtain ⟨_, sm, vs, kv, o, es, ep, e1, e2, e3, _, e4, _⟩ := I.hok _ _ h
      cases kv
      have en : es.toList = [] := by
        cases q : es.toList with
        | nil => rfl
        | cons x r => rw [q] at e4; cases e4
      refine ⟨_, .dict e1 e2.1 e3 (kvs := []) (as := []) (bs := []) (by rw [en]; exact .nil) (by rw [en]; exact .nil), fun _ a z => ?_⟩
      rcases List.mem_cons.mp z with e | e
      · exact e ▸ beq_eq_false_iff_ne.mp sm
      · cases e
theorem Sh.readsAll (I : L2.Inv X pins σ H s) : ∀ (ds : List PyData) (vs : List V) (us : List Value), ShAll H P b vs ds → Vals vs us → ∃ as, ReadsAll s.heap us ds as ∧ (b = true → ∀ a ∈ as, a ≠ sysModules)
  | [], _, _, h, r => by
    cases h; cases r
    exact ⟨_, .nil, fun _ _ z => nomatch z⟩
  | d :: ds, _, _, h, r => by
    cases h with
    | cons h1 h2 =>
      cases r with
      | cons r1 r2 =>
        obtain ⟨as, q1, p1⟩ := Sh.reads I d _ _ h1 r1
        obtain ⟨bs, q2, p2⟩ := Sh.readsAll I ds _ _ h2 r2
        exact ⟨_, .cons q1 q2, fun hb a z => (List.mem_append.mp z).elim (p1 hb a) (p2 hb a)⟩
end
end
mutual
theorem Sh.nodict {H : Hp} {P : Addr → Prop} : ∀ (d : PyData) (v : V), Sh H P false v d → d.hasDict = false
  | .none, _, _ => by simp only [PyData.hasDict]
  | .bool _, _, _ => by simp only [PyData.hasDict]
  | .int _, _, _ => by simp only [PyData.hasDict]
  | .str _, _, _ => by simp only [PyData.hasDict]
  | .list ds, _, h => by
    cases h with
    | lst _ _ _ r => simp only [PyData.hasDict]; exact ShAll.nodict ds _ r
  | .tuple ds, _, h => by
    cases h with
    | tup _ _ r => simp only [PyData.hasDict]; exact ShAll.nodict ds _ r
  | .dict _, _, h => by
    cases h with
    | emp hb _ _ => cases hb
theorem ShAll.nodict {H : Hp} {P : Addr → Prop} : ∀ (ds : List PyData) (vs : List V), ShAll H P false vs ds → PyData.hasDictAll ds = false
  | [], _, _ => by simp only [PyData.hasDictAll]
  | d :: ds, _, h => by
    cases h with
    | cons h r =>
      simp only [PyData.hasDictAll, Sh.nodict d _ h, ShAll.nodict ds _ r, Bool.or_self]
end
section
variable {X : Cx}
/-- repr(x) -/
def rRepr : List V → Hp → VK → Prop := fun xs H Q => ∃ (x : V) (P : Addr → Prop) (b : Bool) (d : PyData), xs = [x] ∧ Sh H P b x d ∧ d.showable = true ∧ d.depth ≤ 60 ∧ d.shown.length ≤ sizeLine ∧ Q (.str d.shown) H
theorem call_repr (hA : X.A.guards = some []) (hu : X.A.units + 64 < cLine) : CallR X (.builtin "repr") rRepr := by
  intro pins s σ H xs us Q I r h
  obtain ⟨x, P, b, d, rfl, hs, sw, dp, sz, q⟩ := h
  obtain ⟨u, rfl, rx⟩ := vals1 r
  obtain ⟨as, rd, hp⟩ := Sh.reads I d x u hs rx
  have nodict : d.hasDict = true → sysModules ∉ as := fun hd z => by
    cases b with
    | false => rw [Sh.nodict d x hs] at hd; cases hd
    | true => exact hp rfl _ z rfl
  have fin : ∀ (t : Tok) (tk : Nat), EP X pins σ Q (.str d.shown t) { s with toks := tk } := fun t tk => ⟨.str d.shown, H, I.tok tk, ⟨t, rfl⟩, q⟩
  have finH : ∀ h' t tk, (∀ b o, s.heap.get? b = some o → h'.get? b = some o) → EP X pins σ Q (.str d.shown t) { s with heap := h', toks := tk } := fun h' t tk k => ⟨.str d.shown, H, I.kept k, ⟨t, rfl⟩, q⟩
  have big : ∀ {a : Addr}, u = .ref a → wpAny (model X.prog X.w) X.A (call (.builtin "repr") [u]) (EP X pins σ Q) X.xe s := fun {a} e => by
    subst e
    exact repr_of_reads' rd sw nodict hA (by omega) (fun _ _ z => z) finH sz
  cases rd with
  | none => exact PySem.P.repr_of_none (by have z := fin s.toks (s.toks + 1); simp only [PyData.shown] at z; exact z)
  | bool c => exact PySem.P.repr_of_bool (by have z := fin s.toks (s.toks + 1); simp only [PyData.shown] at z; exact z)
  | int i t => exact PySem.P.repr_of_int (by simpa [PyData.showable] using sw) (by have z := fin s.toks (s.toks + 1); simp only [PyData.shown] at z; exact z)
  | str z t => exact PySem.P.repr_of_str (by have z := fin s.toks (s.toks + 1); simp only [PyData.shown] at z; exact z) (by simp only [PyData.shown] at sz; exact sz)
  | list _ _ _ _ => exact big rfl
  | tuple _ _ _ _ => exact big rfl
  | dict _ _ _ _ _ => exact big rfl
/-- a list of written items, not the module table -/
def tLstN (t : TA) : TE := fun σ H Q => t σ H fun xs H1 => xs.length ≤ 1000 ∧ ∀ p, H1 p = none → p ≠ sysModules → Q (.ref p) (upd H1 p (.lst xs))
theorem pe_lstN {es : List Expr} {pos : Pos} {t : TA} (h : PA X es t) : PE X (.List es pos) (tLstN t) := ⟨fun pins s σ H Q I hq => by
  refine wpAny_List_spliced (thn (h.run pos pins s σ H _ I hq) fun us s1 z => ?_)
  obtain ⟨xs, H1, I1, r, sz, q⟩ := z
  have le : xs.length ≤ sizeLine := Nat.le_trans sz (by decide)
  refine ⟨r.length ▸ le, .ref s1.heap.objs.size, upd H1 s1.heap.objs.size (.lst xs), I1.laid (t' := s1.toks) (fun _ _ e => Heap.get?_push_of_some _ e) (Nat.le_refl _) ⟨le, us, 0, r, Heap.get?_push_size _ rfl⟩, rfl, ?_⟩
  exact q _ (I1.hok.fresh (Nat.le_refl _)) (Nat.ne_of_gt I1.big)⟩
end

/-! ### the law's end -/
section
open PySem.W
variable {l : PySem.W.OpenLaw} {n k : Nat} {q : Program} {loose : List Str} {XP : (Str → Option Value) → Heap → Prop} {YP : World → Heap → Prop} {d : DefRec} {K : Params → PySem.W.Frag} {sp : PySem.W.Frag → Sp} {x : Str}
theorem walkG (hn : l.most = some n) (hn2 : n ≤ 1000) (hdf : d.params.defaults = []) (hr : Room k callerA) (hY : ∀ (w : World) (h : Heap), YP w h → (K w.params).In h)
    (F : ∀ (w : World) (mg : Str → Option Value) (fa : Addr) (h : Heap), (K w.params).In h → h.Ns mainGlobals mg → mg d.name = some (.ref fa) →
      ∃ fd : FuncData, (∀ (s : Shared) (u : Value), BindsTo s fd ⟨[u], []⟩ [(x, u)]) ∧ ∀ base : Heap, (K w.params).In base → base.Ns mainGlobals mg → FnG l.prog w (K w.params) mg base CX0 k fa fd [x] (sp (K w.params)))
    (hsp : ∀ (K : PySem.W.Frag) (H : Hp) (a : Addr) (ns : List Int), ns.length ≤ n → SqL K H a (ns.map V.int) → (∀ b, H b = none ∨ b = a) → sp K [.ref a] H (fun v _ => v = .bl true) fun _ _ _ => False) :
    WalkO q loose XP YP l.row.toRowW d [] (fun f vs => PySem.call f vs) := by
  refine Att.attach_call hn hdf fun w s0 s1 mg mb fa o pm cd doc a vs ns G Y _ _ _ hmg ha hi hl hg => ?_
  have KX := hY w _ Y
  obtain ⟨fd, bind, go⟩ := F w mg fa _ KX G.T.g hmg
  have hle : ns.length ≤ sizeLine := Nat.le_trans hl (Nat.le_trans hn2 (by decide))
  have rv := vals_ints hi
  -- the abstract heap: the script, locked, unless it is the module's own
  have mid : ∀ H : Hp, SqL (K w.params) H a (ns.map V.int) → HOk l.prog w H s1.heap → (∀ b, H b = none ∨ (b = a ∧ (K w.params).lookup a = none ∧ ∃ o xs, H a = some (.frz o (.lst xs)))) →
      codeAny (model l.prog w) callerA (.call (.ref fa) ⟨[.ref a], []⟩) (fun r s' => r = .ok (.ret (.bool true)) ∧ OldK s1.heap s'.heap ∧ s'.os = s1.os ∧ AllBare s'.gens) s1 := fun H hS ok hA => by
    have nsK : ∀ {b : Addr} {m : Str → Option Value}, s1.heap.Ns b m → (hidT s1.heap H).Ns b m := fun {b m} z => by
      obtain ⟨o, es, ep, e, dd, r⟩ := z
      refine ⟨o, es, ep, hidT_get e ((hA b).resolve_right fun y => ?_), dd, r⟩
      rw [y.1, ha] at e
      cases e
      cases dd
    have kin : (K w.params).In (hidT s1.heap H) := fun b o e => hidT_get (KX b o e) ((hA b).resolve_right fun y => by
      rw [y.1, y.2.1] at e
      cases e)
    have md : Mod (K w.params) mg (hidT s1.heap H) := ⟨kin, nsK G.T.g, ⟨mb, nsK G.T.b, G.T.builtins⟩, let ⟨mc, h1, h2⟩ := G.T.nolimit; ⟨mc, nsK h1, h2⟩⟩
    refine codeAny_mono ((go _ kin (nsK G.T.g)).go callerA [] s1 H ⟨[.ref a], []⟩ [.ref a] [.ref a] _ _ rfl hr
      ⟨rfl, md, fun _ _ e => of_hidT e, Nat.le_of_eq (hidT_size _ _), trivial, (fun _ z => nomatch z), ok, .of_eq hg⟩ (bind s1 (.ref a)) (.cons rfl .nil) (hsp _ H a ns hl hS fun b => (hA b).imp_right (·.1))) fun r s' h => ?_
    cases r with
    | error e => exact h.elim
    | ok fl =>
      cases fl with
      | next => exact h.elim
      | brk => exact h.elim
      | cont => exact h.elim
      | ret u =>
        obtain ⟨v, H', os, bare, un, ok', rv', e⟩ := h
        cases (show v = .bl true from e)
        cases (show u = .bool true from rv')
        refine ⟨rfl, OldK.of_keep fun b o e => ?_, os, bare⟩
        rcases hA b with z | ⟨rfl, _, ob, xs, z⟩
        · exact un.keep b o e z (fun y => nomatch y) (fun y => nomatch y)
        · have e1 := (ok _ _ z).1
          rw [e] at e1
          cases e1
          exact (ok' _ _ (un.frzs _ _ _ z)).1
  cases hk : (K w.params).lookup a with
  | some o =>
    have e := KX a o hk
    rw [ha] at e
    cases e
    exact mid (fun _ => none) (.inr ⟨_, vs.toArray, _, hk, rfl, rfl, rfl, by rw [List.size_toArray, hi.length]; exact hle, by simpa using rv⟩) (fun _ _ z => nomatch z) fun _ => .inl rfl
  | none =>
    have at_ : ∀ b, b = a → (fun c => if c = a then some (HO.frz { cls := .type "list", data := .seq vs.toArray } (.lst (ns.map V.int))) else none) b = some (HO.frz { cls := .type "list", data := .seq vs.toArray } (.lst (ns.map V.int))) := fun b e => if_pos e
    refine mid (fun c => if c = a then some (.frz { cls := .type "list", data := .seq vs.toArray } (.lst (ns.map V.int))) else none) (.inl (.inr ⟨_, at_ a rfl⟩)) (fun b u z => ?_) fun b => ?_
    · by_cases hb : b = a
      · cases (at_ b hb).symm.trans z
        cases hb
        exact ⟨ha, by rw [List.length_map]; exact hle, vs, _, rv, ha⟩
      · cases (if_neg hb).symm.trans z
    · by_cases hb : b = a
      · exact .inr ⟨hb, hk, _, _, at_ a rfl⟩
      · exact .inl (if_neg hb)
end
end Bf

/-! Own rule: enumerate over a tuple. -/
namespace Bf
open PySem PySem.Spec PyProof.Rows L2

/-- the tuple's cells behind enumerate(t) -/
theorem enum_new_tup (t : Addr) (items : Array Value) (n : Nat) (dct : Option Addr) (sl : Array (Option Value)) :
    Meets (Builtin.«enumerate.__new__» ⟨[.type "enumerate", .ref t], []⟩) (fun _ R s => s.heap.get? t = some { cls := .type "tuple", dict := dct, data := .seq items n, slots := sl } ∧
      R (.ok (.ret (.ref (s.heap.push { cls := .type "tuple_iterator", data := .fields #[.ref t, .int 0 0] }).objs.size)))
        { s with heap := (s.heap.push { cls := .type "tuple_iterator", data := .fields #[.ref t, .int 0 0] }).push { cls := .type "enumerate", data := .fields #[.none, .bool false, .ref s.heap.objs.size, rawInt 0, .none, .none] } }) :=
  .of_wp fun prog w A R s h => by
    obtain ⟨hp, g, d, tk, os⟩ := s
    obtain ⟨ht, h⟩ := h
    have sub := sub_enumerate
    have it : ∀ {A' : Around} {E : Value → Shared → Prop} {Q : Value → Shared → Prop}, Q (.ref hp.objs.size) ⟨hp.push { cls := .type "tuple_iterator", data := .fields #[.ref t, .int 0 0] }, g, d, tk, os⟩ →
        wpAny (model prog w) A' (pyIter (.ref t)) Q E ⟨hp, g, d, tk, os⟩ := fun q => wpAny_pyIter_tuple (s := ⟨hp, g, d, tk, os⟩) ⟨_, ht, rfl, n, rfl⟩ q
    wp_walk using it
    refine wpAny_stack_any fun st => wpAny_pure ?_
    split
    · rename_i c _ _ _ _ _
      cases (c == Value.type "enumerate") <;> (wp_walk using it; exact ⟨_, rfl, h⟩)
    · wp_walk using it
      exact ⟨_, rfl, h⟩

section
variable {prog : Program} {w : World} {A : Around} {E : Value → Shared → Prop} {s : Shared}
theorem enum_tup {t : Addr} {items : Array Value} {Q : Value → Shared → Prop} (T : s.heap.IsTuple t items)
    (h : ∀ h' : Heap, IsEnum h' (s.heap.objs.size + 1) s.heap.objs.size 0 .none → h'.IsTupleIter s.heap.objs.size t 0 → (∀ b o, s.heap.get? b = some o → h'.get? b = some o) → Q (.ref (s.heap.objs.size + 1)) { s with heap := h' }) :
    wpAny (model prog w) A (call (.type "enumerate") [.ref t]) Q E s := by
  obtain ⟨⟨c, dct, dt, sl⟩, e1, e2, n, e3⟩ := T
  cases (show c = .type "tuple" from e2)
  cases (show dt = .seq items n from e3)
  refine callType_new F.called_enumerate (by decide) (F.typeCall_enumerate_1 _) (F.newCall_enumerate_1 _) (fun obj => F.args_object_init_2 obj _) F.entry_enumerate_new (enum_new_tup t items n dct sl) ⟨e1, ?_⟩
  have sz : (s.heap.push { cls := .type "tuple_iterator", data := .fields #[.ref t, .int 0 0] }).objs.size = s.heap.objs.size + 1 := Heap.size_push ..
  have en := Heap.get?_push_size (s.heap.push { cls := .type "tuple_iterator", data := .fields #[.ref t, .int 0 0] })
    (o := { cls := .type "enumerate", data := .fields #[.none, .bool false, .ref s.heap.objs.size, rawInt 0, .none, .none] }) rfl
  rw [sz] at en
  show _ ∧ _
  rw [sz]
  exact ⟨⟨_, en, rfl⟩, h _ en ⟨_, Heap.get?_push_of_some _ (Heap.get?_push_size _ rfl), rfl, rfl⟩ fun b o x => Heap.get?_push_of_some _ (Heap.get?_push_of_some _ x)⟩
end

/-- the tuple at a, each item in a new pair -/
def Iet (K : PySem.W.Frag) (a : Addr) : It where
  go i H := ∃ (xs : List V) (x : V), SqT K H a xs ∧ xs[i]? = some x
  yld i H v H' := ∃ T x, v = .ref T ∧ H T = none ∧ H' = upd H T (.tup [.int (i : Nat), x]) ∧ ∀ xs, SqT K H a xs → xs[i]? = some x
  stop i H := ∃ xs : List V, SqT K H a xs ∧ i = xs.length
theorem turn_iet {P : Program} {w : World} {K : PySem.W.Frag} {elts : List Expr} {kk : Nat} {tpos : Pos} (a e it : Addr) :
    Turn P w K (.Tuple elts kk tpos) (Iet K a) [e, it] e (fun i h => (∃ old, IsEnum h e it ((i : Nat) : Int) old) ∧ h.IsTupleIter it a i ∧ e ≠ it) where
  mem := List.mem_cons_self
  obj i h st b hb := by
    obtain ⟨⟨old, he⟩, ⟨o, ho, hc, hd⟩, _⟩ := st
    rcases List.mem_cons.mp hb with z | z
    · cases z
      exact ⟨_, he, fun v q => nomatch q⟩
    · have z := List.mem_singleton.mp z
      exact ⟨o, z ▸ ho, fun v q => by rw [hd] at q; cases q⟩
  keep i h h' st k := by
    obtain ⟨⟨old, he⟩, hi, ne⟩ := st
    exact ⟨⟨old, k e (by simp) _ he⟩, hi.at fun o q => k it (by simp) o q, ne⟩
  item := by
    rintro X rfl rfl rfl hc i pins s σ H E I hf ⟨⟨old, he⟩, hit, ne⟩ ⟨xs, x, hq, hx⟩
    obtain ⟨its, rv, p, hz⟩ := I.tuple hq
    obtain ⟨u, hu, ru⟩ := rv.get hx
    have p' : s.heap.IsTuple a its.toArray := p
    obtain ⟨oa, hoa, hca, na, hda⟩ := id p'
    have nia : a ≠ it := fun z => by
      obtain ⟨o, ho, hc', hd'⟩ := hit
      rw [← z, hoa] at ho
      cases ho
      rw [hda] at hd'
      cases hd'
    have nea : e ≠ a := fun z => by
      have he2 : s.heap.get? e = _ := he
      rw [z, hoa] at he2
      cases he2
      cases hda
    have hel : e < s.heap.objs.size := Heap.lt_size he
    have hil : it < s.heap.objs.size := let ⟨_, q, _⟩ := hit; Heap.lt_size q
    refine wpAny_pyNext_enum_itemD (D := Draws.tuple (A := X.A.in1) (show X.A.in1.handled = none from I.ok.hd hc) it a nia its.toArray) he ⟨hit, p'⟩ (by have := (List.getElem?_eq_some_iff.mp hu).1; simpa using this) ne (by simp [ne, nea]) fun y h' tk hy ho hit' hT hsz hk => ?_
    have ey : y = u := by
      have z : its[i]? = some y := by simpa using hy
      rw [hu] at z
      exact (Option.some.inj z).symm
    subst ey
    refine ⟨_, rfl, wpAny_letOwnedTupleGo_enum (s := { s with heap := h', toks := tk + 1 }) ho fun h2 he2 sb => ?_⟩
    have hT2 : h2.get? s.heap.objs.size = some { cls := .type "tuple", data := .seq #[.int i tk, y] } := (sb.2 _ (Nat.ne_of_gt hel)).trans hT
    have low : ∀ b, b ∈ [e, it] → b < s.heap.objs.size := fun b hb => (List.mem_cons.mp hb).elim (fun z => z ▸ hel) fun z => List.mem_singleton.mp z ▸ hil
    have I1 : L2.Inv X pins σ (upd H s.heap.objs.size (.tup [.int (i : Nat), x])) { s with heap := h2, toks := tk + 1 } :=
      I.turnedNew (ch := [e, it]) (fun b ob hb q => (sb.2 b (fun z => hb (by simp [z]))).trans (hk b ob (fun z => hb (by simp [z])) (fun z => hb (by simp [z])) q)) hf (Nat.le_refl _)
        ⟨by show 2 ≤ sizeLine; decide, [.int i tk, y], .cons ⟨_, rfl⟩ (.cons ru .nil), ⟨_, hT2, rfl, _, rfl⟩⟩
    refine ⟨.ref s.heap.objs.size, _, I1, rfl, ⟨_, x, rfl, I.hok.fresh (Nat.le_refl _), rfl, fun ys hy => by rw [I.tuple_inj hy hq]; exact hx⟩, ⟨⟨y, ?_⟩, hit'.1.at fun o q => (sb.2 it (Ne.symm ne)).trans q, ne⟩, fun b hb => ?_⟩
    · rw [show ((i + 1 : Nat) : Int) = (i : Int) + 1 from by omega]
      exact he2
    · rw [upd_ne (Nat.ne_of_lt (low b hb))]
      exact (hf b hb).1
  done := by
    rintro X rfl rfl rfl hc i pins s σ H E I hf ⟨⟨old, he⟩, hit, ne⟩ ⟨xs, hq, rfl⟩
    obtain ⟨its, rv, p, hz⟩ := I.tuple hq
    have p' : s.heap.IsTuple a its.toArray := p
    obtain ⟨oa, hoa, hca, na, hda⟩ := id p'
    have nia : a ≠ it := fun z => by
      obtain ⟨o, ho, hc', hd'⟩ := hit
      rw [← z, hoa] at ho
      cases ho
      rw [hda] at hd'
      cases hd'
    obtain ⟨f0, f1, f2, f3, f4, f5⟩ := hf it (by simp)
    refine wpAny_pyNext_enum_endD (D := Draws.tuple (A := X.A.in1) (show X.A.in1.handled = none from I.ok.hd hc) it a nia its.toArray) he ⟨by rw [List.size_toArray, ← rv.length]; exact hit, p'⟩ fun h' eb => ⟨rfl, I.turned (t' := s.toks) (fun b o hb q => eb b o hb q) f0 f1 f3 f4 f5⟩
  self A i s Q E st h := let ⟨⟨_, he⟩, _⟩ := st; wpAny_pyIter_enum he h
def iEnumT (K : PySem.W.Frag) (ta : TA) : TI := fun σ H R => ta σ H fun vs H1 => ∃ a xs, vs = [.ref a] ∧ SqT K H1 a xs ∧ R (Iet K a) H1
theorem pi_enumT {X : Cx} {e : Expr} {ta : TA} {p pos tpos : Pos} {elts : List Expr} {kk : Nat} (hg : Gl X "enumerate") (hm : X.mg "enumerate" = none) (ha : PA X [e] ta)
    (hs : starEach [e] X.env = [(false, eval e X.env)] := by rfl) : PI X (.Tuple elts kk tpos) (.Call (.Name "enumerate" p) [e] [] pos) (iEnumT X.K ta) := ⟨fun pins s σ H R I h => by
  refine Call_ (ld_blt I hg hm boot_enumerate (PyProof.Rows.callWith_type1 (thn (ha.run pos pins s σ H _ I h) fun us s1 z => ?_) hs rfl))
  obtain ⟨vs, H1, I1, r1, a, xs, rfl, hq, q⟩ := z
  cases r1 with
  | cons r rr =>
    cases rr
    cases r
    obtain ⟨its, rv, p', hz⟩ := I1.tuple hq
    refine enum_tup (show s1.heap.IsTuple a its.toArray from p') fun h' he hit hk => wpAny_pyIter_enum he ?_
    refine ⟨s1.heap.objs.size + 1, [s1.heap.objs.size + 1, s1.heap.objs.size], _, _, H1, rfl, I1.kept (t' := s1.toks) hk, turn_iet a (s1.heap.objs.size + 1) s1.heap.objs.size, ⟨⟨.none, he⟩, hit, Nat.succ_ne_self _⟩, fun b hb => ?_, q⟩
    have le : s1.heap.objs.size ≤ b := (List.mem_cons.mp hb).elim (fun z => z ▸ Nat.le_succ _) fun z => List.mem_singleton.mp z ▸ Nat.le_refl _
    have I2 : L2.Inv X pins σ H1 { s1 with heap := h' } := I1.kept (t' := s1.toks) hk
    exact I1.fpOk le (I1.hok.fresh le)⟩
/-- the loop's reading -/
theorem for_iet {K : PySem.W.Frag} {a : Addr} {xs : List V} {g : TG} {tb : TS} {D : Ends} {σ : L2.St} {H : Hp} (Pv : Nat → L2.St → Hp → Prop) (h0 : Pv 0 σ H) (hl : ∀ i σ H, i ≤ xs.length → Pv i σ H → SqT K H a xs)
    (hs : ∀ i x σ H T, xs[i]? = some x → Pv i σ H → H T = none → g (.ref T) σ (upd H T (.tup [.int (i : Nat), x])) fun σ2 H2 => tb { D with nx := Pv (i + 1), ct := Pv (i + 1), bk := D.nx } σ2 H2) (hd : ∀ σ H, Pv xs.length σ H → D.nx σ H) :
    ∃ W : Nat → Nat → L2.St → Hp → Prop, (∃ m, W 0 m σ H) ∧ ∀ i m σ H, W i m σ H →
      ((Iet K a).stop i H ∧ D.nx σ H) ∨ ((Iet K a).go i H ∧ ∃ N : L2.St → Hp → Prop, (∀ σ' H', N σ' H' → ∃ m', m' < m ∧ W (i + 1) m' σ' H') ∧ ∀ x H', (Iet K a).yld i H x H' → g x σ H' fun σ2 H2 => tb { D with nx := N, ct := N, bk := D.nx } σ2 H2) := by
  refine ⟨fun i m σ H => m = xs.length - i ∧ i ≤ xs.length ∧ Pv i σ H, ⟨xs.length, by simp, Nat.zero_le _, h0⟩, ?_⟩
  rintro i m σ H ⟨rfl, hi, p⟩
  have q := hl i σ H hi p
  rcases Nat.lt_or_ge i xs.length with lt | ge
  · refine .inr ⟨⟨xs, xs[i], q, List.getElem?_eq_getElem lt⟩, Pv (i + 1), fun σ' H' p' => ⟨xs.length - (i + 1), by omega, rfl, lt, p'⟩, ?_⟩
    rintro x H' ⟨T, y, rfl, nT, rfl, hy⟩
    exact hs i y σ H T (hy xs q) p nT
  · have e : i = xs.length := Nat.le_antisymm hi ge
    exact .inl ⟨⟨xs, q, e⟩, hd σ H (e ▸ p)⟩
end Bf

namespace Bf
open PySem PySem.Spec PyProof.Rows L2

/-! ### things by their types -/
inductive Kn (K : PySem.W.Frag) (H : Hp) : V → String → Prop
  | non : Kn K H .non "NoneType"
  | bl (b : Bool) : Kn K H (.bl b) "bool"
  | int (i : Int) : Kn K H (.int i) "int"
  | str (z : Str) : Kn K H (.str z) "str"
  | lst {a : Addr} (h : TyX K H (.ref a) (.type "list")) : Kn K H (.ref a) "list"
  | tup {a : Addr} (h : TyX K H (.ref a) (.type "tuple")) : Kn K H (.ref a) "tuple"
  | dic {a : Addr} (h : TyX K H (.ref a) (.type "dict")) : Kn K H (.ref a) "dict"
theorem Kn.ty {K : PySem.W.Frag} {H : Hp} {x : V} {n : String} (h : Kn K H x n) : TyX K H x (.type n) := by
  cases h with
  | non => exact .base .non
  | bl b => exact .base (.bl b)
  | int i => exact .base (.int i)
  | str z => exact .base (.str z)
  | lst h => exact h
  | tup h => exact h
  | dic h => exact h
def wholeB (x : V) (lo hi : Int) : Bool := match x with
  | .int i => decide (lo ≤ i) && decide (i ≤ hi)
  | _ => false
theorem wholeB_int {x : V} {lo hi : Int} (h : wholeB x lo hi = true) : ∃ i, x = .int i ∧ lo ≤ i ∧ i ≤ hi := by
  cases x with
  | int i =>
    have z : (decide (lo ≤ i) && decide (i ≤ hi)) = true := h
    obtain ⟨a, b⟩ := Bool.and_eq_true_iff.mp z
    exact ⟨i, rfl, of_decide_eq_true a, of_decide_eq_true b⟩
  | _ => cases h
theorem wholeB_of {i lo hi : Int} (a : lo ≤ i) (b : i ≤ hi) : wholeB (.int i) lo hi = true := by
  show (decide (lo ≤ i) && decide (i ≤ hi)) = true
  rw [decide_eq_true a, decide_eq_true b]; rfl

/-- a def of the text as its callers need it -/
structure Df (K : PySem.W.Frag) (mg : Str → Option Value) (x : Str) (f : Addr) (fd : FuncData) (ps : List Str) : Prop where
  at_ : mg x = some (.ref f)
  kp : PySem.W.keepIn K (.ref f) = true
  bd : Binds K fd ps []
abbrev CXL (P : Program) (w : World) : CXT := L2.CX P w

namespace P2
def top (i : Nat) : Stmt := PySem.Challenge.pw_beatflows_k02_bits_of_worths.main.body.getD i (.Pass ⟨0, 0, 0, 0⟩)
abbrev sFE : Stmt := inClass (top 1) 0
abbrev sNW : Stmt := inClass (top 4) 0
abbrev sNO : Stmt := inClass (top 5) 0
abbrev sNB : Stmt := inClass (top 6) 0
abbrev sWhole : Stmt := top 8
abbrev sWidth : Stmt := top 10
abbrev sTruth : Stmt := top 11
abbrev sBitsOf : Stmt := top 12
abbrev sOfBits : Stmt := top 13
abbrev sGreat : Stmt := top 14
abbrev sWorthOf : Stmt := top 15
abbrev sIsList : Stmt := top 16
abbrev sCell : Stmt := top 18
abbrev sPurse : Stmt := top 19
abbrev sTake : Stmt := top 20
abbrev sBits : Stmt := top 22
abbrev sLTruth : Stmt := top 23
abbrev sAsked : Stmt := top 24
abbrev sRef : Stmt := top 25
abbrev sNumber : Stmt := top 9
abbrev sLaw : Stmt := top 26

section
variable {P : Program} {w : World} {K : PySem.W.Frag} {mg : Str → Option Value} {base : Heap}

/-! ### is_whole and what stands on it -/
def numB (x : V) : Bool := match x with
  | .int _ => true
  | _ => false
def spNum (K : PySem.W.Frag) : Sp := fun vs H Q _ => ∃ (x : V) (n : String), vs = [x] ∧ Kn K H x n ∧ Q (.bl (numB x)) H
theorem scNum : FnScope ["thing"] ["thing"] (defScope sNumber) := ⟨rfl, rfl, rfl, by decide +kernel, rfl, by decide +kernel, by decide +kernel⟩
theorem ok_num {f : Addr} {fd : FuncData} (F : Fun K "is_number" "is_number" sNumber f fd) (mi : mg "isinstance" = none) (mt : mg "int" = none) (mb : mg "bool" = none) :
    FnOk P w K mg base CX0 1 f fd ["thing"] (spNum K) := by
  refine F.ok scNum (fun vs H Q E h => ?_) (fun cdv A outer s H vs Q E hr h => ?_)
  · obtain ⟨x, n, rfl, _⟩ := h
    rfl
  · obtain ⟨x, n, rfl, kn, q⟩ := h
    refine ⟨_, pss_one (ps_ret (pe_and (pe_callB call_isi (by rfl) mi (by decide +kernel) (pa_cons (pv 0) (pa_cons (pe_bltn (v := .ty "int") (by rfl) mt (by decide +kernel) rfl) pa_nil)))
      (pe_one (pe_not (pe_callB call_isi (by rfl) mi (by decide +kernel) (pa_cons (pv 0) (pa_cons (pe_bltn (v := .ty "bool") (by rfl) mb (by decide +kernel) rfl) pa_nil))))))), ?_⟩
    cases kn with
    | int i =>
      refine ⟨_, rfl, _, _, _, _, _, rfl, .ty "int", .base (.int i), kit_ty (by decide +kernel), _, rfl, iteT ?_⟩
      exact ⟨_, rfl, _, _, _, _, false, rfl, .ty "bool", .base (.int i), kit_ty (by decide +kernel), _, rfl, q⟩
    | bl b =>
      refine ⟨_, rfl, _, _, _, _, _, rfl, .ty "int", .base (.bl b), kit_ty (by decide +kernel), _, rfl, iteT ?_⟩
      exact ⟨_, rfl, _, _, _, _, true, rfl, .ty "bool", .base (.bl b), kit_ty (by decide +kernel), _, rfl, q⟩
    | non => exact ⟨_, rfl, _, _, _, _, _, rfl, .ty "int", .base .non, kit_ty (by decide +kernel), _, rfl, iteF q⟩
    | str z => exact ⟨_, rfl, _, _, _, _, _, rfl, .ty "int", .base (.str z), kit_ty (by decide +kernel), _, rfl, iteF q⟩
    | lst t => exact ⟨_, rfl, _, _, _, _, _, rfl, .ty "int", t, kit_ty (by decide +kernel), _, rfl, iteF q⟩
    | tup t => exact ⟨_, rfl, _, _, _, _, _, rfl, .ty "int", t, kit_ty (by decide +kernel), _, rfl, iteF q⟩
    | dic t => exact ⟨_, rfl, _, _, _, _, _, rfl, .ty "int", t, kit_ty (by decide +kernel), _, rfl, iteF q⟩
def spWhole (K : PySem.W.Frag) : Sp := fun vs H Q _ => ∃ (x : V) (n : String) (lo hi : Int), vs = [x, .int lo, .int hi] ∧ Kn K H x n ∧ Q (.bl (wholeB x lo hi)) H
theorem scWhole : FnScope ["thing", "low", "high"] ["thing", "low", "high"] (defScope sWhole) := ⟨rfl, rfl, rfl, by decide +kernel, rfl, by decide +kernel, by decide +kernel⟩
theorem ok_whole {f fn : Addr} {fd fdn : FuncData} (F : Fun K "is_whole" "is_whole" sWhole f fd) (Dn : Df K mg "is_number" fn fdn ["thing"]) (Gn : FnOk P w K mg base CX0 1 fn fdn ["thing"] (spNum K)) :
    FnOk P w K mg base CX0 2 f fd ["thing", "low", "high"] (spWhole K) := by
  refine F.ok scWhole (fun vs H Q E h => ?_) (fun cdv A outer s H vs Q E hr h => ?_)
  · obtain ⟨x, n, lo, hi, rfl, _⟩ := h
    rfl
  · obtain ⟨x, n, lo, hi, rfl, kn, q⟩ := h
    refine ⟨_, pss_one (ps_ret (pe_and (pe_call Gn hr (by rfl) Dn.at_ Dn.kp Dn.bd .nil pass0 (pa_cons (pv 0) pa_nil))
        (pe_one (pe_chain op_le op_le (pv 1) (pv 0) (pv 2))))), ?_⟩
    refine ⟨_, rfl, x, n, rfl, kn, _, rfl, ?_⟩
    cases x with
    | int i =>
      refine iteT ⟨_, rfl, _, rfl, _, _, rfl, rfl, _, rfl, ite2 (fun h1 => ?_) (fun h1 => ?_)⟩
      · refine ⟨_, rfl, _, _, rfl, rfl, ?_⟩
        have e : wholeB (.int i) lo hi = decide (i ≤ hi) := by
          show (decide (lo ≤ i) && decide (i ≤ hi)) = _
          rw [h1]; rfl
        rw [e] at q; exact q
      · have e : wholeB (.int i) lo hi = false := by
          show (decide (lo ≤ i) && decide (i ≤ hi)) = _
          rw [Bool.eq_false_iff.mpr h1]; rfl
        rw [e] at q; exact q
    | _ => exact iteF q

/-- a def of one thing that asks is_whole between two written bounds -/
def spOne (K : PySem.W.Frag) (lo hi : Int) : Sp := fun vs H Q _ => ∃ (x : V) (n : String), vs = [x] ∧ Kn K H x n ∧ Q (.bl (wholeB x lo hi)) H
theorem scWidth : FnScope ["thing"] ["thing"] (defScope sWidth) := ⟨rfl, rfl, rfl, by decide +kernel, rfl, by decide +kernel, by decide +kernel⟩
theorem ok_width {f fw : Addr} {fd fdw : FuncData} (F : Fun K "is_width" "is_width" sWidth f fd) (D : Df K mg "is_whole" fw fdw ["thing", "low", "high"])
    (G : FnOk P w K mg base CX0 2 fw fdw ["thing", "low", "high"] (spWhole K)) : FnOk P w K mg base CX0 3 f fd ["thing"] (spOne K 1 8) := by
  refine F.ok scWidth (fun vs H Q E h => ?_) (fun cdv A outer s H vs Q E hr h => ?_)
  · obtain ⟨x, n, rfl, _⟩ := h
    rfl
  · obtain ⟨x, n, rfl, kn, q⟩ := h
    exact ⟨_, pss_one (ps_ret (pe_call G hr (by rfl) D.at_ D.kp D.bd .nil pass0 (pa_cons (pv 0) (pa_cons pe_int (pa_cons pe_int pa_nil))))), _, rfl, _, n, 1, 8, rfl, kn, q⟩
theorem scTruth : FnScope ["thing"] ["thing"] (defScope sTruth) := ⟨rfl, rfl, rfl, by decide +kernel, rfl, by decide +kernel, by decide +kernel⟩
theorem ok_truth {f fw : Addr} {fd fdw : FuncData} (F : Fun K "is_truth" "is_truth" sTruth f fd) (D : Df K mg "is_whole" fw fdw ["thing", "low", "high"])
    (G : FnOk P w K mg base CX0 2 fw fdw ["thing", "low", "high"] (spWhole K)) : FnOk P w K mg base CX0 3 f fd ["thing"] (spOne K 0 1) := by
  refine F.ok scTruth (fun vs H Q E h => ?_) (fun cdv A outer s H vs Q E hr h => ?_)
  · obtain ⟨x, n, rfl, _⟩ := h
    rfl
  · obtain ⟨x, n, rfl, kn, q⟩ := h
    exact ⟨_, pss_one (ps_ret (pe_call G hr (by rfl) D.at_ D.kp D.bd .nil pass0 (pa_cons (pv 0) (pa_cons pe_int (pa_cons pe_int pa_nil))))), _, rfl, _, n, 0, 1, rfl, kn, q⟩
def topW (z : Int) : Int := 2 ^ z.toNat - 1
def spGreat : Sp := fun vs H Q _ => ∃ z : Int, vs = [.int z] ∧ 0 ≤ z ∧ z ≤ 1000 ∧ Q (.int (topW z)) H
theorem scGreat : FnScope ["width"] ["width"] (defScope sGreat) := ⟨rfl, rfl, rfl, by decide +kernel, rfl, by decide +kernel, by decide +kernel⟩
theorem ok_great {f : Addr} {fd : FuncData} (F : Fun K "_greatest" "_greatest" sGreat f fd) : FnOk P w K mg base CX0 2 f fd ["width"] spGreat := by
  refine F.ok scGreat (fun vs H Q E h => ?_) (fun cdv A outer s H vs Q E hr h => ?_)
  · obtain ⟨x, rfl, _⟩ := h
    rfl
  · obtain ⟨z, rfl, h0, h1, q⟩ := h
    refine ⟨_, pss_one (ps_ret (pe_op op_sub (pe_op op_shl pe_int (pv 0)) pe_int)), ?_⟩
    refine ⟨_, rfl, _, _, rfl, rfl, ⟨h0, Int.le_trans h1 (by decide), by decide⟩, _, _, rfl, rfl, ?_⟩
    rw [Int.one_mul]
    exact q
def spWorthOf (K : PySem.W.Frag) : Sp := fun vs H Q _ => ∃ (x : V) (n : String) (z : Int), vs = [x, .int z] ∧ Kn K H x n ∧ 0 ≤ z ∧ z ≤ 1000 ∧ Q (.bl (wholeB x 0 (topW z))) H
theorem scWorthOf : FnScope ["thing", "width"] ["thing", "width"] (defScope sWorthOf) := ⟨rfl, rfl, rfl, by decide +kernel, rfl, by decide +kernel, by decide +kernel⟩
theorem ok_worthOf {f fw fg : Addr} {fd fdw fdg : FuncData} (F : Fun K "_is_worth_of_width" "_is_worth_of_width" sWorthOf f fd) (D : Df K mg "is_whole" fw fdw ["thing", "low", "high"])
    (G : FnOk P w K mg base CX0 2 fw fdw ["thing", "low", "high"] (spWhole K)) (Dg : Df K mg "_greatest" fg fdg ["width"]) (Gg : FnOk P w K mg base CX0 2 fg fdg ["width"] spGreat) :
    FnOk P w K mg base CX0 3 f fd ["thing", "width"] (spWorthOf K) := by
  refine F.ok scWorthOf (fun vs H Q E h => ?_) (fun cdv A outer s H vs Q E hr h => ?_)
  · obtain ⟨x, n, z, rfl, _⟩ := h
    rfl
  · obtain ⟨x, n, z, rfl, kn, h0, h1, q⟩ := h
    exact ⟨_, pss_one (ps_ret (pe_call G hr (by rfl) D.at_ D.kp D.bd .nil pass0 (pa_cons (pv 0) (pa_cons pe_int (pa_cons (pe_call Gg hr (by rfl) Dg.at_ Dg.kp Dg.bd .nil pass0 (pa_cons (pv 1) pa_nil)) pa_nil))))),
      _, rfl, _, rfl, z, rfl, h0, h1, _, n, 0, topW z, rfl, kn, q⟩
def listy (n : String) : Bool := n == "list" || n == "tuple"
def spIsList (K : PySem.W.Frag) : Sp := fun vs H Q _ => ∃ (x : V) (n : String), vs = [x] ∧ Kn K H x n ∧ ∀ H', Same H H' → Q (.bl (listy n)) H'
theorem scIsList : FnScope ["thing"] ["thing"] (defScope sIsList) := ⟨rfl, rfl, rfl, by decide +kernel, rfl, by decide +kernel, by decide +kernel⟩
theorem same_new {H : Hp} {p : Addr} {o : HO} (h : H p = none) : Same H (upd H p o) := fun b u e => by
  rw [upd_ne (ne_of_none e h)]
  exact e
theorem kn_same {H H' : Hp} {x : V} {n : String} (e : Same H H') (h : Kn K H x n) : Kn K H' x n := by
  have T : ∀ {a : Addr} {t : Value}, TyX K H (.ref a) t → TyX K H' (.ref a) t := fun {a t} h => by
    cases h with
    | base h =>
      cases h with
      | lst q => exact .base (.lst (e _ _ q))
      | frz q => exact .base (.frz (e _ _ q))
      | tup q => exact .base (.tup (e _ _ q))
      | dK q => exact .base (.dK (e _ _ q))
      | dT q => exact .base (.dT (e _ _ q))
      | ins q cl ha hn ht hm => exact .base (.ins (e _ _ q) cl ha hn ht hm)
    | set q => exact .set (e _ _ q)
    | kList q c => exact .kList q c
    | kTuple q c => exact .kTuple q c
    | kDict q c => exact .kDict q c
    | fTuple q => exact .fTuple (e _ _ q)
    | fDict q => exact .fDict (e _ _ q)
  cases h with
  | non => exact .non
  | bl b => exact .bl b
  | int i => exact .int i
  | str z => exact .str z
  | lst h => exact .lst (T h)
  | tup h => exact .tup (T h)
  | dic h => exact .dic (T h)
theorem ok_isList {f : Addr} {fd : FuncData} (F : Fun K "is_list" "is_list" sIsList f fd) (mi : mg "isinstance" = none) (ml : mg "list" = none) (mt : mg "tuple" = none) :
    FnOk P w K mg base CX0 2 f fd ["thing"] (spIsList K) := by
  refine F.ok scIsList (fun vs H Q E h => ?_) (fun cdv A outer s H vs Q E hr h => ?_)
  · obtain ⟨x, n, rfl, _⟩ := h
    rfl
  · obtain ⟨x, n, rfl, kn, q⟩ := h
    refine ⟨_, pss_one (ps_ret (pe_callB call_isiT (by rfl) mi (by decide +kernel) (pa_cons (pv 0) (pa_cons (pe_tup (pa_cons (pe_bltn (v := .ty "list") (by rfl) ml (by decide +kernel) rfl)
      (pa_cons (pe_bltn (v := .ty "tuple") (by rfl) mt (by decide +kernel) rfl) pa_nil))) pa_nil)))), ?_⟩
    refine ⟨_, rfl, (by show 2 ≤ sizeLine; decide), fun T hT => ?_⟩
    have sm : Same H (upd H T (.tup [.ty "list", .ty "tuple"])) := same_new hT
    have kn' := kn_same sm kn
    have go : ∀ b, PySem.W.kitOne K (.type n) (.type "list") = some b → (b = false → PySem.W.kitOne K (.type n) (.type "tuple") = some (listy n)) → (b = true → listy n = true) →
        PySem.W.kitAny K (.type n) [.type "list", .type "tuple"] = some (listy n) := fun b h1 h2 h3 =>
      kitAny_cons h1 (fun e => kitAny_cons (h2 e) (fun e2 => by rw [e2]; exact kitAny_nil) fun e2 => e2) h3
    refine ⟨_, T, _, _, [.type "list", .type "tuple"], _, rfl, upd_same, .cons (.ty "list") (.cons (.ty "tuple") .nil), kn'.ty, ?_, q _ sm⟩
    cases kn with
    | non => exact go false (kit_ty (by decide +kernel)) (fun _ => kit_ty (by decide +kernel)) (fun z => nomatch z)
    | bl b => exact go false (kit_ty (by decide +kernel)) (fun _ => kit_ty (by decide +kernel)) (fun z => nomatch z)
    | int i => exact go false (kit_ty (by decide +kernel)) (fun _ => kit_ty (by decide +kernel)) (fun z => nomatch z)
    | str z => exact go false (kit_ty (by decide +kernel)) (fun _ => kit_ty (by decide +kernel)) (fun z => nomatch z)
    | lst t => exact go true (kit_ty (by decide +kernel)) (fun z => nomatch z) (fun _ => by decide)
    | tup t => exact go false (kit_ty (by decide +kernel)) (fun _ => kit_ty (by decide +kernel)) (fun z => nomatch z)
    | dic t => exact go false (kit_ty (by decide +kernel)) (fun _ => kit_ty (by decide +kernel)) (fun z => nomatch z)
end
end P2
end Bf

namespace Bf
open PySem PySem.Spec PyProof.Rows L2

/-! ### refusals of one field -/
structure ExT (K : PySem.W.Frag) (mg : Str → Option Value) (x : Str) (C fI : Addr) (fdI : FuncData) : Prop where
  gC : mg x = some (.ref C)
  ox : OexC K C
  iC : PySem.W.findIn K (.ref C) "__init__" = some (some (.ref fI))
  tI : PySem.W.typeIn K (.ref fI) = some (.type "function")
  nf : PySem.W.findIn K (.ref C) "found" = some none
  xf : XfC K C
  bd : Binds K fdI ["self", "found"] []
/-- self is an exception that is being made, without fields as yet -/
def spBase (K : PySem.W.Frag) : Sp := fun vs H Q _ => ∃ (a C : Addr) (v : V), vs = [.ref a, v] ∧ OexC K C ∧ H a = some (exo a C none) ∧ Q .non H
def spInit (K : PySem.W.Frag) (C : Addr) : Sp := fun vs H Q _ => ∃ (a : Addr) (v : V), vs = [.ref a, v] ∧ H a = some (exo a C none) ∧
  ∀ dx, H dx = none → dx ≠ a → Q .non (upd (upd H dx (exd dx [("found", v)])) a (exo a C (some dx)))
/-- the wish that a refusal with this field comes -/
def Refuses (C : Addr) (v : V) (H : Hp) (E : XK) : Prop := ∀ d H', Same H H' → H d = none → H' d = some (.xd [("found", v)]) → E (.ref C) (some d) H'
theorem same_raise {H1 : Hp} {a d : Addr} {o1 o2 o3 o4 : HO} (ha : H1 a = none) (hd : H1 d = none) : Same H1 (upd (del (upd (upd (upd H1 a o1) d o2) a o3) a) d o4) := fun b o e => by
  have nba : b ≠ a := ne_of_none e ha
  have nbd : b ≠ d := ne_of_none e hd
  rw [upd_ne nbd, del_ne nba, upd_ne nba, upd_ne nbd, upd_ne nba]
  exact e

namespace P2
section
variable {P : Program} {w : World} {K : PySem.W.Frag} {mg : Str → Option Value} {base : Heap}
theorem scFE : FnScope ["self", "text"] ["self", "text"] (defScope sFE) := ⟨rfl, rfl, rfl, by decide +kernel, rfl, by decide +kernel, by decide +kernel⟩
theorem ok_FE {f : Addr} {fd : FuncData} (F : Fun K "__init__" "FlowError.__init__" sFE f fd) (mV : mg "ValueError" = none)
    (vV : PySem.W.findCls K (.type "ValueError") (.type "type") "__init__" = some (.val (.builtin "ValueError.__init__"))) : FnOk P w K mg base CX0 2 f fd ["self", "text"] (spBase K) := by
  refine F.ok scFE (fun vs H Q E h => ?_) (fun cdv A outer s H vs Q E hr h => ?_)
  · obtain ⟨a, C, v, rfl, _⟩ := h
    rfl
  · obtain ⟨a, C, v, rfl, ox, ea, q⟩ := h
    exact ⟨_, pss_one (ps_expr (pe_veinit (by rfl) mV vV (pa_cons (pv 0) (pa_cons (pv 1) pa_nil)))), _, rfl, _, rfl, a, C, [v], rfl, by show 1 ≤ 1000; decide, ox, ea, q⟩
/-- what an __init__ needs of the base's class -/
structure BaseT (P : Program) (w : World) (K : PySem.W.Frag) (mg : Str → Option Value) (base : Heap) (mc : Value) (CF fF : Addr) (fdF : FuncData) : Prop where
  g : mg "FlowError" = some (.ref CF)
  rd : ClX.CRead K CF mc
  va : PySem.W.findCls K (.ref CF) mc "__init__" = some (.val (.ref fF))
  kp : PySem.W.keepIn K (.ref fF) = true
  bd : Binds K fdF ["self", "text"] []
  ok : FnOk P w K mg base CX0 2 fF fdF ["self", "text"] (spBase K)
theorem scNW : FnScope ["self", "found"] ["self", "found"] (defScope sNW) := ⟨rfl, rfl, rfl, by decide +kernel, rfl, by decide +kernel, by decide +kernel⟩
theorem ok_NW {f C CF fF : Addr} {fd fdF : FuncData} {mc : Value} (F : Fun K "__init__" "NoWidth.__init__" sNW f fd) (B : BaseT P w K mg base mc CF fF fdF) (ox : OexC K C) (nf : PySem.W.findIn K (.ref C) "found" = some none) :
    FnOk P w K mg base CX0 3 f fd ["self", "found"] (spInit K C) := by
  refine F.ok scNW (fun vs H Q E h => ?_) (fun cdv A outer s H vs Q E hr h => ?_)
  · obtain ⟨a, v, rfl, _⟩ := h
    rfl
  · obtain ⟨a, v, rfl, ea, q⟩ := h
    exact ⟨_, pss_cons (ps_expr (pe_clsFn B.ok hr (by rfl) B.g B.rd B.va B.kp B.bd pass0 (pa_cons (pv 0) (pa_cons pe_str pa_nil)))) (pss_one (ps_ost (pv 0) (pv 1))),
      _, rfl, a, C, _, rfl, ox, ea, _, rfl, _, rfl, a, C, rfl, ox, nf, .inl ⟨ea, fun dx n ne => q dx n ne⟩⟩
theorem scNO : FnScope ["self", "found"] ["self", "found"] (defScope sNO) := ⟨rfl, rfl, rfl, by decide +kernel, rfl, by decide +kernel, by decide +kernel⟩
theorem ok_NO {f C CF fF : Addr} {fd fdF : FuncData} {mc : Value} (F : Fun K "__init__" "NoWorth.__init__" sNO f fd) (B : BaseT P w K mg base mc CF fF fdF) (ox : OexC K C) (nf : PySem.W.findIn K (.ref C) "found" = some none) :
    FnOk P w K mg base CX0 3 f fd ["self", "found"] (spInit K C) := by
  refine F.ok scNO (fun vs H Q E h => ?_) (fun cdv A outer s H vs Q E hr h => ?_)
  · obtain ⟨a, v, rfl, _⟩ := h
    rfl
  · obtain ⟨a, v, rfl, ea, q⟩ := h
    exact ⟨_, pss_cons (ps_expr (pe_clsFn B.ok hr (by rfl) B.g B.rd B.va B.kp B.bd pass0 (pa_cons (pv 0) (pa_cons pe_str pa_nil)))) (pss_one (ps_ost (pv 0) (pv 1))),
      _, rfl, a, C, _, rfl, ox, ea, _, rfl, _, rfl, a, C, rfl, ox, nf, .inl ⟨ea, fun dx n ne => q dx n ne⟩⟩
theorem scNB : FnScope ["self", "found"] ["self", "found"] (defScope sNB) := ⟨rfl, rfl, rfl, by decide +kernel, rfl, by decide +kernel, by decide +kernel⟩
theorem ok_NB {f C CF fF : Addr} {fd fdF : FuncData} {mc : Value} (F : Fun K "__init__" "NoBits.__init__" sNB f fd) (B : BaseT P w K mg base mc CF fF fdF) (ox : OexC K C) (nf : PySem.W.findIn K (.ref C) "found" = some none) :
    FnOk P w K mg base CX0 3 f fd ["self", "found"] (spInit K C) := by
  refine F.ok scNB (fun vs H Q E h => ?_) (fun cdv A outer s H vs Q E hr h => ?_)
  · obtain ⟨a, v, rfl, _⟩ := h
    rfl
  · obtain ⟨a, v, rfl, ea, q⟩ := h
    exact ⟨_, pss_cons (ps_expr (pe_clsFn B.ok hr (by rfl) B.g B.rd B.va B.kp B.bd pass0 (pa_cons (pv 0) (pa_cons pe_str pa_nil)))) (pss_one (ps_ost (pv 0) (pv 1))),
      _, rfl, a, C, _, rfl, ox, ea, _, rfl, _, rfl, a, C, rfl, ox, nf, .inl ⟨ea, fun dx n ne => q dx n ne⟩⟩
/-- what stands behind «raise C(v)», v already reckoned: the reading from the arguments on -/
theorem raise_reads {C : Addr} {v : V} {H : Hp} {E : XK} (q : Refuses C v H E) :
    ([v] : List V).length ≤ 1000 ∧ ∀ a, H a = none → spInit K C (.ref a :: ([v] ++ [])) (upd H a (exo a C none)) (fun z H2 => z = .non ∧ ∃ (d : Addr) (fs : List (Str × V)), H2 a = some (exo a C (some d)) ∧ H2 d = some (exd d fs) ∧ H d = none ∧
      E (.ref C) (some d) (upd (del H2 a) d (.xd fs))) fun _ _ _ => False := by
  refine ⟨by show 1 ≤ 1000; decide, fun a ha => ⟨a, v, rfl, upd_same, fun dx hdx ne => ⟨rfl, dx, [("found", v)], upd_same, ?_, ?_, ?_⟩⟩⟩
  · rw [upd_ne ne, upd_same]
  · rw [upd_ne ne] at hdx
    exact hdx
  · have hd : H dx = none := by
      rw [upd_ne ne] at hdx
      exact hdx
    exact q _ _ (same_raise ha hd) hd upd_same

/-! ### bits_of -/
def bitsV (z k : Int) : List V := (List.range z.toNat).map fun i => V.int (k / 2 ^ i % 2)
def spBitsOf (K : PySem.W.Frag) (cW cO : Addr) : Sp := fun vs H Q E => ∃ (x y : V) (n m : String), vs = [x, y] ∧ Kn K H x n ∧ Kn K H y m ∧
  ((wholeB x 1 8 = false ∧ Refuses cW x H E) ∨ ∃ z : Int, x = .int z ∧ 1 ≤ z ∧ z ≤ 8 ∧
    ((wholeB y 0 (topW z) = false ∧ Refuses cO y H E) ∨ ∃ k : Int, y = .int k ∧ 0 ≤ k ∧ k ≤ topW z ∧ ∀ p H', Same H H' → H p = none → H' p = some (.lst (bitsV z k)) → Q (.ref p) H'))
theorem scBitsOf : FnScope ["width", "worth", "place"] ["width", "worth"] (defScope sBitsOf) := ⟨rfl, rfl, rfl, by decide +kernel, rfl, by decide +kernel, by decide +kernel⟩
theorem ok_bitsOf {f cW fW cO fO fw fo : Addr} {fd fdW fdO fdw fdo : FuncData} (F : Fun K "bits_of" "bits_of" sBitsOf f fd) (TW : ExT K mg "NoWidth" cW fW fdW) (TO : ExT K mg "NoWorth" cO fO fdO)
    (GW : FnOk P w K mg base CX0 3 fW fdW ["self", "found"] (spInit K cW)) (GO : FnOk P w K mg base CX0 3 fO fdO ["self", "found"] (spInit K cO))
    (Dw : Df K mg "is_width" fw fdw ["thing"]) (Gw : FnOk P w K mg base CX0 3 fw fdw ["thing"] (spOne K 1 8)) (Do : Df K mg "_is_worth_of_width" fo fdo ["thing", "width"]) (Go : FnOk P w K mg base CX0 3 fo fdo ["thing", "width"] (spWorthOf K))
    (mr : mg "range" = none) : FnOk P w K mg base (CXL P w) 5 f fd ["width", "worth"] (spBitsOf K cW cO) := by
  refine F.okX scBitsOf (fun vs H Q E h => ?_) (fun cdv A outer s H vs Q E hr h => ?_)
  · obtain ⟨x, y, n, m, rfl, _⟩ := h
    rfl
  · obtain ⟨x, y, n, m, rfl, kx, ky, q⟩ := h
    have hr2 := hr.mono (by decide : 3 ≤ 4)
    refine ⟨_, pss_cons (ps_if (pt_not (pt_val (pe_call Gw hr2 (by rfl) Dw.at_ Dw.kp Dw.bd .nil pass0 (pa_cons (pv 0) pa_nil)))) (pss_one (ps_raise rfl (takes_of rfl rfl rfl rfl) (pmk_oex TW.ox TW.iC TW.tI GW hr TW.bd .nil pass0 (by rfl) TW.gC (pa_cons (pv 0) pa_nil)))) pss_nil)
      (pss_cons (ps_if (pt_not (pt_val (pe_call Go hr2 (by rfl) Do.at_ Do.kp Do.bd .nil pass0 (pa_cons (pv 1) (pa_cons (pv 0) pa_nil))))) (pss_one (ps_raise rfl (takes_of rfl rfl rfl rfl) (pmk_oex TO.ox TO.iC TO.tI GO hr TO.bd .nil pass0 (by rfl) TO.gC (pa_cons (pv 1) pa_nil)))) pss_nil)
      (pss_one (ps_ret (pe_lc (own := [("place", 2)]) (g := gName 2) (tt := tYes) rfl scBitsOf.nd (pi_range1 rfl mr (pa_cons (pv 0) pa_nil))
        (blkOk_by (N := ["width", "worth", "place"]) (sc := defScope sBitsOf) (by decide +kernel)) (fun _ _ _ _ _ => pg_name (i := 2) scBitsOf.nd rfl (Or.inl rfl)) (fun _ _ _ _ _ => pts_nil) (fun _ _ _ _ _ => pe_op op_andM (pe_op op_shr (pv 1) (pv 2)) pe_int))))), ?_⟩
    refine ⟨_, rfl, _, n, rfl, kx, _, rfl, ?_⟩
    rcases q with ⟨e, q⟩ | ⟨z, rfl, z1, z8, q⟩
    · rw [e]
      exact iteT ⟨_, rfl, raise_reads q⟩
    · rw [wholeB_of z1 z8]
      refine iteF ?_
      refine ⟨_, rfl, _, rfl, _, m, z, rfl, ky, by omega, by omega, _, rfl, ?_⟩
      rcases q with ⟨e, q⟩ | ⟨k, rfl, k0, k1, q⟩
      · rw [e]
        exact iteT ⟨_, rfl, raise_reads q⟩
      · rw [wholeB_of k0 k1]
        refine iteF ?_
        refine ⟨_, rfl, z, rfl, by omega, by omega, fun D hD => ?_⟩
        refine lc_range (lo := 0) (n := z.toNat) (fun i H' => Same H H' ∧ H' D = some (.lst ((List.range i).map fun i => V.int (k / 2 ^ i % 2)))) ⟨same_new hD, upd_same⟩ (fun i H' hi pv => ?_) fun H' pv => q D H' pv.1 hD pv.2
        refine ⟨rfl, _, rfl, _, rfl, _, _, rfl, rfl, by show (0 : Int) ≤ 0 + (i : Int); omega, _, 1, rfl, rfl, _, pv.2, by rw [List.length_map, List.length_range]; exact Nat.lt_of_lt_of_le hi (Nat.le_trans (by omega : z.toNat ≤ 8) (by decide)), ?_, ?_⟩
        · exact fun b o e => by rw [upd_ne (ne_of_none e hD)]; exact pv.1 _ _ e
        · rw [upd_same, List.range_succ, List.map_append]
          have e1 : (0 + (i : Int)).toNat = i := by omega
          rw [e1]
          rfl
end
end P2
end Bf

namespace Bf
open PySem PySem.Spec PyProof.Rows L2

/-- a loop over enumerate(list) -/
theorem for_ite {K : PySem.W.Frag} {a : Addr} {xs : List V} {g : TG} {tb : TS} {D : Ends} {σ : L2.St} {H : Hp} (Pv : Nat → L2.St → Hp → Prop) (h0 : Pv 0 σ H) (hl : ∀ i σ H, i ≤ xs.length → Pv i σ H → SqL K H a xs)
    (hs : ∀ i x σ H T, xs[i]? = some x → Pv i σ H → H T = none → g (.ref T) σ (upd H T (.tup [.int (i : Nat), x])) fun σ2 H2 => tb { D with nx := Pv (i + 1), ct := Pv (i + 1), bk := D.nx } σ2 H2) (hd : ∀ σ H, Pv xs.length σ H → D.nx σ H) :
    ∃ W : Nat → Nat → L2.St → Hp → Prop, (∃ m, W 0 m σ H) ∧ ∀ i m σ H, W i m σ H →
      ((Ite K a).stop i H ∧ D.nx σ H) ∨ ((Ite K a).go i H ∧ ∃ N : L2.St → Hp → Prop, (∀ σ' H', N σ' H' → ∃ m', m' < m ∧ W (i + 1) m' σ' H') ∧ ∀ x H', (Ite K a).yld i H x H' → g x σ H' fun σ2 H2 => tb { D with nx := N, ct := N, bk := D.nx } σ2 H2) := by
  refine ⟨fun i m σ H => m = xs.length - i ∧ i ≤ xs.length ∧ Pv i σ H, ⟨xs.length, by simp, Nat.zero_le _, h0⟩, ?_⟩
  rintro i m σ H ⟨rfl, hi, p⟩
  have q := hl i σ H hi p
  rcases Nat.lt_or_ge i xs.length with lt | ge
  · refine .inr ⟨⟨xs, xs[i], q, List.getElem?_eq_getElem lt⟩, Pv (i + 1), fun σ' H' p' => ⟨xs.length - (i + 1), by omega, rfl, lt, p'⟩, ?_⟩
    rintro x H' ⟨T, y, rfl, nT, rfl, hy⟩
    exact hs i y σ H T (hy xs q) p nT
  · exact .inl ⟨⟨xs, q, ge⟩, hd σ H (Nat.le_antisymm hi ge ▸ p)⟩

/-- the worth of bits, the lowest first -/
def valB : List Int → Int
  | [] => 0
  | b :: r => b + 2 * valB r
theorem valB_snoc : ∀ (l : List Int) (b : Int), valB (l ++ [b]) = valB l + b * 2 ^ l.length
  | [], b => by simp [valB]
  | a :: l, b => by
    show a + 2 * valB (l ++ [b]) = a + 2 * valB l + b * 2 ^ (l.length + 1)
    rw [valB_snoc l b, Int.pow_succ]
    have e : b * (2 ^ l.length * 2) = 2 * (b * 2 ^ l.length) := by rw [← Int.mul_assoc, Int.mul_comm]
    rw [e]
    omega
theorem same_trans_new {H H1 : Hp} {p : Addr} {o : HO} (s : Same H H1) (h : H1 p = none) : Same H (upd H1 p o) := fun b u e => by
  rw [upd_ne (ne_of_none (s _ _ e) h)]
  exact s _ _ e
theorem Same.sqT {K : PySem.W.Frag} {H H' : Hp} {a : Addr} {xs : List V} (e : Same H H') (h : SqT K H a xs) : SqT K H' a xs := by
  rcases h with (h | ⟨o, h⟩) | h
  · exact .inl (.inl (e _ _ h))
  · exact .inl (.inr ⟨o, e _ _ h⟩)
  · exact .inr h
/-- a list (k = true) or a tuple -/
def SqB (K : PySem.W.Frag) (k : Bool) (H : Hp) (a : Addr) (xs : List V) : Prop := if k = true then SqL K H a xs else SqT K H a xs
theorem SqB.same {K : PySem.W.Frag} {k : Bool} {H H' : Hp} {a : Addr} {xs : List V} (e : Same H H') (h : SqB K k H a xs) : SqB K k H' a xs := by
  cases k with
  | true => exact Same.seq e h
  | false => exact Same.sqT e h

namespace P2
section
variable {P : Program} {w : World} {K : PySem.W.Frag} {mg : Str → Option Value} {base : Heap}
/-- what of_bits finds -/
inductive Fate (xs : List V) : Option Int → Prop
  | many (h : ¬ (1 ≤ xs.length ∧ xs.length ≤ 8)) : Fate xs none
  | odd (h1 : 1 ≤ xs.length) (h8 : xs.length ≤ 8) (h : ∃ y ∈ xs, wholeB y 0 1 = false) : Fate xs none
  | fine {bs : List Int} (h1 : 1 ≤ xs.length) (h8 : xs.length ≤ 8) (e : xs = bs.map V.int) (h : ∀ b ∈ bs, 0 ≤ b ∧ b ≤ 1) : Fate xs (some (valB bs))
def spOfBits (K : PySem.W.Frag) (cB : Addr) : Sp := fun vs H Q E => ∃ (x : V) (n : String), vs = [x] ∧ Kn K H x n ∧
  ((listy n = false ∧ Refuses cB x H E) ∨ ∃ (a : Addr) (xs : List V) (k : Bool) (r : Option Int), x = .ref a ∧ listy n = true ∧ SqB K k H a xs ∧ xs.length ≤ 1000 ∧ (∀ y ∈ xs, ∃ m, Kn K H y m) ∧ Fate xs r ∧
    ((r = none ∧ Refuses cB x H E) ∨ ∃ z, r = some z ∧ ∀ H', Same H H' → Q (.int z) H'))
theorem scOfBits : FnScope ["bits", "worth", "place", "bit"] ["bits"] (defScope sOfBits) := ⟨rfl, rfl, rfl, by decide +kernel, rfl, by decide +kernel, by decide +kernel⟩
/-- the raise after some heaps -/
theorem refuses_later {C : Addr} {v : V} {H H1 : Hp} {E : XK} (q : Refuses C v H E) (s : Same H H1) : Refuses C v H1 E := fun d H' s' hd h => q d H' (s.trans s') (s.free hd) h
/-- the turn of the sum -/
theorem sum_turn {bs : List Int} {i : Nat} {b : Int} (hb : bs[i]? = some b) : valB (bs.take i) + b * 2 ^ ((i : Int)).toNat = valB (bs.take (i + 1)) := by
  have e : bs.take (i + 1) = bs.take i ++ [b] := by
    rw [List.take_add_one, hb]; rfl
  rw [e, valB_snoc, List.length_take, Int.toNat_natCast, Nat.min_eq_left (Nat.le_of_lt (List.getElem?_eq_some_iff.mp hb).1)]
theorem ok_ofBits {f cB fB ft fl : Addr} {fd fdB fdt fdl : FuncData} (F : Fun K "of_bits" "of_bits" sOfBits f fd) (TB : ExT K mg "NoBits" cB fB fdB)
    (GB : FnOk P w K mg base CX0 3 fB fdB ["self", "found"] (spInit K cB)) (Dt : Df K mg "is_truth" ft fdt ["thing"]) (Gt : FnOk P w K mg base CX0 3 ft fdt ["thing"] (spOne K 0 1))
    (Dl : Df K mg "is_list" fl fdl ["thing"]) (Gl : FnOk P w K mg base CX0 2 fl fdl ["thing"] (spIsList K)) (ml : mg "len" = none) (ma : mg "all" = none) (me : mg "enumerate" = none) :
    FnOk P w K mg base (CXL P w) 5 f fd ["bits"] (spOfBits K cB) := by
  refine F.okX scOfBits (fun vs H Q E h => ?_) (fun cdv A outer s H vs Q E hr h => ?_)
  · obtain ⟨x, n, rfl, _⟩ := h
    rfl
  · obtain ⟨x, n, rfl, kx, q⟩ := h
    have hr2 := hr.mono (by decide : 3 ≤ 4)
    have hr1 := hr.mono (by decide : 2 ≤ 4)
    rcases q with ⟨ln, q⟩ | ⟨a, xs, k, r, rfl, ln, hS, hz, hk, fate, q⟩
    · -- no list at all
      refine ⟨_, pss_cons (ps_if (PW.pt (pw_or (pt_not (pt_val (pe_call Gl hr1 (by rfl) Dl.at_ Dl.kp Dl.bd .nil pass0 (pa_cons (pv 0) pa_nil)))) (pw_or1 (pt_not (pt_chain op_le op_le pe_int (pe_callB call_len_seq (by rfl) ml PySem.boot_len (pa_cons (pv 0) pa_nil)) pe_int)))))
        (pss_one (ps_raise rfl (takes_of rfl rfl rfl rfl) (pmk_oex TB.ox TB.iC TB.tI GB hr TB.bd .nil pass0 (by rfl) TB.gC (pa_cons (pv 0) pa_nil)))) pss_nil)
        (pss_cons (ps_if (pt_not (pt_val (pe_callB (cr_all rfl) (by rfl) ma (by decide +kernel) (pa_cons (pe_lc (own := [("bit", 3)]) (g := gName 3) (tt := tYes) rfl scOfBits.nd (pi_list (pv 0)) (blkOk_by (N := ["bits", "worth", "place", "bit"]) (sc := defScope sOfBits) (by decide +kernel))
            (fun _ _ _ _ _ => pg_name (i := 3) scOfBits.nd rfl (Or.inl rfl)) (fun _ _ _ _ _ => pts_nil) (fun _ _ _ _ _ => pe_call Gt hr2 (by rfl) Dt.at_ Dt.kp Dt.bd .nil pass0 (pa_cons (pv 3) pa_nil))) pa_nil))))
          (pss_one (ps_raise rfl (takes_of rfl rfl rfl rfl) (pmk_oex TB.ox TB.iC TB.tI GB hr TB.bd .nil pass0 (by rfl) TB.gC (pa_cons (pv 0) pa_nil)))) pss_nil)
        (pss_cons (ps_set (i := 1) scOfBits.nd rfl (Or.inl rfl) pe_int)
        (pss_cons (ps_for (passes_of rfl) rfl (pi_enum (by rfl) me (pa_cons (pv 0) pa_nil)) (pg_tup rfl (pgs_cons (pg_name (i := 2) scOfBits.nd rfl (Or.inl rfl)) (pgs_cons (pg_name (i := 3) scOfBits.nd rfl (Or.inl rfl)) pgs_nil)))
          (pss_one (ps_aug (i := 1) scOfBits.nd rfl (Or.inl rfl) (pe_op op_shl (pv 3) (pv 2)) iop_add)))
        (pss_one (ps_ret (pv 1)))))), ?_⟩
      refine ⟨_, rfl, _, n, rfl, kx, fun H1 s1 => ⟨_, rfl, ?_⟩⟩
      rw [ln]
      exact iteT (iteT ⟨_, rfl, raise_reads (refuses_later q s1)⟩)
    · cases k with
      | true =>
        refine ⟨_, pss_cons (ps_if (PW.pt (pw_or (pt_not (pt_val (pe_call Gl hr1 (by rfl) Dl.at_ Dl.kp Dl.bd .nil pass0 (pa_cons (pv 0) pa_nil)))) (pw_or1 (pt_not (pt_chain op_le op_le pe_int (pe_callB call_len_seq (by rfl) ml PySem.boot_len (pa_cons (pv 0) pa_nil)) pe_int)))))
        (pss_one (ps_raise rfl (takes_of rfl rfl rfl rfl) (pmk_oex TB.ox TB.iC TB.tI GB hr TB.bd .nil pass0 (by rfl) TB.gC (pa_cons (pv 0) pa_nil)))) pss_nil)
        (pss_cons (ps_if (pt_not (pt_val (pe_callB (cr_all rfl) (by rfl) ma (by decide +kernel) (pa_cons (pe_lc (own := [("bit", 3)]) (g := gName 3) (tt := tYes) rfl scOfBits.nd (pi_list (pv 0)) (blkOk_by (N := ["bits", "worth", "place", "bit"]) (sc := defScope sOfBits) (by decide +kernel))
            (fun _ _ _ _ _ => pg_name (i := 3) scOfBits.nd rfl (Or.inl rfl)) (fun _ _ _ _ _ => pts_nil) (fun _ _ _ _ _ => pe_call Gt hr2 (by rfl) Dt.at_ Dt.kp Dt.bd .nil pass0 (pa_cons (pv 3) pa_nil))) pa_nil))))
          (pss_one (ps_raise rfl (takes_of rfl rfl rfl rfl) (pmk_oex TB.ox TB.iC TB.tI GB hr TB.bd .nil pass0 (by rfl) TB.gC (pa_cons (pv 0) pa_nil)))) pss_nil)
        (pss_cons (ps_set (i := 1) scOfBits.nd rfl (Or.inl rfl) pe_int)
        (pss_cons (ps_for (passes_of rfl) rfl (pi_enum (by rfl) me (pa_cons (pv 0) pa_nil)) (pg_tup rfl (pgs_cons (pg_name (i := 2) scOfBits.nd rfl (Or.inl rfl)) (pgs_cons (pg_name (i := 3) scOfBits.nd rfl (Or.inl rfl)) pgs_nil)))
          (pss_one (ps_aug (i := 1) scOfBits.nd rfl (Or.inl rfl) (pe_op op_shl (pv 3) (pv 2)) iop_add)))
        (pss_one (ps_ret (pv 1)))))), ?_⟩
        have hS' : SqL K H a xs := hS
        refine ⟨_, rfl, _, n, rfl, kx, fun H1 s1 => ⟨_, rfl, ?_⟩⟩
        rw [ln]
        refine iteF ?_
        refine ⟨_, rfl, a, xs, rfl, .inl (Same.seq s1 hS'), _, _, rfl, rfl, _, rfl, ?_⟩
        by_cases hin : 1 ≤ xs.length ∧ xs.length ≤ 8
        · have c1 : decide ((1 : Int) ≤ ((xs.length : Nat) : Int)) = true := decide_eq_true (by omega)
          have c8 : decide (((xs.length : Nat) : Int) ≤ 8) = true := decide_eq_true (by omega)
          rw [c1]
          refine iteT ⟨_, _, rfl, rfl, _, rfl, ?_⟩
          rw [c8]
          refine iteF ?_
          -- all of them truths?
          refine ⟨_, rfl, a, rfl, ⟨xs, Same.seq s1 hS'⟩, fun D hD => lc_list (K := K) (a := a) (xs := xs) (fun i H' => Same H H' ∧ H' D = some (.lst ((xs.take i).map fun y => V.bl (wholeB y 0 1)))) ⟨same_trans_new s1 hD, upd_same⟩
            (fun i H' _ pv => Same.seq pv.1 hS') (fun i y H' hy pv => ?_) fun H' pv => ?_⟩
          · obtain ⟨m, km⟩ := hk y (List.mem_of_getElem? hy)
            have hi := (List.getElem?_eq_some_iff.mp hy).1
            refine ⟨rfl, _, rfl, y, m, rfl, kn_same pv.1 km, _, pv.2, by rw [List.length_map, List.length_take]; exact Nat.lt_of_le_of_lt (Nat.le_trans (Nat.min_le_left _ _) (Nat.le_of_lt hi)) (small1000 hz), fun b o e => ?_, ?_⟩
            · rw [upd_ne (ne_of_none e (s1.free hD))]
              exact pv.1 _ _ e
            · rw [upd_same, List.take_add_one, hy, List.map_append]
              rfl
          · have pv2 : H' D = some (.lst ((xs.map fun y => wholeB y 0 1).map V.bl)) := by rw [pv.2, List.take_length, List.map_map]; rfl
            refine ⟨D, _, rfl, SqL.of pv2, _, rfl, ?_⟩
            cases fate with
            | many hm => exact absurd hin hm
            | odd _ _ ho =>
              have ea : (xs.map fun y => wholeB y 0 1).all id = false := by
                obtain ⟨y, my, ey⟩ := ho
                rw [List.all_eq_false]
                exact ⟨wholeB y 0 1, List.mem_map.mpr ⟨y, my, rfl⟩, by rw [ey]; simp⟩
              rw [ea]
              rcases q with ⟨_, q⟩ | ⟨z, e, _⟩
              · exact iteT ⟨_, rfl, raise_reads (refuses_later q pv.1)⟩
              · cases e
            | @fine ns _ _ e hb =>
              subst e
              have ea : ((ns.map V.int).map fun y => wholeB y 0 1).all id = true := by
                rw [List.all_eq_true]
                intro b mb
                obtain ⟨y, my, rfl⟩ := List.mem_map.mp mb
                obtain ⟨j, mj, rfl⟩ := List.mem_map.mp my
                exact wholeB_of (hb j mj).1 (hb j mj).2
              rw [ea]
              refine iteF ?_
              rcases q with ⟨e, _⟩ | ⟨z, e, q⟩
              · cases e
              · cases e
                refine ⟨_, rfl, a, _, rfl, Same.seq pv.1 hS', for_ite (K := K) (a := a) (xs := ns.map V.int) (fun i σ H' => (∃ u v, σ = [some (.ref a), some (.int (valB (ns.take i))), u, v]) ∧ Same H H') ⟨⟨_, _, rfl⟩, pv.1⟩
                  (fun i σ H' _ pv => Same.seq pv.2 hS') (fun i y σ H2 T hy pv hT => ?_) fun σ H2 pv => ?_⟩
                · obtain ⟨⟨u, v, rfl⟩, s2⟩ := pv
                  rw [List.getElem?_map] at hy
                  cases hj : ns[i]? with
                  | none => rw [hj] at hy; cases hy
                  | some b =>
                    rw [hj] at hy
                    cases hy
                    have hl8 : i < 8 := by
                      have := (List.getElem?_eq_some_iff.mp hj).1
                      have h8 := hin.2
                      rw [List.length_map] at h8
                      omega
                    have bb := hb b (List.mem_of_getElem? hj)
                    refine ⟨T, _, rfl, SqT.of upd_same, rfl, _, _, rfl, _, _, rfl, rfl, ?_⟩
                    refine ⟨_, rfl, _, rfl, _, rfl, _, _, rfl, rfl, ⟨by omega, by omega, by omega⟩, _, _, rfl, rfl, ⟨some (.int (i : Nat)), some (.int b), ?_⟩, same_trans_new s2 hT⟩
                    rw [← sum_turn hj]
                    rfl
                · obtain ⟨⟨u, v, rfl⟩, s2⟩ := pv
                  refine ⟨_, rfl, ?_⟩
                  rw [List.length_map, List.take_length]
                  exact q _ s2
        · cases fate with
          | many hm =>
            rcases q with ⟨_, q⟩ | ⟨z, e, _⟩
            · refine ite2 (fun c1 => ?_) (fun c1 => ⟨_, rfl, iteT ⟨_, rfl, raise_reads (refuses_later q s1)⟩⟩)
              have c8 : decide (((xs.length : Nat) : Int) ≤ 8) = false := decide_eq_false fun c8 => hin ⟨by have := of_decide_eq_true c1; omega, by omega⟩
              refine ⟨_, _, rfl, rfl, _, rfl, ?_⟩
              rw [c8]
              exact iteT ⟨_, rfl, raise_reads (refuses_later q s1)⟩
            · cases e
          | odd h1 h8 _ => exact absurd ⟨h1, h8⟩ hin
          | fine h1 h8 _ _ => exact absurd ⟨h1, h8⟩ hin
      | false =>
        refine ⟨_, pss_cons (ps_if (PW.pt (pw_or (pt_not (pt_val (pe_call Gl hr1 (by rfl) Dl.at_ Dl.kp Dl.bd .nil pass0 (pa_cons (pv 0) pa_nil)))) (pw_or1 (pt_not (pt_chain op_le op_le pe_int (pe_callB call_len_seq (by rfl) ml PySem.boot_len (pa_cons (pv 0) pa_nil)) pe_int)))))
        (pss_one (ps_raise rfl (takes_of rfl rfl rfl rfl) (pmk_oex TB.ox TB.iC TB.tI GB hr TB.bd .nil pass0 (by rfl) TB.gC (pa_cons (pv 0) pa_nil)))) pss_nil)
        (pss_cons (ps_if (pt_not (pt_val (pe_callB (cr_all rfl) (by rfl) ma (by decide +kernel) (pa_cons (pe_lc (own := [("bit", 3)]) (g := gName 3) (tt := tYes) rfl scOfBits.nd (pi_tup (pv 0)) (blkOk_by (N := ["bits", "worth", "place", "bit"]) (sc := defScope sOfBits) (by decide +kernel))
            (fun _ _ _ _ _ => pg_name (i := 3) scOfBits.nd rfl (Or.inl rfl)) (fun _ _ _ _ _ => pts_nil) (fun _ _ _ _ _ => pe_call Gt hr2 (by rfl) Dt.at_ Dt.kp Dt.bd .nil pass0 (pa_cons (pv 3) pa_nil))) pa_nil))))
          (pss_one (ps_raise rfl (takes_of rfl rfl rfl rfl) (pmk_oex TB.ox TB.iC TB.tI GB hr TB.bd .nil pass0 (by rfl) TB.gC (pa_cons (pv 0) pa_nil)))) pss_nil)
        (pss_cons (ps_set (i := 1) scOfBits.nd rfl (Or.inl rfl) pe_int)
        (pss_cons (ps_for (passes_of rfl) rfl (pi_enumT (by rfl) me (pa_cons (pv 0) pa_nil)) (pg_tup rfl (pgs_cons (pg_name (i := 2) scOfBits.nd rfl (Or.inl rfl)) (pgs_cons (pg_name (i := 3) scOfBits.nd rfl (Or.inl rfl)) pgs_nil)))
          (pss_one (ps_aug (i := 1) scOfBits.nd rfl (Or.inl rfl) (pe_op op_shl (pv 3) (pv 2)) iop_add)))
        (pss_one (ps_ret (pv 1)))))), ?_⟩
        have hS' : SqT K H a xs := hS
        refine ⟨_, rfl, _, n, rfl, kx, fun H1 s1 => ⟨_, rfl, ?_⟩⟩
        rw [ln]
        refine iteF ?_
        refine ⟨_, rfl, a, xs, rfl, .inr (Same.sqT s1 hS'), _, _, rfl, rfl, _, rfl, ?_⟩
        by_cases hin : 1 ≤ xs.length ∧ xs.length ≤ 8
        · have c1 : decide ((1 : Int) ≤ ((xs.length : Nat) : Int)) = true := decide_eq_true (by omega)
          have c8 : decide (((xs.length : Nat) : Int) ≤ 8) = true := decide_eq_true (by omega)
          rw [c1]
          refine iteT ⟨_, _, rfl, rfl, _, rfl, ?_⟩
          rw [c8]
          refine iteF ?_
          -- all of them truths?
          refine ⟨_, rfl, a, rfl, ⟨xs, Same.sqT s1 hS'⟩, fun D hD => lc_tup (K := K) (a := a) (xs := xs) (fun i H' => Same H H' ∧ H' D = some (.lst ((xs.take i).map fun y => V.bl (wholeB y 0 1)))) ⟨same_trans_new s1 hD, upd_same⟩
            (fun i H' _ pv => Same.sqT pv.1 hS') (fun i y H' hy pv => ?_) fun H' pv => ?_⟩
          · obtain ⟨m, km⟩ := hk y (List.mem_of_getElem? hy)
            have hi := (List.getElem?_eq_some_iff.mp hy).1
            refine ⟨rfl, _, rfl, y, m, rfl, kn_same pv.1 km, _, pv.2, by rw [List.length_map, List.length_take]; exact Nat.lt_of_le_of_lt (Nat.le_trans (Nat.min_le_left _ _) (Nat.le_of_lt hi)) (small1000 hz), fun b o e => ?_, ?_⟩
            · rw [upd_ne (ne_of_none e (s1.free hD))]
              exact pv.1 _ _ e
            · rw [upd_same, List.take_add_one, hy, List.map_append]
              rfl
          · have pv2 : H' D = some (.lst ((xs.map fun y => wholeB y 0 1).map V.bl)) := by rw [pv.2, List.take_length, List.map_map]; rfl
            refine ⟨D, _, rfl, SqL.of pv2, _, rfl, ?_⟩
            cases fate with
            | many hm => exact absurd hin hm
            | odd _ _ ho =>
              have ea : (xs.map fun y => wholeB y 0 1).all id = false := by
                obtain ⟨y, my, ey⟩ := ho
                rw [List.all_eq_false]
                exact ⟨wholeB y 0 1, List.mem_map.mpr ⟨y, my, rfl⟩, by rw [ey]; simp⟩
              rw [ea]
              rcases q with ⟨_, q⟩ | ⟨z, e, _⟩
              · exact iteT ⟨_, rfl, raise_reads (refuses_later q pv.1)⟩
              · cases e
            | @fine ns _ _ e hb =>
              subst e
              have ea : ((ns.map V.int).map fun y => wholeB y 0 1).all id = true := by
                rw [List.all_eq_true]
                intro b mb
                obtain ⟨y, my, rfl⟩ := List.mem_map.mp mb
                obtain ⟨j, mj, rfl⟩ := List.mem_map.mp my
                exact wholeB_of (hb j mj).1 (hb j mj).2
              rw [ea]
              refine iteF ?_
              rcases q with ⟨e, _⟩ | ⟨z, e, q⟩
              · cases e
              · cases e
                refine ⟨_, rfl, a, _, rfl, Same.sqT pv.1 hS', for_iet (K := K) (a := a) (xs := ns.map V.int) (fun i σ H' => (∃ u v, σ = [some (.ref a), some (.int (valB (ns.take i))), u, v]) ∧ Same H H') ⟨⟨_, _, rfl⟩, pv.1⟩
                  (fun i σ H' _ pv => Same.sqT pv.2 hS') (fun i y σ H2 T hy pv hT => ?_) fun σ H2 pv => ?_⟩
                · obtain ⟨⟨u, v, rfl⟩, s2⟩ := pv
                  rw [List.getElem?_map] at hy
                  cases hj : ns[i]? with
                  | none => rw [hj] at hy; cases hy
                  | some b =>
                    rw [hj] at hy
                    cases hy
                    have hl8 : i < 8 := by
                      have := (List.getElem?_eq_some_iff.mp hj).1
                      have h8 := hin.2
                      rw [List.length_map] at h8
                      omega
                    have bb := hb b (List.mem_of_getElem? hj)
                    refine ⟨T, _, rfl, SqT.of upd_same, rfl, _, _, rfl, _, _, rfl, rfl, ?_⟩
                    refine ⟨_, rfl, _, rfl, _, rfl, _, _, rfl, rfl, ⟨by omega, by omega, by omega⟩, _, _, rfl, rfl, ⟨some (.int (i : Nat)), some (.int b), ?_⟩, same_trans_new s2 hT⟩
                    rw [← sum_turn hj]
                    rfl
                · obtain ⟨⟨u, v, rfl⟩, s2⟩ := pv
                  refine ⟨_, rfl, ?_⟩
                  rw [List.length_map, List.take_length]
                  exact q _ s2
        · cases fate with
          | many hm =>
            rcases q with ⟨_, q⟩ | ⟨z, e, _⟩
            · refine ite2 (fun c1 => ?_) (fun c1 => ⟨_, rfl, iteT ⟨_, rfl, raise_reads (refuses_later q s1)⟩⟩)
              have c8 : decide (((xs.length : Nat) : Int) ≤ 8) = false := decide_eq_false fun c8 => hin ⟨by have := of_decide_eq_true c1; omega, by omega⟩
              refine ⟨_, _, rfl, rfl, _, rfl, ?_⟩
              rw [c8]
              exact iteT ⟨_, rfl, raise_reads (refuses_later q s1)⟩
            · cases e
          | odd h1 h8 _ => exact absurd ⟨h1, h8⟩ hin
          | fine h1 h8 _ _ => exact absurd ⟨h1, h8⟩ hin
end
end P2
end Bf

namespace Bf
open PySem PySem.Spec PyProof.Rows L2
namespace P2
section
variable {P : Program} {w : World} {K : PySem.W.Frag} {mg : Str → Option Value} {base : Heap}

/-! ### _law_asked, where a refusal is due -/
inductive Due (K : PySem.W.Frag) (H : Hp) : Int → V → V → Str → V → Prop
  | wd {x y : V} {n m : String} (kx : Kn K H x n) (ky : Kn K H y m) (e : wholeB x 1 8 = false) : Due K H 0 x y "width" x
  | wo {z : Int} {y : V} {m : String} (z1 : 1 ≤ z) (z8 : z ≤ 8) (ky : Kn K H y m) (e : wholeB y 0 (topW z) = false) : Due K H 0 (.int z) y "worth" y
  | nl {x y : V} {n : String} (kx : Kn K H x n) (e : listy n = false) : Due K H 1 x y "bits" x
  | bl {a : Addr} {y : V} {n : String} {xs : List V} {k : Bool} (kx : Kn K H (.ref a) n) (ln : listy n = true) (hS : SqB K k H a xs) (hz : xs.length ≤ 1000) (hk : ∀ y ∈ xs, ∃ m, Kn K H y m) (fate : Fate xs none) : Due K H 1 (.ref a) y "bits" (.ref a)
def spAsked (K : PySem.W.Frag) : Sp := fun vs H Q _ => ∃ (way : Int) (x y z : V) (kind : Str), vs = [.int way, x, y] ∧ Due K H way x y kind z ∧
  ∀ p H', Same H H' → H p = none → p ≠ sysModules → H' p = some (.lst [.str kind, z]) → Q (.ref p) H'
/-- which clause takes which refusal -/
structure Exm (K : PySem.W.Frag) (cW cO cB : Addr) : Prop where
  ww : PySem.W.exmOne K (.ref cW) (.ref cW) = some true
  ow : PySem.W.exmOne K (.ref cO) (.ref cW) = some false
  oo : PySem.W.exmOne K (.ref cO) (.ref cO) = some true
  bw : PySem.W.exmOne K (.ref cB) (.ref cW) = some false
  bo : PySem.W.exmOne K (.ref cB) (.ref cO) = some false
  bb : PySem.W.exmOne K (.ref cB) (.ref cB) = some true
theorem scAsked : FnScope ["_law_way", "_law_one", "_law_other", "e"] ["_law_way", "_law_one", "_law_other"] (defScope sAsked) := ⟨rfl, rfl, rfl, by decide +kernel, rfl, by decide +kernel, by decide +kernel⟩
theorem ok_asked {f cW fW cO fO cB fB fb fo : Addr} {fd fdW fdO fdB fdb fdo : FuncData} (F : Fun K "_law_asked" "_law_asked" sAsked f fd) (TW : ExT K mg "NoWidth" cW fW fdW) (TO : ExT K mg "NoWorth" cO fO fdO) (TB : ExT K mg "NoBits" cB fB fdB)
    (X : Exm K cW cO cB) (Db : Df K mg "bits_of" fb fdb ["width", "worth"]) (Gb : FnOk P w K mg base (CXL P w) 5 fb fdb ["width", "worth"] (spBitsOf K cW cO))
    (Do : Df K mg "of_bits" fo fdo ["bits"]) (Go : FnOk P w K mg base (CXL P w) 5 fo fdo ["bits"] (spOfBits K cB)) : FnOk P w K mg base CX0 6 f fd ["_law_way", "_law_one", "_law_other"] (spAsked K) := by
  refine F.ok scAsked (fun vs H Q E h => ?_) (fun cdv A outer s H vs Q E hr h => ?_)
  · obtain ⟨way, x, y, z, kind, rfl, _⟩ := h
    rfl
  · obtain ⟨way, x, y, z, kind, rfl, due, q⟩ := h
    refine ⟨_, pss_one (ps_arms rfl rfl scAsked.nd
      (fun W pn xe tk _ => pss_one (ps_ret (pe_lst (pa_cons pe_str (pa_cons (pe_ifExp (pt_cmpR op_eq (pv 0) pe_int (nomark _))
        (pe_callS Gb hr (by rfl) Db.at_ Db.kp Db.bd (fun σ => L2.passAt tk σ) (pa_cons (pv 1) (pa_cons (pv 2) pa_nil)))
        (pe_callS Go hr (by rfl) Do.at_ Do.kp Do.bd (fun σ => L2.passAt tk σ) (pa_cons (pv 1) pa_nil))) pa_nil)))))
      (Arms.cons (c := .ref cW) (i := 3) ⟨by rfl, by decide, .inl TW.gC⟩ rfl rfl (fun a oe cls d pn hz hf => pss_one (ps_ret (pe_lstN (pa_cons pe_str (pa_cons (pe_xf TW.xf TW.nf hz hf (pv 3)) pa_nil)))))
      (Arms.cons (c := .ref cO) (i := 3) ⟨by rfl, by decide, .inl TO.gC⟩ rfl rfl (fun a oe cls d pn hz hf => pss_one (ps_ret (pe_lstN (pa_cons pe_str (pa_cons (pe_xf TO.xf TO.nf hz hf (pv 3)) pa_nil)))))
      (Arms.cons (c := .ref cB) (i := 3) ⟨by rfl, by decide, .inl TB.gC⟩ rfl rfl (fun a oe cls d pn hz hf => pss_one (ps_ret (pe_lstN (pa_cons pe_str (pa_cons (pe_xf TB.xf TB.nf hz hf (pv 3)) pa_nil))))) Arms.nil)))), ?_⟩
    refine ⟨_, rfl, rfl, _, rfl, ?_⟩
    cases due with
    | @wd x y n m kx ky e =>
      refine iteT ⟨_, rfl, _, rfl, _, _, n, m, rfl, kx, ky, .inl ⟨e, fun d H' s' hd hx => ⟨true, X.ww, fun _ a ha => ?_, fun z => nomatch z⟩⟩⟩
      exact ⟨_, rfl, rfl, rfl, d, _, _, rfl, hx, rfl, by show 2 ≤ 1000; decide, fun p hp np => q p _ (same_trans_new s' hp) (s'.free hp) np upd_same⟩
    | @wo z y m z1 z8 ky e =>
      refine iteT ⟨_, rfl, _, rfl, _, _, "int", m, rfl, .int z, ky, .inr ⟨z, rfl, z1, z8, .inl ⟨e, fun d H' s' hd hx => ⟨false, X.ow, (fun z => nomatch z), fun _ => ⟨true, X.oo, fun _ a ha => ?_, fun z => nomatch z⟩⟩⟩⟩⟩
      exact ⟨_, rfl, rfl, rfl, d, _, _, rfl, hx, rfl, by show 2 ≤ 1000; decide, fun p hp np => q p _ (same_trans_new s' hp) (s'.free hp) np upd_same⟩
    | @nl x y n kx e =>
      refine iteF ⟨_, rfl, _, n, rfl, kx, .inl ⟨e, fun d H' s' hd hx => ⟨false, X.bw, (fun z => nomatch z), fun _ => ⟨false, X.bo, (fun z => nomatch z), fun _ => ⟨true, X.bb, fun _ a ha => ?_, fun z => nomatch z⟩⟩⟩⟩⟩
      exact ⟨_, rfl, rfl, rfl, d, _, _, rfl, hx, rfl, by show 2 ≤ 1000; decide, fun p hp np => q p _ (same_trans_new s' hp) (s'.free hp) np upd_same⟩
    | @bl a y n xs k kx ln hS hz hk fate =>
      refine iteF ⟨_, rfl, _, n, rfl, kx, .inr ⟨a, xs, k, none, rfl, ln, hS, hz, hk, fate, .inl ⟨rfl, fun d H' s' hd hx => ⟨false, X.bw, (fun z => nomatch z), fun _ => ⟨false, X.bo, (fun z => nomatch z), fun _ => ⟨true, X.bb, fun _ a ha => ?_, fun z => nomatch z⟩⟩⟩⟩⟩⟩
      exact ⟨_, rfl, rfl, rfl, d, _, _, rfl, hx, rfl, by show 2 ≤ 1000; decide, fun p hp np => q p _ (same_trans_new s' hp) (s'.free hp) np upd_same⟩
end
end P2
end Bf

namespace Bf
open PySem PySem.Spec PyProof.Rows L2

/-! ### the purse, for all laws -/
/-- at p: what is left of a cell, its rest, how many takings by the rest, at most n -/
def Purse (H : Hp) (p : Addr) (n : Int) : Prop := ∃ x y z : Int, H p = some (.lst [.int x, .int y, .int z]) ∧ 0 ≤ y ∧ y < 2147483629 ∧ 0 ≤ z ∧ z ≤ n
theorem Purse.mono {H : Hp} {p : Addr} {n m : Int} (h : Purse H p n) (l : n ≤ m) : Purse H p m := let ⟨x, y, z, a, b, c, d, e⟩ := h; ⟨x, y, z, a, b, c, d, Int.le_trans e l⟩
theorem Purse.of {H H' : Hp} {p : Addr} {n : Int} (h : Purse H p n) (e : H' p = H p) : Purse H' p n := let ⟨x, y, z, a, b⟩ := h; ⟨x, y, z, e.trans a, b⟩
/-- all that was tracked, but at p, is as it was -/
def SameX (p : Addr) (H H' : Hp) : Prop := ∀ b o, b ≠ p → H b = some o → H' b = some o
def spCell (K : PySem.W.Frag) : Sp := fun vs H Q _ => ∃ (a : Addr) (ns : List Int) (i : Int), vs = [.ref a, .int i] ∧ SqL K H a (ns.map V.int) ∧ 0 ≤ i ∧ i ≤ 100 ∧ ∀ z, Q (.int z) H
def spPurse : Sp := fun vs H Q _ => ∃ z : Int, vs = [.int z] ∧ ∀ p H', H p = none → p ≠ sysModules → (∀ b, b ≠ p → H' b = H b) → Purse H' p 0 → Q (.ref p) H'
def spTake : Sp := fun vs H Q _ => ∃ (p : Addr) (m n : Int), vs = [.ref p, .int m] ∧ Purse H p n ∧ n ≤ 100000 ∧ 0 < m ∧ m < 1000000 ∧ ∀ d H', 0 ≤ d → d < m → Purse H' p (n + 1) → (∀ b, b ≠ p → H' b = H b) → Q (.int d) H'

namespace P2
section
variable {P : Program} {w : World} {K : PySem.W.Frag} {mg : Str → Option Value} {base : Heap}
theorem scCell : FnScope ["_law_script", "_law_k"] ["_law_script", "_law_k"] (defScope sCell) := ⟨rfl, rfl, rfl, by decide +kernel, rfl, by decide +kernel, by decide +kernel⟩
theorem ok_cell {f : Addr} {fd : FuncData} (F : Fun K "_law_cell" "_law_cell" sCell f fd) (ml : mg "len" = none) : FnOk P w K mg base CX0 2 f fd ["_law_script", "_law_k"] (spCell K) := by
  refine F.ok scCell (fun vs H Q E h => ?_) (fun cdv A outer s H vs Q E hr h => ?_)
  · obtain ⟨a, ns, i, rfl, _⟩ := h
    rfl
  · obtain ⟨a, ns, i, rfl, hS, h0, h1, q⟩ := h
    refine ⟨_, pss_cons (ps_if (pt_cmpR op_lt (pv 1) (pe_callB call_len_seq (by rfl) ml PySem.boot_len (pa_cons (pv 0) pa_nil)) (nomark _)) (pss_one (ps_ret (pe_ix ix_list (pv 0) (pv 1) (fun _ _ => rfl)))) pss_nil)
      (pss_one (ps_ret (pe_op op_add (pe_op op_mul pe_int (pv 1)) pe_int))), ?_⟩
    refine ⟨_, rfl, _, rfl, a, _, rfl, .inl hS, _, _, rfl, rfl, _, rfl, ite2 (fun c => ?_) (fun c => ?_)⟩
    · have lt : i < (((ns.map V.int).length : Nat) : Int) := of_decide_eq_true c
      rw [List.length_map] at lt
      have lt' : i.toNat < ns.length := by omega
      refine ⟨_, rfl, _, rfl, a, _, i, .int ns[i.toNat], rfl, rfl, hS, ?_, q _⟩
      have e : atI (ns.map V.int) ((i.toNat : Nat) : Int) = some (V.int ns[i.toNat]) := atI_nat (by rw [List.getElem?_map, List.getElem?_eq_getElem lt']; rfl)
      rw [← e]
      congr 1
      omega
    · exact ⟨_, rfl, _, _, rfl, rfl, .inl ⟨by decide, by decide⟩, _, _, rfl, rfl, q _⟩
theorem scPurse : FnScope ["_law_cell_here"] ["_law_cell_here"] (defScope sPurse) := ⟨rfl, rfl, rfl, by decide +kernel, rfl, by decide +kernel, by decide +kernel⟩
theorem ok_purse {f : Addr} {fd : FuncData} (F : Fun K "_law_purse" "_law_purse" sPurse f fd) (mx : mg "max" = none) : FnOk P w K mg base CX0 2 f fd ["_law_cell_here"] spPurse := by
  refine F.ok scPurse (fun vs H Q E h => ?_) (fun cdv A outer s H vs Q E hr h => ?_)
  · obtain ⟨z, rfl, _⟩ := h
    rfl
  · obtain ⟨z, rfl, q⟩ := h
    refine ⟨_, pss_one (ps_ret (pe_lstN (pa_cons (pe_callB (call_max2 rfl) (by rfl) mx (by decide +kernel) (pa_cons pe_int (pa_cons (pe_op op_sub (pv 0) (pe_op op_pow pe_int pe_int)) pa_nil)))
      (pa_cons (pe_op op_mod (pv 0) pe_int) (pa_cons pe_int pa_nil))))), ?_⟩
    refine ⟨_, rfl, _, _, rfl, rfl, ⟨by decide, by decide, by decide⟩, _, _, rfl, rfl, _, _, rfl, _, rfl, _, _, rfl, rfl, (by show (0 : Int) < 2147483629; decide), by show 3 ≤ 1000; decide, fun p hp np => ?_⟩
    refine q p _ hp np (fun b hb => upd_ne hb) ⟨_, _, _, upd_same, Int.emod_nonneg _ (by decide), Int.emod_lt_of_pos _ (by decide), Int.le_refl _, Int.le_refl _⟩
theorem scTake : FnScope ["_law_purse_here", "_law_many", "_law_digit", "_law_one", "_law_other"] ["_law_purse_here", "_law_many"] (defScope sTake) := ⟨rfl, rfl, rfl, by decide +kernel, rfl, by decide +kernel, by decide +kernel⟩
theorem ok_take {f : Addr} {fd : FuncData} (F : Fun K "_law_take" "_law_take" sTake f fd) : FnOk P w K mg base CX0 2 f fd ["_law_purse_here", "_law_many"] spTake := by
  refine F.ok scTake (fun vs H Q E h => ?_) (fun cdv A outer s H vs Q E hr h => ?_)
  · obtain ⟨p, m, n, rfl, _⟩ := h
    rfl
  · obtain ⟨p, m, n, rfl, ⟨x, y, z, hp, y0, y1, z0, z1⟩, n1, m0, m1, q⟩ := h
    refine ⟨_, pss_cons (ps_if (pt_cmpR op_gt (pe_ix ix_list (pv 0) pe_int (fun _ _ => rfl)) pe_int (nomark _))
        (pss_cons (ps_set (i := 2) scTake.nd rfl (Or.inl rfl) (pe_op op_mod (pe_ix ix_list (pv 0) pe_int (fun _ _ => rfl)) (pv 1)))
        (pss_cons (ps_asg (pe_op op_fdiv (pe_ix ix_list (pv 0) pe_int (fun _ _ => rfl)) (pv 1)) (pg_sub (pv 0) pe_int set_list)) (pss_one (ps_ret (pv 2))))) pss_nil)
      (pss_cons (ps_asg (pe_op op_add (pe_ix ix_list (pv 0) pe_int (fun _ _ => rfl)) pe_int) (pg_sub (pv 0) pe_int set_list))
      (pss_cons (ps_set (i := 3) scTake.nd rfl (Or.inl rfl) (pe_op op_mod (pe_op op_pow (pe_op op_add (pe_op op_add (pe_ix ix_list (pv 0) pe_int (fun _ _ => rfl)) (pe_op op_mul pe_int (pe_ix ix_list (pv 0) pe_int (fun _ _ => rfl)))) pe_int) pe_int) pe_int))
      (pss_cons (ps_set (i := 4) scTake.nd rfl (Or.inl rfl) (pe_op op_mod (pe_op op_pow (pe_op op_add (pe_op op_mul (pe_ix ix_list (pv 0) pe_int (fun _ _ => rfl)) (pe_ix ix_list (pv 0) pe_int (fun _ _ => rfl))) pe_int) pe_int) pe_int))
      (pss_one (ps_ret (pe_op op_mod (pe_op op_fdiv (pe_op op_add (pe_op op_mul (pv 3) pe_int) (pv 4)) pe_int) (pv 1))))))), ?_⟩
    have L := SqL.of (K := K) hp
    refine ⟨_, rfl, p, _, 0, _, rfl, rfl, L, rfl, _, _, rfl, rfl, _, rfl, ite2 (fun _ => ?_) (fun _ => ?_)⟩
    · refine ⟨_, rfl, p, _, 0, _, rfl, rfl, L, rfl, _, rfl, _, _, rfl, rfl, m0, ?_⟩
      refine ⟨_, rfl, p, _, 0, _, rfl, rfl, L, rfl, _, rfl, _, _, rfl, rfl, ⟨m0, by omega⟩, _, rfl, p, _, 0, 0, rfl, rfl, hp, rfl, ?_⟩
      exact ⟨_, rfl, q _ _ (Int.emod_nonneg _ (by omega)) (Int.emod_lt_of_pos _ m0) ⟨_, _, _, upd_same, y0, y1, z0, by omega⟩ fun b hb => upd_ne hb⟩
    · refine ⟨_, rfl, p, _, 2, _, rfl, rfl, L, rfl, _, _, rfl, rfl, _, rfl, p, _, 2, 2, rfl, rfl, hp, rfl, ?_⟩
      have L2 : SqL K (upd H p (.lst [.int x, .int y, .int (z + 1)])) p [.int x, .int y, .int (z + 1)] := SqL.of upd_same
      have b1 : (y + 6007 * (z + 1) + 29).natAbs < 2 ^ 64 := by omega
      have b2 : (y * (z + 1) + 91193).natAbs < 2 ^ 64 := by
        have h1 : 0 ≤ y * (z + 1) := Int.mul_nonneg y0 (by omega)
        have h2 : y * (z + 1) ≤ 2147483629 * 100001 := Int.mul_le_mul (by omega) (by omega) (by omega) (by decide)
        omega
      refine ⟨_, rfl, p, _, 1, _, rfl, rfl, L2, rfl, _, rfl, p, _, 2, _, rfl, rfl, L2, rfl, _, _, rfl, rfl, .inl ⟨by decide, by decide⟩, _, _, rfl, rfl, _, _, rfl, rfl, _, _, rfl, rfl, ⟨by decide, by decide, b1⟩, _, _, rfl, rfl, (by show (0 : Int) < 2147483647; decide), ?_⟩
      refine ⟨_, rfl, p, _, 1, _, rfl, rfl, L2, rfl, _, rfl, p, _, 2, _, rfl, rfl, L2, rfl, _, _, rfl, rfl, .inl ⟨by omega, by omega⟩, _, _, rfl, rfl, _, _, rfl, rfl, ⟨by decide, by decide, b2⟩, _, _, rfl, rfl, (by show (0 : Int) < 2147483587; decide), ?_⟩
      refine ⟨_, rfl, _, _, rfl, rfl, .inr ⟨by decide, by decide⟩, _, rfl, _, _, rfl, rfl, _, _, rfl, rfl, ⟨by decide, by decide⟩, _, rfl, _, _, rfl, rfl, m0, ?_⟩
      exact q _ _ (Int.emod_nonneg _ (by omega)) (Int.emod_lt_of_pos _ m0) ⟨_, _, _, upd_same, y0, y1, by omega, by omega⟩ fun b hb => upd_ne hb
/-- _law_bits -/
def spBits : Sp := fun vs H Q _ => ∃ z k : Int, vs = [.int z, .int k] ∧ 0 ≤ z ∧ z ≤ 8 ∧ 0 ≤ k ∧ ∀ p H', Same H H' → H p = none → H' p = some (.lst (bitsV z k)) → Q (.ref p) H'
theorem scBits : FnScope ["_law_size", "_law_number", "_law_found", "_law_k"] ["_law_size", "_law_number"] (defScope sBits) := ⟨rfl, rfl, rfl, by decide +kernel, rfl, by decide +kernel, by decide +kernel⟩
theorem half_pow {k : Int} {i : Nat} : k / 2 ^ i / 2 = k / 2 ^ (i + 1) := by
  rw [Int.ediv_ediv_of_nonneg (Int.pow_nonneg (by decide)), Int.pow_succ]
theorem ok_bits {f : Addr} {fd : FuncData} (F : Fun K "_law_bits" "_law_bits" sBits f fd) (mr : mg "range" = none) : FnOk P w K mg base CX0 2 f fd ["_law_size", "_law_number"] spBits := by
  refine F.ok scBits (fun vs H Q E h => ?_) (fun cdv A outer s H vs Q E hr h => ?_)
  · obtain ⟨z, k, rfl, _⟩ := h
    rfl
  · obtain ⟨z, k, rfl, z0, z8, k0, q⟩ := h
    refine ⟨_, pss_cons (ps_set (i := 2) scBits.nd rfl (Or.inl rfl) (pe_lst pa_nil)) (pss_cons (ps_for PassesOwn.never rfl (pi_range1 rfl mr (pa_cons (pv 0) pa_nil)) (pg_name (i := 3) scBits.nd rfl (Or.inl rfl))
        (pss_cons (ps_expr (pe_bm PySem.F.plainAttrs_list PySem.F.slot_list_append PySem.F.type_list_append mt_append (pv 2) (pa_cons (pe_op op_mod (pv 1) pe_int) pa_nil)))
        (pss_one (ps_set (i := 1) scBits.nd rfl (Or.inl rfl) (pe_op op_fdiv (pv 1) pe_int)))))
      (pss_one (ps_ret (pv 2)))), ?_⟩
    refine ⟨Nat.zero_le _, fun l hl => ?_⟩
    refine ⟨_, rfl, z, rfl, by omega, by omega, for_range (lo := 0) (n := z.toNat) (fun i σ H' => (∃ u, σ = [some (.int z), some (.int (k / 2 ^ i)), some (.ref l), u]) ∧ Same H H' ∧ H' l = some (.lst ((List.range i).map fun i => V.int (k / 2 ^ i % 2))))
      ⟨⟨_, by rw [show k / 2 ^ 0 = k from by simp]; rfl⟩, same_new hl, upd_same⟩ (fun i σ H' hi pv => ?_) fun σ H' pv => ?_⟩
    · obtain ⟨⟨u, rfl⟩, s1, e1⟩ := pv
      refine ⟨_, rfl, .inl ⟨rfl, _, .inl (.inl e1)⟩, _, rfl, _, _, rfl, rfl, (by show (0 : Int) < 2; decide), l, _, _, rfl, rfl, e1, by rw [List.length_map, List.length_range]; exact small1000 (by omega), ?_⟩
      refine ⟨_, rfl, _, _, rfl, rfl, ⟨by decide, by decide⟩, ⟨_, by rw [← half_pow]; rfl⟩, fun b o e => ?_, ?_⟩
      · rw [upd_ne (ne_of_none e hl)]
        exact s1 _ _ e
      · rw [upd_same, List.range_succ, List.map_append]
        rfl
    · obtain ⟨⟨u, rfl⟩, s1, e1⟩ := pv
      exact ⟨_, rfl, q l H' s1 hl e1⟩
def spLTruth : Sp := fun vs H Q _ => ∃ i : Int, vs = [.int i] ∧ 0 ≤ i ∧ i ≤ 1 ∧ ∀ H', Same H H' → Q (.bl true) H'
theorem scLTruth : FnScope ["_law_thing"] ["_law_thing"] (defScope sLTruth) := ⟨rfl, rfl, rfl, by decide +kernel, rfl, by decide +kernel, by decide +kernel⟩
theorem ok_ltruth {f : Addr} {fd : FuncData} (F : Fun K "_law_is_truth" "_law_is_truth" sLTruth f fd) (mi : mg "isinstance" = none) (mt : mg "int" = none) (mb : mg "bool" = none) : FnOk P w K mg base CX0 2 f fd ["_law_thing"] spLTruth := by
  refine F.ok scLTruth (fun vs H Q E h => ?_) (fun cdv A outer s H vs Q E hr h => ?_)
  · obtain ⟨z, rfl, _⟩ := h
    rfl
  · obtain ⟨z, rfl, z0, z1, q⟩ := h
    refine ⟨_, pss_one (ps_ret (pe_and (pe_callB call_isi (by rfl) mi (by decide +kernel) (pa_cons (pv 0) (pa_cons (pe_bltn (v := .ty "int") (by rfl) mt (by decide +kernel) rfl) pa_nil)))
      (pe_and (pe_not (pe_callB call_isi (by rfl) mi (by decide +kernel) (pa_cons (pv 0) (pa_cons (pe_bltn (v := .ty "bool") (by rfl) mb (by decide +kernel) rfl) pa_nil))))
        (pe_one (pe_cmpR op_in_seq (pv 0) (pe_tup (pa_cons pe_int (pa_cons pe_int pa_nil))) (by rfl)))))), ?_⟩
    refine ⟨_, rfl, _, _, _, _, true, rfl, .ty "int", .base (.int z), kit_ty (by decide +kernel), _, rfl, iteT ?_⟩
    refine ⟨_, rfl, _, _, _, _, false, rfl, .ty "bool", .base (.int z), kit_ty (by decide +kernel), _, rfl, _, rfl, iteT ?_⟩
    refine ⟨_, rfl, by show 2 ≤ sizeLine; decide, fun T hT => ⟨T, _, rfl, .inr (SqT.of upd_same), rfl, rfl, ?_⟩⟩
    have e : inV (.int z) [.int 0, .int 1] = true := by
      have c : z = 0 ∨ z = 1 := by omega
      rcases c with rfl | rfl <;> decide
    show Q (.bl (inV (.int z) [.int 0, .int 1])) _
    rw [e]
    exact q _ (same_new hT)
end
end P2
end Bf

namespace Bf
open PySem PySem.Spec PyProof.Rows L2

/-! ### data that repr can show -/
structure OkD (n k : Nat) (d : PyData) : Prop where
  sw : d.showable = true
  dp : d.depth ≤ k
  ls : d.leavesShort 40 = true
  wt : d.weight ≤ n
theorem OkD.mono {n m k j : Nat} {d : PyData} (h : OkD n k d) (a : n ≤ m) (b : k ≤ j) : OkD m j d := ⟨h.sw, Nat.le_trans h.dp b, h.ls, Nat.le_trans h.wt a⟩
theorem OkD.shown {n k : Nat} {d : PyData} (h : OkD n k d) (hn : n ≤ 100000) : d.shown.length ≤ sizeLine := by
  have z := PyData.shown_le 40 (by decide) d h.ls
  have w := h.wt
  rw [sizeLine_eq]
  have : (40 + 2) * d.weight ≤ 42 * 100000 := Nat.mul_le_mul_left _ (Nat.le_trans w hn)
  omega
theorem okd_all {n k : Nat} : ∀ {ds : List PyData}, (∀ d ∈ ds, OkD n k d) → PyData.showableAll ds = true ∧ PyData.depthAll ds ≤ k ∧ PyData.leavesShortAll 40 ds = true ∧ PyData.weightAll ds ≤ (n + 1) * ds.length
  | [], _ => ⟨by simp only [PyData.showableAll], by simp only [PyData.depthAll]; omega, by simp only [PyData.leavesShortAll], by simp only [PyData.weightAll]; omega⟩
  | d :: ds, h => by
    obtain ⟨a1, a2, a3, a4⟩ := h d List.mem_cons_self
    obtain ⟨b1, b2, b3, b4⟩ := okd_all (ds := ds) fun x m => h x (List.mem_cons_of_mem _ m)
    simp only [PyData.showableAll, PyData.depthAll, PyData.leavesShortAll, PyData.weightAll, List.length_cons, a1, b1, a3, b3, Bool.and_self, Nat.mul_add, Nat.mul_one]
    refine ⟨trivial, Nat.max_le.mpr ⟨a2, b2⟩, trivial, ?_⟩
    omega
theorem okd_list {n k m : Nat} {ds : List PyData} (h : ∀ d ∈ ds, OkD n k d) (l : ds.length ≤ m) : OkD ((n + 1) * m) (k + 1) (.list ds) := by
  obtain ⟨a, b, c, e⟩ := okd_all h
  exact ⟨by simp only [PyData.showable]; exact a, by simp only [PyData.depth]; omega, by simp only [PyData.leavesShort]; exact c, by simp only [PyData.weight]; exact Nat.le_trans e (Nat.mul_le_mul_left _ l)⟩
theorem okd_tuple {n k m : Nat} {ds : List PyData} (h : ∀ d ∈ ds, OkD n k d) (l : ds.length ≤ m) : OkD ((n + 1) * m) (k + 1) (.tuple ds) := by
  obtain ⟨a, b, c, e⟩ := okd_all h
  exact ⟨by simp only [PyData.showable]; exact a, by simp only [PyData.depth]; omega, by simp only [PyData.leavesShort]; exact c, by simp only [PyData.weight]; exact Nat.le_trans e (Nat.mul_le_mul_left _ l)⟩
theorem okd_int {i : Int} (h : i.natAbs < 10 ^ 12) : OkD 60 0 (.int i) := by
  have l : i.natAbs.log2 ≤ 40 := by
    rcases Nat.eq_zero_or_pos i.natAbs with z | z
    · rw [z]; decide
    · exact Nat.le_of_lt_succ ((Nat.log2_lt (by omega)).mpr (Nat.lt_trans h (by decide)))
  refine ⟨by simp only [PyData.showable]; exact decide_eq_true (by omega), by simp only [PyData.depth]; omega, ?_, ?_⟩
  · simp only [PyData.leavesShort]
    exact decide_eq_true (Nat.le_trans (PyData.shown_int_le h) (by decide))
  · simp only [PyData.weight]
    split <;> omega
theorem okd_none : OkD 0 0 .none := ⟨by simp only [PyData.showable], by simp only [PyData.depth]; omega, by simp only [PyData.leavesShort], by simp only [PyData.weight]; omega⟩
theorem okd_bool (b : Bool) : OkD 0 0 (.bool b) := ⟨by simp only [PyData.showable], by simp only [PyData.depth]; omega, by simp only [PyData.leavesShort], by simp only [PyData.weight]; omega⟩
theorem okd_str {x : Str} (h : (x.cps.toList.all fun c => decide (c < 16 ^ 8)) = true) (n : x.cps.size ≤ 60) : OkD 60 0 (.str x) := ⟨by simp only [PyData.showable], by simp only [PyData.depth]; omega, by simp only [PyData.leavesShort]; exact h, by simp only [PyData.weight]; exact n⟩
theorem okd_emp : OkD 0 1 (.dict []) := by
  refine ⟨?_, ?_, ?_, ?_⟩
  · simp only [PyData.showable, PyData.showableKv]
  · simp only [PyData.depth, PyData.depthKv]; omega
  · simp only [PyData.leavesShort, PyData.leavesShortKv]
  · simp only [PyData.weight, PyData.weightKv]; omega

/-- the built-in type of data -/
def tyD : PyData → String
  | .none => "NoneType"
  | .bool _ => "bool"
  | .int _ => "int"
  | .str _ => "str"
  | .list _ => "list"
  | .tuple _ => "tuple"
  | .dict _ => "dict"
theorem Sh.kn {K : PySem.W.Frag} {H : Hp} {P : Addr → Prop} {b : Bool} {x : V} {d : PyData} (h : Sh H P b x d) : Kn K H x (tyD d) := by
  cases h with
  | non => exact .non
  | bl c => exact .bl c
  | int i => exact .int i
  | str z => exact .str z
  | lst h p _ r => exact .lst (.base (.lst h))
  | tup h p r => exact .tup (.base (.tup h))
  | emp _ h p => exact .dic (.base (.dK h))
theorem ShAll.kn {K : PySem.W.Frag} {H : Hp} {P : Addr → Prop} {b : Bool} : ∀ {xs : List V} {ds : List PyData}, ShAll H P b xs ds → ∀ y ∈ xs, ∃ m, Kn K H y m
  | _, _, .nil, _, m => nomatch m
  | _, _, .cons h r, y, m => (List.mem_cons.mp m).elim (fun e => ⟨_, e ▸ h.kn⟩) (ShAll.kn r y)
mutual
/-- carried on: P may be sharpened by what is tracked -/
theorem Sh.on {H H' : Hp} {P P' : Addr → Prop} {b : Bool} (hp : ∀ a o, P a → H a = some o → P' a) (k : ∀ a o, P a → H a = some o → H' a = some o) : ∀ (d : PyData) (v : V), Sh H P b v d → Sh H' P' b v d
  | .none, _, h => by cases h; exact .non
  | .bool _, _, h => by cases h; exact .bl _
  | .int _, _, h => by cases h; exact .int _
  | .str _, _, h => by cases h; exact .str _
  | .list ds, _, h => by
    cases h with
    | lst h p q r => exact .lst (k _ _ p h) (hp _ _ p h) q (ShAll.on hp k ds _ r)
  | .tuple ds, _, h => by
    cases h with
    | tup h p r => exact .tup (k _ _ p h) (hp _ _ p h) (ShAll.on hp k ds _ r)
  | .dict _, _, h => by
    cases h with
    | emp q h p => exact .emp q (k _ _ p h) (hp _ _ p h)
theorem ShAll.on {H H' : Hp} {P P' : Addr → Prop} {b : Bool} (hp : ∀ a o, P a → H a = some o → P' a) (k : ∀ a o, P a → H a = some o → H' a = some o) : ∀ (ds : List PyData) (vs : List V), ShAll H P b vs ds → ShAll H' P' b vs ds
  | [], _, h => by cases h; exact .nil
  | d :: ds, _, h => by
    cases h with
    | cons h r => exact .cons (Sh.on hp k d _ h) (ShAll.on hp k ds _ r)
end
theorem ShAll.snoc {H : Hp} {P : Addr → Prop} {b : Bool} {v : V} {d : PyData} : ∀ {vs : List V} {ds : List PyData}, ShAll H P b vs ds → Sh H P b v d → ShAll H P b (vs ++ [v]) (ds ++ [d])
  | _, _, .nil, h => .cons h .nil
  | _, _, .cons h r, h2 => .cons h (ShAll.snoc r h2)
theorem ShAll.len {H : Hp} {P : Addr → Prop} {b : Bool} : ∀ {vs : List V} {ds : List PyData}, ShAll H P b vs ds → vs.length = ds.length
  | _, _, .nil => rfl
  | _, _, .cons _ r => congrArg (· + 1) (ShAll.len r)
theorem ShAll.ints {H : Hp} {P : Addr → Prop} {b : Bool} : ∀ (ns : List Int), ShAll H P b (ns.map V.int) (ns.map PyData.int)
  | [] => .nil
  | n :: r => .cons (.int n) (ShAll.ints r)
theorem ShAll.put {H : Hp} {P : Addr → Prop} {b : Bool} {v : V} {d : PyData} (h2 : Sh H P b v d) : ∀ {vs : List V} {ds : List PyData} (i : Nat), ShAll H P b vs ds → ShAll H P b (vs.set i v) (ds.set i d)
  | _, _, _, .nil => .nil
  | _, _, 0, .cons _ r => .cons h2 r
  | _, _, i + 1, .cons h r => .cons h (ShAll.put h2 i r)
end Bf

namespace Bf
open PySem PySem.Spec PyProof.Rows L2

/-- all but at p is as it was -/
abbrev Kp (P : Addr → Prop) (H H' : Hp) : Prop := ∀ a o, P a → H a = some o → H' a = some o
def LstOk (H : Hp) (P : Addr → Prop) (b : Bool) (z : V) (d : PyData) : Prop := tyD d ≠ "list" ∨
  ∃ (a : Addr) (ys : List V) (ds : List PyData), z = .ref a ∧ d = .list ds ∧ H a = some (.lst ys) ∧ P a ∧ ys.length ≤ 100 ∧ ShAll H (fun q => P q ∧ q ≠ a) b ys ds ∧ ∀ e ∈ ds, OkD 200 3 e
theorem LstOk.on {H H' : Hp} {P P' : Addr → Prop} {b : Bool} {z : V} {d : PyData} (hp : ∀ a o, P a → H a = some o → P' a) (k : Kp P H H') (h : LstOk H P b z d) : LstOk H' P' b z d := by
  rcases h with h | ⟨a, ys, ds, e1, e2, e3, pa, l, s, o⟩
  · exact .inl h
  · exact .inr ⟨a, ys, ds, e1, e2, k _ _ pa e3, hp _ _ pa e3, l, ShAll.on (fun c o q h => ⟨hp c o q.1 h, q.2⟩) (fun c o q h => k c o q.1 h) ds ys s, o⟩
/-- a thing that a law has made -/
structure Thing (H : Hp) (P : Addr → Prop) (b : Bool) (v : V) (d : PyData) : Prop where
  sh : Sh H P b v d
  ok : OkD 10000 5 d
  ls : LstOk H P b v d
theorem Thing.on {H H' : Hp} {P P' : Addr → Prop} {b : Bool} {v : V} {d : PyData} (hp : ∀ a o, P a → H a = some o → P' a) (k : Kp P H H') (h : Thing H P b v d) : Thing H' P' b v d := ⟨Sh.on hp k d v h.sh, h.ok, LstOk.on hp k h.ls⟩
theorem Thing.non {H : Hp} {P : Addr → Prop} {b : Bool} : Thing H P b .non .none := ⟨.non, okd_none.mono (by decide) (by decide), .inl (by simp [tyD])⟩
theorem Thing.bl {H : Hp} {P : Addr → Prop} {b : Bool} (c : Bool) : Thing H P b (.bl c) (.bool c) := ⟨.bl c, (okd_bool c).mono (by decide) (by decide), .inl (by simp [tyD])⟩
theorem Thing.int {H : Hp} {P : Addr → Prop} {b : Bool} {i : Int} (h : i.natAbs < 10 ^ 12) : Thing H P b (.int i) (.int i) := ⟨.int i, (okd_int h).mono (by decide) (by decide), .inl (by simp [tyD])⟩
theorem okd_big : OkD 100 0 (.int (10 ^ 29)) := ⟨by decide +kernel, by decide +kernel, by decide +kernel, by decide +kernel⟩
theorem Thing.big {H : Hp} {P : Addr → Prop} {b : Bool} : Thing H P b (.int (10 ^ 29)) (.int (10 ^ 29)) := ⟨.int _, okd_big.mono (by decide) (by decide), .inl (by simp [tyD])⟩
theorem Thing.str {H : Hp} {P : Addr → Prop} {b : Bool} {x : Str} (h : (x.cps.toList.all fun c => decide (c < 16 ^ 8)) = true) (n : x.cps.size ≤ 60) : Thing H P b (.str x) (.str x) := ⟨.str x, (okd_str h n).mono (by decide) (by decide), .inl (by simp [tyD])⟩
theorem Thing.emp {H : Hp} {P : Addr → Prop} {a : Addr} (h : H a = some (.dK [])) (p : P a) : Thing H P true (.ref a) (.dict []) := ⟨.emp rfl h p, okd_emp.mono (by decide) (by decide), .inl (by simp [tyD])⟩
theorem Thing.tup1 {H : Hp} {P : Addr → Prop} {b : Bool} {a : Addr} {i : Int} (h : H a = some (.tup [.int i])) (p : P a) (hi : i.natAbs < 10 ^ 12) : Thing H P b (.ref a) (.tuple [.int i]) :=
  ⟨.tup h p (.cons (.int i) .nil), (okd_tuple (n := 60) (k := 0) (m := 1) (fun d m => by rw [List.mem_singleton.mp m]; exact okd_int hi) (by simp)).mono (by decide) (by decide), .inl (by simp [tyD])⟩
theorem Thing.ints {H : Hp} {P : Addr → Prop} {b : Bool} {a : Addr} {is : List Int} (h : H a = some (.lst (is.map V.int))) (p : P a) (q : b = true → a ≠ sysModules) (hl : is.length ≤ 50) (hi : ∀ i ∈ is, i.natAbs < 10 ^ 12) :
    Thing H P b (.ref a) (.list (is.map PyData.int)) :=
  ⟨.lst h p q (ShAll.ints is), (okd_list (n := 60) (k := 0) (m := 50) (fun d m => by obtain ⟨i, mi, rfl⟩ := List.mem_map.mp m; exact okd_int (hi i mi)) (by rw [List.length_map]; exact hl)).mono (by decide) (by decide),
    .inr ⟨a, _, _, rfl, rfl, h, p, by rw [List.length_map]; omega, ShAll.ints is, fun d m => by obtain ⟨i, mi, rfl⟩ := List.mem_map.mp m; exact (okd_int (hi i mi)).mono (by decide) (by decide)⟩⟩

namespace P2
/-- what is due, of things that are shown -/
inductive DueS (H : Hp) (P : Addr → Prop) (b : Bool) : Int → V → V → Str → V → Prop
  | wd {x y : V} {dx dy : PyData} (hx : Sh H P b x dx) (hy : Sh H P b y dy) (e : wholeB x 1 8 = false) : DueS H P b 0 x y "width" x
  | wo {z : Int} {y : V} {dy : PyData} (z1 : 1 ≤ z) (z8 : z ≤ 8) (hy : Sh H P b y dy) (e : wholeB y 0 (topW z) = false) : DueS H P b 0 (.int z) y "worth" y
  | nl {x y : V} {dx : PyData} (hx : Sh H P b x dx) (e : listy (tyD dx) = false) : DueS H P b 1 x y "bits" x
  | bl {a : Addr} {y : V} {xs : List V} {ds : List PyData} (h : H a = some (.lst xs)) (p : P a) (hz : xs.length ≤ 1000) (hs : ShAll H P b xs ds) (fate : Fate xs none) : DueS H P b 1 (.ref a) y "bits" (.ref a)
theorem DueS.due {K : PySem.W.Frag} {H : Hp} {P : Addr → Prop} {b : Bool} {way : Int} {x y z : V} {k : Str} (h : DueS H P b way x y k z) : Due K H way x y k z := by
  cases h with
  | wd hx hy e => exact .wd hx.kn hy.kn e
  | wo z1 z8 hy e => exact .wo z1 z8 hy.kn e
  | nl hx e => exact .nl hx.kn e
  | bl h p hz hs fate => exact .bl (k := true) (.lst (.base (.lst h))) (by decide) (SqL.of h) hz (ShAll.kn hs) fate
theorem DueS.on {H H' : Hp} {P P' : Addr → Prop} {b : Bool} {way : Int} {x y z : V} {c : Str} (hp : ∀ a o, P a → H a = some o → P' a) (k : Kp P H H') (h : DueS H P b way x y c z) : DueS H' P' b way x y c z := by
  cases h with
  | wd hx hy e => exact .wd (Sh.on hp k _ _ hx) (Sh.on hp k _ _ hy) e
  | wo z1 z8 hy e => exact .wo z1 z8 (Sh.on hp k _ _ hy) e
  | nl hx e => exact .nl (Sh.on hp k _ _ hx) e
  | bl h p hz hs fate => exact .bl (k _ _ p h) (hp _ _ p h) hz (ShAll.on hp k _ _ hs) fate
theorem DueS.kind {H : Hp} {P : Addr → Prop} {b : Bool} {way : Int} {x y z : V} {c : Str} (h : DueS H P b way x y c z) : OkD 60 0 (.str c) := by
  cases h <;> exact okd_str (by decide +kernel) (by decide +kernel)
/-- a row of the list that is gone through -/
def RowOk (H : Hp) (P : Addr → Prop) (b : Bool) (v : V) : Prop := ∃ (t due : Addr) (way : Int) (x y z : V) (kind : Str) (d : PyData), v = .ref t ∧ H t = some (.tup [.int way, x, y, .ref due]) ∧ H due = some (.lst [.str kind, z]) ∧
  P t ∧ P due ∧ (b = true → due ≠ sysModules) ∧ DueS H P b way x y kind z ∧ Thing H P b z d
theorem RowOk.on {H H' : Hp} {P P' : Addr → Prop} {b : Bool} {v : V} (hp : ∀ a o, P a → H a = some o → P' a) (k : Kp P H H') (h : RowOk H P b v) : RowOk H' P' b v := by
  obtain ⟨t, due, way, x, y, z, kind, d, e, h1, h2, p1, p2, q, ds, th⟩ := h
  exact ⟨t, due, way, x, y, z, kind, d, e, k _ _ p1 h1, k _ _ p2 h2, hp _ _ p1 h1, hp _ _ p2 h2, q, DueS.on hp k ds, Thing.on hp k th⟩
/-- the list [kind, z] as repr shows it -/
theorem pair_sh {H : Hp} {P : Addr → Prop} {b : Bool} {a : Addr} {kind : Str} {z : V} {d : PyData} (h : H a = some (.lst [.str kind, z])) (p : P a) (q : b = true → a ≠ sysModules) (s : Sh H P b z d) : Sh H P b (.ref a) (.list [.str kind, d]) :=
  .lst h p q (.cons (.str kind) (.cons s .nil))
theorem pair_ok {kind : Str} {d : PyData} (h1 : OkD 60 0 (.str kind)) (h2 : OkD 10000 5 d) : OkD 20002 6 (.list [.str kind, d]) :=
  okd_list (n := 10000) (k := 5) (m := 2) (fun e m => by
    rcases List.mem_cons.mp m with rfl | m
    · exact h1.mono (by decide) (by decide)
    · rw [List.mem_singleton.mp m]; exact h2) (by simp)
end P2
end Bf

namespace Bf
open PySem PySem.Spec PyProof.Rows L2
namespace P2
section
variable {P : Program} {w : World} {K : PySem.W.Frag} {mg : Str → Option Value} {base : Heap}
def spRef : Sp := fun vs H Q _ => ∃ (p : Addr) (z n : Int), vs = [.ref p, .int z] ∧ 1 ≤ z ∧ z ≤ 8 ∧ Purse H p n ∧ n ≤ 50000 ∧ ∀ H', Kp (· ≠ p) H H' → Purse H' p (n + 100) → Q (.bl true) H'
abbrev nRef : List Str := ["_law_purse_here", "_law_size", "_law_top", "_law_odd", "_law_far", "_law_rows", "_law_row", "_law_k", "_law_at", "_law_none", "_law_way", "_law_one", "_law_other", "_law_due", "_law_kept", "_law_found"]
theorem scRef : FnScope nRef ["_law_purse_here", "_law_size"] (defScope sRef) := ⟨rfl, rfl, rfl, by decide +kernel, rfl, by decide +kernel, by decide +kernel⟩
theorem kit_list : ∀ d : PyData, kitB (tyD d) "list" = some (tyD d == "list")
  | .none => by decide +kernel
  | .bool _ => by show kitB "bool" "list" = some ("bool" == "list"); decide +kernel
  | .int _ => by show kitB "int" "list" = some ("int" == "list"); decide +kernel
  | .str _ => by show kitB "str" "list" = some ("str" == "list"); decide +kernel
  | .list _ => by show kitB "list" "list" = some ("list" == "list"); decide +kernel
  | .tuple _ => by show kitB "tuple" "list" = some ("tuple" == "list"); decide +kernel
  | .dict _ => by show kitB "dict" "list" = some ("dict" == "list"); decide +kernel
theorem sh_not {H : Hp} {P : Addr → Prop} {b : Bool} {a : Addr} {d : PyData} (h : Sh H (fun q => P q ∧ q ≠ a) b (.ref a) d) : False := by
  cases h with
  | lst _ p _ _ => exact p.2 rfl
  | tup _ p _ => exact p.2 rfl
  | emp _ _ p => exact p.2 rfl
abbrev xRef (P : Program) (w : World) (K : PySem.W.Frag) (mg : Str → Option Value) (base : Heap) (f : Addr) (cdv : Value) (A : Around) (outer : List Env) (s : Shared) (H : Hp) (E : XK) : Cx := cxOf CX0 P w K mg base nRef "_law_refused_right" (defScope sRef) f cdv A outer s H E
/-- the loop over the rows, and the end -/
theorem ref_loop {f fa : Addr} {fda : FuncData} (DA : Df K mg "_law_asked" fa fda ["_law_way", "_law_one", "_law_other"]) (GA : FnOk P w K mg base CX0 6 fa fda ["_law_way", "_law_one", "_law_other"] (spAsked K))
    (mp : mg "repr" = none) (mi : mg "isinstance" = none) (mL : mg "list" = none) {cdv : Value} {A : Around} {outer : List Env} {s : Shared} {H0 : Hp} {E : XK} (hA : A.guards = some [])
    (hr : Room 6 (A.deeper (envOfC "_law_refused_right" (defScope sRef) s.heap.objs.size f cdv))) :
    ∃ t, PSs (xRef P w K mg base f cdv A outer s H0 E) ((defBody sRef).drop 9) t ∧ ∀ (D : Ends) (σ : L2.St) (HL : Hp) (R : Addr) (rows : List V) (u0 u1 u2 u3 u4 u6 u7 u8 u9 u10 u11 u12 u13 u14 u15 : Option V),
      σ = [u0, u1, u2, u3, u4, some (.ref R), u6, u7, u8, u9, u10, u11, u12, u13, u14, u15] → HL R = some (.lst rows) → (∀ v ∈ rows, ∃ b, RowOk HL (fun _ => True) b v) → (∀ H', Same HL H' → D.rt (.bl true) H') → t D σ HL := by
  have hA' : (A.deeper (envOfC "_law_refused_right" (defScope sRef) s.heap.objs.size f cdv)).guards = some [] := hA
  refine ⟨_, pss_cons (ps_for (PassesOwn.leaving) rfl (pi_list (pv 5)) (pg_tup rfl (pgs_cons (pg_name (i := 10) scRef.nd rfl (Or.inl rfl)) (pgs_cons (pg_name (i := 11) scRef.nd rfl (Or.inl rfl)) (pgs_cons (pg_name (i := 12) scRef.nd rfl (Or.inl rfl)) (pgs_cons (pg_name (i := 13) scRef.nd rfl (Or.inl rfl)) pgs_nil)))))
        (pss_cons (ps_set (i := 14) scRef.nd rfl (Or.inl rfl) (pe_callB (call_repr hA' hr.units) (by rfl) mp (by decide +kernel) (pa_cons (pv 13) pa_nil)))
        (pss_cons (ps_set (i := 15) scRef.nd rfl (Or.inl rfl) (pe_call GA hr (by rfl) DA.at_ DA.kp DA.bd .nil pass0 (pa_cons (pv 10) (pa_cons (pv 11) (pa_cons (pv 12) pa_nil)))))
        (pss_cons (ps_if (pt_cmpR op_ne (pe_callB (call_repr hA' hr.units) (by rfl) mp (by decide +kernel) (pa_cons (pv 15) pa_nil)) (pv 14) (nomark _)) (pss_one (ps_ret pe_bl)) pss_nil)
        (pss_one (ps_if (pt_val (pe_callB call_isi (by rfl) mi (by decide +kernel) (pa_cons (pe_ix ix_list (pv 13) pe_int (fun _ _ => rfl)) (pa_cons (pe_bltn (v := .ty "list") (by rfl) mL (by decide +kernel) rfl) pa_nil))))
          (pss_cons (ps_expr (pe_bm PySem.F.plainAttrs_list PySem.F.slot_list_append PySem.F.type_list_append mt_append (pe_ix ix_list (pv 13) pe_int (fun _ _ => rfl)) (pa_cons pe_int pa_nil)))
          (pss_cons (ps_if (pt_cmpR op_ne (pe_callB (call_repr hA' hr.units) (by rfl) mp (by decide +kernel) (pa_cons (pe_ix ix_list (pv 15) pe_int (fun _ _ => rfl)) pa_nil))
              (pe_callB (call_repr hA' hr.units) (by rfl) mp (by decide +kernel) (pa_cons (pe_ix ix_list (pv 13) pe_int (fun _ _ => rfl)) pa_nil)) (nomark _)) (pss_one (ps_ret pe_bl)) pss_nil)
          (pss_one (ps_expr (pe_bm0 PySem.F.plainAttrs_list PySem.F.slot_list_pop PySem.F.type_list_pop mt_pop (pe_ix ix_list (pv 13) pe_int (fun _ _ => rfl))))))) pss_nil))))))
      (pss_one (ps_ret pe_bl)), ?_⟩
  intro D σ HL R rows u0 u1 u2 u3 u4 u6 u7 u8 u9 u10 u11 u12 u13 u14 u15 eσ hR hrows fin
  subst eσ
  refine ⟨_, rfl, R, rfl, ⟨_, SqL.of hR⟩, for_list (K := K) (a := R) (xs := rows) (fun i σ H' => (∃ v10 v11 v12 v13 v14 v15, σ = [u0, u1, u2, u3, u4, some (.ref R), u6, u7, u8, u9, v10, v11, v12, v13, v14, v15]) ∧ Same HL H')
    ⟨⟨_, _, _, _, _, _, rfl⟩, Same.refl _⟩ (fun i σ H' _ pv => SqL.of (pv.2 _ _ hR)) (fun i v σ H1 hy pv => ?_) fun σ H1 pv => fin H1 pv.2⟩
  obtain ⟨⟨v10, v11, v12, v13, v14, v15, rfl⟩, s1⟩ := pv
  obtain ⟨b, ro⟩ := hrows v (List.mem_of_getElem? hy)
  obtain ⟨t, due, way, x, y, z, kind, d, rfl, ht, hdue, -, -, nd, ds, th⟩ := RowOk.on (H' := H1) (P' := fun _ => True) (fun _ _ _ _ => trivial) (fun a o _ h => s1 a o h) ro
  have pok := pair_ok ds.kind th.ok
  refine ⟨t, _, rfl, SqT.of ht, rfl, _, _, rfl, _, _, rfl, _, _, rfl, _, _, rfl, rfl, ?_⟩
  refine ⟨_, rfl, .ref due, _, b, _, rfl, pair_sh hdue trivial nd th.sh, pok.sw, Nat.le_trans pok.dp (by decide), pok.shown (by decide), ?_⟩
  refine ⟨_, rfl, _, rfl, _, rfl, way, x, y, z, kind, rfl, ds.due, fun q H2 s2 hq nq hf => ?_⟩
  have th2 := Thing.on (H' := H2) (P' := fun _ => True) (fun _ _ _ _ => trivial) (fun a o _ h => s2 a o h) th
  have hdue2 := s2 _ _ hdue
  refine ⟨_, rfl, .ref q, _, b, _, rfl, pair_sh hf trivial (fun _ => nq) th2.sh, pok.sw, Nat.le_trans pok.dp (by decide), pok.shown (by decide), _, rfl, rfl, _, rfl, iteNS rfl ?_⟩
  refine ⟨_, rfl, due, _, 1, _, rfl, rfl, SqL.of hdue2, rfl, z, .ty "list", _, _, _, rfl, .ty "list", (th2.sh.kn (K := K)).ty, kit_ty (kit_list d), _, rfl, ?_⟩
  rcases th2.ls with no | ⟨a, ys, es, rfl, rfl, ha, -, la, sa, oa⟩
  · have e : (tyD d == "list") = false := beq_eq_false_iff_ne.mpr no
    rw [e]
    exact iteF ⟨⟨_, _, _, _, _, _, rfl⟩, s1.trans s2⟩
  · refine iteT ?_
    have nqa : q ≠ a := fun e => by
      rcases th.ls with no | ⟨a', ys', es', e1, e2, h', _⟩
      · exact no rfl
      · cases e1
        rw [e, h'] at hq
        cases hq
    have nda : due ≠ a := fun e => by
      rw [e, ha] at hdue2
      cases hdue2
      cases sa with
      | cons _ r =>
        cases r with
        | cons h _ => exact sh_not h
    refine ⟨_, rfl, due, _, 1, _, rfl, rfl, SqL.of hdue2, rfl, .inl ⟨rfl, _, SqL.of ha⟩, a, _, _, rfl, rfl, ha, small1000 (Nat.le_trans la (by decide)), ?_⟩
    have hf3 : upd H2 a (.lst (ys ++ [.int 7])) q = some (.lst [.str kind, .ref a]) := by rw [upd_ne nqa]; exact hf
    have hd3 : upd H2 a (.lst (ys ++ [.int 7])) due = some (.lst [.str kind, .ref a]) := by rw [upd_ne nda]; exact hdue2
    have qa : b = true → a ≠ sysModules := by
      cases th2.sh with
      | lst _ _ q _ => exact q
    have s3 : Sh (upd H2 a (.lst (ys ++ [.int 7]))) (fun _ => True) b (.ref a) (.list (es ++ [.int 7])) :=
      .lst upd_same trivial qa (ShAll.snoc (ShAll.on (fun _ _ _ _ => trivial) (fun c o p h => by rw [upd_ne p.2]; exact h) es ys sa) (.int 7))
    have o3 : OkD 20301 4 (.list (es ++ [.int 7])) := okd_list (n := 200) (k := 3) (m := 101) (fun e m => by
      rcases List.mem_append.mp m with m | m
      · exact oa e m
      · rw [List.mem_singleton.mp m]; exact (okd_int (by decide)).mono (by decide) (by decide)) (by rw [List.length_append, ← sa.len]; simp; omega)
    refine ⟨_, rfl, q, _, 1, _, rfl, rfl, SqL.of hf3, rfl, .ref a, _, b, _, rfl, s3, o3.sw, Nat.le_trans o3.dp (by decide), o3.shown (by decide), ?_⟩
    refine ⟨_, rfl, due, _, 1, _, rfl, rfl, SqL.of hd3, rfl, .ref a, _, b, _, rfl, s3, o3.sw, Nat.le_trans o3.dp (by decide), o3.shown (by decide), rfl, _, rfl, iteNS rfl ?_⟩
    refine ⟨_, rfl, due, _, 1, _, rfl, rfl, SqL.of hd3, rfl, .inl ⟨rfl, _, SqL.of upd_same⟩, a, _, .int 7, rfl, rfl, upd_same, by simp, ⟨_, _, _, _, _, _, rfl⟩, fun c o h => ?_⟩
    have h2 := s2 _ _ (s1 _ _ h)
    by_cases hc : c = a
    · subst hc
      rw [upd_same, List.dropLast_concat]
      rw [ha] at h2
      exact h2
    · rw [upd_ne hc, upd_ne hc]
      exact h2
end
end P2
end Bf

namespace Bf
open PySem PySem.Spec PyProof.Rows L2
theorem new_ne {H : Hp} {a b : Addr} {o : HO} (h : upd H a o b = none) : b ≠ a ∧ H b = none := by
  have ne : b ≠ a := fun e => by
    rw [e, upd_same] at h
    cases h
  rw [upd_ne ne] at h
  exact ⟨ne, h⟩
theorem ne_free {H : Hp} {a b : Addr} {o : HO} (h : H a = some o) (n : H b = none) : b ≠ a := fun e => by
  rw [e, h] at n
  cases n
theorem kp_new {P : Addr → Prop} {H : Hp} {q : Addr} {o : HO} (h : H q = none) : Kp P H (upd H q o) := fun a u _ e => by
  rw [upd_ne (ne_of_none e h)]
  exact e
theorem kp_take {H H' : Hp} {p : Addr} (eq : ∀ b, b ≠ p → H' b = H b) : Kp (· ≠ p) H H' := fun a o n h => (eq a n).trans h
theorem pick {xs : List V} {d : Int} (d0 : 0 ≤ d) (d1 : d < (xs.length : Nat)) : ∃ v, v ∈ xs ∧ atI xs d = some v := by
  have lt : d.toNat < xs.length := by omega
  exact ⟨xs[d.toNat], List.getElem_mem lt, at_of (by omega) (List.getElem?_eq_getElem lt)⟩
namespace P2
section
variable {P : Program} {w : World} {K : PySem.W.Frag} {mg : Str → Option Value} {base : Heap}
/-- the rows of drawn bits and of what is no list -/
theorem ref_mid {f ft fa : Addr} {fdt fda : FuncData} (DT : Df K mg "_law_take" ft fdt ["_law_purse_here", "_law_many"]) (GT : FnOk P w K mg base CX0 2 ft fdt ["_law_purse_here", "_law_many"] spTake)
    (DA : Df K mg "_law_asked" fa fda ["_law_way", "_law_one", "_law_other"]) (GA : FnOk P w K mg base CX0 6 fa fda ["_law_way", "_law_one", "_law_other"] (spAsked K))
    (mp : mg "repr" = none) (mi : mg "isinstance" = none) (mL : mg "list" = none) {cdv : Value} {A : Around} {outer : List Env} {s : Shared} {H0 : Hp} {E : XK} (hA : A.guards = some [])
    (hr : Room 6 (A.deeper (envOfC "_law_refused_right" (defScope sRef) s.heap.objs.size f cdv))) :
    ∃ t, PSs (xRef P w K mg base f cdv A outer s H0 E) ((defBody sRef).drop 6) t ∧ ∀ (D : Ends) (σ : L2.St) (H7 : Hp) (p R B : Addr) (n : Int) (ys : List V) (ds : List PyData) (r1 r2 r3 : V) (u1 u2 u3 u4 u7 u8 u9 u10 u11 u12 u13 u14 u15 : Option V),
      σ = [some (.ref p), u1, u2, u3, u4, some (.ref R), some (.ref B), u7, u8, u9, u10, u11, u12, u13, u14, u15] → Purse H7 p n → n ≤ 90000 → R ≠ p → H7 R = some (.lst [r1, r2, r3]) → (∀ r ∈ [r1, r2, r3], RowOk H7 (fun a => a ≠ p ∧ a ≠ R) true r) →
      H7 B = some (.lst ys) → B ≠ p → B ≠ R → ys.length ≤ 9 → ShAll H7 (fun a => (a ≠ p ∧ a ≠ R) ∧ a ≠ B) false ys ds → (∀ e ∈ ds, OkD 200 3 e) → Fate ys none →
      (∀ H', Kp (fun a => a ≠ p ∧ a ≠ R) H7 H' → Purse H' p (n + 1) → D.rt (.bl true) H') → t D σ H7 := by
  obtain ⟨tl, hl, loop⟩ := ref_loop (outer := outer) (H0 := H0) (E := E) DA GA mp mi mL hA hr
  have hr1 := hr.mono (by decide : 2 ≤ 6)
  refine ⟨_, pss_cons (ps_expr (pe_bm PySem.F.plainAttrs_list PySem.F.slot_list_append PySem.F.type_list_append mt_append (pv 5) (pa_cons (pe_tup (pa_cons pe_int (pa_cons (pv 6) (pa_cons pe_non (pa_cons (pe_lstN (pa_cons pe_str (pa_cons (pv 6) pa_nil))) pa_nil))))) pa_nil)))
      (pss_cons (ps_set (i := 9) scRef.nd rfl (Or.inl rfl) (pe_ix ix_list (pe_lstN (pa_cons pe_non (pa_cons pe_int (pa_cons pe_str (pa_cons pe_dnewK (pa_cons pe_bl pa_nil))))))
            (pe_call GT hr1 (by rfl) DT.at_ DT.kp DT.bd .nil pass0 (pa_cons (pv 0) (pa_cons pe_int pa_nil))) (fun _ _ => rfl)))
      (pss_cons (ps_expr (pe_bm PySem.F.plainAttrs_list PySem.F.slot_list_append PySem.F.type_list_append mt_append (pv 5) (pa_cons (pe_tup (pa_cons pe_int (pa_cons (pv 9) (pa_cons pe_non (pa_cons (pe_lstN (pa_cons pe_str (pa_cons (pv 9) pa_nil))) pa_nil))))) pa_nil)))
      hl)), ?_⟩
  intro D σ H7 p R B n ys ds r1 r2 r3 u1 u2 u3 u4 u7 u8 u9 u10 u11 u12 u13 u14 u15 eσ pu hn nRp hR hrows hB nBp nBR hy9 sy oy fate fin
  subst eσ
  obtain ⟨px, py, pz, hp, _⟩ := id pu
  refine ⟨_, rfl, .inl ⟨rfl, _, SqL.of hR⟩, _, rfl, _, rfl, by show 2 ≤ 1000; decide, fun d4 h4 n4 => ⟨by show 4 ≤ sizeLine; decide, fun t4 h4' => ?_⟩⟩
  obtain ⟨nt4d, ht4⟩ := new_ne h4'
  have nd4R := ne_free hR h4
  have nt4R := ne_free hR ht4
  have nd4p := ne_free hp h4
  have nt4p := ne_free hp ht4
  have hRa : upd (upd H7 d4 (.lst [.str "bits", .ref B])) t4 (.tup [.int 1, .ref B, .non, .ref d4]) R = some (.lst [r1, r2, r3]) := by rw [upd_ne nt4R.symm, upd_ne nd4R.symm]; exact hR
  refine ⟨R, _, _, rfl, rfl, hRa, by show 3 < sizeLine; decide, ?_⟩
  -- the heap behind it
  obtain ⟨H8, e8⟩ : ∃ H8, H8 = upd (upd (upd H7 d4 (.lst [.str "bits", .ref B])) t4 (.tup [.int 1, .ref B, .non, .ref d4])) R (.lst ([r1, r2, r3] ++ [.ref t4])) := ⟨_, rfl⟩
  have k78 : Kp (· ≠ R) H7 H8 := fun a o q h => by rw [e8, upd_ne q, upd_ne (ne_of_none h ht4), upd_ne (ne_of_none h h4)]; exact h
  have g8d : H8 d4 = some (.lst [.str "bits", .ref B]) := by rw [e8, upd_ne nd4R, upd_ne nt4d.symm, upd_same]
  have g8t : H8 t4 = some (.tup [.int 1, .ref B, .non, .ref d4]) := by rw [e8, upd_ne nt4R, upd_same]
  have g8R : H8 R = some (.lst [r1, r2, r3, .ref t4]) := by rw [e8, upd_same]; rfl
  have g8p : H8 p = H7 p := by rw [e8, upd_ne nRp.symm, upd_ne nt4p.symm, upd_ne nd4p.symm]
  -- what is no list
  intro a3 h3
  refine ⟨by show 5 ≤ 1000; decide, fun L hL nL => ?_⟩
  obtain ⟨nL3, hL8⟩ := new_ne hL
  rw [← e8] at h3 hL8
  have hp8 : H8 p = some (.lst [.int px, .int py, .int pz]) := g8p.trans hp
  have n3p := ne_free hp8 h3
  have n3R := ne_free g8R h3
  have nLp := ne_free hp8 hL8
  have nLR := ne_free g8R hL8
  have puL : Purse (upd (upd (upd (upd (upd H7 d4 (.lst [.str "bits", .ref B])) t4 (.tup [.int 1, .ref B, .non, .ref d4])) R (.lst ([r1, r2, r3] ++ [.ref t4]))) a3 (.dK [])) L (.lst [.non, .int 5, .str "01", .ref a3, .bl true])) p n :=
    pu.of (by rw [upd_ne nLp.symm, upd_ne n3p.symm, ← e8]; exact g8p)
  refine ⟨_, rfl, p, 5, n, rfl, puL, by omega, by decide, by decide, fun d H9 d0 d1 pu9 eq9 => ?_⟩
  have eq89 : ∀ b, b ≠ p → b ≠ L → b ≠ a3 → H9 b = H8 b := fun b m1 m2 m3 => by rw [eq9 b m1, upd_ne m2, upd_ne m3, ← e8]
  have g9L : H9 L = some (.lst [.non, .int 5, .str "01", .ref a3, .bl true]) := by rw [eq9 L nLp, upd_same]
  have g93 : H9 a3 = some (.dK []) := by rw [eq9 a3 n3p, upd_ne nL3.symm, upd_same]
  have k89 : Kp (· ≠ p) H8 H9 := fun a o q h => by rw [eq89 a q (ne_of_none h hL8) (ne_of_none h h3)]; exact h
  obtain ⟨v, mv, ev⟩ := pick (xs := [.non, .int 5, .str "01", .ref a3, .bl true]) d0 d1
  refine ⟨L, _, d, v, rfl, rfl, SqL.of g9L, ev, ?_⟩
  have tv : ∃ dv, Thing H9 (fun a => a ≠ p ∧ a ≠ R) true v dv ∧ listy (tyD dv) = false := by
    simp only [List.mem_cons, List.not_mem_nil, or_false] at mv
    rcases mv with rfl | rfl | rfl | rfl | rfl
    · exact ⟨_, .non, by decide⟩
    · exact ⟨_, .int (by decide), by simp [tyD, listy]⟩
    · exact ⟨_, .str (by decide +kernel) (by decide +kernel), by simp [tyD, listy]⟩
    · exact ⟨_, .emp g93 ⟨n3p, n3R⟩, by simp [tyD, listy]⟩
    · exact ⟨_, .bl true, by simp [tyD, listy]⟩
  obtain ⟨dv, thv, lv⟩ := tv
  have nLs : ∀ {a : Addr} {o : HO}, H8 a = some o → a ≠ L := fun h e => by rw [e, hL8] at h; cases h
  have g9R : H9 R = some (.lst [r1, r2, r3, .ref t4]) := k89 R _ nRp g8R
  refine ⟨_, rfl, .inl ⟨rfl, _, SqL.of g9R⟩, _, rfl, _, rfl, by show 2 ≤ 1000; decide, fun d5 h5 n5 => ⟨by show 4 ≤ sizeLine; decide, fun t5 h5' => ?_⟩⟩
  obtain ⟨nt5d, ht5⟩ := new_ne h5'
  obtain ⟨px9, py9, pz9, hp9, _⟩ := id pu9
  have nd5R := ne_free g9R h5
  have nt5R := ne_free g9R ht5
  have nd5p := ne_free hp9 h5
  have nt5p := ne_free hp9 ht5
  have g9Ra : upd (upd H9 d5 (.lst [.str "bits", v])) t5 (.tup [.int 1, v, .non, .ref d5]) R = some (.lst [r1, r2, r3, .ref t4]) := by rw [upd_ne nt5R.symm, upd_ne nd5R.symm]; exact g9R
  refine ⟨R, _, _, rfl, rfl, g9Ra, by show 4 < sizeLine; decide, ?_⟩
  -- the heap at the loop
  have kL : Kp (· ≠ R) H9 (upd (upd (upd H9 d5 (.lst [.str "bits", v])) t5 (.tup [.int 1, v, .non, .ref d5])) R (.lst ([r1, r2, r3, .ref t4] ++ [.ref t5]))) := fun a o q h => by
    rw [upd_ne q, upd_ne (ne_of_none h ht5), upd_ne (ne_of_none h h5)]; exact h
  have k7L : Kp (fun a => a ≠ p ∧ a ≠ R) H7 (upd (upd (upd H9 d5 (.lst [.str "bits", v])) t5 (.tup [.int 1, v, .non, .ref d5])) R (.lst ([r1, r2, r3, .ref t4] ++ [.ref t5]))) := fun a o q h => kL a o q.2 (k89 a o q.1 (k78 a o q.2 h))
  refine loop D _ _ R ([r1, r2, r3, .ref t4] ++ [.ref t5]) _ _ _ _ _ _ _ _ _ _ _ _ _ _ _ rfl upd_same (fun r mr => ?_) fun H' s' => fin H' (fun a o q h => s' a o (k7L a o q h)) ?_
  · rcases List.mem_append.mp mr with mr | mr
    · by_cases h123 : r ∈ [r1, r2, r3]
      · exact ⟨true, (hrows r h123).on (fun _ _ _ _ => trivial) k7L⟩
      · have er : r = .ref t4 := by
          simp only [List.mem_cons, List.not_mem_nil, or_false] at mr h123
          rcases mr with e | e | e | e
          · exact absurd (.inl e) h123
          · exact absurd (.inr (.inl e)) h123
          · exact absurd (.inr (.inr e)) h123
          · exact e
        have gB := k7L B _ ⟨nBp, nBR⟩ hB
        have sB : ∀ {P' : Addr → Prop}, (∀ a, a ≠ B → P' a) → ShAll _ P' false ys ds := fun {P'} hP => ShAll.on (P' := P') (fun a o q h => hP a q.2) (fun a o q h => k7L a o q.1 h) ds ys sy
        refine ⟨false, t4, d4, 1, .ref B, .non, .ref B, "bits", .list ds, er, kL t4 _ nt4R (k89 t4 _ nt4p g8t), kL d4 _ nd4R (k89 d4 _ nd4p g8d), trivial, trivial, (fun z => nomatch z), ?_, ?_⟩
        · exact .bl gB trivial (Nat.le_trans hy9 (by decide)) (sB fun _ _ => trivial) fate
        · exact ⟨.lst gB trivial (fun z => nomatch z) (sB fun _ _ => trivial), (okd_list (n := 200) (k := 3) (m := 9) oy (by rw [← sy.len]; exact hy9)).mono (by decide) (by decide),
            .inr ⟨B, ys, ds, rfl, rfl, gB, trivial, Nat.le_trans hy9 (by decide), sB fun a q => ⟨trivial, q⟩, oy⟩⟩
    · have er := List.mem_singleton.mp mr
      have thL := thv.on (P' := fun _ => True) (fun _ _ _ _ => trivial) (fun a o q h => kL a o q.2 h)
      refine ⟨true, t5, d5, 1, v, .non, v, "bits", dv, er, ?_, ?_, trivial, trivial, fun _ => n5, .nl thL.sh lv, thL⟩
      · rw [upd_ne nt5R, upd_same]
      · rw [upd_ne nd5R, upd_ne nt5d.symm, upd_same]
  · have eL : H' p = some _ := s' p _ (by rw [upd_ne nRp.symm, upd_ne nt5p.symm, upd_ne nd5p.symm]; exact hp9)
    obtain ⟨x9, y9, z9, a9, b9⟩ := pu9
    rw [hp9] at a9
    cases a9
    exact ⟨_, _, _, eL, b9⟩
end
end P2
end Bf

namespace Bf
open PySem PySem.Spec PyProof.Rows L2
theorem disp4 {H : Hp} {a1 a2 a3 a4 : Addr} {o1 o2 o3 o4 : HO} (h1 : H a1 = none) (h2 : upd H a1 o1 a2 = none) (h3 : upd (upd H a1 o1) a2 o2 a3 = none) (h4 : upd (upd (upd H a1 o1) a2 o2) a3 o3 a4 = none) :
    H a2 = none ∧ H a3 = none ∧ H a4 = none ∧ (upd (upd (upd (upd H a1 o1) a2 o2) a3 o3) a4 o4) a1 = some o1 ∧ (upd (upd (upd (upd H a1 o1) a2 o2) a3 o3) a4 o4) a2 = some o2 ∧
      (upd (upd (upd (upd H a1 o1) a2 o2) a3 o3) a4 o4) a3 = some o3 ∧ (upd (upd (upd (upd H a1 o1) a2 o2) a3 o3) a4 o4) a4 = some o4 ∧ ∀ b, b ≠ a1 → b ≠ a2 → b ≠ a3 → b ≠ a4 → (upd (upd (upd (upd H a1 o1) a2 o2) a3 o3) a4 o4) b = H b := by
  have s1 : Same H (upd H a1 o1) := P2.same_new h1
  have s2 : Same (upd H a1 o1) (upd (upd H a1 o1) a2 o2) := P2.same_new h2
  have s3 : Same (upd (upd H a1 o1) a2 o2) (upd (upd (upd H a1 o1) a2 o2) a3 o3) := P2.same_new h3
  have s4 : Same (upd (upd (upd H a1 o1) a2 o2) a3 o3) (upd (upd (upd (upd H a1 o1) a2 o2) a3 o3) a4 o4) := P2.same_new h4
  exact ⟨s1.free h2, (s1.trans s2).free h3, ((s1.trans s2).trans s3).free h4, ((s2.trans s3).trans s4) _ _ upd_same, (s3.trans s4) _ _ upd_same, s4 _ _ upd_same, upd_same,
    fun b n1 n2 n3 n4 => by rw [upd_ne n4, upd_ne n3, upd_ne n2, upd_ne n1]⟩
theorem disp7 {H : Hp} {a1 a2 a3 a4 a5 a6 a7 : Addr} {o1 o2 o3 o4 o5 o6 o7 : HO} (h1 : H a1 = none) (h2 : upd H a1 o1 a2 = none) (h3 : upd (upd H a1 o1) a2 o2 a3 = none) (h4 : upd (upd (upd H a1 o1) a2 o2) a3 o3 a4 = none)
    (h5 : upd (upd (upd (upd H a1 o1) a2 o2) a3 o3) a4 o4 a5 = none) (h6 : upd (upd (upd (upd (upd H a1 o1) a2 o2) a3 o3) a4 o4) a5 o5 a6 = none) (h7 : upd (upd (upd (upd (upd (upd H a1 o1) a2 o2) a3 o3) a4 o4) a5 o5) a6 o6 a7 = none) :
    ∃ G, G = upd (upd (upd (upd (upd (upd (upd H a1 o1) a2 o2) a3 o3) a4 o4) a5 o5) a6 o6) a7 o7 ∧ Same H G ∧ H a2 = none ∧ H a3 = none ∧ H a4 = none ∧ H a5 = none ∧ H a6 = none ∧ H a7 = none ∧
      G a1 = some o1 ∧ G a2 = some o2 ∧ G a3 = some o3 ∧ G a4 = some o4 ∧ G a5 = some o5 ∧ G a6 = some o6 ∧ G a7 = some o7 := by
  obtain ⟨f2, f3, f4, g1, g2, g3, g4, _⟩ := disp4 (o4 := o4) h1 h2 h3 h4
  have s4 : Same H (upd (upd (upd (upd H a1 o1) a2 o2) a3 o3) a4 o4) := (((P2.same_new h1).trans (P2.same_new h2)).trans (P2.same_new h3)).trans (P2.same_new h4)
  have s5 : Same (upd (upd (upd (upd H a1 o1) a2 o2) a3 o3) a4 o4) (upd (upd (upd (upd (upd H a1 o1) a2 o2) a3 o3) a4 o4) a5 o5) := P2.same_new h5
  have s6 : Same (upd (upd (upd (upd (upd H a1 o1) a2 o2) a3 o3) a4 o4) a5 o5) (upd (upd (upd (upd (upd (upd H a1 o1) a2 o2) a3 o3) a4 o4) a5 o5) a6 o6) := P2.same_new h6
  have s7 : Same (upd (upd (upd (upd (upd (upd H a1 o1) a2 o2) a3 o3) a4 o4) a5 o5) a6 o6) (upd (upd (upd (upd (upd (upd (upd H a1 o1) a2 o2) a3 o3) a4 o4) a5 o5) a6 o6) a7 o7) := P2.same_new h7
  have s67 := s6.trans s7
  have s57 := s5.trans s67
  exact ⟨_, rfl, s4.trans s57, f2, f3, f4, s4.free h5, (s4.trans s5).free h6, ((s4.trans s5).trans s6).free h7, s57 _ _ g1, s57 _ _ g2, s57 _ _ g3, s57 _ _ g4, s67 _ _ upd_same, s7 _ _ upd_same, upd_same⟩
theorem lay_ints : ∀ is : List Int, PyData.canLayAll0 (is.map PyData.int) = true ∧ PyData.depthAll (is.map PyData.int) = 0
  | [] => ⟨by simp only [List.map_nil, PyData.canLayAll0], by simp only [List.map_nil, PyData.depthAll]⟩
  | i :: r => by
    obtain ⟨a, b⟩ := lay_ints r
    exact ⟨by simp only [List.map_cons, PyData.canLayAll0, PyData.canLay0, a, Bool.and_self], by simp only [List.map_cons, PyData.depthAll, PyData.depth, b]; decide⟩
theorem shaped_ints (is : List Int) : SeqAt.shaped (.list (is.map PyData.int)) = true := by
  obtain ⟨a, b⟩ := lay_ints is
  unfold SeqAt.shaped
  simp only [PyData.canLay0, PyData.depth, a, b, Bool.true_and]
  decide
theorem dp_ints {K : PySem.W.Frag} {H : Hp} : ∀ is : List Int, DpAll K H (is.map V.int) (is.map PyData.int)
  | [] => .nil
  | i :: r => .cons (.int i) (dp_ints r)
namespace P2
section
variable {P : Program} {w : World} {K : PySem.W.Frag} {mg : Str → Option Value} {base : Heap}
theorem ok_ref {f ft fa : Addr} {fd fdt fda : FuncData} (F : Fun K "_law_refused_right" "_law_refused_right" sRef f fd) (DT : Df K mg "_law_take" ft fdt ["_law_purse_here", "_law_many"]) (GT : FnOk P w K mg base CX0 2 ft fdt ["_law_purse_here", "_law_many"] spTake)
    (DA : Df K mg "_law_asked" fa fda ["_law_way", "_law_one", "_law_other"]) (GA : FnOk P w K mg base CX0 6 fa fda ["_law_way", "_law_one", "_law_other"] (spAsked K))
    (mr : mg "range" = none) (ml : mg "len" = none) (mp : mg "repr" = none) (mi : mg "isinstance" = none) (mL : mg "list" = none) : FnG P w K mg base CX0 7 f fd ["_law_purse_here", "_law_size"] spRef := by
  refine Fun.okG F scRef (fun vs H Q E h => ?_) (fun cdv A outer s H vs Q E hA hr h => ?_)
  · obtain ⟨p, z, n, rfl, _⟩ := h
    rfl
  · obtain ⟨p, z, n, rfl, z1, z8, pu, hn, q⟩ := h
    have hr1 := hr.mono (by decide : 2 ≤ 6)
    obtain ⟨tm, hm, mid⟩ := ref_mid (cdv := cdv) (A := A) (outer := outer) (s := s) (H0 := H) (E := E) (f := f) DT GT DA GA mp mi mL hA hr
    have hA' : (A.deeper (envOfC "_law_refused_right" (defScope sRef) s.heap.objs.size f cdv)).guards = some [] := hA
    refine ⟨_, pss_cons (ps_set (i := 2) scRef.nd rfl (Or.inl rfl) (pe_op op_shl pe_int (pv 1)))
      (pss_cons (ps_set (i := 3) scRef.nd rfl (Or.inl rfl) (pe_ix ix_list (pe_lstN (pa_cons pe_non (pa_cons pe_bl (pa_cons (pe_un un_neg pe_int) (pa_cons (pv 2) (pa_cons pe_str (pa_cons (pe_lstN (pa_cons pe_int pa_nil)) (pa_cons (pe_tup (pa_cons pe_int pa_nil))
          (pa_cons pe_dnewK (pa_cons (pe_op op_pow pe_int pe_int) (pa_cons (pe_op op_sub pe_int (pv 2)) pa_nil)))))))))))
          (pe_call GT hr1 (by rfl) DT.at_ DT.kp DT.bd .nil pass0 (pa_cons (pv 0) (pa_cons pe_int pa_nil))) (fun _ _ => rfl)))
      (pss_cons (ps_set (i := 4) scRef.nd rfl (Or.inl rfl) (pe_ix ix_list (pe_lstN (pa_cons pe_non (pa_cons pe_bl (pa_cons pe_int (pa_cons pe_int (pa_cons pe_str (pa_cons (pe_lstN (pa_cons pe_int pa_nil)) (pa_cons (pe_tup (pa_cons pe_int pa_nil))
          (pa_cons pe_dnewK (pa_cons (pe_un un_neg pe_int) (pa_cons (pe_op op_pow pe_int pe_int) pa_nil)))))))))))
          (pe_call GT hr1 (by rfl) DT.at_ DT.kp DT.bd .nil pass0 (pa_cons (pv 0) (pa_cons pe_int pa_nil))) (fun _ _ => rfl)))
      (pss_cons (ps_set (i := 5) scRef.nd rfl (Or.inl rfl) (pe_lstN (pa_cons (pe_tup (pa_cons pe_int (pa_cons (pv 1) (pa_cons (pv 3) (pa_cons (pe_lstN (pa_cons pe_str (pa_cons (pv 3) pa_nil))) pa_nil)))))
          (pa_cons (pe_tup (pa_cons pe_int (pa_cons (pv 4) (pa_cons (pv 3) (pa_cons (pe_lstN (pa_cons pe_str (pa_cons (pv 4) pa_nil))) pa_nil)))))
          (pa_cons (pe_tup (pa_cons pe_int (pa_cons (pv 4) (pa_cons pe_int (pa_cons (pe_lstN (pa_cons pe_str (pa_cons (pv 4) pa_nil))) pa_nil))))) pa_nil)))))
      (pss_cons (ps_setLc (i := 6) (own := [("_law_k", 7)]) (g := gName 7) (tt := tYes) (by rfl) scRef.nd rfl rfl (sw_true rfl rfl rfl (by decide +kernel))
          (pi_range1 (by rfl) mr (pa_cons (pe_ix ix_list (pe_lst (pa_cons pe_int (pa_cons pe_int (pa_cons (pe_op op_add pe_int (pe_call GT hr1 (by rfl) DT.at_ DT.kp DT.bd .nil pass0 (pa_cons (pv 0) (pa_cons pe_int pa_nil)))) pa_nil))))
            (pe_call GT hr1 (by rfl) DT.at_ DT.kp DT.bd .nil pass0 (pa_cons (pv 0) (pa_cons pe_int pa_nil))) (fun _ _ => rfl)) pa_nil))
          (blkOk_by (N := nRef) (sc := defScope sRef) (by decide +kernel)) (fun _ _ _ _ _ => pg_name (i := 7) scRef.nd rfl (Or.inl rfl)) (fun _ _ _ _ _ => pts_nil)
          (fun _ _ _ _ _ => pe_call GT hr1 (by rfl) DT.at_ DT.kp DT.bd .nil pass0 (pa_cons (pv 0) (pa_cons pe_int pa_nil))))
      (pss_cons (ps_if (PW.pt (pw_and (pt_cmpR (op_neD hr.units) (pv 6) (pe_lst pa_nil) (nomark _)) (pw_and1 (pt_cmpR op_lt (pe_callB call_len_seq (by rfl) ml PySem.boot_len (pa_cons (pv 6) pa_nil)) pe_int (nomark _)))))
          (pss_cons (ps_set (i := 8) scRef.nd rfl (Or.inl rfl) (pe_call GT hr1 (by rfl) DT.at_ DT.kp DT.bd .nil pass0 (pa_cons (pv 0) (pa_cons (pe_callB call_len_seq (by rfl) ml PySem.boot_len (pa_cons (pv 6) pa_nil)) pa_nil))))
          (pss_one (ps_asg (pe_ix ix_list (pe_lstN (pa_cons pe_int (pa_cons (pe_un un_neg pe_int) (pa_cons pe_bl (pa_cons pe_non (pa_cons pe_str (pa_cons (pe_lstN (pa_cons pe_int pa_nil)) pa_nil)))))))
            (pe_call GT hr1 (by rfl) DT.at_ DT.kp DT.bd .nil pass0 (pa_cons (pv 0) (pa_cons pe_int pa_nil))) (fun _ _ => rfl)) (pg_sub (pv 6) (pv 8) set_list)))) pss_nil)
      hm))))), ?_⟩
    obtain ⟨T, hT, t2, t256⟩ : ∃ T : Int, (2 : Int) ^ z.toNat = T ∧ 2 ≤ T ∧ T ≤ 256 := by
      have c : z = 1 ∨ z = 2 ∨ z = 3 ∨ z = 4 ∨ z = 5 ∨ z = 6 ∨ z = 7 ∨ z = 8 := by omega
      rcases c with rfl | rfl | rfl | rfl | rfl | rfl | rfl | rfl <;> exact ⟨_, rfl, by decide, by decide⟩
    have htop : topW z = T - 1 := by unfold topW; rw [hT]
    obtain ⟨px, py, pz, hp, _⟩ := id pu
    refine ⟨_, rfl, _, _, rfl, rfl, ⟨by omega, by omega, by decide⟩, ?_⟩
    -- odd
    refine ⟨_, rfl, _, rfl, by show 1 ≤ 1000; decide, fun a1 h1 n1 => ⟨by show 1 ≤ sizeLine; decide, fun a2 h2 => fun a3 h3 => ⟨_, _, rfl, rfl, ⟨by decide, by decide, by decide⟩, _, rfl, _, _, rfl, rfl, by show 10 ≤ 1000; decide, fun L hL nL => ?_⟩⟩⟩
    obtain ⟨f2, f3, f4, g1, g2, g3, g4, same4⟩ := disp4 (o4 := .lst [.non, .bl true, .int (-1), .int (1 * 2 ^ z.toNat), .str "1", .ref a1, .ref a2, .ref a3, .int (10 ^ 29), .int (0 - 1 * 2 ^ z.toNat)]) h1 h2 h3 hL
    have m1 := ne_free hp h1
    have m2 := ne_free hp f2
    have m3 := ne_free hp f3
    have m4 := ne_free hp f4
    refine ⟨_, rfl, p, 10, n, rfl, pu.of (same4 p m1.symm m2.symm m3.symm m4.symm), by omega, by decide, by decide, fun d H2 d0 d1 pu2 eq2 => ?_⟩
    have k2 : Kp (· ≠ p) H H2 := fun a o q h => by
      rw [eq2 a q]
      exact (same4 a (ne_of_none h h1) (ne_of_none h f2) (ne_of_none h f3) (ne_of_none h f4)).trans h
    obtain ⟨v, mv, ev⟩ := pick (xs := [.non, .bl true, .int (-1), .int (1 * 2 ^ z.toNat), .str "1", .ref a1, .ref a2, .ref a3, .int (10 ^ 29), .int (0 - 1 * 2 ^ z.toNat)]) d0 d1
    refine ⟨L, _, d, v, rfl, rfl, SqL.of ((eq2 L m4).trans g4), ev, ?_⟩
    have odd : ∃ dv, Thing H2 (· ≠ p) true v dv ∧ wholeB v 0 (topW z) = false := by
      have e1 := (eq2 a1 m1).trans g1
      have e2 := (eq2 a2 m2).trans g2
      have e3 := (eq2 a3 m3).trans g3
      clear ev
      rw [Int.one_mul, hT] at mv
      simp only [List.mem_cons, List.not_mem_nil, or_false] at mv
      rcases mv with rfl | rfl | rfl | rfl | rfl | rfl | rfl | rfl | rfl | rfl
      · exact ⟨_, .non, rfl⟩
      · exact ⟨_, .bl true, rfl⟩
      · exact ⟨_, .int (by decide), rfl⟩
      · refine ⟨_, .int (by omega), ?_⟩
        show (decide (0 ≤ T) && decide (T ≤ topW z)) = false
        rw [decide_eq_false (show ¬ T ≤ topW z by omega), Bool.and_false]
      · exact ⟨_, .str (by decide +kernel) (by decide +kernel), rfl⟩
      · exact ⟨_, .ints (is := [0]) e1 m1 (fun _ => n1) (by decide) (by decide), rfl⟩
      · exact ⟨_, .tup1 e2 m2 (by decide), rfl⟩
      · exact ⟨_, .emp e3 m3, rfl⟩
      · refine ⟨_, .big, ?_⟩
        show (decide ((0 : Int) ≤ 10 ^ 29) && decide ((10 : Int) ^ 29 ≤ topW z)) = false
        rw [decide_eq_false (show ¬ (10 : Int) ^ 29 ≤ topW z by omega), Bool.and_false]
      · refine ⟨_, .int (by omega), ?_⟩
        show (decide (0 ≤ 0 - T) && decide (0 - T ≤ topW z)) = false
        rw [decide_eq_false (show ¬ 0 ≤ 0 - T by omega), Bool.false_and]
    obtain ⟨dv, tv, wv⟩ := odd
    clear ev mv eq2 same4 g1 g2 g3 g4 f2 f3 f4 m1 m2 m3 m4 h1 h2 h3 hL n1 nL
    -- far
    obtain ⟨qx, qy, qz, hp2, _⟩ := id pu2
    refine ⟨by show 1 ≤ 1000; decide, fun a1 h1 n1 => ⟨by show 1 ≤ sizeLine; decide, fun a2 h2 => fun a3 h3 => ⟨_, rfl, _, _, rfl, rfl, ⟨by decide, by decide, by decide⟩, by show 10 ≤ 1000; decide, fun L hL nL => ?_⟩⟩⟩
    obtain ⟨f2, f3, f4, g1, g2, g3, g4, same4⟩ := disp4 (o4 := .lst [.non, .bl true, .int 0, .int 9, .str "8", .ref a1, .ref a2, .ref a3, .int (-1), .int (10 ^ 29)]) h1 h2 h3 hL
    have m1 := ne_free hp2 h1
    have m2 := ne_free hp2 f2
    have m3 := ne_free hp2 f3
    have m4 := ne_free hp2 f4
    refine ⟨_, rfl, p, 10, n + 1, rfl, pu2.of (same4 p m1.symm m2.symm m3.symm m4.symm), by omega, by decide, by decide, fun d H3 d0 d1 pu3 eq3 => ?_⟩
    have k3 : Kp (· ≠ p) H2 H3 := fun a o q h => by
      rw [eq3 a q]
      exact (same4 a (ne_of_none h h1) (ne_of_none h f2) (ne_of_none h f3) (ne_of_none h f4)).trans h
    obtain ⟨u, mu, eu⟩ := pick (xs := [.non, .bl true, .int 0, .int 9, .str "8", .ref a1, .ref a2, .ref a3, .int (-1), .int (10 ^ 29)]) d0 d1
    refine ⟨L, _, d, u, rfl, rfl, SqL.of ((eq3 L m4).trans g4), eu, ?_⟩
    have far : ∃ du, Thing H3 (· ≠ p) true u du ∧ wholeB u 1 8 = false := by
      have e1 := (eq3 a1 m1).trans g1
      have e2 := (eq3 a2 m2).trans g2
      have e3 := (eq3 a3 m3).trans g3
      clear eu
      simp only [List.mem_cons, List.not_mem_nil, or_false] at mu
      rcases mu with rfl | rfl | rfl | rfl | rfl | rfl | rfl | rfl | rfl | rfl
      · exact ⟨_, .non, rfl⟩
      · exact ⟨_, .bl true, rfl⟩
      · exact ⟨_, .int (by decide), rfl⟩
      · exact ⟨_, .int (by decide), rfl⟩
      · exact ⟨_, .str (by decide +kernel) (by decide +kernel), rfl⟩
      · exact ⟨_, .ints (is := [1]) e1 m1 (fun _ => n1) (by decide) (by decide), rfl⟩
      · exact ⟨_, .tup1 e2 m2 (by decide), rfl⟩
      · exact ⟨_, .emp e3 m3, rfl⟩
      · exact ⟨_, .int (by decide), rfl⟩
      · exact ⟨_, .big, by decide +kernel⟩
    obtain ⟨du, tu, wu⟩ := far
    clear eu mu eq3 same4 g1 g2 g3 g4 f2 f3 f4 m1 m2 m3 m4 h1 h2 h3 hL n1 nL
    have tv3 := tv.on (P' := (· ≠ p)) (fun _ _ q _ => q) k3
    -- rows
    obtain ⟨rx, ry, rz, hp3, _⟩ := id pu3
    refine ⟨_, rfl, _, rfl, _, rfl, by show 2 ≤ 1000; decide, fun D1 i1 l1 => ⟨by show 4 ≤ sizeLine; decide, fun T1 i2 => ⟨_, rfl, _, rfl, _, rfl, by show 2 ≤ 1000; decide, fun D2 i3 l3 => ⟨by show 4 ≤ sizeLine; decide, fun T2 i4 =>
      ⟨_, rfl, _, rfl, by show 2 ≤ 1000; decide, fun D3 i5 l5 => ⟨by show 4 ≤ sizeLine; decide, fun T3 i6 => ⟨by show 3 ≤ 1000; decide, fun R i7 l7 => ?_⟩⟩⟩⟩⟩⟩⟩
    obtain ⟨G, eG, sG, f2, f3, f4, f5, f6, f7, g1, g2, g3, g4, g5, g6, g7⟩ := disp7 (o7 := .lst [.ref T1, .ref T2, .ref T3]) i1 i2 i3 i4 i5 i6 i7
    have nRp := ne_free hp3 f7
    have kG : Kp (· ≠ p) H3 G := fun a o _ h => sG a o h
    have toG : ∀ {x : V} {dx : PyData}, Thing H3 (· ≠ p) true x dx → Thing G (fun a => a ≠ p ∧ a ≠ R) true x dx := fun t => t.on (fun a o q h => ⟨q, ne_of_none h f7⟩) kG
    have rows : ∀ r ∈ [V.ref T1, V.ref T2, V.ref T3], RowOk G (fun a => a ≠ p ∧ a ≠ R) true r := by
      have t1 : T1 ≠ R := fun e => by rw [e, g7] at g2; cases g2
      have t2 : T2 ≠ R := fun e => by rw [e, g7] at g4; cases g4
      have t3 : T3 ≠ R := fun e => by rw [e, g7] at g6; cases g6
      have e1 : D1 ≠ R := fun e => by rw [e, g7] at g1; cases g1
      have e2 : D2 ≠ R := fun e => by rw [e, g7] at g3; cases g3
      have e3 : D3 ≠ R := fun e => by rw [e, g7] at g5; cases g5
      intro r mr
      simp only [List.mem_cons, List.not_mem_nil, or_false] at mr
      rcases mr with rfl | rfl | rfl
      · exact ⟨T1, D1, 0, .int z, v, v, "worth", dv, rfl, g2, g1, ⟨ne_free hp3 f2, t1⟩, ⟨ne_free hp3 i1, e1⟩, fun _ => l1, .wo z1 z8 (toG tv3).sh wv, toG tv3⟩
      · exact ⟨T2, D2, 0, u, v, u, "width", du, rfl, g4, g3, ⟨ne_free hp3 f4, t2⟩, ⟨ne_free hp3 f3, e2⟩, fun _ => l3, .wd (toG tu).sh (toG tv3).sh wu, toG tu⟩
      · exact ⟨T3, D3, 0, u, .int 0, u, "width", du, rfl, g6, g5, ⟨ne_free hp3 f6, t3⟩, ⟨ne_free hp3 f5, e3⟩, fun _ => l5, .wd (toG tu).sh (.int 0) wu, toG tu⟩
    have puG : Purse G p (n + 1 + 1) := pu3.of ((sG p _ hp3).trans hp3.symm)
    have hpG := sG p _ hp3
    clear g1 g2 g3 g4 g5 g6 f2 f3 f4 f5 f6 i1 i2 i3 i4 i5 i6 toG tu tv3 tv
    -- the drawn bits
    refine ⟨_, rfl, p, 8, n + 1 + 1, rfl, by rw [← eG]; exact puG, by omega, by decide, by decide, fun d8 H4 b80 b81 pu4 eq4 => ⟨_, _, rfl, rfl, by show 3 ≤ sizeLine; decide, fun M hM => ?_⟩⟩
    have k4 : Kp (· ≠ p) G H4 := fun a o q h => by rw [eq4 a q, ← eG]; exact h
    obtain ⟨sx, sy, sz, hp4, _⟩ := id pu4
    have nMp := ne_free hp4 hM
    refine ⟨_, rfl, p, 3, n + 1 + 1 + 1, rfl, pu4.of (upd_ne nMp.symm), by omega, by decide, by decide, fun d3 H5 b30 b31 pu5 eq5 => ?_⟩
    have k5 : Kp (· ≠ p) H4 H5 := fun a o q h => by rw [eq5 a q, upd_ne (ne_of_none h hM)]; exact h
    obtain ⟨vj, mj, ej⟩ := pick (xs := [.int 0, .int 9, .int (1 + d8)]) b30 b31
    refine ⟨M, _, d3, vj, rfl, rfl, SqL.of ((eq5 M nMp).trans upd_same), ej, ?_⟩
    obtain ⟨j, rfl, j0, j9⟩ : ∃ j, vj = V.int j ∧ 0 ≤ j ∧ j ≤ 9 := by
      simp only [List.mem_cons, List.not_mem_nil, or_false] at mj
      rcases mj with rfl | rfl | rfl
      · exact ⟨_, rfl, by decide, by decide⟩
      · exact ⟨_, rfl, by decide, by decide⟩
      · exact ⟨_, rfl, by omega, by omega⟩
    refine ⟨j, rfl, by omega, by omega, fun B hB => ?_⟩
    obtain ⟨wx, wy, wz, hp5, _⟩ := id pu5
    have nBp := ne_free hp5 hB
    have g5R : H5 R = some (.lst [.ref T1, .ref T2, .ref T3]) := k5 R _ nRp (k4 R _ nRp g7)
    have nBR := ne_free g5R hB
    have rows5 : ∀ r ∈ [V.ref T1, V.ref T2, V.ref T3], RowOk H5 (fun a => (a ≠ p ∧ a ≠ R) ∧ a ≠ B) true r := fun r mr => (rows r mr).on (fun a o q h => ⟨q, ne_of_none (k5 a o q.1 (k4 a o q.1 h)) hB⟩) fun a o q h => k5 a o q.1 (k4 a o q.1 h)
    refine lc_range (lo := 0) (n := j.toNat) (fun i H' => ∃ bs : List Int, bs.length = i ∧ (∀ b ∈ bs, 0 ≤ b ∧ b ≤ 1) ∧ H' B = some (.lst (bs.map V.int)) ∧ Kp (fun a => a ≠ p ∧ a ≠ B) H5 H' ∧ Purse H' p (n + 4 + (i : Int)))
      ⟨[], rfl, (fun _ m => nomatch m), upd_same, kp_new hB, (pu5.of (upd_ne nBp.symm)).mono (by simp; omega)⟩ (fun i H' hi pv => ?_) fun H6 pv => ?_
    · obtain ⟨bs, lb, hb, gB, kB, pB⟩ := pv
      refine ⟨rfl, _, rfl, p, 2, n + 4 + (i : Int), rfl, pB, by omega, by decide, by decide, fun d Hd c0 c1 pd ed => ⟨_, (ed B nBp).trans gB, by rw [List.length_map, lb]; exact small1000 (by omega), bs ++ [d], by rw [List.length_append, lb]; rfl, fun b m => ?_, ?_, fun a o q h => ?_, (pd.of (upd_ne nBp.symm)).mono (by omega)⟩⟩
      · rcases List.mem_append.mp m with m | m
        · exact hb b m
        · rw [List.mem_singleton.mp m]; omega
      · rw [upd_same, List.map_append]; rfl
      · rw [upd_ne q.2, ed a q.1]; exact kB a o q h
    · obtain ⟨bs, lb, hb, gB, kB, pB⟩ := pv
      have g6R := kB R _ ⟨nRp, nBR.symm⟩ g5R
      have rows6 : ∀ r ∈ [V.ref T1, V.ref T2, V.ref T3], RowOk H6 (fun a => a ≠ p ∧ a ≠ R) true r := fun r mr => (rows5 r mr).on (fun a o q _ => q.1) fun a o q h => kB a o ⟨q.1.1, q.2⟩ h
      have k06 : ∀ a o, a ≠ p → H a = some o → H6 a = some o ∧ a ≠ B ∧ a ≠ R := fun a o q h => by
        have h3 := k3 a o q (k2 a o q h)
        have h5 := k5 a o q (k4 a o q (sG a o h3))
        exact ⟨kB a o ⟨q, ne_of_none h5 hB⟩ h5, ne_of_none h5 hB, ne_of_none h3 f7⟩
      have lb' : (bs.length : Int) ≤ 9 := by omega
      refine ⟨_, rfl, Nat.zero_le _, fun F0 hF => ?_⟩
      have nFB := ne_free gB hF
      have gBF : upd H6 F0 (.lst []) B = some (.lst (bs.map V.int)) := by rw [upd_ne nFB.symm]; exact gB
      obtain ⟨yx, yy, yz, hp6, _⟩ := id pB
      have nFp := ne_free hp6 hF
      have kF : Kp (fun _ => True) H6 (upd H6 F0 (.lst [])) := kp_new hF
      have rowsF : ∀ r ∈ [V.ref T1, V.ref T2, V.ref T3], RowOk (upd H6 F0 (.lst [])) (fun a => a ≠ p ∧ a ≠ R) true r := fun r mr => (rows6 r mr).on (fun a o q _ => q) fun a o _ h => kF a o trivial h
      have puF : Purse (upd H6 F0 (.lst [])) p (n + 4 + (j.toNat : Int)) := pB.of (upd_ne nFp.symm)
      have oi : ∀ e ∈ bs.map PyData.int, OkD 200 3 e := fun e m => by
        obtain ⟨b, mb, rfl⟩ := List.mem_map.mp m
        have := hb b mb
        exact (okd_int (by omega)).mono (by decide) (by decide)
      -- what is left, where the bits stay
      have stay : ∀ (σ : L2.St) (u1 u2 u3 u4 u7 u8 u9 u10 u11 u12 u13 u14 u15 : Option V), σ = [some (.ref p), u1, u2, u3, u4, some (.ref R), some (.ref B), u7, u8, u9, u10, u11, u12, u13, u14, u15] → Fate (bs.map V.int) none →
          tm { nx := fun _ H' => Q .non H', rt := Q } σ (upd H6 F0 (.lst [])) := fun σ u1 u2 u3 u4 u7 u8 u9 u10 u11 u12 u13 u14 u15 eσ fate =>
        mid _ σ _ p R B (n + 4 + (j.toNat : Int)) (bs.map V.int) (bs.map PyData.int) (.ref T1) (.ref T2) (.ref T3) u1 u2 u3 u4 u7 u8 u9 u10 u11 u12 u13 u14 u15 eσ puF (by omega) nRp (kF R _ trivial g6R) rowsF gBF nBp nBR (by rw [List.length_map]; omega)
          (ShAll.ints bs) oi fate fun H' k pu' => q H' (fun a o qa h => let ⟨h6, nb, nr⟩ := k06 a o qa h; k a o ⟨qa, nr⟩ (kF a o trivial h6)) (pu'.mono (by omega))
      refine ⟨_, _, .lst (SqL.of gBF) (dp_ints bs), .lst (SqL.of upd_same) .nil, shaped_ints bs, by decide, _, rfl, ?_⟩
      have eb : PyData.eqv (.list (bs.map PyData.int)) (.list []) = bs.isEmpty := by cases bs <;> simp [PyData.eqv, PyData.eqvAll]
      rw [eb]
      by_cases b0 : bs = []
      · rw [b0]
        exact iteF (iteF (stay _ _ _ _ _ _ _ _ _ _ _ _ _ _ rfl (.many (by rw [b0]; simp))))
      · have e2 : bs.isEmpty = false := by cases bs with
          | nil => exact absurd rfl b0
          | cons _ _ => rfl
        rw [e2]
        have l1 : 1 ≤ bs.length := List.length_pos_iff.mpr b0
        refine iteT ⟨_, rfl, B, _, rfl, .inl (SqL.of gBF), _, _, rfl, rfl, _, rfl, ite2 (fun c => ?_) (fun c => stay _ _ _ _ _ _ _ _ _ _ _ _ _ _ rfl (.many fun z => c (decide_eq_true (by have := z.2; omega))))⟩
        have l8 : bs.length ≤ 8 := by
          have c' := of_decide_eq_true c
          rw [List.length_map] at c'
          omega
        have lx : (bs.map V.int).length = bs.length := List.length_map _
        refine ⟨_, rfl, _, rfl, B, _, rfl, .inl (SqL.of gBF), p, ((bs.map V.int).length : Nat), n + 4 + (j.toNat : Int), rfl, puF, by omega, by omega, by omega, fun dA H7 a0 a1 pu7 eq7 => ?_⟩
        obtain ⟨xx, xy, xz, hp7, _⟩ := id pu7
        refine ⟨_, rfl, by show 1 ≤ 1000; decide, fun c1 y1 n1 => ⟨by show 6 ≤ 1000; decide, fun L hL nL => ?_⟩⟩
        obtain ⟨nLc, hL7⟩ := new_ne hL
        have ncp := ne_free hp7 y1
        have nLp := ne_free hp7 hL7
        have g7B := (eq7 B nBp).trans gBF
        have g7R := (eq7 R nRp).trans (kF R _ trivial g6R)
        have ncB := ne_free g7B y1
        have ncR := ne_free g7R y1
        refine ⟨_, rfl, p, 6, n + 4 + (j.toNat : Int) + 1, rfl, pu7.of (by rw [upd_ne nLp.symm, upd_ne ncp.symm]), by omega, by decide, by decide, fun dB H8 c0 c1' pu8 eq8 => ?_⟩
        have k8 : Kp (· ≠ p) H7 H8 := fun a o q h => by rw [eq8 a q, upd_ne (ne_of_none h hL7), upd_ne (ne_of_none h y1)]; exact h
        obtain ⟨v2, mv2, ev2⟩ := pick (xs := [.int 2, .int (-1), .bl true, .non, .str "1", .ref c1]) c0 c1'
        have g8B := k8 B _ nBp g7B
        have ixB : ixN (bs.map V.int).length dA = some dA.toNat := by
          unfold ixN
          rw [if_pos a0, if_pos a1]
        refine ⟨L, _, dB, v2, rfl, rfl, SqL.of ((eq8 L nLp).trans upd_same), ev2, _, rfl, _, rfl, B, _, dA, dA.toNat, rfl, rfl, g8B, ixB, ?_⟩
        have tv2 : ∃ d2, Sh H8 (fun a => (a ≠ p ∧ a ≠ R) ∧ a ≠ B) false v2 d2 ∧ OkD 200 3 d2 ∧ wholeB v2 0 1 = false := by
          have e1 : H8 c1 = some (.lst [.int 0]) := by rw [eq8 c1 ncp, upd_ne nLc.symm, upd_same]
          simp only [List.mem_cons, List.not_mem_nil, or_false] at mv2
          rcases mv2 with rfl | rfl | rfl | rfl | rfl | rfl
          · exact ⟨_, .int 2, (okd_int (by decide)).mono (by decide) (by decide), rfl⟩
          · exact ⟨_, .int (-1), (okd_int (by decide)).mono (by decide) (by decide), rfl⟩
          · exact ⟨_, .bl true, (okd_bool true).mono (by decide) (by decide), rfl⟩
          · exact ⟨_, .non, okd_none.mono (by decide) (by decide), rfl⟩
          · exact ⟨_, .str "1", (okd_str (by decide +kernel) (by decide +kernel)).mono (by decide) (by decide), rfl⟩
          · exact ⟨_, .lst e1 ⟨⟨ncp, ncR⟩, ncB⟩ (fun z => nomatch z) (.cons (.int 0) .nil), (okd_list (n := 60) (k := 0) (m := 1) (fun d m => by rw [List.mem_singleton.mp m]; exact okd_int (by decide)) (by simp)).mono (by decide) (by decide), rfl⟩
        obtain ⟨d2, s2, o2, w2⟩ := tv2
        have lt : dA.toNat < (bs.map V.int).length := by omega
        have kst : ∀ a o, a ≠ B → H8 a = some o → upd H8 B (.lst ((bs.map V.int).set dA.toNat v2)) a = some o := fun a o q h => by rw [upd_ne q]; exact h
        have k58 : ∀ a o, a ≠ p → a ≠ B → H5 a = some o → H8 a = some o := fun a o q1 q2 h => by
          have h6 := kF a o trivial (kB a o ⟨q1, q2⟩ h)
          exact k8 a o q1 ((eq7 a q1).trans h6)
        refine mid _ _ _ p R B (n + 4 + (j.toNat : Int) + 1 + 1) ((bs.map V.int).set dA.toNat v2) ((bs.map PyData.int).set dA.toNat d2) (.ref T1) (.ref T2) (.ref T3) _ _ _ _ _ _ _ _ _ _ _ _ _ rfl
          (pu8.of (upd_ne nBp.symm)) (by omega) nRp (kst R _ nBR.symm (k58 R _ nRp nBR.symm g5R)) (fun r mr => (rows5 r mr).on (fun a o q _ => q.1) fun a o q h => kst a o q.2 (k58 a o q.1.1 q.2 h)) upd_same nBp nBR
          (by rw [List.length_set]; omega) (ShAll.on (fun a o q _ => q) (fun a o q h => kst a o q.2 h) _ _ (ShAll.put s2 dA.toNat (ShAll.ints bs))) (fun e m => ?_) (.odd (by rw [List.length_set]; omega) (by rw [List.length_set]; omega) ⟨v2, ?_, w2⟩) fun H' k pu' => ?_
        · rcases List.mem_or_eq_of_mem_set m with m | rfl
          · exact oi e m
          · exact o2
        · exact List.mem_of_getElem? (i := dA.toNat) (by rw [List.getElem?_set_self lt])
        · refine q H' (fun a o qa h => ?_) (pu'.mono (by omega))
          obtain ⟨h6, nb, nr⟩ := k06 a o qa h
          exact k a o ⟨qa, nr⟩ (kst a o nb (k8 a o qa ((eq7 a qa).trans (kF a o trivial h6))))
end
end P2
end Bf

namespace Bf
open PySem PySem.Spec PyProof.Rows L2
theorem valB_bits : ∀ (n : Nat) (k : Int), 0 ≤ k → k < 2 ^ n → valB ((List.range n).map fun i => k / 2 ^ i % 2) = k
  | 0, k, h0, h1 => by
    have e : k = 0 := by simp at h1; omega
    subst e
    rfl
  | n + 1, k, h0, h1 => by
    rw [List.range_succ_eq_map, List.map_cons, List.map_map]
    have e : (List.map ((fun i => k / 2 ^ i % 2) ∘ Nat.succ) (List.range n)) = (List.range n).map fun i => (k / 2) / 2 ^ i % 2 := by
      refine List.map_congr_left fun i _ => ?_
      show k / 2 ^ (i + 1) % 2 = k / 2 / 2 ^ i % 2
      rw [Int.ediv_ediv_of_nonneg (by decide), Int.pow_succ, Int.mul_comm]
    rw [e]
    show k / 2 ^ 0 % 2 + 2 * valB _ = k
    rw [Int.pow_succ] at h1
    rw [valB_bits n (k / 2) (by omega) (by omega)]
    simp
    omega
theorem bits_valB : ∀ (bs : List Int), (∀ b ∈ bs, 0 ≤ b ∧ b ≤ 1) → (List.range bs.length).map (fun i => valB bs / 2 ^ i % 2) = bs
  | [], _ => rfl
  | b :: r, h => by
    have hb := h b List.mem_cons_self
    rw [List.length_cons, List.range_succ_eq_map, List.map_cons, List.map_map]
    have e : (List.map ((fun i => valB (b :: r) / 2 ^ i % 2) ∘ Nat.succ) (List.range r.length)) = (List.range r.length).map fun i => valB r / 2 ^ i % 2 := by
      refine List.map_congr_left fun i _ => ?_
      show (b + 2 * valB r) / 2 ^ (i + 1) % 2 = valB r / 2 ^ i % 2
      rw [Int.pow_succ, Int.mul_comm (2 ^ i) 2, ← Int.ediv_ediv_of_nonneg (by decide : (0 : Int) ≤ 2)]
      have : (b + 2 * valB r) / 2 = valB r := by omega
      rw [this]
    rw [e, bits_valB r fun x m => h x (List.mem_cons_of_mem _ m)]
    congr 1
    show (b + 2 * valB r) / 2 ^ 0 % 2 = b
    simp
    omega
theorem valB_lt : ∀ (bs : List Int), (∀ b ∈ bs, 0 ≤ b ∧ b ≤ 1) → 0 ≤ valB bs ∧ valB bs < 2 ^ bs.length
  | [], _ => ⟨Int.le_refl _, by decide⟩
  | b :: r, h => by
    have hb := h b List.mem_cons_self
    obtain ⟨h0, h1⟩ := valB_lt r fun x m => h x (List.mem_cons_of_mem _ m)
    show 0 ≤ b + 2 * valB r ∧ b + 2 * valB r < 2 ^ (r.length + 1)
    rw [Int.pow_succ]
    omega
def bitsI (n : Nat) (k : Int) : List Int := (List.range n).map fun i => k / 2 ^ i % 2
theorem bitsI_01 {n : Nat} {k : Int} : ∀ b ∈ bitsI n k, 0 ≤ b ∧ b ≤ 1 := fun b m => by
  obtain ⟨i, _, rfl⟩ := List.mem_map.mp m
  show 0 ≤ k / 2 ^ i % 2 ∧ k / 2 ^ i % 2 ≤ 1
  omega
/-- of a call with two keywords, the second parameter's first -/
def swap2 {α : Type} : List α → List α → List α
  | [], [a, b] => [b, a]
  | _, _ => []
def only1 {α : Type} : List α → List α → List α
  | [], [a] => [a]
  | _, _ => []
theorem swap2_rel {vs : List V} {us : List Value} {zs : List V} {ws : List Value} (r1 : Vals vs us) (r2 : Vals zs ws) : Vals (swap2 vs zs) (swap2 us ws) := by
  cases r1 with
  | cons _ _ => exact .nil
  | nil =>
    cases r2 with
    | nil => exact .nil
    | cons a r =>
      cases r with
      | nil => exact .nil
      | cons b r =>
        cases r with
        | nil => exact .cons b (.cons a .nil)
        | cons _ _ => exact .nil
theorem only1_rel {vs : List V} {us : List Value} {zs : List V} {ws : List Value} (r1 : Vals vs us) (r2 : Vals zs ws) : Vals (only1 vs zs) (only1 us ws) := by
  cases r1 with
  | cons _ _ => exact .nil
  | nil =>
    cases r2 with
    | nil => exact .nil
    | cons a r =>
      cases r with
      | nil => exact .cons a .nil
      | cons _ _ => exact .nil
namespace P2
section
variable {P : Program} {w : World} {K : PySem.W.Frag} {mg : Str → Option Value} {base : Heap}
theorem kb_bitsOf {f : Addr} {fd : FuncData} (F : Fun K "bits_of" "bits_of" sBitsOf f fd) : KBinds K fd ["width", "worth"] ["worth", "width"] swap2 swap2 := by
  obtain ⟨oc, od, kV, doc, pm, an, cdv, ct, osl, rfl, lk, hcd⟩ := F.ex
  refine ⟨fun s us ws _ hl => ?_, swap2_rel⟩
  match us, ws, hl with
  | [], [a, b], _ => exact .of_eq rfl
theorem kb_ofBits {f : Addr} {fd : FuncData} (F : Fun K "of_bits" "of_bits" sOfBits f fd) : KBinds K fd ["bits"] ["bits"] only1 only1 := by
  obtain ⟨oc, od, kV, doc, pm, an, cdv, ct, osl, rfl, lk, hcd⟩ := F.ex
  refine ⟨fun s us ws _ hl => ?_, only1_rel⟩
  match us, ws, hl with
  | [], [a], _ => exact .of_eq rfl
end
end P2
end Bf

namespace Bf
open PySem PySem.Spec PyProof.Rows L2
namespace P2
section
variable {P : Program} {w : World} {K : PySem.W.Frag} {mg : Str → Option Value} {base : Heap}
def spLaw (K : PySem.W.Frag) : Sp := fun vs H Q _ => ∃ (a : Addr) (ns : List Int), vs = [.ref a] ∧ SqL K H a (ns.map V.int) ∧ ns.length ≤ 63 ∧ ∀ H', Q (.bl true) H'
abbrev nLaw : List Str := ["_law_script", "_law_k", "_law_purse_here", "_law_size", "_law_number", "_law_due", "_law_found", "_law_row", "_law_bit", "_law_turn"]
theorem scLaw : FnScope nLaw ["_law_script"] (defScope sLaw) := ⟨rfl, rfl, rfl, by decide +kernel, rfl, by decide +kernel, by decide +kernel⟩
/-- what the law calls -/
structure Need (P : Program) (w : World) (K : PySem.W.Frag) (mg : Str → Option Value) (base : Heap) (cW cO cB fc fp ft fb fl fbo fob fr : Addr) (dc dp dt db dl dbo dob dr : FuncData) : Prop where
  DC : Df K mg "_law_cell" fc dc ["_law_script", "_law_k"]
  GC : FnOk P w K mg base CX0 2 fc dc ["_law_script", "_law_k"] (spCell K)
  DP : Df K mg "_law_purse" fp dp ["_law_cell_here"]
  GP : FnOk P w K mg base CX0 2 fp dp ["_law_cell_here"] spPurse
  DT : Df K mg "_law_take" ft dt ["_law_purse_here", "_law_many"]
  GT : FnOk P w K mg base CX0 2 ft dt ["_law_purse_here", "_law_many"] spTake
  DB : Df K mg "_law_bits" fb db ["_law_size", "_law_number"]
  GB : FnOk P w K mg base CX0 2 fb db ["_law_size", "_law_number"] spBits
  DL : Df K mg "_law_is_truth" fl dl ["_law_thing"]
  GL : FnOk P w K mg base CX0 2 fl dl ["_law_thing"] spLTruth
  Dbo : Df K mg "bits_of" fbo dbo ["width", "worth"]
  Gbo : FnOk P w K mg base (CXL P w) 5 fbo dbo ["width", "worth"] (spBitsOf K cW cO)
  kbo : KBinds K dbo ["width", "worth"] ["worth", "width"] swap2 swap2
  Dob : Df K mg "of_bits" fob dob ["bits"]
  Gob : FnOk P w K mg base (CXL P w) 5 fob dob ["bits"] (spOfBits K cB)
  kob : KBinds K dob ["bits"] ["bits"] only1 only1
  DR : Df K mg "_law_refused_right" fr dr ["_law_purse_here", "_law_size"]
  GR : FnG P w K mg base CX0 7 fr dr ["_law_purse_here", "_law_size"] spRef
  mr : mg "range" = none
  ml : mg "len" = none
  mp : mg "repr" = none
  mx : mg "max" = none
  mn : mg "min" = none
  mt : mg "tuple" = none
  ma : mg "all" = none
theorem ok_law {f cW cO cB fc fp ft fb fl fbo fob fr : Addr} {fd dc dp dt db dl dbo dob dr : FuncData} (F : Fun K "law" "law" sLaw f fd) (N : Need P w K mg base cW cO cB fc fp ft fb fl fbo fob fr dc dp dt db dl dbo dob dr) :
    FnG P w K mg base CX0 8 f fd ["_law_script"] (spLaw K) := by
  refine Fun.okG F scLaw (fun vs H Q E h => ?_) (fun cdv A outer s H vs Q E hA hr h => ?_)
  · obtain ⟨a, ns, rfl, _⟩ := h
    rfl
  · obtain ⟨a, ns, rfl, hS, hl, q⟩ := h
    have hr1 := hr.mono (by decide : 2 ≤ 7)
    have hr4 := hr.mono (by decide : 5 ≤ 7)
    have hA' : (A.deeper (envOfC "law" (defScope sLaw) s.heap.objs.size f cdv)).guards = some [] := hA
    refine ⟨_, pss_cons (ps_for PassesOwn.leaving rfl (pi_range1 (by rfl) N.mr (pa_cons (pe_callB (call_max2 rfl) (by rfl) N.mx (by decide +kernel) (pa_cons pe_int (pa_cons (pe_callB (call_min2 rfl) (by rfl) N.mn (by decide +kernel)
          (pa_cons pe_int (pa_cons (pe_callB call_len_seq (by rfl) N.ml PySem.boot_len (pa_cons (pv 0) pa_nil)) pa_nil))) pa_nil))) pa_nil)) (pg_name (i := 1) scLaw.nd rfl (Or.inl rfl))
        (pss_cons (ps_set (i := 2) scLaw.nd rfl (Or.inr rfl) (pe_call N.GP hr1 (by rfl) N.DP.at_ N.DP.kp N.DP.bd .nil pass0 (pa_cons (pe_call N.GC hr1 (by rfl) N.DC.at_ N.DC.kp N.DC.bd .nil pass0 (pa_cons (pv 0) (pa_cons (pv 1) pa_nil))) pa_nil)))
        (pss_cons (ps_set (i := 3) scLaw.nd rfl (Or.inl rfl) (pe_ix ix_list (pe_lst (pa_cons pe_int (pa_cons pe_int (pa_cons (pe_op op_add pe_int (pe_call N.GT hr1 (by rfl) N.DT.at_ N.DT.kp N.DT.bd .nil pass0 (pa_cons (pv 2) (pa_cons pe_int pa_nil)))) pa_nil))))
            (pe_call N.GT hr1 (by rfl) N.DT.at_ N.DT.kp N.DT.bd .nil pass0 (pa_cons (pv 2) (pa_cons pe_int pa_nil))) (fun _ _ => rfl)))
        (pss_cons (ps_for PassesOwn.leaving rfl (pi_range1 (by rfl) N.mr (pa_cons (pe_op op_shl pe_int (pv 3)) pa_nil)) (pg_name (i := 4) scLaw.nd rfl (Or.inl rfl))
          (pss_cons (ps_set (i := 5) scLaw.nd rfl (Or.inl rfl) (pe_call N.GB hr1 (by rfl) N.DB.at_ N.DB.kp N.DB.bd .nil pass0 (pa_cons (pv 3) (pa_cons (pv 4) pa_nil))))
          (pss_cons (ps_set (i := 6) scLaw.nd rfl (Or.inl rfl) (pe_call N.Gbo hr4 (by rfl) N.Dbo.at_ N.Dbo.kp N.Dbo.bd .nil passL (pa_cons (pv 3) (pa_cons (pv 4) pa_nil))))
          (pss_cons (ps_if (PW.pt (pw_or (pt_cmpR op_ne (pe_callB (call_repr hA' hr.units) (by rfl) N.mp (by decide +kernel) (pa_cons (pv 6) pa_nil)) (pe_callB (call_repr hA' hr.units) (by rfl) N.mp (by decide +kernel) (pa_cons (pv 5) pa_nil)) (nomark _))
              (pw_or1 (pt_cmpR op_ne (pe_callB (call_repr hA' hr.units) (by rfl) N.mp (by decide +kernel) (pa_cons (pe_call N.Gob hr4 (by rfl) N.Dob.at_ N.Dob.kp N.Dob.bd .nil passL (pa_cons (pe_callTy call_tuple_of (by rfl) N.mt (by decide +kernel) (pa_cons (pv 5) pa_nil)) pa_nil)) pa_nil))
                (pe_callB (call_repr hA' hr.units) (by rfl) N.mp (by decide +kernel) (pa_cons (pv 4) pa_nil)) (nomark _))))) (pss_one (ps_ret pe_bl)) pss_nil)
          (pss_cons (ps_expr (pe_bm PySem.F.plainAttrs_list PySem.F.slot_list_append PySem.F.type_list_append mt_append (pv 6) (pa_cons pe_int pa_nil)))
          (pss_one (ps_if (PW.pt (pw_or (pt_cmpR (op_neD hr.units) (pe_kw N.Gbo hr4 (by rfl) N.Dbo.at_ N.Dbo.kp N.kbo passL (pk_cons (pv 4) (pk_cons (pv 3) pk_nil))) (pv 5) (nomark _))
              (pw_or (pt_cmpR op_ne (pe_kw N.Gob hr4 (by rfl) N.Dob.at_ N.Dob.kp N.kob passL (pk_cons (pv 5) pk_nil)) (pv 4) (nomark _))
              (pw_or1 (pt_cmpR op_ne (pe_callB call_len_seq (by rfl) N.ml PySem.boot_len (pa_cons (pv 5) pa_nil)) (pv 3) (nomark _)))))) (pss_one (ps_ret pe_bl)) pss_nil)))))))
        (pss_cons (ps_setLc (i := 7) (own := [("_law_k", 1)]) (g := gName 1) (tt := tYes) (by rfl) scLaw.nd rfl rfl (sw_true rfl rfl rfl (by decide +kernel))
            (pi_range1 (by rfl) N.mr (pa_cons (pe_op op_add pe_int (pe_call N.GT hr1 (by rfl) N.DT.at_ N.DT.kp N.DT.bd .nil pass0 (pa_cons (pv 2) (pa_cons pe_int pa_nil)))) pa_nil))
            (blkOk_by (N := nLaw) (sc := defScope sLaw) (by decide +kernel)) (fun _ _ _ _ _ => pg_name (i := 1) scLaw.nd rfl (Or.inl rfl)) (fun _ _ _ _ _ => pts_nil)
            (fun _ _ _ _ _ => pe_call N.GT hr1 (by rfl) N.DT.at_ N.DT.kp N.DT.bd .nil pass0 (pa_cons (pv 2) (pa_cons pe_int pa_nil))))
        (pss_cons (ps_if (PW.pt (pw_or (pt_not (pt_val (pe_callB (cr_all rfl) (by rfl) N.ma (by decide +kernel) (pa_cons (pe_lc (own := [("_law_bit", 8)]) (g := gName 8) (tt := tYes) rfl scLaw.nd (pi_list (pv 7)) (blkOk_by (N := nLaw) (sc := defScope sLaw) (by decide +kernel))
              (fun _ _ _ _ _ => pg_name (i := 8) scLaw.nd rfl (Or.inl rfl)) (fun _ _ _ _ _ => pts_nil) (fun _ _ _ _ _ => pe_call N.GL hr1 (by rfl) N.DL.at_ N.DL.kp N.DL.bd .nil pass0 (pa_cons (pv 8) pa_nil))) pa_nil))))
            (pw_or1 (pt_cmpR (op_neD hr.units) (pe_call N.Gbo hr4 (by rfl) N.Dbo.at_ N.Dbo.kp N.Dbo.bd .nil passL (pa_cons (pe_callB call_len_seq (by rfl) N.ml PySem.boot_len (pa_cons (pv 7) pa_nil)) (pa_cons (pe_call N.Gob hr4 (by rfl) N.Dob.at_ N.Dob.kp N.Dob.bd .nil passL (pa_cons (pv 7) pa_nil)) pa_nil)))
              (pv 7) (nomark _))))) (pss_one (ps_ret pe_bl)) pss_nil)
        (pss_one (ps_for PassesOwn.leaving rfl (pi_range1 (by rfl) N.mr (pa_cons pe_int pa_nil)) (pg_name (i := 9) scLaw.nd rfl (Or.inl rfl))
          (pss_one (ps_if (pt_not (pt_val (pe_callG N.GR hA' hr (by rfl) N.DR.at_ N.DR.kp N.DR.bd pass0 (pa_cons (pv 2) (pa_cons (pv 3) pa_nil))))) (pss_one (ps_ret pe_bl)) pss_nil))))))))))
      (pss_one (ps_ret pe_bl)), ?_⟩
    have hcnt : ∀ l : Nat, 0 ≤ (if (if (l : Int) < 8 then (l : Int) else 8) > 2 then (if (l : Int) < 8 then (l : Int) else 8) else (2 : Int)) ∧ (if (if (l : Int) < 8 then (l : Int) else 8) > 2 then (if (l : Int) < 8 then (l : Int) else 8) else (2 : Int)) ≤ 8 := by
      intro l
      split <;> split <;> omega
    obtain ⟨c0, c8⟩ := hcnt (ns.map V.int).length
    refine ⟨_, rfl, a, _, rfl, .inl hS, _, _, rfl, _, _, rfl, _, rfl, Int.le_trans (by decide) c0, Int.lt_of_le_of_lt c8 (by decide), for_range (lo := 0) (n := _) (fun i σ H1 => (∃ v1 v2 v3 v4 v5 v6 v7 v8 v9, σ = [some (.ref a), v1, v2, v3, v4, v5, v6, v7, v8, v9]) ∧ SqL K H1 a (ns.map V.int))
      ⟨⟨_, _, _, _, _, _, _, _, _, rfl⟩, hS⟩ (fun i σ H1 hi pv => ?_) fun σ H1 pv => q H1⟩
    obtain ⟨⟨v1, v2, v3, v4, v5, v6, v7, v8, v9, rfl⟩, hS1⟩ := pv
    have hi8 : (i : Int) ≤ 8 := by omega
    refine ⟨_, rfl, _, rfl, a, ns, 0 + (i : Int), rfl, hS1, by omega, by omega, fun c => ⟨c, rfl, fun p H2 hp np eq2 pu2 => ?_⟩⟩
    have s2 : Same H1 H2 := fun b o e => (eq2 b (ne_of_none e hp)).trans e
    have tk : ∀ {H H' : Hp}, Same H1 H → (∀ b, b ≠ p → H' b = H b) → Same H1 H' := fun s e b o h => (e b (ne_of_none h hp)).trans (s b o h)
    have pn : ∀ {H : Hp} {m : Int} {b : Addr} {o : HO}, Purse H p m → H b = none → Purse (upd H b o) p m := fun {H m b o} pu hb => by
      obtain ⟨x, y, z, e, r⟩ := id pu
      exact pu.of (upd_ne (ne_free e hb).symm)
    have psm : ∀ {H H' : Hp} {m : Int}, Purse H p m → Same H H' → Purse H' p m := fun {H H' m} pu s => by
      obtain ⟨x, y, z, e, r⟩ := id pu
      exact pu.of ((s _ _ e).trans e.symm)
    -- the size
    refine ⟨_, rfl, p, 8, 0, rfl, pu2, by decide, by decide, by decide, fun d8 H3 e0 e1 pu3 eq3 => ⟨_, _, rfl, rfl, by show 3 ≤ sizeLine; decide, fun M hM => ?_⟩⟩
    have s3 := tk s2 eq3
    refine ⟨_, rfl, p, 3, 0 + 1, rfl, pn pu3 hM, by decide, by decide, by decide, fun d3 H4 b0 b1 pu4 eq4 => ?_⟩
    have s4 := tk (same_trans_new s3 hM) eq4
    obtain ⟨vz, mz, ez⟩ := pick (xs := [.int 1, .int 8, .int (1 + d8)]) b0 b1
    have nMp : M ≠ p := by
      obtain ⟨x, y, z, e, r⟩ := id pu3
      exact ne_free e hM
    refine ⟨M, _, d3, vz, rfl, rfl, SqL.of ((eq4 M nMp).trans upd_same), ez, ?_⟩
    obtain ⟨z, rfl, z1, z8⟩ : ∃ z, vz = V.int z ∧ 1 ≤ z ∧ z ≤ 8 := by
      simp only [List.mem_cons, List.not_mem_nil, or_false] at mz
      rcases mz with rfl | rfl | rfl
      · exact ⟨_, rfl, by decide, by decide⟩
      · exact ⟨_, rfl, by decide, by decide⟩
      · exact ⟨_, rfl, by omega, by omega⟩
    obtain ⟨T, hT, t2, t256⟩ : ∃ T : Int, (2 : Int) ^ z.toNat = T ∧ 2 ≤ T ∧ T ≤ 256 := by
      have c : z = 1 ∨ z = 2 ∨ z = 3 ∨ z = 4 ∨ z = 5 ∨ z = 6 ∨ z = 7 ∨ z = 8 := by omega
      rcases c with rfl | rfl | rfl | rfl | rfl | rfl | rfl | rfl <;> exact ⟨_, rfl, by decide, by decide⟩
    have htop : topW z = T - 1 := by unfold topW; rw [hT]
    have hTm : (1 : Int) * 2 ^ z.toNat = T := by rw [Int.one_mul, hT]
    -- all worths of the size
    refine ⟨_, rfl, _, _, rfl, rfl, ⟨by omega, by omega, by decide⟩, _, rfl, by omega, by omega, for_range (lo := 0) (n := ((1 : Int) * 2 ^ z.toNat).toNat) (fun i' σ H' => (∃ u1 u4 u5 u6 u7 u8 u9, σ = [some (.ref a), u1, some (.ref p), some (.int z), u4, u5, u6, u7, u8, u9]) ∧ Same H4 H')
      ⟨⟨_, _, _, _, _, _, _, rfl⟩, Same.refl _⟩ (fun i' σ H' hi' pv => ?_) fun σ H5 pv => ?_⟩
    · obtain ⟨⟨u1, u4, u5, u6, u7, u8, u9, rfl⟩, s5⟩ := pv
      have k0 : (0 : Int) ≤ 0 + (i' : Int) := by omega
      have kT : 0 + (i' : Int) < T := by omega
      generalize (0 + (i' : Int)) = k at k0 kT ⊢
      have kt : k ≤ topW z := by omega
      have bv : bitsV z k = (bitsI z.toNat k).map V.int := by
        unfold bitsV bitsI
        rw [List.map_map]
        rfl
      have lI : (bitsI z.toNat k).length = z.toNat := by unfold bitsI; rw [List.length_map, List.length_range]
      have hv : valB (bitsI z.toNat k) = k := valB_bits _ k k0 (by rw [hT]; exact kT)
      have th : ∀ {H : Hp} {q : Addr}, H q = some (.lst ((bitsI z.toNat k).map V.int)) → Thing H (fun _ => True) false (.ref q) (.list ((bitsI z.toNat k).map PyData.int)) := fun h => .ints h trivial (fun z => nomatch z) (by omega) fun i m => by
        have := bitsI_01 i m
        omega
      have hz : ((bitsI z.toNat k).map V.int).length ≤ 1000 := by rw [List.length_map, lI]; omega
      have hkn : ∀ {H : Hp}, ∀ y ∈ (bitsI z.toNat k).map V.int, ∃ m, Kn K H y m := fun y m => by
        obtain ⟨j, _, rfl⟩ := List.mem_map.mp m
        exact ⟨"int", .int j⟩
      have fate : Fate ((bitsI z.toNat k).map V.int) (some (valB (bitsI z.toNat k))) := .fine (by rw [List.length_map, lI]; omega) (by rw [List.length_map, lI]; omega) rfl bitsI_01
      have ok := okd_int (i := k) (by omega)
      have sh := shaped_ints (bitsI z.toNat k)
      have eq1 : PyData.eqv (.list ((bitsI z.toNat k).map PyData.int)) (.list ((bitsI z.toNat k).map PyData.int)) = true := SeqAt.eqv_refl _ (SeqAt.canLay_of_shaped sh)
      refine ⟨_, rfl, _, rfl, z, k, rfl, by omega, z8, k0, fun D1 H6 s6 h6 g6 => ?_⟩
      rw [bv] at g6
      refine ⟨_, rfl, _, rfl, .int z, .int k, "int", "int", rfl, .int z, .int k, .inr ⟨z, rfl, z1, z8, .inr ⟨k, rfl, k0, kt, fun F1 H7 s7 h7 g7 => ?_⟩⟩⟩
      rw [bv] at g7
      have t7 := th g7
      have g7D := s7 _ _ g6
      have t7D := th g7D
      refine ⟨_, rfl, .ref F1, _, false, _, rfl, t7.sh, t7.ok.sw, Nat.le_trans t7.ok.dp (by decide), t7.ok.shown (by decide), _, rfl, .ref D1, _, false, _, rfl, t7D.sh, t7D.ok.sw, Nat.le_trans t7D.ok.dp (by decide), t7D.ok.shown (by decide), rfl, _, rfl, iteNS rfl ?_⟩
      refine ⟨_, rfl, D1, _, rfl, .inl ⟨SqL.of g7D, fun t ht => ⟨.ref t, "tuple", rfl, .tup (.base (.tup upd_same)), .inr ⟨t, _, false, _, rfl, by decide, SqT.of upd_same, hz, hkn, fate, .inr ⟨_, rfl, fun H8 s8 => ?_⟩⟩⟩⟩⟩
      rw [hv]
      refine ⟨.int k, fun _ => True, false, _, rfl, .int k, ok.sw, Nat.le_trans ok.dp (by decide), ok.shown (by decide), _, rfl, .int k, fun _ => True, false, _, rfl, .int k, ok.sw, Nat.le_trans ok.dp (by decide), ok.shown (by decide), rfl, _, rfl, iteNS rfl ?_⟩
      have s78 : Same H7 H8 := (same_new ht).trans s8
      have g8F := s78 _ _ g7
      have g8D := s78 _ _ g7D
      refine ⟨_, rfl, .inl ⟨rfl, _, SqL.of g8F⟩, F1, _, _, rfl, rfl, g8F, small1000 hz, ?_⟩
      have nDF : D1 ≠ F1 := ne_of_none g6 h7
      have g9D : upd H8 F1 (.lst ((bitsI z.toNat k).map V.int ++ [.int 1])) D1 = some (.lst ((bitsI z.toNat k).map V.int)) := by rw [upd_ne nDF]; exact g8D
      refine ⟨_, rfl, _, rfl, .int z, .int k, "int", "int", rfl, .int z, .int k, .inr ⟨z, rfl, z1, z8, .inr ⟨k, rfl, k0, kt, fun F2 H9 s9 h9 g9 => ?_⟩⟩⟩
      rw [bv] at g9
      have gA := s9 _ _ g9D
      refine ⟨_, rfl, _, _, .lst (SqL.of g9) (dp_ints _), .lst (SqL.of gA) (dp_ints _), sh, sh, _, rfl, ?_⟩
      rw [eq1]
      refine iteF ⟨_, rfl, .ref D1, "list", rfl, .lst (.base (.lst gA)), .inr ⟨D1, _, true, _, rfl, by decide, SqL.of gA, hz, hkn, fate, .inr ⟨_, rfl, fun H10 s10 => ?_⟩⟩⟩
      refine ⟨_, rfl, rfl, _, rfl, iteNS (by rw [hv]) ?_⟩
      refine ⟨_, rfl, D1, _, rfl, .inl (SqL.of (s10 _ _ gA)), _, rfl, rfl, _, rfl, iteNS (by rw [List.length_map, lI]; congr 1; omega) ?_⟩
      refine ⟨⟨_, _, _, _, _, _, _, rfl⟩, fun b o e => ?_⟩
      have e6 := s6 _ _ (s5 _ _ e)
      have e8 := s78 _ _ (s7 _ _ e6)
      exact s10 _ _ (s9 _ _ (by rw [upd_ne (ne_of_none e6 h7)]; exact e8))
    · obtain ⟨⟨u1, u4, u5, u6, u7, u8, u9, rfl⟩, s5⟩ := pv
      have pu5 := psm pu4 s5
      have s15 := s4.trans s5
      -- a drawn row
      refine ⟨_, rfl, p, 8, 0 + 1 + 1, rfl, pu5, by decide, by decide, by decide, fun d6 H6 f0 f1 pu6 eq6 => ⟨_, _, rfl, rfl, _, rfl, by omega, by omega, fun B hB => ?_⟩⟩
      have s16 := tk s15 eq6
      have nBp : B ≠ p := by
        obtain ⟨x, y, z, e, r⟩ := id pu6
        exact ne_free e hB
      refine lc_range (lo := 0) (n := (1 + d6).toNat) (fun i H' => ∃ bs : List Int, bs.length = i ∧ (∀ b ∈ bs, 0 ≤ b ∧ b ≤ 1) ∧ H' B = some (.lst (bs.map V.int)) ∧ Kp (fun a => a ≠ p ∧ a ≠ B) H6 H' ∧ Purse H' p (3 + (i : Int)))
        ⟨[], rfl, (fun _ m => nomatch m), upd_same, kp_new hB, (pn pu6 hB).mono (by simp)⟩ (fun i H' hi pv => ?_) fun H7 pv => ?_
      · obtain ⟨bs, lb, hb, gB, kB, pB⟩ := pv
        refine ⟨rfl, _, rfl, p, 2, 3 + (i : Int), rfl, pB, by omega, by decide, by decide, fun d Hd c0 c1 pd ed => ⟨_, (ed B nBp).trans gB, by rw [List.length_map, lb]; exact small1000 (by omega), bs ++ [d], by rw [List.length_append, lb]; rfl, fun b m => ?_, ?_, fun a o q h => ?_, (pd.of (upd_ne nBp.symm)).mono (by omega)⟩⟩
        · rcases List.mem_append.mp m with m | m
          · exact hb b m
          · rw [List.mem_singleton.mp m]; omega
        · rw [upd_same, List.map_append]; rfl
        · rw [upd_ne q.2, ed a q.1]; exact kB a o q h
      · obtain ⟨bs, lb, hb, gB, kB, pB⟩ := pv
        have s17 : Same H1 H7 := fun b o e => kB b o ⟨ne_of_none e hp, ne_of_none (s16 _ _ e) hB⟩ (s16 _ _ e)
        have l1 : 1 ≤ bs.length := by omega
        have l8 : bs.length ≤ 8 := by omega
        have hz : (bs.map V.int).length ≤ 1000 := by rw [List.length_map]; omega
        have hkn : ∀ {H : Hp}, ∀ y ∈ bs.map V.int, ∃ m, Kn K H y m := fun y m => by
          obtain ⟨j, _, rfl⟩ := List.mem_map.mp m
          exact ⟨"int", .int j⟩
        have fate : Fate (bs.map V.int) (some (valB bs)) := .fine (by rw [List.length_map]; exact l1) (by rw [List.length_map]; exact l8) rfl hb
        obtain ⟨vb0, vb1⟩ := valB_lt bs hb
        have lz : (((bs.map V.int).length : Nat) : Int).toNat = bs.length := by rw [List.length_map]; rfl
        have bv : bitsV (((bs.map V.int).length : Nat) : Int) (valB bs) = bs.map V.int := by
          have e := bits_valB bs hb
          unfold bitsV
          rw [lz]
          conv => rhs; rw [← e]
          rw [List.map_map]
          rfl
        have sh := shaped_ints bs
        have eq1 : PyData.eqv (.list (bs.map PyData.int)) (.list (bs.map PyData.int)) = true := SeqAt.eqv_refl _ (SeqAt.canLay_of_shaped sh)
        -- all of it truths
        refine ⟨_, rfl, B, rfl, ⟨_, SqL.of gB⟩, fun D hD => lc_list (K := K) (a := B) (xs := bs.map V.int) (fun i H' => Same H7 H' ∧ H' D = some (.lst ((List.replicate i true).map V.bl))) ⟨same_new hD, upd_same⟩ (fun i H' _ pv => SqL.of (pv.1 _ _ gB)) (fun i y H' hy pv => ?_) fun H8 pv => ?_⟩
        · obtain ⟨j, mj, rfl⟩ := List.mem_map.mp (List.mem_of_getElem? hy)
          have hi := (List.getElem?_eq_some_iff.mp hy).1
          refine ⟨rfl, _, rfl, j, rfl, (hb j mj).1, (hb j mj).2, fun H9 s9 => ⟨_, s9 _ _ pv.2, by rw [List.length_map, List.length_replicate]; exact small1000 (by omega), fun b o e => ?_, ?_⟩⟩
          · rw [upd_ne (ne_of_none e hD)]
            exact s9 _ _ (pv.1 _ _ e)
          · rw [upd_same, List.replicate_succ', List.map_append]
            rfl
        · obtain ⟨s8, g8⟩ := pv
          have ea : (List.replicate (bs.map V.int).length true).all id = true := by simp
          refine ⟨D, _, rfl, SqL.of g8, _, rfl, ?_⟩
          rw [ea]
          have gB8 := s8 _ _ gB
          refine iteF ⟨_, rfl, B, _, rfl, .inl (SqL.of gB8), _, rfl, .ref B, "list", rfl, .lst (.base (.lst gB8)), .inr ⟨B, _, true, _, rfl, by decide, SqL.of gB8, hz, hkn, fate, .inr ⟨_, rfl, fun H9 s9 => ?_⟩⟩⟩
          have hlen : (1 : Int) ≤ (((bs.map V.int).length : Nat) : Int) ∧ (((bs.map V.int).length : Nat) : Int) ≤ 8 := by rw [List.length_map]; omega
          refine ⟨_, _, "int", "int", rfl, .int _, .int _, .inr ⟨_, rfl, hlen.1, hlen.2, .inr ⟨_, rfl, vb0, by unfold topW; rw [lz]; omega, fun F1 H10 s10 h10 g10 => ?_⟩⟩⟩
          rw [bv] at g10
          have gB10 := s10 _ _ (s9 _ _ gB8)
          refine ⟨_, rfl, _, _, .lst (SqL.of g10) (dp_ints _), .lst (SqL.of gB10) (dp_ints _), sh, sh, _, rfl, ?_⟩
          rw [eq1]
          refine iteF ?_
          have s1A : Same H1 H10 := ((s17.trans s8).trans s9).trans s10
          have puA : Purse H10 p 20 := (psm (psm (psm pB s8) s9) s10).mono (by omega)
          -- four turns of refusals
          refine ⟨4, rfl, by decide, by decide, for_range (lo := 0) (n := 4) (fun i' σ H' => (∃ w1 w4 w5 w6 w7 w8 w9, σ = [some (.ref a), w1, some (.ref p), some (.int z), w4, w5, w6, w7, w8, w9]) ∧ Same H1 H' ∧ Purse H' p (20 + 100 * (i' : Int)))
            ⟨⟨_, _, _, _, _, _, _, rfl⟩, s1A, puA.mono (by simp)⟩ (fun i' σ H' hi' pv => ?_) fun σ H' pv => ?_⟩
          · obtain ⟨⟨w1, w4, w5, w6, w7, w8, w9, rfl⟩, sA, pA⟩ := pv
            refine ⟨_, rfl, _, rfl, p, z, 20 + 100 * (i' : Int), rfl, z1, z8, pA, by omega, fun H'' kk pu' => ⟨_, rfl, iteF ?_⟩⟩
            exact ⟨⟨_, _, _, _, _, _, _, rfl⟩, fun b o e => kk b o (ne_of_none e hp) (sA _ _ e), pu'.mono (by omega)⟩
          · obtain ⟨⟨w1, w4, w5, w6, w7, w8, w9, rfl⟩, sA, pA⟩ := pv
            exact ⟨⟨_, _, _, _, _, _, _, _, _, rfl⟩, Same.seq sA hS1⟩
end
end P2
end Bf

namespace Bf
open PySem PySem.Spec PyProof.Rows L2
namespace P2
theorem all_mk {l : PySem.W.OpenLaw} {w : World} {K : PySem.W.Frag} {h : Heap} {mg : Str → Option Value} {fa : Addr} (X : K.In h) (G : h.Ns mainGlobals mg) (hfa : mg "law" = some (.ref fa))
    {fnb : Addr} {odnb annb : Option Addr} {slnb : Array (Option Value)} {ocnb kVnb dcnb pmnb cdnb ctnb : Value}
    {fwh : Addr} {odwh anwh : Option Addr} {slwh : Array (Option Value)} {ocwh kVwh dcwh pmwh cdwh ctwh : Value}
    {fwi : Addr} {odwi anwi : Option Addr} {slwi : Array (Option Value)} {ocwi kVwi dcwi pmwi cdwi ctwi : Value}
    {ftr : Addr} {odtr antr : Option Addr} {sltr : Array (Option Value)} {octr kVtr dctr pmtr cdtr cttr : Value}
    {fbo : Addr} {odbo anbo : Option Addr} {slbo : Array (Option Value)} {ocbo kVbo dcbo pmbo cdbo ctbo : Value}
    {fob : Addr} {odob anob : Option Addr} {slob : Array (Option Value)} {ocob kVob dcob pmob cdob ctob : Value}
    {fgr : Addr} {odgr angr : Option Addr} {slgr : Array (Option Value)} {ocgr kVgr dcgr pmgr cdgr ctgr : Value}
    {fwo : Addr} {odwo anwo : Option Addr} {slwo : Array (Option Value)} {ocwo kVwo dcwo pmwo cdwo ctwo : Value}
    {fil : Addr} {odil anil : Option Addr} {slil : Array (Option Value)} {ocil kVil dcil pmil cdil ctil : Value}
    {fce : Addr} {odce ance : Option Addr} {slce : Array (Option Value)} {occe kVce dcce pmce cdce ctce : Value}
    {fpu : Addr} {odpu anpu : Option Addr} {slpu : Array (Option Value)} {ocpu kVpu dcpu pmpu cdpu ctpu : Value}
    {fta : Addr} {odta anta : Option Addr} {slta : Array (Option Value)} {octa kVta dcta pmta cdta ctta : Value}
    {fbi : Addr} {odbi anbi : Option Addr} {slbi : Array (Option Value)} {ocbi kVbi dcbi pmbi cdbi ctbi : Value}
    {flt : Addr} {odlt anlt : Option Addr} {sllt : Array (Option Value)} {oclt kVlt dclt pmlt cdlt ctlt : Value}
    {fas : Addr} {odas anas : Option Addr} {slas : Array (Option Value)} {ocas kVas dcas pmas cdas ctas : Value}
    {fre : Addr} {odre anre : Option Addr} {slre : Array (Option Value)} {ocre kVre dcre pmre cdre ctre : Value}
    {fla : Addr} {odla anla : Option Addr} {slla : Array (Option Value)} {ocla kVla dcla pmla cdla ctla : Value}
    {CF fF : Addr} {odF anF : Option Addr} {slF : Array (Option Value)} {ocF kVF dcF pmF cdF ctF : Value}
    {CW fW : Addr} {odW anW : Option Addr} {slW : Array (Option Value)} {ocW kVW dcW pmW cdW ctW : Value} {nmW qW : Str} {NW : Addr} {bsW bmW : List Value} {snW : List Str} {subW : List Value} {abW : Bool} {colW : Option Bool} {ddW : Option Addr} {m0W m1W m2W m3W m5W : Option Value}
    {CO fO : Addr} {odO anO : Option Addr} {slO : Array (Option Value)} {ocO kVO dcO pmO cdO ctO : Value} {nmO qO : Str} {NO : Addr} {bsO bmO : List Value} {snO : List Str} {subO : List Value} {abO : Bool} {colO : Option Bool} {ddO : Option Addr} {m0O m1O m2O m3O m5O : Option Value}
    {CB fB : Addr} {odB anB : Option Addr} {slB : Array (Option Value)} {ocB kVB dcB pmB cdB ctB : Value} {nmB qB : Str} {NB : Addr} {bsB bmB : List Value} {snB : List Str} {subB : List Value} {abB : Bool} {colB : Option Bool} {ddB : Option Addr} {m0B m1B m2B m3B m5B : Option Value}
    (anb : PySem.W.nsIn K mainGlobals "is_number" = some (some (.ref fnb)))
    (lnb : K.lookup fnb = some ⟨ocnb, odnb, .func (PySem.W.fnOf "is_number" "is_number" (defArgs sNumber) (defBody sNumber) (defScope sNumber) .none kVnb dcnb pmnb annb cdnb ctnb), slnb⟩)
    (cnb : PySem.W.codeIn K cdnb "is_number" = true)
    (knb : PySem.W.keepIn K (.ref fnb) = true)
    (awh : PySem.W.nsIn K mainGlobals "is_whole" = some (some (.ref fwh)))
    (lwh : K.lookup fwh = some ⟨ocwh, odwh, .func (PySem.W.fnOf "is_whole" "is_whole" (defArgs sWhole) (defBody sWhole) (defScope sWhole) .none kVwh dcwh pmwh anwh cdwh ctwh), slwh⟩)
    (cwh : PySem.W.codeIn K cdwh "is_whole" = true)
    (kwh : PySem.W.keepIn K (.ref fwh) = true)
    (awi : PySem.W.nsIn K mainGlobals "is_width" = some (some (.ref fwi)))
    (lwi : K.lookup fwi = some ⟨ocwi, odwi, .func (PySem.W.fnOf "is_width" "is_width" (defArgs sWidth) (defBody sWidth) (defScope sWidth) .none kVwi dcwi pmwi anwi cdwi ctwi), slwi⟩)
    (cwi : PySem.W.codeIn K cdwi "is_width" = true)
    (kwi : PySem.W.keepIn K (.ref fwi) = true)
    (atr : PySem.W.nsIn K mainGlobals "is_truth" = some (some (.ref ftr)))
    (ltr : K.lookup ftr = some ⟨octr, odtr, .func (PySem.W.fnOf "is_truth" "is_truth" (defArgs sTruth) (defBody sTruth) (defScope sTruth) .none kVtr dctr pmtr antr cdtr cttr), sltr⟩)
    (ctr : PySem.W.codeIn K cdtr "is_truth" = true)
    (ktr : PySem.W.keepIn K (.ref ftr) = true)
    (abo : PySem.W.nsIn K mainGlobals "bits_of" = some (some (.ref fbo)))
    (lbo : K.lookup fbo = some ⟨ocbo, odbo, .func (PySem.W.fnOf "bits_of" "bits_of" (defArgs sBitsOf) (defBody sBitsOf) (defScope sBitsOf) .none kVbo dcbo pmbo anbo cdbo ctbo), slbo⟩)
    (cbo : PySem.W.codeIn K cdbo "bits_of" = true)
    (kbo : PySem.W.keepIn K (.ref fbo) = true)
    (aob : PySem.W.nsIn K mainGlobals "of_bits" = some (some (.ref fob)))
    (lob : K.lookup fob = some ⟨ocob, odob, .func (PySem.W.fnOf "of_bits" "of_bits" (defArgs sOfBits) (defBody sOfBits) (defScope sOfBits) .none kVob dcob pmob anob cdob ctob), slob⟩)
    (cob : PySem.W.codeIn K cdob "of_bits" = true)
    (kob : PySem.W.keepIn K (.ref fob) = true)
    (agr : PySem.W.nsIn K mainGlobals "_greatest" = some (some (.ref fgr)))
    (lgr : K.lookup fgr = some ⟨ocgr, odgr, .func (PySem.W.fnOf "_greatest" "_greatest" (defArgs sGreat) (defBody sGreat) (defScope sGreat) .none kVgr dcgr pmgr angr cdgr ctgr), slgr⟩)
    (cgr : PySem.W.codeIn K cdgr "_greatest" = true)
    (kgr : PySem.W.keepIn K (.ref fgr) = true)
    (awo : PySem.W.nsIn K mainGlobals "_is_worth_of_width" = some (some (.ref fwo)))
    (lwo : K.lookup fwo = some ⟨ocwo, odwo, .func (PySem.W.fnOf "_is_worth_of_width" "_is_worth_of_width" (defArgs sWorthOf) (defBody sWorthOf) (defScope sWorthOf) .none kVwo dcwo pmwo anwo cdwo ctwo), slwo⟩)
    (cwo : PySem.W.codeIn K cdwo "_is_worth_of_width" = true)
    (kwo : PySem.W.keepIn K (.ref fwo) = true)
    (ail : PySem.W.nsIn K mainGlobals "is_list" = some (some (.ref fil)))
    (lil : K.lookup fil = some ⟨ocil, odil, .func (PySem.W.fnOf "is_list" "is_list" (defArgs sIsList) (defBody sIsList) (defScope sIsList) .none kVil dcil pmil anil cdil ctil), slil⟩)
    (cil : PySem.W.codeIn K cdil "is_list" = true)
    (kil : PySem.W.keepIn K (.ref fil) = true)
    (ace : PySem.W.nsIn K mainGlobals "_law_cell" = some (some (.ref fce)))
    (lce : K.lookup fce = some ⟨occe, odce, .func (PySem.W.fnOf "_law_cell" "_law_cell" (defArgs sCell) (defBody sCell) (defScope sCell) .none kVce dcce pmce ance cdce ctce), slce⟩)
    (cce : PySem.W.codeIn K cdce "_law_cell" = true)
    (kce : PySem.W.keepIn K (.ref fce) = true)
    (apu : PySem.W.nsIn K mainGlobals "_law_purse" = some (some (.ref fpu)))
    (lpu : K.lookup fpu = some ⟨ocpu, odpu, .func (PySem.W.fnOf "_law_purse" "_law_purse" (defArgs sPurse) (defBody sPurse) (defScope sPurse) .none kVpu dcpu pmpu anpu cdpu ctpu), slpu⟩)
    (cpu : PySem.W.codeIn K cdpu "_law_purse" = true)
    (kpu : PySem.W.keepIn K (.ref fpu) = true)
    (ata : PySem.W.nsIn K mainGlobals "_law_take" = some (some (.ref fta)))
    (lta : K.lookup fta = some ⟨octa, odta, .func (PySem.W.fnOf "_law_take" "_law_take" (defArgs sTake) (defBody sTake) (defScope sTake) .none kVta dcta pmta anta cdta ctta), slta⟩)
    (cta : PySem.W.codeIn K cdta "_law_take" = true)
    (kta : PySem.W.keepIn K (.ref fta) = true)
    (abi : PySem.W.nsIn K mainGlobals "_law_bits" = some (some (.ref fbi)))
    (lbi : K.lookup fbi = some ⟨ocbi, odbi, .func (PySem.W.fnOf "_law_bits" "_law_bits" (defArgs sBits) (defBody sBits) (defScope sBits) .none kVbi dcbi pmbi anbi cdbi ctbi), slbi⟩)
    (cbi : PySem.W.codeIn K cdbi "_law_bits" = true)
    (kbi : PySem.W.keepIn K (.ref fbi) = true)
    (alt : PySem.W.nsIn K mainGlobals "_law_is_truth" = some (some (.ref flt)))
    (llt : K.lookup flt = some ⟨oclt, odlt, .func (PySem.W.fnOf "_law_is_truth" "_law_is_truth" (defArgs sLTruth) (defBody sLTruth) (defScope sLTruth) .none kVlt dclt pmlt anlt cdlt ctlt), sllt⟩)
    (clt : PySem.W.codeIn K cdlt "_law_is_truth" = true)
    (klt : PySem.W.keepIn K (.ref flt) = true)
    (aas : PySem.W.nsIn K mainGlobals "_law_asked" = some (some (.ref fas)))
    (las : K.lookup fas = some ⟨ocas, odas, .func (PySem.W.fnOf "_law_asked" "_law_asked" (defArgs sAsked) (defBody sAsked) (defScope sAsked) .none kVas dcas pmas anas cdas ctas), slas⟩)
    (cas : PySem.W.codeIn K cdas "_law_asked" = true)
    (kas : PySem.W.keepIn K (.ref fas) = true)
    (are : PySem.W.nsIn K mainGlobals "_law_refused_right" = some (some (.ref fre)))
    (lre : K.lookup fre = some ⟨ocre, odre, .func (PySem.W.fnOf "_law_refused_right" "_law_refused_right" (defArgs sRef) (defBody sRef) (defScope sRef) .none kVre dcre pmre anre cdre ctre), slre⟩)
    (cre : PySem.W.codeIn K cdre "_law_refused_right" = true)
    (kre : PySem.W.keepIn K (.ref fre) = true)
    (ala : PySem.W.nsIn K mainGlobals "law" = some (some (.ref fla)))
    (lla : K.lookup fla = some ⟨ocla, odla, .func (PySem.W.fnOf "law" "law" (defArgs sLaw) (defBody sLaw) (defScope sLaw) .none kVla dcla pmla anla cdla ctla), slla⟩)
    (cla : PySem.W.codeIn K cdla "law" = true)
    (kla : PySem.W.keepIn K (.ref fla) = true)
    (aF : PySem.W.nsIn K mainGlobals "FlowError" = some (some (.ref CF)))
    (rF : PySem.W.readsIn K CF (.type "type") = true)
    (gF : PySem.W.specialIn K (.ref CF) "__getattribute__" = some (some (.builtin "type.__getattribute__")))
    (vF : PySem.W.findCls K (.ref CF) (.type "type") "__init__" = some (.val (.ref fF)))
    (lF : K.lookup fF = some ⟨ocF, odF, .func (PySem.W.fnOf "__init__" "FlowError.__init__" (defArgs sFE) (defBody sFE) (defScope sFE) .none kVF dcF pmF anF cdF ctF), slF⟩)
    (cF : PySem.W.codeIn K cdF "FlowError.__init__" = true)
    (kF : PySem.W.keepIn K (.ref fF) = true)
    (vV : PySem.W.findCls K (.type "ValueError") (.type "type") "__init__" = some (.val (.builtin "ValueError.__init__")))
    (aW : PySem.W.nsIn K mainGlobals "NoWidth" = some (some (.ref CW)))
    (xW : K.lookup CW = some (excClassObj nmW qW CW NW bsW bmW true snW subW abW colW ddW m0W m1W m2W m3W m5W "ValueError.__new__"))
    (veW : PySem.HandSPX.refsVE bmW = true)
    (saW : PySem.W.findIn K (.ref CW) "__setattr__" = some (some (.builtin "object.__setattr__")))
    (gaW : PySem.W.findIn K (.ref CW) "__getattribute__" = some (some (.builtin "BaseException.__getattribute__")))
    (ggW : PySem.W.findIn K (.ref CW) "__getattr__" = some none)
    (nfW : PySem.W.findIn K (.ref CW) "found" = some none)
    (iW : PySem.W.findIn K (.ref CW) "__init__" = some (some (.ref fW)))
    (tW : PySem.W.typeIn K (.ref fW) = some (.type "function"))
    (lW : K.lookup fW = some ⟨ocW, odW, .func (PySem.W.fnOf "__init__" "NoWidth.__init__" (defArgs sNW) (defBody sNW) (defScope sNW) .none kVW dcW pmW anW cdW ctW), slW⟩)
    (cW : PySem.W.codeIn K cdW "NoWidth.__init__" = true)
    (kW : PySem.W.keepIn K (.ref fW) = true)
    (kCW : PySem.W.keepIn K (.ref CW) = true)
    (eCW : PySem.W.subIn K (.ref CW) (.type "BaseException") = some true)
    (tCW : PySem.W.typeIn K (.ref CW) = some (.type "type"))
    (hCW : PySem.W.hasDictIn K CW = true)
    (aO : PySem.W.nsIn K mainGlobals "NoWorth" = some (some (.ref CO)))
    (xO : K.lookup CO = some (excClassObj nmO qO CO NO bsO bmO true snO subO abO colO ddO m0O m1O m2O m3O m5O "ValueError.__new__"))
    (veO : PySem.HandSPX.refsVE bmO = true)
    (saO : PySem.W.findIn K (.ref CO) "__setattr__" = some (some (.builtin "object.__setattr__")))
    (gaO : PySem.W.findIn K (.ref CO) "__getattribute__" = some (some (.builtin "BaseException.__getattribute__")))
    (ggO : PySem.W.findIn K (.ref CO) "__getattr__" = some none)
    (nfO : PySem.W.findIn K (.ref CO) "found" = some none)
    (iO : PySem.W.findIn K (.ref CO) "__init__" = some (some (.ref fO)))
    (tO : PySem.W.typeIn K (.ref fO) = some (.type "function"))
    (lO : K.lookup fO = some ⟨ocO, odO, .func (PySem.W.fnOf "__init__" "NoWorth.__init__" (defArgs sNO) (defBody sNO) (defScope sNO) .none kVO dcO pmO anO cdO ctO), slO⟩)
    (cO : PySem.W.codeIn K cdO "NoWorth.__init__" = true)
    (kO : PySem.W.keepIn K (.ref fO) = true)
    (kCO : PySem.W.keepIn K (.ref CO) = true)
    (eCO : PySem.W.subIn K (.ref CO) (.type "BaseException") = some true)
    (tCO : PySem.W.typeIn K (.ref CO) = some (.type "type"))
    (hCO : PySem.W.hasDictIn K CO = true)
    (aB : PySem.W.nsIn K mainGlobals "NoBits" = some (some (.ref CB)))
    (xB : K.lookup CB = some (excClassObj nmB qB CB NB bsB bmB true snB subB abB colB ddB m0B m1B m2B m3B m5B "ValueError.__new__"))
    (veB : PySem.HandSPX.refsVE bmB = true)
    (saB : PySem.W.findIn K (.ref CB) "__setattr__" = some (some (.builtin "object.__setattr__")))
    (gaB : PySem.W.findIn K (.ref CB) "__getattribute__" = some (some (.builtin "BaseException.__getattribute__")))
    (ggB : PySem.W.findIn K (.ref CB) "__getattr__" = some none)
    (nfB : PySem.W.findIn K (.ref CB) "found" = some none)
    (iB : PySem.W.findIn K (.ref CB) "__init__" = some (some (.ref fB)))
    (tB : PySem.W.typeIn K (.ref fB) = some (.type "function"))
    (lB : K.lookup fB = some ⟨ocB, odB, .func (PySem.W.fnOf "__init__" "NoBits.__init__" (defArgs sNB) (defBody sNB) (defScope sNB) .none kVB dcB pmB anB cdB ctB), slB⟩)
    (cB : PySem.W.codeIn K cdB "NoBits.__init__" = true)
    (kB : PySem.W.keepIn K (.ref fB) = true)
    (kCB : PySem.W.keepIn K (.ref CB) = true)
    (eCB : PySem.W.subIn K (.ref CB) (.type "BaseException") = some true)
    (tCB : PySem.W.typeIn K (.ref CB) = some (.type "type"))
    (hCB : PySem.W.hasDictIn K CB = true)
    (sWW : PySem.W.subIn K (.ref CW) (.ref CW) = some true)
    (sOW : PySem.W.subIn K (.ref CO) (.ref CW) = some false)
    (sOO : PySem.W.subIn K (.ref CO) (.ref CO) = some true)
    (sBW : PySem.W.subIn K (.ref CB) (.ref CW) = some false)
    (sBO : PySem.W.subIn K (.ref CB) (.ref CO) = some false)
    (sBB : PySem.W.subIn K (.ref CB) (.ref CB) = some true)
    (zisinstance : PySem.W.nsIn K mainGlobals "isinstance" = some none)
    (zint : PySem.W.nsIn K mainGlobals "int" = some none)
    (zbool : PySem.W.nsIn K mainGlobals "bool" = some none)
    (zlist : PySem.W.nsIn K mainGlobals "list" = some none)
    (ztuple : PySem.W.nsIn K mainGlobals "tuple" = some none)
    (zrange : PySem.W.nsIn K mainGlobals "range" = some none)
    (zlen : PySem.W.nsIn K mainGlobals "len" = some none)
    (zall : PySem.W.nsIn K mainGlobals "all" = some none)
    (zenumerate : PySem.W.nsIn K mainGlobals "enumerate" = some none)
    (zValueError : PySem.W.nsIn K mainGlobals "ValueError" = some none)
    (zmax : PySem.W.nsIn K mainGlobals "max" = some none)
    (zmin : PySem.W.nsIn K mainGlobals "min" = some none)
    (zrepr : PySem.W.nsIn K mainGlobals "repr" = some none) :
    ∃ fd : FuncData, (∀ (s : Shared) (v : Value), BindsTo s fd ⟨[v], []⟩ [("_law_script", v)]) ∧ ∀ base : Heap, K.In base → base.Ns mainGlobals mg → FnG l.prog w K mg base CX0 8 fa fd ["_law_script"] (spLaw K) := by
  have e := hfa.symm.trans (PySem.W.mg_of X G ala)
  cases e
  have Fnb := fun_mk (st := sNumber) lnb cnb knb
  have bnb := Fnb.binds (ps := ["thing"]) fun _ _ _ _ _ _ us hl => match us, hl with | [_], _ => rfl
  have Dnb : Df K mg "is_number" fnb _ ["thing"] := ⟨PySem.W.mg_of X G anb, knb, bnb⟩
  have Fwh := fun_mk (st := sWhole) lwh cwh kwh
  have bwh := Fwh.binds (ps := ["thing", "low", "high"]) fun _ _ _ _ _ _ us hl => match us, hl with | [_, _, _], _ => rfl
  have Dwh : Df K mg "is_whole" fwh _ ["thing", "low", "high"] := ⟨PySem.W.mg_of X G awh, kwh, bwh⟩
  have Fwi := fun_mk (st := sWidth) lwi cwi kwi
  have bwi := Fwi.binds (ps := ["thing"]) fun _ _ _ _ _ _ us hl => match us, hl with | [_], _ => rfl
  have Dwi : Df K mg "is_width" fwi _ ["thing"] := ⟨PySem.W.mg_of X G awi, kwi, bwi⟩
  have Ftr := fun_mk (st := sTruth) ltr ctr ktr
  have btr := Ftr.binds (ps := ["thing"]) fun _ _ _ _ _ _ us hl => match us, hl with | [_], _ => rfl
  have Dtr : Df K mg "is_truth" ftr _ ["thing"] := ⟨PySem.W.mg_of X G atr, ktr, btr⟩
  have Fbo := fun_mk (st := sBitsOf) lbo cbo kbo
  have bbo := Fbo.binds (ps := ["width", "worth"]) fun _ _ _ _ _ _ us hl => match us, hl with | [_, _], _ => rfl
  have Dbo : Df K mg "bits_of" fbo _ ["width", "worth"] := ⟨PySem.W.mg_of X G abo, kbo, bbo⟩
  have Fob := fun_mk (st := sOfBits) lob cob kob
  have bob := Fob.binds (ps := ["bits"]) fun _ _ _ _ _ _ us hl => match us, hl with | [_], _ => rfl
  have Dob : Df K mg "of_bits" fob _ ["bits"] := ⟨PySem.W.mg_of X G aob, kob, bob⟩
  have Fgr := fun_mk (st := sGreat) lgr cgr kgr
  have bgr := Fgr.binds (ps := ["width"]) fun _ _ _ _ _ _ us hl => match us, hl with | [_], _ => rfl
  have Dgr : Df K mg "_greatest" fgr _ ["width"] := ⟨PySem.W.mg_of X G agr, kgr, bgr⟩
  have Fwo := fun_mk (st := sWorthOf) lwo cwo kwo
  have bwo := Fwo.binds (ps := ["thing", "width"]) fun _ _ _ _ _ _ us hl => match us, hl with | [_, _], _ => rfl
  have Dwo : Df K mg "_is_worth_of_width" fwo _ ["thing", "width"] := ⟨PySem.W.mg_of X G awo, kwo, bwo⟩
  have Fil := fun_mk (st := sIsList) lil cil kil
  have bil := Fil.binds (ps := ["thing"]) fun _ _ _ _ _ _ us hl => match us, hl with | [_], _ => rfl
  have Dil : Df K mg "is_list" fil _ ["thing"] := ⟨PySem.W.mg_of X G ail, kil, bil⟩
  have Fce := fun_mk (st := sCell) lce cce kce
  have bce := Fce.binds (ps := ["_law_script", "_law_k"]) fun _ _ _ _ _ _ us hl => match us, hl with | [_, _], _ => rfl
  have Dce : Df K mg "_law_cell" fce _ ["_law_script", "_law_k"] := ⟨PySem.W.mg_of X G ace, kce, bce⟩
  have Fpu := fun_mk (st := sPurse) lpu cpu kpu
  have bpu := Fpu.binds (ps := ["_law_cell_here"]) fun _ _ _ _ _ _ us hl => match us, hl with | [_], _ => rfl
  have Dpu : Df K mg "_law_purse" fpu _ ["_law_cell_here"] := ⟨PySem.W.mg_of X G apu, kpu, bpu⟩
  have Fta := fun_mk (st := sTake) lta cta kta
  have bta := Fta.binds (ps := ["_law_purse_here", "_law_many"]) fun _ _ _ _ _ _ us hl => match us, hl with | [_, _], _ => rfl
  have Dta : Df K mg "_law_take" fta _ ["_law_purse_here", "_law_many"] := ⟨PySem.W.mg_of X G ata, kta, bta⟩
  have Fbi := fun_mk (st := sBits) lbi cbi kbi
  have bbi := Fbi.binds (ps := ["_law_size", "_law_number"]) fun _ _ _ _ _ _ us hl => match us, hl with | [_, _], _ => rfl
  have Dbi : Df K mg "_law_bits" fbi _ ["_law_size", "_law_number"] := ⟨PySem.W.mg_of X G abi, kbi, bbi⟩
  have Flt := fun_mk (st := sLTruth) llt clt klt
  have blt := Flt.binds (ps := ["_law_thing"]) fun _ _ _ _ _ _ us hl => match us, hl with | [_], _ => rfl
  have Dlt : Df K mg "_law_is_truth" flt _ ["_law_thing"] := ⟨PySem.W.mg_of X G alt, klt, blt⟩
  have Fas := fun_mk (st := sAsked) las cas kas
  have bas := Fas.binds (ps := ["_law_way", "_law_one", "_law_other"]) fun _ _ _ _ _ _ us hl => match us, hl with | [_, _, _], _ => rfl
  have Das : Df K mg "_law_asked" fas _ ["_law_way", "_law_one", "_law_other"] := ⟨PySem.W.mg_of X G aas, kas, bas⟩
  have Fre := fun_mk (st := sRef) lre cre kre
  have bre := Fre.binds (ps := ["_law_purse_here", "_law_size"]) fun _ _ _ _ _ _ us hl => match us, hl with | [_, _], _ => rfl
  have Dre : Df K mg "_law_refused_right" fre _ ["_law_purse_here", "_law_size"] := ⟨PySem.W.mg_of X G are, kre, bre⟩
  have Fla := fun_mk (st := sLaw) lla cla kla
  have FF := fun_mk (st := sFE) lF cF kF
  have bF := FF.binds (ps := ["self", "text"]) fun _ _ _ _ _ _ us hl => match us, hl with | [_, _], _ => rfl
  have FW := fun_mk (st := sNW) lW cW kW
  have bW := FW.binds (ps := ["self", "found"]) fun _ _ _ _ _ _ us hl => match us, hl with | [_, _], _ => rfl
  have OW : OexC K CW := ⟨⟨_, _, _, _, _, _, _, _, _, _, _, _, _, _, _, xW, veW⟩, saW, eCW, tCW, kCW⟩
  have TW : ExT K mg "NoWidth" CW fW _ := ⟨PySem.W.mg_of X G aW, OW, iW, tW, nfW, ⟨gaW, ggW, eCW, hCW⟩, bW⟩
  have FO := fun_mk (st := sNO) lO cO kO
  have bO := FO.binds (ps := ["self", "found"]) fun _ _ _ _ _ _ us hl => match us, hl with | [_, _], _ => rfl
  have OO : OexC K CO := ⟨⟨_, _, _, _, _, _, _, _, _, _, _, _, _, _, _, xO, veO⟩, saO, eCO, tCO, kCO⟩
  have TO : ExT K mg "NoWorth" CO fO _ := ⟨PySem.W.mg_of X G aO, OO, iO, tO, nfO, ⟨gaO, ggO, eCO, hCO⟩, bO⟩
  have FB := fun_mk (st := sNB) lB cB kB
  have bB := FB.binds (ps := ["self", "found"]) fun _ _ _ _ _ _ us hl => match us, hl with | [_, _], _ => rfl
  have OB : OexC K CB := ⟨⟨_, _, _, _, _, _, _, _, _, _, _, _, _, _, _, xB, veB⟩, saB, eCB, tCB, kCB⟩
  have TB : ExT K mg "NoBits" CB fB _ := ⟨PySem.W.mg_of X G aB, OB, iB, tB, nfB, ⟨gaB, ggB, eCB, hCB⟩, bB⟩
  have EX : Exm K CW CO CB := ⟨PySem.W.exm_ref eCW hCW tCW sWW, PySem.W.exm_ref eCW hCW tCW sOW, PySem.W.exm_ref eCO hCO tCO sOO, PySem.W.exm_ref eCW hCW tCW sBW, PySem.W.exm_ref eCO hCO tCO sBO, PySem.W.exm_ref eCB hCB tCB sBB⟩
  have misinstance := PySem.W.mg_none_of X G zisinstance
  have mint := PySem.W.mg_none_of X G zint
  have mbool := PySem.W.mg_none_of X G zbool
  have mlist := PySem.W.mg_none_of X G zlist
  have mtuple := PySem.W.mg_none_of X G ztuple
  have mrange := PySem.W.mg_none_of X G zrange
  have mlen := PySem.W.mg_none_of X G zlen
  have mall := PySem.W.mg_none_of X G zall
  have menumerate := PySem.W.mg_none_of X G zenumerate
  have mValueError := PySem.W.mg_none_of X G zValueError
  have mmax := PySem.W.mg_none_of X G zmax
  have mmin := PySem.W.mg_none_of X G zmin
  have mrepr := PySem.W.mg_none_of X G zrepr
  refine ⟨PySem.W.fnOf "law" "law" (defArgs sLaw) (defBody sLaw) (defScope sLaw) .none kVla dcla pmla anla cdla ctla, fun s v => .of_eq rfl, fun base _ _ => ?_⟩
  have BT : BaseT l.prog w K mg base (.type "type") CF fF _ := ⟨PySem.W.mg_of X G aF, ⟨rF, gF⟩, vF, kF, bF, ok_FE FF mValueError vV⟩
  have Gnb : FnOk l.prog w K mg base CX0 1 fnb _ _ _ := ok_num Fnb misinstance mint mbool
  have Gwh : FnOk l.prog w K mg base CX0 2 fwh _ _ _ := ok_whole Fwh Dnb Gnb
  have Gwi : FnOk l.prog w K mg base CX0 3 fwi _ _ _ := ok_width Fwi Dwh Gwh
  have Gtr : FnOk l.prog w K mg base CX0 3 ftr _ _ _ := ok_truth Ftr Dwh Gwh
  have Ggr : FnOk l.prog w K mg base CX0 2 fgr _ _ _ := ok_great Fgr
  have Gwo : FnOk l.prog w K mg base CX0 3 fwo _ _ _ := ok_worthOf Fwo Dwh Gwh Dgr Ggr
  have Gil : FnOk l.prog w K mg base CX0 2 fil _ _ _ := ok_isList Fil misinstance mlist mtuple
  have GW : FnOk l.prog w K mg base CX0 3 fW _ _ _ := ok_NW FW BT OW nfW
  have GO : FnOk l.prog w K mg base CX0 3 fO _ _ _ := ok_NO FO BT OO nfO
  have GB : FnOk l.prog w K mg base CX0 3 fB _ _ _ := ok_NB FB BT OB nfB
  have Gbo := ok_bitsOf Fbo TW TO GW GO Dwi Gwi Dwo Gwo mrange
  have Gob := ok_ofBits Fob TB GB Dtr Gtr Dil Gil mlen mall menumerate
  have Gta : FnOk l.prog w K mg base CX0 2 fta _ _ _ := ok_take Fta
  have Gas := ok_asked Fas TW TO TB EX Dbo Gbo Dob Gob
  exact ok_law Fla ⟨Dce, ok_cell Fce mlen, Dpu, ok_purse Fpu mmax, Dta, Gta, Dbi, ok_bits Fbi mrange, Dlt, ok_ltruth Flt misinstance mint mbool, Dbo, Gbo, kb_bitsOf Fbo, Dob, Gob, kb_ofBits Fob, Dre, ok_ref Fre Dta Gta Das Gas mrange mlen mrepr misinstance mlist,
    mrange, mlen, mrepr, mmax, mmin, mtuple, mall⟩
end P2
end Bf

open PySem PySem.W PyProof.Rows in
set_option maxRecDepth 100000 in
set_option maxHeartbeats 0 in
theorem PySem.Challenge.cw_beatflows_k02_bits_of_worths_holds : PySem.Challenge.rw_beatflows_k02_bits_of_worths.Holds := by
  w_on; o_law; k_head; (case hw => w_witness2)
  k_fill
  refine Bf.walkG (l := PySem.Challenge.rw_beatflows_k02_bits_of_worths) (n := 63) (k := 8) (x := "_law_script") (sp := Bf.P2.spLaw) rfl (by decide) rfl ⟨rfl, by decide, by decide⟩ (fun w h Y => PySem.W.kIn_of Y) ?F
    (fun K H a ns hl hS _ => ⟨a, ns, rfl, hS, hl, fun _ => rfl⟩)
  case F =>
    intro w mg fa h KX G hmg
    refine' Bf.P2.all_mk KX G hmg ?anb ?lnb ?cnb ?knb ?awh ?lwh ?cwh ?kwh ?awi ?lwi ?cwi ?kwi ?atr ?ltr ?ctr ?ktr ?abo ?lbo ?cbo ?kbo ?aob ?lob ?cob ?kob ?agr ?lgr ?cgr ?kgr ?awo ?lwo ?cwo ?kwo ?ail ?lil ?cil ?kil ?ace ?lce ?cce ?kce ?apu ?lpu ?cpu ?kpu ?ata ?lta ?cta ?kta ?abi ?lbi ?cbi ?kbi ?alt ?llt ?clt ?klt ?aas ?las ?cas ?kas ?are ?lre ?cre ?kre ?ala ?lla ?cla ?kla ?aF ?rF ?gF ?vF ?lF ?cF ?kF ?vV ?aW ?xW ?veW ?saW ?gaW ?ggW ?nfW ?iW ?tW ?lW ?cW ?kW ?kCW ?eCW ?tCW ?hCW ?aO ?xO ?veO ?saO ?gaO ?ggO ?nfO ?iO ?tO ?lO ?cO ?kO ?kCO ?eCO ?tCO ?hCO ?aB ?xB ?veB ?saB ?gaB ?ggB ?nfB ?iB ?tB ?lB ?cB ?kB ?kCB ?eCB ?tCB ?hCB ?sWW ?sOW ?sOO ?sBW ?sBO ?sBB ?zisinstance ?zint ?zbool ?zlist ?ztuple ?zrange ?zlen ?zall ?zenumerate ?zValueError ?zmax ?zmin ?zrepr
    (case anb => k_is)
    (case lnb => k_is)
    (case cnb => k_is)
    (case knb => k_is)
    (case awh => k_is)
    (case lwh => k_is)
    (case cwh => k_is)
    (case kwh => k_is)
    (case awi => k_is)
    (case lwi => k_is)
    (case cwi => k_is)
    (case kwi => k_is)
    (case atr => k_is)
    (case ltr => k_is)
    (case ctr => k_is)
    (case ktr => k_is)
    (case abo => k_is)
    (case lbo => k_is)
    (case cbo => k_is)
    (case kbo => k_is)
    (case aob => k_is)
    (case lob => k_is)
    (case cob => k_is)
    (case kob => k_is)
    (case agr => k_is)
    (case lgr => k_is)
    (case cgr => k_is)
    (case kgr => k_is)
    (case awo => k_is)
    (case lwo => k_is)
    (case cwo => k_is)
    (case kwo => k_is)
    (case ail => k_is)
    (case lil => k_is)
    (case cil => k_is)
    (case kil => k_is)
    (case ace => k_is)
    (case lce => k_is)
    (case cce => k_is)
    (case kce => k_is)
    (case apu => k_is)
    (case lpu => k_is)
    (case cpu => k_is)
    (case kpu => k_is)
    (case ata => k_is)
    (case lta => k_is)
    (case cta => k_is)
    (case kta => k_is)
    (case abi => k_is)
    (case lbi => k_is)
    (case cbi => k_is)
    (case kbi => k_is)
    (case alt => k_is)
    (case llt => k_is)
    (case clt => k_is)
    (case klt => k_is)
    (case aas => k_is)
    (case las => k_is)
    (case cas => k_is)
    (case kas => k_is)
    (case are => k_is)
    (case lre => k_is)
    (case cre => k_is)
    (case kre => k_is)
    (case ala => k_is)
    (case lla => k_is)
    (case cla => k_is)
    (case kla => k_is)
    (case aF => k_is)
    (case rF => k_is)
    (case gF => k_is)
    (case vF => k_is)
    (case lF => k_is)
    (case cF => k_is)
    (case kF => k_is)
    (case vV => k_is)
    (case aW => k_is)
    (case xW => k_is)
    (case veW => first | rfl | decide +kernel)
    (case saW => k_is)
    (case gaW => k_is)
    (case ggW => k_is)
    (case nfW => k_is)
    (case iW => k_is)
    (case tW => k_is)
    (case lW => k_is)
    (case cW => k_is)
    (case kW => k_is)
    (case kCW => k_is)
    (case eCW => k_is)
    (case tCW => k_is)
    (case hCW => k_is)
    (case aO => k_is)
    (case xO => k_is)
    (case veO => first | rfl | decide +kernel)
    (case saO => k_is)
    (case gaO => k_is)
    (case ggO => k_is)
    (case nfO => k_is)
    (case iO => k_is)
    (case tO => k_is)
    (case lO => k_is)
    (case cO => k_is)
    (case kO => k_is)
    (case kCO => k_is)
    (case eCO => k_is)
    (case tCO => k_is)
    (case hCO => k_is)
    (case aB => k_is)
    (case xB => k_is)
    (case veB => first | rfl | decide +kernel)
    (case saB => k_is)
    (case gaB => k_is)
    (case ggB => k_is)
    (case nfB => k_is)
    (case iB => k_is)
    (case tB => k_is)
    (case lB => k_is)
    (case cB => k_is)
    (case kB => k_is)
    (case kCB => k_is)
    (case eCB => k_is)
    (case tCB => k_is)
    (case hCB => k_is)
    (case sWW => first | k_is | rfl)
    (case sOW => first | k_is | rfl)
    (case sOO => first | k_is | rfl)
    (case sBW => first | k_is | rfl)
    (case sBO => first | k_is | rfl)
    (case sBB => first | k_is | rfl)
    (case zisinstance => k_is)
    (case zint => k_is)
    (case zbool => k_is)
    (case zlist => k_is)
    (case ztuple => k_is)
    (case zrange => k_is)
    (case zlen => k_is)
    (case zall => k_is)
    (case zenumerate => k_is)
    (case zValueError => k_is)
    (case zmax => k_is)
    (case zmin => k_is)
    (case zrepr => k_is)
