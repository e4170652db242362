import PyProof.Rows.All
import Wide.All
import OpenK.AllK
import Wide.FinOn
import HandS.ForMost
import HandS.ForExc
import HandS.ExcInit
import HandS.ExcField
import HandS.IsInst
import HandS.ClsMeth
import HandS.ForSpec
import KE.GoesMore
import HandS.Style
import HandS.TupAny
import HandS.Zip
import HandS.MakeKwOnly
import KE.DataCmp
import HandS.CallSlots
import HandS.WideBits
import KE.BitLaws
import HandS.ExcIs
import PySem.Challenge.RW_beatflows_k03_words_of_reckoning
set_option Elab.async false
set_option maxRecDepth 100000

/-! Own rules over the hand layer, for all laws of this program: calls by keywords alone, a base's __init__ by its class's name, several except clauses with names, repr of data. -/
namespace Bf
open PySem PySem.Spec PyProof.Rows L2

/-! ### f(k = v, ..) -/
section
variable {X : Cx} {CX : CXT} {k : Nat} {f : Addr} {fd : FuncData} {ps ks : List Str} {sp : Sp} {E : XK} {x : Str} {p pos : Pos} {kws : List Keyword} {tk : TA}
  {g : List Value → List Value → List Value} {gV : List V → List V → List V}
def tKw (sp : Sp) (gV : List V → List V → List V) (E : XK) (tk : TA) : TE := fun σ H Q => tk σ H fun zs H2 => sp (gV [] zs) H2 Q E
theorem pe_kw (F : FnOk X.prog X.w X.K X.mg X.base CX k f fd ps sp) (hr : Room k X.A) (hg : Gl X x) (hm : X.mg x = some (.ref f))
    (hk : PySem.W.keepIn X.K (.ref f) = true) (hb : KBinds X.K fd ps ks g gV) (hx : Passes CX X E) (hkw : PK X kws tk)
    (h1 : (backToKw pos (keywordEach kws X.env)).all (·.1.isSome) = true := by rfl)
    (h2 : (backToKw pos (keywordEach kws X.env)).filterMap (·.1) = ks := by rfl)
    (h3 : (x == ("__debug__" : Str)) = false := by decide)
    (h4 : ((backTo pos (starEach [] X.env)).any (·.1) || (backToKw pos (keywordEach kws X.env)).any (·.1.isNone)) = false := by rfl) :
    PE X (.Call (.Name x p) [] kws pos) (tKw sp gV E tk) := ⟨fun pins s σ H Q I h => by
  refine wpAny_Call_Name_kw (ld_glob I hg hm (PySem.W.callWith_KW0 (h₀ := X.base) I.ok.mod.kin hk h1 (thn (hkw.run pos pins s σ H _ I h) ?_) h4) h3)
  intro ws s2 q
  obtain ⟨zs, H2, I2, rz, q2⟩ := q
  refine ⟨I2.kIn, ?_⟩
  rw [h2]
  exact run_fnk (us := []) (vs := []) F hr hb hx I2 .nil rz q2⟩
end

/-! ### C.m(e, ..), C a class of the text, m a def of it -/
section
variable {X : Cx} {CX : CXT} {k : Nat} {f C : Addr} {fd : FuncData} {ps : List Str} {sp : Sp} {E : XK} {x m : Str} {p1 p2 pos : Pos} {e : Expr} {es : List Expr} {t : TA} {mc : Value}
theorem pe_clsFn {pl : Sem Bool} (F : FnOk X.prog X.w X.K X.mg X.base CX k f fd ps sp) (hr : Room k X.A) (hg : Gl X x) (hm : X.mg x = some (.ref C))
    (rd : ClX.CRead X.K C mc) (va : PySem.W.findCls X.K (.ref C) mc m = some (.val (.ref f))) (hk : PySem.W.keepIn X.K (.ref f) = true) (hb : Binds X.K fd ps []) (hx : Passes CX X E) (ha : PA X (e :: es) t)
    (hc : eval (.Call (.Attribute (.Name x p1) m p2) (e :: es) [] pos) X.env = (do
      let ov ← eval (.Name x p1) X.env
      standAt p2.atName
      let (g, first) ← holding [ov] (getMethod ov m pl)
      callWith pos g first (backTo pos (starEach (e :: es) X.env)) (backToKw pos (keywordEach [] X.env))) := by rfl)
    (hdb : (x == ("__debug__" : Str)) = false := by decide)
    (he : starEach (e :: es) X.env = (false, eval e X.env) :: starEach es X.env := by rfl) (hpl : (backTo pos (starEach es X.env)).any (·.1) = false := by rfl) :
    PE X (.Call (.Attribute (.Name x p1) m p2) (e :: es) [] pos) (tCall sp [] E t) := ⟨fun pins s σ H Q I h => by
  refine PySem.W.methodCall_KW (ld_glob I hg hm ?_ hdb) hc
  refine PySem.W.method_cls I.kIn rd.ga (PySem.W.cls_value I.kIn rd.rd va rfl ?_)
  have I' := I.tok (X := X) (s.toks + 1)
  exact PySem.W.callWith_K (h₀ := X.base) I.ok.mod.kin hk (thn (ha.run pos pins _ σ H _ I' h) fun us s1 ⟨vs, H1, I1, r, q⟩ => ⟨I1.kIn, run_fn F hr hb .nil hx I1 r q⟩) he hpl⟩
end

/-! ### try: body, several clauses «except C as n: suite»; what follows them is never reached -/
structure Arm where
  c : Value
  i : Nat
  ts : Addr → Value → Option Addr → TS
/-- behind a suite the clause's name is gone -/
def Gone (i : Nat) (D : Ends) : Ends where
  nx := fun σ H => D.nx (σ.set i none) H
  rt := D.rt
  bk := fun σ H => D.bk (σ.set i none) H
  ct := fun σ H => D.ct (σ.set i none) H
def wArms (K : PySem.W.Frag) (D : Ends) : List Arm → WX
  | [] => fun _ _ _ _ => False
  | m :: r => fun cls d σ H => ∃ b, PySem.W.exmOne K cls m.c = some b ∧ (b = true → ∀ a, H a = none → m.ts a cls d (Gone m.i D) (σ.set m.i (some (.ref a))) H) ∧ (b = false → wArms K D r cls d σ H)
inductive Arms (X : Cx) : List ExceptHandler → List Arm → Prop
  | nil {hds : List ExceptHandler} : Arms X hds []
  | cons {x n : Str} {c : Value} {i : Nat} {ts : Addr → Value → Option Addr → TS} {b0 : Stmt} {suite : List Stmt} {np pos' : Pos} {hds : List ExceptHandler} {l : List Arm}
      (hc : Names X x c) (hi : X.N[i]? = some n) (hl : X.env.kindOf n = some .local)
      (hsu : ∀ (a : Addr) (oe : Obj) (cls : Value) (d : Option Addr) (pn : List (Addr × Obj)), Zc cls d oe → (∃ vs, oe.data = .fields vs) → PSs (X.suite a ((a, oe) :: pn)) (b0 :: suite) (ts a cls d))
      (r : Arms X hds l) : Arms X (.ExceptHandler (some (.Name x np)) (some n) (b0 :: suite) pos' :: hds) (⟨c, i, ts⟩ :: l)

section
variable {X : Cx} {pins : List (Addr × Obj)} {σ : L2.St} {H : Hp} {sI s' : Shared} {B : Heap} {a : Addr} {cls : Value} {d : Option Addr} {D : Ends}
/-- an exception noted and landed meets the clauses -/
theorem arms_go (hs : X.stack = X.env :: X.outer) (hf : X.env.frame = some X.env.locals) (hN : X.N.Nodup) (J : L2.Inv X pins σ H sI) (na : H a = none)
    (nb : ∀ b o, sI.heap.get? b = some o → b ∉ frs X.stack → B.get? b = some o) (os : s'.os = sI.os) (ag : AllBare s'.gens) (up : sI.heap.UpToSlots s'.heap)
    (fl : HandSPX.FlyingZ B (X.env :: X.outer) a (Zc cls d) s'.heap) {hds : List ExceptHandler} {l : List Arm} (hh : Arms X hds l) (w : wArms X.K D l cls d σ H) :
    wpAny (model X.prog X.w) X.A (handleBy (.ref a) X.env hds) (SP X pins D) X.xe s' := by
  induction hh with
  | nil => exact w.elim
  | @cons x n c i ts b0 suite np pos' hds' l' hc hi hl hsu r ih =>
    obtain ⟨b, hb, yes, no⟩ := w
    -- what stands in the heap of the exception, wherever it has landed
    have site : ∀ {h : Heap}, HandSPX.FlyingZ B (X.env :: X.outer) a (Zc cls d) h → sI.heap.UpToSlots h →
        ∃ oe vs, h.get? a = some oe ∧ Zc cls d oe ∧ oe.data = .fields vs ∧ L2.Inv (X.suite a ((a, oe) :: (X.pn ++ pins))) [] σ H { s' with heap := h } := fun {h} z u => by
      obtain ⟨oe, vs, e1, e2, e3⟩ := z.there
      have nofr : a ∉ frs (X.env :: X.outer) := fun hm => by
        obtain ⟨_, o', e', hnf⟩ := z.2.2.1.mem hm
        rw [e1] at e'
        cases e'
        exact hnf _ e3
      refine ⟨oe, vs, e1, e2, e3, (J.landed (s' := { s' with heap := h }) nb z.1 u os ag).suite e1 e3 na (fun z => nofr (List.mem_filterMap.mpr ⟨X.env, List.mem_cons_self, by rw [hf, z]⟩)) fun hm => nofr ?_⟩
      obtain ⟨e, he, q⟩ := List.mem_filterMap.mp hm
      exact List.mem_filterMap.mpr ⟨e, List.mem_cons_of_mem _ he, q⟩
    obtain ⟨oe, vs, e1, e2, e3, S⟩ := site fl up
    refine wpAny_handleBy_cons (codeAny_handlers_test ?_) (fun q => nomatch q)
    have ty : PySem.W.Looks (model X.prog X.w) s'.heap (typeOf (.ref a)) cls := fun A Q E s k q => wpAny_typeOf_ref (k _ _ e1) (by rw [e2.1]; exact q)
    have mt := PySem.W.exm_one (M := model X.prog X.w) S.kIn ty hb
    have nm : ∀ {Q : Value → Shared → Prop} {E : Value → Shared → Prop}, Q c s' → wpAny (model X.prog X.w) (X.A.mark (some (.ref a))) (eval (.Name x np) X.env) Q E s' := fun {Q E} q =>
      hc.2.2.elim (fun hm => ld_glob (X := X.suite a ((a, oe) :: (X.pn ++ pins))) S hc.1 hm q hc.2.1) fun hm => ld_blt (X := X.suite a ((a, oe) :: (X.pn ++ pins))) S hc.1 hm.1 hm.2.1 q hm.2.2 hc.2.1
    refine nm (mt.here ?_)
    cases b with
    | false => exact ih (no rfl)
    | true =>
      refine codeAny_handlers_suite_as (HandSPX.lands_againZ fl fun h4 fl4 up4 => ?_)
      obtain ⟨oe4, vs4, g1, g2, g3, S4⟩ := site fl4 (up.trans up4)
      refine store_ok (X := X.suite a ((a, oe4) :: (X.pn ++ pins))) (v := .ref a) S4 hN hi (.inl hl) rfl (fun s5 S5 => ?_) (.inr hl)
      refine wpAny_mono ((hsu a oe4 cls d (X.pn ++ pins) g2 ⟨_, g3⟩).run [] s5 _ H _ S5 (yes rfl a na)) (fun f s6 sp => ?_) (fun _ _ z => z.elim)
      have fin : ∀ {σ6 : L2.St} {H6 : Hp} {R : Shared → Prop}, L2.Inv (X.suite a ((a, oe4) :: (X.pn ++ pins))) [] σ6 H6 s6 → (∀ s7, L2.Inv X pins (σ6.set i none) H6 s7 → R s7) →
          wpAny (model X.prog X.w) X.A (do bindName X.env n .none; unbindBehindTheSuite X.env n pos') (fun _ s7 => R s7) X.xe s6 := fun {_ _ _} S6 q => gone_ok (S6.unsuite J.ok) hN hi hl q
      cases f with
      | next => exact let ⟨_, _, S6, q6⟩ := sp; fin S6 fun _ J7 => ⟨_, _, J7, q6⟩
      | brk => exact let ⟨_, _, S6, q6⟩ := sp; fin S6 fun _ J7 => ⟨_, _, J7, q6⟩
      | cont => exact let ⟨_, _, S6, q6⟩ := sp; fin S6 fun _ J7 => ⟨_, _, J7, q6⟩
      | ret u => exact let ⟨_, _, _, S6, r6, q6⟩ := sp; fin S6 fun _ J7 => ⟨_, _, _, J7, r6, q6⟩
end
section
variable {X : Cx} {body : List Stmt} {h0 : ExceptHandler} {hds : List ExceptHandler} {l : List Arm} {pos : Pos} {tb : WX → TS}
theorem ps_arms (hs : X.stack = X.env :: X.outer) (hf : X.env.frame = some X.env.locals) (hN : X.N.Nodup)
    (hb : ∀ (W : WX) (pn : List (Addr × Obj)) (xe : Value → Shared → Prop), Takes (X.tr pn xe) W → PassesOwn (model X.prog X.w) X.A X.env xe → PSs (X.tr pn xe) body (tb W))
    (hh : Arms X (h0 :: hds) l) : PS X (.Try body (h0 :: hds) [] [] pos) (fun D σ H => tb (wArms X.K D l) D σ H) := ⟨fun pins s σ H D I h => by
  have fr : X.A.frames = some (X.env :: X.outer) := I.ok.frames.trans (by rw [hs])
  refine wpAny_Try_except (wpAny_mono ((hb (wArms X.K D l) (X.pn ++ pins) (fun e t1 => wpAny (model X.prog X.w) X.A (noteFrame e X.env) (fun _ t2 => wpAny (model X.prog X.w) X.A (setFlight e none)
    (fun _ t3 => wpAny (model X.prog X.w) X.A (handleBy e X.env (h0 :: hds)) (SP X pins D) X.xe t3) X.xe t2) X.xe t1) (fun u s' q => ?_) PassesOwn.looking).run [] s σ H D (I.toTry _) h) (fun f s1 q => ?_) fun _ _ z => z)
  · obtain ⟨a, B, sI, pins', σ', H', cls, d, rfl, J, nb, up, sky, na, os, ag, w⟩ := q
    refine Sky.land Zc.steady fr hf (show Sky B (X.env :: X.outer) a (Zc cls d) X.env.locals s'.heap from by rw [← hs]; exact sky) fun h3 fl up3 => ?_
    exact arms_go (s' := { s' with heap := h3 }) hs hf hN (J.ofTry I.ok) na nb os ag (up.trans up3) fl hh w
  · cases f with
    | next => exact let ⟨_, _, J, z⟩ := q; wpAny_execs_nil ⟨_, _, J.ofTry I.ok, z⟩
    | brk => exact let ⟨_, _, J, z⟩ := q; ⟨_, _, J.ofTry I.ok, z⟩
    | cont => exact let ⟨_, _, J, z⟩ := q; ⟨_, _, J.ofTry I.ok, z⟩
    | ret u => exact let ⟨_, _, _, J, r, z⟩ := q; ⟨_, _, _, J.ofTry I.ok, r, z⟩⟩
end
end Bf

/-! Own rules: defs that call repr. A repr asks that none is under way around it (Around.guards); the promise FnG is given under that. -/
namespace Bf
open PySem PySem.Spec PyProof.Rows L2

/-! ### promises where no repr is under way -/
structure FnG (P : Program) (w : World) (K : PySem.W.Frag) (mg : Str → Option Value) (base : Heap) (CX : CXT) (k : Nat) (f : Addr) (fd : FuncData) (ps : List Str) (sp : Sp) : Prop where
  len : ∀ vs H Q E, sp vs H Q E → vs.length = ps.length
  go : ∀ (A : Around) (outer : List Env) (s : Shared) (H : Hp) (args : Args) (us : List Value) (vs : List V) (Q : VK) (E : XK), A.guards = some [] → Room k A →
    Env0 P w K mg base A outer s H → BindsTo s fd args (ps.zip us) → Vals vs us → sp vs H Q E → codeAny (model P w) A (.call (.ref f) args) (CR CX outer P w H s Q E) s

section
variable {P : Program} {w : World} {K : PySem.W.Frag} {mg : Str → Option Value} {base : Heap} {CX : CXT}
theorem Fun.okG {x qual : Str} {st : Stmt} {f : Addr} {fd : FuncData} {N ps : List Str} {k : Nat} {sp : Sp} (F : Fun K x qual st f fd) (S : FnScope N ps (defScope st))
    (len : ∀ vs H Q E, sp vs H Q E → vs.length = ps.length)
    (hbody : ∀ (cdv : Value) (A : Around) (outer : List Env) (s : Shared) (H : Hp) (vs : List V) (Q : VK) (E : XK), A.guards = some [] → Room k (A.deeper (envOfC qual (defScope st) s.heap.objs.size f cdv)) → sp vs H Q E →
      ∃ t, PSs (cxOf CX P w K mg base N qual (defScope st) f cdv A outer s H E) (defBody st) t ∧ t { nx := fun _ H' => Q .non H', rt := Q } (start N vs) H) :
    FnG P w K mg base CX (k + 1) f fd ps sp := by
  obtain ⟨oc, od, kV, doc, pm, an, cdv, ct, osl, rfl, lk, hcd⟩ := F.ex
  refine ⟨len, fun A outer s H args us vs Q E hA hr e0 hb r hsp => ?_⟩
  have bk : ∀ b o, base.get? b = some o → s.heap.get? b = some o := fun b o e => (e0.bs b o e).1
  have KX := e0.mod.kin.keeps bk
  refine codeAny_call_function hr.depth (KX _ _ lk) rfl S.co S.gen rfl (PySem.W.codeRec_of KX hcd) (hb _ _ _ _ (wpAny_newFunctionEnv_cells S.kind (fun y hy => ?_) fun env he s1 x => ?_))
  · rcases S.par y.1 (List.of_mem_zip (show (y.1, y.2) ∈ _ from hy)).1 with q | q
    · exact .inl q
    · exact .inr ⟨q, PySem.W.cellsFrom_some _ _ _ (.inl q)⟩
  · cases he
    obtain ⟨t, ht, hq⟩ := hbody cdv A outer s H vs Q E hA (hr.deeper _) hsp
    refine ⟨(e0.mod.nolimit.keeps bk).keeps x.toInCall.keep, codeAny_func (wpAny_mono (ht.run [] s1 _ H _ (inv_start S hr.hd e0 (len _ _ _ _ hsp) r x) hq) (fun fl s' z => ?_) fun _ _ z => z)⟩
    cases fl with
    | next => exact let ⟨_, H', J, q⟩ := z; ⟨.non, H', J.os, J.bare, J.base, J.hok, rfl, q⟩
    | ret u => exact let ⟨v, _, H', J, rv, q⟩ := z; ⟨v, H', J.os, J.bare, J.base, J.hok, rv, q⟩
    | brk => exact let ⟨_, _, _, q⟩ := z; q.elim
    | cont => exact let ⟨_, _, _, q⟩ := z; q.elim
end
section
variable {X : Cx} {CX : CXT} {k : Nat} {f : Addr} {fd : FuncData} {ps : List Str} {sp : Sp} {E : XK} {x : Str} {p pos : Pos} {e : Expr} {es : List Expr} {t : TA}
theorem pe_callG (F : FnG X.prog X.w X.K X.mg X.base CX k f fd ps sp) (hA : X.A.guards = some []) (hr : Room k X.A) (hg : Gl X x) (hm : X.mg x = some (.ref f)) (hk : PySem.W.keepIn X.K (.ref f) = true)
    (hb : Binds X.K fd ps []) (hx : Passes CX X E) (ha : PA X (e :: es) t) (hdb : (x == ("__debug__" : Str)) = false := by decide)
    (he : starEach (e :: es) X.env = (false, eval e X.env) :: starEach es X.env := by rfl) (hpl : (backTo pos (starEach es X.env)).any (·.1) = false := by rfl) :
    PE X (.Call (.Name x p) (e :: es) [] pos) (tCall sp [] E t) := ⟨fun pins s σ H Q I h => by
  refine wpAny_Call_Name_kw (ld_glob I hg hm (PySem.W.callWith_K (h₀ := X.base) I.ok.mod.kin hk (thn (ha.run pos pins s σ H _ I h) fun us s1 ⟨vs, H1, I1, r, q⟩ => ⟨I1.kIn, ?_⟩) he hpl) hdb)
  have q : sp (vs ++ []) H1 Q E := q
  rw [List.append_nil] at q
  have hl : us.length = ps.length := r.length.symm.trans (F.len _ _ _ _ q)
  have bd : BindsTo s1 fd ⟨us, []⟩ (ps.zip us) := by
    have z := hb s1 us I1.kIn (by rw [List.append_nil]; exact hl)
    rw [List.append_nil] at z
    exact z
  refine wpAny_call (codeAny_mono (F.go X.A X.stack s1 H1 ⟨us, []⟩ us vs Q E hA hr I1.env0 bd r q) fun r s' hq => ?_)
  cases r with
  | error e => exact hx pins σ H1 s1 e s' I1 hq
  | ok fl =>
    cases fl with
    | ret u => exact I1.after hq
    | next => exact hq.elim
    | brk => exact hq.elim
    | cont => exact hq.elim⟩
end

/-! ### data as repr shows it -/
mutual
/-- x stands for the data d; every list, tuple and dict in it is tracked, at an address of which P holds; b: there may be an empty dict in it, then no list is the module table -/
inductive Sh (H : Hp) (P : Addr → Prop) (b : Bool) : V → PyData → Prop
  | non : Sh H P b .non .none
  | bl (c : Bool) : Sh H P b (.bl c) (.bool c)
  | int (i : Int) : Sh H P b (.int i) (.int i)
  | str (z : Str) : Sh H P b (.str z) (.str z)
  | lst {a : Addr} {xs : List V} {ds : List PyData} (h : H a = some (.lst xs)) (p : P a) (q : b = true → a ≠ sysModules) (r : ShAll H P b xs ds) : Sh H P b (.ref a) (.list ds)
  | tup {a : Addr} {xs : List V} {ds : List PyData} (h : H a = some (.tup xs)) (p : P a) (r : ShAll H P b xs ds) : Sh H P b (.ref a) (.tuple ds)
  | emp {a : Addr} (hb : b = true) (h : H a = some (.dK [])) (p : P a) : Sh H P b (.ref a) (.dict [])
inductive ShAll (H : Hp) (P : Addr → Prop) (b : Bool) : List V → List PyData → Prop
  | nil : ShAll H P b [] []
  | cons {v : V} {vs : List V} {d : PyData} {ds : List PyData} (h : Sh H P b v d) (r : ShAll H P b vs ds) : ShAll H P b (v :: vs) (d :: ds)
end

section
variable {X : Cx} {pins : List (Addr × Obj)} {σ : L2.St} {H : Hp} {s : Shared} {P : Addr → Prop} {b : Bool}
mutual
theorem Sh.reads (I : L2.Inv X pins σ H s) : ∀ (d : PyData) (v : V) (u : Value), Sh H P b v d → RelV v u → ∃ as, Reads s.heap u d as ∧ (b = true → ∀ a ∈ as, a ≠ sysModules)
  | .none, _, _, h, r => by
    cases h; cases r
    exact ⟨_, .none, fun _ _ z => nomatch z⟩
  | .bool c, _, _, h, r => by
    cases h; cases r
    exact ⟨_, .bool c, fun _ _ z => nomatch z⟩
  | .int i, _, _, h, r => by
    cases h; obtain ⟨t, rfl⟩ := r
    exact ⟨_, .int i t, fun _ _ z => nomatch z⟩
  | .str x, _, _, h, r => by
    cases h; obtain ⟨t, rfl⟩ := r
    exact ⟨_, .str x t, fun _ _ z => nomatch z⟩
  | .list ds, _, _, h, r => by
    cases h with
    | lst h p q ha =>
      cases r
      obtain ⟨_, its, n, rv, e⟩ := I.hok _ _ h
      obtain ⟨as, hr, hp⟩ := Sh.readsAll I ds _ its ha rv
      exact ⟨_, .list e rfl rfl hr, fun hb a z => (List.mem_cons.mp z).elim (fun y => y ▸ q hb) (hp hb a)⟩
  | .tuple ds, _, _, h, r => by
    cases h with
    | tup h p ha =>
      cases r
      obtain ⟨_, its, rv, o, e1, e2, n, e3⟩ := I.hok _ _ h
      obtain ⟨as, hr, hp⟩ := Sh.readsAll I ds _ its ha rv
      exact ⟨_, .tuple e1 e2 e3 hr, hp⟩
  | .dict _, _, _, h, r => by
    cases h with
    | emp hb h p =>
      cases r
      obtain ⟨_, sm, vs, kv, o, es, ep, e1, e2, e3, _, e4, _⟩ := I.hok _ _ h
      cases kv
      have en : es.toList = [] := by
        cases q : es.toList with
        | nil => rfl
        | cons x r => rw [q] at e4; cases e4
      refine ⟨_, .dict e1 e2.1 e3 (kvs := []) (as := []) (bs := []) (by rw [en]; exact .nil) (by rw [en]; exact .nil), fun _ a z => ?_⟩
      rcases List.mem_cons.mp z with e | e
      · exact e ▸ beq_eq_false_iff_ne.mp sm
      · cases e
theorem Sh.readsAll (I : L2.Inv X pins σ H s) : ∀ (ds : List PyData) (vs : List V) (us : List Value), ShAll H P b vs ds → Vals vs us → ∃ as, ReadsAll s.heap us ds as ∧ (b = true → ∀ a ∈ as, a ≠ sysModules)
  | [], _, _, h, r => by
    cases h; cases r
    exact ⟨_, .nil, fun _ _ z => nomatch z⟩
  | d :: ds, _, _, h, r => by
    cases h with
    | cons h1 h2 =>
      cases r with
      | cons r1 r2 =>
        obtain ⟨as, q1, p1⟩ := Sh.reads I d _ _ h1 r1
        obtain ⟨bs, q2, p2⟩ := Sh.readsAll I ds _ _ h2 r2
        exact ⟨_, .cons q1 q2, fun hb a z => (List.mem_append.mp z).elim (p1 hb a) (p2 hb a)⟩
end
end
mutual
theorem Sh.nodict {H : Hp} {P : Addr → Prop} : ∀ (d : PyData) (v : V), Sh H P false v d → d.hasDict = false
  | .none, _, _ => by simp only [PyData.hasDict]
  | .bool _, _, _ => by simp only [PyData.hasDict]
  | .int _, _, _ => by simp only [PyData.hasDict]
  | .str _, _, _ => by simp only [PyData.hasDict]
  | .list ds, _, h => by
    cases h with
    | lst _ _ _ r => simp only [PyData.hasDict]; exact ShAll.nodict ds _ r
  | .tuple ds, _, h => by
    cases h with
    | tup _ _ r => simp only [PyData.hasDict]; exact ShAll.nodict ds _ r
  | .dict _, _, h => by
    cases h with
    | emp hb _ _ => cases hb
theorem ShAll.nodict {H : Hp} {P : Addr → Prop} : ∀ (ds : List PyData) (vs : List V), ShAll H P false vs ds → PyData.hasDictAll ds = false
  | [], _, _ => by simp only [PyData.hasDictAll]
  | d :: ds, _, h => by
    cases h with
    | cons h r =>
      simp only [PyData.hasDictAll, Sh.nodict d _ h, ShAll.nodict ds _ r, Bool.or_self]
end
section
variable {X : Cx}
/-- repr(x) -/
def rRepr : List V → Hp → VK → Prop := fun xs H Q => ∃ (x : V) (P : Addr → Prop) (b : Bool) (d : PyData), xs = [x] ∧ Sh H P b x d ∧ d.showable = true ∧ d.depth ≤ 60 ∧ d.shown.length ≤ sizeLine ∧ Q (.str d.shown) H
theorem call_repr (hA : X.A.guards = some []) (hu : X.A.units + 64 < cLine) : CallR X (.builtin "repr") rRepr := by
  intro pins s σ H xs us Q I r h
  obtain ⟨x, P, b, d, rfl, hs, sw, dp, sz, q⟩ := h
  obtain ⟨u, rfl, rx⟩ := vals1 r
  obtain ⟨as, rd, hp⟩ := Sh.reads I d x u hs rx
  have nodict : d.hasDict = true → sysModules ∉ as := fun hd z => by
    cases b with
    | false => rw [Sh.nodict d x hs] at hd; cases hd
    | true => exact hp rfl _ z rfl
  have fin : ∀ (t : Tok) (tk : Nat), EP X pins σ Q (.str d.shown t) { s with toks := tk } := fun t tk => ⟨.str d.shown, H, I.tok tk, ⟨t, rfl⟩, q⟩
  have finH : ∀ h' t tk, (∀ b o, s.heap.get? b = some o → h'.get? b = some o) → EP X pins σ Q (.str d.shown t) { s with heap := h', toks := tk } := fun h' t tk k => ⟨.str d.shown, H, I.kept k, ⟨t, rfl⟩, q⟩
  have big : ∀ {a : Addr}, u = .ref a → wpAny (model X.prog X.w) X.A (call (.builtin "repr") [u]) (EP X pins σ Q) X.xe s := fun {a} e => by
    subst e
    exact repr_of_reads' rd sw nodict hA (by omega) (fun _ _ z => z) finH sz
  cases rd with
  | none => exact PySem.P.repr_of_none (by have z := fin s.toks (s.toks + 1); simp only [PyData.shown] at z; exact z)
  | bool c => exact PySem.P.repr_of_bool (by have z := fin s.toks (s.toks + 1); simp only [PyData.shown] at z; exact z)
  | int i t => exact PySem.P.repr_of_int (by simpa [PyData.showable] using sw) (by have z := fin s.toks (s.toks + 1); simp only [PyData.shown] at z; exact z)
  | str z t => exact PySem.P.repr_of_str (by have z := fin s.toks (s.toks + 1); simp only [PyData.shown] at z; exact z) (by simp only [PyData.shown] at sz; exact sz)
  | list _ _ _ _ => exact big rfl
  | tuple _ _ _ _ => exact big rfl
  | dict _ _ _ _ _ => exact big rfl
/-- a list of written items, not the module table -/
def tLstN (t : TA) : TE := fun σ H Q => t σ H fun xs H1 => xs.length ≤ 1000 ∧ ∀ p, H1 p = none → p ≠ sysModules → Q (.ref p) (upd H1 p (.lst xs))
theorem pe_lstN {es : List Expr} {pos : Pos} {t : TA} (h : PA X es t) : PE X (.List es pos) (tLstN t) := ⟨fun pins s σ H Q I hq => by
  refine wpAny_List_spliced (thn (h.run pos pins s σ H _ I hq) fun us s1 z => ?_)
  obtain ⟨xs, H1, I1, r, sz, q⟩ := z
  have le : xs.length ≤ sizeLine := Nat.le_trans sz (by decide)
  refine ⟨r.length ▸ le, .ref s1.heap.objs.size, upd H1 s1.heap.objs.size (.lst xs), I1.laid (t' := s1.toks) (fun _ _ e => Heap.get?_push_of_some _ e) (Nat.le_refl _) ⟨le, us, 0, r, Heap.get?_push_size _ rfl⟩, rfl, ?_⟩
  exact q _ (I1.hok.fresh (Nat.le_refl _)) (Nat.ne_of_gt I1.big)⟩
end

/-! ### the law's end -/
section
open PySem.W
variable {l : PySem.W.OpenLaw} {n k : Nat} {q : Program} {loose : List Str} {XP : (Str → Option Value) → Heap → Prop} {YP : World → Heap → Prop} {d : DefRec} {K : Params → PySem.W.Frag} {sp : PySem.W.Frag → Sp} {x : Str}
theorem walkG (hn : l.most = some n) (hn2 : n ≤ 1000) (hdf : d.params.defaults = []) (hr : Room k callerA) (hY : ∀ (w : World) (h : Heap), YP w h → (K w.params).In h)
    (F : ∀ (w : World) (mg : Str → Option Value) (fa : Addr) (h : Heap), (K w.params).In h → h.Ns mainGlobals mg → mg d.name = some (.ref fa) →
      ∃ fd : FuncData, (∀ (s : Shared) (u : Value), BindsTo s fd ⟨[u], []⟩ [(x, u)]) ∧ ∀ base : Heap, (K w.params).In base → base.Ns mainGlobals mg → FnG l.prog w (K w.params) mg base CX0 k fa fd [x] (sp (K w.params)))
    (hsp : ∀ (K : PySem.W.Frag) (H : Hp) (a : Addr) (ns : List Int), ns.length ≤ n → SqL K H a (ns.map V.int) → (∀ b, H b = none ∨ b = a) → sp K [.ref a] H (fun v _ => v = .bl true) fun _ _ _ => False) :
    WalkO q loose XP YP l.row.toRowW d [] (fun f vs => PySem.call f vs) := by
  refine Att.attach_call hn hdf fun w s0 s1 mg mb fa o pm cd doc a vs ns G Y _ _ _ hmg ha hi hl hg => ?_
  have KX := hY w _ Y
  obtain ⟨fd, bind, go⟩ := F w mg fa _ KX G.T.g hmg
  have hle : ns.length ≤ sizeLine := Nat.le_trans hl (Nat.le_trans hn2 (by decide))
  have rv := vals_ints hi
  -- the abstract heap: the script, locked, unless it is the module's own
  have mid : ∀ H : Hp, SqL (K w.params) H a (ns.map V.int) → HOk l.prog w H s1.heap → (∀ b, H b = none ∨ (b = a ∧ (K w.params).lookup a = none ∧ ∃ o xs, H a = some (.frz o (.lst xs)))) →
      codeAny (model l.prog w) callerA (.call (.ref fa) ⟨[.ref a], []⟩) (fun r s' => r = .ok (.ret (.bool true)) ∧ OldK s1.heap s'.heap ∧ s'.os = s1.os ∧ AllBare s'.gens) s1 := fun H hS ok hA => by
    have nsK : ∀ {b : Addr} {m : Str → Option Value}, s1.heap.Ns b m → (hidT s1.heap H).Ns b m := fun {b m} z => by
      obtain ⟨o, es, ep, e, dd, r⟩ := z
      refine ⟨o, es, ep, hidT_get e ((hA b).resolve_right fun y => ?_), dd, r⟩
      rw [y.1, ha] at e
      cases e
      cases dd
    have kin : (K w.params).In (hidT s1.heap H) := fun b o e => hidT_get (KX b o e) ((hA b).resolve_right fun y => by
      rw [y.1, y.2.1] at e
      cases e)
    have md : Mod (K w.params) mg (hidT s1.heap H) := ⟨kin, nsK G.T.g, ⟨mb, nsK G.T.b, G.T.builtins⟩, let ⟨mc, h1, h2⟩ := G.T.nolimit; ⟨mc, nsK h1, h2⟩⟩
    refine codeAny_mono ((go _ kin (nsK G.T.g)).go callerA [] s1 H ⟨[.ref a], []⟩ [.ref a] [.ref a] _ _ rfl hr
      ⟨rfl, md, fun _ _ e => of_hidT e, Nat.le_of_eq (hidT_size _ _), trivial, (fun _ z => nomatch z), ok, .of_eq hg⟩ (bind s1 (.ref a)) (.cons rfl .nil) (hsp _ H a ns hl hS fun b => (hA b).imp_right (·.1))) fun r s' h => ?_
    cases r with
    | error e => exact h.elim
    | ok fl =>
      cases fl with
      | next => exact h.elim
      | brk => exact h.elim
      | cont => exact h.elim
      | ret u =>
        obtain ⟨v, H', os, bare, un, ok', rv', e⟩ := h
        cases (show v = .bl true from e)
        cases (show u = .bool true from rv')
        refine ⟨rfl, OldK.of_keep fun b o e => ?_, os, bare⟩
        rcases hA b with z | ⟨rfl, _, ob, xs, z⟩
        · exact un.keep b o e z (fun y => nomatch y) (fun y => nomatch y)
        · have e1 := (ok _ _ z).1
          rw [e] at e1
          cases e1
          exact (ok' _ _ (un.frzs _ _ _ z)).1
  cases hk : (K w.params).lookup a with
  | some o =>
    have e := KX a o hk
    rw [ha] at e
    cases e
    exact mid (fun _ => none) (.inr ⟨_, vs.toArray, _, hk, rfl, rfl, rfl, by rw [List.size_toArray, hi.length]; exact hle, by simpa using rv⟩) (fun _ _ z => nomatch z) fun _ => .inl rfl
  | none =>
    have at_ : ∀ b, b = a → (fun c => if c = a then some (HO.frz { cls := .type "list", data := .seq vs.toArray } (.lst (ns.map V.int))) else none) b = some (HO.frz { cls := .type "list", data := .seq vs.toArray } (.lst (ns.map V.int))) := fun b e => if_pos e
    refine mid (fun c => if c = a then some (.frz { cls := .type "list", data := .seq vs.toArray } (.lst (ns.map V.int))) else none) (.inl (.inr ⟨_, at_ a rfl⟩)) (fun b u z => ?_) fun b => ?_
    · by_cases hb : b = a
      · cases (at_ b hb).symm.trans z
        cases hb
        exact ⟨ha, by rw [List.length_map]; exact hle, vs, _, rv, ha⟩
      · cases (if_neg hb).symm.trans z
    · by_cases hb : b = a
      · exact .inr ⟨hb, hk, _, _, at_ a rfl⟩
      · exact .inl (if_neg hb)
end
end Bf

/-! Own rule: enumerate over a tuple. -/
namespace Bf
open PySem PySem.Spec PyProof.Rows L2

/-- the tuple's cells behind enumerate(t) -/
theorem enum_new_tup (t : Addr) (items : Array Value) (n : Nat) (dct : Option Addr) (sl : Array (Option Value)) :
    Meets (Builtin.«enumerate.__new__» ⟨[.type "enumerate", .ref t], []⟩) (fun _ R s => s.heap.get? t = some { cls := .type "tuple", dict := dct, data := .seq items n, slots := sl } ∧
      R (.ok (.ret (.ref (s.heap.push { cls := .type "tuple_iterator", data := .fields #[.ref t, .int 0 0] }).objs.size)))
        { s with heap := (s.heap.push { cls := .type "tuple_iterator", data := .fields #[.ref t, .int 0 0] }).push { cls := .type "enumerate", data := .fields #[.none, .bool false, .ref s.heap.objs.size, rawInt 0, .none, .none] } }) :=
  .of_wp fun prog w A R s h => by
    obtain ⟨hp, g, d, tk, os⟩ := s
    obtain ⟨ht, h⟩ := h
    have sub := sub_enumerate
    have it : ∀ {A' : Around} {E : Value → Shared → Prop} {Q : Value → Shared → Prop}, Q (.ref hp.objs.size) ⟨hp.push { cls := .type "tuple_iterator", data := .fields #[.ref t, .int 0 0] }, g, d, tk, os⟩ →
        wpAny (model prog w) A' (pyIter (.ref t)) Q E ⟨hp, g, d, tk, os⟩ := fun q => wpAny_pyIter_tuple (s := ⟨hp, g, d, tk, os⟩) ⟨_, ht, rfl, n, rfl⟩ q
    wp_walk using it
    refine wpAny_stack_any fun st => wpAny_pure ?_
    split
    · rename_i c _ _ _ _ _
      cases (c == Value.type "enumerate") <;> (wp_walk using it; exact ⟨_, rfl, h⟩)
    · wp_walk using it
      exact ⟨_, rfl, h⟩

section
variable {prog : Program} {w : World} {A : Around} {E : Value → Shared → Prop} {s : Shared}
theorem enum_tup {t : Addr} {items : Array Value} {Q : Value → Shared → Prop} (T : s.heap.IsTuple t items)
    (h : ∀ h' : Heap, IsEnum h' (s.heap.objs.size + 1) s.heap.objs.size 0 .none → h'.IsTupleIter s.heap.objs.size t 0 → (∀ b o, s.heap.get? b = some o → h'.get? b = some o) → Q (.ref (s.heap.objs.size + 1)) { s with heap := h' }) :
    wpAny (model prog w) A (call (.type "enumerate") [.ref t]) Q E s := by
  obtain ⟨⟨c, dct, dt, sl⟩, e1, e2, n, e3⟩ := T
  cases (show c = .type "tuple" from e2)
  cases (show dt = .seq items n from e3)
  refine callType_new F.called_enumerate (by decide) (F.typeCall_enumerate_1 _) (F.newCall_enumerate_1 _) (fun obj => F.args_object_init_2 obj _) F.entry_enumerate_new (enum_new_tup t items n dct sl) ⟨e1, ?_⟩
  have sz : (s.heap.push { cls := .type "tuple_iterator", data := .fields #[.ref t, .int 0 0] }).objs.size = s.heap.objs.size + 1 := Heap.size_push ..
  have en := Heap.get?_push_size (s.heap.push { cls := .type "tuple_iterator", data := .fields #[.ref t, .int 0 0] })
    (o := { cls := .type "enumerate", data := .fields #[.none, .bool false, .ref s.heap.objs.size, rawInt 0, .none, .none] }) rfl
  rw [sz] at en
  show _ ∧ _
  rw [sz]
  exact ⟨⟨_, en, rfl⟩, h _ en ⟨_, Heap.get?_push_of_some _ (Heap.get?_push_size _ rfl), rfl, rfl⟩ fun b o x => Heap.get?_push_of_some _ (Heap.get?_push_of_some _ x)⟩
end

/-- the tuple at a, each item in a new pair -/
def Iet (K : PySem.W.Frag) (a : Addr) : It where
  go i H := ∃ (xs : List V) (x : V), SqT K H a xs ∧ xs[i]? = some x
  yld i H v H' := ∃ T x, v = .ref T ∧ H T = none ∧ H' = upd H T (.tup [.int (i : Nat), x]) ∧ ∀ xs, SqT K H a xs → xs[i]? = some x
  stop i H := ∃ xs : List V, SqT K H a xs ∧ i = xs.length
theorem turn_iet {P : Program} {w : World} {K : PySem.W.Frag} {elts : List Expr} {kk : Nat} {tpos : Pos} (a e it : Addr) :
    Turn P w K (.Tuple elts kk tpos) (Iet K a) [e, it] e (fun i h => (∃ old, IsEnum h e it ((i : Nat) : Int) old) ∧ h.IsTupleIter it a i ∧ e ≠ it) where
  mem := List.mem_cons_self
  obj i h st b hb := by
    obtain ⟨⟨old, he⟩, ⟨o, ho, hc, hd⟩, _⟩ := st
    rcases List.mem_cons.mp hb with z | z
    · cases z
      exact ⟨_, he, fun v q => nomatch q⟩
    · have z := List.mem_singleton.mp z
      exact ⟨o, z ▸ ho, fun v q => by rw [hd] at q; cases q⟩
  keep i h h' st k := by
    obtain ⟨⟨old, he⟩, hi, ne⟩ := st
    exact ⟨⟨old, k e (by simp) _ he⟩, hi.at fun o q => k it (by simp) o q, ne⟩
  item := by
    rintro X rfl rfl rfl hc i pins s σ H E I hf ⟨⟨old, he⟩, hit, ne⟩ ⟨xs, x, hq, hx⟩
    obtain ⟨its, rv, p, hz⟩ := I.tuple hq
    obtain ⟨u, hu, ru⟩ := rv.get hx
    have p' : s.heap.IsTuple a its.toArray := p
    obtain ⟨oa, hoa, hca, na, hda⟩ := id p'
    have nia : a ≠ it := fun z => by
      obtain ⟨o, ho, hc', hd'⟩ := hit
      rw [← z, hoa] at ho
      cases ho
      rw [hda] at hd'
      cases hd'
    have nea : e ≠ a := fun z => by
      have he2 : s.heap.get? e = _ := he
      rw [z, hoa] at he2
      cases he2
      cases hda
    have hel : e < s.heap.objs.size := Heap.lt_size he
    have hil : it < s.heap.objs.size := let ⟨_, q, _⟩ := hit; Heap.lt_size q
    refine wpAny_pyNext_enum_itemD (D := Draws.tuple (A := X.A.in1) (show X.A.in1.handled = none from I.ok.hd hc) it a nia its.toArray) he ⟨hit, p'⟩ (by have := (List.getElem?_eq_some_iff.mp hu).1; simpa using this) ne (by simp [ne, nea]) fun y h' tk hy ho hit' hT hsz hk => ?_
    have ey : y = u := by
      have z : its[i]? = some y := by simpa using hy
      rw [hu] at z
      exact (Option.some.inj z).symm
    subst ey
    refine ⟨_, rfl, wpAny_letOwnedTupleGo_enum (s := { s with heap := h', toks := tk + 1 }) ho fun h2 he2 sb => ?_⟩
    have hT2 : h2.get? s.heap.objs.size = some { cls := .type "tuple", data := .seq #[.int i tk, y] } := (sb.2 _ (Nat.ne_of_gt hel)).trans hT
    have low : ∀ b, b ∈ [e, it] → b < s.heap.objs.size := fun b hb => (List.mem_cons.mp hb).elim (fun z => z ▸ hel) fun z => List.mem_singleton.mp z ▸ hil
    have I1 : L2.Inv X pins σ (upd H s.heap.objs.size (.tup [.int (i : Nat), x])) { s with heap := h2, toks := tk + 1 } :=
      I.turnedNew (ch := [e, it]) (fun b ob hb q => (sb.2 b (fun z => hb (by simp [z]))).trans (hk b ob (fun z => hb (by simp [z])) (fun z => hb (by simp [z])) q)) hf (Nat.le_refl _)
        ⟨by show 2 ≤ sizeLine; decide, [.int i tk, y], .cons ⟨_, rfl⟩ (.cons ru .nil), ⟨_, hT2, rfl, _, rfl⟩⟩
    refine ⟨.ref s.heap.objs.size, _, I1, rfl, ⟨_, x, rfl, I.hok.fresh (Nat.le_refl _), rfl, fun ys hy => by rw [I.tuple_inj hy hq]; exact hx⟩, ⟨⟨y, ?_⟩, hit'.1.at fun o q => (sb.2 it (Ne.symm ne)).trans q, ne⟩, fun b hb => ?_⟩
    · rw [show ((i + 1 : Nat) : Int) = (i : Int) + 1 from by omega]
      exact he2
    · rw [upd_ne (Nat.ne_of_lt (low b hb))]
      exact (hf b hb).1
  done := by
    rintro X rfl rfl rfl hc i pins s σ H E I hf ⟨⟨old, he⟩, hit, ne⟩ ⟨xs, hq, rfl⟩
    obtain ⟨its, rv, p, hz⟩ := I.tuple hq
    have p' : s.heap.IsTuple a its.toArray := p
    obtain ⟨oa, hoa, hca, na, hda⟩ := id p'
    have nia : a ≠ it := fun z => by
      obtain ⟨o, ho, hc', hd'⟩ := hit
      rw [← z, hoa] at ho
      cases ho
      rw [hda] at hd'
      cases hd'
    obtain ⟨f0, f1, f2, f3, f4, f5⟩ := hf it (by simp)
    refine wpAny_pyNext_enum_endD (D := Draws.tuple (A := X.A.in1) (show X.A.in1.handled = none from I.ok.hd hc) it a nia its.toArray) he ⟨by rw [List.size_toArray, ← rv.length]; exact hit, p'⟩ fun h' eb => ⟨rfl, I.turned (t' := s.toks) (fun b o hb q => eb b o hb q) f0 f1 f3 f4 f5⟩
  self A i s Q E st h := let ⟨⟨_, he⟩, _⟩ := st; wpAny_pyIter_enum he h
def iEnumT (K : PySem.W.Frag) (ta : TA) : TI := fun σ H R => ta σ H fun vs H1 => ∃ a xs, vs = [.ref a] ∧ SqT K H1 a xs ∧ R (Iet K a) H1
theorem pi_enumT {X : Cx} {e : Expr} {ta : TA} {p pos tpos : Pos} {elts : List Expr} {kk : Nat} (hg : Gl X "enumerate") (hm : X.mg "enumerate" = none) (ha : PA X [e] ta)
    (hs : starEach [e] X.env = [(false, eval e X.env)] := by rfl) : PI X (.Tuple elts kk tpos) (.Call (.Name "enumerate" p) [e] [] pos) (iEnumT X.K ta) := ⟨fun pins s σ H R I h => by
  refine Call_ (ld_blt I hg hm boot_enumerate (PyProof.Rows.callWith_type1 (thn (ha.run pos pins s σ H _ I h) fun us s1 z => ?_) hs rfl))
  obtain ⟨vs, H1, I1, r1, a, xs, rfl, hq, q⟩ := z
  cases r1 with
  | cons r rr =>
    cases rr
    cases r
    obtain ⟨its, rv, p', hz⟩ := I1.tuple hq
    refine enum_tup (show s1.heap.IsTuple a its.toArray from p') fun h' he hit hk => wpAny_pyIter_enum he ?_
    refine ⟨s1.heap.objs.size + 1, [s1.heap.objs.size + 1, s1.heap.objs.size], _, _, H1, rfl, I1.kept (t' := s1.toks) hk, turn_iet a (s1.heap.objs.size + 1) s1.heap.objs.size, ⟨⟨.none, he⟩, hit, Nat.succ_ne_self _⟩, fun b hb => ?_, q⟩
    have le : s1.heap.objs.size ≤ b := (List.mem_cons.mp hb).elim (fun z => z ▸ Nat.le_succ _) fun z => List.mem_singleton.mp z ▸ Nat.le_refl _
    have I2 : L2.Inv X pins σ H1 { s1 with heap := h' } := I1.kept (t' := s1.toks) hk
    exact I1.fpOk le (I1.hok.fresh le)⟩
/-- the loop's reading -/
theorem for_iet {K : PySem.W.Frag} {a : Addr} {xs : List V} {g : TG} {tb : TS} {D : Ends} {σ : L2.St} {H : Hp} (Pv : Nat → L2.St → Hp → Prop) (h0 : Pv 0 σ H) (hl : ∀ i σ H, i ≤ xs.length → Pv i σ H → SqT K H a xs)
    (hs : ∀ i x σ H T, xs[i]? = some x → Pv i σ H → H T = none → g (.ref T) σ (upd H T (.tup [.int (i : Nat), x])) fun σ2 H2 => tb { D with nx := Pv (i + 1), ct := Pv (i + 1), bk := D.nx } σ2 H2) (hd : ∀ σ H, Pv xs.length σ H → D.nx σ H) :
    ∃ W : Nat → Nat → L2.St → Hp → Prop, (∃ m, W 0 m σ H) ∧ ∀ i m σ H, W i m σ H →
      ((Iet K a).stop i H ∧ D.nx σ H) ∨ ((Iet K a).go i H ∧ ∃ N : L2.St → Hp → Prop, (∀ σ' H', N σ' H' → ∃ m', m' < m ∧ W (i + 1) m' σ' H') ∧ ∀ x H', (Iet K a).yld i H x H' → g x σ H' fun σ2 H2 => tb { D with nx := N, ct := N, bk := D.nx } σ2 H2) := by
  refine ⟨fun i m σ H => m = xs.length - i ∧ i ≤ xs.length ∧ Pv i σ H, ⟨xs.length, by simp, Nat.zero_le _, h0⟩, ?_⟩
  rintro i m σ H ⟨rfl, hi, p⟩
  have q := hl i σ H hi p
  rcases Nat.lt_or_ge i xs.length with lt | ge
  · refine .inr ⟨⟨xs, xs[i], q, List.getElem?_eq_getElem lt⟩, Pv (i + 1), fun σ' H' p' => ⟨xs.length - (i + 1), by omega, rfl, lt, p'⟩, ?_⟩
    rintro x H' ⟨T, y, rfl, nT, rfl, hy⟩
    exact hs i y σ H T (hy xs q) p nT
  · have e : i = xs.length := Nat.le_antisymm hi ge
    exact .inl ⟨⟨xs, q, e⟩, hd σ H (e ▸ p)⟩
end Bf

/-! Own rules: x not in t, t a tuple of texts, x any thing; xs < ys of lists; comprehensions over enumerate and zip. -/
namespace Bf
open PySem PySem.Spec PyProof.Rows L2

theorem dict_eq_declines_str (l : Addr) (dt : Data) (dd : Option Addr) (sl : Array (Option Value)) (b : Str) (u : Tok) :
    Meets (Builtin.«dict.__eq__» ⟨[.ref l, .str b u], []⟩) (fun _ R s => s.heap.get? l = some { cls := .type "dict", dict := dd, data := dt, slots := sl } ∧ R (.ok (.ret .notImplemented)) s) :=
  .of_wp fun prog w A R s h => by
    obtain ⟨hp, g, d, tk, os⟩ := s
    obtain ⟨hl, h⟩ := h
    have f1 := F.sub_str_dict
    wp_walk using wpAny_loadPart' hl
    exact ⟨_, rfl, h⟩
theorem str_eq_declines_dict (b : Str) (u : Tok) (l : Addr) (es : Array DictEntry) (n : Nat) (dd : Option Addr) (sl : Array (Option Value)) :
    Meets (Builtin.«str.__eq__» ⟨[.str b u, .ref l], []⟩) (fun _ R s => s.heap.get? l = some { cls := .type "dict", dict := dd, data := .dict es n, slots := sl } ∧ R (.ok (.ret .notImplemented)) s) :=
  .of_wp fun prog w A R s h => by
    obtain ⟨hp, g, d, tk, os⟩ := s
    obtain ⟨hl, h⟩ := h
    wp_walk using wpAny_loadPart' hl, wpAny_load hl
    exact ⟨_, rfl, h⟩
theorem eqAt_str_dict {A : Around} {s : Shared} {l : Addr} {o : Obj} {es : Array DictEntry} {n : Nat} (b : Str) (u : Tok) (ho : s.heap.get? l = some o) (hc : o.cls = .type "dict") (hd : o.data = .dict es n) (hu : A.units < cLine) :
    SeqAt.EqAt A s (.str b u) (.ref l) false := fun prog w E Q h => by
  obtain ⟨cls, dd, data, sl⟩ := o
  simp only at hc hd
  subst hc hd
  unfold eqBool
  refine wpAny_holding ?_
  refine wpAny_ite_split (fun hab => absurd (eq_of_beq hab) nofun) (fun _ => ?_)
  refine wpAny_bind (SeqAt.rc_eq_decline_or (k := false) (typeIs_str s b u) ⟨_, ho, rfl⟩ (by decide) F.sub_dict_str F.slot_str_eq F.slot_dict_eq_refl
    (fun _ hq => call_meets F.slot_str_eq (typeIs_str s b u) F.entry_str_eq (F.args_str_eq_2 _ _) (str_eq_declines_dict b u l es n dd sl) ⟨ho, hq⟩)
    (fun _ hq => call_meets F.slot_dict_eq_refl ⟨_, ho, rfl⟩ F.entry_dict_eq (F.args_dict_eq_2 _ _) (dict_eq_declines_str l _ dd sl b u) ⟨ho, hq⟩)
    (fun _ hq => wpAny_of_eq (rfl : isSame (.str b u) (.ref l) = pure false) hq) (.inr hu) (wpAny_truthy_bool h))

/-- a thing that is compared with texts -/
inductive Odd (H : Hp) : V → Prop
  | non : Odd H .non
  | bl (b : Bool) : Odd H (.bl b)
  | int (i : Int) : Odd H (.int i)
  | str (z : Str) : Odd H (.str z)
  | lst {a : Addr} {xs : List V} (h : H a = some (.lst xs)) : Odd H (.ref a)
  | tup {a : Addr} {xs : List V} (h : H a = some (.tup xs)) : Odd H (.ref a)
  | emp {a : Addr} (h : H a = some (.dK [])) : Odd H (.ref a)
section
variable {X : Cx}
theorem eqAt_odd {pins : List (Addr × Obj)} {σ : L2.St} {H : Hp} {s : Shared} {x : V} {v : Value} {z : Str} {t : Tok} {A : Around} (hu : A.units < cLine) (I : L2.Inv X pins σ H s) (h : Odd H x) (r : RelV x v) :
    SeqAt.EqAt A s (.str z t) v (eqV (.str z) x) := by
  have fl : flatV x = true → SeqAt.EqAt A s (.str z t) v (eqV (.str z) x) := fun f => eqAt_V (y := .str z) ⟨t, rfl⟩ r rfl f
  cases h with
  | non => exact fl rfl
  | bl b => exact fl rfl
  | int i => exact fl rfl
  | str z => exact fl rfl
  | lst h =>
    cases r
    obtain ⟨_, its, n, rv, e⟩ := I.hok _ _ h
    exact SeqAt.EqAt.str_list z t (items := its.toArray) ⟨_, e, rfl, _, rfl⟩ hu
  | tup h =>
    cases r
    obtain ⟨_, its, rv, o, e1, e2, n, e3⟩ := I.hok _ _ h
    exact SeqAt.EqAt.str_tuple z t ⟨o, e1, e2, n, e3⟩ hu
  | emp h =>
    cases r
    obtain ⟨_, sm, vs, kv, o, es, ep, e1, e2, e3, _, e4, _⟩ := I.hok _ _ h
    exact eqAt_str_dict z t e1 e2.1 e3 hu
def rNotInW (K : PySem.W.Frag) : R2 := fun x y H Q => ∃ (p : Addr) (ws : List Str), y = .ref p ∧ SqT K H p (ws.map V.str) ∧ Odd H x ∧ Q (.bl (!inV x (ws.map V.str))) H
theorem op_notInW (hu : X.A.units + 64 < cLine) : OpR X (compareOp .NotIn) (rNotInW X.K) := by
  intro pins s σ H x y v u Q I rx ry h
  obtain ⟨p, ws, rfl, hq, od, q⟩ := h
  cases ry
  obtain ⟨its, r, pl, hz⟩ := I.tuple hq
  have fs : (ws.map V.str).all flatV = true := by
    rw [List.all_map, List.all_eq_true]
    intro z _
    rfl
  have each : ∀ {vs : List V} {us : List Value}, Vals vs us → (∀ y ∈ vs, ∃ z, y = V.str z) → ∀ w ∈ us, SeqAt.EqAt X.A.in1 s w v (eqU x w) := by
    intro vs us r
    induction r with
    | nil => exact fun _ _ m => nomatch m
    | cons r1 r2 ih =>
      intro hv w m
      rcases List.mem_cons.mp m with rfl | m
      · obtain ⟨z, rfl⟩ := hv _ List.mem_cons_self
        obtain ⟨t, rfl⟩ := r1
        exact eqAt_odd (by show X.A.units + 1 < cLine; omega) I od rx
      · exact ih (fun y my => hv y (List.mem_cons_of_mem _ my)) w m
  refine SeqAt.notIn_tupleAt (eqU x) pl (fun w hw => each r (fun y my => by obtain ⟨z, _, rfl⟩ := List.mem_map.mp my; exact ⟨z, rfl⟩) w (by simpa using hw)) ⟨.bl _, H, I, rfl, ?_⟩
  rw [show its.toArray.any (eqU x) = its.any (eqU x) by simp, any_eqU r fs]
  exact q
/-- xs < ys, lists of whole numbers -/
theorem alike_ints : ∀ ns ms : List Int, PySem.W.alikeAll (ns.map PyData.int) (ms.map PyData.int) = true
  | [], [] => by simp only [List.map_nil, PySem.W.alikeAll]
  | [], _ :: _ => by simp only [List.map_nil, PySem.W.alikeAll]
  | _ :: _, [] => by simp only [List.map_nil, List.map_cons, PySem.W.alikeAll]
  | a :: ns, b :: ms => by simp only [List.map_cons, PySem.W.alikeAll, PySem.W.alike, alike_ints ns ms, Bool.and_self]
theorem dpI {K : PySem.W.Frag} {H : Hp} : ∀ is : List Int, DpAll K H (is.map V.int) (is.map PyData.int)
  | [] => .nil
  | i :: r => .cons (.int i) (dpI r)
theorem depth_ints : ∀ ns : List Int, PyData.depthAll (ns.map PyData.int) = 0
  | [] => by simp only [List.map_nil, PyData.depthAll]
  | n :: r => by simp only [List.map_cons, PyData.depthAll, PyData.depth, depth_ints r]; decide
def ltI (ns ms : List Int) : Bool := PySem.W.dataLt (.list (ns.map PyData.int)) (.list (ms.map PyData.int))
def rLtI (K : PySem.W.Frag) : R2 := fun x y H Q => ∃ (a b : Addr) (ns ms : List Int), x = .ref a ∧ y = .ref b ∧ SqL K H a (ns.map V.int) ∧ SqL K H b (ms.map V.int) ∧ Q (.bl (ltI ns ms)) H
theorem op_ltI (hu : X.A.units + 64 < cLine) : OpR X (compareOp .Lt) (rLtI X.K) := by
  intro pins s σ H x y v u Q I rx ry h
  obtain ⟨a, b, ns, ms, rfl, rfl, ha, hb, q⟩ := h
  obtain ⟨as, r1⟩ := Dp.reads I (.list (ns.map PyData.int)) (.ref a) v (.lst ha (dpI ns)) rx
  obtain ⟨bs, r2⟩ := Dp.reads I (.list (ms.map PyData.int)) (.ref b) u (.lst hb (dpI ms)) ry
  refine PySem.W.lt_data r1 r2 (by simp only [PySem.W.alike]; exact alike_ints ns ms) (fun z => nomatch z) ?_ ⟨.bl (ltI ns ms), H, I, rfl, q⟩
  have d1 : PyData.depth (.list (ns.map PyData.int)) = 1 := by simp only [PyData.depth, depth_ints]
  have : min (PyData.depth (.list (ns.map PyData.int))) (PyData.depth (.list (ms.map PyData.int))) ≤ 1 := by rw [d1]; exact Nat.min_le_left _ _
  omega
end

/-! ### comprehensions over enumerate(list) and zip(list, list) -/
theorem lc_ite {K : PySem.W.Frag} {a : Addr} {xs : List V} {g : TG} {tt : TT} {te : TE} {vs : List Nat} {σ : L2.St} {H1 : Hp} {D : Addr} {Qd : Hp → Prop} (Pv : Nat → Hp → Prop) (h0 : Pv 0 (upd H1 D (.lst []))) (hl : ∀ i H, i ≤ xs.length → Pv i H → SqL K H a xs)
    (hs : ∀ i x H T, xs[i]? = some x → Pv i H → H T = none → g (.ref T) (wipe σ vs) (upd H T (.tup [.int (i : Nat), x])) fun σ2 H2 => wipe σ2 vs = wipe σ vs ∧ tt σ2 H2 fun b H3 =>
      if b = true then te σ2 H3 fun y H4 => ∃ acc, H4 D = some (.lst acc) ∧ acc.length < sizeLine ∧ Pv (i + 1) (upd H4 D (.lst (acc ++ [y]))) else Pv (i + 1) H3) (hd : ∀ H, Pv xs.length H → Qd H) :
    ∃ W : Nat → Nat → Hp → Prop, (∃ m, W 0 m (upd H1 D (.lst []))) ∧ ∀ i m H, W i m H →
      ((Ite K a).stop i H ∧ Qd H) ∨ ((Ite K a).go i H ∧ ∃ Nx : Hp → Prop, (∀ H', Nx H' → ∃ m', m' < m ∧ W (i + 1) m' H') ∧ ∀ x H', (Ite K a).yld i H x H' → g x (wipe σ vs) H' fun σ2 H2 => wipe σ2 vs = wipe σ vs ∧ tt σ2 H2 fun b H3 =>
        if b = true then te σ2 H3 fun y H4 => ∃ acc, H4 D = some (.lst acc) ∧ acc.length < sizeLine ∧ Nx (upd H4 D (.lst (acc ++ [y]))) else Nx H3) := by
  refine ⟨fun i m H => m = xs.length - i ∧ i ≤ xs.length ∧ Pv i H, ⟨xs.length, by simp, Nat.zero_le _, h0⟩, ?_⟩
  rintro i m H ⟨rfl, hi, p⟩
  have q := hl i H hi p
  by_cases hlt : i < xs.length
  · refine .inr ⟨⟨xs, xs[i], q, by simp [hlt]⟩, Pv (i + 1), fun H' p' => ⟨xs.length - (i + 1), by omega, rfl, hlt, p'⟩, fun x H' y => ?_⟩
    obtain ⟨T, z, rfl, nT, rfl, hy⟩ := y
    exact hs i z H T (hy xs q) p nT
  · have e : i = xs.length := by omega
    subst e
    exact .inl ⟨⟨xs, q, Nat.le_refl _⟩, hd H p⟩
theorem lc_itz {K : PySem.W.Frag} {a b : Addr} {xs ys : List V} {g : TG} {tt : TT} {te : TE} {vs : List Nat} {σ : L2.St} {H1 : Hp} {D : Addr} {Qd : Hp → Prop} (hxy : xs.length = ys.length) (Pv : Nat → Hp → Prop) (h0 : Pv 0 (upd H1 D (.lst [])))
    (hl : ∀ i H, i ≤ xs.length → Pv i H → SqL K H a xs ∧ SqL K H b ys)
    (hs : ∀ i x y H T, xs[i]? = some x → ys[i]? = some y → Pv i H → H T = none → g (.ref T) (wipe σ vs) (upd H T (.tup [x, y])) fun σ2 H2 => wipe σ2 vs = wipe σ vs ∧ tt σ2 H2 fun b H3 =>
      if b = true then te σ2 H3 fun y H4 => ∃ acc, H4 D = some (.lst acc) ∧ acc.length < sizeLine ∧ Pv (i + 1) (upd H4 D (.lst (acc ++ [y]))) else Pv (i + 1) H3) (hd : ∀ H, Pv xs.length H → Qd H) :
    ∃ W : Nat → Nat → Hp → Prop, (∃ m, W 0 m (upd H1 D (.lst []))) ∧ ∀ i m H, W i m H →
      ((Itz K a b).stop i H ∧ Qd H) ∨ ((Itz K a b).go i H ∧ ∃ Nx : Hp → Prop, (∀ H', Nx H' → ∃ m', m' < m ∧ W (i + 1) m' H') ∧ ∀ x H', (Itz K a b).yld i H x H' → g x (wipe σ vs) H' fun σ2 H2 => wipe σ2 vs = wipe σ vs ∧ tt σ2 H2 fun b H3 =>
        if b = true then te σ2 H3 fun y H4 => ∃ acc, H4 D = some (.lst acc) ∧ acc.length < sizeLine ∧ Nx (upd H4 D (.lst (acc ++ [y]))) else Nx H3) := by
  refine ⟨fun i m H => m = xs.length - i ∧ i ≤ xs.length ∧ Pv i H, ⟨xs.length, by simp, Nat.zero_le _, h0⟩, ?_⟩
  rintro i m H ⟨rfl, hi, p⟩
  obtain ⟨q1, q2⟩ := hl i H hi p
  by_cases hlt : i < xs.length
  · have h2 : i < ys.length := by omega
    refine .inr ⟨⟨xs, ys, xs[i], ys[i], q1, q2, List.getElem?_eq_getElem hlt, List.getElem?_eq_getElem h2⟩, Pv (i + 1), fun H' p' => ⟨xs.length - (i + 1), by omega, rfl, hlt, p'⟩, fun x H' y => ?_⟩
    obtain ⟨T, z, z2, rfl, nT, rfl, hy, hy2⟩ := y
    exact hs i z z2 H T (hy xs q1) (hy2 ys q2) p nT
  · have e : i = xs.length := by omega
    subst e
    exact .inl ⟨⟨xs, ys, q1, q2, .inl (Nat.le_refl _)⟩, hd H p⟩
end Bf

/-! Own rules: f(e, .., k = v, ..) within a try's body. -/
namespace Bf
open PySem PySem.Spec PyProof.Rows L2
def tCallNS (n m : Nat) (sp : Sp) (gV : List V → List V → List V) (E : L2.St → XK) (t tk : TA) : TE := fun σ H Q => t σ H fun vs H1 => tk σ H1 fun zs H2 => vs.length = n ∧ zs.length = m ∧ sp (gV vs zs) H2 Q (E σ)
section
variable {X : Cx} {CX : CXT} {k n : Nat} {f : Addr} {fd : FuncData} {ps ks : List Str} {sp : Sp} {E : L2.St → XK} {x : Str} {p pos : Pos} {e : Expr} {es : List Expr} {kws : List Keyword} {t tk : TA} {g : List Value → List Value → List Value} {gV : List V → List V → List V}
theorem pe_callNS (F : FnOk X.prog X.w X.K X.mg X.base CX k f fd ps sp) (hr : Room k X.A) (hg : Gl X x) (hm : X.mg x = some (.ref f)) (hk : PySem.W.keepIn X.K (.ref f) = true) (hb : KBn X.K fd ps n ks g gV) (hx : ∀ σ, PassesAt CX X σ (E σ))
    (ha : PA X (e :: es) t) (hkw : PK X kws tk) (hall : (backToKw pos (keywordEach kws X.env)).all (·.1.isSome) = true := by rfl) (hks : (backToKw pos (keywordEach kws X.env)).filterMap (·.1) = ks := by rfl)
    (hdb : (x == ("__debug__" : Str)) = false := by decide) (he : starEach (e :: es) X.env = (false, eval e X.env) :: starEach es X.env := by rfl)
    (hpl : ((backTo pos (starEach (e :: es) X.env)).any (·.1) || (backToKw pos (keywordEach kws X.env)).any (·.1.isNone)) = false := by rfl) :
    PE X (.Call (.Name x p) (e :: es) kws pos) (tCallNS n ks.length sp gV E t tk) := by
  refine ⟨fun pins s σ H Q I h => ?_⟩
  refine wpAny_Call_Name_kw (ld_glob I hg hm ?_ hdb)
  refine PySem.W.callWith_KW (h₀ := X.base) I.ok.mod.kin hk hall (thn (ha.run pos pins s σ H _ I h) fun us s1 ⟨vs, H1, I1, r, q⟩ => ?_) hpl he
  refine thn (hkw.run pos pins s1 σ H1 _ I1 q) fun ws s2 ⟨zs, H2, I2, rz, l1, l2, q2⟩ => ⟨I2.kIn, ?_⟩
  rw [hks]
  have r2 := hb.rel r rz
  refine wpAny_call (codeAny_mono (F.run X.A X.stack s2 H2 ⟨us, ks.zip ws⟩ (g us ws) (gV vs zs) Q (E σ) hr I2.env0 (hb.to s2 us ws I2.kIn (r.length.symm.trans l1) (rz.length.symm.trans l2)) r2 q2) fun r s' hq => ?_)
  cases r with
  | error e => exact hx σ pins H2 s2 e s' I2 hq
  | ok fl =>
    cases fl with
    | ret u => exact I2.after hq
    | next => exact False.elim hq
    | brk => exact False.elim hq
    | cont => exact False.elim hq
end
end Bf
namespace Bf
open PySem PySem.Spec PyProof.Rows L2
/-! ### new lists, not the module table -/
section
variable {X : Cx}
def rCatN : R2 := fun x y H Q => ∃ (l b : Addr) (xs zs : List V), x = .ref l ∧ y = .ref b ∧ H l = some (.lst xs) ∧ H b = some (.lst zs) ∧ xs.length + zs.length ≤ sizeLine ∧ ∀ p, H p = none → p ≠ sysModules → Q (.ref p) (upd H p (.lst (xs ++ zs)))
theorem op_catN : OpR X (binaryOp .Add) rCatN := by
  intro pins s σ H x y v u Q I rx ry h
  obtain ⟨l, b, xs, zs, rfl, rfl, hH, hB, hz, q⟩ := h
  cases rx
  cases ry
  obtain ⟨z, its, n, r, hl, e⟩ := I.lstM hH
  obtain ⟨z2, its2, n2, r2, hl2, e2⟩ := I.lstM hB
  refine PySem.P.add_list e e2 ?_ (by rw [List.size_toArray, List.size_toArray]; omega)
  have ea : its.toArray ++ its2.toArray = (its ++ its2).toArray := by simp
  rw [ea]
  exact ⟨.ref _, _, I.lnew (t' := s.toks) (r.append r2) (by rw [List.length_append]; omega), rfl, q _ I.fresh (Nat.ne_of_gt I.big)⟩
def rSlN (K : PySem.W.Frag) : V → Option Int → Option Int → Hp → VK → Prop := fun x lo hi H Q => ∃ (a : Addr) (xs : List V), x = .ref a ∧ SqL K H a xs ∧ ∀ p, H p = none → p ≠ sysModules → Q (.ref p) (upd H p (.lst (cutV xs lo hi)))
theorem sl_listN : SlR X (rSlN X.K) := by
  intro pins s σ H x v vl vu lo hi sl Q I rx hs pl pu h
  obtain ⟨a, xs, rfl, hx, q⟩ := h
  cases rx
  obtain ⟨its, r, ht, hz⟩ := I.list hx
  have hlen := r.length
  refine ⟨"list", _, slot_list_getitem.lookup, ht.isList.typeIs, ?_⟩
  refine wpAny_getItem_list_slice ht.isList hs pl pu .none (by simp) ?_ (by rw [List.size_toArray] <;> omega)
  rw [slicePick_cut, ← hlen]
  refine ⟨.ref s.heap.objs.size, _, I.laid (t' := s.toks) (o := .lst (cutV xs lo hi)) (fun b ob q => Heap.get?_push_of_some _ q) (Nat.le_refl _) ?_, rfl, q _ (I.hok.fresh (Nat.le_refl _)) (Nat.ne_of_gt I.big)⟩
  exact ⟨Nat.le_trans (cutV_length xs lo hi) hz, _, 0, (r.drop (HT.sIx xs.length 0 lo)).take (HT.sIx xs.length xs.length hi - HT.sIx xs.length 0 lo), Heap.get?_push_size _ rfl⟩
def rRepN : R2 := fun x y H Q => ∃ (l : Addr) (k : Int) (xs : List V), x = .ref l ∧ y = .int k ∧ H l = some (.lst xs) ∧ -(2 ^ 63) ≤ k ∧ k < 2 ^ 63 ∧ xs.length * k.toNat ≤ sizeLine ∧
  ∀ p, H p = none → p ≠ sysModules → Q (.ref p) (upd H p (.lst (List.replicate k.toNat xs).flatten))
theorem op_repN : OpR X (binaryOp .Mult) rRepN := by
  intro pins s σ H x y v u Q I rx ry h
  obtain ⟨l, k, xs, rfl, rfl, hH, h1, h2, hz, q⟩ := h
  cases rx
  obtain ⟨t, rfl⟩ := ry
  obtain ⟨z, its, n, r, hl, e⟩ := I.lstM hH
  have hlen : its.toArray.size * k.toNat ≤ sizeLine := by rw [List.size_toArray, ← hl]; exact hz
  have hcap : ¬ its.toArray.size * k.toNat > (2 ^ 63 - 1) / 8 := by
    have : (sizeLine : Nat) ≤ (2 ^ 63 - 1) / 8 := by decide
    omega
  have hfit : ¬ (!Builtin.List.listFitsIndex k) = true := by
    rw [fitsIndex_both h1 h2]
    exact Bool.false_ne_true
  have hlong : ¬ Builtin.List.listTooLong (its.toArray.size * k.toNat) = true := by
    rw [notLongL hlen]
    exact Bool.false_ne_true
  have hnew : List.foldl (fun x1 x2 => x1 ++ x2) #[] (List.replicate (if its.toArray.isEmpty = true then 0 else k.toNat) its.toArray) = (List.replicate k.toNat its).flatten.toArray := by
    have f0 : ∀ m : Nat, List.foldl (fun x1 x2 => x1 ++ x2) #[] (List.replicate m its.toArray) = (List.replicate m its).flatten.toArray := fun m => by
      have := foldl_rep its m []
      rw [List.nil_append] at this
      exact this
    rw [f0]
    cases its with
    | nil => simp
    | cons a r' => rw [if_neg (by simp)]
  refine wpAny_binaryOp_repeat_ref (T := "list") (U := "int") (by decide) ⟨_, e, rfl⟩ (fun s' => typeIs_int s' k t) noFill_list_mul F.fills_int_mul F.slot_int_rmul repeat_list F.slot_int_index.lookup
    (call_meets F.slot_int_rmul (typeIs_int s k t) F.entry_int_rmul (F.args_int_rmul_2 _ _) (int___rmul___int_list k t l its.toArray n)
      ⟨e, rfl, ⟨_, e, rfl⟩, call_meets F.slot_list_mul ⟨_, e, rfl⟩ F.entry_list_mul (F.args_list_mul_2 _ _) (AutoListH.list___mul___list_int_3 l its.toArray n k t hfit hcap hlong) ⟨e, ?_⟩⟩)
  rw [hnew]
  exact ⟨.ref _, _, I.lnew (t' := s.toks) (r.rep k.toNat) (by rw [PyProof.Rows.lm_len_rep_flat, Nat.mul_comm]; exact hz), rfl, q _ I.fresh (Nat.ne_of_gt I.big)⟩
end
end Bf

namespace Bf
open PySem PySem.Spec PyProof.Rows L2

/-! ### things by their types -/
inductive Kn (K : PySem.W.Frag) (H : Hp) : V → String → Prop
  | non : Kn K H .non "NoneType"
  | bl (b : Bool) : Kn K H (.bl b) "bool"
  | int (i : Int) : Kn K H (.int i) "int"
  | str (z : Str) : Kn K H (.str z) "str"
  | lst {a : Addr} (h : TyX K H (.ref a) (.type "list")) : Kn K H (.ref a) "list"
  | tup {a : Addr} (h : TyX K H (.ref a) (.type "tuple")) : Kn K H (.ref a) "tuple"
  | dic {a : Addr} (h : TyX K H (.ref a) (.type "dict")) : Kn K H (.ref a) "dict"
theorem Kn.ty {K : PySem.W.Frag} {H : Hp} {x : V} {n : String} (h : Kn K H x n) : TyX K H x (.type n) := by
  cases h with
  | non => exact .base .non
  | bl b => exact .base (.bl b)
  | int i => exact .base (.int i)
  | str z => exact .base (.str z)
  | lst h => exact h
  | tup h => exact h
  | dic h => exact h
def wholeB (x : V) (lo hi : Int) : Bool := match x with
  | .int i => decide (lo ≤ i) && decide (i ≤ hi)
  | _ => false
theorem wholeB_int {x : V} {lo hi : Int} (h : wholeB x lo hi = true) : ∃ i, x = .int i ∧ lo ≤ i ∧ i ≤ hi := by
  cases x with
  | int i =>
    have z : (decide (lo ≤ i) && decide (i ≤ hi)) = true := h
    obtain ⟨a, b⟩ := Bool.and_eq_true_iff.mp z
    exact ⟨i, rfl, of_decide_eq_true a, of_decide_eq_true b⟩
  | _ => cases h
theorem wholeB_of {i lo hi : Int} (a : lo ≤ i) (b : i ≤ hi) : wholeB (.int i) lo hi = true := by
  show (decide (lo ≤ i) && decide (i ≤ hi)) = true
  rw [decide_eq_true a, decide_eq_true b]; rfl

/-- a def of the text as its callers need it -/
structure Df (K : PySem.W.Frag) (mg : Str → Option Value) (x : Str) (f : Addr) (fd : FuncData) (ps : List Str) : Prop where
  at_ : mg x = some (.ref f)
  kp : PySem.W.keepIn K (.ref f) = true
  bd : Binds K fd ps []
abbrev CXL (P : Program) (w : World) : CXT := L2.CX P w

namespace P3
def top (i : Nat) : Stmt := PySem.Challenge.pw_beatflows_k03_words_of_reckoning.main.body.getD i (.Pass ⟨0, 0, 0, 0⟩)
abbrev sFE : Stmt := inClass (top 1) 0
abbrev sNW : Stmt := inClass (top 4) 0
abbrev sNS : Stmt := inClass (top 5) 0
abbrev sNN : Stmt := inClass (top 6) 0
abbrev sNP : Stmt := inClass (top 7) 0
abbrev sWhole : Stmt := top 11
abbrev sWidth : Stmt := top 13
abbrev sReck : Stmt := top 14
abbrev sOne : Stmt := top 15
abbrev sTwo : Stmt := top 16
abbrev sGreat : Stmt := top 17
abbrev sWorthOf : Stmt := top 18
abbrev sAre : Stmt := top 19
abbrev sIsList : Stmt := top 20
abbrev sCell : Stmt := top 22
abbrev sPurse : Stmt := top 23
abbrev sTake : Stmt := top 24
abbrev sBits : Stmt := top 26
abbrev sMade : Stmt := top 27
abbrev sCarr : Stmt := top 28
abbrev sDue : Stmt := top 29
abbrev sAsked : Stmt := top 30
abbrev sWorth : Stmt := top 31
abbrev sRef : Stmt := top 32
abbrev sNumber : Stmt := top 12
abbrev sLaw : Stmt := top 33

section
variable {P : Program} {w : World} {K : PySem.W.Frag} {mg : Str → Option Value} {base : Heap}

/-! ### is_whole and what stands on it -/
def numB (x : V) : Bool := match x with
  | .int _ => true
  | _ => false
def spNum (K : PySem.W.Frag) : Sp := fun vs H Q _ => ∃ (x : V) (n : String), vs = [x] ∧ Kn K H x n ∧ Q (.bl (numB x)) H
theorem scNum : FnScope ["thing"] ["thing"] (defScope sNumber) := ⟨rfl, rfl, rfl, by decide +kernel, rfl, by decide +kernel, by decide +kernel⟩
theorem ok_num {f : Addr} {fd : FuncData} (F : Fun K "is_number" "is_number" sNumber f fd) (mi : mg "isinstance" = none) (mt : mg "int" = none) (mb : mg "bool" = none) :
    FnOk P w K mg base CX0 1 f fd ["thing"] (spNum K) := by
  refine F.ok scNum (fun vs H Q E h => ?_) (fun cdv A outer s H vs Q E hr h => ?_)
  · obtain ⟨x, n, rfl, _⟩ := h
    rfl
  · obtain ⟨x, n, rfl, kn, q⟩ := h
    refine ⟨_, pss_one (ps_ret (pe_and (pe_callB call_isi (by rfl) mi (by decide +kernel) (pa_cons (pv 0) (pa_cons (pe_bltn (v := .ty "int") (by rfl) mt (by decide +kernel) rfl) pa_nil)))
      (pe_one (pe_not (pe_callB call_isi (by rfl) mi (by decide +kernel) (pa_cons (pv 0) (pa_cons (pe_bltn (v := .ty "bool") (by rfl) mb (by decide +kernel) rfl) pa_nil))))))), ?_⟩
    cases kn with
    | int i =>
      refine ⟨_, rfl, _, _, _, _, _, rfl, .ty "int", .base (.int i), kit_ty (by decide +kernel), _, rfl, iteT ?_⟩
      exact ⟨_, rfl, _, _, _, _, false, rfl, .ty "bool", .base (.int i), kit_ty (by decide +kernel), _, rfl, q⟩
    | bl b =>
      refine ⟨_, rfl, _, _, _, _, _, rfl, .ty "int", .base (.bl b), kit_ty (by decide +kernel), _, rfl, iteT ?_⟩
      exact ⟨_, rfl, _, _, _, _, true, rfl, .ty "bool", .base (.bl b), kit_ty (by decide +kernel), _, rfl, q⟩
    | non => exact ⟨_, rfl, _, _, _, _, _, rfl, .ty "int", .base .non, kit_ty (by decide +kernel), _, rfl, iteF q⟩
    | str z => exact ⟨_, rfl, _, _, _, _, _, rfl, .ty "int", .base (.str z), kit_ty (by decide +kernel), _, rfl, iteF q⟩
    | lst t => exact ⟨_, rfl, _, _, _, _, _, rfl, .ty "int", t, kit_ty (by decide +kernel), _, rfl, iteF q⟩
    | tup t => exact ⟨_, rfl, _, _, _, _, _, rfl, .ty "int", t, kit_ty (by decide +kernel), _, rfl, iteF q⟩
    | dic t => exact ⟨_, rfl, _, _, _, _, _, rfl, .ty "int", t, kit_ty (by decide +kernel), _, rfl, iteF q⟩
def spWhole (K : PySem.W.Frag) : Sp := fun vs H Q _ => ∃ (x : V) (n : String) (lo hi : Int), vs = [x, .int lo, .int hi] ∧ Kn K H x n ∧ Q (.bl (wholeB x lo hi)) H
theorem scWhole : FnScope ["thing", "low", "high"] ["thing", "low", "high"] (defScope sWhole) := ⟨rfl, rfl, rfl, by decide +kernel, rfl, by decide +kernel, by decide +kernel⟩
theorem ok_whole {f fn : Addr} {fd fdn : FuncData} (F : Fun K "is_whole" "is_whole" sWhole f fd) (Dn : Df K mg "is_number" fn fdn ["thing"]) (Gn : FnOk P w K mg base CX0 1 fn fdn ["thing"] (spNum K)) :
    FnOk P w K mg base CX0 2 f fd ["thing", "low", "high"] (spWhole K) := by
  refine F.ok scWhole (fun vs H Q E h => ?_) (fun cdv A outer s H vs Q E hr h => ?_)
  · obtain ⟨x, n, lo, hi, rfl, _⟩ := h
    rfl
  · obtain ⟨x, n, lo, hi, rfl, kn, q⟩ := h
    refine ⟨_, pss_one (ps_ret (pe_and (pe_call Gn hr (by rfl) Dn.at_ Dn.kp Dn.bd .nil pass0 (pa_cons (pv 0) pa_nil))
        (pe_one (pe_chain op_le op_le (pv 1) (pv 0) (pv 2))))), ?_⟩
    refine ⟨_, rfl, x, n, rfl, kn, _, rfl, ?_⟩
    cases x with
    | int i =>
      refine iteT ⟨_, rfl, _, rfl, _, _, rfl, rfl, _, rfl, ite2 (fun h1 => ?_) (fun h1 => ?_)⟩
      · refine ⟨_, rfl, _, _, rfl, rfl, ?_⟩
        have e : wholeB (.int i) lo hi = decide (i ≤ hi) := by
          show (decide (lo ≤ i) && decide (i ≤ hi)) = _
          rw [h1]; rfl
        rw [e] at q; exact q
      · have e : wholeB (.int i) lo hi = false := by
          show (decide (lo ≤ i) && decide (i ≤ hi)) = _
          rw [Bool.eq_false_iff.mpr h1]; rfl
        rw [e] at q; exact q
    | _ => exact iteF q

/-- a def of one thing that asks is_whole between two written bounds -/
def spOne (K : PySem.W.Frag) (lo hi : Int) : Sp := fun vs H Q _ => ∃ (x : V) (n : String), vs = [x] ∧ Kn K H x n ∧ Q (.bl (wholeB x lo hi)) H
theorem scWidth : FnScope ["thing"] ["thing"] (defScope sWidth) := ⟨rfl, rfl, rfl, by decide +kernel, rfl, by decide +kernel, by decide +kernel⟩
theorem ok_width {f fw : Addr} {fd fdw : FuncData} (F : Fun K "is_width" "is_width" sWidth f fd) (D : Df K mg "is_whole" fw fdw ["thing", "low", "high"])
    (G : FnOk P w K mg base CX0 2 fw fdw ["thing", "low", "high"] (spWhole K)) : FnOk P w K mg base CX0 3 f fd ["thing"] (spOne K 1 8) := by
  refine F.ok scWidth (fun vs H Q E h => ?_) (fun cdv A outer s H vs Q E hr h => ?_)
  · obtain ⟨x, n, rfl, _⟩ := h
    rfl
  · obtain ⟨x, n, rfl, kn, q⟩ := h
    exact ⟨_, pss_one (ps_ret (pe_call G hr (by rfl) D.at_ D.kp D.bd .nil pass0 (pa_cons (pv 0) (pa_cons pe_int (pa_cons pe_int pa_nil))))), _, rfl, _, n, 1, 8, rfl, kn, q⟩
def topW (z : Int) : Int := 2 ^ z.toNat - 1
def spGreat : Sp := fun vs H Q _ => ∃ z : Int, vs = [.int z] ∧ 0 ≤ z ∧ z ≤ 1000 ∧ Q (.int (topW z)) H
theorem scGreat : FnScope ["width"] ["width"] (defScope sGreat) := ⟨rfl, rfl, rfl, by decide +kernel, rfl, by decide +kernel, by decide +kernel⟩
theorem ok_great {f : Addr} {fd : FuncData} (F : Fun K "_greatest" "_greatest" sGreat f fd) : FnOk P w K mg base CX0 2 f fd ["width"] spGreat := by
  refine F.ok scGreat (fun vs H Q E h => ?_) (fun cdv A outer s H vs Q E hr h => ?_)
  · obtain ⟨x, rfl, _⟩ := h
    rfl
  · obtain ⟨z, rfl, h0, h1, q⟩ := h
    refine ⟨_, pss_one (ps_ret (pe_op op_sub (pe_op op_shl pe_int (pv 0)) pe_int)), ?_⟩
    refine ⟨_, rfl, _, _, rfl, rfl, ⟨h0, Int.le_trans h1 (by decide), by decide⟩, _, _, rfl, rfl, ?_⟩
    rw [Int.one_mul]
    exact q
def spWorthOf (K : PySem.W.Frag) : Sp := fun vs H Q _ => ∃ (x : V) (n : String) (z : Int), vs = [x, .int z] ∧ Kn K H x n ∧ 0 ≤ z ∧ z ≤ 1000 ∧ Q (.bl (wholeB x 0 (topW z))) H
theorem scWorthOf : FnScope ["thing", "width"] ["thing", "width"] (defScope sWorthOf) := ⟨rfl, rfl, rfl, by decide +kernel, rfl, by decide +kernel, by decide +kernel⟩
theorem ok_worthOf {f fw fg : Addr} {fd fdw fdg : FuncData} (F : Fun K "_is_worth_of_width" "_is_worth_of_width" sWorthOf f fd) (D : Df K mg "is_whole" fw fdw ["thing", "low", "high"])
    (G : FnOk P w K mg base CX0 2 fw fdw ["thing", "low", "high"] (spWhole K)) (Dg : Df K mg "_greatest" fg fdg ["width"]) (Gg : FnOk P w K mg base CX0 2 fg fdg ["width"] spGreat) :
    FnOk P w K mg base CX0 3 f fd ["thing", "width"] (spWorthOf K) := by
  refine F.ok scWorthOf (fun vs H Q E h => ?_) (fun cdv A outer s H vs Q E hr h => ?_)
  · obtain ⟨x, n, z, rfl, _⟩ := h
    rfl
  · obtain ⟨x, n, z, rfl, kn, h0, h1, q⟩ := h
    exact ⟨_, pss_one (ps_ret (pe_call G hr (by rfl) D.at_ D.kp D.bd .nil pass0 (pa_cons (pv 0) (pa_cons pe_int (pa_cons (pe_call Gg hr (by rfl) Dg.at_ Dg.kp Dg.bd .nil pass0 (pa_cons (pv 1) pa_nil)) pa_nil))))),
      _, rfl, _, rfl, z, rfl, h0, h1, _, n, 0, topW z, rfl, kn, q⟩
def listy (n : String) : Bool := n == "list" || n == "tuple"
def spIsList (K : PySem.W.Frag) : Sp := fun vs H Q _ => ∃ (x : V) (n : String), vs = [x] ∧ Kn K H x n ∧ ∀ H', Same H H' → Q (.bl (listy n)) H'
theorem scIsList : FnScope ["thing"] ["thing"] (defScope sIsList) := ⟨rfl, rfl, rfl, by decide +kernel, rfl, by decide +kernel, by decide +kernel⟩
theorem same_new {H : Hp} {p : Addr} {o : HO} (h : H p = none) : Same H (upd H p o) := fun b u e => by
  rw [upd_ne (ne_of_none e h)]
  exact e
theorem kn_same {H H' : Hp} {x : V} {n : String} (e : Same H H') (h : Kn K H x n) : Kn K H' x n := by
  have T : ∀ {a : Addr} {t : Value}, TyX K H (.ref a) t → TyX K H' (.ref a) t := fun {a t} h => by
    cases h with
    | base h =>
      cases h with
      | lst q => exact .base (.lst (e _ _ q))
      | frz q => exact .base (.frz (e _ _ q))
      | tup q => exact .base (.tup (e _ _ q))
      | dK q => exact .base (.dK (e _ _ q))
      | dT q => exact .base (.dT (e _ _ q))
      | ins q cl ha hn ht hm => exact .base (.ins (e _ _ q) cl ha hn ht hm)
    | set q => exact .set (e _ _ q)
    | kList q c => exact .kList q c
    | kTuple q c => exact .kTuple q c
    | kDict q c => exact .kDict q c
    | fTuple q => exact .fTuple (e _ _ q)
    | fDict q => exact .fDict (e _ _ q)
  cases h with
  | non => exact .non
  | bl b => exact .bl b
  | int i => exact .int i
  | str z => exact .str z
  | lst h => exact .lst (T h)
  | tup h => exact .tup (T h)
  | dic h => exact .dic (T h)
theorem ok_isList {f : Addr} {fd : FuncData} (F : Fun K "is_list" "is_list" sIsList f fd) (mi : mg "isinstance" = none) (ml : mg "list" = none) (mt : mg "tuple" = none) :
    FnOk P w K mg base CX0 2 f fd ["thing"] (spIsList K) := by
  refine F.ok scIsList (fun vs H Q E h => ?_) (fun cdv A outer s H vs Q E hr h => ?_)
  · obtain ⟨x, n, rfl, _⟩ := h
    rfl
  · obtain ⟨x, n, rfl, kn, q⟩ := h
    refine ⟨_, pss_one (ps_ret (pe_callB call_isiT (by rfl) mi (by decide +kernel) (pa_cons (pv 0) (pa_cons (pe_tup (pa_cons (pe_bltn (v := .ty "list") (by rfl) ml (by decide +kernel) rfl)
      (pa_cons (pe_bltn (v := .ty "tuple") (by rfl) mt (by decide +kernel) rfl) pa_nil))) pa_nil)))), ?_⟩
    refine ⟨_, rfl, (by show 2 ≤ sizeLine; decide), fun T hT => ?_⟩
    have sm : Same H (upd H T (.tup [.ty "list", .ty "tuple"])) := same_new hT
    have kn' := kn_same sm kn
    have go : ∀ b, PySem.W.kitOne K (.type n) (.type "list") = some b → (b = false → PySem.W.kitOne K (.type n) (.type "tuple") = some (listy n)) → (b = true → listy n = true) →
        PySem.W.kitAny K (.type n) [.type "list", .type "tuple"] = some (listy n) := fun b h1 h2 h3 =>
      kitAny_cons h1 (fun e => kitAny_cons (h2 e) (fun e2 => by rw [e2]; exact kitAny_nil) fun e2 => e2) h3
    refine ⟨_, T, _, _, [.type "list", .type "tuple"], _, rfl, upd_same, .cons (.ty "list") (.cons (.ty "tuple") .nil), kn'.ty, ?_, q _ sm⟩
    cases kn with
    | non => exact go false (kit_ty (by decide +kernel)) (fun _ => kit_ty (by decide +kernel)) (fun z => nomatch z)
    | bl b => exact go false (kit_ty (by decide +kernel)) (fun _ => kit_ty (by decide +kernel)) (fun z => nomatch z)
    | int i => exact go false (kit_ty (by decide +kernel)) (fun _ => kit_ty (by decide +kernel)) (fun z => nomatch z)
    | str z => exact go false (kit_ty (by decide +kernel)) (fun _ => kit_ty (by decide +kernel)) (fun z => nomatch z)
    | lst t => exact go true (kit_ty (by decide +kernel)) (fun z => nomatch z) (fun _ => by decide)
    | tup t => exact go false (kit_ty (by decide +kernel)) (fun _ => kit_ty (by decide +kernel)) (fun z => nomatch z)
    | dic t => exact go false (kit_ty (by decide +kernel)) (fun _ => kit_ty (by decide +kernel)) (fun z => nomatch z)
end
end P3
end Bf

namespace Bf
open PySem PySem.Spec PyProof.Rows L2

/-! ### refusals of one field -/
structure ExT (K : PySem.W.Frag) (mg : Str → Option Value) (x : Str) (C fI : Addr) (fdI : FuncData) : Prop where
  gC : mg x = some (.ref C)
  ox : OexC K C
  iC : PySem.W.findIn K (.ref C) "__init__" = some (some (.ref fI))
  tI : PySem.W.typeIn K (.ref fI) = some (.type "function")
  nf : PySem.W.findIn K (.ref C) "found" = some none
  xf : XfC K C
  bd : Binds K fdI ["self", "found"] []
/-- self is an exception that is being made, without fields as yet -/
def spBase (K : PySem.W.Frag) : Sp := fun vs H Q _ => ∃ (a C : Addr) (v : V), vs = [.ref a, v] ∧ OexC K C ∧ H a = some (exo a C none) ∧ Q .non H
def spInit (K : PySem.W.Frag) (C : Addr) : Sp := fun vs H Q _ => ∃ (a : Addr) (v : V), vs = [.ref a, v] ∧ H a = some (exo a C none) ∧
  ∀ dx, H dx = none → dx ≠ a → Q .non (upd (upd H dx (exd dx [("found", v)])) a (exo a C (some dx)))
/-- the wish that a refusal with this field comes -/
def Refuses (C : Addr) (v : V) (H : Hp) (E : XK) : Prop := ∀ d H', Same H H' → H d = none → H' d = some (.xd [("found", v)]) → E (.ref C) (some d) H'
theorem same_raise {H1 : Hp} {a d : Addr} {o1 o2 o3 o4 : HO} (ha : H1 a = none) (hd : H1 d = none) : Same H1 (upd (del (upd (upd (upd H1 a o1) d o2) a o3) a) d o4) := fun b o e => by
  have nba : b ≠ a := ne_of_none e ha
  have nbd : b ≠ d := ne_of_none e hd
  rw [upd_ne nbd, del_ne nba, upd_ne nba, upd_ne nbd, upd_ne nba]
  exact e

namespace P3
section
variable {P : Program} {w : World} {K : PySem.W.Frag} {mg : Str → Option Value} {base : Heap}
theorem scFE : FnScope ["self", "text"] ["self", "text"] (defScope sFE) := ⟨rfl, rfl, rfl, by decide +kernel, rfl, by decide +kernel, by decide +kernel⟩
theorem ok_FE {f : Addr} {fd : FuncData} (F : Fun K "__init__" "FlowError.__init__" sFE f fd) (mV : mg "ValueError" = none)
    (vV : PySem.W.findCls K (.type "ValueError") (.type "type") "__init__" = some (.val (.builtin "ValueError.__init__"))) : FnOk P w K mg base CX0 2 f fd ["self", "text"] (spBase K) := by
  refine F.ok scFE (fun vs H Q E h => ?_) (fun cdv A outer s H vs Q E hr h => ?_)
  · obtain ⟨a, C, v, rfl, _⟩ := h
    rfl
  · obtain ⟨a, C, v, rfl, ox, ea, q⟩ := h
    exact ⟨_, pss_one (ps_expr (pe_veinit (by rfl) mV vV (pa_cons (pv 0) (pa_cons (pv 1) pa_nil)))), _, rfl, _, rfl, a, C, [v], rfl, by show 1 ≤ 1000; decide, ox, ea, q⟩
/-- what an __init__ needs of the base's class -/
structure BaseT (P : Program) (w : World) (K : PySem.W.Frag) (mg : Str → Option Value) (base : Heap) (mc : Value) (CF fF : Addr) (fdF : FuncData) : Prop where
  g : mg "FlowError" = some (.ref CF)
  rd : ClX.CRead K CF mc
  va : PySem.W.findCls K (.ref CF) mc "__init__" = some (.val (.ref fF))
  kp : PySem.W.keepIn K (.ref fF) = true
  bd : Binds K fdF ["self", "text"] []
  ok : FnOk P w K mg base CX0 2 fF fdF ["self", "text"] (spBase K)
theorem scNW : FnScope ["self", "found"] ["self", "found"] (defScope sNW) := ⟨rfl, rfl, rfl, by decide +kernel, rfl, by decide +kernel, by decide +kernel⟩
theorem ok_NW {f C CF fF : Addr} {fd fdF : FuncData} {mc : Value} (F : Fun K "__init__" "NoWidth.__init__" sNW f fd) (B : BaseT P w K mg base mc CF fF fdF) (ox : OexC K C) (nf : PySem.W.findIn K (.ref C) "found" = some none) :
    FnOk P w K mg base CX0 3 f fd ["self", "found"] (spInit K C) := by
  refine F.ok scNW (fun vs H Q E h => ?_) (fun cdv A outer s H vs Q E hr h => ?_)
  · obtain ⟨a, v, rfl, _⟩ := h
    rfl
  · obtain ⟨a, v, rfl, ea, q⟩ := h
    exact ⟨_, pss_cons (ps_expr (pe_clsFn B.ok hr (by rfl) B.g B.rd B.va B.kp B.bd pass0 (pa_cons (pv 0) (pa_cons pe_str pa_nil)))) (pss_one (ps_ost (pv 0) (pv 1))),
      _, rfl, a, C, _, rfl, ox, ea, _, rfl, _, rfl, a, C, rfl, ox, nf, .inl ⟨ea, fun dx n ne => q dx n ne⟩⟩
theorem scNS : FnScope ["self", "found"] ["self", "found"] (defScope sNS) := ⟨rfl, rfl, rfl, by decide +kernel, rfl, by decide +kernel, by decide +kernel⟩
theorem ok_NS {f C CF fF : Addr} {fd fdF : FuncData} {mc : Value} (F : Fun K "__init__" "NoWorths.__init__" sNS f fd) (B : BaseT P w K mg base mc CF fF fdF) (ox : OexC K C) (nf : PySem.W.findIn K (.ref C) "found" = some none) :
    FnOk P w K mg base CX0 3 f fd ["self", "found"] (spInit K C) := by
  refine F.ok scNS (fun vs H Q E h => ?_) (fun cdv A outer s H vs Q E hr h => ?_)
  · obtain ⟨a, v, rfl, _⟩ := h
    rfl
  · obtain ⟨a, v, rfl, ea, q⟩ := h
    exact ⟨_, pss_cons (ps_expr (pe_clsFn B.ok hr (by rfl) B.g B.rd B.va B.kp B.bd pass0 (pa_cons (pv 0) (pa_cons pe_str pa_nil)))) (pss_one (ps_ost (pv 0) (pv 1))),
      _, rfl, a, C, _, rfl, ox, ea, _, rfl, _, rfl, a, C, rfl, ox, nf, .inl ⟨ea, fun dx n ne => q dx n ne⟩⟩
theorem scNN : FnScope ["self", "found"] ["self", "found"] (defScope sNN) := ⟨rfl, rfl, rfl, by decide +kernel, rfl, by decide +kernel, by decide +kernel⟩
theorem ok_NN {f C CF fF : Addr} {fd fdF : FuncData} {mc : Value} (F : Fun K "__init__" "NoNumber.__init__" sNN f fd) (B : BaseT P w K mg base mc CF fF fdF) (ox : OexC K C) (nf : PySem.W.findIn K (.ref C) "found" = some none) :
    FnOk P w K mg base CX0 3 f fd ["self", "found"] (spInit K C) := by
  refine F.ok scNN (fun vs H Q E h => ?_) (fun cdv A outer s H vs Q E hr h => ?_)
  · obtain ⟨a, v, rfl, _⟩ := h
    rfl
  · obtain ⟨a, v, rfl, ea, q⟩ := h
    exact ⟨_, pss_cons (ps_expr (pe_clsFn B.ok hr (by rfl) B.g B.rd B.va B.kp B.bd pass0 (pa_cons (pv 0) (pa_cons pe_str pa_nil)))) (pss_one (ps_ost (pv 0) (pv 1))),
      _, rfl, a, C, _, rfl, ox, ea, _, rfl, _, rfl, a, C, rfl, ox, nf, .inl ⟨ea, fun dx n ne => q dx n ne⟩⟩
theorem scNP : FnScope ["self", "found"] ["self", "found"] (defScope sNP) := ⟨rfl, rfl, rfl, by decide +kernel, rfl, by decide +kernel, by decide +kernel⟩
theorem ok_NP {f C CF fF : Addr} {fd fdF : FuncData} {mc : Value} (F : Fun K "__init__" "NoOp.__init__" sNP f fd) (B : BaseT P w K mg base mc CF fF fdF) (ox : OexC K C) (nf : PySem.W.findIn K (.ref C) "found" = some none) :
    FnOk P w K mg base CX0 3 f fd ["self", "found"] (spInit K C) := by
  refine F.ok scNP (fun vs H Q E h => ?_) (fun cdv A outer s H vs Q E hr h => ?_)
  · obtain ⟨a, v, rfl, _⟩ := h
    rfl
  · obtain ⟨a, v, rfl, ea, q⟩ := h
    exact ⟨_, pss_cons (ps_expr (pe_clsFn B.ok hr (by rfl) B.g B.rd B.va B.kp B.bd pass0 (pa_cons (pv 0) (pa_cons pe_str pa_nil)))) (pss_one (ps_ost (pv 0) (pv 1))),
      _, rfl, a, C, _, rfl, ox, ea, _, rfl, _, rfl, a, C, rfl, ox, nf, .inl ⟨ea, fun dx n ne => q dx n ne⟩⟩
/-- what stands behind «raise C(v)», v already reckoned: the reading from the arguments on -/
theorem raise_reads {C : Addr} {v : V} {H : Hp} {E : XK} (q : Refuses C v H E) :
    ([v] : List V).length ≤ 1000 ∧ ∀ a, H a = none → spInit K C (.ref a :: ([v] ++ [])) (upd H a (exo a C none)) (fun z H2 => z = .non ∧ ∃ (d : Addr) (fs : List (Str × V)), H2 a = some (exo a C (some d)) ∧ H2 d = some (exd d fs) ∧ H d = none ∧
      E (.ref C) (some d) (upd (del H2 a) d (.xd fs))) fun _ _ _ => False := by
  refine ⟨by show 1 ≤ 1000; decide, fun a ha => ⟨a, v, rfl, upd_same, fun dx hdx ne => ⟨rfl, dx, [("found", v)], upd_same, ?_, ?_, ?_⟩⟩⟩
  · rw [upd_ne ne, upd_same]
  · rw [upd_ne ne] at hdx
    exact hdx
  · have hd : H dx = none := by
      rw [upd_ne ne] at hdx
      exact hdx
    exact q _ _ (same_raise ha hd) hd upd_same

end
end P3
end Bf

namespace Bf
open PySem PySem.Spec PyProof.Rows L2

/-- a loop over enumerate(list) -/
theorem for_ite {K : PySem.W.Frag} {a : Addr} {xs : List V} {g : TG} {tb : TS} {D : Ends} {σ : L2.St} {H : Hp} (Pv : Nat → L2.St → Hp → Prop) (h0 : Pv 0 σ H) (hl : ∀ i σ H, i ≤ xs.length → Pv i σ H → SqL K H a xs)
    (hs : ∀ i x σ H T, xs[i]? = some x → Pv i σ H → H T = none → g (.ref T) σ (upd H T (.tup [.int (i : Nat), x])) fun σ2 H2 => tb { D with nx := Pv (i + 1), ct := Pv (i + 1), bk := D.nx } σ2 H2) (hd : ∀ σ H, Pv xs.length σ H → D.nx σ H) :
    ∃ W : Nat → Nat → L2.St → Hp → Prop, (∃ m, W 0 m σ H) ∧ ∀ i m σ H, W i m σ H →
      ((Ite K a).stop i H ∧ D.nx σ H) ∨ ((Ite K a).go i H ∧ ∃ N : L2.St → Hp → Prop, (∀ σ' H', N σ' H' → ∃ m', m' < m ∧ W (i + 1) m' σ' H') ∧ ∀ x H', (Ite K a).yld i H x H' → g x σ H' fun σ2 H2 => tb { D with nx := N, ct := N, bk := D.nx } σ2 H2) := by
  refine ⟨fun i m σ H => m = xs.length - i ∧ i ≤ xs.length ∧ Pv i σ H, ⟨xs.length, by simp, Nat.zero_le _, h0⟩, ?_⟩
  rintro i m σ H ⟨rfl, hi, p⟩
  have q := hl i σ H hi p
  rcases Nat.lt_or_ge i xs.length with lt | ge
  · refine .inr ⟨⟨xs, xs[i], q, List.getElem?_eq_getElem lt⟩, Pv (i + 1), fun σ' H' p' => ⟨xs.length - (i + 1), by omega, rfl, lt, p'⟩, ?_⟩
    rintro x H' ⟨T, y, rfl, nT, rfl, hy⟩
    exact hs i y σ H T (hy xs q) p nT
  · exact .inl ⟨⟨xs, q, ge⟩, hd σ H (Nat.le_antisymm hi ge ▸ p)⟩

/-- the worth of bits, the lowest first -/
def valB : List Int → Int
  | [] => 0
  | b :: r => b + 2 * valB r
theorem valB_snoc : ∀ (l : List Int) (b : Int), valB (l ++ [b]) = valB l + b * 2 ^ l.length
  | [], b => by simp [valB]
  | a :: l, b => by
    show a + 2 * valB (l ++ [b]) = a + 2 * valB l + b * 2 ^ (l.length + 1)
    rw [valB_snoc l b, Int.pow_succ]
    have e : b * (2 ^ l.length * 2) = 2 * (b * 2 ^ l.length) := by rw [← Int.mul_assoc, Int.mul_comm]
    rw [e]
    omega
theorem same_trans_new {H H1 : Hp} {p : Addr} {o : HO} (s : Same H H1) (h : H1 p = none) : Same H (upd H1 p o) := fun b u e => by
  rw [upd_ne (ne_of_none (s _ _ e) h)]
  exact s _ _ e
theorem Same.sqT {K : PySem.W.Frag} {H H' : Hp} {a : Addr} {xs : List V} (e : Same H H') (h : SqT K H a xs) : SqT K H' a xs := by
  rcases h with (h | ⟨o, h⟩) | h
  · exact .inl (.inl (e _ _ h))
  · exact .inl (.inr ⟨o, e _ _ h⟩)
  · exact .inr h
/-- a list (k = true) or a tuple -/
def SqB (K : PySem.W.Frag) (k : Bool) (H : Hp) (a : Addr) (xs : List V) : Prop := if k = true then SqL K H a xs else SqT K H a xs
theorem SqB.same {K : PySem.W.Frag} {k : Bool} {H H' : Hp} {a : Addr} {xs : List V} (e : Same H H') (h : SqB K k H a xs) : SqB K k H' a xs := by
  cases k with
  | true => exact Same.seq e h
  | false => exact Same.sqT e h

namespace P3
/-- the ten words -/
def WD : List Str := ["not", "and", "or", "xor", "add", "sub", "less", "same", "wide", "bit"]
def W1 : List Str := ["not", "wide", "bit"]
def isW (x y : Str) : Bool := decide (V.str x = V.str y)
def twoR (w : Str) (z a b : Int) : Int :=
  if isW w "and" = true then Builtin.bitAnd a b else if isW w "or" = true then Builtin.bitOr a b else if isW w "xor" = true then Builtin.bitXor a b else
  if isW w "add" = true then (a + b) % 2 ^ z.toNat else if isW w "sub" = true then (a - b) % 2 ^ z.toNat else
  if isW w "less" = true then (if decide (a < b) = true then 1 else 0) else if decide (V.int a = V.int b) = true then 1 else 0
def intV : V → Int
  | .int i => i
  | _ => 0
def oneR (w : Str) (z a : Int) (t p : V) : Int :=
  if isW w "not" = true then topW z - a else if isW w "wide" = true then a % 2 ^ (intV t).toNat else a / 2 ^ (intV p).toNat % 2
section
variable {P : Program} {w : World} {K : PySem.W.Frag} {mg : Str → Option Value} {base : Heap}

/-! ### _are_worths_of_width -/
def goodB (z : Int) (xs : List V) : Bool := (xs.map fun y => wholeB y 0 (topW z)).all id
def spAre (K : PySem.W.Frag) : Sp := fun vs H Q _ => ∃ (a : Addr) (z : Int) (k : Bool) (xs : List V), vs = [.ref a, .int z] ∧ 0 ≤ z ∧ z ≤ 1000 ∧ SqB K k H a xs ∧ xs.length ≤ 1000 ∧ (∀ y ∈ xs, ∃ m, Kn K H y m) ∧ ∀ H', Same H H' → Q (.bl (goodB z xs)) H'
theorem scAre : FnScope ["things", "width", "thing"] ["things", "width"] (defScope sAre) := ⟨rfl, rfl, rfl, by decide +kernel, rfl, by decide +kernel, by decide +kernel⟩
theorem ok_are {f fo : Addr} {fd fdo : FuncData} (F : Fun K "_are_worths_of_width" "_are_worths_of_width" sAre f fd) (Do : Df K mg "_is_worth_of_width" fo fdo ["thing", "width"]) (Go : FnOk P w K mg base CX0 3 fo fdo ["thing", "width"] (spWorthOf K)) (ma : mg "all" = none) :
    FnOk P w K mg base CX0 4 f fd ["things", "width"] (spAre K) := by
  refine F.ok scAre (fun vs H Q E h => ?_) (fun cdv A outer s H vs Q E hr h => ?_)
  · obtain ⟨a, z, k, xs, rfl, _⟩ := h
    rfl
  · obtain ⟨a, z, k, xs, rfl, z0, z1, hS, hz, hk, q⟩ := h
    cases k with
    | true =>
      refine ⟨_, pss_one (ps_ret (pe_callB (cr_all rfl) (by rfl) ma (by decide +kernel) (pa_cons (pe_lc (own := [("thing", 2)]) (g := gName 2) (tt := tYes) rfl scAre.nd (pi_list (pv 0)) (blkOk_by (N := ["things", "width", "thing"]) (sc := defScope sAre) (by decide +kernel))
            (fun _ _ _ _ _ => pg_name (i := 2) scAre.nd rfl (Or.inl rfl)) (fun _ _ _ _ _ => pts_nil) (fun _ _ _ _ _ => pe_call Go hr (by rfl) Do.at_ Do.kp Do.bd .nil pass0 (pa_cons (pv 2) (pa_cons (pv 1) pa_nil)))) pa_nil))), ?_⟩
      have hS' : SqL K H a xs := hS
      refine ⟨_, rfl, a, rfl, ⟨xs, hS'⟩, fun D hD => lc_list (K := K) (a := a) (xs := xs) (fun i H' => Same H H' ∧ H' D = some (.lst ((xs.take i).map fun y => V.bl (wholeB y 0 (topW z))))) ⟨same_new hD, upd_same⟩
            (fun i H' _ pv => Same.seq pv.1 hS') (fun i y H' hy pv => ?_) fun H' pv => ?_⟩
      · obtain ⟨m, km⟩ := hk y (List.mem_of_getElem? hy)
        have hi := (List.getElem?_eq_some_iff.mp hy).1
        refine ⟨rfl, _, rfl, _, rfl, y, m, z, rfl, kn_same pv.1 km, z0, z1, _, pv.2, by rw [List.length_map, List.length_take]; exact Nat.lt_of_le_of_lt (Nat.le_trans (Nat.min_le_left _ _) (Nat.le_of_lt hi)) (small1000 hz), fun b o e => ?_, ?_⟩
        · rw [upd_ne (ne_of_none e hD)]
          exact pv.1 _ _ e
        · rw [upd_same, List.take_add_one, hy, List.map_append]
          rfl
      · have pv2 : H' D = some (.lst ((xs.map fun y => wholeB y 0 (topW z)).map V.bl)) := by rw [pv.2, List.take_length, List.map_map]; rfl
        exact ⟨D, _, rfl, SqL.of pv2, q _ pv.1⟩
    | false =>
      refine ⟨_, pss_one (ps_ret (pe_callB (cr_all rfl) (by rfl) ma (by decide +kernel) (pa_cons (pe_lc (own := [("thing", 2)]) (g := gName 2) (tt := tYes) rfl scAre.nd (pi_tup (pv 0)) (blkOk_by (N := ["things", "width", "thing"]) (sc := defScope sAre) (by decide +kernel))
            (fun _ _ _ _ _ => pg_name (i := 2) scAre.nd rfl (Or.inl rfl)) (fun _ _ _ _ _ => pts_nil) (fun _ _ _ _ _ => pe_call Go hr (by rfl) Do.at_ Do.kp Do.bd .nil pass0 (pa_cons (pv 2) (pa_cons (pv 1) pa_nil)))) pa_nil))), ?_⟩
      have hS' : SqT K H a xs := hS
      refine ⟨_, rfl, a, rfl, ⟨xs, hS'⟩, fun D hD => lc_tup (K := K) (a := a) (xs := xs) (fun i H' => Same H H' ∧ H' D = some (.lst ((xs.take i).map fun y => V.bl (wholeB y 0 (topW z))))) ⟨same_new hD, upd_same⟩
            (fun i H' _ pv => Same.sqT pv.1 hS') (fun i y H' hy pv => ?_) fun H' pv => ?_⟩
      · obtain ⟨m, km⟩ := hk y (List.mem_of_getElem? hy)
        have hi := (List.getElem?_eq_some_iff.mp hy).1
        refine ⟨rfl, _, rfl, _, rfl, y, m, z, rfl, kn_same pv.1 km, z0, z1, _, pv.2, by rw [List.length_map, List.length_take]; exact Nat.lt_of_le_of_lt (Nat.le_trans (Nat.min_le_left _ _) (Nat.le_of_lt hi)) (small1000 hz), fun b o e => ?_, ?_⟩
        · rw [upd_ne (ne_of_none e hD)]
          exact pv.1 _ _ e
        · rw [upd_same, List.take_add_one, hy, List.map_append]
          rfl
      · have pv2 : H' D = some (.lst ((xs.map fun y => wholeB y 0 (topW z)).map V.bl)) := by rw [pv.2, List.take_length, List.map_map]; rfl
        exact ⟨D, _, rfl, SqL.of pv2, q _ pv.1⟩

/-! ### _reckoned_of_one, _reckoned_of_two -/
def spRone : Sp := fun vs H Q _ => ∃ (c : Str) (z a : Int) (t p : V), vs = [.str c, .int z, .int a, t, p] ∧ 0 ≤ z ∧ z ≤ 1000 ∧ (isW c "wide" = true → ∃ i, t = .int i ∧ 0 ≤ i ∧ i ≤ 1000) ∧ (isW c "not" = false → isW c "wide" = false → ∃ i, p = .int i ∧ 0 ≤ i) ∧ Q (.int (oneR c z a t p)) H
theorem scRone : FnScope ["word", "width", "worth", "to", "at"] ["word", "width", "worth", "to", "at"] (defScope sOne) := ⟨rfl, rfl, rfl, by decide +kernel, rfl, by decide +kernel, by decide +kernel⟩
theorem ok_rone {f fg : Addr} {fd fdg : FuncData} (F : Fun K "_reckoned_of_one" "_reckoned_of_one" sOne f fd) (Dg : Df K mg "_greatest" fg fdg ["width"]) (Gg : FnOk P w K mg base CX0 2 fg fdg ["width"] spGreat) :
    FnOk P w K mg base CX0 3 f fd ["word", "width", "worth", "to", "at"] spRone := by
  refine F.ok scRone (fun vs H Q E h => ?_) (fun cdv A outer s H vs Q E hr h => ?_)
  · obtain ⟨c, z, a, t, p, rfl, _⟩ := h
    rfl
  · obtain ⟨c, z, a, t, p, rfl, z0, z1, ht, hp, q⟩ := h
    refine ⟨_, pss_cons (ps_if (pt_cmpR op_eq (pv 0) pe_str (nomark _)) (pss_one (ps_ret (pe_op op_sub (pe_call Gg hr (by rfl) Dg.at_ Dg.kp Dg.bd .nil pass0 (pa_cons (pv 1) pa_nil)) (pv 2)))) pss_nil)
      (pss_cons (ps_if (pt_cmpR op_eq (pv 0) pe_str (nomark _)) (pss_one (ps_ret (pe_op op_andM (pv 2) (pe_call Gg hr (by rfl) Dg.at_ Dg.kp Dg.bd .nil pass0 (pa_cons (pv 3) pa_nil))))) pss_nil)
      (pss_one (ps_ret (pe_op op_andM (pe_op op_shr (pv 2) (pv 4)) pe_int)))), ?_⟩
    unfold oneR at q
    refine ⟨_, rfl, rfl, _, rfl, ite2 (fun h1 => ?_) (fun h1 => ?_)⟩
    · rw [if_pos (show isW c "not" = true from h1)] at q
      exact ⟨_, rfl, z, rfl, z0, z1, _, rfl, _, _, rfl, rfl, q⟩
    · have n1 : isW c "not" = false := Bool.eq_false_iff.mpr h1
      rw [if_neg (show ¬ isW c "not" = true from h1)] at q
      refine ⟨_, rfl, rfl, _, rfl, ite2 (fun h2 => ?_) (fun h2 => ?_)⟩
      · rw [if_pos (show isW c "wide" = true from h2)] at q
        obtain ⟨i, rfl, i0, i1⟩ := ht h2
        exact ⟨_, rfl, _, rfl, i, rfl, i0, i1, _, i.toNat, rfl, rfl, q⟩
      · rw [if_neg (show ¬ isW c "wide" = true from h2)] at q
        obtain ⟨i, rfl, i0⟩ := hp n1 (Bool.eq_false_iff.mpr h2)
        exact ⟨_, rfl, _, rfl, _, _, rfl, rfl, i0, _, 1, rfl, rfl, q⟩
def spRtwo : Sp := fun vs H Q _ => ∃ (c : Str) (z a b : Int), vs = [.str c, .int z, .int a, .int b] ∧ 0 ≤ z ∧ z ≤ 1000 ∧ Q (.int (twoR c z a b)) H
theorem scRtwo : FnScope ["word", "width", "one", "other"] ["word", "width", "one", "other"] (defScope sTwo) := ⟨rfl, rfl, rfl, by decide +kernel, rfl, by decide +kernel, by decide +kernel⟩
theorem ok_rtwo {f fg : Addr} {fd fdg : FuncData} (F : Fun K "_reckoned_of_two" "_reckoned_of_two" sTwo f fd) (Dg : Df K mg "_greatest" fg fdg ["width"]) (Gg : FnOk P w K mg base CX0 2 fg fdg ["width"] spGreat) :
    FnOk P w K mg base CX0 3 f fd ["word", "width", "one", "other"] spRtwo := by
  refine F.ok scRtwo (fun vs H Q E h => ?_) (fun cdv A outer s H vs Q E hr h => ?_)
  · obtain ⟨c, z, a, b, rfl, _⟩ := h
    rfl
  · obtain ⟨c, z, a, b, rfl, z0, z1, q⟩ := h
    refine ⟨_, pss_cons (ps_if (pt_cmpR op_eq (pv 0) pe_str (nomark _)) (pss_one (ps_ret (pe_op op_and (pv 2) (pv 3)))) pss_nil)
      (pss_cons (ps_if (pt_cmpR op_eq (pv 0) pe_str (nomark _)) (pss_one (ps_ret (pe_op op_or (pv 2) (pv 3)))) pss_nil)
      (pss_cons (ps_if (pt_cmpR op_eq (pv 0) pe_str (nomark _)) (pss_one (ps_ret (pe_op op_xor (pv 2) (pv 3)))) pss_nil)
      (pss_cons (ps_if (pt_cmpR op_eq (pv 0) pe_str (nomark _)) (pss_one (ps_ret (pe_op op_andM (pe_op op_add (pv 2) (pv 3)) (pe_call Gg hr (by rfl) Dg.at_ Dg.kp Dg.bd .nil pass0 (pa_cons (pv 1) pa_nil))))) pss_nil)
      (pss_cons (ps_if (pt_cmpR op_eq (pv 0) pe_str (nomark _)) (pss_one (ps_ret (pe_op op_andM (pe_op op_sub (pv 2) (pv 3)) (pe_call Gg hr (by rfl) Dg.at_ Dg.kp Dg.bd .nil pass0 (pa_cons (pv 1) pa_nil))))) pss_nil)
      (pss_cons (ps_if (pt_cmpR op_eq (pv 0) pe_str (nomark _)) (pss_one (ps_ret (pe_ifExp (pt_cmpR op_lt (pv 2) (pv 3) (nomark _)) pe_int pe_int))) pss_nil)
      (pss_one (ps_ret (pe_ifExp (pt_cmpR op_eq (pv 2) (pv 3) (nomark _)) pe_int pe_int)))))))), ?_⟩
    unfold twoR at q
    refine ⟨_, rfl, rfl, _, rfl, ite2 (fun h1 => ?_) (fun h1 => ?_)⟩
    · rw [if_pos (show isW c "and" = true from h1)] at q
      exact ⟨_, rfl, _, rfl, _, _, rfl, rfl, q⟩
    rw [if_neg (show ¬ isW c "and" = true from h1)] at q
    refine ⟨_, rfl, rfl, _, rfl, ite2 (fun h2 => ?_) (fun h2 => ?_)⟩
    · rw [if_pos (show isW c "or" = true from h2)] at q
      exact ⟨_, rfl, _, rfl, _, _, rfl, rfl, q⟩
    rw [if_neg (show ¬ isW c "or" = true from h2)] at q
    refine ⟨_, rfl, rfl, _, rfl, ite2 (fun h3 => ?_) (fun h3 => ?_)⟩
    · rw [if_pos (show isW c "xor" = true from h3)] at q
      exact ⟨_, rfl, _, rfl, _, _, rfl, rfl, q⟩
    rw [if_neg (show ¬ isW c "xor" = true from h3)] at q
    refine ⟨_, rfl, rfl, _, rfl, ite2 (fun h4 => ?_) (fun h4 => ?_)⟩
    · rw [if_pos (show isW c "add" = true from h4)] at q
      exact ⟨_, rfl, _, rfl, _, _, rfl, rfl, _, rfl, z, rfl, z0, z1, _, z.toNat, rfl, rfl, q⟩
    rw [if_neg (show ¬ isW c "add" = true from h4)] at q
    refine ⟨_, rfl, rfl, _, rfl, ite2 (fun h5 => ?_) (fun h5 => ?_)⟩
    · rw [if_pos (show isW c "sub" = true from h5)] at q
      exact ⟨_, rfl, _, rfl, _, _, rfl, rfl, _, rfl, z, rfl, z0, z1, _, z.toNat, rfl, rfl, q⟩
    rw [if_neg (show ¬ isW c "sub" = true from h5)] at q
    refine ⟨_, rfl, rfl, _, rfl, ite2 (fun h6 => ?_) (fun h6 => ?_)⟩
    · rw [if_pos (show isW c "less" = true from h6)] at q
      refine ⟨_, rfl, _, rfl, _, _, rfl, rfl, _, rfl, ite2 (fun h7 => ?_) (fun h7 => ?_)⟩
      · rw [if_pos h7] at q; exact q
      · rw [if_neg h7] at q; exact q
    rw [if_neg (show ¬ isW c "less" = true from h6)] at q
    refine ⟨_, rfl, _, rfl, rfl, _, rfl, ite2 (fun h7 => ?_) (fun h7 => ?_)⟩
    · rw [if_pos h7] at q; exact q
    · rw [if_neg h7] at q; exact q
end
end P3
end Bf

namespace Bf
open PySem PySem.Spec PyProof.Rows L2
theorem SqB.or {K : PySem.W.Frag} {k : Bool} {H : Hp} {a : Addr} {xs : List V} (h : SqB K k H a xs) : SqL K H a xs ∨ SqT K H a xs := by
  cases k with
  | true => exact .inl h
  | false => exact .inr h
theorem Odd.same {H H' : Hp} {x : V} (e : Same H H') (h : Odd H x) : Odd H' x := by
  cases h with
  | non => exact .non
  | bl b => exact .bl b
  | int i => exact .int i
  | str z => exact .str z
  | lst h => exact .lst (e _ _ h)
  | tup h => exact .tup (e _ _ h)
  | emp h => exact .emp (e _ _ h)
theorem inV_str (c : Str) (ws : List Str) : inV (.str c) (ws.map V.str) = ws.any fun z => z == c := by
  unfold inV
  rw [List.any_map]
  rfl
theorem iteB {b : Bool} {A B : Prop} (e : b = true) (h : A) : if b = true then A else B := by
  rw [if_pos e]
  exact h
theorem iteN {b : Bool} {A B : Prop} (e : b = false) (h : B) : if b = true then A else B := by
  rw [if_neg (by rw [e]; exact Bool.false_ne_true)]
  exact h
theorem ix_at {K : PySem.W.Frag} {k : Bool} {H : Hp} {a : Addr} {xs : List V} {i : Nat} {v : V} {Q : VK} (s : SqB K k H a xs) (e : xs[i]? = some v) (q : Q v H) : rIx K (.ref a) (.int (i : Nat)) H Q := by
  cases k with
  | true => exact .inl ⟨a, xs, _, v, rfl, rfl, s, atI_nat e, q⟩
  | false => exact .inr (.inl ⟨a, xs, _, v, rfl, rfl, s, atI_nat e, q⟩)
namespace P3
theorem refuses_later {C : Addr} {v : V} {H H1 : Hp} {E : XK} (q : Refuses C v H E) (s : Same H H1) : Refuses C v H1 E := fun d H' s' hd h => q d H' (s.trans s') (s.free hd) h
theorem inWD {c : Str} (h : c ∈ WD) : inV (.str c) (WD.map V.str) = true := by
  rw [inV_str, List.any_eq_true]
  exact ⟨c, h, beq_self_eq_true c⟩
def wanted (c : Str) : Int := if inV (.str c) (W1.map V.str) = true then 1 else 2
/-- a list or a tuple that is handed in as worths -/
structure Seq (K : PySem.W.Frag) (H : Hp) (a : Addr) (xs : List V) : Prop where
  kn : ∃ n, Kn K H (.ref a) n ∧ listy n = true
  sq : ∃ k, SqB K k H a xs
  le : xs.length ≤ 1000
  it : ∀ y ∈ xs, ∃ m, Kn K H y m
theorem Seq.same {K : PySem.W.Frag} {H H' : Hp} {a : Addr} {xs : List V} (e : Same H H') (h : Seq K H a xs) : Seq K H' a xs := by
  obtain ⟨⟨n, k, l⟩, ⟨b, s⟩, z, i⟩ := h
  exact ⟨⟨n, kn_same e k, l⟩, ⟨b, s.same e⟩, z, fun y m => (i y m).imp fun _ q => kn_same e q⟩
inductive BadW (K : PySem.W.Frag) (H : Hp) (c : Str) (z : Int) : V → Prop
  | no {y : V} {n : String} (k : Kn K H y n) (l : listy n = false) : BadW K H c z y
  | ln {a : Addr} {xs : List V} (s : Seq K H a xs) (l : ((xs.length : Nat) : Int) ≠ wanted c) : BadW K H c z (.ref a)
  | bd {a : Addr} {xs : List V} (s : Seq K H a xs) (l : ((xs.length : Nat) : Int) = wanted c) (b : goodB z xs = false) : BadW K H c z (.ref a)
/-- what comes of reckoned: a refusal's class and field, or a number -/
inductive Rk (K : PySem.W.Frag) (H : Hp) (cP cW cS cN : Addr) : V → V → V → V → V → (Addr × V) ⊕ Int → Prop
  | op {u x y t p : V} (o : Odd H u) (e : inV u (WD.map V.str) = false) : Rk K H cP cW cS cN u x y t p (.inl (cP, u))
  | wd {c : Str} {x y t p : V} {n : String} (h : c ∈ WD) (k : Kn K H x n) (e : wholeB x 1 8 = false) : Rk K H cP cW cS cN (.str c) x y t p (.inl (cW, x))
  | ws {c : Str} {z : Int} {y t p : V} (h : c ∈ WD) (z1 : 1 ≤ z) (z8 : z ≤ 8) (b : BadW K H c z y) : Rk K H cP cW cS cN (.str c) (.int z) y t p (.inl (cS, y))
  | to {z : Int} {a : Addr} {xs : List V} {t p : V} {n : String} (z1 : 1 ≤ z) (z8 : z ≤ 8) (s : Seq K H a xs) (l : ((xs.length : Nat) : Int) = wanted "wide") (g : goodB z xs = true) (k : Kn K H t n) (e : wholeB t 1 8 = false) :
      Rk K H cP cW cS cN (.str "wide") (.int z) (.ref a) t p (.inl (cW, t))
  | at_ {z : Int} {a : Addr} {xs : List V} {t p : V} {n : String} (z1 : 1 ≤ z) (z8 : z ≤ 8) (s : Seq K H a xs) (l : ((xs.length : Nat) : Int) = wanted "bit") (g : goodB z xs = true) (k : Kn K H p n) (e : wholeB p 0 (z - 1) = false) :
      Rk K H cP cW cS cN (.str "bit") (.int z) (.ref a) t p (.inl (cN, p))
  | one {c : Str} {z i : Int} {a : Addr} {t p : V} (h : c ∈ W1) (z1 : 1 ≤ z) (z8 : z ≤ 8) (s : Seq K H a [.int i]) (g : goodB z [.int i] = true) (ht : c = "wide" → wholeB t 1 8 = true) (hp : c = "bit" → wholeB p 0 (z - 1) = true) :
      Rk K H cP cW cS cN (.str c) (.int z) (.ref a) t p (.inr (oneR c z i t p))
  | two {c : Str} {z i j : Int} {a : Addr} {t p : V} (h : c ∈ WD) (h2 : c ∉ W1) (z1 : 1 ≤ z) (z8 : z ≤ 8) (s : Seq K H a [.int i, .int j]) (g : goodB z [.int i, .int j] = true) :
      Rk K H cP cW cS cN (.str c) (.int z) (.ref a) t p (.inr (twoR c z i j))
def spReck (K : PySem.W.Frag) (cP cW cS cN : Addr) : Sp := fun vs H Q E => ∃ (u x y t p : V) (r : (Addr × V) ⊕ Int), vs = [u, x, y, t, p] ∧ Rk K H cP cW cS cN u x y t p r ∧
  (∀ C v, r = .inl (C, v) → Refuses C v H E) ∧ ∀ i, r = .inr i → ∀ H', Same H H' → Q (.int i) H'
theorem w1_wd {c : Str} (h : c ∈ W1) : c ∈ WD := by
  revert c
  decide +kernel
theorem wanted1 {c : Str} (h : c ∈ W1) : wanted c = 1 := by
  revert c
  decide +kernel
theorem wanted2 {c : Str} (h : c ∉ W1) : wanted c = 2 := by
  unfold wanted
  rw [if_neg]
  rw [inV_str, List.any_eq_true]
  rintro ⟨z, m, e⟩
  exact h (eq_of_beq e ▸ m)
theorem isW_iff {x y : Str} : isW x y = true ↔ x = y := by
  unfold isW
  rw [decide_eq_true_iff]
  exact ⟨fun h => V.str.inj h, fun h => h ▸ rfl⟩
theorem isW_no {x y : Str} (h : x ≠ y) : isW x y = false := Bool.eq_false_iff.mpr fun e => h (isW_iff.mp e)
theorem inW1 {c : Str} (h : c ∈ W1) : inV (.str c) (W1.map V.str) = true := by
  rw [inV_str, List.any_eq_true]
  exact ⟨c, h, beq_self_eq_true c⟩
theorem notW1 {c : Str} (h : c ∉ W1) : inV (.str c) (W1.map V.str) = false := by
  rw [Bool.eq_false_iff, inV_str]
  intro e
  obtain ⟨z, m, e⟩ := List.any_eq_true.mp e
  exact h (eq_of_beq e ▸ m)
theorem not_w1 {c : Str} (h : c ∉ W1) : c ≠ "wide" ∧ c ≠ "bit" ∧ c ≠ "not" := ⟨fun e => h (e ▸ by decide +kernel), fun e => h (e ▸ by decide +kernel), fun e => h (e ▸ by decide +kernel)⟩
section
variable {P : Program} {w : World} {K : PySem.W.Frag} {mg : Str → Option Value} {base : Heap}
/-- the constants of the words -/
structure Wds (K : PySem.W.Frag) (mg : Str → Option Value) (aD a1 : Addr) : Prop where
  gD : mg "WORDS" = some (.ref aD)
  g1 : mg "WORDS_OF_ONE" = some (.ref a1)
  sD : ∀ H, SqT K H aD (WD.map V.str)
  s1 : ∀ H, SqT K H a1 (W1.map V.str)
theorem scReck : FnScope ["word", "width", "worths", "to", "at", "wanted"] ["word", "width", "worths", "to", "at"] (defScope sReck) := ⟨rfl, rfl, rfl, by decide +kernel, rfl, by decide +kernel, by decide +kernel⟩
theorem ok_reck {f cP fP cW fW cS fS cN fN fh fw fr fl f1 f2 aD a1 : Addr} {fd fdP fdW fdS fdN fdh fdw fdr fdl fd1 fd2 : FuncData} (F : FunD K "reckoned" "reckoned" (defArgs sReck) (defBody sReck) (defScope sReck) [] [("to", .int 1), ("at", .int 0)] f fd)
    (W : Wds K mg aD a1)
    (TP : ExT K mg "NoOp" cP fP fdP) (TW : ExT K mg "NoWidth" cW fW fdW) (TS : ExT K mg "NoWorths" cS fS fdS) (TN : ExT K mg "NoNumber" cN fN fdN)
    (GP : FnOk P w K mg base CX0 3 fP fdP ["self", "found"] (spInit K cP)) (GW : FnOk P w K mg base CX0 3 fW fdW ["self", "found"] (spInit K cW)) (GS : FnOk P w K mg base CX0 3 fS fdS ["self", "found"] (spInit K cS)) (GN : FnOk P w K mg base CX0 3 fN fdN ["self", "found"] (spInit K cN))
    (Dh : Df K mg "is_whole" fh fdh ["thing", "low", "high"]) (Gh : FnOk P w K mg base CX0 2 fh fdh ["thing", "low", "high"] (spWhole K)) (Dw : Df K mg "is_width" fw fdw ["thing"]) (Gw : FnOk P w K mg base CX0 3 fw fdw ["thing"] (spOne K 1 8))
    (Dr : Df K mg "_are_worths_of_width" fr fdr ["things", "width"]) (Gr : FnOk P w K mg base CX0 4 fr fdr ["things", "width"] (spAre K)) (Dl : Df K mg "is_list" fl fdl ["thing"]) (Gl : FnOk P w K mg base CX0 2 fl fdl ["thing"] (spIsList K))
    (D1 : Df K mg "_reckoned_of_one" f1 fd1 ["word", "width", "worth", "to", "at"]) (G1 : FnOk P w K mg base CX0 3 f1 fd1 ["word", "width", "worth", "to", "at"] spRone)
    (D2 : Df K mg "_reckoned_of_two" f2 fd2 ["word", "width", "one", "other"]) (G2 : FnOk P w K mg base CX0 3 f2 fd2 ["word", "width", "one", "other"] spRtwo) (ml : mg "len" = none) :
    FnOk P w K mg base (CXL P w) 5 f fd ["word", "width", "worths", "to", "at"] (spReck K cP cW cS cN) := by
  refine FunD.ok F scReck (fun vs H Q E h => ?_) (fun cdv A outer s H vs Q E hr h => ?_)
  · obtain ⟨u, x, y, t, p, r, rfl, _⟩ := h
    rfl
  · obtain ⟨u, x, y, t, p, r, rfl, rk, qR, qT⟩ := h
    have hr2 := hr.mono (by decide : 3 ≤ 4)
    have hr1 := hr.mono (by decide : 2 ≤ 4)
    refine ⟨_, pss_cons (ps_if (pt_cmpR (op_notInW hr.units) (pv 0) (pe_glob (v := .ref aD) (by rfl) W.gD rfl) (by rfl)) (pss_one (ps_raise rfl (takes_of rfl rfl rfl rfl) (pmk_oex TP.ox TP.iC TP.tI GP hr TP.bd .nil pass0 (by rfl) TP.gC (pa_cons (pv 0) pa_nil)))) pss_nil)
      (pss_cons (ps_if (pt_not (pt_val (pe_call Gw hr2 (by rfl) Dw.at_ Dw.kp Dw.bd .nil pass0 (pa_cons (pv 1) pa_nil)))) (pss_one (ps_raise rfl (takes_of rfl rfl rfl rfl) (pmk_oex TW.ox TW.iC TW.tI GW hr TW.bd .nil pass0 (by rfl) TW.gC (pa_cons (pv 1) pa_nil)))) pss_nil)
      (pss_cons (ps_set (i := 5) scReck.nd rfl (Or.inl rfl) (pe_ifExp (pt_cmpR op_in_seq (pv 0) (pe_glob (v := .ref a1) (by rfl) W.g1 rfl) (by rfl)) pe_int pe_int))
      (pss_cons (ps_if (PW.pt (pw_or (pt_not (pt_val (pe_call Gl hr1 (by rfl) Dl.at_ Dl.kp Dl.bd .nil pass0 (pa_cons (pv 2) pa_nil)))) (pw_or (pt_cmpR op_ne (pe_callB call_len_seq (by rfl) ml PySem.boot_len (pa_cons (pv 2) pa_nil)) (pv 5) (nomark _))
          (pw_or1 (pt_not (pt_val (pe_call Gr hr (by rfl) Dr.at_ Dr.kp Dr.bd .nil pass0 (pa_cons (pv 2) (pa_cons (pv 1) pa_nil)))))))))
        (pss_one (ps_raise rfl (takes_of rfl rfl rfl rfl) (pmk_oex TS.ox TS.iC TS.tI GS hr TS.bd .nil pass0 (by rfl) TS.gC (pa_cons (pv 2) pa_nil)))) pss_nil)
      (pss_cons (ps_if (PW.pt (pw_and (pt_cmpR op_eq (pv 0) pe_str (nomark _)) (pw_and1 (pt_not (pt_val (pe_call Gw hr2 (by rfl) Dw.at_ Dw.kp Dw.bd .nil pass0 (pa_cons (pv 3) pa_nil)))))))
        (pss_one (ps_raise rfl (takes_of rfl rfl rfl rfl) (pmk_oex TW.ox TW.iC TW.tI GW hr TW.bd .nil pass0 (by rfl) TW.gC (pa_cons (pv 3) pa_nil)))) pss_nil)
      (pss_cons (ps_if (PW.pt (pw_and (pt_cmpR op_eq (pv 0) pe_str (nomark _)) (pw_and1 (pt_not (pt_val (pe_call Gh hr1 (by rfl) Dh.at_ Dh.kp Dh.bd .nil pass0 (pa_cons (pv 4) (pa_cons pe_int (pa_cons (pe_op op_sub (pv 1) pe_int) pa_nil)))))))))
        (pss_one (ps_raise rfl (takes_of rfl rfl rfl rfl) (pmk_oex TN.ox TN.iC TN.tI GN hr TN.bd .nil pass0 (by rfl) TN.gC (pa_cons (pv 4) pa_nil)))) pss_nil)
      (pss_cons (ps_if (pt_cmpR op_eq (pv 5) pe_int (nomark _)) (pss_one (ps_ret (pe_call G2 hr2 (by rfl) D2.at_ D2.kp D2.bd .nil pass0 (pa_cons (pv 0) (pa_cons (pv 1) (pa_cons (pe_ix ix_seq (pv 2) pe_int (fun _ _ => rfl)) (pa_cons (pe_ix ix_seq (pv 2) pe_int (fun _ _ => rfl)) pa_nil))))))) pss_nil)
      (pss_one (ps_ret (pe_call G1 hr2 (by rfl) D1.at_ D1.kp D1.bd .nil pass0 (pa_cons (pv 0) (pa_cons (pv 1) (pa_cons (pe_ix ix_seq (pv 2) pe_int (fun _ _ => rfl)) (pa_cons (pv 3) (pa_cons (pv 4) pa_nil)))))))))))))), ?_⟩
    cases rk with
    | op o e =>
      refine ⟨_, rfl, aD, WD, rfl, W.sD _, o, _, rfl, iteB (by rw [e]; rfl) ?_⟩
      exact ⟨_, rfl, raise_reads (qR _ _ rfl)⟩
    | @wd c x y t p n h k e =>
      refine ⟨_, rfl, aD, WD, rfl, W.sD _, .str _, _, rfl, iteN (by rw [inWD h]; rfl) ?_⟩
      exact ⟨_, rfl, _, n, rfl, k, _, rfl, iteB (by rw [e]; rfl) ⟨_, rfl, raise_reads (qR _ _ rfl)⟩⟩
    | @ws c z y t p h z1 z8 b =>
      refine ⟨_, rfl, aD, WD, rfl, W.sD _, .str _, _, rfl, iteN (by rw [inWD h]; rfl) ?_⟩
      refine ⟨_, rfl, _, "int", rfl, .int _, _, rfl, iteN (by rw [wholeB_of z1 z8]; rfl) ?_⟩
      by_cases hc : c ∈ W1
      · refine ⟨_, rfl, a1, _, rfl, .inr (W.s1 _), rfl, (by decide +kernel), _, rfl, iteB (inW1 hc) ?_⟩
        cases b with
        | no k l => exact ⟨_, rfl, _, _, rfl, k, fun H1 s1 => ⟨_, rfl, iteB (by rw [l]; rfl) (iteT ⟨_, rfl, raise_reads (refuses_later (qR _ _ rfl) s1)⟩)⟩⟩
        | @ln a xs s l =>
          obtain ⟨⟨n, kn, ln⟩, ⟨b, sq⟩, le, it⟩ := id s
          refine ⟨_, rfl, _, n, rfl, kn, fun H1 s1 => ⟨_, rfl, iteN (by rw [ln]; rfl) ?_⟩⟩
          have nl : ¬ V.int ((xs.length : Nat) : Int) = V.int 1 := fun e => l ((V.int.inj e).trans (wanted1 hc).symm)
          exact ⟨_, rfl, _, _, rfl, (sq.same s1).or, _, rfl, rfl, _, rfl, iteB (by rw [decide_eq_false nl]; rfl) (iteT ⟨_, rfl, raise_reads (refuses_later (qR _ _ rfl) s1)⟩)⟩
        | bd s l g =>
          obtain ⟨⟨n, kn, ln⟩, ⟨b, sq⟩, le, it⟩ := id s
          refine ⟨_, rfl, _, n, rfl, kn, fun H1 s1 => ⟨_, rfl, iteN (by rw [ln]; rfl) ?_⟩⟩
          refine ⟨_, rfl, _, _, rfl, (sq.same s1).or, _, rfl, rfl, _, rfl, iteN (by rw [l, wanted1 hc]; rfl) ?_⟩
          exact ⟨_, rfl, _, rfl, _, _, b, _, rfl, by omega, by omega, sq.same s1, le, (fun y m => (it y m).imp fun _ q => kn_same s1 q), fun H2 s2 => ⟨_, rfl, iteB (by rw [g]; rfl) ⟨_, rfl, raise_reads (refuses_later (qR _ _ rfl) (s1.trans s2))⟩⟩⟩
      · refine ⟨_, rfl, a1, _, rfl, .inr (W.s1 _), rfl, (by decide +kernel), _, rfl, iteN (notW1 hc) ?_⟩
        cases b with
        | no k l => exact ⟨_, rfl, _, _, rfl, k, fun H1 s1 => ⟨_, rfl, iteB (by rw [l]; rfl) (iteT ⟨_, rfl, raise_reads (refuses_later (qR _ _ rfl) s1)⟩)⟩⟩
        | @ln a xs s l =>
          obtain ⟨⟨n, kn, ln⟩, ⟨b, sq⟩, le, it⟩ := id s
          refine ⟨_, rfl, _, n, rfl, kn, fun H1 s1 => ⟨_, rfl, iteN (by rw [ln]; rfl) ?_⟩⟩
          have nl : ¬ V.int ((xs.length : Nat) : Int) = V.int 2 := fun e => l ((V.int.inj e).trans (wanted2 hc).symm)
          exact ⟨_, rfl, _, _, rfl, (sq.same s1).or, _, rfl, rfl, _, rfl, iteB (by rw [decide_eq_false nl]; rfl) (iteT ⟨_, rfl, raise_reads (refuses_later (qR _ _ rfl) s1)⟩)⟩
        | bd s l g =>
          obtain ⟨⟨n, kn, ln⟩, ⟨b, sq⟩, le, it⟩ := id s
          refine ⟨_, rfl, _, n, rfl, kn, fun H1 s1 => ⟨_, rfl, iteN (by rw [ln]; rfl) ?_⟩⟩
          refine ⟨_, rfl, _, _, rfl, (sq.same s1).or, _, rfl, rfl, _, rfl, iteN (by rw [l, wanted2 hc]; rfl) ?_⟩
          exact ⟨_, rfl, _, rfl, _, _, b, _, rfl, by omega, by omega, sq.same s1, le, (fun y m => (it y m).imp fun _ q => kn_same s1 q), fun H2 s2 => ⟨_, rfl, iteB (by rw [g]; rfl) ⟨_, rfl, raise_reads (refuses_later (qR _ _ rfl) (s1.trans s2))⟩⟩⟩
    | @to z a xs t p n z1 z8 s l g k e =>
      have hc : ("wide" : Str) ∈ W1 := by decide +kernel
      refine ⟨_, rfl, aD, WD, rfl, W.sD _, .str _, _, rfl, iteN (by rw [inWD (w1_wd hc)]; rfl) ?_⟩
      refine ⟨_, rfl, _, "int", rfl, .int _, _, rfl, iteN (by rw [wholeB_of z1 z8]; rfl) ?_⟩
      refine ⟨_, rfl, a1, _, rfl, .inr (W.s1 _), rfl, (by decide +kernel), _, rfl, iteB (inW1 hc) ?_⟩
      obtain ⟨⟨m, kn, ln⟩, ⟨b, sq⟩, le, it⟩ := id s
      refine ⟨_, rfl, _, m, rfl, kn, fun H1 s1 => ⟨_, rfl, iteN (by rw [ln]; rfl) ?_⟩⟩
      refine ⟨_, rfl, _, _, rfl, (sq.same s1).or, _, rfl, rfl, _, rfl, iteN (by rw [l, wanted1 hc]; rfl) ?_⟩
      refine ⟨_, rfl, _, rfl, _, _, b, _, rfl, by omega, by omega, sq.same s1, le, (fun y m => (it y m).imp fun _ q => kn_same s1 q), fun H2 s2 => ⟨_, rfl, iteN (by rw [g]; rfl) ?_⟩⟩
      exact ⟨_, rfl, rfl, _, rfl, iteB (by decide +kernel) ⟨_, rfl, _, n, rfl, kn_same (s1.trans s2) k, _, rfl, iteB (by rw [e]; rfl) ⟨_, rfl, raise_reads (refuses_later (qR _ _ rfl) (s1.trans s2))⟩⟩⟩
    | @at_ z a xs t p n z1 z8 s l g k e =>
      have hc : ("bit" : Str) ∈ W1 := by decide +kernel
      refine ⟨_, rfl, aD, WD, rfl, W.sD _, .str _, _, rfl, iteN (by rw [inWD (w1_wd hc)]; rfl) ?_⟩
      refine ⟨_, rfl, _, "int", rfl, .int _, _, rfl, iteN (by rw [wholeB_of z1 z8]; rfl) ?_⟩
      refine ⟨_, rfl, a1, _, rfl, .inr (W.s1 _), rfl, (by decide +kernel), _, rfl, iteB (inW1 hc) ?_⟩
      obtain ⟨⟨m, kn, ln⟩, ⟨b, sq⟩, le, it⟩ := id s
      refine ⟨_, rfl, _, m, rfl, kn, fun H1 s1 => ⟨_, rfl, iteN (by rw [ln]; rfl) ?_⟩⟩
      refine ⟨_, rfl, _, _, rfl, (sq.same s1).or, _, rfl, rfl, _, rfl, iteN (by rw [l, wanted1 hc]; rfl) ?_⟩
      refine ⟨_, rfl, _, rfl, _, _, b, _, rfl, by omega, by omega, sq.same s1, le, (fun y m => (it y m).imp fun _ q => kn_same s1 q), fun H2 s2 => ⟨_, rfl, iteN (by rw [g]; rfl) ?_⟩⟩
      refine ⟨_, rfl, rfl, _, rfl, iteN (by decide +kernel) (iteF ?_)⟩
      exact ⟨_, rfl, rfl, _, rfl, iteB (by decide +kernel) ⟨_, rfl, _, rfl, _, _, rfl, rfl, _, n, 0, z - 1, rfl, kn_same (s1.trans s2) k, _, rfl, iteB (by rw [e]; rfl) ⟨_, rfl, raise_reads (refuses_later (qR _ _ rfl) (s1.trans s2))⟩⟩⟩
    | @one c z i a t p hc z1 z8 s g ht hp =>
      have h := w1_wd hc
      refine ⟨_, rfl, aD, WD, rfl, W.sD _, .str _, _, rfl, iteN (by rw [inWD h]; rfl) ?_⟩
      refine ⟨_, rfl, _, "int", rfl, .int _, _, rfl, iteN (by rw [wholeB_of z1 z8]; rfl) ?_⟩
      refine ⟨_, rfl, a1, _, rfl, .inr (W.s1 _), rfl, (by decide +kernel), _, rfl, iteB (inW1 hc) ?_⟩
      obtain ⟨⟨n, kn, ln⟩, ⟨b, sq⟩, le, it⟩ := id s
      refine ⟨_, rfl, _, n, rfl, kn, fun H1 s1 => ⟨_, rfl, iteN (by rw [ln]; rfl) ?_⟩⟩
      refine ⟨_, rfl, _, _, rfl, (sq.same s1).or, _, rfl, rfl, _, rfl, iteN (by rfl) ?_⟩
      refine ⟨_, rfl, _, rfl, _, _, b, _, rfl, by omega, by omega, sq.same s1, le, (fun y m => (it y m).imp fun _ q => kn_same s1 q), fun H2 s2 => ⟨_, rfl, iteN (by rw [g]; rfl) ?_⟩⟩
      have sq2 := (sq.same s1).same s2
      have fin := qT _ rfl _ (s1.trans s2)
      have hm : c = "not" ∨ c = "wide" ∨ c = "bit" := by
        unfold W1 at hc
        simpa only [List.mem_cons, List.not_mem_nil, or_false] using hc
      rcases hm with rfl | rfl | rfl
      · refine ⟨_, rfl, rfl, _, rfl, iteN (by decide +kernel) (iteF ?_)⟩
        refine ⟨_, rfl, rfl, _, rfl, iteN (by decide +kernel) (iteF ?_)⟩
        refine ⟨_, rfl, rfl, _, rfl, iteN (by decide +kernel) ?_⟩
        exact ⟨_, rfl, _, rfl, _, rfl, ix_at (i := 0) sq2 rfl ⟨_, rfl, _, rfl, "not", z, i, t, p, rfl, by omega, by omega, (fun e => absurd e (by decide +kernel)), (fun e => absurd e (by decide +kernel)), fin⟩⟩
      · obtain ⟨j, rfl, j0, j1⟩ := wholeB_int (ht rfl)
        refine ⟨_, rfl, rfl, _, rfl, iteB (by decide +kernel) ⟨_, rfl, _, "int", rfl, .int j, _, rfl, iteN (by rw [wholeB_of j0 j1]; rfl) ?_⟩⟩
        refine ⟨_, rfl, rfl, _, rfl, iteN (by decide +kernel) (iteF ?_)⟩
        refine ⟨_, rfl, rfl, _, rfl, iteN (by decide +kernel) ?_⟩
        exact ⟨_, rfl, _, rfl, _, rfl, ix_at (i := 0) sq2 rfl ⟨_, rfl, _, rfl, "wide", z, i, .int j, p, rfl, by omega, by omega, (fun _ => ⟨j, rfl, by omega, by omega⟩), (fun _ e => absurd e (by decide +kernel)), fin⟩⟩
      · obtain ⟨j, rfl, j0, j1⟩ := wholeB_int (hp rfl)
        refine ⟨_, rfl, rfl, _, rfl, iteN (by decide +kernel) (iteF ?_)⟩
        refine ⟨_, rfl, rfl, _, rfl, iteB (by decide +kernel) ⟨_, rfl, _, rfl, _, _, rfl, rfl, _, "int", 0, z - 1, rfl, .int j, _, rfl, iteN (by rw [wholeB_of j0 j1]; rfl) ?_⟩⟩
        refine ⟨_, rfl, rfl, _, rfl, iteN (by decide +kernel) ?_⟩
        exact ⟨_, rfl, _, rfl, _, rfl, ix_at (i := 0) sq2 rfl ⟨_, rfl, _, rfl, "bit", z, i, t, .int j, rfl, by omega, by omega, (fun e => absurd e (by decide +kernel)), (fun _ _ => ⟨j, rfl, j0⟩), fin⟩⟩
    | @two c z i j a t p h hc z1 z8 s g =>
      refine ⟨_, rfl, aD, WD, rfl, W.sD _, .str _, _, rfl, iteN (by rw [inWD h]; rfl) ?_⟩
      refine ⟨_, rfl, _, "int", rfl, .int _, _, rfl, iteN (by rw [wholeB_of z1 z8]; rfl) ?_⟩
      refine ⟨_, rfl, a1, _, rfl, .inr (W.s1 _), rfl, (by decide +kernel), _, rfl, iteN (notW1 hc) ?_⟩
      obtain ⟨⟨n, kn, ln⟩, ⟨b, sq⟩, le, it⟩ := id s
      refine ⟨_, rfl, _, n, rfl, kn, fun H1 s1 => ⟨_, rfl, iteN (by rw [ln]; rfl) ?_⟩⟩
      refine ⟨_, rfl, _, _, rfl, (sq.same s1).or, _, rfl, rfl, _, rfl, iteN (by rfl) ?_⟩
      refine ⟨_, rfl, _, rfl, _, _, b, _, rfl, by omega, by omega, sq.same s1, le, (fun y m => (it y m).imp fun _ q => kn_same s1 q), fun H2 s2 => ⟨_, rfl, iteN (by rw [g]; rfl) ?_⟩⟩
      refine ⟨_, rfl, rfl, _, rfl, iteN (isW_no (not_w1 hc).1) (iteF ?_)⟩
      refine ⟨_, rfl, rfl, _, rfl, iteN (isW_no (not_w1 hc).2.1) (iteF ?_)⟩
      refine ⟨_, rfl, rfl, _, rfl, iteB (by decide +kernel) ?_⟩
      have sq2 := (sq.same s1).same s2
      exact ⟨_, rfl, _, rfl, _, rfl, ix_at (i := 0) sq2 rfl ⟨_, rfl, ix_at (i := 1) sq2 rfl ⟨c, z, i, j, rfl, by omega, by omega, qT _ rfl _ (s1.trans s2)⟩⟩⟩
end
end P3
end Bf

namespace Bf
open PySem PySem.Spec PyProof.Rows L2

/-! ### the purse, for all laws -/
/-- at p: what is left of a cell, its rest, how many takings by the rest, at most n -/
def Purse (H : Hp) (p : Addr) (n : Int) : Prop := ∃ x y z : Int, H p = some (.lst [.int x, .int y, .int z]) ∧ 0 ≤ y ∧ y < 2147483629 ∧ 0 ≤ z ∧ z ≤ n
theorem Purse.mono {H : Hp} {p : Addr} {n m : Int} (h : Purse H p n) (l : n ≤ m) : Purse H p m := let ⟨x, y, z, a, b, c, d, e⟩ := h; ⟨x, y, z, a, b, c, d, Int.le_trans e l⟩
theorem Purse.of {H H' : Hp} {p : Addr} {n : Int} (h : Purse H p n) (e : H' p = H p) : Purse H' p n := let ⟨x, y, z, a, b⟩ := h; ⟨x, y, z, e.trans a, b⟩
/-- all that was tracked, but at p, is as it was -/
def SameX (p : Addr) (H H' : Hp) : Prop := ∀ b o, b ≠ p → H b = some o → H' b = some o
def spCell (K : PySem.W.Frag) : Sp := fun vs H Q _ => ∃ (a : Addr) (ns : List Int) (i : Int), vs = [.ref a, .int i] ∧ SqL K H a (ns.map V.int) ∧ 0 ≤ i ∧ i ≤ 100 ∧ ∀ z, Q (.int z) H
def spPurse : Sp := fun vs H Q _ => ∃ z : Int, vs = [.int z] ∧ ∀ p H', H p = none → p ≠ sysModules → (∀ b, b ≠ p → H' b = H b) → Purse H' p 0 → Q (.ref p) H'
def spTake : Sp := fun vs H Q _ => ∃ (p : Addr) (m n : Int), vs = [.ref p, .int m] ∧ Purse H p n ∧ n ≤ 100000 ∧ 0 < m ∧ m < 1000000 ∧ ∀ d H', 0 ≤ d → d < m → Purse H' p (n + 1) → (∀ b, b ≠ p → H' b = H b) → Q (.int d) H'

namespace P3
section
variable {P : Program} {w : World} {K : PySem.W.Frag} {mg : Str → Option Value} {base : Heap}
theorem scCell : FnScope ["_law_script", "_law_k"] ["_law_script", "_law_k"] (defScope sCell) := ⟨rfl, rfl, rfl, by decide +kernel, rfl, by decide +kernel, by decide +kernel⟩
theorem ok_cell {f : Addr} {fd : FuncData} (F : Fun K "_law_cell" "_law_cell" sCell f fd) (ml : mg "len" = none) : FnOk P w K mg base CX0 2 f fd ["_law_script", "_law_k"] (spCell K) := by
  refine F.ok scCell (fun vs H Q E h => ?_) (fun cdv A outer s H vs Q E hr h => ?_)
  · obtain ⟨a, ns, i, rfl, _⟩ := h
    rfl
  · obtain ⟨a, ns, i, rfl, hS, h0, h1, q⟩ := h
    refine ⟨_, pss_cons (ps_if (pt_cmpR op_lt (pv 1) (pe_callB call_len_seq (by rfl) ml PySem.boot_len (pa_cons (pv 0) pa_nil)) (nomark _)) (pss_one (ps_ret (pe_ix ix_list (pv 0) (pv 1) (fun _ _ => rfl)))) pss_nil)
      (pss_one (ps_ret (pe_op op_add (pe_op op_mul pe_int (pv 1)) pe_int))), ?_⟩
    refine ⟨_, rfl, _, rfl, a, _, rfl, .inl hS, _, _, rfl, rfl, _, rfl, ite2 (fun c => ?_) (fun c => ?_)⟩
    · have lt : i < (((ns.map V.int).length : Nat) : Int) := of_decide_eq_true c
      rw [List.length_map] at lt
      have lt' : i.toNat < ns.length := by omega
      refine ⟨_, rfl, _, rfl, a, _, i, .int ns[i.toNat], rfl, rfl, hS, ?_, q _⟩
      have e : atI (ns.map V.int) ((i.toNat : Nat) : Int) = some (V.int ns[i.toNat]) := atI_nat (by rw [List.getElem?_map, List.getElem?_eq_getElem lt']; rfl)
      rw [← e]
      congr 1
      omega
    · exact ⟨_, rfl, _, _, rfl, rfl, .inl ⟨by decide, by decide⟩, _, _, rfl, rfl, q _⟩
theorem scPurse : FnScope ["_law_cell_here"] ["_law_cell_here"] (defScope sPurse) := ⟨rfl, rfl, rfl, by decide +kernel, rfl, by decide +kernel, by decide +kernel⟩
theorem ok_purse {f : Addr} {fd : FuncData} (F : Fun K "_law_purse" "_law_purse" sPurse f fd) (mx : mg "max" = none) : FnOk P w K mg base CX0 2 f fd ["_law_cell_here"] spPurse := by
  refine F.ok scPurse (fun vs H Q E h => ?_) (fun cdv A outer s H vs Q E hr h => ?_)
  · obtain ⟨z, rfl, _⟩ := h
    rfl
  · obtain ⟨z, rfl, q⟩ := h
    refine ⟨_, pss_one (ps_ret (pe_lstN (pa_cons (pe_callB (call_max2 rfl) (by rfl) mx (by decide +kernel) (pa_cons pe_int (pa_cons (pe_op op_sub (pv 0) (pe_op op_pow pe_int pe_int)) pa_nil)))
      (pa_cons (pe_op op_mod (pv 0) pe_int) (pa_cons pe_int pa_nil))))), ?_⟩
    refine ⟨_, rfl, _, _, rfl, rfl, ⟨by decide, by decide, by decide⟩, _, _, rfl, rfl, _, _, rfl, _, rfl, _, _, rfl, rfl, (by show (0 : Int) < 2147483629; decide), by show 3 ≤ 1000; decide, fun p hp np => ?_⟩
    refine q p _ hp np (fun b hb => upd_ne hb) ⟨_, _, _, upd_same, Int.emod_nonneg _ (by decide), Int.emod_lt_of_pos _ (by decide), Int.le_refl _, Int.le_refl _⟩
theorem scTake : FnScope ["_law_purse_here", "_law_many", "_law_digit", "_law_one", "_law_other"] ["_law_purse_here", "_law_many"] (defScope sTake) := ⟨rfl, rfl, rfl, by decide +kernel, rfl, by decide +kernel, by decide +kernel⟩
theorem ok_take {f : Addr} {fd : FuncData} (F : Fun K "_law_take" "_law_take" sTake f fd) : FnOk P w K mg base CX0 2 f fd ["_law_purse_here", "_law_many"] spTake := by
  refine F.ok scTake (fun vs H Q E h => ?_) (fun cdv A outer s H vs Q E hr h => ?_)
  · obtain ⟨p, m, n, rfl, _⟩ := h
    rfl
  · obtain ⟨p, m, n, rfl, ⟨x, y, z, hp, y0, y1, z0, z1⟩, n1, m0, m1, q⟩ := h
    refine ⟨_, pss_cons (ps_if (pt_cmpR op_gt (pe_ix ix_list (pv 0) pe_int (fun _ _ => rfl)) pe_int (nomark _))
        (pss_cons (ps_set (i := 2) scTake.nd rfl (Or.inl rfl) (pe_op op_mod (pe_ix ix_list (pv 0) pe_int (fun _ _ => rfl)) (pv 1)))
        (pss_cons (ps_asg (pe_op op_fdiv (pe_ix ix_list (pv 0) pe_int (fun _ _ => rfl)) (pv 1)) (pg_sub (pv 0) pe_int set_list)) (pss_one (ps_ret (pv 2))))) pss_nil)
      (pss_cons (ps_asg (pe_op op_add (pe_ix ix_list (pv 0) pe_int (fun _ _ => rfl)) pe_int) (pg_sub (pv 0) pe_int set_list))
      (pss_cons (ps_set (i := 3) scTake.nd rfl (Or.inl rfl) (pe_op op_mod (pe_op op_pow (pe_op op_add (pe_op op_add (pe_ix ix_list (pv 0) pe_int (fun _ _ => rfl)) (pe_op op_mul pe_int (pe_ix ix_list (pv 0) pe_int (fun _ _ => rfl)))) pe_int) pe_int) pe_int))
      (pss_cons (ps_set (i := 4) scTake.nd rfl (Or.inl rfl) (pe_op op_mod (pe_op op_pow (pe_op op_add (pe_op op_mul (pe_ix ix_list (pv 0) pe_int (fun _ _ => rfl)) (pe_ix ix_list (pv 0) pe_int (fun _ _ => rfl))) pe_int) pe_int) pe_int))
      (pss_one (ps_ret (pe_op op_mod (pe_op op_fdiv (pe_op op_add (pe_op op_mul (pv 3) pe_int) (pv 4)) pe_int) (pv 1))))))), ?_⟩
    have L := SqL.of (K := K) hp
    refine ⟨_, rfl, p, _, 0, _, rfl, rfl, L, rfl, _, _, rfl, rfl, _, rfl, ite2 (fun _ => ?_) (fun _ => ?_)⟩
    · refine ⟨_, rfl, p, _, 0, _, rfl, rfl, L, rfl, _, rfl, _, _, rfl, rfl, m0, ?_⟩
      refine ⟨_, rfl, p, _, 0, _, rfl, rfl, L, rfl, _, rfl, _, _, rfl, rfl, ⟨m0, by omega⟩, _, rfl, p, _, 0, 0, rfl, rfl, hp, rfl, ?_⟩
      exact ⟨_, rfl, q _ _ (Int.emod_nonneg _ (by omega)) (Int.emod_lt_of_pos _ m0) ⟨_, _, _, upd_same, y0, y1, z0, by omega⟩ fun b hb => upd_ne hb⟩
    · refine ⟨_, rfl, p, _, 2, _, rfl, rfl, L, rfl, _, _, rfl, rfl, _, rfl, p, _, 2, 2, rfl, rfl, hp, rfl, ?_⟩
      have L2 : SqL K (upd H p (.lst [.int x, .int y, .int (z + 1)])) p [.int x, .int y, .int (z + 1)] := SqL.of upd_same
      have b1 : (y + 6007 * (z + 1) + 29).natAbs < 2 ^ 64 := by omega
      have b2 : (y * (z + 1) + 91193).natAbs < 2 ^ 64 := by
        have h1 : 0 ≤ y * (z + 1) := Int.mul_nonneg y0 (by omega)
        have h2 : y * (z + 1) ≤ 2147483629 * 100001 := Int.mul_le_mul (by omega) (by omega) (by omega) (by decide)
        omega
      refine ⟨_, rfl, p, _, 1, _, rfl, rfl, L2, rfl, _, rfl, p, _, 2, _, rfl, rfl, L2, rfl, _, _, rfl, rfl, .inl ⟨by decide, by decide⟩, _, _, rfl, rfl, _, _, rfl, rfl, _, _, rfl, rfl, ⟨by decide, by decide, b1⟩, _, _, rfl, rfl, (by show (0 : Int) < 2147483647; decide), ?_⟩
      refine ⟨_, rfl, p, _, 1, _, rfl, rfl, L2, rfl, _, rfl, p, _, 2, _, rfl, rfl, L2, rfl, _, _, rfl, rfl, .inl ⟨by omega, by omega⟩, _, _, rfl, rfl, _, _, rfl, rfl, ⟨by decide, by decide, b2⟩, _, _, rfl, rfl, (by show (0 : Int) < 2147483587; decide), ?_⟩
      refine ⟨_, rfl, _, _, rfl, rfl, .inr ⟨by decide, by decide⟩, _, rfl, _, _, rfl, rfl, _, _, rfl, rfl, ⟨by decide, by decide⟩, _, rfl, _, _, rfl, rfl, m0, ?_⟩
      exact q _ _ (Int.emod_nonneg _ (by omega)) (Int.emod_lt_of_pos _ m0) ⟨_, _, _, upd_same, y0, y1, by omega, by omega⟩ fun b hb => upd_ne hb
/-! ### bits, the worth of bits, sums bit by bit -/
def bitsI (n : Nat) (k : Int) : List Int := (List.range n).map fun i => k / 2 ^ i % 2
def madeI (ns : List Int) : Int := ((List.range ns.length).map fun j => ns.getD j 0 * 2 ^ j).sum
def carL : List Int → List Int → Int → List Int
  | x :: xs, y :: ys, c => (x + y + c) % 2 :: carL xs ys (if decide (1 < x + y + c) = true then 1 else 0)
  | _, _, _ => []
def carriedI (z a b c : Int) : Int := madeI (carL (bitsI z.toNat a) (bitsI z.toNat b) c)
theorem bitsI_01 {n : Nat} {k : Int} : ∀ b ∈ bitsI n k, 0 ≤ b ∧ b ≤ 1 := fun b m => by
  obtain ⟨i, _, rfl⟩ := List.mem_map.mp m
  show 0 ≤ k / 2 ^ i % 2 ∧ k / 2 ^ i % 2 ≤ 1
  omega
theorem bitsI_len {n : Nat} {k : Int} : (bitsI n k).length = n := by unfold bitsI; rw [List.length_map, List.length_range]
def spBits : Sp := fun vs H Q _ => ∃ z k : Int, vs = [.int z, .int k] ∧ 0 ≤ z ∧ z ≤ 8 ∧ ∀ p H', Same H H' → H p = none → H' p = some (.lst ((bitsI z.toNat k).map V.int)) → Q (.ref p) H'
theorem scBits : FnScope ["_law_width", "_law_worth_here", "_law_k"] ["_law_width", "_law_worth_here"] (defScope sBits) := ⟨rfl, rfl, rfl, by decide +kernel, rfl, by decide +kernel, by decide +kernel⟩
theorem ok_bits {f : Addr} {fd : FuncData} (F : Fun K "_law_bits" "_law_bits" sBits f fd) (mr : mg "range" = none) : FnOk P w K mg base CX0 2 f fd ["_law_width", "_law_worth_here"] spBits := by
  refine F.ok scBits (fun vs H Q E h => ?_) (fun cdv A outer s H vs Q E hr h => ?_)
  · obtain ⟨z, k, rfl, _⟩ := h
    rfl
  · obtain ⟨z, k, rfl, z0, z8, q⟩ := h
    refine ⟨_, pss_one (ps_ret (pe_lc (own := [("_law_k", 2)]) (g := gName 2) (tt := tYes) rfl scBits.nd (pi_range1 rfl mr (pa_cons (pv 0) pa_nil))
        (blkOk_by (N := ["_law_width", "_law_worth_here", "_law_k"]) (sc := defScope sBits) (by decide +kernel)) (fun _ _ _ _ _ => pg_name (i := 2) scBits.nd rfl (Or.inl rfl)) (fun _ _ _ _ _ => pts_nil) (fun _ _ _ _ _ => pe_op op_andM (pe_op op_shr (pv 1) (pv 2)) pe_int))), ?_⟩
    refine ⟨_, rfl, z, rfl, by omega, by omega, fun D hD => ?_⟩
    refine lc_range (lo := 0) (n := z.toNat) (fun i H' => Same H H' ∧ H' D = some (.lst ((bitsI i k).map V.int))) ⟨same_new hD, upd_same⟩ (fun i H' hi pv => ?_) fun H' pv => q D H' pv.1 hD pv.2
    refine ⟨rfl, _, rfl, _, rfl, _, _, rfl, rfl, by show (0 : Int) ≤ 0 + (i : Int); omega, _, 1, rfl, rfl, _, pv.2, by rw [List.length_map, bitsI_len]; exact small1000 (by omega), ?_, ?_⟩
    · exact fun b o e => by rw [upd_ne (ne_of_none e hD)]; exact pv.1 _ _ e
    · have e1 : (0 + (i : Int)).toNat = i := by omega
      rw [upd_same, e1]
      unfold bitsI
      rw [List.range_succ, List.map_append, List.map_append]
      rfl
def spMade (K : PySem.W.Frag) : Sp := fun vs H Q _ => ∃ (a : Addr) (ns : List Int), vs = [.ref a] ∧ SqL K H a (ns.map V.int) ∧ ns.length ≤ 100 ∧ (∀ n ∈ ns, n.natAbs < 2 ^ 64) ∧ ∀ H', Same H H' → Q (.int (madeI ns)) H'
abbrev nMade : List Str := ["_law_bits_here", "_law_k", "_law_bit"]
theorem scMade : FnScope nMade ["_law_bits_here"] (defScope sMade) := ⟨rfl, rfl, rfl, by decide +kernel, rfl, by decide +kernel, by decide +kernel⟩
theorem ok_made {f : Addr} {fd : FuncData} (F : Fun K "_law_made" "_law_made" sMade f fd) (me : mg "enumerate" = none) (ms : mg "sum" = none) : FnOk P w K mg base CX0 2 f fd ["_law_bits_here"] (spMade K) := by
  refine F.ok scMade (fun vs H Q E h => ?_) (fun cdv A outer s H vs Q E hr h => ?_)
  · obtain ⟨a, ns, rfl, _⟩ := h
    rfl
  · obtain ⟨a, ns, rfl, hS, hz, hb, q⟩ := h
    refine ⟨_, pss_one (ps_ret (pe_callB (cr_sum rfl) (by rfl) ms (by decide +kernel) (pa_cons (pe_lc (own := [("_law_k", 1), ("_law_bit", 2)]) (g := gTup K 2 (gCons (gName 1) (gCons (gName 2) gNil))) (tt := tYes) rfl scMade.nd (pi_enum (by rfl) me (pa_cons (pv 0) pa_nil))
        (blkOk_by (N := nMade) (sc := defScope sMade) (by decide +kernel)) (fun _ _ _ _ _ => pg_tup rfl (pgs_cons (pg_name (i := 1) scMade.nd rfl (Or.inl rfl)) (pgs_cons (pg_name (i := 2) scMade.nd rfl (Or.inl rfl)) pgs_nil))) (fun _ _ _ _ _ => pts_nil)
        (fun _ _ _ _ _ => pe_op op_shl (pv 2) (pv 1))) pa_nil))), ?_⟩
    refine ⟨_, rfl, a, _, rfl, hS, fun D hD => lc_ite (K := K) (a := a) (xs := ns.map V.int) (fun i H' => Same H H' ∧ H' D = some (.lst (((List.range i).map fun j => ns.getD j 0 * 2 ^ j).map V.int))) ⟨same_new hD, upd_same⟩ (fun i H' _ pv => Same.seq pv.1 hS)
      (fun i y H' T hy pv hT => ?_) fun H' pv => ?_⟩
    · rw [List.getElem?_map] at hy
      cases hj : ns[i]? with
      | none => rw [hj] at hy; cases hy
      | some b =>
        rw [hj] at hy
        cases hy
        have hi := (List.getElem?_eq_some_iff.mp hj).1
        have gd : ns.getD i 0 = b := by rw [List.getD_eq_getElem?_getD, hj]; rfl
        have nTD : T ≠ D := fun e => by rw [e, pv.2] at hT; cases hT
        refine ⟨T, _, rfl, SqT.of upd_same, rfl, _, _, rfl, _, _, rfl, rfl, rfl, _, rfl, _, rfl, _, _, rfl, rfl, ⟨by omega, by omega, hb b (List.mem_of_getElem? hj)⟩, _, (upd_ne nTD.symm).trans pv.2, ?_, ?_, ?_⟩
        · rw [List.length_map, List.length_map, List.length_range]
          exact small1000 (by omega)
        · exact fun c o e => by
            rw [upd_ne (ne_of_none e hD), upd_ne (ne_of_none (pv.1 _ _ e) hT)]
            exact pv.1 _ _ e
        · rw [upd_same, List.range_succ, List.map_append, List.map_append, ← gd]
          rfl
    · rw [List.length_map] at pv
      exact ⟨D, _, rfl, SqL.of pv.2, q _ pv.1⟩
def spCarr : Sp := fun vs H Q _ => ∃ z a b c : Int, vs = [.int z, .int a, .int b, .int c] ∧ 0 ≤ z ∧ z ≤ 8 ∧ ∀ H', Same H H' → Q (.int (carriedI z a b c)) H'
abbrev nCarr : List Str := ["_law_width", "_law_one", "_law_other", "_law_carry", "_law_found", "_law_a", "_law_b"]
theorem scCarr : FnScope nCarr ["_law_width", "_law_one", "_law_other", "_law_carry"] (defScope sCarr) := ⟨rfl, rfl, rfl, by decide +kernel, rfl, by decide +kernel, by decide +kernel⟩
theorem carL_len : ∀ (xs ys : List Int) (c : Int), xs.length = ys.length → (carL xs ys c).length = xs.length
  | [], [], _, _ => rfl
  | x :: xs, y :: ys, c, h => by
    show (carL xs ys _).length + 1 = xs.length + 1
    rw [carL_len xs ys _ (Nat.succ.inj h)]
theorem carL_01 : ∀ (xs ys : List Int) (c : Int), ∀ n ∈ carL xs ys c, 0 ≤ n ∧ n ≤ 1
  | [], _, _, n, m => by cases m
  | _ :: _, [], _, n, m => by cases m
  | x :: xs, y :: ys, c, n, m => by
    rcases List.mem_cons.mp m with rfl | m
    · omega
    · exact carL_01 xs ys _ n m
theorem ok_carr {f fb fm : Addr} {fd fdb fdm : FuncData} (F : Fun K "_law_carried" "_law_carried" sCarr f fd) (Db : Df K mg "_law_bits" fb fdb ["_law_width", "_law_worth_here"]) (Gb : FnOk P w K mg base CX0 2 fb fdb ["_law_width", "_law_worth_here"] spBits)
    (Dm : Df K mg "_law_made" fm fdm ["_law_bits_here"]) (Gm : FnOk P w K mg base CX0 2 fm fdm ["_law_bits_here"] (spMade K)) (mz : mg "zip" = none) (mi : mg "int" = none) : FnOk P w K mg base CX0 3 f fd ["_law_width", "_law_one", "_law_other", "_law_carry"] spCarr := by
  refine F.ok scCarr (fun vs H Q E h => ?_) (fun cdv A outer s H vs Q E hr h => ?_)
  · obtain ⟨z, a, b, c, rfl, _⟩ := h
    rfl
  · obtain ⟨z, a, b, c, rfl, z0, z8, q⟩ := h
    refine ⟨_, pss_cons (ps_set (i := 4) scCarr.nd rfl (Or.inl rfl) (pe_lst pa_nil))
      (pss_cons (ps_for PassesOwn.never rfl (pi_zip (by rfl) mz (pa_cons (pe_call Gb hr (by rfl) Db.at_ Db.kp Db.bd .nil pass0 (pa_cons (pv 0) (pa_cons (pv 1) pa_nil))) (pa_cons (pe_call Gb hr (by rfl) Db.at_ Db.kp Db.bd .nil pass0 (pa_cons (pv 0) (pa_cons (pv 2) pa_nil))) pa_nil)))
          (pg_tup rfl (pgs_cons (pg_name (i := 5) scCarr.nd rfl (Or.inl rfl)) (pgs_cons (pg_name (i := 6) scCarr.nd rfl (Or.inl rfl)) pgs_nil)))
        (pss_cons (ps_expr (pe_bm PySem.F.plainAttrs_list PySem.F.slot_list_append PySem.F.type_list_append mt_append (pv 4) (pa_cons (pe_op op_mod (pe_op op_add (pe_op op_add (pv 5) (pv 6)) (pv 3)) pe_int) pa_nil)))
        (pss_one (ps_set (i := 3) scCarr.nd rfl (Or.inl rfl) (pe_callTy call_int1 (by rfl) mi (by decide +kernel) (pa_cons (pe_cmpR op_gt (pe_op op_add (pe_op op_add (pv 5) (pv 6)) (pv 3)) pe_int (nomark _)) pa_nil))))))
      (pss_one (ps_ret (pe_call Gm hr (by rfl) Dm.at_ Dm.kp Dm.bd .nil pass0 (pa_cons (pv 4) pa_nil))))), ?_⟩
    refine ⟨by show 0 ≤ sizeLine; decide, fun D hD => ?_⟩
    refine ⟨_, rfl, _, rfl, z, a, rfl, z0, z8, fun p1 H1 s1 h1 e1 => ⟨_, rfl, _, rfl, z, b, rfl, z0, z8, fun p2 H2 s2 h2 e2 => ?_⟩⟩
    have l1 : ((bitsI z.toNat a).map V.int).length = ((bitsI z.toNat b).map V.int).length := by rw [List.length_map, List.length_map, bitsI_len, bitsI_len]
    have D2 : H2 D = some (.lst []) := s2 _ _ (s1 _ _ upd_same)
    have sH2 : Same H H2 := (same_new hD).trans (s1.trans s2)
    have g1 : H2 p1 = _ := s2 _ _ e1
    have n1 : p1 ≠ D := fun e => by rw [e, upd_same] at h1; cases h1
    have n2 : p2 ≠ D := fun e => by rw [e, s1 _ _ upd_same] at h2; cases h2
    refine ⟨p1, p2, _, _, rfl, SqL.of g1, SqL.of e2, RZ.for_zipL (K := K) (a := p1) (b := p2) l1
      (fun i σ H' => ∃ (cc : Int) (u5 u6 : Option V) (dn : List Int), σ = [some (.int z), some (.int a), some (.int b), some (.int cc), some (.ref D), u5, u6] ∧ (∀ q o, q ≠ D → H2 q = some o → H' q = some o) ∧ H' D = some (.lst (dn.map V.int)) ∧ dn.length = i ∧
        dn ++ carL ((bitsI z.toNat a).drop i) ((bitsI z.toNat b).drop i) cc = carL (bitsI z.toNat a) (bitsI z.toNat b) c)
      ⟨c, _, _, [], rfl, fun q o _ h => h, D2, rfl, rfl⟩ (fun i σ H' pv => ?_) (fun i x y T σ H' hx hy pv hT => ?_) fun σ H' pv => ?_⟩
    · obtain ⟨cc, u5, u6, dn, rfl, k, _⟩ := pv
      exact ⟨SqL.of (k _ _ n1 g1), SqL.of (k _ _ n2 e2)⟩
    · obtain ⟨cc, u5, u6, dn, rfl, k, gD, ld, ec⟩ := pv
      rw [List.getElem?_map] at hx hy
      cases hj : (bitsI z.toNat a)[i]? with
      | none => rw [hj] at hx; cases hx
      | some v =>
        cases hk : (bitsI z.toNat b)[i]? with
        | none => rw [hk] at hy; cases hy
        | some u =>
          rw [hj] at hx
          rw [hk] at hy
          cases hx
          cases hy
          have hi := (List.getElem?_eq_some_iff.mp hj).1
          have nTD : T ≠ D := fun e => by rw [e, gD] at hT; cases hT
          have gD' : upd H' T (.tup [.int v, .int u]) D = some (.lst (dn.map V.int)) := (upd_ne nTD.symm).trans gD
          have dv : (bitsI z.toNat a).drop i = v :: (bitsI z.toNat a).drop (i + 1) := by rw [← (List.getElem?_eq_some_iff.mp hj).2]; exact List.drop_eq_getElem_cons hi
          have hi2 := (List.getElem?_eq_some_iff.mp hk).1
          have du : (bitsI z.toNat b).drop i = u :: (bitsI z.toNat b).drop (i + 1) := by rw [← (List.getElem?_eq_some_iff.mp hk).2]; exact List.drop_eq_getElem_cons hi2
          refine ⟨T, _, rfl, SqT.of upd_same, rfl, _, _, rfl, _, _, rfl, rfl, ?_⟩
          refine ⟨_, rfl, .inl ⟨rfl, _, SqL.of gD'⟩, _, rfl, _, rfl, _, _, rfl, rfl, _, rfl, _, _, rfl, rfl, _, _, rfl, rfl, (by show (0 : Int) < 2; decide), D, _, _, rfl, rfl, gD', by rw [List.length_map, ld]; exact small1000 (by rw [bitsI_len] at hi; omega), ?_⟩
          refine ⟨_, rfl, _, rfl, _, _, rfl, rfl, _, rfl, _, _, rfl, rfl, _, _, rfl, rfl, .inr ⟨_, rfl, ?_⟩⟩
          refine ⟨_, some (.int v), some (.int u), dn ++ [(v + u + cc) % 2], rfl, fun q o nq h => ?_, ?_, by rw [List.length_append, ld]; rfl, ?_⟩
          · rw [upd_ne nq, upd_ne (ne_of_none (k _ _ nq h) hT)]
            exact k _ _ nq h
          · rw [upd_same, List.map_append]; rfl
          · rw [← ec, dv, du, List.append_assoc]
            rfl
    · obtain ⟨cc, u5, u6, dn, rfl, k, gD, ld, ec⟩ := pv
      rw [List.length_map] at ec ld
      have da : (bitsI z.toNat a).drop (bitsI z.toNat a).length = [] := List.drop_length
      rw [da] at ec
      have ec2 : dn = carL (bitsI z.toNat a) (bitsI z.toNat b) c := by rw [← ec]; exact (List.append_nil _).symm
      have c01 := carL_01 (bitsI z.toNat a) (bitsI z.toNat b) c
      refine ⟨_, rfl, D, dn, rfl, SqL.of gD, by rw [ld, bitsI_len]; omega, (fun n m => by rw [ec2] at m; have := c01 n m; omega), fun H'' s'' => ?_⟩
      rw [ec2]
      exact q _ fun q o h => s'' _ _ (k _ _ (ne_of_none h hD) (sH2 _ _ h))
end
end P3
end Bf

namespace Bf
open PySem PySem.Spec PyProof.Rows L2
theorem lay_ints : ∀ is : List Int, PyData.canLayAll0 (is.map PyData.int) = true ∧ PyData.depthAll (is.map PyData.int) = 0
  | [] => ⟨by simp only [List.map_nil, PyData.canLayAll0], by simp only [List.map_nil, PyData.depthAll]⟩
  | i :: r => by
    obtain ⟨a, b⟩ := lay_ints r
    exact ⟨by simp only [List.map_cons, PyData.canLayAll0, PyData.canLay0, a, Bool.and_self], by simp only [List.map_cons, PyData.depthAll, PyData.depth, b]; decide⟩
theorem shaped_ints (is : List Int) : SeqAt.shaped (.list (is.map PyData.int)) = true := by
  obtain ⟨a, b⟩ := lay_ints is
  unfold SeqAt.shaped
  simp only [PyData.canLay0, PyData.depth, a, b, Bool.true_and]
  decide
/-- xs[:j] of whole numbers -/
theorem cut_to {ns : List Int} {j : Int} (h : 0 ≤ j) : cutV (ns.map V.int) none (some j) = (ns.take j.toNat).map V.int := by
  obtain ⟨k, rfl⟩ : ∃ k : Nat, j = (k : Int) := ⟨j.toNat, by omega⟩
  unfold cutV
  rw [HT.sIx_none, HT.sIx_nat, List.drop_zero, Nat.sub_zero, ← List.take_eq_take_min, ← List.map_take]
  rfl
/-- a comprehension that makes a number of each -/
theorem lc_map {K : PySem.W.Frag} {H : Hp} {a D : Addr} {ns : List Int} {f : Int → Int} {te : TE} {i : Nat} {σ : L2.St} {Qd : Hp → Prop} (hS : SqL K H a (ns.map V.int)) (hz : ns.length ≤ 100) (hD : H D = none)
    (hs : ∀ (n : Int) (H' : Hp) (R : VK), R (.int (f n)) H' → te ((wipe σ [i]).set i (some (.int n))) H' R) (hw : ∀ v, wipe ((wipe σ [i]).set i v) [i] = wipe σ [i])
    (hd : ∀ H', Same H H' → H' D = some (.lst ((ns.map f).map V.int)) → Qd H') :
    ∃ W : Nat → Nat → Hp → Prop, (∃ m, W 0 m (upd H D (.lst []))) ∧ ∀ i' m H, W i' m H →
      ((Itl K a).stop i' H ∧ Qd H) ∨ ((Itl K a).go i' H ∧ ∃ Nx : Hp → Prop, (∀ H', Nx H' → ∃ m', m' < m ∧ W (i' + 1) m' H') ∧ ∀ x H', (Itl K a).yld i' H x H' → gName i x (wipe σ [i]) H' fun σ2 H2 => wipe σ2 [i] = wipe σ [i] ∧ tYes σ2 H2 fun b H3 =>
        if b = true then te σ2 H3 fun y H4 => ∃ acc, H4 D = some (.lst acc) ∧ acc.length < sizeLine ∧ Nx (upd H4 D (.lst (acc ++ [y]))) else Nx H3) := by
  refine lc_list (K := K) (a := a) (xs := ns.map V.int) (fun i H' => Same H H' ∧ H' D = some (.lst (((ns.take i).map f).map V.int))) ⟨P3.same_new hD, upd_same⟩ (fun i H' _ pv => Same.seq pv.1 hS) (fun j y H' hy pv => ?_) fun H' pv => ?_
  · rw [List.getElem?_map] at hy
    cases hj : ns[j]? with
    | none => rw [hj] at hy; cases hy
    | some b =>
      rw [hj] at hy
      cases hy
      have hi := (List.getElem?_eq_some_iff.mp hj).1
      show wipe ((wipe σ [i]).set i (some (.int b))) [i] = wipe σ [i] ∧ te ((wipe σ [i]).set i (some (.int b))) H' _
      refine ⟨hw _, hs b H' _ ⟨_, pv.2, ?_, ?_, ?_⟩⟩
      · rw [List.length_map, List.length_map, List.length_take]
        exact small1000 (by omega)
      · exact fun c o e => by
          rw [upd_ne (ne_of_none e hD)]
          exact pv.1 _ _ e
      · rw [upd_same, List.take_add_one, hj, List.map_append, List.map_append]
        rfl
  · rw [List.length_map, List.take_length] at pv
    exact hd H' pv.1 pv.2
/-- a comprehension over zip that makes a number of each pair -/
theorem lc_zmap {K : PySem.W.Frag} {H : Hp} {a b D : Addr} {ns ms : List Int} {f : Int → Int → Int} {te : TE} {i j : Nat} {σ : L2.St} {Qd : Hp → Prop} (hS : SqL K H a (ns.map V.int)) (hR : SqL K H b (ms.map V.int)) (hl : ns.length = ms.length) (hz : ns.length ≤ 100) (hD : H D = none)
    (hs : ∀ (n m : Int) (H' : Hp) (R : VK), R (.int (f n m)) H' → te (((wipe σ [i, j]).set i (some (.int n))).set j (some (.int m))) H' R) (hw : ∀ u v, wipe (((wipe σ [i, j]).set i u).set j v) [i, j] = wipe σ [i, j])
    (hd : ∀ H', Same H H' → H' D = some (.lst ((List.zipWith f ns ms).map V.int)) → Qd H') :
    ∃ W : Nat → Nat → Hp → Prop, (∃ m, W 0 m (upd H D (.lst []))) ∧ ∀ i' m H, W i' m H →
      ((Itz K a b).stop i' H ∧ Qd H) ∨ ((Itz K a b).go i' H ∧ ∃ Nx : Hp → Prop, (∀ H', Nx H' → ∃ m', m' < m ∧ W (i' + 1) m' H') ∧ ∀ x H', (Itz K a b).yld i' H x H' → gTup K 2 (gCons (gName i) (gCons (gName j) gNil)) x (wipe σ [i, j]) H' fun σ2 H2 => wipe σ2 [i, j] = wipe σ [i, j] ∧ tYes σ2 H2 fun b H3 =>
        if b = true then te σ2 H3 fun y H4 => ∃ acc, H4 D = some (.lst acc) ∧ acc.length < sizeLine ∧ Nx (upd H4 D (.lst (acc ++ [y]))) else Nx H3) := by
  have ll : (List.zipWith f ns ms).length = ns.length := by rw [List.length_zipWith, hl, Nat.min_self]
  refine lc_itz (K := K) (a := a) (b := b) (xs := ns.map V.int) (ys := ms.map V.int) (by rw [List.length_map, List.length_map, hl]) (fun i H' => Same H H' ∧ H' D = some (.lst (((List.zipWith f ns ms).take i).map V.int))) ⟨P3.same_new hD, upd_same⟩ (fun i H' _ pv => ⟨Same.seq pv.1 hS, Same.seq pv.1 hR⟩) (fun k x y H' T hx hy pv hT => ?_) fun H' pv => ?_
  · rw [List.getElem?_map] at hx hy
    cases hj : ns[k]? with
    | none => rw [hj] at hx; cases hx
    | some u =>
      cases hk : ms[k]? with
      | none => rw [hk] at hy; cases hy
      | some v =>
        rw [hj] at hx
        rw [hk] at hy
        cases hx
        cases hy
        have nTD : T ≠ D := fun e => by rw [e, pv.2] at hT; cases hT
        refine ⟨T, _, rfl, SqT.of upd_same, rfl, _, _, rfl, _, _, rfl, rfl, hw _ _, hs u v _ _ ⟨_, (upd_ne nTD.symm).trans pv.2, ?_, ?_, ?_⟩⟩
        · rw [List.length_map, List.length_take]
          exact small1000 (by omega)
        · exact fun c o e => by
            rw [upd_ne (ne_of_none e hD), upd_ne (ne_of_none (pv.1 _ _ e) hT)]
            exact pv.1 _ _ e
        · rw [upd_same, List.take_add_one, List.getElem?_zipWith, hj, hk, List.map_append]
          rfl
  · rw [List.length_map, ← ll, List.take_length] at pv
    exact hd H' pv.1 pv.2

namespace P3
def minF (a b : Int) : Int := if b < a then b else a
def maxF (a b : Int) : Int := if b > a then b else a
def neF (a b : Int) : Int := if (!decide (V.int a = V.int b)) = true then 1 else 0
def dueR (c : Str) (z a b into spot : Int) : Int :=
  if isW c "not" = true then madeI ((bitsI z.toNat a).map fun x => 1 - x) else
  if isW c "wide" = true then madeI ((bitsI z.toNat a ++ List.replicate 8 0).take into.toNat) else
  if isW c "bit" = true then (bitsI z.toNat a).getD spot.toNat 0 else
  if isW c "add" = true then carriedI z a b 0 else
  if isW c "sub" = true then carriedI z a (madeI ((bitsI z.toNat b).map fun x => 1 - x)) 1 else
  if isW c "less" = true then (if ltI (bitsI z.toNat a).reverse (bitsI z.toNat b).reverse = true then 1 else 0) else
  if isW c "same" = true then (if PyData.eqv (.list ((bitsI z.toNat a).map PyData.int)) (.list ((bitsI z.toNat b).map PyData.int)) = true then 1 else 0) else
  if isW c "and" = true then madeI (List.zipWith minF (bitsI z.toNat a) (bitsI z.toNat b)) else
  if isW c "or" = true then madeI (List.zipWith maxF (bitsI z.toNat a) (bitsI z.toNat b)) else madeI (List.zipWith neF (bitsI z.toNat a) (bitsI z.toNat b))
theorem z01 {f : Int → Int → Int} (hf : ∀ a b : Int, 0 ≤ a ∧ a ≤ 1 → 0 ≤ b ∧ b ≤ 1 → (f a b).natAbs < 2 ^ 64) : ∀ {ns ms : List Int}, (∀ n ∈ ns, 0 ≤ n ∧ n ≤ 1) → (∀ n ∈ ms, 0 ≤ n ∧ n ≤ 1) → ∀ n ∈ List.zipWith f ns ms, n.natAbs < 2 ^ 64
  | [], _, _, _, n, m => by cases m
  | _ :: _, [], _, _, n, m => by cases m
  | x :: xs, y :: ys, h1, h2, n, m => by
    rcases List.mem_cons.mp m with rfl | m
    · exact hf x y (h1 x List.mem_cons_self) (h2 y List.mem_cons_self)
    · exact z01 hf (fun n m => h1 n (List.mem_cons_of_mem _ m)) (fun n m => h2 n (List.mem_cons_of_mem _ m)) n m
section
variable {P : Program} {w : World} {K : PySem.W.Frag} {mg : Str → Option Value} {base : Heap}
def spDue (K : PySem.W.Frag) : Sp := fun vs H Q _ => ∃ (c : Str) (z a b into spot : Int) (q : Addr) (ns : List Int), vs = [.str c, .int z, .ref q, .int into, .int spot] ∧ 1 ≤ z ∧ z ≤ 8 ∧ SqL K H q (ns.map V.int) ∧ atI (ns.map V.int) 0 = some (.int a) ∧ atI (ns.map V.int) (-1) = some (.int b) ∧
  (c ∉ W1 → atI (ns.map V.int) 1 = some (.int b)) ∧ 0 ≤ into ∧ (c = "bit" → 0 ≤ spot ∧ spot < z) ∧ ∀ H', Same H H' → Q (.int (dueR c z a b into spot)) H'
abbrev nDue : List Str := ["_law_word", "_law_width", "_law_worths", "_law_into", "_law_spot", "_law_one", "_law_other", "_law_bit", "_law_a", "_law_b"]
theorem scDue : FnScope nDue ["_law_word", "_law_width", "_law_worths", "_law_into", "_law_spot"] (defScope sDue) := ⟨rfl, rfl, rfl, by decide +kernel, rfl, by decide +kernel, by decide +kernel⟩
set_option maxHeartbeats 1000000 in
theorem ok_due {f fb fm fc : Addr} {fd fdb fdm fdc : FuncData} (F : Fun K "_law_due" "_law_due" sDue f fd) (Db : Df K mg "_law_bits" fb fdb ["_law_width", "_law_worth_here"]) (Gb : FnOk P w K mg base CX0 2 fb fdb ["_law_width", "_law_worth_here"] spBits)
    (Dm : Df K mg "_law_made" fm fdm ["_law_bits_here"]) (Gm : FnOk P w K mg base CX0 2 fm fdm ["_law_bits_here"] (spMade K)) (Dc : Df K mg "_law_carried" fc fdc ["_law_width", "_law_one", "_law_other", "_law_carry"])
    (Gc : FnOk P w K mg base CX0 3 fc fdc ["_law_width", "_law_one", "_law_other", "_law_carry"] spCarr) (mz : mg "zip" = none) (mi : mg "int" = none) (mn : mg "min" = none) (mx : mg "max" = none) :
    FnOk P w K mg base CX0 4 f fd ["_law_word", "_law_width", "_law_worths", "_law_into", "_law_spot"] (spDue K) := by
  refine F.ok scDue (fun vs H Q E h => ?_) (fun cdv A outer s H vs Q E hr h => ?_)
  · obtain ⟨c, z, a, b, into, spot, q, ns, rfl, _⟩ := h
    rfl
  · obtain ⟨c, z, a, b, into, spot, q, ns, rfl, z1, z8, hS, e0, eN, e1, i0, hsp, fin⟩ := h
    have hr1 := hr.mono (by decide : 2 ≤ 3)
    refine ⟨_, pss_cons (ps_par (i := 5) (j := 6) rfl scDue.nd rfl rfl (by decide) rfl rfl (pa_cons (pe_call Gb hr1 (by rfl) Db.at_ Db.kp Db.bd .nil pass0 (pa_cons (pv 1) (pa_cons (pe_ix ix_list (pv 2) pe_int (fun _ _ => rfl)) pa_nil)))
        (pa_cons (pe_call Gb hr1 (by rfl) Db.at_ Db.kp Db.bd .nil pass0 (pa_cons (pv 1) (pa_cons (pe_ix ix_list (pv 2) (pe_un un_neg pe_int) (fun _ _ => rfl)) pa_nil))) pa_nil)) (by rfl))
      (pss_cons (ps_if (pt_cmpR op_eq (pv 0) pe_str (nomark _)) (pss_one (ps_ret (pe_call Gm hr1 (by rfl) Dm.at_ Dm.kp Dm.bd .nil pass0 (pa_cons (pe_lc (own := [("_law_bit", 7)]) (g := gName 7) (tt := tYes) rfl scDue.nd (pi_list (pv 5)) (blkOk_by (N := nDue) (sc := defScope sDue) (by decide +kernel))
            (fun _ _ _ _ _ => pg_name (i := 7) scDue.nd rfl (Or.inl rfl)) (fun _ _ _ _ _ => pts_nil) (fun _ _ _ _ _ => pe_op op_sub pe_int (pv 7))) pa_nil)))) pss_nil)
      (pss_cons (ps_if (pt_cmpR op_eq (pv 0) pe_str (nomark _)) (pss_one (ps_ret (pe_call Gm hr1 (by rfl) Dm.at_ Dm.kp Dm.bd .nil pass0 (pa_cons (pe_slice sl_list (pe_op op_cat (pv 5) (pe_op op_rep (pe_lst (pa_cons pe_int pa_nil)) pe_int)) po_none (po_some (pv 3))) pa_nil)))) pss_nil)
      (pss_cons (ps_if (pt_cmpR op_eq (pv 0) pe_str (nomark _)) (pss_one (ps_ret (pe_ix ix_list (pv 5) (pv 4) (fun _ _ => rfl)))) pss_nil)
      (pss_cons (ps_if (pt_cmpR op_eq (pv 0) pe_str (nomark _)) (pss_one (ps_ret (pe_call Gc hr (by rfl) Dc.at_ Dc.kp Dc.bd .nil pass0 (pa_cons (pv 1) (pa_cons (pe_ix ix_list (pv 2) pe_int (fun _ _ => rfl)) (pa_cons (pe_ix ix_list (pv 2) pe_int (fun _ _ => rfl)) (pa_cons pe_int pa_nil))))))) pss_nil)
      (pss_cons (ps_if (pt_cmpR op_eq (pv 0) pe_str (nomark _)) (pss_one (ps_ret (pe_call Gc hr (by rfl) Dc.at_ Dc.kp Dc.bd .nil pass0 (pa_cons (pv 1) (pa_cons (pe_ix ix_list (pv 2) pe_int (fun _ _ => rfl)) (pa_cons (pe_call Gm hr1 (by rfl) Dm.at_ Dm.kp Dm.bd .nil pass0 (pa_cons (pe_lc (own := [("_law_bit", 7)]) (g := gName 7) (tt := tYes) rfl scDue.nd (pi_list (pv 6)) (blkOk_by (N := nDue) (sc := defScope sDue) (by decide +kernel))
            (fun _ _ _ _ _ => pg_name (i := 7) scDue.nd rfl (Or.inl rfl)) (fun _ _ _ _ _ => pts_nil) (fun _ _ _ _ _ => pe_op op_sub pe_int (pv 7))) pa_nil)) (pa_cons pe_int pa_nil))))))) pss_nil)
      (pss_cons (ps_if (pt_cmpR op_eq (pv 0) pe_str (nomark _)) (pss_one (ps_ret (pe_callTy call_int1 (by rfl) mi (by decide +kernel) (pa_cons (pe_cmpR (op_ltI hr.units) (pe_revL (pv 5)) (pe_revL (pv 6)) (nomark _)) pa_nil)))) pss_nil)
      (pss_cons (ps_if (pt_cmpR op_eq (pv 0) pe_str (nomark _)) (pss_one (ps_ret (pe_callTy call_int1 (by rfl) mi (by decide +kernel) (pa_cons (pe_cmpR (op_eqD hr.units) (pv 5) (pv 6) (nomark _)) pa_nil)))) pss_nil)
      (pss_cons (ps_if (pt_cmpR op_eq (pv 0) pe_str (nomark _)) (pss_one (ps_ret (pe_call Gm hr1 (by rfl) Dm.at_ Dm.kp Dm.bd .nil pass0 (pa_cons (pe_lc (own := [("_law_a", 8), ("_law_b", 9)]) (g := gTup K 2 (gCons (gName 8) (gCons (gName 9) gNil))) (tt := tYes) rfl scDue.nd (pi_zip (by rfl) mz (pa_cons (pv 5) (pa_cons (pv 6) pa_nil)))
            (blkOk_by (N := nDue) (sc := defScope sDue) (by decide +kernel)) (fun _ _ _ _ _ => pg_tup rfl (pgs_cons (pg_name (i := 8) scDue.nd rfl (Or.inl rfl)) (pgs_cons (pg_name (i := 9) scDue.nd rfl (Or.inl rfl)) pgs_nil))) (fun _ _ _ _ _ => pts_nil)
            (fun _ _ _ _ _ => pe_callB (call_min2 rfl) (by rfl) mn (by decide +kernel) (pa_cons (pv 8) (pa_cons (pv 9) pa_nil)))) pa_nil)))) pss_nil)
      (pss_cons (ps_if (pt_cmpR op_eq (pv 0) pe_str (nomark _)) (pss_one (ps_ret (pe_call Gm hr1 (by rfl) Dm.at_ Dm.kp Dm.bd .nil pass0 (pa_cons (pe_lc (own := [("_law_a", 8), ("_law_b", 9)]) (g := gTup K 2 (gCons (gName 8) (gCons (gName 9) gNil))) (tt := tYes) rfl scDue.nd (pi_zip (by rfl) mz (pa_cons (pv 5) (pa_cons (pv 6) pa_nil)))
            (blkOk_by (N := nDue) (sc := defScope sDue) (by decide +kernel)) (fun _ _ _ _ _ => pg_tup rfl (pgs_cons (pg_name (i := 8) scDue.nd rfl (Or.inl rfl)) (pgs_cons (pg_name (i := 9) scDue.nd rfl (Or.inl rfl)) pgs_nil))) (fun _ _ _ _ _ => pts_nil)
            (fun _ _ _ _ _ => pe_callB (call_max2 rfl) (by rfl) mx (by decide +kernel) (pa_cons (pv 8) (pa_cons (pv 9) pa_nil)))) pa_nil)))) pss_nil)
      (pss_one (ps_ret (pe_call Gm hr1 (by rfl) Dm.at_ Dm.kp Dm.bd .nil pass0 (pa_cons (pe_lc (own := [("_law_a", 8), ("_law_b", 9)]) (g := gTup K 2 (gCons (gName 8) (gCons (gName 9) gNil))) (tt := tYes) rfl scDue.nd (pi_zip (by rfl) mz (pa_cons (pv 5) (pa_cons (pv 6) pa_nil)))
            (blkOk_by (N := nDue) (sc := defScope sDue) (by decide +kernel)) (fun _ _ _ _ _ => pg_tup rfl (pgs_cons (pg_name (i := 8) scDue.nd rfl (Or.inl rfl)) (pgs_cons (pg_name (i := 9) scDue.nd rfl (Or.inl rfl)) pgs_nil))) (fun _ _ _ _ _ => pts_nil)
            (fun _ _ _ _ _ => pe_callTy call_int1 (by rfl) mi (by decide +kernel) (pa_cons (pe_cmpR op_ne (pv 8) (pv 9) (nomark _)) pa_nil))) pa_nil))))))))))))), ?_⟩
    unfold dueR at fin
    refine ⟨_, rfl, _, rfl, q, _, 0, _, rfl, rfl, hS, e0, z, a, rfl, by omega, z8, fun p1 H1 s1 h1 g1 => ⟨_, rfl, _, rfl, _, rfl, q, _, -1, _, rfl, rfl, Same.seq s1 hS, eN, z, b, rfl, by omega, z8, fun p2 H2 s2 h2 g2 => ⟨_, _, rfl, ?_⟩⟩⟩
    have g12 := s2 _ _ g1
    have s12 := s1.trans s2
    have la : (bitsI z.toNat a).length ≤ 100 := by rw [bitsI_len]; omega
    have lb : (bitsI z.toNat b).length ≤ 100 := by rw [bitsI_len]; omega
    have lab : (bitsI z.toNat a).length = (bitsI z.toNat b).length := by rw [bitsI_len, bitsI_len]
    have m01 : ∀ {k : Int}, ∀ n ∈ (bitsI z.toNat k).map fun x => 1 - x, n.natAbs < 2 ^ 64 := fun {k} n m => by
      obtain ⟨x, mx, rfl⟩ := List.mem_map.mp m
      have := bitsI_01 x mx
      omega
    have lz : ∀ f : Int → Int → Int, (List.zipWith f (bitsI z.toNat a) (bitsI z.toNat b)).length ≤ 100 := fun f => by rw [List.length_zipWith, bitsI_len, bitsI_len, Nat.min_self]; omega
    refine ⟨_, rfl, rfl, _, rfl, ite2 (fun h => ?_) (fun h => ?_)⟩
    · rw [if_pos (show isW c "not" = true from h)] at fin
      exact ⟨_, rfl, p1, rfl, ⟨_, SqL.of g12⟩, fun D hD => lc_map (f := fun x => 1 - x) (i := 7) (SqL.of g12) la hD (fun n H' R r => ⟨_, rfl, _, _, rfl, rfl, r⟩) (fun v => rfl)
        fun H' sD gD => ⟨D, _, rfl, SqL.of gD, by rw [List.length_map]; exact la, m01, fun H'' s'' => fin _ ((s12.trans sD).trans s'')⟩⟩
    rw [if_neg (show ¬ isW c "not" = true from h)] at fin
    refine ⟨_, rfl, rfl, _, rfl, ite2 (fun h => ?_) (fun h => ?_)⟩
    · rw [if_pos (show isW c "wide" = true from h)] at fin
      refine ⟨_, rfl, by show 1 ≤ sizeLine; decide, fun l hl => ⟨l, 8, _, rfl, rfl, upd_same, by decide, by decide, by decide, fun p hp => ?_⟩⟩
      have sl : Same H2 (upd H2 l (.lst [.int 0])) := same_new hl
      have sp := same_trans_new (o := .lst (List.replicate (8 : Int).toNat [V.int 0]).flatten) sl hp
      refine ⟨p1, p, _, _, rfl, rfl, sp _ _ g12, upd_same, by rw [List.length_map, bitsI_len]; exact Nat.le_trans (show z.toNat + 8 ≤ 16 by omega) (by decide), fun r hr' => ?_⟩
      have e8 : (bitsI z.toNat a).map V.int ++ (List.replicate (8 : Int).toNat [V.int 0]).flatten = (bitsI z.toNat a ++ List.replicate 8 0).map V.int := by rw [List.map_append]; rfl
      rw [e8]
      refine ⟨_, rfl, into, rfl, r, _, rfl, SqL.of upd_same, fun t ht => ?_⟩
      rw [cut_to i0]
      refine ⟨t, _, rfl, SqL.of upd_same, ?_, fun n m => ?_, fun H'' s'' => fin _ ((s12.trans (same_trans_new (same_trans_new sp hr') ht)).trans s'')⟩
      · rw [List.length_take, List.length_append, bitsI_len, List.length_replicate]; omega
      · rcases List.mem_append.mp (List.mem_of_mem_take m) with m | m
        · have := bitsI_01 n m; omega
        · rw [(List.mem_replicate.mp m).2]; decide
    rw [if_neg (show ¬ isW c "wide" = true from h)] at fin
    refine ⟨_, rfl, rfl, _, rfl, ite2 (fun h => ?_) (fun h => ?_)⟩
    · rw [if_pos (show isW c "bit" = true from h)] at fin
      obtain ⟨sp0, sp1⟩ := hsp (isW_iff.mp h)
      have lt : spot.toNat < (bitsI z.toNat a).length := by rw [bitsI_len]; omega
      refine ⟨_, rfl, _, rfl, p1, _, spot, .int ((bitsI z.toNat a).getD spot.toNat 0), rfl, rfl, SqL.of g12, ?_, fin _ s12⟩
      refine at_of (j := spot.toNat) (by omega) ?_
      rw [List.getElem?_map, List.getD_eq_getElem?_getD, List.getElem?_eq_getElem lt]
      rfl
    rw [if_neg (show ¬ isW c "bit" = true from h)] at fin
    refine ⟨_, rfl, rfl, _, rfl, ite2 (fun h => ?_) (fun h => ?_)⟩
    · rw [if_pos (show isW c "add" = true from h)] at fin
      have nw : c ∉ W1 := by rw [isW_iff.mp h]; decide +kernel
      exact ⟨_, rfl, _, rfl, q, _, 0, _, rfl, rfl, Same.seq s12 hS, e0, _, rfl, q, _, 1, _, rfl, rfl, Same.seq s12 hS, e1 nw, z, a, b, 0, rfl, by omega, z8, fun H' s' => fin _ (s12.trans s')⟩
    rw [if_neg (show ¬ isW c "add" = true from h)] at fin
    refine ⟨_, rfl, rfl, _, rfl, ite2 (fun h => ?_) (fun h => ?_)⟩
    · rw [if_pos (show isW c "sub" = true from h)] at fin
      refine ⟨_, rfl, _, rfl, q, _, 0, _, rfl, rfl, Same.seq s12 hS, e0, _, rfl, p2, rfl, ⟨_, SqL.of g2⟩, fun D hD => lc_map (f := fun x => 1 - x) (i := 7) (SqL.of g2) lb hD (fun n H' R r => ⟨_, rfl, _, _, rfl, rfl, r⟩) (fun v => rfl)
        fun H' sD gD => ⟨D, _, rfl, SqL.of gD, by rw [List.length_map]; exact lb, m01, fun H'' s'' => ⟨z, a, _, 1, rfl, by omega, z8, fun H3 s3 => fin _ (((s12.trans sD).trans s'').trans s3)⟩⟩⟩
    rw [if_neg (show ¬ isW c "sub" = true from h)] at fin
    refine ⟨_, rfl, rfl, _, rfl, ite2 (fun h => ?_) (fun h => ?_)⟩
    · rw [if_pos (show isW c "less" = true from h)] at fin
      refine ⟨_, rfl, p1, _, rfl, SqL.of g12, fun r1 k1 => ?_⟩
      have t1 := same_new (o := .lst ((bitsI z.toNat a).map V.int).reverse) k1
      refine ⟨_, rfl, p2, _, rfl, SqL.of (t1 _ _ g2), fun r2 k2 => ?_⟩
      have t2 := same_new (o := .lst ((bitsI z.toNat b).map V.int).reverse) k2
      have q1 := (t1.trans t2) r1
      refine ⟨r1, r2, (bitsI z.toNat a).reverse, (bitsI z.toNat b).reverse, rfl, rfl, SqL.of ?_, SqL.of ?_, .inr ⟨_, rfl, fin _ ((s12.trans t1).trans t2)⟩⟩
      · rw [t2 _ _ upd_same, List.map_reverse]
      · rw [upd_same, List.map_reverse]
    rw [if_neg (show ¬ isW c "less" = true from h)] at fin
    refine ⟨_, rfl, rfl, _, rfl, ite2 (fun h => ?_) (fun h => ?_)⟩
    · rw [if_pos (show isW c "same" = true from h)] at fin
      exact ⟨_, rfl, _, rfl, _, _, .lst (SqL.of g12) (dpI _), .lst (SqL.of g2) (dpI _), shaped_ints _, shaped_ints _, .inr ⟨_, rfl, fin _ s12⟩⟩
    rw [if_neg (show ¬ isW c "same" = true from h)] at fin
    refine ⟨_, rfl, rfl, _, rfl, ite2 (fun h => ?_) (fun h => ?_)⟩
    · rw [if_pos (show isW c "and" = true from h)] at fin
      exact ⟨_, rfl, _, rfl, p1, p2, _, _, rfl, SqL.of g12, SqL.of g2, fun D hD => lc_zmap (f := minF) (i := 8) (j := 9) (SqL.of g12) (SqL.of g2) lab la hD (fun n m H' R r => ⟨_, rfl, _, rfl, _, _, rfl, r⟩) (fun u v => rfl)
        fun H' sD gD => ⟨D, _, rfl, SqL.of gD, lz _, z01 (fun x y hx hy => by unfold minF; split <;> omega) bitsI_01 bitsI_01, fun H'' s'' => fin _ ((s12.trans sD).trans s'')⟩⟩
    rw [if_neg (show ¬ isW c "and" = true from h)] at fin
    refine ⟨_, rfl, rfl, _, rfl, ite2 (fun h => ?_) (fun h => ?_)⟩
    · rw [if_pos (show isW c "or" = true from h)] at fin
      exact ⟨_, rfl, _, rfl, p1, p2, _, _, rfl, SqL.of g12, SqL.of g2, fun D hD => lc_zmap (f := maxF) (i := 8) (j := 9) (SqL.of g12) (SqL.of g2) lab la hD (fun n m H' R r => ⟨_, rfl, _, rfl, _, _, rfl, r⟩) (fun u v => rfl)
        fun H' sD gD => ⟨D, _, rfl, SqL.of gD, lz _, z01 (fun x y hx hy => by unfold maxF; split <;> omega) bitsI_01 bitsI_01, fun H'' s'' => fin _ ((s12.trans sD).trans s'')⟩⟩
    rw [if_neg (show ¬ isW c "or" = true from h)] at fin
    exact ⟨_, rfl, _, rfl, p1, p2, _, _, rfl, SqL.of g12, SqL.of g2, fun D hD => lc_zmap (f := neF) (i := 8) (j := 9) (SqL.of g12) (SqL.of g2) lab la hD (fun n m H' R r => ⟨_, rfl, _, rfl, rfl, .inr ⟨_, rfl, r⟩⟩) (fun u v => rfl)
        fun H' sD gD => ⟨D, _, rfl, SqL.of gD, lz _, z01 (fun x y hx hy => by unfold neF; split <;> omega) bitsI_01 bitsI_01, fun H'' s'' => fin _ ((s12.trans sD).trans s'')⟩⟩
end
end P3
end Bf

namespace Bf
open PySem PySem.Spec PyProof.Rows L2
theorem valB_bits : ∀ (n : Nat) (k : Int), 0 ≤ k → k < 2 ^ n → valB ((List.range n).map fun i => k / 2 ^ i % 2) = k
  | 0, k, h0, h1 => by
    have e : k = 0 := by simp at h1; omega
    subst e
    rfl
  | n + 1, k, h0, h1 => by
    rw [List.range_succ_eq_map, List.map_cons, List.map_map]
    have e : (List.map ((fun i => k / 2 ^ i % 2) ∘ Nat.succ) (List.range n)) = (List.range n).map fun i => (k / 2) / 2 ^ i % 2 := by
      refine List.map_congr_left fun i _ => ?_
      show k / 2 ^ (i + 1) % 2 = k / 2 / 2 ^ i % 2
      rw [Int.ediv_ediv_of_nonneg (by decide), Int.pow_succ, Int.mul_comm]
    rw [e]
    show k / 2 ^ 0 % 2 + 2 * valB _ = k
    rw [Int.pow_succ] at h1
    rw [valB_bits n (k / 2) (by omega) (by omega)]
    simp
    omega
theorem bits_valB : ∀ (bs : List Int), (∀ b ∈ bs, 0 ≤ b ∧ b ≤ 1) → (List.range bs.length).map (fun i => valB bs / 2 ^ i % 2) = bs
  | [], _ => rfl
  | b :: r, h => by
    have hb := h b List.mem_cons_self
    rw [List.length_cons, List.range_succ_eq_map, List.map_cons, List.map_map]
    have e : (List.map ((fun i => valB (b :: r) / 2 ^ i % 2) ∘ Nat.succ) (List.range r.length)) = (List.range r.length).map fun i => valB r / 2 ^ i % 2 := by
      refine List.map_congr_left fun i _ => ?_
      show (b + 2 * valB r) / 2 ^ (i + 1) % 2 = valB r / 2 ^ i % 2
      rw [Int.pow_succ, Int.mul_comm (2 ^ i) 2, ← Int.ediv_ediv_of_nonneg (by decide : (0 : Int) ≤ 2)]
      have : (b + 2 * valB r) / 2 = valB r := by omega
      rw [this]
    rw [e, bits_valB r fun x m => h x (List.mem_cons_of_mem _ m)]
    congr 1
    show (b + 2 * valB r) / 2 ^ 0 % 2 = b
    simp
    omega
theorem valB_lt : ∀ (bs : List Int), (∀ b ∈ bs, 0 ≤ b ∧ b ≤ 1) → 0 ≤ valB bs ∧ valB bs < 2 ^ bs.length
  | [], _ => ⟨Int.le_refl _, by decide⟩
  | b :: r, h => by
    have hb := h b List.mem_cons_self
    obtain ⟨h0, h1⟩ := valB_lt r fun x m => h x (List.mem_cons_of_mem _ m)
    show 0 ≤ b + 2 * valB r ∧ b + 2 * valB r < 2 ^ (r.length + 1)
    rw [Int.pow_succ]
    omega

namespace P3
theorem valB_bitsI (n : Nat) (k : Int) (h0 : 0 ≤ k) (h1 : k < 2 ^ n) : valB (bitsI n k) = k := valB_bits n k h0 h1
theorem pow2_pos (n : Nat) : (0 : Int) < 2 ^ n := Int.pow_pos (by decide)
theorem mod_two {x m k : Int} (x0 : 0 ≤ x) (x1 : x ≤ 1) (hk : 0 < k) : (x + 2 * m) % (k * 2) = x + 2 * (m % k) := by
  have e1 := Int.emod_add_mul_ediv m k
  have e2 := Int.emod_lt_of_pos m hk
  have e3 := Int.emod_nonneg m (Int.ne_of_gt hk)
  have e : x + 2 * m = (x + 2 * (m % k)) + (k * 2) * (m / k) := by
    have : (k * 2) * (m / k) = 2 * (k * (m / k)) := by rw [Int.mul_comm k 2, Int.mul_assoc]
    omega
  rw [e, Int.add_mul_emod_self_left, Int.emod_eq_of_lt (by omega) (by omega)]
theorem sum_twice (g : Nat → Int) : ∀ l : List Nat, (l.map fun j => g j * 2 ^ (j + 1)).sum = 2 * (l.map fun j => g j * 2 ^ j).sum
  | [] => rfl
  | x :: r => by
    rw [List.map_cons, List.map_cons, List.sum_cons, List.sum_cons, sum_twice g r, Int.pow_succ, ← Int.mul_assoc, Int.mul_add, Int.mul_comm (g x * 2 ^ x) 2]
theorem madeI_val : ∀ ns : List Int, madeI ns = valB ns
  | [] => rfl
  | x :: r => by
    have e := madeI_val r
    unfold madeI at e ⊢
    rw [List.length_cons, List.range_succ_eq_map, List.map_cons, List.map_map, List.sum_cons]
    have e2 : (List.range r.length).map ((fun j => (x :: r).getD j 0 * 2 ^ j) ∘ Nat.succ) = (List.range r.length).map fun j => r.getD j 0 * 2 ^ (j + 1) := List.map_congr_left fun j _ => rfl
    rw [e2, sum_twice (fun j => r.getD j 0), e]
    show x * 2 ^ 0 + 2 * valB r = x + 2 * valB r
    rw [Int.pow_zero, Int.mul_one]
theorem val_not : ∀ l : List Int, valB (l.map fun x => 1 - x) = 2 ^ l.length - 1 - valB l
  | [] => rfl
  | x :: r => by
    show (1 - x) + 2 * valB (r.map fun x => 1 - x) = 2 ^ (r.length + 1) - 1 - (x + 2 * valB r)
    rw [val_not r, Int.pow_succ]
    omega
theorem val_take : ∀ (l : List Int) (k : Nat), (∀ b ∈ l, 0 ≤ b ∧ b ≤ 1) → valB (l.take k) = valB l % 2 ^ k
  | l, 0, _ => by
    rw [List.take_zero, Int.pow_zero, Int.emod_one]
    rfl
  | [], k + 1, _ => by
    rw [List.take_nil]
    exact (Int.zero_emod _).symm
  | x :: r, k + 1, h => by
    have hx := h x List.mem_cons_self
    show x + 2 * valB (r.take k) = (x + 2 * valB r) % 2 ^ (k + 1)
    rw [val_take r k fun b m => h b (List.mem_cons_of_mem _ m), Int.pow_succ, mod_two hx.1 hx.2 (pow2_pos k)]
theorem val_zeros (n : Nat) : valB (List.replicate n 0) = 0 := by
  induction n with
  | zero => rfl
  | succ n ih =>
    rw [List.replicate_succ]
    show 0 + 2 * valB (List.replicate n 0) = 0
    rw [ih]; rfl
theorem val_app : ∀ l r : List Int, valB (l ++ r) = valB l + 2 ^ l.length * valB r
  | [], r => by
    show valB r = 0 + 2 ^ 0 * valB r
    rw [Int.pow_zero, Int.one_mul, Int.zero_add]
  | x :: l, r => by
    show x + 2 * valB (l ++ r) = x + 2 * valB l + 2 ^ (l.length + 1) * valB r
    rw [val_app l r, Int.pow_succ, Int.mul_comm (2 ^ l.length) 2, Int.mul_assoc]
    omega
theorem val_car : ∀ (xs ys : List Int) (c : Int), xs.length = ys.length → (∀ b ∈ xs, 0 ≤ b ∧ b ≤ 1) → (∀ b ∈ ys, 0 ≤ b ∧ b ≤ 1) → 0 ≤ c → c ≤ 1 → valB (carL xs ys c) = (valB xs + valB ys + c) % 2 ^ xs.length
  | [], [], c, _, _, _, c0, c1 => by
    show (0 : Int) = (0 + 0 + c) % 2 ^ 0
    rw [Int.pow_zero, Int.emod_one]
  | x :: xs, y :: ys, c, h, hx, hy, c0, c1 => by
    have x1 := hx x List.mem_cons_self
    have y1 := hy y List.mem_cons_self
    have ih := val_car xs ys (if decide (1 < x + y + c) = true then 1 else 0) (Nat.succ.inj h) (fun b m => hx b (List.mem_cons_of_mem _ m)) (fun b m => hy b (List.mem_cons_of_mem _ m)) (by split <;> decide) (by split <;> decide)
    show (x + y + c) % 2 + 2 * valB (carL xs ys _) = (x + 2 * valB xs + (y + 2 * valB ys) + c) % 2 ^ (xs.length + 1)
    rw [ih]
    have ec : x + 2 * valB xs + (y + 2 * valB ys) + c = (x + y + c) % 2 + 2 * (valB xs + valB ys + (if decide (1 < x + y + c) = true then 1 else 0)) := by
      by_cases d : 1 < x + y + c
      · rw [decide_eq_true d, if_pos rfl]; omega
      · rw [decide_eq_false d, if_neg Bool.false_ne_true]; omega
    rw [ec, Int.pow_succ, mod_two (Int.emod_nonneg _ (by decide)) (by omega) (pow2_pos xs.length)]
theorem val_inj {xs ys : List Int} (h : xs.length = ys.length) (hx : ∀ b ∈ xs, 0 ≤ b ∧ b ≤ 1) (hy : ∀ b ∈ ys, 0 ≤ b ∧ b ≤ 1) (e : valB xs = valB ys) : xs = ys := by
  rw [← bits_valB xs hx, ← bits_valB ys hy, h, e]
theorem bits_inj {n : Nat} {a b : Int} (a0 : 0 ≤ a) (a1 : a < 2 ^ n) (b0 : 0 ≤ b) (b1 : b < 2 ^ n) (e : bitsI n a = bitsI n b) : a = b := by
  rw [← valB_bitsI n a a0 a1, ← valB_bitsI n b b0 b1, e]
/-! ### the order -/
theorem ltI_nil : ltI [] [] = false := by decide +kernel
theorem ltI_cons (x y : Int) (xs ys : List Int) : ltI (x :: xs) (y :: ys) = if x = y then ltI xs ys else decide (x < y) := by
  unfold ltI PySem.W.dataLt
  simp only [List.map_cons, PySem.W.keyToks, PySem.W.keyToksAll, List.cons_append, List.nil_append]
  rw [PyProof.Rows.lex_self]
  by_cases e : x = y
  · rw [if_pos e, e, PyProof.Rows.lex_self]
  · rw [if_neg e, PyProof.Rows.lex_diff (fun z => e (Sum.inl.inj z))]
    rfl
theorem ltI_snoc (x y : Int) : ∀ u v : List Int, u.length = v.length → ltI (u ++ [x]) (v ++ [y]) = if u = v then decide (x < y) else ltI u v
  | [], [], _ => by
    rw [if_pos rfl]
    show ltI (x :: []) (y :: []) = _
    rw [ltI_cons, ltI_nil]
    by_cases e : x = y
    · rw [if_pos e, e]; simp
    · rw [if_neg e]
  | a :: u, b :: v, h => by
    show ltI (a :: (u ++ [x])) (b :: (v ++ [y])) = _
    rw [ltI_cons, ltI_cons, ltI_snoc x y u v (Nat.succ.inj h)]
    by_cases e : a = b
    · subst e
      by_cases e2 : u = v
      · subst e2
        rw [if_pos rfl, if_pos rfl, if_pos rfl]
      · rw [if_pos rfl, if_pos rfl, if_neg e2, if_neg fun z => e2 (List.cons.inj z).2]
    · rw [if_neg e, if_neg e, if_neg fun z => e (List.cons.inj z).1]
theorem ltI_rev : ∀ xs ys : List Int, xs.length = ys.length → (∀ b ∈ xs, 0 ≤ b ∧ b ≤ 1) → (∀ b ∈ ys, 0 ≤ b ∧ b ≤ 1) → ltI xs.reverse ys.reverse = decide (valB xs < valB ys)
  | [], [], _, _, _ => ltI_nil
  | x :: xs, y :: ys, h, hx, hy => by
    have x1 := hx x List.mem_cons_self
    have y1 := hy y List.mem_cons_self
    have hx' : ∀ b ∈ xs, 0 ≤ b ∧ b ≤ 1 := fun b m => hx b (List.mem_cons_of_mem _ m)
    have hy' : ∀ b ∈ ys, 0 ≤ b ∧ b ≤ 1 := fun b m => hy b (List.mem_cons_of_mem _ m)
    have hl : xs.length = ys.length := Nat.succ.inj h
    rw [List.reverse_cons, List.reverse_cons, ltI_snoc x y _ _ (by rw [List.length_reverse, List.length_reverse, hl])]
    show _ = decide (x + 2 * valB xs < y + 2 * valB ys)
    by_cases e : xs = ys
    · subst e
      rw [if_pos rfl]
      exact decide_eq_decide.mpr (by omega)
    · rw [if_neg fun z => e (List.reverse_inj.mp z), ltI_rev xs ys hl hx' hy']
      have ne : valB xs ≠ valB ys := fun z => e (val_inj hl hx' hy' z)
      exact decide_eq_decide.mpr (by omega)
theorem eqv_ints : ∀ xs ys : List Int, PyData.eqvAll (xs.map PyData.int) (ys.map PyData.int) = decide (xs = ys)
  | [], [] => by simp [PyData.eqvAll]
  | [], _ :: _ => by simp [PyData.eqvAll]
  | _ :: _, [] => by simp [PyData.eqvAll]
  | x :: xs, y :: ys => by
    simp only [List.map_cons, PyData.eqvAll, PyData.eqv, eqv_ints xs ys, List.cons.injEq]
    by_cases e : x = y
    · subst e; simp
    · simp [e]
/-! ### bits of two -/
theorem band_cons {x y m n : Int} (x0 : 0 ≤ x ∧ x ≤ 1) (y0 : 0 ≤ y ∧ y ≤ 1) (m0 : 0 ≤ m) (n0 : 0 ≤ n) : Builtin.bitAnd (x + 2 * m) (y + 2 * n) = minF x y + 2 * Builtin.bitAnd m n := by
  rw [PyProof.Rows.bitAnd_pp (by omega) (by omega), PyProof.Rows.bitAnd_pp m0 n0]
  obtain ⟨m, rfl⟩ : ∃ k : Nat, m = (k : Int) := ⟨m.toNat, by omega⟩
  obtain ⟨n, rfl⟩ : ∃ k : Nat, n = (k : Int) := ⟨n.toNat, by omega⟩
  have key : ∀ p q : Nat, p ≤ 1 → q ≤ 1 → (p + 2 * m) &&& (q + 2 * n) = min p q + 2 * (m &&& n) := by
    intro p q hp hq
    have e1 := Nat.and_div_two (a := p + 2 * m) (b := q + 2 * n)
    have e2 := Nat.and_mod_two_pow (a := p + 2 * m) (b := q + 2 * n) (n := 1)
    rw [Nat.pow_one] at e2
    rw [show (p + 2 * m) / 2 = m by omega, show (q + 2 * n) / 2 = n by omega] at e1
    rw [show (p + 2 * m) % 2 = p by omega, show (q + 2 * n) % 2 = q by omega] at e2
    have e3 : p &&& q = min p q := by
      have cp : p = 0 ∨ p = 1 := by omega
      have cq : q = 0 ∨ q = 1 := by omega
      rcases cp with rfl | rfl <;> rcases cq with rfl | rfl <;> decide
    rw [e3] at e2
    omega
  have cx : x = 0 ∨ x = 1 := by omega
  have cy : y = 0 ∨ y = 1 := by omega
  have k00 := key 0 0 (by decide) (by decide)
  have k01 := key 0 1 (by decide) (by decide)
  have k10 := key 1 0 (by decide) (by decide)
  have k11 := key 1 1 (by decide) (by decide)
  rw [Int.toNat_natCast, Int.toNat_natCast]
  rcases cx with rfl | rfl <;> rcases cy with rfl | rfl
  · rw [show ((0 : Int) + 2 * (m : Int)).toNat = 0 + 2 * m by omega, show ((0 : Int) + 2 * (n : Int)).toNat = 0 + 2 * n by omega, k00]; unfold minF; simp
  · rw [show ((0 : Int) + 2 * (m : Int)).toNat = 0 + 2 * m by omega, show ((1 : Int) + 2 * (n : Int)).toNat = 1 + 2 * n by omega, k01]; unfold minF; simp
  · rw [show ((1 : Int) + 2 * (m : Int)).toNat = 1 + 2 * m by omega, show ((0 : Int) + 2 * (n : Int)).toNat = 0 + 2 * n by omega, k10]; unfold minF; simp
  · rw [show ((1 : Int) + 2 * (m : Int)).toNat = 1 + 2 * m by omega, show ((1 : Int) + 2 * (n : Int)).toNat = 1 + 2 * n by omega, k11]; unfold minF; simp
theorem val_min : ∀ xs ys : List Int, xs.length = ys.length → (∀ b ∈ xs, 0 ≤ b ∧ b ≤ 1) → (∀ b ∈ ys, 0 ≤ b ∧ b ≤ 1) → valB (List.zipWith minF xs ys) = Builtin.bitAnd (valB xs) (valB ys)
  | [], [], _, _, _ => by decide +kernel
  | x :: xs, y :: ys, h, hx, hy => by
    have hx' : ∀ b ∈ xs, 0 ≤ b ∧ b ≤ 1 := fun b m => hx b (List.mem_cons_of_mem _ m)
    have hy' : ∀ b ∈ ys, 0 ≤ b ∧ b ≤ 1 := fun b m => hy b (List.mem_cons_of_mem _ m)
    show minF x y + 2 * valB (List.zipWith minF xs ys) = Builtin.bitAnd (x + 2 * valB xs) (y + 2 * valB ys)
    rw [val_min xs ys (Nat.succ.inj h) hx' hy', band_cons (hx x List.mem_cons_self) (hy y List.mem_cons_self) (valB_lt xs hx').1 (valB_lt ys hy').1]
theorem val_max : ∀ xs ys : List Int, xs.length = ys.length → (∀ b ∈ xs, 0 ≤ b ∧ b ≤ 1) → (∀ b ∈ ys, 0 ≤ b ∧ b ≤ 1) → valB (List.zipWith maxF xs ys) = valB xs + valB ys - valB (List.zipWith minF xs ys)
  | [], [], _, _, _ => rfl
  | x :: xs, y :: ys, h, hx, hy => by
    show maxF x y + 2 * valB (List.zipWith maxF xs ys) = x + 2 * valB xs + (y + 2 * valB ys) - (minF x y + 2 * valB (List.zipWith minF xs ys))
    rw [val_max xs ys (Nat.succ.inj h) (fun b m => hx b (List.mem_cons_of_mem _ m)) fun b m => hy b (List.mem_cons_of_mem _ m)]
    have : maxF x y = x + y - minF x y := by unfold maxF minF; split <;> split <;> omega
    omega
theorem val_ne : ∀ xs ys : List Int, xs.length = ys.length → (∀ b ∈ xs, 0 ≤ b ∧ b ≤ 1) → (∀ b ∈ ys, 0 ≤ b ∧ b ≤ 1) → valB (List.zipWith neF xs ys) = valB xs + valB ys - 2 * valB (List.zipWith minF xs ys)
  | [], [], _, _, _ => rfl
  | x :: xs, y :: ys, h, hx, hy => by
    show neF x y + 2 * valB (List.zipWith neF xs ys) = x + 2 * valB xs + (y + 2 * valB ys) - 2 * (minF x y + 2 * valB (List.zipWith minF xs ys))
    rw [val_ne xs ys (Nat.succ.inj h) (fun b m => hx b (List.mem_cons_of_mem _ m)) fun b m => hy b (List.mem_cons_of_mem _ m)]
    have x1 := hx x List.mem_cons_self
    have y1 := hy y List.mem_cons_self
    have : neF x y = x + y - 2 * minF x y := by
      have cx : x = 0 ∨ x = 1 := by omega
      have cy : y = 0 ∨ y = 1 := by omega
      rcases cx with rfl | rfl <;> rcases cy with rfl | rfl <;> decide +kernel
    omega
theorem topW_lt {z a : Int} (h : a ≤ topW z) : a < 2 ^ z.toNat := by
  unfold topW at h
  omega
theorem due_one {c : Str} {z a b into spot : Int} (h : c ∈ W1) (z1 : 1 ≤ z) (a0 : 0 ≤ a) (a1 : a ≤ topW z) (s0 : c = "bit" → 0 ≤ spot ∧ spot < z) : dueR c z a b into spot = oneR c z a (.int into) (.int spot) := by
  have at_ := topW_lt a1
  have va := valB_bitsI z.toNat a a0 at_
  have hm : c = "not" ∨ c = "wide" ∨ c = "bit" := by
    unfold W1 at h
    simpa only [List.mem_cons, List.not_mem_nil, or_false] using h
  unfold dueR oneR
  rcases hm with rfl | rfl | rfl
  · rw [if_pos (show isW "not" "not" = true by decide +kernel), if_pos (show isW "not" "not" = true by decide +kernel), madeI_val, val_not, va, bitsI_len]
    rfl
  · rw [if_neg (show ¬ isW "wide" "not" = true by decide +kernel), if_pos (show isW "wide" "wide" = true by decide +kernel), if_neg (show ¬ isW "wide" "not" = true by decide +kernel), if_pos (show isW "wide" "wide" = true by decide +kernel), madeI_val, val_take, val_app, val_zeros, va, Int.mul_zero, Int.add_zero]
    · rfl
    · intro x m
      rcases List.mem_append.mp m with m | m
      · exact bitsI_01 x m
      · rw [(List.mem_replicate.mp m).2]; exact ⟨by decide, by decide⟩
  · obtain ⟨sp0, sp1⟩ := s0 rfl
    rw [if_neg (show ¬ isW "bit" "not" = true by decide +kernel), if_neg (show ¬ isW "bit" "wide" = true by decide +kernel), if_pos (show isW "bit" "bit" = true by decide +kernel), if_neg (show ¬ isW "bit" "not" = true by decide +kernel), if_neg (show ¬ isW "bit" "wide" = true by decide +kernel)]
    unfold bitsI
    rw [List.getD_eq_getElem?_getD, List.getElem?_map, List.getElem?_range (by omega)]
    rfl
theorem due_two {c : Str} {z a b into spot : Int} (h : c ∈ WD) (h2 : c ∉ W1) (a0 : 0 ≤ a) (a1 : a ≤ topW z) (b0 : 0 ≤ b) (b1 : b ≤ topW z) : dueR c z a b into spot = twoR c z a b := by
  have at_ := topW_lt a1
  have bt_ := topW_lt b1
  have va := valB_bitsI z.toNat a a0 at_
  have vb := valB_bitsI z.toNat b b0 bt_
  have ll : (bitsI z.toNat a).length = (bitsI z.toNat b).length := by rw [bitsI_len, bitsI_len]
  have n1 := not_w1 h2
  unfold dueR twoR
  rw [if_neg (show ¬ isW c "not" = true by rw [isW_no n1.2.2]; decide), if_neg (show ¬ isW c "wide" = true by rw [isW_no n1.1]; decide), if_neg (show ¬ isW c "bit" = true by rw [isW_no n1.2.1]; decide)]
  have hm : c = "and" ∨ c = "or" ∨ c = "xor" ∨ c = "add" ∨ c = "sub" ∨ c = "less" ∨ c = "same" := by
    unfold WD at h
    simp only [List.mem_cons, List.not_mem_nil, or_false] at h
    rcases h with h | h | h | h | h | h | h | h | h | h
    · exact absurd h n1.2.2
    · exact .inl h
    · exact .inr (.inl h)
    · exact .inr (.inr (.inl h))
    · exact .inr (.inr (.inr (.inl h)))
    · exact .inr (.inr (.inr (.inr (.inl h))))
    · exact .inr (.inr (.inr (.inr (.inr (.inl h)))))
    · exact .inr (.inr (.inr (.inr (.inr (.inr h)))))
    · exact absurd h n1.1
    · exact absurd h n1.2.1
  rcases hm with rfl | rfl | rfl | rfl | rfl | rfl | rfl
  · simp only [show isW "and" "add" = false by decide +kernel, show isW "and" "sub" = false by decide +kernel, show isW "and" "less" = false by decide +kernel, show isW "and" "same" = false by decide +kernel, show isW "and" "and" = true by decide +kernel, if_true, if_false, Bool.false_eq_true]
    rw [madeI_val, val_min _ _ ll bitsI_01 bitsI_01, va, vb]
  · simp only [show isW "or" "add" = false by decide +kernel, show isW "or" "sub" = false by decide +kernel, show isW "or" "less" = false by decide +kernel, show isW "or" "same" = false by decide +kernel, show isW "or" "and" = false by decide +kernel, show isW "or" "or" = true by decide +kernel, if_true, if_false, Bool.false_eq_true]
    rw [madeI_val, val_max _ _ ll bitsI_01 bitsI_01, val_min _ _ ll bitsI_01 bitsI_01, va, vb, PyProof.Rows.bitOr_and]
  · simp only [show isW "xor" "add" = false by decide +kernel, show isW "xor" "sub" = false by decide +kernel, show isW "xor" "less" = false by decide +kernel, show isW "xor" "same" = false by decide +kernel, show isW "xor" "and" = false by decide +kernel, show isW "xor" "or" = false by decide +kernel, show isW "xor" "xor" = true by decide +kernel, if_true, if_false, Bool.false_eq_true]
    rw [madeI_val, val_ne _ _ ll bitsI_01 bitsI_01, val_min _ _ ll bitsI_01 bitsI_01, va, vb, PyProof.Rows.bitXor_and]
  · simp only [show isW "add" "and" = false by decide +kernel, show isW "add" "or" = false by decide +kernel, show isW "add" "xor" = false by decide +kernel, show isW "add" "add" = true by decide +kernel, if_true, if_false, Bool.false_eq_true]
    unfold carriedI
    rw [madeI_val, val_car _ _ _ ll bitsI_01 bitsI_01 (by decide) (by decide), va, vb, bitsI_len, Int.add_zero]
  · simp only [show isW "sub" "and" = false by decide +kernel, show isW "sub" "or" = false by decide +kernel, show isW "sub" "xor" = false by decide +kernel, show isW "sub" "add" = false by decide +kernel, show isW "sub" "sub" = true by decide +kernel, if_true, if_false, Bool.false_eq_true]
    unfold carriedI
    rw [madeI_val, madeI_val, val_not, vb, bitsI_len, val_car _ _ _ (by rw [bitsI_len, bitsI_len]) bitsI_01 bitsI_01 (by decide) (by decide), va, bitsI_len, valB_bitsI _ _ (by omega) (by omega)]
    rw [show a + (2 ^ z.toNat - 1 - b) + 1 = (a - b) + 2 ^ z.toNat by omega, Int.add_emod_right]
  · simp only [show isW "less" "and" = false by decide +kernel, show isW "less" "or" = false by decide +kernel, show isW "less" "xor" = false by decide +kernel, show isW "less" "add" = false by decide +kernel, show isW "less" "sub" = false by decide +kernel, show isW "less" "less" = true by decide +kernel, if_true, if_false, Bool.false_eq_true]
    rw [ltI_rev _ _ ll bitsI_01 bitsI_01, va, vb]
  · simp only [show isW "same" "and" = false by decide +kernel, show isW "same" "or" = false by decide +kernel, show isW "same" "xor" = false by decide +kernel, show isW "same" "add" = false by decide +kernel, show isW "same" "sub" = false by decide +kernel, show isW "same" "less" = false by decide +kernel, show isW "same" "same" = true by decide +kernel, if_true, if_false, Bool.false_eq_true]
    have e : PyData.eqv (.list ((bitsI z.toNat a).map PyData.int)) (.list ((bitsI z.toNat b).map PyData.int)) = decide (V.int a = V.int b) := by
      simp only [PyData.eqv, eqv_ints]
      exact decide_eq_decide.mpr ⟨fun e => congrArg V.int (bits_inj a0 at_ b0 bt_ e), fun e => by rw [V.int.inj e]⟩
    rw [e]
end P3
end Bf

namespace Bf
open PySem PySem.Spec PyProof.Rows L2
/-- of two keywords' values, the second parameter's first -/
def turn2 {α : Type} : List α → List α
  | [a, b] => [b, a]
  | l => l
theorem turn2_rel {zs : List V} {ws : List Value} (r : Vals zs ws) : Vals (turn2 zs) (turn2 ws) := by
  cases r with
  | nil => exact .nil
  | cons a r =>
    cases r with
    | nil => exact .cons a .nil
    | cons b r =>
      cases r with
      | nil => exact .cons b (.cons a .nil)
      | cons c r => exact .cons a (.cons b (.cons c r))
namespace P3
abbrev pReck : List Str := ["word", "width", "worths", "to", "at"]
structure Rck (K : PySem.W.Frag) (mg : Str → Option Value) (f : Addr) (fd : FuncData) : Prop where
  at_ : mg "reckoned" = some (.ref f)
  kp : PySem.W.keepIn K (.ref f) = true
  b0 : ∃ ds, Vals [.int 1, .int 0] ds ∧ Binds K fd pReck ds
  kT : ∃ g, KBn K fd pReck 3 ["to"] g fun vs zs => vs ++ zs ++ [.int 0]
  kA : ∃ g, KBn K fd pReck 3 ["at"] g fun vs zs => vs ++ [.int 1] ++ zs
  kB : ∃ g, KBn K fd pReck 3 ["at", "to"] g fun vs zs => vs ++ turn2 zs
theorem rck_of {K : PySem.W.Frag} {mg : Str → Option Value} {f : Addr} {fd : FuncData} (F : FunD K "reckoned" "reckoned" (defArgs sReck) (defBody sReck) (defScope sReck) [] [("to", .int 1), ("at", .int 0)] f fd) (hm : mg "reckoned" = some (.ref f)) : Rck K mg f fd := by
  refine ⟨hm, F.kp, ?_, ?_, ?_, ?_⟩
  · exact F.binds0 (ps := pReck) 3 (fun z => nomatch z) rfl fun D doc pm an cdv ct us ks l1 l2 => match us, ks, l1, l2 with
      | [_, _, _], [_, _], _, _ => ⟨_, _, _, _, _, _, rfl, rfl, _, _, _, _, _, _, rfl, rfl, rfl⟩
  · obtain ⟨mv, h⟩ := F.kbinds0 (ps := pReck) 3 ["to"] [("at", .int 0)] (fun us mv ws => us ++ ws ++ mv) (fun z => nomatch z) (fun q m => List.mem_cons_of_mem _ m) (fun r1 r2 r3 => (r1.append r3).append r2) fun D doc pm an cdv ct us mv ws l1 l2 l3 => match us, mv, ws, l1, l2, l3 with
      | [_, _, _], [_], [_], _, _, _ => ⟨_, _, _, _, _, _, rfl, rfl, rfl⟩
    exact ⟨_, h⟩
  · obtain ⟨mv, h⟩ := F.kbinds0 (ps := pReck) 3 ["at"] [("to", .int 1)] (fun us mv ws => us ++ mv ++ ws) (fun z => nomatch z) (fun q m => by rw [List.mem_singleton.mp m]; exact List.mem_cons_self) (fun r1 r2 r3 => (r1.append r2).append r3) fun D doc pm an cdv ct us mv ws l1 l2 l3 => match us, mv, ws, l1, l2, l3 with
      | [_, _, _], [_], [_], _, _, _ => ⟨_, _, _, _, _, _, rfl, rfl, rfl⟩
    exact ⟨_, h⟩
  · obtain ⟨mv, h⟩ := F.kbinds0 (ps := pReck) 3 ["at", "to"] [] (fun us _ ws => us ++ turn2 ws) (fun z => nomatch z) (fun q m => by cases m) (fun r1 r2 r3 => r1.append (turn2_rel r3)) fun D doc pm an cdv ct us mv ws l1 l2 l3 => match us, mv, ws, l1, l2, l3 with
      | [_, _, _], [], [_, _], _, _, _ => rfl
    exact ⟨_, h⟩
end P3
end Bf

namespace Bf
open PySem PySem.Spec PyProof.Rows L2
def rLen (K : PySem.W.Frag) : List V → Hp → VK → Prop := fun xs H Q => ∃ p ys, xs = [.ref p] ∧ (SqL K H p ys ∨ SqT K H p ys) ∧ Q (.int ys.length) H
/-- len of a list or a tuple, K by its name -/
theorem lenK {X : Cx} {K : PySem.W.Frag} (h : X.K = K) : CallR X (.builtin "len") (rLen K) := by
  subst h
  exact call_len_seq
theorem ixT {X : Cx} {K : PySem.W.Frag} (h : X.K = K) : IxR X (rIxT K) := by
  subst h
  exact ix_tup
namespace P3
/-- what the law's call tells of what comes -/
inductive Ans (cP cW cS cN : Addr) : (Addr × V) ⊕ Int → Str → V → Prop
  | op (v : V) : Ans cP cW cS cN (.inl (cP, v)) "op" v
  | wd (v : V) : Ans cP cW cS cN (.inl (cW, v)) "width" v
  | ws (v : V) : Ans cP cW cS cN (.inl (cS, v)) "worths" v
  | nm (v : V) : Ans cP cW cS cN (.inl (cN, v)) "number" v
  | told (i : Int) : Ans cP cW cS cN (.inr i) "told" (.int i)
/-- what is handed on of the tuple more: to, at -/
inductive Mo : V → List V → V → V → Prop
  | two (u t p : V) : Mo u [t, p] t p
  | wide (t : V) : Mo (.str "wide") [t] t (.int 0)
  | other (c : Str) (p : V) (h : c ≠ "wide") : Mo (.str c) [p] (.int 1) p
  | none (u : V) : Mo u [] (.int 1) (.int 0)
def spAsked (K : PySem.W.Frag) (cP cW cS cN : Addr) : Sp := fun vs H Q _ => ∃ (u x y t p z : V) (m : Addr) (ms : List V) (r : (Addr × V) ⊕ Int) (kind : Str), vs = [u, x, y, .ref m] ∧ SqT K H m ms ∧ Mo u ms t p ∧ Rk K H cP cW cS cN u x y t p r ∧ Ans cP cW cS cN r kind z ∧
  ∀ p H', Same H H' → H p = none → p ≠ sysModules → H' p = some (.lst [.str kind, z]) → Q (.ref p) H'
/-- which clause takes which refusal -/
structure Exm (K : PySem.W.Frag) (cP cW cS cN : Addr) : Prop where
  pp : PySem.W.exmOne K (.ref cP) (.ref cP) = some true
  wp : PySem.W.exmOne K (.ref cW) (.ref cP) = some false
  ww : PySem.W.exmOne K (.ref cW) (.ref cW) = some true
  sp : PySem.W.exmOne K (.ref cS) (.ref cP) = some false
  sw : PySem.W.exmOne K (.ref cS) (.ref cW) = some false
  ss : PySem.W.exmOne K (.ref cS) (.ref cS) = some true
  np : PySem.W.exmOne K (.ref cN) (.ref cP) = some false
  nw : PySem.W.exmOne K (.ref cN) (.ref cW) = some false
  ns : PySem.W.exmOne K (.ref cN) (.ref cS) = some false
  nn : PySem.W.exmOne K (.ref cN) (.ref cN) = some true
section
variable {P : Program} {w : World} {K : PySem.W.Frag} {mg : Str → Option Value} {base : Heap}
abbrev pAsked : List Str := ["_law_word", "_law_width", "_law_worths", "_law_more"]
theorem scAsked : FnScope ["_law_word", "_law_width", "_law_worths", "_law_more", "_law_one", "e"] pAsked (defScope sAsked) := ⟨rfl, rfl, rfl, by decide +kernel, rfl, by decide +kernel, by decide +kernel⟩
set_option maxHeartbeats 1000000 in
theorem ok_asked {f cP fP cW fW cS fS cN fN fr : Addr} {fd fdP fdW fdS fdN fdr : FuncData} (F : Fun K "_law_asked" "_law_asked" sAsked f fd)
    (TP : ExT K mg "NoOp" cP fP fdP) (TW : ExT K mg "NoWidth" cW fW fdW) (TS : ExT K mg "NoWorths" cS fS fdS) (TN : ExT K mg "NoNumber" cN fN fdN) (X : Exm K cP cW cS cN) (R : Rck K mg fr fdr)
    (GR : FnOk P w K mg base (CXL P w) 5 fr fdr pReck (spReck K cP cW cS cN)) (ml : mg "len" = none) : FnOk P w K mg base CX0 6 f fd pAsked (spAsked K cP cW cS cN) := by
  obtain ⟨ds, vds, b0⟩ := R.b0
  obtain ⟨gT, kT⟩ := R.kT
  obtain ⟨gA, kA⟩ := R.kA
  obtain ⟨gB, kB⟩ := R.kB
  refine F.ok scAsked (fun vs H Q E h => ?_) (fun cdv A outer s H vs Q E hr h => ?_)
  · obtain ⟨u, x, y, t, p, z, m, ms, r, kind, rfl, _⟩ := h
    rfl
  · obtain ⟨u, x, y, t, p, z, m, ms, r, kind, rfl, hM, mo, rk, ans, q⟩ := h
    refine ⟨_, pss_one (ps_arms rfl rfl scAsked.nd
      (fun W pn xe tk _ => pss_cons (ps_if (pt_cmpR op_eq (pe_callB (lenK (K := K) rfl) (by rfl) ml PySem.boot_len (pa_cons (pv 3) pa_nil)) pe_int (nomark _))
          (pss_one (ps_ret (pe_lstN (pa_cons pe_str (pa_cons (pe_callNS GR hr (by rfl) R.at_ R.kp kB (fun σ => L2.passAt tk σ) (pa_cons (pv 0) (pa_cons (pv 1) (pa_cons (pv 2) pa_nil))) (pk_cons (pe_ix (ixT (K := K) rfl) (pv 3) pe_int (fun _ _ => rfl)) (pk_cons (pe_ix (ixT (K := K) rfl) (pv 3) pe_int (fun _ _ => rfl)) pk_nil))) pa_nil))))) pss_nil)
        (pss_cons (ps_if (pt_cmpR op_eq (pe_callB (lenK (K := K) rfl) (by rfl) ml PySem.boot_len (pa_cons (pv 3) pa_nil)) pe_int (nomark _))
          (pss_cons (ps_set (i := 4) scAsked.nd rfl (Or.inl rfl) (pe_ifExp (pt_cmpR op_eq (pv 0) pe_str (nomark _)) (pe_callNS GR hr (by rfl) R.at_ R.kp kT (fun σ => L2.passAt tk σ) (pa_cons (pv 0) (pa_cons (pv 1) (pa_cons (pv 2) pa_nil))) (pk_cons (pe_ix (ixT (K := K) rfl) (pv 3) pe_int (fun _ _ => rfl)) pk_nil)) pe_non))
          (pss_one (ps_ret (pe_lstN (pa_cons pe_str (pa_cons (pe_ifExp (pt_cmpR op_ne (pv 0) pe_str (nomark _)) (pe_callNS GR hr (by rfl) R.at_ R.kp kA (fun σ => L2.passAt tk σ) (pa_cons (pv 0) (pa_cons (pv 1) (pa_cons (pv 2) pa_nil))) (pk_cons (pe_ix (ixT (K := K) rfl) (pv 3) pe_int (fun _ _ => rfl)) pk_nil)) (pv 4)) pa_nil)))))) pss_nil)
        (pss_one (ps_ret (pe_lstN (pa_cons pe_str (pa_cons (pe_callSD GR hr (by rfl) R.at_ R.kp b0 vds (fun σ => L2.passAt tk σ) (pa_cons (pv 0) (pa_cons (pv 1) (pa_cons (pv 2) pa_nil)))) pa_nil)))))))
      (Arms.cons (c := .ref cP) (i := 5) ⟨by rfl, by decide, .inl TP.gC⟩ rfl rfl (fun a oe cls d pn hz hf => pss_one (ps_ret (pe_lstN (pa_cons pe_str (pa_cons (pe_xf TP.xf TP.nf hz hf (pv 5)) pa_nil)))))
      (Arms.cons (c := .ref cW) (i := 5) ⟨by rfl, by decide, .inl TW.gC⟩ rfl rfl (fun a oe cls d pn hz hf => pss_one (ps_ret (pe_lstN (pa_cons pe_str (pa_cons (pe_xf TW.xf TW.nf hz hf (pv 5)) pa_nil)))))
      (Arms.cons (c := .ref cS) (i := 5) ⟨by rfl, by decide, .inl TS.gC⟩ rfl rfl (fun a oe cls d pn hz hf => pss_one (ps_ret (pe_lstN (pa_cons pe_str (pa_cons (pe_xf TS.xf TS.nf hz hf (pv 5)) pa_nil)))))
      (Arms.cons (c := .ref cN) (i := 5) ⟨by rfl, by decide, .inl TN.gC⟩ rfl rfl (fun a oe cls d pn hz hf => pss_one (ps_ret (pe_lstN (pa_cons pe_str (pa_cons (pe_xf TN.xf TN.nf hz hf (pv 5)) pa_nil))))) Arms.nil))))), ?_⟩
    cases mo with
    | two u t p =>
      refine ⟨_, rfl, m, _, rfl, .inr hM, rfl, _, rfl, iteB (by rfl) ?_⟩
      refine ⟨_, rfl, _, rfl, _, rfl, _, rfl, m, _, 1, _, rfl, rfl, hM, rfl, _, rfl, m, _, 0, _, rfl, rfl, hM, rfl, rfl, rfl, u, x, y, t, p, r, rfl, ?_⟩
      cases ans with
      | op v => exact ⟨rk, (fun C v e => by cases e; exact fun d H' s' hd hx => ⟨true, X.pp, fun _ a ha => ⟨_, rfl, rfl, rfl, d, _, _, rfl, hx, rfl, by show 2 ≤ 1000; decide, fun p hp np => q p _ (same_trans_new s' hp) (s'.free hp) np upd_same⟩, fun z => nomatch z⟩), fun i e => nomatch e⟩
      | wd v => exact ⟨rk, (fun C v e => by cases e; exact fun d H' s' hd hx => ⟨false, X.wp, (fun z => nomatch z), fun _ => ⟨true, X.ww, fun _ a ha => ⟨_, rfl, rfl, rfl, d, _, _, rfl, hx, rfl, by show 2 ≤ 1000; decide, fun p hp np => q p _ (same_trans_new s' hp) (s'.free hp) np upd_same⟩, fun z => nomatch z⟩⟩), fun i e => nomatch e⟩
      | ws v => exact ⟨rk, (fun C v e => by cases e; exact fun d H' s' hd hx => ⟨false, X.sp, (fun z => nomatch z), fun _ => ⟨false, X.sw, (fun z => nomatch z), fun _ => ⟨true, X.ss, fun _ a ha => ⟨_, rfl, rfl, rfl, d, _, _, rfl, hx, rfl, by show 2 ≤ 1000; decide, fun p hp np => q p _ (same_trans_new s' hp) (s'.free hp) np upd_same⟩, fun z => nomatch z⟩⟩⟩), fun i e => nomatch e⟩
      | nm v => exact ⟨rk, (fun C v e => by cases e; exact fun d H' s' hd hx => ⟨false, X.np, (fun z => nomatch z), fun _ => ⟨false, X.nw, (fun z => nomatch z), fun _ => ⟨false, X.ns, (fun z => nomatch z), fun _ => ⟨true, X.nn, fun _ a ha => ⟨_, rfl, rfl, rfl, d, _, _, rfl, hx, rfl, by show 2 ≤ 1000; decide, fun p hp np => q p _ (same_trans_new s' hp) (s'.free hp) np upd_same⟩, fun z => nomatch z⟩⟩⟩⟩), fun i e => nomatch e⟩
      | told i => exact ⟨rk, (fun C v e => nomatch e), fun i e H' s' => by cases e; exact ⟨by show 2 ≤ 1000; decide, fun p hp np => q p _ (same_trans_new s' hp) (s'.free hp) np upd_same⟩⟩
    | wide t =>
      refine ⟨_, rfl, m, _, rfl, .inr hM, rfl, _, rfl, iteN (by rfl) ?_⟩
      refine ⟨_, rfl, m, _, rfl, .inr hM, rfl, _, rfl, iteB (by rfl) ?_⟩
      refine ⟨_, rfl, rfl, _, rfl, iteB (by decide +kernel) ⟨_, rfl, _, rfl, _, rfl, _, rfl, m, _, 0, _, rfl, rfl, hM, rfl, rfl, rfl, _, x, y, t, _, r, rfl, ?_⟩⟩
      cases ans with
      | op v => exact ⟨rk, (fun C v e => by cases e; exact fun d H' s' hd hx => ⟨true, X.pp, fun _ a ha => ⟨_, rfl, rfl, rfl, d, _, _, rfl, hx, rfl, by show 2 ≤ 1000; decide, fun p hp np => q p _ (same_trans_new s' hp) (s'.free hp) np upd_same⟩, fun z => nomatch z⟩), fun i e => nomatch e⟩
      | wd v => exact ⟨rk, (fun C v e => by cases e; exact fun d H' s' hd hx => ⟨false, X.wp, (fun z => nomatch z), fun _ => ⟨true, X.ww, fun _ a ha => ⟨_, rfl, rfl, rfl, d, _, _, rfl, hx, rfl, by show 2 ≤ 1000; decide, fun p hp np => q p _ (same_trans_new s' hp) (s'.free hp) np upd_same⟩, fun z => nomatch z⟩⟩), fun i e => nomatch e⟩
      | ws v => exact ⟨rk, (fun C v e => by cases e; exact fun d H' s' hd hx => ⟨false, X.sp, (fun z => nomatch z), fun _ => ⟨false, X.sw, (fun z => nomatch z), fun _ => ⟨true, X.ss, fun _ a ha => ⟨_, rfl, rfl, rfl, d, _, _, rfl, hx, rfl, by show 2 ≤ 1000; decide, fun p hp np => q p _ (same_trans_new s' hp) (s'.free hp) np upd_same⟩, fun z => nomatch z⟩⟩⟩), fun i e => nomatch e⟩
      | nm v => exact ⟨rk, (fun C v e => by cases e; exact fun d H' s' hd hx => ⟨false, X.np, (fun z => nomatch z), fun _ => ⟨false, X.nw, (fun z => nomatch z), fun _ => ⟨false, X.ns, (fun z => nomatch z), fun _ => ⟨true, X.nn, fun _ a ha => ⟨_, rfl, rfl, rfl, d, _, _, rfl, hx, rfl, by show 2 ≤ 1000; decide, fun p hp np => q p _ (same_trans_new s' hp) (s'.free hp) np upd_same⟩, fun z => nomatch z⟩⟩⟩⟩), fun i e => nomatch e⟩
      | told i => exact ⟨rk, (fun C v e => nomatch e), fun i e H' s' => by cases e; exact ⟨_, rfl, rfl, _, rfl, iteN (by decide +kernel) ⟨_, rfl, by show 2 ≤ 1000; decide, fun p hp np => q p _ (same_trans_new s' hp) (s'.free hp) np upd_same⟩⟩⟩
    | other c p hc =>
      refine ⟨_, rfl, m, _, rfl, .inr hM, rfl, _, rfl, iteN (by rfl) ?_⟩
      refine ⟨_, rfl, m, _, rfl, .inr hM, rfl, _, rfl, iteB (by rfl) ?_⟩
      refine ⟨_, rfl, rfl, _, rfl, iteN (isW_no hc) ?_⟩
      refine ⟨_, rfl, rfl, _, rfl, iteB (show (!isW c "wide") = true by rw [isW_no hc]; rfl) ⟨_, rfl, _, rfl, _, rfl, _, rfl, m, _, 0, _, rfl, rfl, hM, rfl, rfl, rfl, _, x, y, _, p, r, rfl, ?_⟩⟩
      cases ans with
      | op v => exact ⟨rk, (fun C v e => by cases e; exact fun d H' s' hd hx => ⟨true, X.pp, fun _ a ha => ⟨_, rfl, rfl, rfl, d, _, _, rfl, hx, rfl, by show 2 ≤ 1000; decide, fun p hp np => q p _ (same_trans_new s' hp) (s'.free hp) np upd_same⟩, fun z => nomatch z⟩), fun i e => nomatch e⟩
      | wd v => exact ⟨rk, (fun C v e => by cases e; exact fun d H' s' hd hx => ⟨false, X.wp, (fun z => nomatch z), fun _ => ⟨true, X.ww, fun _ a ha => ⟨_, rfl, rfl, rfl, d, _, _, rfl, hx, rfl, by show 2 ≤ 1000; decide, fun p hp np => q p _ (same_trans_new s' hp) (s'.free hp) np upd_same⟩, fun z => nomatch z⟩⟩), fun i e => nomatch e⟩
      | ws v => exact ⟨rk, (fun C v e => by cases e; exact fun d H' s' hd hx => ⟨false, X.sp, (fun z => nomatch z), fun _ => ⟨false, X.sw, (fun z => nomatch z), fun _ => ⟨true, X.ss, fun _ a ha => ⟨_, rfl, rfl, rfl, d, _, _, rfl, hx, rfl, by show 2 ≤ 1000; decide, fun p hp np => q p _ (same_trans_new s' hp) (s'.free hp) np upd_same⟩, fun z => nomatch z⟩⟩⟩), fun i e => nomatch e⟩
      | nm v => exact ⟨rk, (fun C v e => by cases e; exact fun d H' s' hd hx => ⟨false, X.np, (fun z => nomatch z), fun _ => ⟨false, X.nw, (fun z => nomatch z), fun _ => ⟨false, X.ns, (fun z => nomatch z), fun _ => ⟨true, X.nn, fun _ a ha => ⟨_, rfl, rfl, rfl, d, _, _, rfl, hx, rfl, by show 2 ≤ 1000; decide, fun p hp np => q p _ (same_trans_new s' hp) (s'.free hp) np upd_same⟩, fun z => nomatch z⟩⟩⟩⟩), fun i e => nomatch e⟩
      | told i => exact ⟨rk, (fun C v e => nomatch e), fun i e H' s' => by cases e; exact ⟨by show 2 ≤ 1000; decide, fun p hp np => q p _ (same_trans_new s' hp) (s'.free hp) np upd_same⟩⟩
    | none u =>
      refine ⟨_, rfl, m, _, rfl, .inr hM, rfl, _, rfl, iteN (by rfl) ?_⟩
      refine ⟨_, rfl, m, _, rfl, .inr hM, rfl, _, rfl, iteN (by rfl) ?_⟩
      refine ⟨_, rfl, _, rfl, _, rfl, u, x, y, _, _, r, rfl, ?_⟩
      cases ans with
      | op v => exact ⟨rk, (fun C v e => by cases e; exact fun d H' s' hd hx => ⟨true, X.pp, fun _ a ha => ⟨_, rfl, rfl, rfl, d, _, _, rfl, hx, rfl, by show 2 ≤ 1000; decide, fun p hp np => q p _ (same_trans_new s' hp) (s'.free hp) np upd_same⟩, fun z => nomatch z⟩), fun i e => nomatch e⟩
      | wd v => exact ⟨rk, (fun C v e => by cases e; exact fun d H' s' hd hx => ⟨false, X.wp, (fun z => nomatch z), fun _ => ⟨true, X.ww, fun _ a ha => ⟨_, rfl, rfl, rfl, d, _, _, rfl, hx, rfl, by show 2 ≤ 1000; decide, fun p hp np => q p _ (same_trans_new s' hp) (s'.free hp) np upd_same⟩, fun z => nomatch z⟩⟩), fun i e => nomatch e⟩
      | ws v => exact ⟨rk, (fun C v e => by cases e; exact fun d H' s' hd hx => ⟨false, X.sp, (fun z => nomatch z), fun _ => ⟨false, X.sw, (fun z => nomatch z), fun _ => ⟨true, X.ss, fun _ a ha => ⟨_, rfl, rfl, rfl, d, _, _, rfl, hx, rfl, by show 2 ≤ 1000; decide, fun p hp np => q p _ (same_trans_new s' hp) (s'.free hp) np upd_same⟩, fun z => nomatch z⟩⟩⟩), fun i e => nomatch e⟩
      | nm v => exact ⟨rk, (fun C v e => by cases e; exact fun d H' s' hd hx => ⟨false, X.np, (fun z => nomatch z), fun _ => ⟨false, X.nw, (fun z => nomatch z), fun _ => ⟨false, X.ns, (fun z => nomatch z), fun _ => ⟨true, X.nn, fun _ a ha => ⟨_, rfl, rfl, rfl, d, _, _, rfl, hx, rfl, by show 2 ≤ 1000; decide, fun p hp np => q p _ (same_trans_new s' hp) (s'.free hp) np upd_same⟩, fun z => nomatch z⟩⟩⟩⟩), fun i e => nomatch e⟩
      | told i => exact ⟨rk, (fun C v e => nomatch e), fun i e H' s' => by cases e; exact ⟨by show 2 ≤ 1000; decide, fun p hp np => q p _ (same_trans_new s' hp) (s'.free hp) np upd_same⟩⟩
end
end P3
end Bf

namespace Bf
open PySem PySem.Spec PyProof.Rows L2

/-! ### data that repr can show -/
structure OkD (n k : Nat) (d : PyData) : Prop where
  sw : d.showable = true
  dp : d.depth ≤ k
  ls : d.leavesShort 40 = true
  wt : d.weight ≤ n
theorem OkD.mono {n m k j : Nat} {d : PyData} (h : OkD n k d) (a : n ≤ m) (b : k ≤ j) : OkD m j d := ⟨h.sw, Nat.le_trans h.dp b, h.ls, Nat.le_trans h.wt a⟩
theorem OkD.shown {n k : Nat} {d : PyData} (h : OkD n k d) (hn : n ≤ 300000) : d.shown.length ≤ sizeLine := by
  have z := PyData.shown_le 40 (by decide) d h.ls
  have w := h.wt
  rw [sizeLine_eq]
  have : (40 + 2) * d.weight ≤ 42 * 300000 := Nat.mul_le_mul_left _ (Nat.le_trans w hn)
  omega
theorem okd_all {n k : Nat} : ∀ {ds : List PyData}, (∀ d ∈ ds, OkD n k d) → PyData.showableAll ds = true ∧ PyData.depthAll ds ≤ k ∧ PyData.leavesShortAll 40 ds = true ∧ PyData.weightAll ds ≤ (n + 1) * ds.length
  | [], _ => ⟨by simp only [PyData.showableAll], by simp only [PyData.depthAll]; omega, by simp only [PyData.leavesShortAll], by simp only [PyData.weightAll]; omega⟩
  | d :: ds, h => by
    obtain ⟨a1, a2, a3, a4⟩ := h d List.mem_cons_self
    obtain ⟨b1, b2, b3, b4⟩ := okd_all (ds := ds) fun x m => h x (List.mem_cons_of_mem _ m)
    simp only [PyData.showableAll, PyData.depthAll, PyData.leavesShortAll, PyData.weightAll, List.length_cons, a1, b1, a3, b3, Bool.and_self, Nat.mul_add, Nat.mul_one]
    refine ⟨trivial, Nat.max_le.mpr ⟨a2, b2⟩, trivial, ?_⟩
    omega
theorem okd_list {n k m : Nat} {ds : List PyData} (h : ∀ d ∈ ds, OkD n k d) (l : ds.length ≤ m) : OkD ((n + 1) * m) (k + 1) (.list ds) := by
  obtain ⟨a, b, c, e⟩ := okd_all h
  exact ⟨by simp only [PyData.showable]; exact a, by simp only [PyData.depth]; omega, by simp only [PyData.leavesShort]; exact c, by simp only [PyData.weight]; exact Nat.le_trans e (Nat.mul_le_mul_left _ l)⟩
theorem okd_tuple {n k m : Nat} {ds : List PyData} (h : ∀ d ∈ ds, OkD n k d) (l : ds.length ≤ m) : OkD ((n + 1) * m) (k + 1) (.tuple ds) := by
  obtain ⟨a, b, c, e⟩ := okd_all h
  exact ⟨by simp only [PyData.showable]; exact a, by simp only [PyData.depth]; omega, by simp only [PyData.leavesShort]; exact c, by simp only [PyData.weight]; exact Nat.le_trans e (Nat.mul_le_mul_left _ l)⟩
theorem okd_int {i : Int} (h : i.natAbs < 10 ^ 12) : OkD 60 0 (.int i) := by
  have l : i.natAbs.log2 ≤ 40 := by
    rcases Nat.eq_zero_or_pos i.natAbs with z | z
    · rw [z]; decide
    · exact Nat.le_of_lt_succ ((Nat.log2_lt (by omega)).mpr (Nat.lt_trans h (by decide)))
  refine ⟨by simp only [PyData.showable]; exact decide_eq_true (by omega), by simp only [PyData.depth]; omega, ?_, ?_⟩
  · simp only [PyData.leavesShort]
    exact decide_eq_true (Nat.le_trans (PyData.shown_int_le h) (by decide))
  · simp only [PyData.weight]
    split <;> omega
theorem okd_none : OkD 0 0 .none := ⟨by simp only [PyData.showable], by simp only [PyData.depth]; omega, by simp only [PyData.leavesShort], by simp only [PyData.weight]; omega⟩
theorem okd_bool (b : Bool) : OkD 0 0 (.bool b) := ⟨by simp only [PyData.showable], by simp only [PyData.depth]; omega, by simp only [PyData.leavesShort], by simp only [PyData.weight]; omega⟩
theorem okd_str {x : Str} (h : (x.cps.toList.all fun c => decide (c < 16 ^ 8)) = true) (n : x.cps.size ≤ 60) : OkD 60 0 (.str x) := ⟨by simp only [PyData.showable], by simp only [PyData.depth]; omega, by simp only [PyData.leavesShort]; exact h, by simp only [PyData.weight]; exact n⟩
theorem okd_emp : OkD 0 1 (.dict []) := by
  refine ⟨?_, ?_, ?_, ?_⟩
  · simp only [PyData.showable, PyData.showableKv]
  · simp only [PyData.depth, PyData.depthKv]; omega
  · simp only [PyData.leavesShort, PyData.leavesShortKv]
  · simp only [PyData.weight, PyData.weightKv]; omega

/-- the built-in type of data -/
def tyD : PyData → String
  | .none => "NoneType"
  | .bool _ => "bool"
  | .int _ => "int"
  | .str _ => "str"
  | .list _ => "list"
  | .tuple _ => "tuple"
  | .dict _ => "dict"
theorem Sh.kn {K : PySem.W.Frag} {H : Hp} {P : Addr → Prop} {b : Bool} {x : V} {d : PyData} (h : Sh H P b x d) : Kn K H x (tyD d) := by
  cases h with
  | non => exact .non
  | bl c => exact .bl c
  | int i => exact .int i
  | str z => exact .str z
  | lst h p _ r => exact .lst (.base (.lst h))
  | tup h p r => exact .tup (.base (.tup h))
  | emp _ h p => exact .dic (.base (.dK h))
theorem ShAll.kn {K : PySem.W.Frag} {H : Hp} {P : Addr → Prop} {b : Bool} : ∀ {xs : List V} {ds : List PyData}, ShAll H P b xs ds → ∀ y ∈ xs, ∃ m, Kn K H y m
  | _, _, .nil, _, m => nomatch m
  | _, _, .cons h r, y, m => (List.mem_cons.mp m).elim (fun e => ⟨_, e ▸ h.kn⟩) (ShAll.kn r y)
mutual
/-- carried on: P may be sharpened by what is tracked -/
theorem Sh.on {H H' : Hp} {P P' : Addr → Prop} {b : Bool} (hp : ∀ a o, P a → H a = some o → P' a) (k : ∀ a o, P a → H a = some o → H' a = some o) : ∀ (d : PyData) (v : V), Sh H P b v d → Sh H' P' b v d
  | .none, _, h => by cases h; exact .non
  | .bool _, _, h => by cases h; exact .bl _
  | .int _, _, h => by cases h; exact .int _
  | .str _, _, h => by cases h; exact .str _
  | .list ds, _, h => by
    cases h with
    | lst h p q r => exact .lst (k _ _ p h) (hp _ _ p h) q (ShAll.on hp k ds _ r)
  | .tuple ds, _, h => by
    cases h with
    | tup h p r => exact .tup (k _ _ p h) (hp _ _ p h) (ShAll.on hp k ds _ r)
  | .dict _, _, h => by
    cases h with
    | emp q h p => exact .emp q (k _ _ p h) (hp _ _ p h)
theorem ShAll.on {H H' : Hp} {P P' : Addr → Prop} {b : Bool} (hp : ∀ a o, P a → H a = some o → P' a) (k : ∀ a o, P a → H a = some o → H' a = some o) : ∀ (ds : List PyData) (vs : List V), ShAll H P b vs ds → ShAll H' P' b vs ds
  | [], _, h => by cases h; exact .nil
  | d :: ds, _, h => by
    cases h with
    | cons h r => exact .cons (Sh.on hp k d _ h) (ShAll.on hp k ds _ r)
end
theorem ShAll.snoc {H : Hp} {P : Addr → Prop} {b : Bool} {v : V} {d : PyData} : ∀ {vs : List V} {ds : List PyData}, ShAll H P b vs ds → Sh H P b v d → ShAll H P b (vs ++ [v]) (ds ++ [d])
  | _, _, .nil, h => .cons h .nil
  | _, _, .cons h r, h2 => .cons h (ShAll.snoc r h2)
theorem ShAll.len {H : Hp} {P : Addr → Prop} {b : Bool} : ∀ {vs : List V} {ds : List PyData}, ShAll H P b vs ds → vs.length = ds.length
  | _, _, .nil => rfl
  | _, _, .cons _ r => congrArg (· + 1) (ShAll.len r)
theorem ShAll.ints {H : Hp} {P : Addr → Prop} {b : Bool} : ∀ (ns : List Int), ShAll H P b (ns.map V.int) (ns.map PyData.int)
  | [] => .nil
  | n :: r => .cons (.int n) (ShAll.ints r)
theorem ShAll.put {H : Hp} {P : Addr → Prop} {b : Bool} {v : V} {d : PyData} (h2 : Sh H P b v d) : ∀ {vs : List V} {ds : List PyData} (i : Nat), ShAll H P b vs ds → ShAll H P b (vs.set i v) (ds.set i d)
  | _, _, _, .nil => .nil
  | _, _, 0, .cons _ r => .cons h2 r
  | _, _, i + 1, .cons h r => .cons h (ShAll.put h2 i r)
/-- all but at p is as it was -/
abbrev Kp (P : Addr → Prop) (H H' : Hp) : Prop := ∀ a o, P a → H a = some o → H' a = some o
def LstOk (H : Hp) (P : Addr → Prop) (b : Bool) (z : V) (d : PyData) : Prop := tyD d ≠ "list" ∨
  ∃ (a : Addr) (ys : List V) (ds : List PyData), z = .ref a ∧ d = .list ds ∧ H a = some (.lst ys) ∧ P a ∧ ys.length ≤ 100 ∧ ShAll H (fun q => P q ∧ q ≠ a) b ys ds ∧ ∀ e ∈ ds, OkD 200 3 e
theorem LstOk.on {H H' : Hp} {P P' : Addr → Prop} {b : Bool} {z : V} {d : PyData} (hp : ∀ a o, P a → H a = some o → P' a) (k : Kp P H H') (h : LstOk H P b z d) : LstOk H' P' b z d := by
  rcases h with h | ⟨a, ys, ds, e1, e2, e3, pa, l, s, o⟩
  · exact .inl h
  · exact .inr ⟨a, ys, ds, e1, e2, k _ _ pa e3, hp _ _ pa e3, l, ShAll.on (fun c o q h => ⟨hp c o q.1 h, q.2⟩) (fun c o q h => k c o q.1 h) ds ys s, o⟩
/-- a thing that a law has made -/
structure Thing (H : Hp) (P : Addr → Prop) (b : Bool) (v : V) (d : PyData) : Prop where
  sh : Sh H P b v d
  ok : OkD 10000 5 d
  ls : LstOk H P b v d
theorem Thing.on {H H' : Hp} {P P' : Addr → Prop} {b : Bool} {v : V} {d : PyData} (hp : ∀ a o, P a → H a = some o → P' a) (k : Kp P H H') (h : Thing H P b v d) : Thing H' P' b v d := ⟨Sh.on hp k d v h.sh, h.ok, LstOk.on hp k h.ls⟩
theorem Thing.non {H : Hp} {P : Addr → Prop} {b : Bool} : Thing H P b .non .none := ⟨.non, okd_none.mono (by decide) (by decide), .inl (by simp [tyD])⟩
theorem Thing.bl {H : Hp} {P : Addr → Prop} {b : Bool} (c : Bool) : Thing H P b (.bl c) (.bool c) := ⟨.bl c, (okd_bool c).mono (by decide) (by decide), .inl (by simp [tyD])⟩
theorem Thing.int {H : Hp} {P : Addr → Prop} {b : Bool} {i : Int} (h : i.natAbs < 10 ^ 12) : Thing H P b (.int i) (.int i) := ⟨.int i, (okd_int h).mono (by decide) (by decide), .inl (by simp [tyD])⟩
theorem okd_big : OkD 100 0 (.int (10 ^ 29)) := ⟨by decide +kernel, by decide +kernel, by decide +kernel, by decide +kernel⟩
theorem Thing.big {H : Hp} {P : Addr → Prop} {b : Bool} : Thing H P b (.int (10 ^ 29)) (.int (10 ^ 29)) := ⟨.int _, okd_big.mono (by decide) (by decide), .inl (by simp [tyD])⟩
theorem Thing.str {H : Hp} {P : Addr → Prop} {b : Bool} {x : Str} (h : (x.cps.toList.all fun c => decide (c < 16 ^ 8)) = true) (n : x.cps.size ≤ 60) : Thing H P b (.str x) (.str x) := ⟨.str x, (okd_str h n).mono (by decide) (by decide), .inl (by simp [tyD])⟩
theorem Thing.emp {H : Hp} {P : Addr → Prop} {a : Addr} (h : H a = some (.dK [])) (p : P a) : Thing H P true (.ref a) (.dict []) := ⟨.emp rfl h p, okd_emp.mono (by decide) (by decide), .inl (by simp [tyD])⟩
theorem Thing.tup1 {H : Hp} {P : Addr → Prop} {b : Bool} {a : Addr} {i : Int} (h : H a = some (.tup [.int i])) (p : P a) (hi : i.natAbs < 10 ^ 12) : Thing H P b (.ref a) (.tuple [.int i]) :=
  ⟨.tup h p (.cons (.int i) .nil), (okd_tuple (n := 60) (k := 0) (m := 1) (fun d m => by rw [List.mem_singleton.mp m]; exact okd_int hi) (by simp)).mono (by decide) (by decide), .inl (by simp [tyD])⟩
theorem Thing.ints {H : Hp} {P : Addr → Prop} {b : Bool} {a : Addr} {is : List Int} (h : H a = some (.lst (is.map V.int))) (p : P a) (q : b = true → a ≠ sysModules) (hl : is.length ≤ 50) (hi : ∀ i ∈ is, i.natAbs < 10 ^ 12) :
    Thing H P b (.ref a) (.list (is.map PyData.int)) :=
  ⟨.lst h p q (ShAll.ints is), (okd_list (n := 60) (k := 0) (m := 50) (fun d m => by obtain ⟨i, mi, rfl⟩ := List.mem_map.mp m; exact okd_int (hi i mi)) (by rw [List.length_map]; exact hl)).mono (by decide) (by decide),
    .inr ⟨a, _, _, rfl, rfl, h, p, by rw [List.length_map]; omega, ShAll.ints is, fun d m => by obtain ⟨i, mi, rfl⟩ := List.mem_map.mp m; exact (okd_int (hi i mi)).mono (by decide) (by decide)⟩⟩


/-- flat and small -/
def okF : V → Bool
  | .non => true
  | .bl _ => true
  | .int i => decide (i.natAbs < 10 ^ 12)
  | .str z => (z.cps.toList.all fun c => decide (c < 16 ^ 8)) && decide (z.cps.size ≤ 60)
  | _ => false
def dOf : V → PyData
  | .bl b => .bool b
  | .int i => .int i
  | .str z => .str z
  | _ => .none
theorem sh_flat {H : Hp} {P : Addr → Prop} {b : Bool} {x : V} (h : okF x = true) : Sh H P b x (dOf x) := by
  cases x with
  | non => exact .non
  | bl c => exact .bl c
  | int i => exact .int i
  | str z => exact .str z
  | byt _ => cases h
  | flt _ => cases h
  | ref _ => cases h
  | ty _ => cases h
theorem shAll_flat {H : Hp} {P : Addr → Prop} {b : Bool} : ∀ xs : List V, (∀ x ∈ xs, okF x = true) → ShAll H P b xs (xs.map dOf)
  | [], _ => .nil
  | x :: r, h => .cons (sh_flat (h x List.mem_cons_self)) (shAll_flat r fun y m => h y (List.mem_cons_of_mem _ m))
theorem okd_flat {x : V} (h : okF x = true) : OkD 60 0 (dOf x) := by
  cases x with
  | non => exact okd_none.mono (by decide) (by decide)
  | bl c => exact (okd_bool c).mono (by decide) (by decide)
  | int i => exact okd_int (of_decide_eq_true h)
  | str z =>
    obtain ⟨a, b⟩ := Bool.and_eq_true_iff.mp h
    exact okd_str a (of_decide_eq_true b)
  | byt _ => cases h
  | flt _ => cases h
  | ref _ => cases h
  | ty _ => cases h
theorem Thing.flat {H : Hp} {P : Addr → Prop} {b : Bool} {x : V} (h : okF x = true) : Thing H P b x (dOf x) := by
  refine ⟨sh_flat h, (okd_flat h).mono (by decide) (by decide), .inl ?_⟩
  cases x with
  | non => simp [dOf, tyD]
  | bl _ => simp [dOf, tyD]
  | int _ => simp [dOf, tyD]
  | str _ => simp [dOf, tyD]
  | byt _ => cases h
  | flt _ => cases h
  | ref _ => cases h
  | ty _ => cases h
theorem okd_flats {xs : List V} (hf : ∀ x ∈ xs, okF x = true) : ∀ d ∈ xs.map dOf, OkD 60 0 d := fun d m => by
  obtain ⟨x, mx, rfl⟩ := List.mem_map.mp m
  exact okd_flat (hf x mx)
theorem Thing.fl {H : Hp} {P : Addr → Prop} {b : Bool} {a : Addr} {xs : List V} (h : H a = some (.lst xs)) (p : P a) (q : b = true → a ≠ sysModules) (hl : xs.length ≤ 50) (hf : ∀ x ∈ xs, okF x = true) : Thing H P b (.ref a) (.list (xs.map dOf)) :=
  ⟨.lst h p q (shAll_flat xs hf), (okd_list (n := 60) (k := 0) (m := 50) (okd_flats hf) (by rw [List.length_map]; exact hl)).mono (by decide) (by decide),
    .inr ⟨a, _, _, rfl, rfl, h, p, by omega, shAll_flat xs hf, fun d m => (okd_flats hf d m).mono (by decide) (by decide)⟩⟩
theorem Thing.tf {H : Hp} {P : Addr → Prop} {b : Bool} {a : Addr} {xs : List V} (h : H a = some (.tup xs)) (p : P a) (hl : xs.length ≤ 50) (hf : ∀ x ∈ xs, okF x = true) : Thing H P b (.ref a) (.tuple (xs.map dOf)) :=
  ⟨.tup h p (shAll_flat xs hf), (okd_tuple (n := 60) (k := 0) (m := 50) (okd_flats hf) (by rw [List.length_map]; exact hl)).mono (by decide) (by decide), .inl (by simp [tyD])⟩
theorem Thing.odd {H : Hp} {P : Addr → Prop} {b : Bool} {x : V} {d : PyData} (h : Thing H P b x d) : Odd H x := by
  cases h.sh with
  | non => exact .non
  | bl c => exact .bl c
  | int i => exact .int i
  | str z => exact .str z
  | lst e _ _ _ => exact .lst e
  | tup e _ _ => exact .tup e
  | emp _ e _ => exact .emp e
theorem new_ne {H : Hp} {a b : Addr} {o : HO} (h : upd H a o b = none) : b ≠ a ∧ H b = none := by
  have ne : b ≠ a := fun e => by
    rw [e, upd_same] at h
    cases h
  rw [upd_ne ne] at h
  exact ⟨ne, h⟩
theorem ne_free {H : Hp} {a b : Addr} {o : HO} (h : H a = some o) (n : H b = none) : b ≠ a := fun e => by
  rw [e, h] at n
  cases n
theorem kp_new {P : Addr → Prop} {H : Hp} {q : Addr} {o : HO} (h : H q = none) : Kp P H (upd H q o) := fun a u _ e => by
  rw [upd_ne (ne_of_none e h)]
  exact e
theorem kp_take {H H' : Hp} {p : Addr} (eq : ∀ b, b ≠ p → H' b = H b) : Kp (· ≠ p) H H' := fun a o n h => (eq a n).trans h
theorem pick {xs : List V} {d : Int} (d0 : 0 ≤ d) (d1 : d < (xs.length : Nat)) : ∃ v, v ∈ xs ∧ atI xs d = some v := by
  have lt : d.toNat < xs.length := by omega
  exact ⟨xs[d.toNat], List.getElem_mem lt, at_of (by omega) (List.getElem?_eq_getElem lt)⟩
theorem sh_not {H : Hp} {P : Addr → Prop} {b : Bool} {a : Addr} {d : PyData} (h : Sh H (fun q => P q ∧ q ≠ a) b (.ref a) d) : False := by
  cases h with
  | lst _ p _ _ => exact p.2 rfl
  | tup _ p _ => exact p.2 rfl
  | emp _ _ p => exact p.2 rfl
theorem kit_list : ∀ d : PyData, kitB (tyD d) "list" = some (tyD d == "list")
  | .none => by decide +kernel
  | .bool _ => by show kitB "bool" "list" = some ("bool" == "list"); decide +kernel
  | .int _ => by show kitB "int" "list" = some ("int" == "list"); decide +kernel
  | .str _ => by show kitB "str" "list" = some ("str" == "list"); decide +kernel
  | .list _ => by show kitB "list" "list" = some ("list" == "list"); decide +kernel
  | .tuple _ => by show kitB "tuple" "list" = some ("tuple" == "list"); decide +kernel
  | .dict _ => by show kitB "dict" "list" = some ("dict" == "list"); decide +kernel
theorem pair_sh {H : Hp} {P : Addr → Prop} {b : Bool} {a : Addr} {kind : Str} {z : V} {d : PyData} (h : H a = some (.lst [.str kind, z])) (p : P a) (q : b = true → a ≠ sysModules) (s : Sh H P b z d) : Sh H P b (.ref a) (.list [.str kind, d]) :=
  .lst h p q (.cons (.str kind) (.cons s .nil))
theorem pair_ok {kind : Str} {d : PyData} (h1 : OkD 60 0 (.str kind)) (h2 : OkD 10000 5 d) : OkD 20002 6 (.list [.str kind, d]) :=
  okd_list (n := 10000) (k := 5) (m := 2) (fun e m => by
    rcases List.mem_cons.mp m with rfl | m
    · exact h1.mono (by decide) (by decide)
    · rw [List.mem_singleton.mp m]; exact h2) (by simp)

namespace P3
/-- a row of the list that is gone through -/
structure RowAt (K : PySem.W.Frag) (cP cW cS cN : Addr) (H : Hp) (P : Addr → Prop) (b : Bool) (t due m : Addr) (u x y t' p' z : V) (kind : Str) (r : (Addr × V) ⊕ Int) (du dx dy dt dp dz : PyData) : Prop where
  ht : H t = some (.tup [u, x, y, .ref m, .ref due])
  hm : H m = some (.tup [t', p'])
  hd : H due = some (.lst [.str kind, z])
  pt : P t
  pm : P m
  pd : P due
  nd : b = true → due ≠ sysModules
  rk : ∀ H', Kp P H H' → Rk K H' cP cW cS cN u x y t' p' r
  an : Ans cP cW cS cN r kind z
  tu : Thing H P b u du
  tx : Thing H P b x dx
  ty : Thing H P b y dy
  tt : Thing H P b t' dt
  tp : Thing H P b p' dp
  tz : Thing H P b z dz
theorem Ans.kind {cP cW cS cN : Addr} {r : (Addr × V) ⊕ Int} {kind : Str} {z : V} (h : Ans cP cW cS cN r kind z) : OkD 60 0 (.str kind) := by
  cases h <;> exact okd_str (by decide +kernel) (by decide +kernel)
section
variable {K : PySem.W.Frag} {cP cW cS cN : Addr} {H : Hp} {P : Addr → Prop} {b : Bool} {t due m : Addr} {u x y t' p' z : V} {kind : Str} {r : (Addr × V) ⊕ Int} {du dx dy dt dp dz : PyData}
theorem RowAt.on {H' : Hp} {P' : Addr → Prop} (hp : ∀ a o, P a → H a = some o → P' a) (k : Kp P H H') (h : RowAt K cP cW cS cN H P b t due m u x y t' p' z kind r du dx dy dt dp dz) : RowAt K cP cW cS cN H' P' b t due m u x y t' p' z kind r du dx dy dt dp dz :=
  ⟨k _ _ h.pt h.ht, k _ _ h.pm h.hm, k _ _ h.pd h.hd, hp _ _ h.pt h.ht, hp _ _ h.pm h.hm, hp _ _ h.pd h.hd, h.nd, fun H'' k' => h.rk H'' fun a o q e => k' a o (hp a o q e) (k a o q e), h.an,
    h.tu.on hp k, h.tx.on hp k, h.ty.on hp k, h.tt.on hp k, h.tp.on hp k, h.tz.on hp k⟩
/-- the whole row as repr shows it -/
def rowD (kind : Str) (du dx dy dt dp dz : PyData) : PyData := .list [du, dx, dy, .tuple [dt, dp], .list [.str kind, dz]]
theorem RowAt.sh {L : Addr} (h : RowAt K cP cW cS cN H P b t due m u x y t' p' z kind r du dx dy dt dp dz) (hL : H L = some (.lst [u, x, y, .ref m, .ref due])) (pL : P L) (nL : L ≠ sysModules) : Sh H P b (.ref L) (rowD kind du dx dy dt dp dz) :=
  .lst hL pL (fun _ => nL) (.cons h.tu.sh (.cons h.tx.sh (.cons h.ty.sh (.cons (.tup h.hm h.pm (.cons h.tt.sh (.cons h.tp.sh .nil))) (.cons (pair_sh h.hd h.pd h.nd h.tz.sh) .nil)))))
theorem RowAt.ok (h : RowAt K cP cW cS cN H P b t due m u x y t' p' z kind r du dx dy dt dp dz) : OkD 100015 7 (rowD kind du dx dy dt dp dz) := by
  have a1 := h.tu.ok.mono (m := 20002) (j := 6) (by decide) (by decide)
  have a2 := h.tx.ok.mono (m := 20002) (j := 6) (by decide) (by decide)
  have a3 := h.ty.ok.mono (m := 20002) (j := 6) (by decide) (by decide)
  have a4 : OkD 20002 6 (.tuple [dt, dp]) := okd_tuple (n := 10000) (k := 5) (m := 2) (fun e m => by
    rcases List.mem_cons.mp m with rfl | m
    · exact h.tt.ok
    · rw [List.mem_singleton.mp m]; exact h.tp.ok) (by simp)
  have a5 := pair_ok h.an.kind h.tz.ok
  refine okd_list (n := 20002) (k := 6) (m := 5) (fun e m => ?_) (by simp)
  simp only [List.mem_cons, List.not_mem_nil, or_false] at m
  rcases m with rfl | rfl | rfl | rfl | rfl
  · exact a1
  · exact a2
  · exact a3
  · exact a4
  · exact a5
def RowOk (K : PySem.W.Frag) (cP cW cS cN : Addr) (H : Hp) (P : Addr → Prop) (b : Bool) (v : V) : Prop := ∃ (t due m : Addr) (u x y t' p' z : V) (kind : Str) (r : (Addr × V) ⊕ Int) (du dx dy dt dp dz : PyData), v = .ref t ∧ RowAt K cP cW cS cN H P b t due m u x y t' p' z kind r du dx dy dt dp dz
theorem RowOk.on {H' : Hp} {P' : Addr → Prop} {v : V} (hp : ∀ a o, P a → H a = some o → P' a) (k : Kp P H H') (h : RowOk K cP cW cS cN H P b v) : RowOk K cP cW cS cN H' P' b v := by
  obtain ⟨t, due, m, u, x, y, t', p', z, kind, r, du, dx, dy, dt, dp, dz, e, ra⟩ := h
  exact ⟨t, due, m, u, x, y, t', p', z, kind, r, du, dx, dy, dt, dp, dz, e, ra.on hp k⟩
end
end P3
end Bf

namespace Bf
open PySem PySem.Spec PyProof.Rows L2
namespace P3
section
variable {P : Program} {w : World} {K : PySem.W.Frag} {mg : Str → Option Value} {base : Heap} {cP cW cS cN : Addr}
abbrev nRef : List Str := ["_law_purse_here", "_law_word", "_law_width", "_law_worths", "_law_odd", "_law_wide", "_law_top", "_law_bad", "_law_least", "_law_past", "_law_rows", "_law_due_here", "_law_one", "_law_two", "_law_three", "_law_more", "_law_told", "_law_kept", "_law_found"]
abbrev pRef : List Str := ["_law_purse_here", "_law_word", "_law_width", "_law_worths"]
theorem scRef : FnScope nRef pRef (defScope sRef) := ⟨rfl, rfl, rfl, by decide +kernel, rfl, by decide +kernel, by decide +kernel⟩
abbrev xRef (P : Program) (w : World) (K : PySem.W.Frag) (mg : Str → Option Value) (base : Heap) (f : Addr) (cdv : Value) (A : Around) (outer : List Env) (s : Shared) (H : Hp) (E : XK) : Cx := cxOf CX0 P w K mg base nRef "_law_refused_right" (defScope sRef) f cdv A outer s H E
/-- the loop over the rows, and the end -/
theorem ref_loop {f fa : Addr} {fda : FuncData} (DA : Df K mg "_law_asked" fa fda pAsked) (GA : FnOk P w K mg base CX0 6 fa fda pAsked (spAsked K cP cW cS cN))
    (mp : mg "repr" = none) (mi : mg "isinstance" = none) (mL : mg "list" = none) {cdv : Value} {A : Around} {outer : List Env} {s : Shared} {H0 : Hp} {E : XK} (hA : A.guards = some [])
    (hr : Room 6 (A.deeper (envOfC "_law_refused_right" (defScope sRef) s.heap.objs.size f cdv))) :
    ∃ t, PSs (xRef P w K mg base f cdv A outer s H0 E) ((defBody sRef).drop 14) t ∧ ∀ (D : Ends) (σ : L2.St) (HL : Hp) (R : Addr) (rows : List V) (u0 u1 u2 u3 u4 u5 u6 u7 u8 u9 u11 u12 u13 u14 u15 u16 u17 u18 : Option V),
      σ = [u0, u1, u2, u3, u4, u5, u6, u7, u8, u9, some (.ref R), u11, u12, u13, u14, u15, u16, u17, u18] → HL R = some (.lst rows) → (∀ v ∈ rows, ∃ b, RowOk K cP cW cS cN HL (fun _ => True) b v) → (∀ H', Same HL H' → D.rt (.bl true) H') → t D σ HL := by
  have hA' : (A.deeper (envOfC "_law_refused_right" (defScope sRef) s.heap.objs.size f cdv)).guards = some [] := hA
  refine ⟨_, pss_cons (ps_for (PassesOwn.leaving) rfl (pi_list (pv 10)) (pg_tup rfl (pgs_cons (pg_name (i := 12) scRef.nd rfl (Or.inl rfl)) (pgs_cons (pg_name (i := 13) scRef.nd rfl (Or.inl rfl)) (pgs_cons (pg_name (i := 14) scRef.nd rfl (Or.inl rfl)) (pgs_cons (pg_name (i := 15) scRef.nd rfl (Or.inl rfl)) (pgs_cons (pg_name (i := 16) scRef.nd rfl (Or.inl rfl)) pgs_nil))))))
        (pss_cons (ps_set (i := 17) scRef.nd rfl (Or.inl rfl) (pe_callB (call_repr hA' hr.units) (by rfl) mp (by decide +kernel) (pa_cons (pe_lstN (pa_cons (pv 12) (pa_cons (pv 13) (pa_cons (pv 14) (pa_cons (pv 15) (pa_cons (pv 16) pa_nil)))))) pa_nil)))
        (pss_cons (ps_set (i := 18) scRef.nd rfl (Or.inl rfl) (pe_call GA hr (by rfl) DA.at_ DA.kp DA.bd .nil pass0 (pa_cons (pv 12) (pa_cons (pv 13) (pa_cons (pv 14) (pa_cons (pv 15) pa_nil))))))
        (pss_cons (ps_if (PW.pt (pw_or (pt_cmpR op_ne (pe_callB (call_repr hA' hr.units) (by rfl) mp (by decide +kernel) (pa_cons (pv 18) pa_nil)) (pe_callB (call_repr hA' hr.units) (by rfl) mp (by decide +kernel) (pa_cons (pv 16) pa_nil)) (nomark _))
            (pw_or1 (pt_cmpR op_ne (pe_callB (call_repr hA' hr.units) (by rfl) mp (by decide +kernel) (pa_cons (pe_lstN (pa_cons (pv 12) (pa_cons (pv 13) (pa_cons (pv 14) (pa_cons (pv 15) (pa_cons (pv 16) pa_nil)))))) pa_nil)) (pv 17) (nomark _))))) (pss_one (ps_ret pe_bl)) pss_nil)
        (pss_one (ps_if (pt_val (pe_callB call_isi (by rfl) mi (by decide +kernel) (pa_cons (pe_ix ix_list (pv 16) pe_int (fun _ _ => rfl)) (pa_cons (pe_bltn (v := .ty "list") (by rfl) mL (by decide +kernel) rfl) pa_nil))))
          (pss_cons (ps_expr (pe_bm PySem.F.plainAttrs_list PySem.F.slot_list_append PySem.F.type_list_append mt_append (pe_ix ix_list (pv 16) pe_int (fun _ _ => rfl)) (pa_cons pe_int pa_nil)))
          (pss_cons (ps_if (pt_cmpR op_ne (pe_callB (call_repr hA' hr.units) (by rfl) mp (by decide +kernel) (pa_cons (pe_ix ix_list (pv 18) pe_int (fun _ _ => rfl)) pa_nil))
              (pe_callB (call_repr hA' hr.units) (by rfl) mp (by decide +kernel) (pa_cons (pe_ix ix_list (pv 16) pe_int (fun _ _ => rfl)) pa_nil)) (nomark _)) (pss_one (ps_ret pe_bl)) pss_nil)
          (pss_one (ps_expr (pe_bm0 PySem.F.plainAttrs_list PySem.F.slot_list_pop PySem.F.type_list_pop mt_pop (pe_ix ix_list (pv 16) pe_int (fun _ _ => rfl))))))) pss_nil))))))
      (pss_one (ps_ret pe_bl)), ?_⟩
  intro D σ HL R rows u0 u1 u2 u3 u4 u5 u6 u7 u8 u9 u11 u12 u13 u14 u15 u16 u17 u18 eσ hR hrows fin
  subst eσ
  refine ⟨_, rfl, R, rfl, ⟨_, SqL.of hR⟩, for_list (K := K) (a := R) (xs := rows) (fun i σ H' => (∃ v12 v13 v14 v15 v16 v17 v18, σ = [u0, u1, u2, u3, u4, u5, u6, u7, u8, u9, some (.ref R), u11, v12, v13, v14, v15, v16, v17, v18]) ∧ Same HL H')
    ⟨⟨_, _, _, _, _, _, _, rfl⟩, Same.refl _⟩ (fun i σ H' _ pv => SqL.of (pv.2 _ _ hR)) (fun i v σ H1 hy pv => ?_) fun σ H1 pv => fin H1 pv.2⟩
  obtain ⟨⟨v12, v13, v14, v15, v16, v17, v18, rfl⟩, s1⟩ := pv
  obtain ⟨b, ro⟩ := hrows v (List.mem_of_getElem? hy)
  obtain ⟨t, due, m, u, x, y, t', p', z, kind, r, du, dx, dy, dt, dp, dz, rfl, ra⟩ := RowOk.on (H' := H1) (P' := fun _ => True) (fun _ _ _ _ => trivial) (fun a o _ h => s1 a o h) ro
  have pok := pair_ok ra.an.kind ra.tz.ok
  have rok := ra.ok
  have on : ∀ {H'}, Same H1 H' → RowAt K cP cW cS cN H' (fun _ => True) b t due m u x y t' p' z kind r du dx dy dt dp dz := fun s => ra.on (fun _ _ _ _ => trivial) fun a o _ h => s a o h
  refine ⟨t, _, rfl, SqT.of ra.ht, rfl, _, _, rfl, _, _, rfl, _, _, rfl, _, _, rfl, _, _, rfl, rfl, ?_⟩
  refine ⟨_, rfl, _, rfl, _, rfl, _, rfl, _, rfl, by show 5 ≤ 1000; decide, fun L hL nL => ?_⟩
  have sL : Same H1 (upd H1 L (.lst [u, x, y, .ref m, .ref due])) := same_new hL
  refine ⟨.ref L, _, b, _, rfl, (on sL).sh upd_same trivial nL, rok.sw, Nat.le_trans rok.dp (by decide), rok.shown (by decide), ?_⟩
  refine ⟨_, rfl, _, rfl, _, rfl, _, rfl, u, x, y, t', p', z, m, _, r, kind, rfl, SqT.of (on sL).hm, .two u t' p', (on sL).rk _ (fun a o _ h => h), ra.an, fun q H2 s2 hq nq hf => ?_⟩
  have s12 := sL.trans s2
  have r2 := on s12
  refine ⟨_, rfl, .ref q, _, b, _, rfl, pair_sh hf trivial (fun _ => nq) r2.tz.sh, pok.sw, Nat.le_trans pok.dp (by decide), pok.shown (by decide), _, rfl, .ref due, _, b, _, rfl, pair_sh r2.hd trivial r2.nd r2.tz.sh, pok.sw, Nat.le_trans pok.dp (by decide), pok.shown (by decide), rfl, _, rfl, iteNS rfl ?_⟩
  refine ⟨_, rfl, _, rfl, _, rfl, _, rfl, _, rfl, by show 5 ≤ 1000; decide, fun M hM nM => ?_⟩
  have sM : Same H2 (upd H2 M (.lst [u, x, y, .ref m, .ref due])) := same_new hM
  have s13 := s12.trans sM
  have r3 := on s13
  refine ⟨.ref M, _, b, _, rfl, r3.sh upd_same trivial nM, rok.sw, Nat.le_trans rok.dp (by decide), rok.shown (by decide), _, rfl, rfl, _, rfl, iteNS rfl ?_⟩
  have hf3 := sM _ _ hf
  obtain ⟨H3, e3⟩ : ∃ H3, H3 = upd H2 M (.lst [u, x, y, .ref m, .ref due]) := ⟨_, rfl⟩
  rw [← e3] at hf3 s13 r3 ⊢
  have hdue := r3.hd
  refine ⟨_, rfl, due, _, 1, _, rfl, rfl, SqL.of hdue, rfl, z, .ty "list", _, _, _, rfl, .ty "list", (r3.tz.sh.kn (K := K)).ty, kit_ty (kit_list dz), _, rfl, ?_⟩
  rcases r3.tz.ls with no | ⟨a, ys, es, rfl, rfl, ha, -, la, sa, oa⟩
  · have e : (tyD dz == "list") = false := beq_eq_false_iff_ne.mpr no
    rw [e]
    exact iteF ⟨⟨_, _, _, _, _, _, _, rfl⟩, s1.trans s13⟩
  · refine iteT ?_
    have nqa : q ≠ a := fun e => by
      rw [e, ha] at hf3
      cases hf3
      cases sa with
      | cons _ r =>
        cases r with
        | cons h _ => exact sh_not h
    have nda : due ≠ a := fun e => by
      rw [e, ha] at hdue
      cases hdue
      cases sa with
      | cons _ r =>
        cases r with
        | cons h _ => exact sh_not h
    refine ⟨_, rfl, due, _, 1, _, rfl, rfl, SqL.of hdue, rfl, .inl ⟨rfl, _, SqL.of ha⟩, a, _, _, rfl, rfl, ha, small1000 (Nat.le_trans la (by decide)), ?_⟩
    have hf4 : upd H3 a (.lst (ys ++ [.int 3])) q = some (.lst [.str kind, .ref a]) := by rw [upd_ne nqa]; exact hf3
    have hd4 : upd H3 a (.lst (ys ++ [.int 3])) due = some (.lst [.str kind, .ref a]) := by rw [upd_ne nda]; exact hdue
    have qa : b = true → a ≠ sysModules := by
      cases r3.tz.sh with
      | lst _ _ q _ => exact q
    have s3 : Sh (upd H3 a (.lst (ys ++ [.int 3]))) (fun _ => True) b (.ref a) (.list (es ++ [.int 3])) :=
      .lst upd_same trivial qa (ShAll.snoc (ShAll.on (fun _ _ _ _ => trivial) (fun c o p h => by rw [upd_ne p.2]; exact h) es ys sa) (.int 3))
    have o3 : OkD 20301 4 (.list (es ++ [.int 3])) := okd_list (n := 200) (k := 3) (m := 101) (fun e m => by
      rcases List.mem_append.mp m with m | m
      · exact oa e m
      · rw [List.mem_singleton.mp m]; exact (okd_int (by decide)).mono (by decide) (by decide)) (by rw [List.length_append, ← sa.len]; simp; omega)
    refine ⟨_, rfl, q, _, 1, _, rfl, rfl, SqL.of hf4, rfl, .ref a, _, b, _, rfl, s3, o3.sw, Nat.le_trans o3.dp (by decide), o3.shown (by decide), ?_⟩
    refine ⟨_, rfl, due, _, 1, _, rfl, rfl, SqL.of hd4, rfl, .ref a, _, b, _, rfl, s3, o3.sw, Nat.le_trans o3.dp (by decide), o3.shown (by decide), rfl, _, rfl, iteNS rfl ?_⟩
    refine ⟨_, rfl, due, _, 1, _, rfl, rfl, SqL.of hd4, rfl, .inl ⟨rfl, _, SqL.of upd_same⟩, a, _, .int 3, rfl, rfl, upd_same, by simp, ⟨_, _, _, _, _, _, _, rfl⟩, fun c o h => ?_⟩
    have h2 := s13 _ _ (s1 _ _ h)
    by_cases hc : c = a
    · subst hc
      rw [upd_same, List.dropLast_concat]
      rw [ha] at h2
      exact h2
    · rw [upd_ne hc, upd_ne hc]
      exact h2
end
end P3
end Bf

namespace Bf
open PySem PySem.Spec PyProof.Rows L2
theorem kp_same {P : Addr → Prop} {G G' : Hp} (s : Same G G') : Kp P G G' := fun a o _ h => s a o h
/-- a shown thing (with no list that may be the module table where B holds), and what holds of it from now on -/
def Phi (B : Bool → Prop) (P : Addr → Prop) (Pr : V → Hp → Prop) (v : V) (G : Hp) : Prop := ∃ d, (∀ b, B b → Thing G P b v d) ∧ ∀ G', Kp P G G' → Pr v G'
section
variable {B : Bool → Prop} {P : Addr → Prop} {Pr : V → Hp → Prop} {G : Hp}
theorem Phi.on {P' : Addr → Prop} {v : V} {G' : Hp} (hp : ∀ a o, P a → G a = some o → P' a) (k : Kp P G G') (h : Phi B P Pr v G) : Phi B P' Pr v G' := by
  obtain ⟨d, t, c⟩ := h
  exact ⟨d, fun b q => (t b q).on hp k, fun G2 k2 => c G2 fun a o q e => k2 a o (hp a o q e) (k a o q e)⟩
theorem Phi.flat {v : V} (h : okF v = true) (c : ∀ G', Pr v G') : Phi B P Pr v G := ⟨_, fun _ _ => .flat h, fun G' _ => c G'⟩
theorem Phi.emp {a : Addr} (hB : ∀ b, B b → b = true) (h : G a = some (.dK [])) (p : P a) (c : ∀ G', G' a = some (.dK []) → Pr (.ref a) G') : Phi B P Pr (.ref a) G := ⟨_, fun b q => by rw [hB b q]; exact .emp h p, fun G' k => c G' (k a _ p h)⟩
theorem Phi.fl {a : Addr} {xs : List V} (h : G a = some (.lst xs)) (p : P a) (q : a ≠ sysModules) (hl : xs.length ≤ 50) (hf : ∀ x ∈ xs, okF x = true) (c : ∀ G', G' a = some (.lst xs) → Pr (.ref a) G') : Phi B P Pr (.ref a) G :=
  ⟨_, fun _ _ => .fl h p (fun _ => q) hl hf, fun G' k => c G' (k a _ p h)⟩
theorem Phi.tf {a : Addr} {xs : List V} (h : G a = some (.tup xs)) (p : P a) (hl : xs.length ≤ 50) (hf : ∀ x ∈ xs, okF x = true) (c : ∀ G', G' a = some (.tup xs) → Pr (.ref a) G') : Phi B P Pr (.ref a) G :=
  ⟨_, fun _ _ => .tf h p hl hf, fun G' k => c G' (k a _ p h)⟩
end

/-! ### what an expression makes -/
def Mks (t : TE) (σ : L2.St) (H : Hp) (Φ : V → Hp → Prop) : Prop := ∀ Q : VK, (∀ v G, Same H G → Φ v G → Q v G) → t σ H Q
def MksA (t : TA) (σ : L2.St) (H : Hp) (n : Nat) (Φ : V → Hp → Prop) : Prop := ∀ Q : List V → Hp → Prop, (∀ vs G, Same H G → vs.length = n → (∀ v ∈ vs, Φ v G) → Q vs G) → t σ H Q
section
variable {σ : L2.St} {Φ : V → Hp → Prop} {J : Hp → Prop} {t : TE} {u : TA} {n : Nat}
theorem mks_nil {H : Hp} : MksA tNil σ H 0 Φ := fun Q q => q [] H (Same.refl H) rfl fun _ m => nomatch m
theorem mks_cons (hJ : ∀ G G', Same G G' → J G → J G') (hΦ : ∀ v G G', Same G G' → Φ v G → Φ v G') (h1 : ∀ G, J G → Mks t σ G Φ) (h2 : ∀ G, J G → MksA u σ G n Φ) : ∀ G, J G → MksA (tCons t u) σ G (n + 1) Φ := fun G j Q q =>
  h1 G j _ fun v G1 s1 p1 => h2 G1 (hJ _ _ s1 j) _ fun vs G2 s2 l p2 => q (v :: vs) G2 (s1.trans s2) (by rw [List.length_cons, l]) fun x m => (List.mem_cons.mp m).elim (fun e => e ▸ hΦ v G1 G2 s2 p1) (p2 x)
theorem mks_c {v : V} {G : Hp} (h : Φ v G) : Mks (tC v) σ G Φ := fun Q q => q v G (Same.refl G) h
theorem mks_emp {G : Hp} (h : ∀ a G', Same G G' → G a = none → G' a = some (.dK []) → Φ (.ref a) G') : Mks tDNewK σ G Φ := fun _ q => fun a ha => q _ _ (P3.same_new ha) (h a _ (P3.same_new ha) ha upd_same)
theorem mks_lst1 {v : V} {G : Hp} (h : ∀ a G', Same G G' → G a = none → a ≠ sysModules → G' a = some (.lst [v]) → Φ (.ref a) G') : Mks (tLstN (tCons (tC v) tNil)) σ G Φ := fun _ q => ⟨by show 1 ≤ 1000; decide, fun a ha na => q _ _ (P3.same_new ha) (h a _ (P3.same_new ha) ha na upd_same)⟩
theorem mks_tup1 {v : V} {G : Hp} (h : ∀ a G', Same G G' → G a = none → G' a = some (.tup [v]) → Φ (.ref a) G') : Mks (tTup (tCons (tC v) tNil)) σ G Φ := fun _ q => ⟨by show 1 ≤ sizeLine; decide, fun a ha => q _ _ (P3.same_new ha) (h a _ (P3.same_new ha) ha upd_same)⟩
/-- a list of things, new or not the purse -/
def LstOf (p : Addr) (n : Nat) (Φ : V → Hp → Prop) (v : V) (G : Hp) : Prop := ∃ (L : Addr) (vs : List V), v = .ref L ∧ G L = some (.lst vs) ∧ L ≠ p ∧ vs.length = n ∧ ∀ x ∈ vs, Φ x G
theorem mks_list {p : Addr} {H : Hp} {o : HO} (hp : H p = some o) (hn : n ≤ 1000) (hΦ : ∀ v G G', Same G G' → Φ v G → Φ v G') (h : MksA u σ H n Φ) : Mks (tLstN u) σ H (LstOf p n Φ) := fun Q q =>
  h _ fun vs G s l hv => ⟨by omega, fun L hL nL => q _ _ (s.trans (P3.same_new hL)) ⟨L, vs, rfl, upd_same, ne_free (s _ _ hp) hL, l, fun x m => hΦ x _ _ (P3.same_new hL) (hv x m)⟩⟩
theorem pick_ok {K : PySem.W.Frag} {p : Addr} {H : Hp} {N k : Int} {E : XK} {Q : VK} (hA : Mks t σ H (LstOf p n Φ)) (hn : ((n : Nat) : Int) = N) (h0 : 0 < N) (h1 : N < 1000000) (pu : Purse H p k) (hk : k ≤ 100000) (hσ : σ[0]? = some (some (.ref p)))
    (hΦ : ∀ v G G', Kp (· ≠ p) G G' → Φ v G → Φ v G') (q : ∀ v G, Kp (· ≠ p) H G → Purse G p (k + 1) → Φ v G → Q v G) :
    tOp (rIxL K) t (tCall spTake [] E (tCons (tVar 0) (tCons (tC (.int N)) tNil))) σ H Q := by
  refine hA _ fun v G s ⟨L, vs, e, gL, nL, l, hv⟩ => ?_
  subst e
  obtain ⟨px, py, pz, hp, pr⟩ := id pu
  refine ⟨_, hσ, p, N, k, rfl, pu.of ((s _ _ hp).trans hp.symm), hk, h0, h1, fun d G2 d0 d1 pu2 eq2 => ?_⟩
  obtain ⟨v, mv, ev⟩ := pick (xs := vs) d0 (by rw [l]; omega)
  exact ⟨L, vs, d, v, rfl, rfl, SqL.of ((eq2 L nL).trans gL), ev, q v G2 (fun a o n h => (eq2 a n).trans (s _ _ h)) pu2 (hΦ v G G2 (kp_take eq2) (hv v mv))⟩
end
namespace P3
section
variable {P : Program} {w : World} {K : PySem.W.Frag} {mg : Str → Option Value} {base : Heap}
/-! ### _law_worth -/
def spWorth : Sp := fun vs H Q _ => ∃ (p : Addr) (z n : Int), vs = [.ref p, .int z] ∧ 1 ≤ z ∧ z ≤ 8 ∧ Purse H p n ∧ n ≤ 90000 ∧ ∀ k G, 0 ≤ k → k ≤ topW z → Kp (· ≠ p) H G → Purse G p (n + 2) → Q (.int k) G
theorem scWorth : FnScope ["_law_purse_here", "_law_width"] ["_law_purse_here", "_law_width"] (defScope sWorth) := ⟨rfl, rfl, rfl, by decide +kernel, rfl, by decide +kernel, by decide +kernel⟩
theorem top_of {z : Int} (z1 : 1 ≤ z) (z8 : z ≤ 8) : ∃ T : Int, (2 : Int) ^ z.toNat = T ∧ 2 ≤ T ∧ T ≤ 256 ∧ topW z = T - 1 := by
  have c : z = 1 ∨ z = 2 ∨ z = 3 ∨ z = 4 ∨ z = 5 ∨ z = 6 ∨ z = 7 ∨ z = 8 := by omega
  rcases c with rfl | rfl | rfl | rfl | rfl | rfl | rfl | rfl <;> exact ⟨_, rfl, by decide, by decide, rfl⟩
theorem ok_worth {f ft : Addr} {fd fdt : FuncData} (F : Fun K "_law_worth" "_law_worth" sWorth f fd) (DT : Df K mg "_law_take" ft fdt ["_law_purse_here", "_law_many"]) (GT : FnOk P w K mg base CX0 2 ft fdt ["_law_purse_here", "_law_many"] spTake) :
    FnOk P w K mg base CX0 3 f fd ["_law_purse_here", "_law_width"] spWorth := by
  refine F.ok scWorth (fun vs H Q E h => ?_) (fun cdv A outer s H vs Q E hr h => ?_)
  · obtain ⟨p, z, n, rfl, _⟩ := h
    rfl
  · obtain ⟨p, z, n, rfl, z1, z8, pu, hn, q⟩ := h
    refine ⟨_, pss_one (ps_ret (pe_ix ix_list (pe_lst (pa_cons pe_int (pa_cons (pe_op op_sub (pe_op op_shl pe_int (pv 1)) pe_int) (pa_cons (pe_call GT hr (by rfl) DT.at_ DT.kp DT.bd .nil pass0 (pa_cons (pv 0) (pa_cons (pe_op op_shl pe_int (pv 1)) pa_nil))) pa_nil))))
      (pe_call GT hr (by rfl) DT.at_ DT.kp DT.bd .nil pass0 (pa_cons (pv 0) (pa_cons pe_int pa_nil))) (fun _ _ => rfl))), ?_⟩
    obtain ⟨T, hT, t2, t256, tt⟩ := top_of z1 z8
    refine ⟨_, rfl, _, _, rfl, rfl, ⟨by omega, by omega, by decide⟩, _, _, rfl, rfl, ?_⟩
    refine ⟨_, rfl, _, rfl, _, _, rfl, rfl, ⟨by omega, by omega, by decide⟩, p, _, n, rfl, pu, by omega, by rw [hT]; omega, by rw [hT]; omega, fun d H1 d0 d1 pu1 eq1 => ?_⟩
    refine ⟨by show 3 ≤ sizeLine; decide, fun L hL => ?_⟩
    obtain ⟨px, py, pz, hp, pr⟩ := id pu1
    have nLp := ne_free hp hL
    refine ⟨_, rfl, p, 3, n + 1, rfl, pu1.of (upd_ne nLp.symm), by omega, by decide, by decide, fun e H2 e0 e1 pu2 eq2 => ?_⟩
    obtain ⟨v, mv, ev⟩ := pick (xs := [.int 0, .int (1 * 2 ^ z.toNat - 1), .int d]) e0 e1
    refine ⟨L, _, e, v, rfl, rfl, SqL.of ((eq2 L nLp).trans upd_same), ev, ?_⟩
    have k2 : Kp (· ≠ p) H H2 := fun a o n h => by
      have h1 : H1 a = some o := (eq1 a n).trans h
      rw [eq2 a n, upd_ne (ne_of_none h1 hL)]
      exact h1
    have pu3 : Purse H2 p (n + 2) := pu2.mono (by omega)
    clear ev
    simp only [List.mem_cons, List.not_mem_nil, or_false] at mv
    rw [hT] at mv d1
    rcases mv with rfl | rfl | rfl
    · exact q _ _ (by omega) (by omega) k2 pu3
    · exact q _ _ (by omega) (by omega) k2 pu3
    · exact q _ _ (by omega) (by omega) k2 pu3
end
end P3
end Bf

namespace Bf
open PySem PySem.Spec PyProof.Rows L2
namespace P3
section
variable {P : Program} {w : World} {K : PySem.W.Frag} {mg : Str → Option Value} {base : Heap} {cP cW cS cN : Addr}
/-- what the loop needs -/
structure Lp (P : Program) (w : World) (K : PySem.W.Frag) (mg : Str → Option Value) (base : Heap) (cP cW cS cN fa : Addr) (fda : FuncData) : Prop where
  DA : Df K mg "_law_asked" fa fda pAsked
  GA : FnOk P w K mg base CX0 6 fa fda pAsked (spAsked K cP cW cS cN)
  mp : mg "repr" = none
  mi : mg "isinstance" = none
  mL : mg "list" = none
/-- the last row, and the loop -/
theorem ref_last {f fa : Addr} {fda : FuncData} (L : Lp P w K mg base cP cW cS cN fa fda) {cdv : Value} {A : Around} {outer : List Env} {s : Shared} {H0 : Hp} {E : XK} (hA : A.guards = some [])
    (hr : Room 6 (A.deeper (envOfC "_law_refused_right" (defScope sRef) s.heap.objs.size f cdv))) :
    ∃ t, PSs (xRef P w K mg base f cdv A outer s H0 E) ((defBody sRef).drop 13) t ∧ ∀ (D : Ends) (σ : L2.St) (H : Hp) (c : Str) (z : Int) (Wa R Dh : Addr) (tl pp zz r1 r2 r3 : V) (kind : Str) (r : (Addr × V) ⊕ Int) (ns : List Int) (dt dp dz : PyData) (u0 u4 u5 u6 u7 u12 u13 u14 u15 u16 u17 u18 : Option V),
      σ = [u0, some (.str c), some (.int z), some (.ref Wa), u4, u5, u6, u7, some tl, some pp, some (.ref R), some (.ref Dh), u12, u13, u14, u15, u16, u17, u18] → H R = some (.lst [r1, r2, r3]) → (∀ v ∈ [r1, r2, r3], ∃ b, RowOk K cP cW cS cN H (· ≠ R) b v) →
      H Wa = some (.lst (ns.map V.int)) → Wa ≠ R → ns.length ≤ 50 → (∀ i ∈ ns, i.natAbs < 10 ^ 12) → okF (.str c) = true → (z.natAbs < 10 ^ 12) → H Dh = some (.lst [.str kind, zz]) → Dh ≠ R → (∀ H', Kp (· ≠ R) H H' → Rk K H' cP cW cS cN (.str c) (.int z) (.ref Wa) tl pp r) → Ans cP cW cS cN r kind zz →
      Thing H (· ≠ R) false tl dt → Thing H (· ≠ R) false pp dp → Thing H (· ≠ R) false zz dz → (∀ H', Kp (· ≠ R) H H' → D.rt (.bl true) H') → t D σ H := by
  obtain ⟨tl', hl, loop⟩ := ref_loop (outer := outer) (H0 := H0) (E := E) L.DA L.GA L.mp L.mi L.mL hA hr
  refine ⟨_, pss_cons (ps_expr (pe_bm PySem.F.plainAttrs_list PySem.F.slot_list_append PySem.F.type_list_append mt_append (pv 10) (pa_cons (pe_tup (pa_cons (pv 1) (pa_cons (pv 2) (pa_cons (pv 3) (pa_cons (pe_tup (pa_cons (pv 8) (pa_cons (pv 9) pa_nil))) (pa_cons (pv 11) pa_nil)))))) pa_nil))) hl, ?_⟩
  intro D σ H c z Wa R Dh tl pp zz r1 r2 r3 kind r ns dt dp dz u0 u4 u5 u6 u7 u12 u13 u14 u15 u16 u17 u18 eσ hR rows hW nWR lns sns okc okz hD nDR rk an tt tp tz fin
  subst eσ
  refine ⟨_, rfl, .inl ⟨rfl, _, SqL.of hR⟩, _, rfl, _, rfl, _, rfl, _, rfl, _, rfl, by show 2 ≤ sizeLine; decide, fun m hm => ⟨_, rfl, by show 5 ≤ sizeLine; decide, fun t ht => ?_⟩⟩
  obtain ⟨ntm, ht0⟩ := new_ne ht
  have nmR := ne_free hR hm
  have ntR := ne_free hR ht0
  refine ⟨R, _, _, rfl, rfl, by rw [upd_ne ntR.symm, upd_ne nmR.symm]; exact hR, by show 3 < sizeLine; decide, ?_⟩
  have k1 : Kp (· ≠ R) H (upd (upd (upd H m (.tup [tl, pp])) t (.tup [.str c, .int z, .ref Wa, .ref m, .ref Dh])) R (.lst ([r1, r2, r3] ++ [.ref t]))) := fun a o q h => by
    rw [upd_ne q, upd_ne (ne_of_none h ht0), upd_ne (ne_of_none h hm)]; exact h
  refine loop D _ _ R ([r1, r2, r3] ++ [.ref t]) _ _ _ _ _ _ _ _ _ _ _ _ _ _ _ _ _ _ rfl upd_same (fun v mv => ?_) fun H' s' => fin H' fun a o q h => s' a o (k1 a o q h)
  rcases List.mem_append.mp mv with mv | mv
  · obtain ⟨b, ro⟩ := rows v mv
    exact ⟨b, ro.on (fun _ _ _ _ => trivial) k1⟩
  · have ev := List.mem_singleton.mp mv
    have on : ∀ {v d}, Thing H (· ≠ R) false v d → Thing _ (fun _ => True) false v d := fun h => h.on (fun _ _ _ _ => trivial) k1
    refine ⟨false, t, Dh, m, .str c, .int z, .ref Wa, tl, pp, zz, kind, r, _, _, _, dt, dp, dz, ev, ?_, ?_, k1 _ _ nDR hD, trivial, trivial, trivial, (fun z => nomatch z), fun H' k' => rk H' fun a o q h => k' a o trivial (k1 a o q h), an, .flat okc, .flat (decide_eq_true okz), .fl (k1 _ _ nWR hW) trivial (fun z => nomatch z) (by rw [List.length_map]; exact lns) (fun x m => ?_), on tt, on tp, on tz⟩
    · rw [upd_ne ntR, upd_same]
    · rw [upd_ne nmR, upd_ne ntm.symm, upd_same]
    · obtain ⟨i, mi, rfl⟩ := List.mem_map.mp m
      exact decide_eq_true (sns i mi)
end
end P3
end Bf

namespace Bf
open PySem PySem.Spec PyProof.Rows L2
namespace P3
def B01 (l : List Int) : Prop := ∀ b ∈ l, 0 ≤ b ∧ b ≤ 1
theorem made_small {l : List Int} (h : B01 l) (hl : l.length ≤ 16) : (madeI l).natAbs < 10 ^ 12 := by
  rw [madeI_val]
  obtain ⟨a, b⟩ := valB_lt l h
  have : (2 : Int) ^ l.length ≤ 2 ^ 16 := by
    have := Nat.pow_le_pow_right (show 0 < 2 by decide) hl
    exact_mod_cast this
  have e : (2 : Int) ^ 16 = 65536 := by decide
  omega
theorem b01_not {n : Nat} {k : Int} : B01 ((bitsI n k).map fun x => 1 - x) := fun b m => by
  obtain ⟨x, mx, rfl⟩ := List.mem_map.mp m
  have := bitsI_01 x mx
  omega
theorem b01_zip {f : Int → Int → Int} (hf : ∀ a b : Int, 0 ≤ a ∧ a ≤ 1 → 0 ≤ b ∧ b ≤ 1 → 0 ≤ f a b ∧ f a b ≤ 1) : ∀ {ns ms : List Int}, B01 ns → B01 ms → B01 (List.zipWith f ns ms)
  | [], _, _, _, n, m => by cases m
  | _ :: _, [], _, _, n, m => by cases m
  | x :: xs, y :: ys, h1, h2, n, m => by
    rcases List.mem_cons.mp m with rfl | m
    · exact hf x y (h1 x List.mem_cons_self) (h2 y List.mem_cons_self)
    · exact b01_zip hf (fun n m => h1 n (List.mem_cons_of_mem _ m)) (fun n m => h2 n (List.mem_cons_of_mem _ m)) n m
theorem due_small (c : Str) {z : Int} (a b into spot : Int) (z8 : z ≤ 8) : (dueR c z a b into spot).natAbs < 10 ^ 12 := by
  have hn : z.toNat ≤ 8 := by omega
  have zl : ∀ f : Int → Int → Int, (List.zipWith f (bitsI z.toNat a) (bitsI z.toNat b)).length ≤ 16 := fun f => by rw [List.length_zipWith, bitsI_len, bitsI_len]; omega
  unfold dueR
  split
  · exact made_small b01_not (by rw [List.length_map, bitsI_len]; omega)
  split
  · refine made_small (fun x m => ?_) (by rw [List.length_take, List.length_append, bitsI_len, List.length_replicate]; omega)
    rcases List.mem_append.mp (List.mem_of_mem_take m) with m | m
    · exact bitsI_01 x m
    · rw [(List.mem_replicate.mp m).2]; exact ⟨by decide, by decide⟩
  split
  · rw [List.getD_eq_getElem?_getD]
    cases e : (bitsI z.toNat a)[spot.toNat]? with
    | none => decide
    | some v =>
      have := bitsI_01 v (List.mem_of_getElem? e)
      show v.natAbs < 10 ^ 12
      omega
  split
  · exact made_small (carL_01 _ _ _) (by rw [carL_len _ _ _ (by rw [bitsI_len, bitsI_len]), bitsI_len]; omega)
  split
  · exact made_small (carL_01 _ _ _) (by rw [carL_len _ _ _ (by rw [bitsI_len, bitsI_len]), bitsI_len]; omega)
  split
  · split <;> decide
  split
  · split <;> decide
  split
  · exact made_small (b01_zip (fun x y hx hy => by unfold minF; split <;> omega) bitsI_01 bitsI_01) (zl _)
  split
  · exact made_small (b01_zip (fun x y hx hy => by unfold maxF; split <;> omega) bitsI_01 bitsI_01) (zl _)
  · exact made_small (b01_zip (fun x y hx hy => by unfold neF; split <;> omega) bitsI_01 bitsI_01) (zl _)
theorem oneR_not {z a : Int} {t p : V} : oneR "not" z a t p = topW z - a := by
  unfold oneR
  rw [if_pos (show isW "not" "not" = true by decide +kernel)]
theorem good_ints {z : Int} {ns : List Int} (h : ∀ i ∈ ns, 0 ≤ i ∧ i ≤ topW z) : goodB z (ns.map V.int) = true := by
  unfold goodB
  rw [List.all_eq_true]
  intro b mb
  obtain ⟨y, my, rfl⟩ := List.mem_map.mp mb
  obtain ⟨j, mj, rfl⟩ := List.mem_map.mp my
  exact wholeB_of (h j mj).1 (h j mj).2
theorem kn_flat {K : PySem.W.Frag} {H : Hp} {x : V} (h : okF x = true) : ∃ m, Kn K H x m := by
  cases x with
  | non => exact ⟨_, .non⟩
  | bl c => exact ⟨_, .bl c⟩
  | int i => exact ⟨_, .int i⟩
  | str z => exact ⟨_, .str z⟩
  | byt _ => cases h
  | flt _ => cases h
  | ref _ => cases h
  | ty _ => cases h
theorem seq_lst {K : PySem.W.Frag} {H : Hp} {a : Addr} {xs : List V} (h : H a = some (.lst xs)) (hl : xs.length ≤ 50) (hf : ∀ x ∈ xs, okF x = true) : Seq K H a xs :=
  ⟨⟨"list", .lst (.base (.lst h)), by decide⟩, ⟨true, SqL.of h⟩, by omega, fun y m => kn_flat (hf y m)⟩
theorem seq_tup {K : PySem.W.Frag} {H : Hp} {a : Addr} {xs : List V} (h : H a = some (.tup xs)) (hl : xs.length ≤ 50) (hf : ∀ x ∈ xs, okF x = true) : Seq K H a xs :=
  ⟨⟨"tuple", .tup (.base (.tup h)), by decide⟩, ⟨false, SqT.of h⟩, by omega, fun y m => kn_flat (hf y m)⟩
section
variable {P : Program} {w : World} {K : PySem.W.Frag} {mg : Str → Option Value} {base : Heap} {cP cW cS cN : Addr}
abbrev pDue : List Str := ["_law_word", "_law_width", "_law_worths", "_law_into", "_law_spot"]
/-- what is due of the last row, and the rest -/
theorem ref_due {f fa fu : Addr} {fda fdu : FuncData} (L : Lp P w K mg base cP cW cS cN fa fda) (DU : Df K mg "_law_due" fu fdu pDue) (GU : FnOk P w K mg base CX0 4 fu fdu pDue (spDue K)) {cdv : Value} {A : Around} {outer : List Env} {s : Shared} {H0 : Hp} {E : XK} (hA : A.guards = some [])
    (hr : Room 6 (A.deeper (envOfC "_law_refused_right" (defScope sRef) s.heap.objs.size f cdv))) :
    ∃ t, PSs (xRef P w K mg base f cdv A outer s H0 E) ((defBody sRef).drop 9) t ∧ ∀ (D : Ends) (σ : L2.St) (H : Hp) (c : Str) (z : Int) (Wa R : Addr) (tl pp r1 r2 r3 : V) (ns : List Int) (u0 u4 u5 u6 u7 u11 u12 u13 u14 u15 u16 u17 u18 : Option V),
      σ = [u0, some (.str c), some (.int z), some (.ref Wa), u4, u5, u6, u7, some tl, some pp, some (.ref R), u11, u12, u13, u14, u15, u16, u17, u18] → H R = some (.lst [r1, r2, r3]) → (∀ v ∈ [r1, r2, r3], ∃ b, RowOk K cP cW cS cN H (· ≠ R) b v) →
      c ∈ WD → 1 ≤ z → z ≤ 8 → H Wa = some (.lst (ns.map V.int)) → Wa ≠ R → ((ns.length : Nat) : Int) = wanted c → (∀ i ∈ ns, 0 ≤ i ∧ i ≤ topW z) → Phi (fun _ => True) (· ≠ R) (fun v _ => wholeB v 1 8 = false) tl H → Phi (fun _ => True) (· ≠ R) (fun v _ => wholeB v 0 (z - 1) = false) pp H →
      (∀ H', Kp (· ≠ R) H H' → D.rt (.bl true) H') → t D σ H := by
  obtain ⟨tl', hl, last⟩ := ref_last (outer := outer) (H0 := H0) (E := E) L hA hr
  have hr3 := hr.mono (by decide : 4 ≤ 6)
  refine ⟨_, pss_cons (ps_set (i := 11) scRef.nd rfl (Or.inl rfl) (pe_lstN (pa_cons pe_str (pa_cons pe_non pa_nil))))
    (pss_cons (ps_if (pt_cmpR op_eq (pv 1) pe_str (nomark _)) (pss_one (ps_set (i := 11) scRef.nd rfl (Or.inl rfl) (pe_lstN (pa_cons pe_str (pa_cons (pv 8) pa_nil))))) pss_nil)
    (pss_cons (ps_if (pt_cmpR op_eq (pv 1) pe_str (nomark _)) (pss_one (ps_set (i := 11) scRef.nd rfl (Or.inl rfl) (pe_lstN (pa_cons pe_str (pa_cons (pv 9) pa_nil))))) pss_nil)
    (pss_cons (ps_if (pt_cmpR op_eq (pe_ix ix_list (pv 11) pe_int (fun _ _ => rfl)) pe_str (nomark _)) (pss_one (ps_set (i := 11) scRef.nd rfl (Or.inl rfl) (pe_lstN (pa_cons pe_str (pa_cons (pe_call GU hr3 (by rfl) DU.at_ DU.kp DU.bd .nil pass0 (pa_cons (pv 1) (pa_cons (pv 2) (pa_cons (pv 3) (pa_cons pe_int (pa_cons pe_int pa_nil)))))) pa_nil))))) pss_nil) hl))), ?_⟩
  intro D σ H c z Wa R tl pp r1 r2 r3 ns u0 u4 u5 u6 u7 u11 u12 u13 u14 u15 u16 u17 u18 eσ hR rows hc z1 z8 hW nWR lns hns phT phP fin
  subst eσ
  have w12 : wanted c = 1 ∨ wanted c = 2 := by unfold wanted; split <;> simp
  have l50 : ns.length ≤ 50 := by omega
  have l50' : (ns.map V.int).length ≤ 50 := by rw [List.length_map]; exact l50
  obtain ⟨T, hT, t2, t256, tt⟩ := top_of z1 z8
  have sns : ∀ i ∈ ns, i.natAbs < 10 ^ 12 := fun i m => by have := hns i m; omega
  have fns : ∀ x ∈ ns.map V.int, okF x = true := fun x m => by
    obtain ⟨i, mi, rfl⟩ := List.mem_map.mp m
    exact decide_eq_true (sns i mi)
  have okc : okF (.str c) = true := by
    have all : ∀ c ∈ WD, okF (.str c) = true := by decide +kernel
    exact all c hc
  have good := good_ints hns
  have lw : (((ns.map V.int).length : Nat) : Int) = wanted c := by rw [List.length_map]; exact lns
  -- from the list that is due on
  have go : ∀ (G : Hp) (Dh : Addr) (zz : V) (kind : Str) (r : (Addr × V) ⊕ Int) (dz : PyData), Same H G → Dh ≠ R → G Dh = some (.lst [.str kind, zz]) → (∀ H', Kp (· ≠ R) G H' → Rk K H' cP cW cS cN (.str c) (.int z) (.ref Wa) tl pp r) → Ans cP cW cS cN r kind zz → Thing G (· ≠ R) false zz dz →
      tl' D [u0, some (.str c), some (.int z), some (.ref Wa), u4, u5, u6, u7, some tl, some pp, some (.ref R), some (.ref Dh), u12, u13, u14, u15, u16, u17, u18] G := fun G Dh zz kind r dz sG nDR hD rk an tz => by
    obtain ⟨dt, tt', _⟩ := phT.on (P' := (· ≠ R)) (fun _ _ q _ => q) (kp_same sG)
    obtain ⟨dp, tp', _⟩ := phP.on (P' := (· ≠ R)) (fun _ _ q _ => q) (kp_same sG)
    exact last D _ G c z Wa R Dh tl pp zz r1 r2 r3 kind r ns dt dp dz _ _ _ _ _ _ _ _ _ _ _ _ rfl (sG _ _ hR) (fun v m => (rows v m).imp fun b ro => ro.on (fun _ _ q _ => q) (kp_same sG)) (sG _ _ hW) nWR l50 sns okc (by omega) hD nDR rk an
      (tt' _ trivial) (tp' _ trivial) tz fun H' k => fin H' fun a o q h => k a o q (sG _ _ h)
  refine ⟨by show 2 ≤ 1000; decide, fun D0 h0 n0 => ?_⟩
  have s0 : Same H (upd H D0 (.lst [.str "told", .non])) := same_new h0
  have nD0 : D0 ≠ R := ne_free hR h0
  by_cases cw : c = "wide"
  · subst cw
    refine ⟨_, rfl, rfl, _, rfl, iteB (by decide +kernel) ⟨_, rfl, by show 2 ≤ 1000; decide, fun D1 h1 n1 => ?_⟩⟩
    refine ⟨_, rfl, rfl, _, rfl, iteN (by decide +kernel) ?_⟩
    refine ⟨_, rfl, D1, _, 0, _, rfl, rfl, SqL.of upd_same, rfl, rfl, _, rfl, iteN (by decide +kernel) ?_⟩
    have s1 := same_trans_new (o := .lst [.str "width", tl]) s0 h1
    obtain ⟨dt, tt', ct⟩ := phT.on (P' := (· ≠ R)) (fun _ _ q _ => q) (kp_same s1)
    refine go _ D1 tl "width" (.inl (cW, tl)) dt s1 (ne_free (s0 _ _ hR) h1) upd_same (fun H' k' => ?_) (.wd tl) (tt' _ trivial)
    exact .to z1 z8 (seq_lst (k' _ _ nWR (s1 _ _ hW)) l50' fns) lw good ((tt' false trivial).on (P' := (· ≠ R)) (fun _ _ q _ => q) k').sh.kn (ct H' k')
  · by_cases cb : c = "bit"
    · subst cb
      refine ⟨_, rfl, rfl, _, rfl, iteN (by decide +kernel) ?_⟩
      refine ⟨_, rfl, rfl, _, rfl, iteB (by decide +kernel) ⟨_, rfl, by show 2 ≤ 1000; decide, fun D1 h1 n1 => ?_⟩⟩
      refine ⟨_, rfl, D1, _, 0, _, rfl, rfl, SqL.of upd_same, rfl, rfl, _, rfl, iteN (by decide +kernel) ?_⟩
      have s1 := same_trans_new (o := .lst [.str "number", pp]) s0 h1
      obtain ⟨dp, tp', cp⟩ := phP.on (P' := (· ≠ R)) (fun _ _ q _ => q) (kp_same s1)
      refine go _ D1 pp "number" (.inl (cN, pp)) dp s1 (ne_free (s0 _ _ hR) h1) upd_same (fun H' k' => ?_) (.nm pp) (tp' _ trivial)
      exact .at_ z1 z8 (seq_lst (k' _ _ nWR (s1 _ _ hW)) l50' fns) lw good ((tp' false trivial).on (P' := (· ≠ R)) (fun _ _ q _ => q) k').sh.kn (cp H' k')
    · refine ⟨_, rfl, rfl, _, rfl, iteN (isW_no cw) ?_⟩
      refine ⟨_, rfl, rfl, _, rfl, iteN (isW_no cb) ?_⟩
      refine ⟨_, rfl, D0, _, 0, _, rfl, rfl, SqL.of upd_same, rfl, rfl, _, rfl, iteB (by decide +kernel) ?_⟩
      by_cases c1 : c ∈ W1
      · have e1 : ns.length = 1 := by rw [wanted1 c1] at lns; omega
        obtain ⟨a, rfl⟩ : ∃ a, ns = [a] := by
          match ns, e1 with
          | [a], _ => exact ⟨a, rfl⟩
        have ha := hns a List.mem_cons_self
        have hm : c = "not" := by
          unfold W1 at c1
          simp only [List.mem_cons, List.not_mem_nil, or_false] at c1
          rcases c1 with e | e | e
          · exact e
          · exact absurd e cw
          · exact absurd e cb
        refine ⟨_, rfl, _, rfl, _, rfl, c, z, a, a, 1, 0, Wa, [a], rfl, z1, z8, SqL.of (s0 _ _ hW), rfl, rfl, (fun n => absurd c1 n), by decide, (fun e => absurd e cb), fun H2 s2 => ⟨by show 2 ≤ 1000; decide, fun D1 h1 n1 => ?_⟩⟩
        have s1 := same_trans_new (o := .lst [.str "told", .int (dueR c z a a 1 0)]) (s0.trans s2) h1
        refine go _ D1 (.int (dueR c z a a 1 0)) "told" (.inr (dueR c z a a 1 0)) _ s1 (ne_free ((s0.trans s2) _ _ hR) h1) upd_same (fun H' k' => ?_) (.told _) (.flat (x := .int _) (decide_eq_true (due_small c a a 1 0 z8)))
        rw [due_one c1 z1 ha.1 ha.2 (fun e => absurd e cb)]
        have e2 : oneR c z a (.int 1) (.int 0) = oneR c z a tl pp := by rw [hm, oneR_not, oneR_not]
        rw [e2]
        exact .one c1 z1 z8 (seq_lst (k' _ _ nWR (s1 _ _ hW)) l50' fns) good (fun e => absurd e cw) (fun e => absurd e cb)
      · have e1 : ns.length = 2 := by rw [wanted2 c1] at lns; omega
        obtain ⟨a, b, rfl⟩ : ∃ a b, ns = [a, b] := by
          match ns, e1 with
          | [a, b], _ => exact ⟨a, b, rfl⟩
        have ha := hns a List.mem_cons_self
        have hb := hns b (List.mem_cons_of_mem _ List.mem_cons_self)
        refine ⟨_, rfl, _, rfl, _, rfl, c, z, a, b, 1, 0, Wa, [a, b], rfl, z1, z8, SqL.of (s0 _ _ hW), rfl, rfl, (fun _ => rfl), by decide, (fun e => absurd e cb), fun H2 s2 => ⟨by show 2 ≤ 1000; decide, fun D1 h1 n1 => ?_⟩⟩
        have s1 := same_trans_new (o := .lst [.str "told", .int (dueR c z a b 1 0)]) (s0.trans s2) h1
        refine go _ D1 (.int (dueR c z a b 1 0)) "told" (.inr (dueR c z a b 1 0)) _ s1 (ne_free ((s0.trans s2) _ _ hR) h1) upd_same (fun H' k' => ?_) (.told _) (.flat (x := .int _) (decide_eq_true (due_small c a b 1 0 z8)))
        rw [due_two hc c1 ha.1 ha.2 hb.1 hb.2]
        exact .two hc c1 z1 z8 (seq_lst (k' _ _ nWR (s1 _ _ hW)) l50' fns) good
end
end P3
end Bf

namespace Bf
open PySem PySem.Spec PyProof.Rows L2
theorem disp4 {H : Hp} {a1 a2 a3 a4 : Addr} {o1 o2 o3 o4 : HO} (h1 : H a1 = none) (h2 : upd H a1 o1 a2 = none) (h3 : upd (upd H a1 o1) a2 o2 a3 = none) (h4 : upd (upd (upd H a1 o1) a2 o2) a3 o3 a4 = none) :
    H a2 = none ∧ H a3 = none ∧ H a4 = none ∧ (upd (upd (upd (upd H a1 o1) a2 o2) a3 o3) a4 o4) a1 = some o1 ∧ (upd (upd (upd (upd H a1 o1) a2 o2) a3 o3) a4 o4) a2 = some o2 ∧
      (upd (upd (upd (upd H a1 o1) a2 o2) a3 o3) a4 o4) a3 = some o3 ∧ (upd (upd (upd (upd H a1 o1) a2 o2) a3 o3) a4 o4) a4 = some o4 ∧ ∀ b, b ≠ a1 → b ≠ a2 → b ≠ a3 → b ≠ a4 → (upd (upd (upd (upd H a1 o1) a2 o2) a3 o3) a4 o4) b = H b := by
  have s1 : Same H (upd H a1 o1) := P3.same_new h1
  have s2 : Same (upd H a1 o1) (upd (upd H a1 o1) a2 o2) := P3.same_new h2
  have s3 : Same (upd (upd H a1 o1) a2 o2) (upd (upd (upd H a1 o1) a2 o2) a3 o3) := P3.same_new h3
  have s4 : Same (upd (upd (upd H a1 o1) a2 o2) a3 o3) (upd (upd (upd (upd H a1 o1) a2 o2) a3 o3) a4 o4) := P3.same_new h4
  exact ⟨s1.free h2, (s1.trans s2).free h3, ((s1.trans s2).trans s3).free h4, ((s2.trans s3).trans s4) _ _ upd_same, (s3.trans s4) _ _ upd_same, s4 _ _ upd_same, upd_same,
    fun b n1 n2 n3 n4 => by rw [upd_ne n4, upd_ne n3, upd_ne n2, upd_ne n1]⟩
theorem disp7 {H : Hp} {a1 a2 a3 a4 a5 a6 a7 : Addr} {o1 o2 o3 o4 o5 o6 o7 : HO} (h1 : H a1 = none) (h2 : upd H a1 o1 a2 = none) (h3 : upd (upd H a1 o1) a2 o2 a3 = none) (h4 : upd (upd (upd H a1 o1) a2 o2) a3 o3 a4 = none)
    (h5 : upd (upd (upd (upd H a1 o1) a2 o2) a3 o3) a4 o4 a5 = none) (h6 : upd (upd (upd (upd (upd H a1 o1) a2 o2) a3 o3) a4 o4) a5 o5 a6 = none) (h7 : upd (upd (upd (upd (upd (upd H a1 o1) a2 o2) a3 o3) a4 o4) a5 o5) a6 o6 a7 = none) :
    ∃ G, G = upd (upd (upd (upd (upd (upd (upd H a1 o1) a2 o2) a3 o3) a4 o4) a5 o5) a6 o6) a7 o7 ∧ Same H G ∧ H a2 = none ∧ H a3 = none ∧ H a4 = none ∧ H a5 = none ∧ H a6 = none ∧ H a7 = none ∧
      G a1 = some o1 ∧ G a2 = some o2 ∧ G a3 = some o3 ∧ G a4 = some o4 ∧ G a5 = some o5 ∧ G a6 = some o6 ∧ G a7 = some o7 := by
  obtain ⟨f2, f3, f4, g1, g2, g3, g4, _⟩ := disp4 (o4 := o4) h1 h2 h3 h4
  have s4 : Same H (upd (upd (upd (upd H a1 o1) a2 o2) a3 o3) a4 o4) := (((P3.same_new h1).trans (P3.same_new h2)).trans (P3.same_new h3)).trans (P3.same_new h4)
  have s5 : Same (upd (upd (upd (upd H a1 o1) a2 o2) a3 o3) a4 o4) (upd (upd (upd (upd (upd H a1 o1) a2 o2) a3 o3) a4 o4) a5 o5) := P3.same_new h5
  have s6 : Same (upd (upd (upd (upd (upd H a1 o1) a2 o2) a3 o3) a4 o4) a5 o5) (upd (upd (upd (upd (upd (upd H a1 o1) a2 o2) a3 o3) a4 o4) a5 o5) a6 o6) := P3.same_new h6
  have s7 : Same (upd (upd (upd (upd (upd (upd H a1 o1) a2 o2) a3 o3) a4 o4) a5 o5) a6 o6) (upd (upd (upd (upd (upd (upd (upd H a1 o1) a2 o2) a3 o3) a4 o4) a5 o5) a6 o6) a7 o7) := P3.same_new h7
  have s67 := s6.trans s7
  have s57 := s5.trans s67
  exact ⟨_, rfl, s4.trans s57, f2, f3, f4, s4.free h5, (s4.trans s5).free h6, ((s4.trans s5).trans s6).free h7, s57 _ _ g1, s57 _ _ g2, s57 _ _ g3, s57 _ _ g4, s67 _ _ upd_same, s7 _ _ upd_same, upd_same⟩
namespace P3
section
variable {P : Program} {w : World} {K : PySem.W.Frag} {mg : Str → Option Value} {base : Heap} {cP cW cS cN : Addr}
/-- the rows -/
theorem ref_rows {f fa fu : Addr} {fda fdu : FuncData} (L : Lp P w K mg base cP cW cS cN fa fda) (DU : Df K mg "_law_due" fu fdu pDue) (GU : FnOk P w K mg base CX0 4 fu fdu pDue (spDue K)) {cdv : Value} {A : Around} {outer : List Env} {s : Shared} {H0 : Hp} {E : XK} (hA : A.guards = some [])
    (hr : Room 6 (A.deeper (envOfC "_law_refused_right" (defScope sRef) s.heap.objs.size f cdv))) :
    ∃ t, PSs (xRef P w K mg base f cdv A outer s H0 E) ((defBody sRef).drop 7) t ∧ ∀ (D : Ends) (σ : L2.St) (H : Hp) (P0 : Addr → Prop) (c : Str) (z : Int) (Wa : Addr) (od wi bd tl pp : V) (ns : List Int) (u0 u6 u10 u11 u12 u13 u14 u15 u16 u17 u18 : Option V),
      σ = [u0, some (.str c), some (.int z), some (.ref Wa), some od, some wi, u6, some bd, some tl, some pp, u10, u11, u12, u13, u14, u15, u16, u17, u18] →
      c ∈ WD → 1 ≤ z → z ≤ 8 → H Wa = some (.lst (ns.map V.int)) → ((ns.length : Nat) : Int) = wanted c → (∀ i ∈ ns, 0 ≤ i ∧ i ≤ topW z) → Phi (· = true) P0 (fun v _ => inV v (WD.map V.str) = false) od H → Phi (· = true) P0 (fun v _ => wholeB v 1 8 = false) wi H → Phi (· = true) P0 (fun v G => BadW K G c z v) bd H →
      Phi (fun _ => True) P0 (fun v _ => wholeB v 1 8 = false) tl H → Phi (fun _ => True) P0 (fun v _ => wholeB v 0 (z - 1) = false) pp H →
      (∀ H', Same H H' → D.rt (.bl true) H') → t D σ H := by
  obtain ⟨tl', hl, due⟩ := ref_due (outer := outer) (H0 := H0) (E := E) L DU GU hA hr
  refine ⟨_, pss_cons (ps_set (i := 10) scRef.nd rfl (Or.inl rfl) (pe_lstN (pa_cons (pe_tup (pa_cons (pv 4) (pa_cons (pv 5) (pa_cons (pv 7) (pa_cons (pe_tup (pa_cons (pv 8) (pa_cons (pv 9) pa_nil))) (pa_cons (pe_lstN (pa_cons pe_str (pa_cons (pv 4) pa_nil))) pa_nil))))))
      (pa_cons (pe_tup (pa_cons (pv 1) (pa_cons (pv 5) (pa_cons (pv 7) (pa_cons (pe_tup (pa_cons (pv 8) (pa_cons (pv 9) pa_nil))) (pa_cons (pe_lstN (pa_cons pe_str (pa_cons (pv 5) pa_nil))) pa_nil)))))) pa_nil))))
    (pss_cons (ps_expr (pe_bm PySem.F.plainAttrs_list PySem.F.slot_list_append PySem.F.type_list_append mt_append (pv 10) (pa_cons (pe_tup (pa_cons (pv 1) (pa_cons (pv 2) (pa_cons (pv 7) (pa_cons (pe_tup (pa_cons (pv 8) (pa_cons (pv 9) pa_nil))) (pa_cons (pe_lstN (pa_cons pe_str (pa_cons (pv 7) pa_nil))) pa_nil)))))) pa_nil))) hl), ?_⟩
  intro D σ H P0 c z Wa od wi bd tl pp ns u0 u6 u10 u11 u12 u13 u14 u15 u16 u17 u18 eσ hc z1 z8 hW lns hns phO phI phB phT phP fin
  subst eσ
  have okc : okF (.str c) = true := by
    have all : ∀ c ∈ WD, okF (.str c) = true := by decide +kernel
    exact all c hc
  have okz : okF (.int z) = true := decide_eq_true (by omega)
  refine ⟨_, rfl, _, rfl, _, rfl, _, rfl, _, rfl, by show 2 ≤ sizeLine; decide, fun m1 i1 => ⟨_, rfl, by show 2 ≤ 1000; decide, fun d1 i2 l2 => ⟨by show 5 ≤ sizeLine; decide, fun t1 i3 => ⟨_, rfl, _, rfl, _, rfl, _, rfl, _, rfl, by show 2 ≤ sizeLine; decide, fun m2 i4 =>
    ⟨_, rfl, by show 2 ≤ 1000; decide, fun d2 i5 l5 => ⟨by show 5 ≤ sizeLine; decide, fun t2 i6 => ⟨by show 2 ≤ 1000; decide, fun R i7 l7 => ?_⟩⟩⟩⟩⟩⟩⟩
  obtain ⟨G, eG, sG, f2, f3, f4, f5, f6, f7, g1, g2, g3, g4, g5, g6, g7⟩ := disp7 (o7 := .lst [.ref t1, .ref t2]) i1 i2 i3 i4 i5 i6 i7
  rw [← eG]
  have nR : ∀ {a : Addr} {o : HO}, H a = some o → a ≠ R := fun h e => by rw [e, f7] at h; cases h
  have onG : ∀ {B : Bool → Prop} {Pr : V → Hp → Prop} {v : V}, Phi B P0 Pr v H → Phi B (· ≠ R) Pr v G := fun h => h.on (fun a o _ e => nR e) (kp_same sG)
  have pO := onG phO
  have pI := onG phI
  have pB := onG phB
  have pT := onG phT
  have pP := onG phP
  clear eG i1 i2 i3 i4 i5 i6 i7
  refine ⟨_, rfl, .inl ⟨rfl, _, SqL.of g7⟩, _, rfl, _, rfl, _, rfl, _, rfl, _, rfl, by show 2 ≤ sizeLine; decide, fun m3 j1 => ⟨_, rfl, by show 2 ≤ 1000; decide, fun d3 j2 k2 => ⟨by show 5 ≤ sizeLine; decide, fun t3 j3 => ?_⟩⟩⟩
  have s1 : Same G (upd G m3 (.tup [tl, pp])) := same_new j1
  have s2 := same_trans_new (o := .lst [.str "worths", bd]) s1 j2
  have s3 := same_trans_new (o := .tup [.str c, .int z, bd, .ref m3, .ref d3]) s2 j3
  have q3 : (upd (upd (upd G m3 (.tup [tl, pp])) d3 (.lst [.str "worths", bd])) t3 (.tup [.str c, .int z, bd, .ref m3, .ref d3])) R = some (.lst [.ref t1, .ref t2]) := s3 _ _ g7
  refine ⟨R, _, _, rfl, rfl, q3, by show 2 < sizeLine; decide, ?_⟩
  obtain ⟨F, eF⟩ : ∃ F, F = upd (upd (upd (upd G m3 (.tup [tl, pp])) d3 (.lst [.str "worths", bd])) t3 (.tup [.str c, .int z, bd, .ref m3, .ref d3])) R (.lst ([.ref t1, .ref t2] ++ [.ref t3])) := ⟨_, rfl⟩
  have m3R : m3 ≠ R := ne_free g7 j1
  have d3R : d3 ≠ R := ne_free (s1 _ _ g7) j2
  have t3R : t3 ≠ R := ne_free (s2 _ _ g7) j3
  have e1 : F m3 = some (.tup [tl, pp]) := by rw [eF, upd_ne m3R]; exact (same_new j3) _ _ ((same_new j2) _ _ upd_same)
  have e2 : F d3 = some (.lst [.str "worths", bd]) := by rw [eF, upd_ne d3R]; exact (same_new j3) _ _ upd_same
  have e3 : F t3 = some (.tup [.str c, .int z, bd, .ref m3, .ref d3]) := by rw [eF, upd_ne t3R]; exact upd_same
  have eR : F R = some (.lst [.ref t1, .ref t2, .ref t3]) := by rw [eF, upd_same]; rfl
  have kF : Kp (· ≠ R) G F := fun a o q h => by rw [eF, upd_ne q]; exact s3 _ _ h
  rw [← eF]
  clear eF q3 j1 j2 j3 s1 s2 s3
  have onF : ∀ {B : Bool → Prop} {Pr : V → Hp → Prop} {v : V}, Phi B (· ≠ R) Pr v G → Phi B (· ≠ R) Pr v F := fun h => h.on (fun _ _ q _ => q) kF
  obtain ⟨dO, tO, cO⟩ := onF pO
  obtain ⟨dI, tI, cI⟩ := onF pI
  obtain ⟨dB, tB, cB⟩ := onF pB
  obtain ⟨dT, tT, cT⟩ := onF pT
  obtain ⟨dQ, tQ, cQ⟩ := onF pP
  have nt1 : t1 ≠ R := fun e => by rw [e, g7] at g3; cases g3
  have nt2 : t2 ≠ R := fun e => by rw [e, g7] at g6; cases g6
  have nm1 : m1 ≠ R := fun e => by rw [e, g7] at g1; cases g1
  have nm2 : m2 ≠ R := fun e => by rw [e, g7] at g4; cases g4
  have nd1 : d1 ≠ R := fun e => by rw [e, g7] at g2; cases g2
  have nd2 : d2 ≠ R := fun e => by rw [e, g7] at g5; cases g5
  refine due D _ F c z Wa R tl pp (.ref t1) (.ref t2) (.ref t3) ns _ _ _ _ _ _ _ _ _ _ _ _ _ rfl eR (fun v mv => ⟨true, ?_⟩) hc z1 z8 (kF _ _ (nR hW) (sG _ _ hW)) (nR hW) lns hns (onF pT) (onF pP) fun H' k' => fin H' fun a o h => k' a o (nR h) (kF a o (nR h) (sG a o h))
  simp only [List.mem_cons, List.not_mem_nil, or_false] at mv
  rcases mv with rfl | rfl | rfl
  · exact ⟨t1, d1, m1, od, wi, bd, tl, pp, od, "op", .inl (cP, od), dO, dI, dB, dT, dQ, dO, rfl, kF _ _ nt1 g3, kF _ _ nm1 g1, kF _ _ nd1 g2, nt1, nm1, nd1, fun _ => l2,
      fun H' k' => .op ((tO true rfl).on (P' := (· ≠ R)) (fun _ _ q _ => q) k').odd (cO H' k'), .op od, tO true rfl, tI true rfl, tB true rfl, tT true trivial, tQ true trivial, tO true rfl⟩
  · exact ⟨t2, d2, m2, .str c, wi, bd, tl, pp, wi, "width", .inl (cW, wi), _, dI, dB, dT, dQ, dI, rfl, kF _ _ nt2 g6, kF _ _ nm2 g4, kF _ _ nd2 g5, nt2, nm2, nd2, fun _ => l5,
      fun H' k' => .wd hc ((tI true rfl).on (P' := (· ≠ R)) (fun _ _ q _ => q) k').sh.kn (cI H' k'), .wd wi, .flat okc, tI true rfl, tB true rfl, tT true trivial, tQ true trivial, tI true rfl⟩
  · exact ⟨t3, d3, m3, .str c, .int z, bd, tl, pp, bd, "worths", .inl (cS, bd), _, _, dB, dT, dQ, dB, rfl, e3, e1, e2, t3R, m3R, d3R, fun _ => k2,
      fun H' k' => .ws hc z1 z8 (cB H' k'), .ws bd, .flat okc, .flat okz, tB true rfl, tT true trivial, tQ true trivial, tB true rfl⟩
end
end P3
end Bf

namespace Bf
open PySem PySem.Spec PyProof.Rows L2
section
variable {σ : L2.St} {Φ : V → Hp → Prop} {G : Hp}
theorem mks_neg {n : Int} (h : Φ (.int (-n)) G) : Mks (tUn (rU fun i => .int (-i)) (tC (.int n))) σ G Φ := fun _ q => ⟨n, rfl, q _ G (Same.refl G) h⟩
theorem mks_var {i : Nat} {v : V} (e : σ[i]? = some (some v)) (h : Φ v G) : Mks (tVar i) σ G Φ := fun _ q => ⟨v, e, q v G (Same.refl G) h⟩
end
namespace P3
theorem not_good {z : Int} {xs : List V} (h : ∃ y ∈ xs, wholeB y 0 (topW z) = false) : goodB z xs = false := by
  unfold goodB
  rw [List.all_eq_false]
  obtain ⟨y, m, e⟩ := h
  exact ⟨_, List.mem_map.mpr ⟨y, m, rfl⟩, by rw [e]; simp⟩
section
variable {K : PySem.W.Frag} {p : Addr} {c : Str} {z : Int}
abbrev PhB (K : PySem.W.Frag) (p : Addr) (c : Str) (z : Int) : V → Hp → Prop := Phi (· = true) (· ≠ p) fun v G => BadW K G c z v
theorem bad_lst {a : Addr} {xs : List V} {G : Hp} (h : G a = some (.lst xs)) (n : a ≠ p) (na : a ≠ sysModules) (hl : xs.length ≤ 50) (hf : ∀ x ∈ xs, okF x = true) (b : ((xs.length : Nat) : Int) ≠ wanted c ∨ (((xs.length : Nat) : Int) = wanted c ∧ ∃ y ∈ xs, wholeB y 0 (topW z) = false)) : PhB K p c z (.ref a) G :=
  .fl h n na hl hf fun G' g => b.elim (fun q => .ln (seq_lst g hl hf) q) fun q => .bd (seq_lst g hl hf) q.1 (not_good q.2)
theorem bad_tup {a : Addr} {xs : List V} {G : Hp} (h : G a = some (.tup xs)) (n : a ≠ p) (hl : xs.length ≤ 50) (hf : ∀ x ∈ xs, okF x = true) (b : (((xs.length : Nat) : Int) = wanted c ∧ ∃ y ∈ xs, wholeB y 0 (topW z) = false)) : PhB K p c z (.ref a) G :=
  .tf h n hl hf fun G' g => .bd (seq_tup g hl hf) b.1 (not_good b.2)
/-- the worths that are handed in: all of them, all but the first, all but the last -/
structure Ws (c : Str) (z : Int) (W X1 X2 : List V) : Prop where
  e1 : cutV W (some 1) none = X1
  e2 : cutV W none (some (-1)) = X2
  fW : ∀ x ∈ W, okF x = true
  f1 : ∀ x ∈ X1, okF x = true
  f2 : ∀ x ∈ X2, okF x = true
  lW : ((W.length : Nat) : Int) = wanted c
  l1 : X1.length + 1 = W.length
  l2 : X2.length + 1 = W.length
  le : W.length ≤ 2
theorem ws_of {c : Str} {z : Int} {ns : List Int} (l : ((ns.length : Nat) : Int) = wanted c) (hf : ∀ x ∈ ns.map V.int, okF x = true) : ∃ X1 X2, Ws c z (ns.map V.int) X1 X2 := by
  have w12 : wanted c = 1 ∨ wanted c = 2 := by unfold wanted; split <;> simp
  match ns, l, hf with
  | [], l, _ => exact absurd l (by simp; omega)
  | [a], l, hf => exact ⟨[], [], ⟨rfl, rfl, hf, (fun _ m => nomatch m), (fun _ m => nomatch m), by rw [List.length_map]; exact l, rfl, rfl, by simp⟩⟩
  | [a, b], l, hf => exact ⟨[.int b], [.int a], ⟨rfl, rfl, hf, fun x m => hf x (List.mem_cons_of_mem _ m), fun x m => hf x (by rw [List.mem_singleton.mp m]; exact List.mem_cons_self), by rw [List.length_map]; exact l, rfl, rfl, by simp⟩⟩
  | a :: b :: d :: r, l, _ => exact absurd l (by simp; omega)
theorem flat_app {xs ys : List V} (h1 : ∀ x ∈ xs, okF x = true) (h2 : ∀ x ∈ ys, okF x = true) : ∀ x ∈ xs ++ ys, okF x = true := fun x m => (List.mem_append.mp m).elim (h1 x) (h2 x)
/-- what is seen of the heap while the things are made -/
structure Jw (p Wa : Addr) (o : HO) (W : List V) (G : Hp) : Prop where
  hp : G p = some o
  hW : G Wa = some (.lst W)
theorem Jw.same {p Wa : Addr} {o : HO} {W : List V} {G G' : Hp} (s : Same G G') (j : Jw p Wa o W G) : Jw p Wa o W G' := ⟨s _ _ j.hp, s _ _ j.hW⟩
variable {σ : L2.St} {Wa : Addr} {o : HO} {W X1 X2 : List V} {T : Int} {G : Hp}
theorem bad1 (w : Ws c z W X1 X2) (hσ : σ[3]? = some (some (.ref Wa))) (j : Jw p Wa o W G) : Mks (tOp rCatN (tVar 3) (tLst (tCons (tC (.int 0)) tNil))) σ G (PhB K p c z) := fun Q q => by
  have lW := w.lW
  have le := w.le
  refine ⟨_, hσ, by show 1 ≤ sizeLine; decide, fun l hl => ⟨Wa, l, _, _, rfl, rfl, (same_new hl) _ _ j.hW, upd_same, Nat.le_trans (show W.length + 1 ≤ 3 by omega) (by decide), fun a ha na => ?_⟩⟩
  have s1 : Same G (upd G l (.lst [.int 0])) := same_new hl
  have s2 := same_trans_new (o := .lst (W ++ [.int 0])) s1 ha
  exact q _ _ s2 (bad_lst upd_same (ne_free (s1 _ _ j.hp) ha) na (by rw [List.length_append]; simp; omega) (flat_app w.fW fun x m => by rw [List.mem_singleton.mp m]; decide +kernel) (.inl (by rw [List.length_append]; simp; omega)))
theorem bad2 (w : Ws c z W X1 X2) (hσ : σ[3]? = some (some (.ref Wa))) (j : Jw p Wa o W G) : Mks (tSl (rSlN K) (tVar 3) (tPart (tC (.int 1))) tNoPart) σ G (PhB K p c z) := fun Q q => by
  have lW := w.lW
  have l1 := w.l1
  have le := w.le
  refine ⟨_, hσ, 1, rfl, Wa, _, rfl, SqL.of j.hW, fun a ha na => ?_⟩
  rw [w.e1]
  exact q _ _ (same_new ha) (bad_lst upd_same (ne_free j.hp ha) na (by omega) w.f1 (.inl (by omega)))
theorem bad3 (w : Ws c z W X1 X2) (hσ : σ[3]? = some (some (.ref Wa))) (hT : σ[6]? = some (some (.int T))) (t1 : topW z < T) (t2 : T ≤ 256) (t0 : 0 ≤ T) (j : Jw p Wa o W G) :
    Mks (tOp rCatN (tLst (tCons (tVar 6) tNil)) (tSl (rSlL K) (tVar 3) (tPart (tC (.int 1))) tNoPart)) σ G (PhB K p c z) := fun Q q => by
  have lW := w.lW
  have l1 := w.l1
  have le := w.le
  refine ⟨_, hT, by show 1 ≤ sizeLine; decide, fun l hl => ⟨_, hσ, 1, rfl, Wa, _, rfl, SqL.of ((same_new hl) _ _ j.hW), fun r hr => ?_⟩⟩
  rw [w.e1]
  have s1 : Same G (upd G l (.lst [.int T])) := same_new hl
  have s2 := same_trans_new (o := .lst X1) s1 hr
  refine ⟨l, r, _, _, rfl, rfl, (same_new hr) _ _ upd_same, upd_same, Nat.le_trans (show 1 + X1.length ≤ 3 by omega) (by decide), fun a ha na => ?_⟩
  have s3 := same_trans_new (o := .lst ([.int T] ++ X1)) s2 ha
  exact q _ _ s3 (bad_lst upd_same (ne_free (s2 _ _ j.hp) ha) na (by rw [List.length_append]; simp; omega) (flat_app (fun x m => by rw [List.mem_singleton.mp m]; exact decide_eq_true (by omega)) w.f1)
    (.inr ⟨by rw [List.length_append]; simp; omega, .int T, List.mem_cons_self, by
      show (decide (0 ≤ T) && decide (T ≤ topW z)) = false
      rw [decide_eq_false (show ¬ T ≤ topW z by omega), Bool.and_false]⟩))
theorem bad4 (w : Ws c z W X1 X2) (hσ : σ[3]? = some (some (.ref Wa))) (j : Jw p Wa o W G) :
    Mks (tOp rCatN (tSl (rSlL K) (tVar 3) tNoPart (tPart (tUn (rU fun i => .int (-i)) (tC (.int 1))))) (tLst (tCons (tC (.bl true)) tNil))) σ G (PhB K p c z) := fun Q q => by
  have lW := w.lW
  have l2 := w.l2
  have le := w.le
  refine ⟨_, hσ, 1, rfl, -1, rfl, Wa, _, rfl, SqL.of j.hW, fun r hr => ?_⟩
  rw [w.e2]
  have s1 : Same G (upd G r (.lst X2)) := same_new hr
  refine ⟨by show 1 ≤ sizeLine; decide, fun l hl => ⟨r, l, _, _, rfl, rfl, (same_new hl) _ _ upd_same, upd_same, Nat.le_trans (show X2.length + 1 ≤ 3 by omega) (by decide), fun a ha na => ?_⟩⟩
  have s2 := same_trans_new (o := .lst [.bl true]) s1 hl
  have s3 := same_trans_new (o := .lst (X2 ++ [.bl true])) s2 ha
  exact q _ _ s3 (bad_lst upd_same (ne_free (s2 _ _ j.hp) ha) na (by rw [List.length_append]; simp; omega) (flat_app w.f2 fun x m => by rw [List.mem_singleton.mp m]; rfl)
    (.inr ⟨by rw [List.length_append]; simp; omega, .bl true, List.mem_append.mpr (.inr List.mem_cons_self), rfl⟩))
theorem bad8 (w : Ws c z W X1 X2) (hσ : σ[3]? = some (some (.ref Wa))) (j : Jw p Wa o W G) :
    Mks (tOp rRepN (tLst (tCons (tC .non) tNil)) (tCB (rLen K) (tCons (tVar 3) tNil))) σ G (PhB K p c z) := fun Q q => by
  have lW := w.lW
  have l2 := w.l2
  have le := w.le
  refine ⟨by show 1 ≤ sizeLine; decide, fun l hl => ⟨_, hσ, Wa, _, rfl, .inl (SqL.of ((same_new hl) _ _ j.hW)), l, _, _, rfl, rfl, upd_same, by omega, by omega, Nat.le_trans (show 1 * ((W.length : Nat) : Int).toNat ≤ 3 by omega) (by decide), fun a ha na => ?_⟩⟩
  have s1 : Same G (upd G l (.lst [.non])) := same_new hl
  have s2 := same_trans_new (o := .lst (List.replicate ((W.length : Nat) : Int).toNat [V.non]).flatten) s1 ha
  have e : (List.replicate ((W.length : Nat) : Int).toNat [V.non]).flatten = List.replicate W.length V.non := by
    rw [Int.toNat_natCast, List.flatten_replicate_singleton]
  rw [e] at s2 ⊢
  exact q _ _ s2 (bad_lst upd_same (ne_free (s1 _ _ j.hp) ha) na (by rw [List.length_replicate]; omega) (fun x m => by rw [(List.mem_replicate.mp m).2]; rfl)
    (.inr ⟨by rw [List.length_replicate]; omega, .non, List.mem_replicate.mpr ⟨by omega, rfl⟩, rfl⟩))
/-- the list of bad worths, one more put to it: a tuple -/
theorem bad9 {L : Addr} {vs : List V} (w : Ws c z W X1 X2) (hσ : σ[3]? = some (some (.ref Wa))) (hL : σ[7]? = some (some (.ref L))) (j : Jw p Wa o W G) (gL : G L = some (.lst vs)) (lv : vs.length = 8) (hv : ∀ x ∈ vs, PhB K p c z x G) :
    Mks (tOp rCat (tVar 7) (tLst (tCons (tOp (rCatA K) (tCB (fun xs H Q => ∃ p ys, xs = [.ref p] ∧ ((SqL K H p ys ∧ ∀ l, H l = none → Q (.ref l) (upd H l (.tup ys))) ∨ (SqT K H p ys ∧ Q (.ref p) H))) (tCons (tSl (rSlL K) (tVar 3) tNoPart (tPart (tUn (rU fun i => .int (-i)) (tC (.int 1))))) tNil))
      (tTup (tCons (tUn (rU fun i => .int (-i)) (tC (.int 1))) tNil))) tNil))) σ G (LstOf p 9 (PhB K p c z)) := fun Q q => by
  have lW := w.lW
  have l2 := w.l2
  have le := w.le
  refine ⟨_, hL, _, hσ, 1, rfl, -1, rfl, Wa, _, rfl, SqL.of j.hW, fun r hr => ?_⟩
  rw [w.e2]
  have s1 : Same G (upd G r (.lst X2)) := same_new hr
  refine ⟨r, X2, rfl, .inl ⟨SqL.of upd_same, fun t ht => ?_⟩⟩
  have s2 := same_trans_new (o := .tup X2) s1 ht
  refine ⟨1, rfl, by show 1 ≤ sizeLine; decide, fun u hu => ?_⟩
  have s3 := same_trans_new (o := .tup [.int (-1)]) s2 hu
  have fN : ∀ x ∈ [V.int (-1)], okF x = true := fun x m => by rw [List.mem_singleton.mp m]; decide +kernel
  -- from the tuple on
  have go : ∀ (a : Addr) (F : Hp), Same G F → F a = some (.tup (X2 ++ [.int (-1)])) → a ≠ p → ([V.ref a] : List V).length ≤ sizeLine ∧ ∀ m, F m = none → rCat (.ref L) (.ref m) (upd F m (.lst [.ref a])) Q := fun a F sF ga nap => by
    refine ⟨by show 1 ≤ sizeLine; decide, fun m hm => ⟨L, m, vs, _, rfl, rfl, (same_new hm) _ _ (sF _ _ gL), upd_same, Nat.le_trans (show vs.length + 1 ≤ 9 by omega) (by decide), fun M hM => ?_⟩⟩
    have s5 := same_trans_new (o := .lst [.ref a]) sF hm
    have s6 := same_trans_new (o := .lst (vs ++ [.ref a])) s5 hM
    refine q _ _ s6 ⟨M, _, rfl, upd_same, ne_free (s5 _ _ j.hp) hM, by rw [List.length_append, lv]; rfl, fun x mx => ?_⟩
    rcases List.mem_append.mp mx with mx | mx
    · exact (hv x mx).on (fun _ _ q _ => q) (kp_same s6)
    · rw [List.mem_singleton.mp mx]
      have ga6 := (same_new (o := .lst (vs ++ [.ref a])) hM) _ _ ((same_new (o := .lst [.ref a]) hm) _ _ ga)
      exact bad_tup ga6 nap (by rw [List.length_append]; simp; omega) (flat_app w.f2 fN) ⟨by rw [List.length_append]; simp; omega, .int (-1), List.mem_append.mpr (.inr List.mem_cons_self), by
        show (decide ((0 : Int) ≤ -1) && decide ((-1 : Int) ≤ topW z)) = false
        rw [decide_eq_false (show ¬ (0 : Int) ≤ -1 by decide), Bool.false_and]⟩
  refine ⟨t, u, X2, [.int (-1)], rfl, rfl, SqT.of ((same_new hu) _ _ upd_same), SqT.of upd_same, Nat.le_trans (show X2.length + 1 ≤ 3 by omega) (by decide), fun e => ?_, fun _ e => (nomatch e), fun _ _ a ha => ?_⟩
  · subst e
    exact go u _ s3 upd_same (ne_free (s2 _ _ j.hp) hu)
  · exact go a _ (same_trans_new s3 ha) upd_same (ne_free (s3 _ _ j.hp) ha)
end
end P3
end Bf

namespace Bf
open PySem PySem.Spec PyProof.Rows L2
theorem phi_same {B : Bool → Prop} {p : Addr} {Pr : V → Hp → Prop} (v : V) (G G' : Hp) (s : Same G G') (h : Phi B (· ≠ p) Pr v G) : Phi B (· ≠ p) Pr v G' := h.on (fun _ _ q _ => q) (kp_same s)
theorem phi_kp {B : Bool → Prop} {p : Addr} {Pr : V → Hp → Prop} (v : V) (G G' : Hp) (s : Kp (· ≠ p) G G') (h : Phi B (· ≠ p) Pr v G) : Phi B (· ≠ p) Pr v G' := h.on (fun _ _ q _ => q) s
namespace P3
section
variable {P : Program} {w : World} {K : PySem.W.Frag} {mg : Str → Option Value} {base : Heap} {cP cW cS cN : Addr}
def spRef : Sp := fun vs H Q _ => ∃ (p : Addr) (c : Str) (z n : Int) (Wa : Addr) (ns : List Int), vs = [.ref p, .str c, .int z, .ref Wa] ∧ c ∈ WD ∧ 1 ≤ z ∧ z ≤ 8 ∧ Purse H p n ∧ n ≤ 50000 ∧ H Wa = some (.lst (ns.map V.int)) ∧ Wa ≠ p ∧ ((ns.length : Nat) : Int) = wanted c ∧ (∀ i ∈ ns, 0 ≤ i ∧ i ≤ topW z) ∧
  ∀ H', Kp (· ≠ p) H H' → Purse H' p (n + 100) → Q (.bl true) H'
set_option maxHeartbeats 2000000 in
theorem ok_ref {f ft fa fu : Addr} {fd fdt fda fdu : FuncData} (F : Fun K "_law_refused_right" "_law_refused_right" sRef f fd) (DT : Df K mg "_law_take" ft fdt ["_law_purse_here", "_law_many"]) (GT : FnOk P w K mg base CX0 2 ft fdt ["_law_purse_here", "_law_many"] spTake)
    (L : Lp P w K mg base cP cW cS cN fa fda) (DU : Df K mg "_law_due" fu fdu pDue) (GU : FnOk P w K mg base CX0 4 fu fdu pDue (spDue K)) (ml : mg "len" = none) (mt : mg "tuple" = none) : FnG P w K mg base CX0 7 f fd pRef spRef := by
  refine Fun.okG F scRef (fun vs H Q E h => ?_) (fun cdv A outer s H vs Q E hA hr h => ?_)
  · obtain ⟨p, c, z, n, Wa, ns, rfl, _⟩ := h
    rfl
  · obtain ⟨p, c, z, n, Wa, ns, rfl, hc, z1, z8, pu, hn, hW, nWp, lns, hns, q⟩ := h
    have hr1 := hr.mono (by decide : 2 ≤ 6)
    obtain ⟨tm, hm, rows⟩ := ref_rows (cdv := cdv) (A := A) (outer := outer) (s := s) (H0 := H) (E := E) (f := f) L DU GU hA hr
    refine ⟨_, pss_cons (ps_set (i := 4) scRef.nd rfl (Or.inl rfl) (pe_ix ix_list (pe_lstN (pa_cons pe_non (pa_cons pe_int (pa_cons pe_str (pa_cons pe_str (pa_cons pe_str (pa_cons (pe_lstN (pa_cons pe_str pa_nil)) (pa_cons (pe_tup (pa_cons pe_str pa_nil)) (pa_cons pe_str (pa_cons pe_dnewK (pa_cons pe_bl pa_nil)))))))))))
          (pe_call GT hr1 (by rfl) DT.at_ DT.kp DT.bd .nil pass0 (pa_cons (pv 0) (pa_cons pe_int pa_nil))) (fun _ _ => rfl)))
      (pss_cons (ps_set (i := 5) scRef.nd rfl (Or.inl rfl) (pe_ix ix_list (pe_lstN (pa_cons pe_non (pa_cons pe_int (pa_cons pe_int (pa_cons pe_bl (pa_cons pe_str (pa_cons (pe_lstN (pa_cons pe_int pa_nil)) (pa_cons pe_dnewK (pa_cons (pe_un un_neg pe_int) pa_nil)))))))))
          (pe_call GT hr1 (by rfl) DT.at_ DT.kp DT.bd .nil pass0 (pa_cons (pv 0) (pa_cons pe_int pa_nil))) (fun _ _ => rfl)))
      (pss_cons (ps_set (i := 6) scRef.nd rfl (Or.inl rfl) (pe_op op_shl pe_int (pv 2)))
      (pss_cons (ps_set (i := 7) scRef.nd rfl (Or.inl rfl) (pe_lstN (pa_cons (pe_op op_catN (pv 3) (pe_lst (pa_cons pe_int pa_nil))) (pa_cons (pe_slice sl_listN (pv 3) (po_some pe_int) po_none)
          (pa_cons (pe_op op_catN (pe_lst (pa_cons (pv 6) pa_nil)) (pe_slice sl_list (pv 3) (po_some pe_int) po_none)) (pa_cons (pe_op op_catN (pe_slice sl_list (pv 3) po_none (po_some (pe_un un_neg pe_int))) (pe_lst (pa_cons pe_bl pa_nil)))
          (pa_cons pe_non (pa_cons pe_str (pa_cons pe_dnewK (pa_cons (pe_op op_repN (pe_lst (pa_cons pe_non pa_nil)) (pe_callB (lenK (K := K) rfl) (by rfl) ml PySem.boot_len (pa_cons (pv 3) pa_nil))) pa_nil))))))))))
      (pss_cons (ps_set (i := 7) scRef.nd rfl (Or.inl rfl) (pe_ix ix_list (pe_op op_cat (pv 7) (pe_lst (pa_cons (pe_op op_catA (pe_callTy call_tuple_of (by rfl) mt (by decide +kernel) (pa_cons (pe_slice sl_list (pv 3) po_none (po_some (pe_un un_neg pe_int))) pa_nil)) (pe_tup (pa_cons (pe_un un_neg pe_int) pa_nil))) pa_nil)))
          (pe_call GT hr1 (by rfl) DT.at_ DT.kp DT.bd .nil pass0 (pa_cons (pv 0) (pa_cons pe_int pa_nil))) (fun _ _ => rfl)))
      (pss_cons (ps_set (i := 8) scRef.nd rfl (Or.inl rfl) (pe_ix ix_list (pe_lstN (pa_cons pe_int (pa_cons pe_int (pa_cons pe_bl (pa_cons pe_non (pa_cons (pe_lstN (pa_cons pe_int pa_nil)) (pa_cons pe_str pa_nil)))))))
          (pe_call GT hr1 (by rfl) DT.at_ DT.kp DT.bd .nil pass0 (pa_cons (pv 0) (pa_cons pe_int pa_nil))) (fun _ _ => rfl)))
      (pss_cons (ps_set (i := 9) scRef.nd rfl (Or.inl rfl) (pe_ix ix_list (pe_lstN (pa_cons (pv 2) (pa_cons (pe_un un_neg pe_int) (pa_cons pe_bl (pa_cons pe_non (pa_cons (pe_lstN (pa_cons pe_int pa_nil)) (pa_cons pe_int pa_nil)))))))
          (pe_call GT hr1 (by rfl) DT.at_ DT.kp DT.bd .nil pass0 (pa_cons (pv 0) (pa_cons pe_int pa_nil))) (fun _ _ => rfl)))
      hm)))))), ?_⟩
    obtain ⟨T, hT, t2, t256, tt⟩ := top_of z1 z8
    have sns : ∀ i ∈ ns, i.natAbs < 10 ^ 12 := fun i m => by have := hns i m; omega
    have fns : ∀ x ∈ ns.map V.int, okF x = true := fun x m => by
      obtain ⟨i, mi, rfl⟩ := List.mem_map.mp m
      exact decide_eq_true (sns i mi)
    obtain ⟨X1, X2, ws⟩ := ws_of (z := z) lns fns
    have hJ : ∀ (o : HO) (G G' : Hp), Same G G' → G p = some o → G' p = some o := fun o G G' s h => s _ _ h
    -- odd
    obtain ⟨px, py, pz, hp, pr⟩ := id pu
    refine pick_ok (n := 10) (Φ := Phi (· = true) (· ≠ p) fun v _ => inV v (WD.map V.str) = false) (mks_list hp (by decide) phi_same (mks_cons (J := fun G => G p = some (.lst [.int px, .int py, .int pz])) (hJ _) phi_same (fun G _ => mks_c (.flat rfl fun _ => by decide +kernel))
      (mks_cons (hJ _) phi_same (fun G _ => mks_c (.flat (by decide +kernel) fun _ => by decide +kernel)) (mks_cons (hJ _) phi_same (fun G _ => mks_c (.flat (by decide +kernel) fun _ => by decide +kernel)) (mks_cons (hJ _) phi_same (fun G _ => mks_c (.flat (by decide +kernel) fun _ => by decide +kernel)) (mks_cons (hJ _) phi_same (fun G _ => mks_c (.flat (by decide +kernel) fun _ => by decide +kernel))
      (mks_cons (hJ _) phi_same (fun G j => mks_lst1 fun a G' s n na h => .fl h (ne_free j n) na (by decide) (fun x m => by rw [List.mem_singleton.mp m]; decide +kernel) fun _ _ => rfl)
      (mks_cons (hJ _) phi_same (fun G j => mks_tup1 fun a G' s n h => .tf h (ne_free j n) (by decide) (fun x m => by rw [List.mem_singleton.mp m]; decide +kernel) fun _ _ => rfl)
      (mks_cons (hJ _) phi_same (fun G _ => mks_c (.flat (by decide +kernel) fun _ => by decide +kernel))
      (mks_cons (hJ _) phi_same (fun G j => mks_emp fun a G' s n h => .emp (fun _ e => e) h (ne_free j n) fun _ _ => rfl)
      (mks_cons (hJ _) phi_same (fun G _ => mks_c (.flat rfl fun _ => by decide +kernel)) (fun G _ => mks_nil)))))))))) H hp)) rfl (by decide) (by decide) pu (by omega) rfl phi_kp (fun od G1 k1 pu1 ph1 => ?_)
    -- wide
    obtain ⟨ax, ay, az, hp1, _⟩ := id pu1
    refine pick_ok (n := 8) (Φ := Phi (· = true) (· ≠ p) fun v _ => wholeB v 1 8 = false) (mks_list hp1 (by decide) phi_same ((mks_cons (J := fun G => G p = some (.lst [.int ax, .int ay, .int az])) (hJ _) phi_same (fun G _ => mks_c (.flat (by decide +kernel) fun _ => by decide +kernel)) (mks_cons (hJ _) phi_same (fun G _ => mks_c (.flat (by decide +kernel) fun _ => by decide +kernel)) (mks_cons (hJ _) phi_same (fun G _ => mks_c (.flat (by decide +kernel) fun _ => by decide +kernel)) (mks_cons (hJ _) phi_same (fun G _ => mks_c (.flat (by decide +kernel) fun _ => by decide +kernel)) (mks_cons (hJ _) phi_same (fun G _ => mks_c (.flat (by decide +kernel) fun _ => by decide +kernel)) (mks_cons (hJ _) phi_same (fun G j => mks_lst1 fun a G' s n na h => .fl h (ne_free j n) na (by decide) (fun x m => by rw [List.mem_singleton.mp m]; decide +kernel) fun _ _ => rfl) (mks_cons (hJ _) phi_same (fun G j => mks_emp fun a G' s n h => .emp (fun _ e => e) h (ne_free j n) fun _ _ => rfl) (mks_cons (hJ _) phi_same (fun G _ => mks_neg (.flat (by decide +kernel) fun _ => by decide +kernel)) (fun G _ => mks_nil))))))))) G1 hp1)) rfl (by decide) (by decide) pu1 (by omega) rfl phi_kp (fun wi G2 k2 pu2 ph2 => ?_)
    -- top, the bad worths
    obtain ⟨bx, by_, bz, hp2, _⟩ := id pu2
    refine ⟨_, rfl, _, _, rfl, rfl, ⟨by omega, by omega, by decide⟩, ?_⟩
    have k02 : Kp (· ≠ p) H G2 := fun a o q h => k2 a o q (k1 a o q h)
    have hW2 := k02 Wa _ nWp hW
    have hJw : ∀ G G', Same G G' → Jw p Wa (.lst [.int bx, .int by_, .int bz]) (ns.map V.int) G → Jw p Wa (.lst [.int bx, .int by_, .int bz]) (ns.map V.int) G' := fun G G' s j => j.same s
    have tT : (1 : Int) * 2 ^ z.toNat = T := by rw [Int.one_mul, hT]
    dsimp only [gName, tSeq, tAsg]
    refine mks_list (n := 8) (Φ := PhB K p c z) hp2 (by decide) phi_same ?_ _ fun v G3 s3 ⟨B, vs, eB, gB, nB, lB, hB⟩ => ?_
    · exact (mks_cons hJw phi_same (fun G j => bad1 ws rfl j) (mks_cons hJw phi_same (fun G j => bad2 ws rfl j) (mks_cons hJw phi_same (fun G j => bad3 ws rfl rfl (by rw [tT]; omega) (by rw [tT]; omega) (by rw [tT]; omega) j)
        (mks_cons hJw phi_same (fun G j => bad4 ws rfl j) (mks_cons hJw phi_same (fun G _ => mks_c (.flat rfl fun _ => .no .non (by decide))) (mks_cons hJw phi_same (fun G _ => mks_c (.flat (by decide +kernel) fun _ => .no (.str _) (by decide)))
        (mks_cons hJw phi_same (fun G j => mks_emp fun a G' s n h => .emp (fun _ e => e) h (ne_free j.hp n) fun G2 g => .no (.dic (.base (.dK g))) (by decide)) (mks_cons hJw phi_same (fun G j => bad8 ws rfl j) (fun G _ => mks_nil)))))))) G2 ⟨hp2, hW2⟩)
    subst eB
    have pu3 : Purse G3 p (n + 1 + 1) := pu2.of ((s3 _ _ hp2).trans hp2.symm)
    obtain ⟨cx, cy, cz, hp3, _⟩ := id pu3
    refine pick_ok (n := 9) (Φ := PhB K p c z) (bad9 (o := .lst [.int cx, .int cy, .int cz]) ws rfl rfl ⟨hp3, s3 _ _ hW2⟩ gB lB hB) rfl (by decide) (by decide) pu3 (by omega) rfl phi_kp (fun bd G4 k4 pu4 ph4 => ?_)
    -- least, past
    obtain ⟨dx, dy, dz, hp4, _⟩ := id pu4
    refine pick_ok (n := 6) (Φ := Phi (fun _ => True) (· ≠ p) fun v _ => wholeB v 1 8 = false) (mks_list hp4 (by decide) phi_same ((mks_cons (J := fun G => G p = some (.lst [.int dx, .int dy, .int dz])) (hJ _) phi_same (fun G _ => mks_c (.flat (by decide +kernel) fun _ => by decide +kernel)) (mks_cons (hJ _) phi_same (fun G _ => mks_c (.flat (by decide +kernel) fun _ => by decide +kernel)) (mks_cons (hJ _) phi_same (fun G _ => mks_c (.flat (by decide +kernel) fun _ => by decide +kernel)) (mks_cons (hJ _) phi_same (fun G _ => mks_c (.flat (by decide +kernel) fun _ => by decide +kernel)) (mks_cons (hJ _) phi_same (fun G j => mks_lst1 fun a G' s n na h => .fl h (ne_free j n) na (by decide) (fun x m => by rw [List.mem_singleton.mp m]; decide +kernel) fun _ _ => rfl) (mks_cons (hJ _) phi_same (fun G _ => mks_c (.flat (by decide +kernel) fun _ => by decide +kernel)) (fun G _ => mks_nil))))))) G4 hp4)) rfl (by decide) (by decide) pu4 (by omega) rfl phi_kp (fun tl G5 k5 pu5 ph5 => ?_)
    obtain ⟨ex, ey, ez, hp5, _⟩ := id pu5
    have pastF : ∀ i : Int, (i < 0 ∨ z ≤ i) → wholeB (.int i) 0 (z - 1) = false := fun i h => by
      show (decide (0 ≤ i) && decide (i ≤ z - 1)) = false
      rcases h with h | h
      · rw [decide_eq_false (show ¬ 0 ≤ i by omega), Bool.false_and]
      · rw [decide_eq_false (show ¬ i ≤ z - 1 by omega), Bool.and_false]
    refine pick_ok (n := 6) (Φ := Phi (fun _ => True) (· ≠ p) fun v _ => wholeB v 0 (z - 1) = false) (mks_list hp5 (by decide) phi_same ((mks_cons (J := fun G => G p = some (.lst [.int ex, .int ey, .int ez])) (hJ _) phi_same (fun G _ => mks_var (v := .int z) rfl (.flat (show okF (.int z) = true from decide_eq_true (show z.natAbs < 10 ^ 12 by omega)) fun _ => pastF z (by omega))) (mks_cons (hJ _) phi_same (fun G _ => mks_neg (.flat (by decide +kernel) fun _ => pastF _ (by omega))) (mks_cons (hJ _) phi_same (fun G _ => mks_c (.flat (by decide +kernel) fun _ => rfl)) (mks_cons (hJ _) phi_same (fun G _ => mks_c (.flat (by decide +kernel) fun _ => rfl)) (mks_cons (hJ _) phi_same (fun G j => mks_lst1 fun a G' s n na h => .fl h (ne_free j n) na (by decide) (fun x m => by rw [List.mem_singleton.mp m]; decide +kernel) fun _ _ => rfl) (mks_cons (hJ _) phi_same (fun G _ => mks_c (.flat (by decide +kernel) fun _ => pastF 8 (by omega))) (fun G _ => mks_nil))))))) G5 hp5)) rfl (by decide) (by decide) pu5 (by omega) rfl phi_kp (fun pp G6 k6 pu6 ph6 => ?_)
    have k36 : Kp (· ≠ p) G3 G6 := fun a o q h => k6 a o q (k5 a o q (k4 a o q h))
    have k06 : Kp (· ≠ p) H G6 := fun a o q h => k36 a o q (s3 a o (k02 a o q h))
    have k26 : Kp (· ≠ p) G2 G6 := fun a o q h => k36 a o q (s3 a o h)
    obtain ⟨fx, fy, fz, hp6, _⟩ := id pu6
    refine rows _ _ G6 (· ≠ p) c z Wa od wi bd tl pp ns _ _ _ _ _ _ _ _ _ _ _ rfl hc z1 z8 (k06 Wa _ nWp hW) lns hns (phi_kp od G1 G6 (fun a o q h => k26 a o q (k2 a o q h)) ph1) (phi_kp wi G2 G6 k26 ph2) (phi_kp bd G4 G6 (fun a o q h => k6 a o q (k5 a o q h)) ph4) (phi_kp tl G5 G6 k6 ph5) ph6 fun H' s' => ?_
    exact q H' (fun a o r h => s' a o (k06 a o r h)) ((pu6.of ((s' _ _ hp6).trans hp6.symm)).mono (by omega))
end
end P3
end Bf

namespace Bf
open PySem PySem.Spec PyProof.Rows L2
section
variable {X : Cx}
/-- repr of data without dicts, tracked or written in the program -/
def rReprD (K : PySem.W.Frag) : List V → Hp → VK → Prop := fun xs H Q => ∃ (x : V) (d : PyData), xs = [x] ∧ Dp K H x d ∧ d.hasDict = false ∧ d.showable = true ∧ d.depth ≤ 60 ∧ d.shown.length ≤ sizeLine ∧ Q (.str d.shown) H
theorem call_reprD (hA : X.A.guards = some []) (hu : X.A.units + 64 < cLine) : CallR X (.builtin "repr") (rReprD X.K) := by
  intro pins s σ H xs us Q I r h
  obtain ⟨x, d, rfl, hs, nd, sw, dp, sz, q⟩ := h
  obtain ⟨u, rfl, rx⟩ := vals1 r
  obtain ⟨as, rd⟩ := Dp.reads I d x u hs rx
  have nodict : d.hasDict = true → sysModules ∉ as := fun hd z => by rw [nd] at hd; cases hd
  have fin : ∀ (t : Tok) (tk : Nat), EP X pins σ Q (.str d.shown t) { s with toks := tk } := fun t tk => ⟨.str d.shown, H, I.tok tk, ⟨t, rfl⟩, q⟩
  have finH : ∀ h' t tk, (∀ b o, s.heap.get? b = some o → h'.get? b = some o) → EP X pins σ Q (.str d.shown t) { s with heap := h', toks := tk } := fun h' t tk k => ⟨.str d.shown, H, I.kept k, ⟨t, rfl⟩, q⟩
  have big : ∀ {a : Addr}, u = .ref a → wpAny (model X.prog X.w) X.A (call (.builtin "repr") [u]) (EP X pins σ Q) X.xe s := fun {a} e => by
    subst e
    exact repr_of_reads' rd sw nodict hA (by omega) (fun _ _ z => z) finH sz
  cases rd with
  | none => exact PySem.P.repr_of_none (by have z := fin s.toks (s.toks + 1); simp only [PyData.shown] at z; exact z)
  | bool c => exact PySem.P.repr_of_bool (by have z := fin s.toks (s.toks + 1); simp only [PyData.shown] at z; exact z)
  | int i t => exact PySem.P.repr_of_int (by simpa [PyData.showable] using sw) (by have z := fin s.toks (s.toks + 1); simp only [PyData.shown] at z; exact z)
  | str z t => exact PySem.P.repr_of_str (by have z := fin s.toks (s.toks + 1); simp only [PyData.shown] at z; exact z) (by simp only [PyData.shown] at sz; exact sz)
  | list _ _ _ _ => exact big rfl
  | tuple _ _ _ _ => exact big rfl
  | dict _ _ _ _ _ => exact big rfl
end
theorem dpS {K : PySem.W.Frag} {H : Hp} : ∀ ws : List Str, DpAll K H (ws.map V.str) (ws.map PyData.str)
  | [] => .nil
  | w :: r => .cons (.str w) (dpS r)
namespace P3
section
variable {K : PySem.W.Frag} {σ : L2.St} {p : Addr} {H : Hp} {n : Int} {E : XK} {Q : VK}
/-- [1, 8, 1 + a digit][a digit] -/
theorem size_ok (hσ : σ[2]? = some (some (.ref p))) (pu : Purse H p n) (hn : n ≤ 90000) (q : ∀ k G, 1 ≤ k → k ≤ 8 → Kp (· ≠ p) H G → Purse G p (n + 2) → Q (.int k) G) :
    tOp (rIxL K) (tLst (tCons (tC (.int 1)) (tCons (tC (.int 8)) (tCons (tOp (rI0 fun i j => .int (i + j)) (tC (.int 1)) (tCall spTake [] E (tCons (tVar 2) (tCons (tC (.int 8)) tNil)))) tNil)))) (tCall spTake [] E (tCons (tVar 2) (tCons (tC (.int 3)) tNil))) σ H Q := by
  refine ⟨_, hσ, p, 8, n, rfl, pu, by omega, by decide, by decide, fun d H1 d0 d1 pu1 eq1 => ⟨_, _, rfl, rfl, by show 3 ≤ sizeLine; decide, fun L hL => ?_⟩⟩
  obtain ⟨px, py, pz, hp, pr⟩ := id pu1
  have nLp := ne_free hp hL
  refine ⟨_, hσ, p, 3, n + 1, rfl, pu1.of (upd_ne nLp.symm), by omega, by decide, by decide, fun e H2 e0 e1 pu2 eq2 => ?_⟩
  obtain ⟨v, mv, ev⟩ := pick (xs := [.int 1, .int 8, .int (1 + d)]) e0 e1
  refine ⟨L, _, e, v, rfl, rfl, SqL.of ((eq2 L nLp).trans upd_same), ev, ?_⟩
  have k2 : Kp (· ≠ p) H H2 := fun a o n h => by
    have h1 : H1 a = some o := (eq1 a n).trans h
    rw [eq2 a n, upd_ne (ne_of_none h1 hL)]
    exact h1
  have pu3 : Purse H2 p (n + 2) := pu2.mono (by omega)
  clear ev
  simp only [List.mem_cons, List.not_mem_nil, or_false] at mv
  rcases mv with rfl | rfl | rfl
  · exact q _ _ (by omega) (by omega) k2 pu3
  · exact q _ _ (by omega) (by omega) k2 pu3
  · exact q _ _ (by omega) (by omega) k2 pu3
/-- [0, width - 1][a digit] -/
theorem spot_ok {z : Int} (hσ : σ[2]? = some (some (.ref p))) (hz : σ[4]? = some (some (.int z))) (z1 : 1 ≤ z) (pu : Purse H p n) (hn : n ≤ 90000) (q : ∀ k G, 0 ≤ k → k < z → Kp (· ≠ p) H G → Purse G p (n + 1) → Q (.int k) G) :
    tOp (rIxL K) (tLst (tCons (tC (.int 0)) (tCons (tOp (rI0 fun i j => .int (i - j)) (tVar 4) (tC (.int 1))) tNil))) (tCall spTake [] E (tCons (tVar 2) (tCons (tC (.int 2)) tNil))) σ H Q := by
  refine ⟨_, hz, _, _, rfl, rfl, by show 2 ≤ sizeLine; decide, fun L hL => ?_⟩
  obtain ⟨px, py, pz, hp, pr⟩ := id pu
  have nLp := ne_free hp hL
  refine ⟨_, hσ, p, 2, n, rfl, pu.of (upd_ne nLp.symm), by omega, by decide, by decide, fun e H2 e0 e1 pu2 eq2 => ?_⟩
  obtain ⟨v, mv, ev⟩ := pick (xs := [.int 0, .int (z - 1)]) e0 e1
  refine ⟨L, _, e, v, rfl, rfl, SqL.of ((eq2 L nLp).trans upd_same), ev, ?_⟩
  have k2 : Kp (· ≠ p) H H2 := fun a o n h => by
    rw [eq2 a n, upd_ne (ne_of_none h hL)]
    exact h
  clear ev
  simp only [List.mem_cons, List.not_mem_nil, or_false] at mv
  rcases mv with rfl | rfl
  · exact q _ _ (by omega) (by omega) k2 pu2
  · exact q _ _ (by omega) (by omega) k2 pu2
/-- a list or a tuple that stands at a -/
def At2 (G : Hp) (a : Addr) (W : List V) : Prop := G a = some (.lst W) ∨ G a = some (.tup W)
theorem At2.kp {p a : Addr} {W : List V} {G G' : Hp} (n : a ≠ p) (k : Kp (· ≠ p) G G') (h : At2 G a W) : At2 G' a W := h.imp (k a _ n) (k a _ n)
theorem At2.seq {a : Addr} {W : List V} {G : Hp} (h : At2 G a W) (hl : W.length ≤ 50) (hf : ∀ x ∈ W, okF x = true) : Seq K G a W := h.elim (fun g => seq_lst g hl hf) fun g => seq_tup g hl hf
/-- [worths, tuple(worths)][a digit] -/
theorem hand_ok {Wa : Addr} {W : List V} (hσ : σ[2]? = some (some (.ref p))) (hW : σ[7]? = some (some (.ref Wa))) (gW : H Wa = some (.lst W)) (nW : Wa ≠ p) (pu : Purse H p n) (hn : n ≤ 90000)
    (q : ∀ a G, a ≠ p → At2 G a W → Kp (· ≠ p) H G → Purse G p (n + 1) → Q (.ref a) G) :
    tOp (rIxL K) (tLst (tCons (tVar 7) (tCons (tCB (fun xs H Q => ∃ p ys, xs = [.ref p] ∧ ((SqL K H p ys ∧ ∀ l, H l = none → Q (.ref l) (upd H l (.tup ys))) ∨ (SqT K H p ys ∧ Q (.ref p) H))) (tCons (tVar 7) tNil)) tNil))) (tCall spTake [] E (tCons (tVar 2) (tCons (tC (.int 2)) tNil))) σ H Q := by
  obtain ⟨px, py, pz, hp, pr⟩ := id pu
  refine ⟨_, hW, _, hW, Wa, W, rfl, .inl ⟨SqL.of gW, fun t ht => ⟨by show 2 ≤ sizeLine; decide, fun L hL => ?_⟩⟩⟩
  have s1 : Same H (upd H t (.tup W)) := same_new ht
  have s2 := same_trans_new (o := .lst [.ref Wa, .ref t]) s1 hL
  have nLp := ne_free (s1 _ _ hp) hL
  have ntp := ne_free hp ht
  refine ⟨_, hσ, p, 2, n, rfl, pu.of ((s2 _ _ hp).trans hp.symm), by omega, by decide, by decide, fun e H2 e0 e1 pu2 eq2 => ?_⟩
  obtain ⟨v, mv, ev⟩ := pick (xs := [.ref Wa, .ref t]) e0 e1
  refine ⟨L, _, e, v, rfl, rfl, SqL.of ((eq2 L nLp).trans upd_same), ev, ?_⟩
  have k2 : Kp (· ≠ p) H H2 := fun a o n h => (eq2 a n).trans (s2 _ _ h)
  clear ev
  simp only [List.mem_cons, List.not_mem_nil, or_false] at mv
  rcases mv with rfl | rfl
  · exact q _ _ nW (.inl (k2 _ _ nW gW)) k2 pu2
  · exact q _ _ ntp (.inr ((eq2 t ntp).trans ((same_new (o := .lst [.ref Wa, .ref t]) hL) _ _ upd_same))) k2 pu2
end
/-- the words' tuple as data -/
theorem wd_shown : PyData.showable (.tuple (WD.map PyData.str)) = true ∧ PyData.depth (.tuple (WD.map PyData.str)) ≤ 60 ∧ (PyData.shown (.tuple (WD.map PyData.str))).length ≤ sizeLine ∧ PyData.hasDict (.tuple (WD.map PyData.str)) = false := ⟨by decide +kernel, by decide +kernel, by decide +kernel, by decide +kernel⟩
/-- the worth that comes -/
def valR (c : Str) (z a b into spot : Int) : Int := dueR c z a b into spot
end P3
end Bf

namespace Bf
open PySem PySem.Spec PyProof.Rows L2
def forB : Stmt → List Stmt
  | .For _ _ b _ _ => b
  | _ => []
theorem if_cont {b : Bool} {A B : Prop} {H : Hp} {R : Addr → Hp → Prop} {o : HO} (h1 : b = true → (∀ q G, Same H G → G q = some o → R q G) → A) (h2 : b = false → (∀ q G, Same H G → G q = some o → R q G) → B) (c : ∀ q G, Same H G → G q = some o → R q G) : if b = true then A else B := by
  cases b with
  | true => exact iteT (h1 rfl c)
  | false => exact iteF (h2 rfl c)
namespace P3
abbrev bK : List Stmt := forB ((defBody sLaw).getD 1 (.Pass ⟨0, 0, 0, 0⟩))
abbrev bW : List Stmt := forB (bK.getD 1 (.Pass ⟨0, 0, 0, 0⟩))
abbrev bT : List Stmt := forB (bW.getD 2 (.Pass ⟨0, 0, 0, 0⟩))
abbrev nLaw : List Str := ["_law_script", "_law_k", "_law_purse_here", "_law_word", "_law_width", "_law_many", "_law_turn", "_law_worths", "_law_lap", "_law_into", "_law_spot", "_law_handed", "_law_found", "_law_alone", "_law_due_here", "_law_one"]
theorem scLaw : FnScope nLaw ["_law_script"] (defScope sLaw) := ⟨rfl, rfl, rfl, by decide +kernel, rfl, by decide +kernel, by decide +kernel⟩
abbrev xLaw (P : Program) (w : World) (K : PySem.W.Frag) (mg : Str → Option Value) (base : Heap) (f : Addr) (cdv : Value) (A : Around) (outer : List Env) (s : Shared) (H : Hp) (E : XK) : Cx := cxOf CX0 P w K mg base nLaw "law" (defScope sLaw) f cdv A outer s H E
/-- the first and the last of the worths -/
def Two (c : Str) (ns : List Int) (a b : Int) : Prop := (c ∈ W1 ∧ ns = [a] ∧ b = a) ∨ (c ∉ W1 ∧ ns = [a, b])
theorem two_of {c : Str} {ns : List Int} (l : ((ns.length : Nat) : Int) = wanted c) : ∃ a b, Two c ns a b := by
  by_cases h : c ∈ W1
  · rw [wanted1 h] at l
    match ns, l with
    | [a], _ => exact ⟨a, a, .inl ⟨h, rfl, rfl⟩⟩
    | [], l => exact absurd l (by simp)
    | _ :: _ :: _, l => exact absurd l (by simp; omega)
  · rw [wanted2 h] at l
    match ns, l with
    | [a, b], _ => exact ⟨a, b, .inr ⟨h, rfl⟩⟩
    | [], l => exact absurd l (by simp)
    | [_], l => exact absurd l (by simp)
    | _ :: _ :: _ :: _, l => exact absurd l (by simp; omega)
theorem Two.at_ {c : Str} {ns : List Int} {a b : Int} (h : Two c ns a b) : atI (ns.map V.int) 0 = some (.int a) ∧ atI (ns.map V.int) (-1) = some (.int b) ∧ (c ∉ W1 → atI (ns.map V.int) 1 = some (.int b)) := by
  rcases h with ⟨h, rfl, rfl⟩ | ⟨h, rfl⟩
  · exact ⟨rfl, rfl, fun n => absurd h n⟩
  · exact ⟨rfl, rfl, fun _ => rfl⟩
theorem Two.le {c : Str} {ns : List Int} {a b : Int} (h : Two c ns a b) : ns.length ≤ 2 := by
  rcases h with ⟨h, rfl, rfl⟩ | ⟨h, rfl⟩ <;> simp
theorem flat_ints {z : Int} (z1 : 1 ≤ z) (z8 : z ≤ 8) {ns : List Int} (hns : ∀ i ∈ ns, 0 ≤ i ∧ i ≤ topW z) : ∀ x ∈ ns.map V.int, okF x = true := fun x m => by
  obtain ⟨T, hT, t2, t256, tt⟩ := top_of z1 z8
  obtain ⟨i, mi, rfl⟩ := List.mem_map.mp m
  exact decide_eq_true (by have := hns i mi; omega)
section
variable {K : PySem.W.Frag} {cP cW cS cN : Addr}
theorem told_ok {c : Str} {z a b t s : Int} {ns : List Int} {h : Addr} {G : Hp} (hc : c ∈ WD) (z1 : 1 ≤ z) (z8 : z ≤ 8) (tw : Two c ns a b) (hns : ∀ i ∈ ns, 0 ≤ i ∧ i ≤ topW z) (g : At2 G h (ns.map V.int)) (t1 : 1 ≤ t) (t8 : t ≤ 8) (s0 : 0 ≤ s) (s1 : s < z) :
    Rk K G cP cW cS cN (.str c) (.int z) (.ref h) (.int t) (.int s) (.inr (dueR c z a b t s)) := by
  have good := good_ints hns
  have sq := g.seq (K := K) (by rw [List.length_map]; have := tw.le; omega) (flat_ints z1 z8 hns)
  rcases tw with ⟨h1, rfl, rfl⟩ | ⟨h2, rfl⟩
  · have hb := hns b List.mem_cons_self
    rw [due_one h1 z1 hb.1 hb.2 (fun _ => ⟨s0, s1⟩)]
    exact .one h1 z1 z8 sq good (fun _ => wholeB_of t1 t8) (fun _ => wholeB_of s0 (by omega))
  · have ha := hns a List.mem_cons_self
    have hb := hns b (List.mem_cons_of_mem _ List.mem_cons_self)
    rw [due_two hc h2 ha.1 ha.2 hb.1 hb.2]
    exact .two hc h2 z1 z8 sq good
end
theorem due_into {c : Str} {z a b t t' s : Int} (h : c ≠ "wide") : dueR c z a b t s = dueR c z a b t' s := by
  unfold dueR
  rw [isW_no h]
  rfl
theorem mo_wide {c : Str} {t : V} (h : c = "wide") : Mo (.str c) [t] t (.int 0) := by
  rw [h]
  exact .wide t
theorem due_spot {c : Str} {z a b t s s' : Int} (h : c = "wide") : dueR c z a b t s = dueR c z a b t s' := by
  subst h
  unfold dueR
  rw [if_neg (show ¬ isW "wide" "not" = true by decide +kernel), if_pos (show isW "wide" "wide" = true by decide +kernel), if_neg (show ¬ isW "wide" "not" = true by decide +kernel), if_pos (show isW "wide" "wide" = true by decide +kernel)]
/-- ["told", v] as data -/
def dI (v : Int) : PyData := .list [.str "told", .int v]
theorem dI_ok {v : Int} (h : v.natAbs < 10 ^ 12) : OkD 122 1 (dI v) := okd_list (n := 60) (k := 0) (m := 2) (fun e m => by
  rcases List.mem_cons.mp m with rfl | m
  · exact okd_str (by decide +kernel) (by decide +kernel)
  · rw [List.mem_singleton.mp m]; exact okd_int h) (by simp)
theorem dI_sh {H : Hp} {P : Addr → Prop} {q : Addr} {v : Int} (h : H q = some (.lst [.str "told", .int v])) (p : P q) : Sh H P false (.ref q) (dI v) := .lst h p (fun z => nomatch z) (.cons (.str _) (.cons (.int _) .nil))
theorem dIs_ok {v1 v2 : Int} (h1 : v1.natAbs < 10 ^ 12) (h2 : v2.natAbs < 10 ^ 12) : OkD 246 2 (.list [dI v1, dI v2]) := okd_list (n := 122) (k := 1) (m := 2) (fun e m => by
  rcases List.mem_cons.mp m with rfl | m
  · exact dI_ok h1
  · rw [List.mem_singleton.mp m]; exact dI_ok h2) (by simp)
section
variable {P : Program} {w : World} {K : PySem.W.Frag} {mg : Str → Option Value} {base : Heap} {cP cW cS cN : Addr}
/-- what the law needs of the program -/
structure Need (P : Program) (w : World) (K : PySem.W.Frag) (mg : Str → Option Value) (base : Heap) (cP cW cS cN aD fc fp ft fo fa fu fr : Addr) (dc dp dt do_ da du dr : FuncData) : Prop where
  gD : mg "WORDS" = some (.ref aD)
  sD : ∀ H, SqT K H aD (WD.map V.str)
  DC : Df K mg "_law_cell" fc dc ["_law_script", "_law_k"]
  GC : FnOk P w K mg base CX0 2 fc dc ["_law_script", "_law_k"] (spCell K)
  DP : Df K mg "_law_purse" fp dp ["_law_cell_here"]
  GP : FnOk P w K mg base CX0 2 fp dp ["_law_cell_here"] spPurse
  DT : Df K mg "_law_take" ft dt ["_law_purse_here", "_law_many"]
  GT : FnOk P w K mg base CX0 2 ft dt ["_law_purse_here", "_law_many"] spTake
  DO : Df K mg "_law_worth" fo do_ ["_law_purse_here", "_law_width"]
  GO : FnOk P w K mg base CX0 3 fo do_ ["_law_purse_here", "_law_width"] spWorth
  DA : Df K mg "_law_asked" fa da pAsked
  GA : FnOk P w K mg base CX0 6 fa da pAsked (spAsked K cP cW cS cN)
  DU : Df K mg "_law_due" fu du pDue
  GU : FnOk P w K mg base CX0 4 fu du pDue (spDue K)
  DR : Df K mg "_law_refused_right" fr dr pRef
  GR : FnG P w K mg base CX0 7 fr dr pRef spRef
  mr : mg "range" = none
  ml : mg "len" = none
  mp : mg "repr" = none
  mx : mg "max" = none
  mn : mg "min" = none
  mt : mg "tuple" = none
/-- a turn, from the worths on -/
theorem law_turn {aD fc fp ft fo fa fu fr f : Addr} {dc dp dt do_ da du dr : FuncData} (N : Need P w K mg base cP cW cS cN aD fc fp ft fo fa fu fr dc dp dt do_ da du dr) {cdv : Value} {A : Around} {outer : List Env} {s : Shared} {H0 : Hp} {E : XK} (hA : A.guards = some [])
    (hr : Room 7 (A.deeper (envOfC "law" (defScope sLaw) s.heap.objs.size f cdv))) :
    ∃ t, PSs (xLaw P w K mg base f cdv A outer s H0 E) (bT.drop 2) t ∧ ∀ (D : Ends) (σ : L2.St) (G : Hp) (p Wa : Addr) (c : Str) (z n : Int) (ns : List Int) (u0 u1 u5 u6 u8 u9 u10 u11 u12 u13 u14 u15 : Option V),
      σ = [u0, u1, some (.ref p), some (.str c), some (.int z), u5, u6, some (.ref Wa), u8, u9, u10, u11, u12, u13, u14, u15] → c ∈ WD → 1 ≤ z → z ≤ 8 → Purse G p n → n ≤ 50000 → G Wa = some (.lst (ns.map V.int)) → Wa ≠ p → ((ns.length : Nat) : Int) = wanted c → (∀ i ∈ ns, 0 ≤ i ∧ i ≤ topW z) →
      (∀ (v9 v10 v11 v12 v13 v14 v15 : Option V) (G' : Hp), Kp (· ≠ p) G G' → Purse G' p (n + 10) → D.nx [u0, u1, some (.ref p), some (.str c), some (.int z), u5, u6, some (.ref Wa), u8, v9, v10, v11, v12, v13, v14, v15] G') → t D σ G := by
  have hA' : (A.deeper (envOfC "law" (defScope sLaw) s.heap.objs.size f cdv)).guards = some [] := hA
  have hr1 := hr.mono (by decide : 2 ≤ 7)
  have hr3 := hr.mono (by decide : 4 ≤ 7)
  have hr5 := hr.mono (by decide : 6 ≤ 7)
  refine ⟨_, pss_cons (ps_set (i := 9) scLaw.nd rfl (Or.inl rfl) (pe_ix ix_list (pe_lst (pa_cons pe_int (pa_cons pe_int (pa_cons (pe_op op_add pe_int (pe_call N.GT hr1 (by rfl) N.DT.at_ N.DT.kp N.DT.bd .nil pass0 (pa_cons (pv 2) (pa_cons pe_int pa_nil)))) pa_nil))))
        (pe_call N.GT hr1 (by rfl) N.DT.at_ N.DT.kp N.DT.bd .nil pass0 (pa_cons (pv 2) (pa_cons pe_int pa_nil))) (fun _ _ => rfl)))
    (pss_cons (ps_set (i := 10) scLaw.nd rfl (Or.inl rfl) (pe_ix ix_list (pe_lst (pa_cons pe_int (pa_cons (pe_op op_sub (pv 4) pe_int) pa_nil)))
        (pe_call N.GT hr1 (by rfl) N.DT.at_ N.DT.kp N.DT.bd .nil pass0 (pa_cons (pv 2) (pa_cons pe_int pa_nil))) (fun _ _ => rfl)))
    (pss_cons (ps_set (i := 11) scLaw.nd rfl (Or.inl rfl) (pe_ix ix_list (pe_lst (pa_cons (pv 7) (pa_cons (pe_callTy call_tuple_of (by rfl) N.mt (by decide +kernel) (pa_cons (pv 7) pa_nil)) pa_nil)))
        (pe_call N.GT hr1 (by rfl) N.DT.at_ N.DT.kp N.DT.bd .nil pass0 (pa_cons (pv 2) (pa_cons pe_int pa_nil))) (fun _ _ => rfl)))
    (pss_cons (ps_set (i := 12) scLaw.nd rfl (Or.inl rfl) (pe_lst (pa_cons (pe_call N.GA hr5 (by rfl) N.DA.at_ N.DA.kp N.DA.bd .nil pass0 (pa_cons (pv 3) (pa_cons (pv 4) (pa_cons (pv 11) (pa_cons (pe_tup (pa_cons (pv 9) (pa_cons (pv 10) pa_nil))) pa_nil)))))
        (pa_cons (pe_call N.GA hr5 (by rfl) N.DA.at_ N.DA.kp N.DA.bd .nil pass0 (pa_cons (pv 3) (pa_cons (pv 4) (pa_cons (pv 11) (pa_cons (pe_tup pa_nil) pa_nil))))) pa_nil))))
    (pss_cons (ps_set (i := 13) scLaw.nd rfl (Or.inl rfl) (pe_call N.GA hr5 (by rfl) N.DA.at_ N.DA.kp N.DA.bd .nil pass0 (pa_cons (pv 3) (pa_cons (pv 4) (pa_cons (pv 11) (pa_cons (pe_ifExp (pt_cmpR op_eq (pv 3) pe_str (nomark _)) (pe_tup (pa_cons (pv 9) pa_nil)) (pe_tup (pa_cons (pv 10) pa_nil))) pa_nil))))))
    (pss_cons (ps_if (pt_cmpR op_ne (pe_callB (call_repr hA' hr.units) (by rfl) N.mp (by decide +kernel) (pa_cons (pv 13) pa_nil)) (pe_callB (call_repr hA' hr.units) (by rfl) N.mp (by decide +kernel) (pa_cons (pe_ix ix_list (pv 12) pe_int (fun _ _ => rfl)) pa_nil)) (nomark _)) (pss_one (ps_ret pe_bl)) pss_nil)
    (pss_cons (ps_set (i := 14) scLaw.nd rfl (Or.inl rfl) (pe_lst (pa_cons (pe_call N.GU hr3 (by rfl) N.DU.at_ N.DU.kp N.DU.bd .nil pass0 (pa_cons (pv 3) (pa_cons (pv 4) (pa_cons (pv 7) (pa_cons (pv 9) (pa_cons (pv 10) pa_nil))))))
        (pa_cons (pe_call N.GU hr3 (by rfl) N.DU.at_ N.DU.kp N.DU.bd .nil pass0 (pa_cons (pv 3) (pa_cons (pv 4) (pa_cons (pv 7) (pa_cons pe_int (pa_cons pe_int pa_nil)))))) pa_nil))))
    (pss_one (ps_if (pt_cmpR op_ne (pe_callB (call_repr hA' hr.units) (by rfl) N.mp (by decide +kernel) (pa_cons (pv 12) pa_nil)) (pe_callB (call_repr hA' hr.units) (by rfl) N.mp (by decide +kernel) (pa_cons (pe_lc (own := [("_law_one", 15)]) (g := gName 15) (tt := tYes) rfl scLaw.nd (pi_list (pv 14))
          (blkOk_by (N := nLaw) (sc := defScope sLaw) (by decide +kernel)) (fun _ _ _ _ _ => pg_name (i := 15) scLaw.nd rfl (Or.inl rfl)) (fun _ _ _ _ _ => pts_nil) (fun _ _ _ _ _ => pe_lst (pa_cons pe_str (pa_cons (pv 15) pa_nil)))) pa_nil)) (nomark _)) (pss_one (ps_ret pe_bl)) pss_nil)))))))), ?_⟩
  intro D σ G p Wa c z n ns u0 u1 u5 u6 u8 u9 u10 u11 u12 u13 u14 u15 eσ hc z1 z8 pu hn gW nW lns hns fin
  subst eσ
  obtain ⟨a, b, tw⟩ := two_of lns
  dsimp only [gName, tSeq, tAsg]
  refine size_ok rfl pu (by omega) (fun into G1 t1 t8 k1 pu1 => ?_)
  refine spot_ok (z := z) rfl rfl z1 pu1 (by omega) (fun spot G2 s0 s1 k2 pu2 => ?_)
  have gW2 := k2 _ _ nW (k1 _ _ nW gW)
  refine hand_ok rfl rfl gW2 nW pu2 (by omega) (fun h G3 nh gh k3 pu3 => ?_)
  have v1s := due_small c a b into spot z8
  have v2s := due_small c a b 1 0 z8
  generalize ev1 : dueR c z a b into spot = v1 at v1s
  generalize ev2 : dueR c z a b 1 0 = v2 at v2s
  -- found
  refine ⟨_, rfl, _, rfl, _, rfl, _, rfl, _, rfl, by show 2 ≤ sizeLine; decide, fun m hm => ?_⟩
  have sA : Same G3 (upd G3 m (.tup [.int into, .int spot])) := same_new hm
  refine ⟨.str c, .int z, .ref h, .int into, .int spot, _, m, _, _, "told", rfl, SqT.of upd_same, .two _ _ _, told_ok hc z1 z8 tw hns (gh.kp nh (kp_same sA)) t1 t8 s0 s1, .told _, fun q1 F1 sB hq1 _ e1 => ?_⟩
  have sAB := sA.trans sB
  refine ⟨_, rfl, _, rfl, _, rfl, by show 0 ≤ sizeLine; decide, fun m2 hm2 => ?_⟩
  have sC := same_trans_new (o := .tup []) sAB hm2
  refine ⟨.str c, .int z, .ref h, .int 1, .int 0, _, m2, _, _, "told", rfl, SqT.of upd_same, .none _, told_ok hc z1 z8 tw hns (gh.kp nh (kp_same sC)) (by decide) (by decide) (by decide) (by omega), .told _, fun q2 F2 sD hq2 _ e2 => ?_⟩
  refine ⟨by show 2 ≤ sizeLine; decide, fun L hL => ?_⟩
  rw [ev1] at e1
  rw [ev2] at e2
  have sL : Same F2 (upd F2 L (.lst [.ref q1, .ref q2])) := same_new hL
  have s3L := (sC.trans sD).trans sL
  obtain ⟨F3, eF3⟩ : ∃ F3, F3 = upd F2 L (.lst [.ref q1, .ref q2]) := ⟨_, rfl⟩
  have gL : F3 L = some (.lst [.ref q1, .ref q2]) := by rw [eF3, upd_same]
  rw [← eF3] at sL s3L ⊢
  have e1' : F3 q1 = _ := sL _ _ (sD _ _ ((same_new (o := .tup []) hm2) _ _ e1))
  have e2' : F3 q2 = _ := sL _ _ e2
  -- alone
  refine ⟨_, rfl, _, rfl, _, rfl, _, rfl, rfl, _, rfl, if_cont (H := F3) (o := .lst [.str "told", .int v1]) (fun e k => by
      have cw : c = "wide" := isW_iff.mp e
      refine ⟨_, rfl, by show 1 ≤ sizeLine; decide, fun m3 hm3 => ⟨.str c, .int z, .ref h, .int into, .int 0, _, m3, _, _, "told", rfl, SqT.of upd_same, mo_wide cw, told_ok hc z1 z8 tw hns (gh.kp nh (kp_same (same_trans_new s3L hm3))) t1 t8 (by decide) (by omega), .told _, fun q3 F4 sF hq3 _ e3 => ?_⟩⟩
      rw [due_spot (s' := spot) cw, ev1] at e3
      exact k q3 F4 ((same_new hm3).trans sF) e3) (fun e k => by
      have cw : c ≠ "wide" := fun z => by
        have e' := isW_iff.mpr z
        unfold isW at e'
        rw [e'] at e
        cases e
      refine ⟨_, rfl, by show 1 ≤ sizeLine; decide, fun m3 hm3 => ⟨.str c, .int z, .ref h, .int 1, .int spot, _, m3, _, _, "told", rfl, SqT.of upd_same, .other c _ cw, told_ok hc z1 z8 tw hns (gh.kp nh (kp_same (same_trans_new s3L hm3))) (by decide) (by decide) s0 s1, .told _, fun q3 F4 sF hq3 _ e3 => ?_⟩⟩
      rw [due_into (t' := into) cw, ev1] at e3
      exact k q3 F4 ((same_new hm3).trans sF) e3) (fun q3 F4 s4 e3 => ?_)⟩
  have o1 := dI_ok v1s
  have g4 := s4 _ _ gL
  refine ⟨_, rfl, .ref q3, fun _ => True, false, _, rfl, dI_sh e3 trivial, o1.sw, Nat.le_trans o1.dp (by decide), o1.shown (by decide), _, rfl, L, _, 0, _, rfl, rfl, SqL.of g4, rfl, .ref q1, fun _ => True, false, _, rfl, dI_sh (s4 _ _ e1') trivial, o1.sw, Nat.le_trans o1.dp (by decide), o1.shown (by decide), rfl, _, rfl, iteNS rfl ?_⟩
  -- due
  obtain ⟨x0, xN, x1⟩ := tw.at_
  have s34 := s3L.trans s4
  have gW4 : F4 Wa = _ := s34 _ _ (k3 _ _ nW gW2)
  refine ⟨_, rfl, _, rfl, _, rfl, _, rfl, _, rfl, c, z, a, b, into, spot, Wa, ns, rfl, z1, z8, SqL.of gW4, x0, xN, x1, by omega, fun _ => ⟨s0, s1⟩, fun F5 s5 => ?_⟩
  refine ⟨_, rfl, _, rfl, _, rfl, c, z, a, b, 1, 0, Wa, ns, rfl, z1, z8, SqL.of (s5 _ _ gW4), x0, xN, x1, by decide, fun _ => ⟨by decide, by omega⟩, fun F6 s6 => ⟨by show 2 ≤ sizeLine; decide, fun Y hY => ?_⟩⟩
  rw [ev1, ev2]
  have sY : Same F6 (upd F6 Y (.lst [.int v1, .int v2])) := same_new hY
  have s4Y := (s5.trans s6).trans sY
  obtain ⟨F7, eF7⟩ : ∃ F7, F7 = upd F6 Y (.lst [.int v1, .int v2]) := ⟨_, rfl⟩
  have gY : F7 Y = some (.lst [.int v1, .int v2]) := by rw [eF7, upd_same]
  rw [← eF7] at sY s4Y ⊢
  have o2 := dIs_ok v1s v2s
  have s47 := s4.trans s4Y
  refine ⟨_, rfl, .ref L, fun _ => True, false, _, rfl, .lst (s4Y _ _ g4) trivial (fun z => nomatch z) (.cons (dI_sh (s47 _ _ e1') trivial) (.cons (dI_sh (s47 _ _ e2') trivial) .nil)), o2.sw, Nat.le_trans o2.dp (by decide), o2.shown (by decide), ?_⟩
  refine ⟨_, rfl, Y, rfl, ⟨_, SqL.of gY⟩, fun D2 hD => lc_list (K := K) (a := Y) (xs := [.int v1, .int v2]) (fun i H' => Same F7 H' ∧ ∃ refs, H' D2 = some (.lst refs) ∧ refs.length = i ∧ ShAll H' (· ≠ D2) false refs (([v1, v2].take i).map dI))
    ⟨same_new hD, [], upd_same, rfl, .nil⟩ (fun i H' _ pv => SqL.of (pv.1 _ _ gY)) (fun i y H' hy pv => ?_) fun H' pv => ?_⟩
  · obtain ⟨sv, refs, gR, lr, sh⟩ := pv
    obtain ⟨j, hj, rfl⟩ : ∃ j, [v1, v2][i]? = some j ∧ y = .int j := by
      have hy' : ([v1, v2].map V.int)[i]? = some y := hy
      rw [List.getElem?_map] at hy'
      cases e : [v1, v2][i]? with
      | none => rw [e] at hy'; cases hy'
      | some j => rw [e] at hy'; cases hy'; exact ⟨j, rfl, rfl⟩
    have hi : i < 2 := (List.getElem?_eq_some_iff.mp hj).1
    refine ⟨rfl, _, rfl, by show 2 ≤ sizeLine; decide, fun w hw => ⟨refs, ?_, by rw [lr]; exact Nat.lt_trans hi (by decide), fun a o e => ?_, refs ++ [.ref w], upd_same, by rw [List.length_append, lr]; rfl, ?_⟩⟩
    · rw [upd_ne (ne_free gR hw).symm]; exact gR
    · rw [upd_ne (ne_of_none e hD), upd_ne (ne_of_none (sv _ _ e) hw)]; exact sv _ _ e
    · have nwD := ne_free gR hw
      rw [List.take_add_one, hj, List.map_append]
      refine ShAll.snoc (ShAll.on (fun a o q _ => q) (fun a o q e => by rw [upd_ne q, upd_ne (ne_of_none e hw)]; exact e) _ _ sh) (dI_sh ?_ nwD)
      rw [upd_ne nwD, upd_same]
  · obtain ⟨sv, refs, gR, lr, sh⟩ := pv
    refine ⟨.ref D2, fun _ => True, false, .list [dI v1, dI v2], rfl, .lst gR trivial (fun z => nomatch z) (ShAll.on (fun _ _ _ _ => trivial) (fun _ _ _ e => e) _ _ sh), o2.sw, Nat.le_trans o2.dp (by decide), o2.shown (by decide), rfl, _, rfl, iteNS rfl ?_⟩
    have kAll : Kp (· ≠ p) G H' := fun a o q e => sv _ _ (s4Y _ _ (s34 _ _ (k3 a o q (k2 a o q (k1 a o q e)))))
    obtain ⟨px, py, pz, hp3, pr⟩ := id pu3
    have hpH : H' p = some _ := sv _ _ (s4Y _ _ (s34 _ _ hp3))
    exact fin _ _ _ _ _ _ _ H' kAll ((pu3.of (hpH.trans hp3.symm)).mono (by omega))
end
end P3
end Bf

namespace Bf
open PySem PySem.Spec PyProof.Rows L2
namespace P3
/-- 1 if word in (..) else 2 -/
theorem many_ok {K : PySem.W.Frag} {σ : L2.St} {G : Hp} {c : Str} {Q : VK} (hσ : σ[3]? = some (some (.str c))) (q : ∀ G', Same G G' → Q (.int (wanted c)) G') :
    tIf (tTest (tOp (rIn K false) (tVar 3) (tTup (tCons (tC (.str "not")) (tCons (tC (.str "wide")) (tCons (tC (.str "bit")) tNil)))))) (tC (.int 1)) (tC (.int 2)) σ G Q := by
  refine ⟨_, hσ, by show 3 ≤ sizeLine; decide, fun T hT => ⟨T, W1.map V.str, rfl, .inr (SqT.of upd_same), rfl, by decide +kernel, _, rfl, ?_⟩⟩
  have z := q _ (same_new (o := .tup (W1.map V.str)) hT)
  unfold wanted at z
  by_cases h : inV (.str c) (W1.map V.str) = true
  · rw [if_pos h] at z
    exact iteB h z
  · rw [if_neg h] at z
    exact iteN (Bool.eq_false_iff.mpr h) z
section
variable {P : Program} {w : World} {K : PySem.W.Frag} {mg : Str → Option Value} {base : Heap} {cP cW cS cN : Addr}
def spLaw (K : PySem.W.Frag) : Sp := fun vs H Q _ => ∃ (a : Addr) (ns : List Int), vs = [.ref a] ∧ SqL K H a (ns.map V.int) ∧ ns.length ≤ 63 ∧ ∀ H', Q (.bl true) H'
set_option maxHeartbeats 1000000 in
theorem ok_law {aD fc fp ft fo fa fu fr f : Addr} {fd dc dp dt do_ da du dr : FuncData} (F : Fun K "law" "law" sLaw f fd) (N : Need P w K mg base cP cW cS cN aD fc fp ft fo fa fu fr dc dp dt do_ da du dr) : FnG P w K mg base CX0 8 f fd ["_law_script"] (spLaw K) := by
  refine Fun.okG F scLaw (fun vs H Q E h => ?_) (fun cdv A outer s H vs Q E hA hr h => ?_)
  · obtain ⟨a, ns, rfl, _⟩ := h
    rfl
  · obtain ⟨a, ns, rfl, hS, hl, q⟩ := h
    have hr1 := hr.mono (by decide : 2 ≤ 7)
    have hr2 := hr.mono (by decide : 3 ≤ 7)
    have hA' : (A.deeper (envOfC "law" (defScope sLaw) s.heap.objs.size f cdv)).guards = some [] := hA
    obtain ⟨tt, htail, turn⟩ := law_turn (cdv := cdv) (A := A) (outer := outer) (s := s) (H0 := H) (E := E) (f := f) N hA hr
    refine ⟨_, pss_cons (ps_if (pt_cmpR op_ne (pe_callB (call_reprD hA' hr.units) (by rfl) N.mp (by decide +kernel) (pa_cons (pe_glob (v := .ref aD) (by rfl) N.gD rfl) pa_nil))
        (pe_callB (call_reprD hA' hr.units) (by rfl) N.mp (by decide +kernel) (pa_cons (pe_tup (pa_cons pe_str (pa_cons pe_str (pa_cons pe_str (pa_cons pe_str (pa_cons pe_str (pa_cons pe_str (pa_cons pe_str (pa_cons pe_str (pa_cons pe_str (pa_cons pe_str pa_nil))))))))))) pa_nil)) (nomark _)) (pss_one (ps_ret pe_bl)) pss_nil)
      (pss_cons (ps_for PassesOwn.leaving rfl (pi_range1 (by rfl) N.mr (pa_cons (pe_callB (call_max2 rfl) (by rfl) N.mx (by decide +kernel) (pa_cons pe_int (pa_cons (pe_callB (call_min2 rfl) (by rfl) N.mn (by decide +kernel)
          (pa_cons pe_int (pa_cons (pe_callB call_len_seq (by rfl) N.ml PySem.boot_len (pa_cons (pv 0) pa_nil)) pa_nil))) pa_nil))) pa_nil)) (pg_name (i := 1) scLaw.nd rfl (Or.inl rfl))
        (pss_cons (ps_set (i := 2) scLaw.nd rfl (Or.inr rfl) (pe_call N.GP hr1 (by rfl) N.DP.at_ N.DP.kp N.DP.bd .nil pass0 (pa_cons (pe_call N.GC hr1 (by rfl) N.DC.at_ N.DC.kp N.DC.bd .nil pass0 (pa_cons (pv 0) (pa_cons (pv 1) pa_nil))) pa_nil)))
        (pss_one (ps_for PassesOwn.leaving rfl (pi_tup (pe_glob (v := .ref aD) (by rfl) N.gD rfl)) (pg_name (i := 3) scLaw.nd rfl (Or.inl rfl))
          (pss_cons (ps_set (i := 4) scLaw.nd rfl (Or.inr rfl) (pe_ix ix_list (pe_lst (pa_cons pe_int (pa_cons pe_int (pa_cons (pe_op op_add pe_int (pe_call N.GT hr1 (by rfl) N.DT.at_ N.DT.kp N.DT.bd .nil pass0 (pa_cons (pv 2) (pa_cons pe_int pa_nil)))) pa_nil))))
              (pe_call N.GT hr1 (by rfl) N.DT.at_ N.DT.kp N.DT.bd .nil pass0 (pa_cons (pv 2) (pa_cons pe_int pa_nil))) (fun _ _ => rfl)))
          (pss_cons (ps_set (i := 5) scLaw.nd rfl (Or.inl rfl) (pe_ifExp (pt_cmpR op_in_seq (pv 3) (pe_tup (pa_cons pe_str (pa_cons pe_str (pa_cons pe_str pa_nil)))) (by rfl)) pe_int pe_int))
          (pss_cons (ps_for PassesOwn.leaving rfl (pi_range1 (by rfl) N.mr (pa_cons pe_int pa_nil)) (pg_name (i := 6) scLaw.nd rfl (Or.inl rfl))
            (pss_cons (ps_setLc (i := 7) (own := [("_law_lap", 8)]) (g := gName 8) (tt := tYes) (by rfl) scLaw.nd rfl rfl (sw_true rfl rfl rfl (by decide +kernel)) (pi_range1 (by rfl) N.mr (pa_cons (pv 5) pa_nil))
                (blkOk_by (N := nLaw) (sc := defScope sLaw) (by decide +kernel)) (fun _ _ _ _ _ => pg_name (i := 8) scLaw.nd rfl (Or.inl rfl)) (fun _ _ _ _ _ => pts_nil)
                (fun _ _ _ _ _ => pe_call N.GO hr2 (by rfl) N.DO.at_ N.DO.kp N.DO.bd .nil pass0 (pa_cons (pv 2) (pa_cons (pv 4) pa_nil))))
            (pss_cons (ps_if (pt_cmpR op_eq (pe_call N.GT hr1 (by rfl) N.DT.at_ N.DT.kp N.DT.bd .nil pass0 (pa_cons (pv 2) (pa_cons pe_int pa_nil))) pe_int (nomark _))
                (pss_one (ps_set (i := 7) scLaw.nd rfl (Or.inl rfl) (pe_op op_rep (pe_slice sl_list (pv 7) po_none (po_some pe_int)) (pv 5)))) pss_nil) htail)))
          (pss_one (ps_if (pt_not (pt_val (pe_callG N.GR hA' hr (by rfl) N.DR.at_ N.DR.kp N.DR.bd pass0 (pa_cons (pv 2) (pa_cons (pv 3) (pa_cons (pv 4) (pa_cons (pv 7) pa_nil))))))) (pss_one (ps_ret pe_bl)) pss_nil)))))))))
      (pss_one (ps_ret pe_bl))), ?_⟩
    obtain ⟨w1, w2, w3, w4⟩ := wd_shown
    refine ⟨.ref aD, .tuple (WD.map PyData.str), rfl, .tup (N.sD _) (dpS WD), w4, w1, w2, w3, by show 10 ≤ sizeLine; decide, fun T hT => ⟨.ref T, .tuple (WD.map PyData.str), rfl, .tup (SqT.of upd_same) (dpS WD), w4, w1, w2, w3, rfl, _, rfl, iteNS rfl ?_⟩⟩
    have hcnt : ∀ l : Nat, 0 ≤ (if (if (l : Int) < 8 then (l : Int) else 8) > 2 then (if (l : Int) < 8 then (l : Int) else 8) else (2 : Int)) ∧ (if (if (l : Int) < 8 then (l : Int) else 8) > 2 then (if (l : Int) < 8 then (l : Int) else 8) else (2 : Int)) ≤ 8 := by
      intro l
      split <;> split <;> omega
    obtain ⟨c0, c8⟩ := hcnt (ns.map V.int).length
    refine ⟨_, rfl, a, _, rfl, .inl (Same.seq (same_new hT) hS), _, _, rfl, _, _, rfl, _, rfl, Int.le_trans (by decide) c0, Int.lt_of_le_of_lt c8 (by decide), for_range (lo := 0) (n := _) (fun i σ H1 => (∃ v1 v2 v3 v4 v5 v6 v7 v8 v9 v10 v11 v12 v13 v14 v15, σ = [some (.ref a), v1, v2, v3, v4, v5, v6, v7, v8, v9, v10, v11, v12, v13, v14, v15]) ∧ SqL K H1 a (ns.map V.int))
      ⟨⟨_, _, _, _, _, _, _, _, _, _, _, _, _, _, _, rfl⟩, Same.seq (same_new hT) hS⟩ (fun i σ H1 hi pv => ?_) fun σ H1 pv => q H1⟩
    obtain ⟨⟨v1, v2, v3, v4, v5, v6, v7, v8, v9, v10, v11, v12, v13, v14, v15, rfl⟩, hS1⟩ := pv
    refine ⟨_, rfl, _, rfl, a, ns, 0 + (i : Int), rfl, hS1, by omega, by omega, fun cell => ⟨cell, rfl, fun p H2 hp np eq2 pu2 => ?_⟩⟩
    have s2 : Same H1 H2 := fun b o e => (eq2 b (ne_of_none e hp)).trans e
    have back : ∀ {G : Hp}, Kp (· ≠ p) H2 G → Same H1 G := fun k b o e => k b o (ne_of_none e hp) (s2 b o e)
    refine ⟨aD, rfl, ⟨_, N.sD _⟩, for_tup (K := K) (a := aD) (xs := WD.map V.str) (fun j σ G => (∃ u1 u3 u4 u5 u6 u7 u8 u9 u10 u11 u12 u13 u14 u15, σ = [some (.ref a), u1, some (.ref p), u3, u4, u5, u6, u7, u8, u9, u10, u11, u12, u13, u14, u15]) ∧ Kp (· ≠ p) H2 G ∧ Purse G p (300 * (j : Int)))
      ⟨⟨_, _, _, _, _, _, _, _, _, _, _, _, _, _, rfl⟩, fun _ _ _ h => h, pu2.mono (by simp)⟩ (fun j σ G _ _ => N.sD _) (fun j x σ G hx pv => ?_) fun σ G pv => ?_⟩
    · obtain ⟨⟨u1, u3, u4, u5, u6, u7, u8, u9, u10, u11, u12, u13, u14, u15, rfl⟩, kG, puG⟩ := pv
      obtain ⟨c, hc, rfl⟩ : ∃ c, c ∈ WD ∧ x = .str c := by
        obtain ⟨c, mc, rfl⟩ := List.mem_map.mp (List.mem_of_getElem? hx)
        exact ⟨c, mc, rfl⟩
      have hj : j < 10 := (List.getElem?_eq_some_iff.mp hx).1
      dsimp only [gName, tSeq, tAsg]
      refine size_ok rfl puG (by omega) (fun z G1 z1 z8 k1 pu1 => ?_)
      refine many_ok rfl (fun G2 s3 => ?_)
      have w12 : wanted c = 1 ∨ wanted c = 2 := by unfold wanted; split <;> simp
      obtain ⟨px, py, pz, hp1, pr1⟩ := id pu1
      have pu2' : Purse G2 p (300 * (j : Int) + 2) := pu1.of ((s3 _ _ hp1).trans hp1.symm)
      have kG2 : Kp (· ≠ p) H2 G2 := fun b o q h => s3 _ _ (k1 b o q (kG b o q h))
      refine ⟨4, rfl, by decide, by decide, for_range (lo := 0) (n := 4) (fun i' σ G => ∃ u1 u6 u7 u8 u9 u10 u11 u12 u13 u14 u15, σ = [some (.ref a), u1, some (.ref p), some (.str c), some (.int z), some (.int (wanted c)), u6, u7, u8, u9, u10, u11, u12, u13, u14, u15] ∧ Kp (· ≠ p) H2 G ∧ Purse G p (300 * (j : Int) + 2 + 20 * (i' : Int)) ∧
          (i' ≠ 0 → ∃ (Wa : Addr) (ns' : List Int), u7 = some (.ref Wa) ∧ G Wa = some (.lst (ns'.map V.int)) ∧ Wa ≠ p ∧ ((ns'.length : Nat) : Int) = wanted c ∧ ∀ i ∈ ns', 0 ≤ i ∧ i ≤ topW z))
        ⟨_, _, _, _, _, _, _, _, _, _, _, rfl, kG2, pu2'.mono (by simp), fun z => absurd rfl z⟩ (fun i' σ G hi' pv => ?_) fun σ G pv => ?_⟩
      · obtain ⟨u1, u6, u7, u8, u9, u10, u11, u12, u13, u14, u15, rfl, kT, puT, _⟩ := pv
        -- from the worths on
        have go : ∀ (G' : Hp) (Wa : Addr) (ns' : List Int) (u6 u8 : Option V) (D : Ends), Kp (· ≠ p) H2 G' → Purse G' p (300 * (j : Int) + 2 + 20 * (i' : Int) + 10) → G' Wa = some (.lst (ns'.map V.int)) → Wa ≠ p → ((ns'.length : Nat) : Int) = wanted c → (∀ i ∈ ns', 0 ≤ i ∧ i ≤ topW z) →
            (∀ (v9 v10 v11 v12 v13 v14 v15 : Option V) (G2 : Hp), Kp (· ≠ p) H2 G2 → Purse G2 p (300 * (j : Int) + 2 + 20 * (i' : Int) + 20) → G2 Wa = some (.lst (ns'.map V.int)) → D.nx [some (.ref a), u1, some (.ref p), some (.str c), some (.int z), some (.int (wanted c)), u6, some (.ref Wa), u8, v9, v10, v11, v12, v13, v14, v15] G2) →
            tt D [some (.ref a), u1, some (.ref p), some (.str c), some (.int z), some (.int (wanted c)), u6, some (.ref Wa), u8, u9, u10, u11, u12, u13, u14, u15] G' := fun G' Wa ns' u6 u8 D kk pp gW nW ln rg fin =>
          turn D _ G' p Wa c z _ ns' _ _ _ _ _ _ _ _ _ _ _ _ rfl hc z1 z8 pp (by omega) gW nW ln rg fun v9 v10 v11 v12 v13 v14 v15 G2 k2 p2 => fin _ _ _ _ _ _ _ G2 (fun b o q h => k2 b o q (kk b o q h)) (p2.mono (by omega)) (k2 _ _ nW gW)
        have next : ∀ (Wa : Addr) (ns' : List Int) (u6 u8 v9 v10 v11 v12 v13 v14 v15 : Option V) (G2 : Hp), Wa ≠ p → ((ns'.length : Nat) : Int) = wanted c → (∀ i ∈ ns', 0 ≤ i ∧ i ≤ topW z) → Kp (· ≠ p) H2 G2 → Purse G2 p (300 * (j : Int) + 2 + 20 * (i' : Int) + 20) → G2 Wa = some (.lst (ns'.map V.int)) →
            ∃ w1 w6 w7 w8 w9 w10 w11 w12 w13 w14 w15, [some (V.ref a), u1, some (.ref p), some (.str c), some (.int z), some (.int (wanted c)), u6, some (.ref Wa), u8, v9, v10, v11, v12, v13, v14, v15] = [some (.ref a), w1, some (.ref p), some (.str c), some (.int z), some (.int (wanted c)), w6, w7, w8, w9, w10, w11, w12, w13, w14, w15] ∧ Kp (· ≠ p) H2 G2 ∧ Purse G2 p (300 * (j : Int) + 2 + 20 * ((i' + 1 : Nat) : Int)) ∧
              (i' + 1 ≠ 0 → ∃ (Wa : Addr) (ns' : List Int), w7 = some (.ref Wa) ∧ G2 Wa = some (.lst (ns'.map V.int)) ∧ Wa ≠ p ∧ ((ns'.length : Nat) : Int) = wanted c ∧ ∀ i ∈ ns', 0 ≤ i ∧ i ≤ topW z) := fun Wa ns' u6 u8 v9 v10 v11 v12 v13 v14 v15 G2 nW ln rg kk pp gW =>
          ⟨_, _, _, _, _, _, _, _, _, _, _, rfl, kk, pp.mono (by omega), fun _ => ⟨Wa, ns', rfl, gW, nW, ln, rg⟩⟩
        have nDp : ∀ {G' : Hp} {D : Addr}, Purse G' p (300 * (j : Int) + 2 + 20 * (i' : Int)) → G' D = none → D ≠ p := fun pu hD => by
          obtain ⟨x, y, z, e, r⟩ := pu
          exact ne_free e hD
        refine ⟨_, rfl, wanted c, rfl, by omega, by omega, fun D hD => ?_⟩
        have nD := nDp puT hD
        obtain ⟨px', py', pz', hpT, prT⟩ := id puT
        refine lc_range (lo := 0) (n := (wanted c).toNat) (fun k G' => ∃ js : List Int, js.length = k ∧ (∀ i ∈ js, 0 ≤ i ∧ i ≤ topW z) ∧ G' D = some (.lst (js.map V.int)) ∧ Kp (fun b => b ≠ p ∧ b ≠ D) G G' ∧ Purse G' p (300 * (j : Int) + 2 + 20 * (i' : Int) + 2 * (k : Int)))
          ⟨[], rfl, (fun _ m => nomatch m), upd_same, kp_new hD, (puT.of (upd_ne nD.symm)).mono (by simp)⟩ (fun k G' hk pv => ?_) fun G' pv => ?_
        · obtain ⟨js, lj, hj', gD, kD, pD⟩ := pv
          refine ⟨rfl, _, rfl, _, rfl, p, z, _, rfl, z1, z8, pD, by omega, fun v G2 v0 v1 kv pv2 => ⟨_, kv _ _ nD gD, by rw [List.length_map, lj]; exact small1000 (by omega), js ++ [v], by rw [List.length_append, lj]; rfl, fun i m => ?_, ?_, fun b o q h => ?_, (pv2.of (upd_ne nD.symm)).mono (by omega)⟩⟩
          · rcases List.mem_append.mp m with m | m
            · exact hj' i m
            · rw [List.mem_singleton.mp m]; exact ⟨v0, v1⟩
          · rw [upd_same, List.map_append]; rfl
          · rw [upd_ne q.2]; exact kv b o q.1 (kD b o q h)
        · obtain ⟨js, lj, hj', gD, kD, pD⟩ := pv
          have kT' : Kp (· ≠ p) H2 G' := fun b o q h => kD b o ⟨q, ne_of_none (kT b o q h) hD⟩ (kT b o q h)
          have ln : ((js.length : Nat) : Int) = wanted c := by omega
          refine ⟨_, rfl, p, 4, _, rfl, pD, by omega, by decide, by decide, fun d G2 d0 d1 pu5 eq5 => ⟨rfl, _, rfl, ite2 (fun _ => ?_) (fun _ => ?_)⟩⟩
          · have gD2 : G2 D = some (.lst (js.map V.int)) := (eq5 D nD).trans gD
            refine ⟨_, rfl, 1, rfl, D, _, rfl, SqL.of gD2, fun r hr => ?_⟩
            rw [cut_to (by decide)]
            have s6 : Same G2 (upd G2 r (.lst ((js.take (1 : Int).toNat).map V.int))) := same_new hr
            have lt : ((js.take (1 : Int).toNat).map V.int).length ≤ 1 := by rw [List.length_map, List.length_take]; exact Nat.min_le_left _ _
            refine ⟨_, rfl, r, wanted c, _, rfl, rfl, upd_same, by omega, by omega, Nat.le_trans (Nat.mul_le_mul lt (show (wanted c).toNat ≤ 2 by omega)) (by decide), fun Wa hW => ?_⟩
            obtain ⟨ax, ay, az, hp5, pr5⟩ := id pu5
            obtain ⟨ns', ens, lns, rns⟩ : ∃ ns' : List Int, (List.replicate (wanted c).toNat ((js.take (1 : Int).toNat).map V.int)).flatten = ns'.map V.int ∧ ((ns'.length : Nat) : Int) = wanted c ∧ ∀ i ∈ ns', 0 ≤ i ∧ i ≤ topW z := by
              match js, lj, hj' with
              | [], lj, _ => exact absurd lj (by simp; omega)
              | x :: r, lj, hj' =>
                refine ⟨List.replicate (wanted c).toNat x, ?_, by rw [List.length_replicate]; omega, fun i m => by rw [(List.mem_replicate.mp m).2]; exact hj' x List.mem_cons_self⟩
                rw [show ((x :: r).take (1 : Int).toNat).map V.int = [V.int x] from rfl, List.flatten_replicate_singleton, List.map_replicate]
            rw [ens] at *
            have s7 := same_trans_new (o := .lst (ns'.map V.int)) s6 hW
            have nW := ne_free (s6 _ _ hp5) hW
            have kW : Kp (· ≠ p) H2 (upd (upd G2 r (.lst ((js.take (1 : Int).toNat).map V.int))) Wa (.lst (ns'.map V.int))) := fun b o q h => s7 _ _ ((eq5 b q).trans (kT' b o q h))
            exact go _ Wa ns' _ _ _ kW ((pu5.of ((s7 _ _ hp5).trans hp5.symm)).mono (by omega)) upd_same nW lns rns fun v9 v10 v11 v12 v13 v14 v15 G3 k3 p3 g3 => next Wa ns' _ _ _ _ _ _ _ _ _ G3 nW lns rns k3 p3 g3
          · exact go G2 D js _ _ _ (fun b o q h => (eq5 b q).trans (kT' b o q h)) (pu5.mono (by omega)) ((eq5 D nD).trans gD) nD ln hj' fun v9 v10 v11 v12 v13 v14 v15 G3 k3 p3 g3 => next D js _ _ _ _ _ _ _ _ _ G3 nD ln hj' k3 p3 g3
      · obtain ⟨u1, u6, u7, u8, u9, u10, u11, u12, u13, u14, u15, rfl, kT, puT, wk⟩ := pv
        obtain ⟨Wa, ns', rfl, gW, nW, ln, rg⟩ := wk (by decide)
        refine ⟨_, rfl, _, rfl, _, rfl, _, rfl, p, c, z, _, Wa, ns', rfl, hc, z1, z8, puT, by omega, gW, nW, ln, rg, fun H'' kk pu' => ⟨_, rfl, iteF ?_⟩⟩
        exact ⟨⟨_, _, _, _, _, _, _, _, _, _, _, _, _, _, rfl⟩, fun b o q h => kk b o q (kT b o q h), pu'.mono (by omega)⟩
    · obtain ⟨⟨u1, u3, u4, u5, u6, u7, u8, u9, u10, u11, u12, u13, u14, u15, rfl⟩, kG, puG⟩ := pv
      exact ⟨⟨_, _, _, _, _, _, _, _, _, _, _, _, _, _, _, rfl⟩, Same.seq (back kG) hS1⟩
end
end P3
end Bf

namespace Bf
open PySem PySem.Spec PyProof.Rows L2
namespace P3
set_option maxHeartbeats 2000000 in
theorem all_mk {l : PySem.W.OpenLaw} {w : World} {K : PySem.W.Frag} {h : Heap} {mg : Str → Option Value} {fa : Addr} (X : K.In h) (G : h.Ns mainGlobals mg) (hfa : mg "law" = some (.ref fa))
    {fnb : Addr} {odnb annb : Option Addr} {slnb : Array (Option Value)} {ocnb kVnb dcnb pmnb cdnb ctnb : Value}
    {fwh : Addr} {odwh anwh : Option Addr} {slwh : Array (Option Value)} {ocwh kVwh dcwh pmwh cdwh ctwh : Value}
    {fwi : Addr} {odwi anwi : Option Addr} {slwi : Array (Option Value)} {ocwi kVwi dcwi pmwi cdwi ctwi : Value}
    {fgr : Addr} {odgr angr : Option Addr} {slgr : Array (Option Value)} {ocgr kVgr dcgr pmgr cdgr ctgr : Value}
    {fwo : Addr} {odwo anwo : Option Addr} {slwo : Array (Option Value)} {ocwo kVwo dcwo pmwo cdwo ctwo : Value}
    {far : Addr} {odar anar : Option Addr} {slar : Array (Option Value)} {ocar kVar dcar pmar cdar ctar : Value}
    {fil : Addr} {odil anil : Option Addr} {slil : Array (Option Value)} {ocil kVil dcil pmil cdil ctil : Value}
    {fro : Addr} {odro anro : Option Addr} {slro : Array (Option Value)} {ocro kVro dcro pmro cdro ctro : Value}
    {frt : Addr} {odrt anrt : Option Addr} {slrt : Array (Option Value)} {ocrt kVrt dcrt pmrt cdrt ctrt : Value}
    {fce : Addr} {odce ance : Option Addr} {slce : Array (Option Value)} {occe kVce dcce pmce cdce ctce : Value}
    {fpu : Addr} {odpu anpu : Option Addr} {slpu : Array (Option Value)} {ocpu kVpu dcpu pmpu cdpu ctpu : Value}
    {fta : Addr} {odta anta : Option Addr} {slta : Array (Option Value)} {octa kVta dcta pmta cdta ctta : Value}
    {fbi : Addr} {odbi anbi : Option Addr} {slbi : Array (Option Value)} {ocbi kVbi dcbi pmbi cdbi ctbi : Value}
    {fma : Addr} {odma anma : Option Addr} {slma : Array (Option Value)} {ocma kVma dcma pmma cdma ctma : Value}
    {fca : Addr} {odca anca : Option Addr} {slca : Array (Option Value)} {occa kVca dcca pmca cdca ctca : Value}
    {fdu : Addr} {oddu andu : Option Addr} {sldu : Array (Option Value)} {ocdu kVdu dcdu pmdu cddu ctdu : Value}
    {fas : Addr} {odas anas : Option Addr} {slas : Array (Option Value)} {ocas kVas dcas pmas cdas ctas : Value}
    {fwr : Addr} {odwr anwr : Option Addr} {slwr : Array (Option Value)} {ocwr kVwr dcwr pmwr cdwr ctwr : Value}
    {fre : Addr} {odre anre : Option Addr} {slre : Array (Option Value)} {ocre kVre dcre pmre cdre ctre : Value}
    {fla : Addr} {odla anla : Option Addr} {slla : Array (Option Value)} {ocla kVla dcla pmla cdla ctla : Value}
    {fR kD : Addr} {odR anR : Option Addr} {slR : Array (Option Value)} {ocR dcR pmR cdR ctR : Value} {tkT tkA : Tok}
    {aD : Addr} {odDt : Option Addr} {slDt : Array (Option Value)} {nDt : Nat} {twD0 twD1 twD2 twD3 twD4 twD5 twD6 twD7 twD8 twD9 : Tok}
    {a1 : Addr} {odEt : Option Addr} {slEt : Array (Option Value)} {nEt : Nat} {twE0 twE1 twE2 : Tok}
    {CF fF : Addr} {odF anF : Option Addr} {slF : Array (Option Value)} {ocF kVF dcF pmF cdF ctF : Value}
    {CP fP : Addr} {odP anP : Option Addr} {slP : Array (Option Value)} {ocP kVP dcP pmP cdP ctP : Value} {nmP qP : Str} {NP : Addr} {bsP bmP : List Value} {snP : List Str} {subP : List Value} {abP : Bool} {colP : Option Bool} {ddP : Option Addr} {m0P m1P m2P m3P m5P : Option Value}
    {CW fW : Addr} {odW anW : Option Addr} {slW : Array (Option Value)} {ocW kVW dcW pmW cdW ctW : Value} {nmW qW : Str} {NW : Addr} {bsW bmW : List Value} {snW : List Str} {subW : List Value} {abW : Bool} {colW : Option Bool} {ddW : Option Addr} {m0W m1W m2W m3W m5W : Option Value}
    {CS fS : Addr} {odS anS : Option Addr} {slS : Array (Option Value)} {ocS kVS dcS pmS cdS ctS : Value} {nmS qS : Str} {NS : Addr} {bsS bmS : List Value} {snS : List Str} {subS : List Value} {abS : Bool} {colS : Option Bool} {ddS : Option Addr} {m0S m1S m2S m3S m5S : Option Value}
    {CN fN : Addr} {odN anN : Option Addr} {slN : Array (Option Value)} {ocN kVN dcN pmN cdN ctN : Value} {nmN qN : Str} {NN : Addr} {bsN bmN : List Value} {snN : List Str} {subN : List Value} {abN : Bool} {colN : Option Bool} {ddN : Option Addr} {m0N m1N m2N m3N m5N : Option Value}
    (anb : PySem.W.nsIn K mainGlobals "is_number" = some (some (.ref fnb)))
    (lnb : K.lookup fnb = some ⟨ocnb, odnb, .func (PySem.W.fnOf "is_number" "is_number" (defArgs sNumber) (defBody sNumber) (defScope sNumber) .none kVnb dcnb pmnb annb cdnb ctnb), slnb⟩)
    (cnb : PySem.W.codeIn K cdnb "is_number" = true)
    (knb : PySem.W.keepIn K (.ref fnb) = true)
    (awh : PySem.W.nsIn K mainGlobals "is_whole" = some (some (.ref fwh)))
    (lwh : K.lookup fwh = some ⟨ocwh, odwh, .func (PySem.W.fnOf "is_whole" "is_whole" (defArgs sWhole) (defBody sWhole) (defScope sWhole) .none kVwh dcwh pmwh anwh cdwh ctwh), slwh⟩)
    (cwh : PySem.W.codeIn K cdwh "is_whole" = true)
    (kwh : PySem.W.keepIn K (.ref fwh) = true)
    (awi : PySem.W.nsIn K mainGlobals "is_width" = some (some (.ref fwi)))
    (lwi : K.lookup fwi = some ⟨ocwi, odwi, .func (PySem.W.fnOf "is_width" "is_width" (defArgs sWidth) (defBody sWidth) (defScope sWidth) .none kVwi dcwi pmwi anwi cdwi ctwi), slwi⟩)
    (cwi : PySem.W.codeIn K cdwi "is_width" = true)
    (kwi : PySem.W.keepIn K (.ref fwi) = true)
    (agr : PySem.W.nsIn K mainGlobals "_greatest" = some (some (.ref fgr)))
    (lgr : K.lookup fgr = some ⟨ocgr, odgr, .func (PySem.W.fnOf "_greatest" "_greatest" (defArgs sGreat) (defBody sGreat) (defScope sGreat) .none kVgr dcgr pmgr angr cdgr ctgr), slgr⟩)
    (cgr : PySem.W.codeIn K cdgr "_greatest" = true)
    (kgr : PySem.W.keepIn K (.ref fgr) = true)
    (awo : PySem.W.nsIn K mainGlobals "_is_worth_of_width" = some (some (.ref fwo)))
    (lwo : K.lookup fwo = some ⟨ocwo, odwo, .func (PySem.W.fnOf "_is_worth_of_width" "_is_worth_of_width" (defArgs sWorthOf) (defBody sWorthOf) (defScope sWorthOf) .none kVwo dcwo pmwo anwo cdwo ctwo), slwo⟩)
    (cwo : PySem.W.codeIn K cdwo "_is_worth_of_width" = true)
    (kwo : PySem.W.keepIn K (.ref fwo) = true)
    (aar : PySem.W.nsIn K mainGlobals "_are_worths_of_width" = some (some (.ref far)))
    (lar : K.lookup far = some ⟨ocar, odar, .func (PySem.W.fnOf "_are_worths_of_width" "_are_worths_of_width" (defArgs sAre) (defBody sAre) (defScope sAre) .none kVar dcar pmar anar cdar ctar), slar⟩)
    (car : PySem.W.codeIn K cdar "_are_worths_of_width" = true)
    (kar : PySem.W.keepIn K (.ref far) = true)
    (ail : PySem.W.nsIn K mainGlobals "is_list" = some (some (.ref fil)))
    (lil : K.lookup fil = some ⟨ocil, odil, .func (PySem.W.fnOf "is_list" "is_list" (defArgs sIsList) (defBody sIsList) (defScope sIsList) .none kVil dcil pmil anil cdil ctil), slil⟩)
    (cil : PySem.W.codeIn K cdil "is_list" = true)
    (kil : PySem.W.keepIn K (.ref fil) = true)
    (aro : PySem.W.nsIn K mainGlobals "_reckoned_of_one" = some (some (.ref fro)))
    (lro : K.lookup fro = some ⟨ocro, odro, .func (PySem.W.fnOf "_reckoned_of_one" "_reckoned_of_one" (defArgs sOne) (defBody sOne) (defScope sOne) .none kVro dcro pmro anro cdro ctro), slro⟩)
    (cro : PySem.W.codeIn K cdro "_reckoned_of_one" = true)
    (kro : PySem.W.keepIn K (.ref fro) = true)
    (art : PySem.W.nsIn K mainGlobals "_reckoned_of_two" = some (some (.ref frt)))
    (lrt : K.lookup frt = some ⟨ocrt, odrt, .func (PySem.W.fnOf "_reckoned_of_two" "_reckoned_of_two" (defArgs sTwo) (defBody sTwo) (defScope sTwo) .none kVrt dcrt pmrt anrt cdrt ctrt), slrt⟩)
    (crt : PySem.W.codeIn K cdrt "_reckoned_of_two" = true)
    (krt : PySem.W.keepIn K (.ref frt) = true)
    (ace : PySem.W.nsIn K mainGlobals "_law_cell" = some (some (.ref fce)))
    (lce : K.lookup fce = some ⟨occe, odce, .func (PySem.W.fnOf "_law_cell" "_law_cell" (defArgs sCell) (defBody sCell) (defScope sCell) .none kVce dcce pmce ance cdce ctce), slce⟩)
    (cce : PySem.W.codeIn K cdce "_law_cell" = true)
    (kce : PySem.W.keepIn K (.ref fce) = true)
    (apu : PySem.W.nsIn K mainGlobals "_law_purse" = some (some (.ref fpu)))
    (lpu : K.lookup fpu = some ⟨ocpu, odpu, .func (PySem.W.fnOf "_law_purse" "_law_purse" (defArgs sPurse) (defBody sPurse) (defScope sPurse) .none kVpu dcpu pmpu anpu cdpu ctpu), slpu⟩)
    (cpu : PySem.W.codeIn K cdpu "_law_purse" = true)
    (kpu : PySem.W.keepIn K (.ref fpu) = true)
    (ata : PySem.W.nsIn K mainGlobals "_law_take" = some (some (.ref fta)))
    (lta : K.lookup fta = some ⟨octa, odta, .func (PySem.W.fnOf "_law_take" "_law_take" (defArgs sTake) (defBody sTake) (defScope sTake) .none kVta dcta pmta anta cdta ctta), slta⟩)
    (cta : PySem.W.codeIn K cdta "_law_take" = true)
    (kta : PySem.W.keepIn K (.ref fta) = true)
    (abi : PySem.W.nsIn K mainGlobals "_law_bits" = some (some (.ref fbi)))
    (lbi : K.lookup fbi = some ⟨ocbi, odbi, .func (PySem.W.fnOf "_law_bits" "_law_bits" (defArgs sBits) (defBody sBits) (defScope sBits) .none kVbi dcbi pmbi anbi cdbi ctbi), slbi⟩)
    (cbi : PySem.W.codeIn K cdbi "_law_bits" = true)
    (kbi : PySem.W.keepIn K (.ref fbi) = true)
    (ama : PySem.W.nsIn K mainGlobals "_law_made" = some (some (.ref fma)))
    (lma : K.lookup fma = some ⟨ocma, odma, .func (PySem.W.fnOf "_law_made" "_law_made" (defArgs sMade) (defBody sMade) (defScope sMade) .none kVma dcma pmma anma cdma ctma), slma⟩)
    (cma : PySem.W.codeIn K cdma "_law_made" = true)
    (kma : PySem.W.keepIn K (.ref fma) = true)
    (aca : PySem.W.nsIn K mainGlobals "_law_carried" = some (some (.ref fca)))
    (lca : K.lookup fca = some ⟨occa, odca, .func (PySem.W.fnOf "_law_carried" "_law_carried" (defArgs sCarr) (defBody sCarr) (defScope sCarr) .none kVca dcca pmca anca cdca ctca), slca⟩)
    (cca : PySem.W.codeIn K cdca "_law_carried" = true)
    (kca : PySem.W.keepIn K (.ref fca) = true)
    (adu : PySem.W.nsIn K mainGlobals "_law_due" = some (some (.ref fdu)))
    (ldu : K.lookup fdu = some ⟨ocdu, oddu, .func (PySem.W.fnOf "_law_due" "_law_due" (defArgs sDue) (defBody sDue) (defScope sDue) .none kVdu dcdu pmdu andu cddu ctdu), sldu⟩)
    (cdu : PySem.W.codeIn K cddu "_law_due" = true)
    (kdu : PySem.W.keepIn K (.ref fdu) = true)
    (aas : PySem.W.nsIn K mainGlobals "_law_asked" = some (some (.ref fas)))
    (las : K.lookup fas = some ⟨ocas, odas, .func (PySem.W.fnOf "_law_asked" "_law_asked" (defArgs sAsked) (defBody sAsked) (defScope sAsked) .none kVas dcas pmas anas cdas ctas), slas⟩)
    (cas : PySem.W.codeIn K cdas "_law_asked" = true)
    (kas : PySem.W.keepIn K (.ref fas) = true)
    (awr : PySem.W.nsIn K mainGlobals "_law_worth" = some (some (.ref fwr)))
    (lwr : K.lookup fwr = some ⟨ocwr, odwr, .func (PySem.W.fnOf "_law_worth" "_law_worth" (defArgs sWorth) (defBody sWorth) (defScope sWorth) .none kVwr dcwr pmwr anwr cdwr ctwr), slwr⟩)
    (cwr : PySem.W.codeIn K cdwr "_law_worth" = true)
    (kwr : PySem.W.keepIn K (.ref fwr) = true)
    (are : PySem.W.nsIn K mainGlobals "_law_refused_right" = some (some (.ref fre)))
    (lre : K.lookup fre = some ⟨ocre, odre, .func (PySem.W.fnOf "_law_refused_right" "_law_refused_right" (defArgs sRef) (defBody sRef) (defScope sRef) .none kVre dcre pmre anre cdre ctre), slre⟩)
    (cre : PySem.W.codeIn K cdre "_law_refused_right" = true)
    (kre : PySem.W.keepIn K (.ref fre) = true)
    (ala : PySem.W.nsIn K mainGlobals "law" = some (some (.ref fla)))
    (lla : K.lookup fla = some ⟨ocla, odla, .func (PySem.W.fnOf "law" "law" (defArgs sLaw) (defBody sLaw) (defScope sLaw) .none kVla dcla pmla anla cdla ctla), slla⟩)
    (cla : PySem.W.codeIn K cdla "law" = true)
    (kla : PySem.W.keepIn K (.ref fla) = true)
    (aR : PySem.W.nsIn K mainGlobals "reckoned" = some (some (.ref fR)))
    (lR : K.lookup fR = some ⟨ocR, odR, .func (PySem.W.fnOf "reckoned" "reckoned" (defArgs sReck) (defBody sReck) (defScope sReck) .none (.ref kD) dcR pmR anR cdR ctR), slR⟩)
    (cR : PySem.W.codeIn K cdR "reckoned" = true)
    (kR : PySem.W.keepIn K (.ref fR) = true)
    (kwT : PySem.W.nsIn K kD "to" = some (some (.int 1 tkT)))
    (kwA : PySem.W.nsIn K kD "at" = some (some (.int 0 tkA)))
    (gDt : PySem.W.nsIn K mainGlobals "WORDS" = some (some (.ref aD)))
    (lDt : K.lookup aD = some ⟨.type "tuple", odDt, .seq #[.str "not" twD0, .str "and" twD1, .str "or" twD2, .str "xor" twD3, .str "add" twD4, .str "sub" twD5, .str "less" twD6, .str "same" twD7, .str "wide" twD8, .str "bit" twD9] nDt, slDt⟩)
    (gEt : PySem.W.nsIn K mainGlobals "WORDS_OF_ONE" = some (some (.ref a1)))
    (lEt : K.lookup a1 = some ⟨.type "tuple", odEt, .seq #[.str "not" twE0, .str "wide" twE1, .str "bit" twE2] nEt, slEt⟩)
    (aF : PySem.W.nsIn K mainGlobals "FlowError" = some (some (.ref CF)))
    (rF : PySem.W.readsIn K CF (.type "type") = true)
    (gF : PySem.W.specialIn K (.ref CF) "__getattribute__" = some (some (.builtin "type.__getattribute__")))
    (vF : PySem.W.findCls K (.ref CF) (.type "type") "__init__" = some (.val (.ref fF)))
    (lF : K.lookup fF = some ⟨ocF, odF, .func (PySem.W.fnOf "__init__" "FlowError.__init__" (defArgs sFE) (defBody sFE) (defScope sFE) .none kVF dcF pmF anF cdF ctF), slF⟩)
    (cF : PySem.W.codeIn K cdF "FlowError.__init__" = true)
    (kF : PySem.W.keepIn K (.ref fF) = true)
    (vV : PySem.W.findCls K (.type "ValueError") (.type "type") "__init__" = some (.val (.builtin "ValueError.__init__")))
    (aP : PySem.W.nsIn K mainGlobals "NoOp" = some (some (.ref CP)))
    (xP : K.lookup CP = some (excClassObj nmP qP CP NP bsP bmP true snP subP abP colP ddP m0P m1P m2P m3P m5P "ValueError.__new__"))
    (veP : PySem.HandSPX.refsVE bmP = true)
    (saP : PySem.W.findIn K (.ref CP) "__setattr__" = some (some (.builtin "object.__setattr__")))
    (gaP : PySem.W.findIn K (.ref CP) "__getattribute__" = some (some (.builtin "BaseException.__getattribute__")))
    (ggP : PySem.W.findIn K (.ref CP) "__getattr__" = some none)
    (nfP : PySem.W.findIn K (.ref CP) "found" = some none)
    (iP : PySem.W.findIn K (.ref CP) "__init__" = some (some (.ref fP)))
    (tP : PySem.W.typeIn K (.ref fP) = some (.type "function"))
    (lP : K.lookup fP = some ⟨ocP, odP, .func (PySem.W.fnOf "__init__" "NoOp.__init__" (defArgs sNP) (defBody sNP) (defScope sNP) .none kVP dcP pmP anP cdP ctP), slP⟩)
    (cP : PySem.W.codeIn K cdP "NoOp.__init__" = true)
    (kP : PySem.W.keepIn K (.ref fP) = true)
    (kCP : PySem.W.keepIn K (.ref CP) = true)
    (eCP : PySem.W.subIn K (.ref CP) (.type "BaseException") = some true)
    (tCP : PySem.W.typeIn K (.ref CP) = some (.type "type"))
    (hCP : PySem.W.hasDictIn K CP = true)
    (aW : PySem.W.nsIn K mainGlobals "NoWidth" = some (some (.ref CW)))
    (xW : K.lookup CW = some (excClassObj nmW qW CW NW bsW bmW true snW subW abW colW ddW m0W m1W m2W m3W m5W "ValueError.__new__"))
    (veW : PySem.HandSPX.refsVE bmW = true)
    (saW : PySem.W.findIn K (.ref CW) "__setattr__" = some (some (.builtin "object.__setattr__")))
    (gaW : PySem.W.findIn K (.ref CW) "__getattribute__" = some (some (.builtin "BaseException.__getattribute__")))
    (ggW : PySem.W.findIn K (.ref CW) "__getattr__" = some none)
    (nfW : PySem.W.findIn K (.ref CW) "found" = some none)
    (iW : PySem.W.findIn K (.ref CW) "__init__" = some (some (.ref fW)))
    (tW : PySem.W.typeIn K (.ref fW) = some (.type "function"))
    (lW : K.lookup fW = some ⟨ocW, odW, .func (PySem.W.fnOf "__init__" "NoWidth.__init__" (defArgs sNW) (defBody sNW) (defScope sNW) .none kVW dcW pmW anW cdW ctW), slW⟩)
    (cW : PySem.W.codeIn K cdW "NoWidth.__init__" = true)
    (kW : PySem.W.keepIn K (.ref fW) = true)
    (kCW : PySem.W.keepIn K (.ref CW) = true)
    (eCW : PySem.W.subIn K (.ref CW) (.type "BaseException") = some true)
    (tCW : PySem.W.typeIn K (.ref CW) = some (.type "type"))
    (hCW : PySem.W.hasDictIn K CW = true)
    (aS : PySem.W.nsIn K mainGlobals "NoWorths" = some (some (.ref CS)))
    (xS : K.lookup CS = some (excClassObj nmS qS CS NS bsS bmS true snS subS abS colS ddS m0S m1S m2S m3S m5S "ValueError.__new__"))
    (veS : PySem.HandSPX.refsVE bmS = true)
    (saS : PySem.W.findIn K (.ref CS) "__setattr__" = some (some (.builtin "object.__setattr__")))
    (gaS : PySem.W.findIn K (.ref CS) "__getattribute__" = some (some (.builtin "BaseException.__getattribute__")))
    (ggS : PySem.W.findIn K (.ref CS) "__getattr__" = some none)
    (nfS : PySem.W.findIn K (.ref CS) "found" = some none)
    (iS : PySem.W.findIn K (.ref CS) "__init__" = some (some (.ref fS)))
    (tS : PySem.W.typeIn K (.ref fS) = some (.type "function"))
    (lS : K.lookup fS = some ⟨ocS, odS, .func (PySem.W.fnOf "__init__" "NoWorths.__init__" (defArgs sNS) (defBody sNS) (defScope sNS) .none kVS dcS pmS anS cdS ctS), slS⟩)
    (cS : PySem.W.codeIn K cdS "NoWorths.__init__" = true)
    (kS : PySem.W.keepIn K (.ref fS) = true)
    (kCS : PySem.W.keepIn K (.ref CS) = true)
    (eCS : PySem.W.subIn K (.ref CS) (.type "BaseException") = some true)
    (tCS : PySem.W.typeIn K (.ref CS) = some (.type "type"))
    (hCS : PySem.W.hasDictIn K CS = true)
    (aN : PySem.W.nsIn K mainGlobals "NoNumber" = some (some (.ref CN)))
    (xN : K.lookup CN = some (excClassObj nmN qN CN NN bsN bmN true snN subN abN colN ddN m0N m1N m2N m3N m5N "ValueError.__new__"))
    (veN : PySem.HandSPX.refsVE bmN = true)
    (saN : PySem.W.findIn K (.ref CN) "__setattr__" = some (some (.builtin "object.__setattr__")))
    (gaN : PySem.W.findIn K (.ref CN) "__getattribute__" = some (some (.builtin "BaseException.__getattribute__")))
    (ggN : PySem.W.findIn K (.ref CN) "__getattr__" = some none)
    (nfN : PySem.W.findIn K (.ref CN) "found" = some none)
    (iN : PySem.W.findIn K (.ref CN) "__init__" = some (some (.ref fN)))
    (tN : PySem.W.typeIn K (.ref fN) = some (.type "function"))
    (lN : K.lookup fN = some ⟨ocN, odN, .func (PySem.W.fnOf "__init__" "NoNumber.__init__" (defArgs sNN) (defBody sNN) (defScope sNN) .none kVN dcN pmN anN cdN ctN), slN⟩)
    (cN : PySem.W.codeIn K cdN "NoNumber.__init__" = true)
    (kN : PySem.W.keepIn K (.ref fN) = true)
    (kCN : PySem.W.keepIn K (.ref CN) = true)
    (eCN : PySem.W.subIn K (.ref CN) (.type "BaseException") = some true)
    (tCN : PySem.W.typeIn K (.ref CN) = some (.type "type"))
    (hCN : PySem.W.hasDictIn K CN = true)
    (uPP : PySem.W.subIn K (.ref CP) (.ref CP) = some true)
    (uWP : PySem.W.subIn K (.ref CW) (.ref CP) = some false)
    (uWW : PySem.W.subIn K (.ref CW) (.ref CW) = some true)
    (uSP : PySem.W.subIn K (.ref CS) (.ref CP) = some false)
    (uSW : PySem.W.subIn K (.ref CS) (.ref CW) = some false)
    (uSS : PySem.W.subIn K (.ref CS) (.ref CS) = some true)
    (uNP : PySem.W.subIn K (.ref CN) (.ref CP) = some false)
    (uNW : PySem.W.subIn K (.ref CN) (.ref CW) = some false)
    (uNS : PySem.W.subIn K (.ref CN) (.ref CS) = some false)
    (uNN : PySem.W.subIn K (.ref CN) (.ref CN) = some true)
    (zisinstance : PySem.W.nsIn K mainGlobals "isinstance" = some none)
    (zint : PySem.W.nsIn K mainGlobals "int" = some none)
    (zbool : PySem.W.nsIn K mainGlobals "bool" = some none)
    (zlist : PySem.W.nsIn K mainGlobals "list" = some none)
    (ztuple : PySem.W.nsIn K mainGlobals "tuple" = some none)
    (zrange : PySem.W.nsIn K mainGlobals "range" = some none)
    (zlen : PySem.W.nsIn K mainGlobals "len" = some none)
    (zall : PySem.W.nsIn K mainGlobals "all" = some none)
    (zenumerate : PySem.W.nsIn K mainGlobals "enumerate" = some none)
    (zValueError : PySem.W.nsIn K mainGlobals "ValueError" = some none)
    (zmax : PySem.W.nsIn K mainGlobals "max" = some none)
    (zmin : PySem.W.nsIn K mainGlobals "min" = some none)
    (zrepr : PySem.W.nsIn K mainGlobals "repr" = some none)
    (zsum : PySem.W.nsIn K mainGlobals "sum" = some none)
    (zzip : PySem.W.nsIn K mainGlobals "zip" = some none) :
    ∃ fd : FuncData, (∀ (s : Shared) (v : Value), BindsTo s fd ⟨[v], []⟩ [("_law_script", v)]) ∧ ∀ base : Heap, K.In base → base.Ns mainGlobals mg → FnG l.prog w K mg base CX0 8 fa fd ["_law_script"] (spLaw K) := by
  have e := hfa.symm.trans (PySem.W.mg_of X G ala)
  cases e
  have Fnb := fun_mk (st := sNumber) lnb cnb knb
  have bnb := Fnb.binds (ps := ["thing"]) fun _ _ _ _ _ _ us hl => match us, hl with | [_], _ => rfl
  have Dnb : Df K mg "is_number" fnb _ ["thing"] := ⟨PySem.W.mg_of X G anb, knb, bnb⟩
  have Fwh := fun_mk (st := sWhole) lwh cwh kwh
  have bwh := Fwh.binds (ps := ["thing", "low", "high"]) fun _ _ _ _ _ _ us hl => match us, hl with | [_, _, _], _ => rfl
  have Dwh : Df K mg "is_whole" fwh _ ["thing", "low", "high"] := ⟨PySem.W.mg_of X G awh, kwh, bwh⟩
  have Fwi := fun_mk (st := sWidth) lwi cwi kwi
  have bwi := Fwi.binds (ps := ["thing"]) fun _ _ _ _ _ _ us hl => match us, hl with | [_], _ => rfl
  have Dwi : Df K mg "is_width" fwi _ ["thing"] := ⟨PySem.W.mg_of X G awi, kwi, bwi⟩
  have Fgr := fun_mk (st := sGreat) lgr cgr kgr
  have bgr := Fgr.binds (ps := ["width"]) fun _ _ _ _ _ _ us hl => match us, hl with | [_], _ => rfl
  have Dgr : Df K mg "_greatest" fgr _ ["width"] := ⟨PySem.W.mg_of X G agr, kgr, bgr⟩
  have Fwo := fun_mk (st := sWorthOf) lwo cwo kwo
  have bwo := Fwo.binds (ps := ["thing", "width"]) fun _ _ _ _ _ _ us hl => match us, hl with | [_, _], _ => rfl
  have Dwo : Df K mg "_is_worth_of_width" fwo _ ["thing", "width"] := ⟨PySem.W.mg_of X G awo, kwo, bwo⟩
  have Far := fun_mk (st := sAre) lar car kar
  have bar := Far.binds (ps := ["things", "width"]) fun _ _ _ _ _ _ us hl => match us, hl with | [_, _], _ => rfl
  have Dar : Df K mg "_are_worths_of_width" far _ ["things", "width"] := ⟨PySem.W.mg_of X G aar, kar, bar⟩
  have Fil := fun_mk (st := sIsList) lil cil kil
  have bil := Fil.binds (ps := ["thing"]) fun _ _ _ _ _ _ us hl => match us, hl with | [_], _ => rfl
  have Dil : Df K mg "is_list" fil _ ["thing"] := ⟨PySem.W.mg_of X G ail, kil, bil⟩
  have Fro := fun_mk (st := sOne) lro cro kro
  have bro := Fro.binds (ps := ["word", "width", "worth", "to", "at"]) fun _ _ _ _ _ _ us hl => match us, hl with | [_, _, _, _, _], _ => rfl
  have Dro : Df K mg "_reckoned_of_one" fro _ ["word", "width", "worth", "to", "at"] := ⟨PySem.W.mg_of X G aro, kro, bro⟩
  have Frt := fun_mk (st := sTwo) lrt crt krt
  have brt := Frt.binds (ps := ["word", "width", "one", "other"]) fun _ _ _ _ _ _ us hl => match us, hl with | [_, _, _, _], _ => rfl
  have Drt : Df K mg "_reckoned_of_two" frt _ ["word", "width", "one", "other"] := ⟨PySem.W.mg_of X G art, krt, brt⟩
  have Fce := fun_mk (st := sCell) lce cce kce
  have bce := Fce.binds (ps := ["_law_script", "_law_k"]) fun _ _ _ _ _ _ us hl => match us, hl with | [_, _], _ => rfl
  have Dce : Df K mg "_law_cell" fce _ ["_law_script", "_law_k"] := ⟨PySem.W.mg_of X G ace, kce, bce⟩
  have Fpu := fun_mk (st := sPurse) lpu cpu kpu
  have bpu := Fpu.binds (ps := ["_law_cell_here"]) fun _ _ _ _ _ _ us hl => match us, hl with | [_], _ => rfl
  have Dpu : Df K mg "_law_purse" fpu _ ["_law_cell_here"] := ⟨PySem.W.mg_of X G apu, kpu, bpu⟩
  have Fta := fun_mk (st := sTake) lta cta kta
  have bta := Fta.binds (ps := ["_law_purse_here", "_law_many"]) fun _ _ _ _ _ _ us hl => match us, hl with | [_, _], _ => rfl
  have Dta : Df K mg "_law_take" fta _ ["_law_purse_here", "_law_many"] := ⟨PySem.W.mg_of X G ata, kta, bta⟩
  have Fbi := fun_mk (st := sBits) lbi cbi kbi
  have bbi := Fbi.binds (ps := ["_law_width", "_law_worth_here"]) fun _ _ _ _ _ _ us hl => match us, hl with | [_, _], _ => rfl
  have Dbi : Df K mg "_law_bits" fbi _ ["_law_width", "_law_worth_here"] := ⟨PySem.W.mg_of X G abi, kbi, bbi⟩
  have Fma := fun_mk (st := sMade) lma cma kma
  have bma := Fma.binds (ps := ["_law_bits_here"]) fun _ _ _ _ _ _ us hl => match us, hl with | [_], _ => rfl
  have Dma : Df K mg "_law_made" fma _ ["_law_bits_here"] := ⟨PySem.W.mg_of X G ama, kma, bma⟩
  have Fca := fun_mk (st := sCarr) lca cca kca
  have bca := Fca.binds (ps := ["_law_width", "_law_one", "_law_other", "_law_carry"]) fun _ _ _ _ _ _ us hl => match us, hl with | [_, _, _, _], _ => rfl
  have Dca : Df K mg "_law_carried" fca _ ["_law_width", "_law_one", "_law_other", "_law_carry"] := ⟨PySem.W.mg_of X G aca, kca, bca⟩
  have Fdu := fun_mk (st := sDue) ldu cdu kdu
  have bdu := Fdu.binds (ps := ["_law_word", "_law_width", "_law_worths", "_law_into", "_law_spot"]) fun _ _ _ _ _ _ us hl => match us, hl with | [_, _, _, _, _], _ => rfl
  have Ddu : Df K mg "_law_due" fdu _ ["_law_word", "_law_width", "_law_worths", "_law_into", "_law_spot"] := ⟨PySem.W.mg_of X G adu, kdu, bdu⟩
  have Fas := fun_mk (st := sAsked) las cas kas
  have bas := Fas.binds (ps := ["_law_word", "_law_width", "_law_worths", "_law_more"]) fun _ _ _ _ _ _ us hl => match us, hl with | [_, _, _, _], _ => rfl
  have Das : Df K mg "_law_asked" fas _ ["_law_word", "_law_width", "_law_worths", "_law_more"] := ⟨PySem.W.mg_of X G aas, kas, bas⟩
  have Fwr := fun_mk (st := sWorth) lwr cwr kwr
  have bwr := Fwr.binds (ps := ["_law_purse_here", "_law_width"]) fun _ _ _ _ _ _ us hl => match us, hl with | [_, _], _ => rfl
  have Dwr : Df K mg "_law_worth" fwr _ ["_law_purse_here", "_law_width"] := ⟨PySem.W.mg_of X G awr, kwr, bwr⟩
  have Fre := fun_mk (st := sRef) lre cre kre
  have bre := Fre.binds (ps := ["_law_purse_here", "_law_word", "_law_width", "_law_worths"]) fun _ _ _ _ _ _ us hl => match us, hl with | [_, _, _, _], _ => rfl
  have Dre : Df K mg "_law_refused_right" fre _ ["_law_purse_here", "_law_word", "_law_width", "_law_worths"] := ⟨PySem.W.mg_of X G are, kre, bre⟩
  have Fla := fun_mk (st := sLaw) lla cla kla
  have FR : FunD K "reckoned" "reckoned" (defArgs sReck) (defBody sReck) (defScope sReck) [] [("to", .int 1), ("at", .int 0)] fR _ := ⟨⟨_, _, _, _, _, _, _, _, _, _, rfl, lR, cR, .inl ⟨rfl, rfl⟩, .inr ⟨kD, rfl, fun q m => by
    rcases List.mem_cons.mp m with rfl | m
    · exact ⟨_, kwT, _, rfl⟩
    · rw [List.mem_singleton.mp m]
      exact ⟨_, kwA, _, rfl⟩⟩⟩, kR⟩
  have sDt : ∀ H, SqT K H aD (WD.map V.str) := fun _ => .inr ⟨_, _, _, lDt, rfl, rfl, by show 10 ≤ sizeLine; decide, .cons ⟨_, rfl⟩ (.cons ⟨_, rfl⟩ (.cons ⟨_, rfl⟩ (.cons ⟨_, rfl⟩ (.cons ⟨_, rfl⟩ (.cons ⟨_, rfl⟩ (.cons ⟨_, rfl⟩ (.cons ⟨_, rfl⟩ (.cons ⟨_, rfl⟩ (.cons ⟨_, rfl⟩ (.nil))))))))))⟩
  have sEt : ∀ H, SqT K H a1 (W1.map V.str) := fun _ => .inr ⟨_, _, _, lEt, rfl, rfl, by show 3 ≤ sizeLine; decide, .cons ⟨_, rfl⟩ (.cons ⟨_, rfl⟩ (.cons ⟨_, rfl⟩ (.nil)))⟩
  have WS : Wds K mg aD a1 := ⟨PySem.W.mg_of X G gDt, PySem.W.mg_of X G gEt, sDt, sEt⟩
  have FF := fun_mk (st := sFE) lF cF kF
  have bF := FF.binds (ps := ["self", "text"]) fun _ _ _ _ _ _ us hl => match us, hl with | [_, _], _ => rfl
  have FP := fun_mk (st := sNP) lP cP kP
  have bP := FP.binds (ps := ["self", "found"]) fun _ _ _ _ _ _ us hl => match us, hl with | [_, _], _ => rfl
  have OP : OexC K CP := ⟨⟨_, _, _, _, _, _, _, _, _, _, _, _, _, _, _, xP, veP⟩, saP, eCP, tCP, kCP⟩
  have TP : ExT K mg "NoOp" CP fP _ := ⟨PySem.W.mg_of X G aP, OP, iP, tP, nfP, ⟨gaP, ggP, eCP, hCP⟩, bP⟩
  have FW := fun_mk (st := sNW) lW cW kW
  have bW := FW.binds (ps := ["self", "found"]) fun _ _ _ _ _ _ us hl => match us, hl with | [_, _], _ => rfl
  have OW : OexC K CW := ⟨⟨_, _, _, _, _, _, _, _, _, _, _, _, _, _, _, xW, veW⟩, saW, eCW, tCW, kCW⟩
  have TW : ExT K mg "NoWidth" CW fW _ := ⟨PySem.W.mg_of X G aW, OW, iW, tW, nfW, ⟨gaW, ggW, eCW, hCW⟩, bW⟩
  have FS := fun_mk (st := sNS) lS cS kS
  have bS := FS.binds (ps := ["self", "found"]) fun _ _ _ _ _ _ us hl => match us, hl with | [_, _], _ => rfl
  have OS : OexC K CS := ⟨⟨_, _, _, _, _, _, _, _, _, _, _, _, _, _, _, xS, veS⟩, saS, eCS, tCS, kCS⟩
  have TS : ExT K mg "NoWorths" CS fS _ := ⟨PySem.W.mg_of X G aS, OS, iS, tS, nfS, ⟨gaS, ggS, eCS, hCS⟩, bS⟩
  have FN := fun_mk (st := sNN) lN cN kN
  have bN := FN.binds (ps := ["self", "found"]) fun _ _ _ _ _ _ us hl => match us, hl with | [_, _], _ => rfl
  have ON : OexC K CN := ⟨⟨_, _, _, _, _, _, _, _, _, _, _, _, _, _, _, xN, veN⟩, saN, eCN, tCN, kCN⟩
  have TN : ExT K mg "NoNumber" CN fN _ := ⟨PySem.W.mg_of X G aN, ON, iN, tN, nfN, ⟨gaN, ggN, eCN, hCN⟩, bN⟩
  have EX : Exm K CP CW CS CN := ⟨PySem.W.exm_ref eCP hCP tCP uPP, PySem.W.exm_ref eCP hCP tCP uWP, PySem.W.exm_ref eCW hCW tCW uWW, PySem.W.exm_ref eCP hCP tCP uSP, PySem.W.exm_ref eCW hCW tCW uSW, PySem.W.exm_ref eCS hCS tCS uSS, PySem.W.exm_ref eCP hCP tCP uNP, PySem.W.exm_ref eCW hCW tCW uNW, PySem.W.exm_ref eCS hCS tCS uNS, PySem.W.exm_ref eCN hCN tCN uNN⟩
  have misinstance := PySem.W.mg_none_of X G zisinstance
  have mint := PySem.W.mg_none_of X G zint
  have mbool := PySem.W.mg_none_of X G zbool
  have mlist := PySem.W.mg_none_of X G zlist
  have mtuple := PySem.W.mg_none_of X G ztuple
  have mrange := PySem.W.mg_none_of X G zrange
  have mlen := PySem.W.mg_none_of X G zlen
  have mall := PySem.W.mg_none_of X G zall
  have menumerate := PySem.W.mg_none_of X G zenumerate
  have mValueError := PySem.W.mg_none_of X G zValueError
  have mmax := PySem.W.mg_none_of X G zmax
  have mmin := PySem.W.mg_none_of X G zmin
  have mrepr := PySem.W.mg_none_of X G zrepr
  have msum := PySem.W.mg_none_of X G zsum
  have mzip := PySem.W.mg_none_of X G zzip
  refine ⟨PySem.W.fnOf "law" "law" (defArgs sLaw) (defBody sLaw) (defScope sLaw) .none kVla dcla pmla anla cdla ctla, fun s v => .of_eq rfl, fun base _ _ => ?_⟩
  have BT : BaseT l.prog w K mg base (.type "type") CF fF _ := ⟨PySem.W.mg_of X G aF, ⟨rF, gF⟩, vF, kF, bF, ok_FE FF mValueError vV⟩
  have Gnb : FnOk l.prog w K mg base CX0 1 fnb _ _ _ := ok_num Fnb misinstance mint mbool
  have Gwh : FnOk l.prog w K mg base CX0 2 fwh _ _ _ := ok_whole Fwh Dnb Gnb
  have Gwi : FnOk l.prog w K mg base CX0 3 fwi _ _ _ := ok_width Fwi Dwh Gwh
  have Ggr : FnOk l.prog w K mg base CX0 2 fgr _ _ _ := ok_great Fgr
  have Gwo : FnOk l.prog w K mg base CX0 3 fwo _ _ _ := ok_worthOf Fwo Dwh Gwh Dgr Ggr
  have Gar : FnOk l.prog w K mg base CX0 4 far _ _ _ := ok_are Far Dwo Gwo mall
  have Gil : FnOk l.prog w K mg base CX0 2 fil _ _ _ := ok_isList Fil misinstance mlist mtuple
  have Gro : FnOk l.prog w K mg base CX0 3 fro _ _ _ := ok_rone Fro Dgr Ggr
  have Grt : FnOk l.prog w K mg base CX0 3 frt _ _ _ := ok_rtwo Frt Dgr Ggr
  have GP : FnOk l.prog w K mg base CX0 3 fP _ _ _ := ok_NP FP BT OP nfP
  have GW : FnOk l.prog w K mg base CX0 3 fW _ _ _ := ok_NW FW BT OW nfW
  have GS : FnOk l.prog w K mg base CX0 3 fS _ _ _ := ok_NS FS BT OS nfS
  have GN : FnOk l.prog w K mg base CX0 3 fN _ _ _ := ok_NN FN BT ON nfN
  have Grk := ok_reck FR WS TP TW TS TN GP GW GS GN Dwh Gwh Dwi Gwi Dar Gar Dil Gil Dro Gro Drt Grt mlen
  have RK := rck_of FR (PySem.W.mg_of X G aR)
  have Gta : FnOk l.prog w K mg base CX0 2 fta _ _ _ := ok_take Fta
  have Gbi : FnOk l.prog w K mg base CX0 2 fbi _ _ _ := ok_bits Fbi mrange
  have Gma : FnOk l.prog w K mg base CX0 2 fma _ _ _ := ok_made Fma menumerate msum
  have Gca : FnOk l.prog w K mg base CX0 3 fca _ _ _ := ok_carr Fca Dbi Gbi Dma Gma mzip mint
  have Gdu : FnOk l.prog w K mg base CX0 4 fdu _ _ _ := ok_due Fdu Dbi Gbi Dma Gma Dca Gca mzip mint mmin mmax
  have Gas := ok_asked Fas TP TW TS TN EX RK Grk mlen
  have Gwr : FnOk l.prog w K mg base CX0 3 fwr _ _ _ := ok_worth Fwr Dta Gta
  have LP : Lp l.prog w K mg base CP CW CS CN fas _ := ⟨Das, Gas, mrepr, misinstance, mlist⟩
  have Gre := ok_ref Fre Dta Gta LP Ddu Gdu mlen mtuple
  exact ok_law Fla ⟨PySem.W.mg_of X G gDt, sDt, Dce, ok_cell Fce mlen, Dpu, ok_purse Fpu mmax, Dta, Gta, Dwr, Gwr, Das, Gas, Ddu, Gdu, Dre, Gre, mrange, mlen, mrepr, mmax, mmin, mtuple⟩
end P3
end Bf

open PySem PySem.W PyProof.Rows in
set_option maxRecDepth 100000 in
set_option maxHeartbeats 0 in
theorem PySem.Challenge.cw_beatflows_k03_words_of_reckoning_holds : PySem.Challenge.rw_beatflows_k03_words_of_reckoning.Holds := by
  w_on; o_law; k_head; (case hw => w_witness2)
  k_fill
  refine Bf.walkG (l := PySem.Challenge.rw_beatflows_k03_words_of_reckoning) (n := 63) (k := 8) (x := "_law_script") (sp := Bf.P3.spLaw) rfl (by decide) rfl ⟨rfl, by decide, by decide⟩ (fun w h Y => PySem.W.kIn_of Y) ?F
    (fun K H a ns hl hS _ => ⟨a, ns, rfl, hS, hl, fun _ => rfl⟩)
  case F =>
    intro w mg fa h KX G hmg
    refine' Bf.P3.all_mk KX G hmg ?anb ?lnb ?cnb ?knb ?awh ?lwh ?cwh ?kwh ?awi ?lwi ?cwi ?kwi ?agr ?lgr ?cgr ?kgr ?awo ?lwo ?cwo ?kwo ?aar ?lar ?car ?kar ?ail ?lil ?cil ?kil ?aro ?lro ?cro ?kro ?art ?lrt ?crt ?krt ?ace ?lce ?cce ?kce ?apu ?lpu ?cpu ?kpu ?ata ?lta ?cta ?kta ?abi ?lbi ?cbi ?kbi ?ama ?lma ?cma ?kma ?aca ?lca ?cca ?kca ?adu ?ldu ?cdu ?kdu ?aas ?las ?cas ?kas ?awr ?lwr ?cwr ?kwr ?are ?lre ?cre ?kre ?ala ?lla ?cla ?kla ?aR ?lR ?cR ?kR ?kwT ?kwA ?gDt ?lDt ?gEt ?lEt ?aF ?rF ?gF ?vF ?lF ?cF ?kF ?vV ?aP ?xP ?veP ?saP ?gaP ?ggP ?nfP ?iP ?tP ?lP ?cP ?kP ?kCP ?eCP ?tCP ?hCP ?aW ?xW ?veW ?saW ?gaW ?ggW ?nfW ?iW ?tW ?lW ?cW ?kW ?kCW ?eCW ?tCW ?hCW ?aS ?xS ?veS ?saS ?gaS ?ggS ?nfS ?iS ?tS ?lS ?cS ?kS ?kCS ?eCS ?tCS ?hCS ?aN ?xN ?veN ?saN ?gaN ?ggN ?nfN ?iN ?tN ?lN ?cN ?kN ?kCN ?eCN ?tCN ?hCN ?uPP ?uWP ?uWW ?uSP ?uSW ?uSS ?uNP ?uNW ?uNS ?uNN ?zisinstance ?zint ?zbool ?zlist ?ztuple ?zrange ?zlen ?zall ?zenumerate ?zValueError ?zmax ?zmin ?zrepr ?zsum ?zzip
    (case anb => k_is)
    (case lnb => k_is)
    (case cnb => k_is)
    (case knb => k_is)
    (case awh => k_is)
    (case lwh => k_is)
    (case cwh => k_is)
    (case kwh => k_is)
    (case awi => k_is)
    (case lwi => k_is)
    (case cwi => k_is)
    (case kwi => k_is)
    (case agr => k_is)
    (case lgr => k_is)
    (case cgr => k_is)
    (case kgr => k_is)
    (case awo => k_is)
    (case lwo => k_is)
    (case cwo => k_is)
    (case kwo => k_is)
    (case aar => k_is)
    (case lar => k_is)
    (case car => k_is)
    (case kar => k_is)
    (case ail => k_is)
    (case lil => k_is)
    (case cil => k_is)
    (case kil => k_is)
    (case aro => k_is)
    (case lro => k_is)
    (case cro => k_is)
    (case kro => k_is)
    (case art => k_is)
    (case lrt => k_is)
    (case crt => k_is)
    (case krt => k_is)
    (case ace => k_is)
    (case lce => k_is)
    (case cce => k_is)
    (case kce => k_is)
    (case apu => k_is)
    (case lpu => k_is)
    (case cpu => k_is)
    (case kpu => k_is)
    (case ata => k_is)
    (case lta => k_is)
    (case cta => k_is)
    (case kta => k_is)
    (case abi => k_is)
    (case lbi => k_is)
    (case cbi => k_is)
    (case kbi => k_is)
    (case ama => k_is)
    (case lma => k_is)
    (case cma => k_is)
    (case kma => k_is)
    (case aca => k_is)
    (case lca => k_is)
    (case cca => k_is)
    (case kca => k_is)
    (case adu => k_is)
    (case ldu => k_is)
    (case cdu => k_is)
    (case kdu => k_is)
    (case aas => k_is)
    (case las => k_is)
    (case cas => k_is)
    (case kas => k_is)
    (case awr => k_is)
    (case lwr => k_is)
    (case cwr => k_is)
    (case kwr => k_is)
    (case are => k_is)
    (case lre => k_is)
    (case cre => k_is)
    (case kre => k_is)
    (case ala => k_is)
    (case lla => k_is)
    (case cla => k_is)
    (case kla => k_is)
    (case aR => k_is)
    (case lR => k_is)
    (case cR => k_is)
    (case kR => k_is)
    (case kwT => k_is)
    (case kwA => k_is)
    (case gDt => k_is)
    (case lDt => k_is)
    (case gEt => k_is)
    (case lEt => k_is)
    (case aF => k_is)
    (case rF => k_is)
    (case gF => k_is)
    (case vF => k_is)
    (case lF => k_is)
    (case cF => k_is)
    (case kF => k_is)
    (case vV => k_is)
    (case aP => k_is)
    (case xP => k_is)
    (case veP => first | rfl | decide +kernel)
    (case saP => k_is)
    (case gaP => k_is)
    (case ggP => k_is)
    (case nfP => k_is)
    (case iP => k_is)
    (case tP => k_is)
    (case lP => k_is)
    (case cP => k_is)
    (case kP => k_is)
    (case kCP => k_is)
    (case eCP => k_is)
    (case tCP => k_is)
    (case hCP => k_is)
    (case aW => k_is)
    (case xW => k_is)
    (case veW => first | rfl | decide +kernel)
    (case saW => k_is)
    (case gaW => k_is)
    (case ggW => k_is)
    (case nfW => k_is)
    (case iW => k_is)
    (case tW => k_is)
    (case lW => k_is)
    (case cW => k_is)
    (case kW => k_is)
    (case kCW => k_is)
    (case eCW => k_is)
    (case tCW => k_is)
    (case hCW => k_is)
    (case aS => k_is)
    (case xS => k_is)
    (case veS => first | rfl | decide +kernel)
    (case saS => k_is)
    (case gaS => k_is)
    (case ggS => k_is)
    (case nfS => k_is)
    (case iS => k_is)
    (case tS => k_is)
    (case lS => k_is)
    (case cS => k_is)
    (case kS => k_is)
    (case kCS => k_is)
    (case eCS => k_is)
    (case tCS => k_is)
    (case hCS => k_is)
    (case aN => k_is)
    (case xN => k_is)
    (case veN => first | rfl | decide +kernel)
    (case saN => k_is)
    (case gaN => k_is)
    (case ggN => k_is)
    (case nfN => k_is)
    (case iN => k_is)
    (case tN => k_is)
    (case lN => k_is)
    (case cN => k_is)
    (case kN => k_is)
    (case kCN => k_is)
    (case eCN => k_is)
    (case tCN => k_is)
    (case hCN => k_is)
    (case uPP => first | k_is | rfl)
    (case uWP => first | k_is | rfl)
    (case uWW => first | k_is | rfl)
    (case uSP => first | k_is | rfl)
    (case uSW => first | k_is | rfl)
    (case uSS => first | k_is | rfl)
    (case uNP => first | k_is | rfl)
    (case uNW => first | k_is | rfl)
    (case uNS => first | k_is | rfl)
    (case uNN => first | k_is | rfl)
    (case zisinstance => k_is)
    (case zint => k_is)
    (case zbool => k_is)
    (case zlist => k_is)
    (case ztuple => k_is)
    (case zrange => k_is)
    (case zlen => k_is)
    (case zall => k_is)
    (case zenumerate => k_is)
    (case zValueError => k_is)
    (case zmax => k_is)
    (case zmin => k_is)
    (case zrepr => k_is)
    (case zsum => k_is)
    (case zzip => k_is)
