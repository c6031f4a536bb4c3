import PyProof.Rows.All
import Wide.All
import OpenK.AllK
import Wide.FinOn
import HandS.ForMost
import HandS.ForExc
import HandS.ExcInit
import HandS.ExcField
import HandS.IsInst
import HandS.Defaults
import HandS.Head0
import HandS.Head1
import HandS.Head2
import HandS.HeadEnd
import HandS.HeadHook4
import HandS.WideBits
import PySem.Challenge.RW_bellows_k19_counts_and_costs
set_option Elab.async false
set_option linter.all false
set_option maxRecDepth 100000
set_option maxHeartbeats 4000000
namespace Bel
open PySem PySem.Spec PyProof.Rows L2
/-! ### defs by name -/
structure Cl (P : Program) (w : World) (K : PySem.W.Frag) (mg : Str → Option Value) (base : Heap) (k : Nat) (x : Str) (ps : List Str) (sp : Sp) (dvs : List V) : Prop where
  ex : ∃ (f : Addr) (fd : FuncData) (ds : List Value), FnOk P w K mg base (L2.CX P w) k f fd ps sp ∧ mg x = some (.ref f) ∧ PySem.W.keepIn K (.ref f) = true ∧ Binds K fd ps ds ∧ Vals dvs ds
section
variable {X : Cx} {k : Nat} {x : Str} {ps : List Str} {sp : Sp} {dvs : List V} {p pos : Pos} {e : Expr} {es : List Expr} {t : TA} {W : WX}
theorem pe_cl (c : Cl X.prog X.w X.K X.mg X.base k x ps sp dvs) (hr : Room k X.A) (hg : Gl X x) (ha : PA X (e :: es) t)
    (hdb : (x == ("__debug__" : Str)) = false := by decide) (he : starEach (e :: es) X.env = (false, eval e X.env) :: starEach es X.env := by rfl) (hpl : (backTo pos (starEach es X.env)).any (·.1) = false := by rfl) :
    PE X (.Call (.Name x p) (e :: es) [] pos) (tCall sp dvs E0 t) := by
  obtain ⟨f, fd, ds, F, hm, hk, hb, hd⟩ := c.ex
  exact pe_call F hr hg hm hk hb hd passL ha hdb he hpl
theorem pe_cl0 (c : Cl X.prog X.w X.K X.mg X.base k x ps sp dvs) (hr : Room k X.A) (hg : Gl X x)
    (hdb : (x == ("__debug__" : Str)) = false := by decide) :
    PE X (.Call (.Name x p) [] [] pos) (tCall sp dvs E0 tNil) := by
  obtain ⟨f, fd, ds, F, hm, hk, hb, hd⟩ := c.ex
  exact pe_call0 F hr hg hm hk hb hd passL hdb
theorem run_fnD {f : Addr} {fd : FuncData} {dl : List Value} {Ex : XK} {pn : List (Addr × Obj)} {st : L2.St} {Hs : Hp} {sh : Shared} {Qv : VK} {args : List Value} {av : List V} (hr : Room k X.A) (hin : Inv X pn st Hs sh) (rel : Vals av args) (hd : Vals dvs dl)
    (ok : FnOk X.prog X.w X.K X.mg X.base (L2.CX X.prog X.w) k f fd ps sp) (bnd : Binds X.K fd ps dl) (out : PassesAt (L2.CX X.prog X.w) X st Ex)
    (pr : sp (av ++ dvs) Hs Qv Ex) : wpAny (model X.prog X.w) X.A (call (.ref f) args) (EP X pn st Qv) X.xe sh := by
  have all := rel.append hd
  have size : (args ++ dl).length = ps.length := by
    rw [← all.length]
    exact ok.len _ _ _ _ pr
  refine wpAny_call (codeAny_mono (ok.run X.A X.stack sh Hs ⟨args, []⟩ (args ++ dl) (av ++ dvs) Qv Ex hr hin.env0 (bnd sh args hin.kIn size) all pr) fun res sh2 fin => ?_)
  rcases res with er | fl
  · exact out pn Hs sh er sh2 hin fin
  · cases fl with
    | ret u => exact hin.after fin
    | next => exact fin.elim
    | brk => exact fin.elim
    | cont => exact fin.elim
/-- a call whose exceptions the body takes by W -/
def tClS (sp : Sp) (dvs : List V) (W : WX) (t : TA) : TE := fun σ H Q => t σ H fun vs H1 => sp (vs ++ dvs) H1 Q (WE W σ)
theorem pe_clS
    (c : Cl X.prog X.w X.K X.mg X.base k x ps sp dvs) (hr : Room k X.A) (hg : Gl X x) (tk : Takes X W) (ha : PA X (e :: es) t)
    (hdb : (x == ("__debug__" : Str)) = false := by decide) (he : starEach (e :: es) X.env = (false, eval e X.env) :: starEach es X.env := by rfl) (hpl : (backTo pos (starEach es X.env)).any (·.1) = false := by rfl) :
    PE X (.Call (.Name x p) (e :: es) [] pos) (tClS sp dvs W t) := by
  obtain ⟨f, fd, dl, ok, gm, kept, bnd, hd⟩ := c.ex
  refine ⟨fun pn sh st Hs Qv hin hq => wpAny_Call_Name_kw (ld_glob hin hg gm ?_ hdb)⟩
  refine PySem.W.callWith_K (h₀ := X.base) hin.ok.mod.kin kept (thn (ha.run pos pn sh st Hs _ hin hq) fun args sh1 ⟨av, H1, in1, rel, pr⟩ => ⟨in1.kIn, ?_⟩) he hpl
  exact run_fnD hr in1 rel hd ok bnd (passAt tk st) pr
end
theorem pe_gc {X : Cx} {x : Str} {pos : Pos} {v : V} (hg : Gl X x) (h : ∃ u, X.mg x = some u ∧ RelV v u) (hd : (x == ("__debug__" : Str)) = false := by decide) : PE X (.Name x pos) (tC v) := by
  obtain ⟨u, hm, r⟩ := h
  exact pe_glob hg hm r hd
theorem toCX0 {P : Program} {w : World} {K : PySem.W.Frag} {mg : Str → Option Value} {base : Heap} {k : Nat} {f : Addr} {fd : FuncData} {ps : List Str} {sp : Sp} (F : FnOk P w K mg base (L2.CX P w) k f fd ps sp) (h : ∀ vs H Q E, sp vs H Q E → sp vs H Q E0) : FnOk P w K mg base CX0 k f fd ps sp := by
  refine ⟨F.len, fun A outer s H args us vs Q E hr e0 hb r hs => codeAny_mono (F.run A outer s H args us vs Q E0 hr e0 hb r (h _ _ _ _ hs)) fun r s' hq => ?_⟩
  cases r with
  | error e =>
    obtain ⟨_, _, _, _, _, _, _, _, _, _, _, _, z⟩ := hq
    exact z
  | ok fl => cases fl <;> exact hq
/-! ### own exceptions with the one attribute at -/
open He in
structure ExF (K : PySem.W.Frag) (mg : Str → Option Value) (x : Str) : Prop where
  g : mg x = some (.ref (ga K x))
  oex : OexC K (ga K x)
  iC : PySem.W.findIn K (.ref (ga K x)) "__init__" = some (some (.ref (ma K (ga K "BellowsError") "__init__")))
  noat : PySem.W.findIn K (.ref (ga K x)) "at" = some none
  xf : XfC K (ga K x)
  te : PySem.W.exmOne K (.ref (ga K x)) (.ref (ga K x)) = some true
open He in
def oexB (K : PySem.W.Frag) (C : Addr) : Bool := (match K.lookup C with
  | some ⟨.type "type", _, .cls data, slots⟩ => (match data.mro, slots.toList with
    | .ref C' :: line, [_, _, _, _, some (.builtin n), _] => decide (C' = C) && (decide (n = "ValueError.__new__") && (!data.hasDel && (data.hasDict && PySem.HandSPX.refsVE line)))
    | _, _ => false)
  | _ => false) && (decide (PySem.W.findIn K (.ref C) "__setattr__" = some (some (.builtin "object.__setattr__"))) && (decide (PySem.W.subIn K (.ref C) (.type "BaseException") = some true) && (decide (PySem.W.typeIn K (.ref C) = some (.type "type")) && PySem.W.keepIn K (.ref C))))
theorem ba {x y : Bool} (e : (x && y) = true) : x = true ∧ y = true := by
  cases x <;> cases y <;> first | exact ⟨rfl, rfl⟩ | cases e
theorem oexB_ok {K : PySem.W.Frag} {C : Addr} (h : oexB K C = true) : OexC K C := by
  obtain ⟨q, h⟩ := ba h
  obtain ⟨h2, h⟩ := ba h
  obtain ⟨h3, h⟩ := ba h
  obtain ⟨h4, h5⟩ := ba h
  refine ⟨?_, of_decide_eq_true h2, of_decide_eq_true h3, of_decide_eq_true h4, h5⟩
  split at q
  · rename_i own data slots there
    split at q
    · rename_i C2 line z0 z1 z2 z3 n z5 em es
      simp only [Bool.and_eq_true, decide_eq_true_eq, Bool.not_eq_true'] at q
      obtain ⟨rfl, rfl, nodel, dict, tail⟩ := q
      obtain ⟨nm, bases, mro, ns, qn, hdict, sn, subs, abs, coll, del⟩ := data
      dsimp only at em nodel dict
      subst em nodel dict
      have e6 : slots = #[z0, z1, z2, z3, some (.builtin "ValueError.__new__"), z5] := by
        cases slots with
        | mk l =>
          simp only at es
          rw [es]
      subst e6
      exact ⟨_, _, _, _, _, _, _, _, _, _, _, _, _, _, _, there, tail⟩
    · cases q
  · cases q
open He in
def exFB (K : PySem.W.Frag) (x : Str) : Bool := decide (PySem.W.nsIn K mainGlobals x = some (some (.ref (ga K x)))) && (oexB K (ga K x) && (decide (PySem.W.findIn K (.ref (ga K x)) "__init__" = some (some (.ref (ma K (ga K "BellowsError") "__init__")))) && (decide (PySem.W.findIn K (.ref (ga K x)) "at" = some none) && (xfB K (ga K x) && decide (PySem.W.exmOne K (.ref (ga K x)) (.ref (ga K x)) = some true)))))
theorem exFB_ok {K : PySem.W.Frag} {h : Heap} {mg : Str → Option Value} {x : Str} (X : K.In h) (G : h.Ns mainGlobals mg) (c : exFB K x = true) : ExF K mg x := by
  obtain ⟨h1, c⟩ := ba c
  obtain ⟨h2, c⟩ := ba c
  obtain ⟨h3, c⟩ := ba c
  obtain ⟨h4, c⟩ := ba c
  obtain ⟨h5, h6⟩ := ba c
  exact ⟨PySem.W.mg_of X G (of_decide_eq_true h1), oexB_ok h2, of_decide_eq_true h3, of_decide_eq_true h4, xfB_ok h5, of_decide_eq_true h6⟩
def cvB (K : PySem.W.Frag) (x : Str) (v : V) : Bool := match PySem.W.nsIn K mainGlobals x with
  | some (some u) => He.relB v u
  | _ => false
theorem cvB_ok {K : PySem.W.Frag} {h : Heap} {mg : Str → Option Value} {x : Str} {v : V} (X : K.In h) (G : h.Ns mainGlobals mg) (c : cvB K x v = true) : ∃ u, mg x = some u ∧ RelV v u := by
  unfold cvB at c
  split at c
  · rename_i u e
    exact ⟨u, PySem.W.mg_of X G e, He.relB_ok c⟩
  · cases c
/-- BellowsError.__init__ -/
def spInit (K : PySem.W.Frag) : Sp := fun vs H Q _ => ∃ (a C : Addr) (v : V), vs = [.ref a, v] ∧ OexC K C ∧ PySem.W.findIn K (.ref C) "at" = some none ∧ H a = some (exo a C none) ∧
  ∀ dx, H dx = none → dx ≠ a → Q .non (upd (upd H dx (exd dx [("at", v)])) a (exo a C (some dx)))
structure InitOk (P : Program) (w : World) (K : PySem.W.Frag) (mg : Str → Option Value) (base : Heap) : Prop where
  ex : ∃ fd, FnOk P w K mg base (L2.CX P w) 1 (He.ma K (He.ga K "BellowsError") "__init__") fd ["self", "at"] (spInit K) ∧ Binds K fd ["self", "at"] [] ∧ PySem.W.typeIn K (.ref (He.ma K (He.ga K "BellowsError") "__init__")) = some (.type "function")
/-- raise X(e) -/
def Bz (K : PySem.W.Frag) (C : Addr) (W : WX) (σ : L2.St) (vs : List V) (H1 : Hp) : Prop := vs.length ≤ 1000 ∧ ∀ a, H1 a = none → spInit K (.ref a :: (vs ++ [])) (upd H1 a (exo a C none))
  (fun v H2 => v = .non ∧ ∃ (d : Addr) (fs : List (Str × V)), H2 a = some (exo a C (some d)) ∧ H2 d = some (exd d fs) ∧ H1 d = none ∧ W (.ref C) (some d) σ (upd (del H2 a) d (.xd fs))) (fun _ _ _ => False)
def tRz (K : PySem.W.Frag) (C : Addr) (W : WX) (ta : TA) : TS := fun _ σ H => ta σ H fun vs H1 => Bz K C W σ vs H1
theorem bz {K : PySem.W.Frag} {mg : Str → Option Value} {x : Str} {W : WX} {σ : L2.St} {v : V} {H : Hp} (T : ExF K mg x) (h : ∀ d, H d = none → W (.ref (He.ga K x)) (some d) σ (upd H d (.xd [("at", v)]))) : Bz K (He.ga K x) W σ [v] H := by
  refine ⟨(by show 1 ≤ 1000; decide), fun a ha => ⟨a, He.ga K x, v, rfl, T.oex, T.noat, upd_same, fun dx hdx hne => ⟨rfl, dx, [("at", v)], upd_same, ?_, ?_, ?_⟩⟩⟩
  · rw [upd_ne hne, upd_same]
  · rw [upd_ne hne] at hdx
    exact hdx
  · rw [upd_ne hne] at hdx
    have e : upd (del (upd (upd (upd H a (exo a (He.ga K x) none)) dx (exd dx [("at", v)])) a (exo a (He.ga K x) (some dx))) a) dx (.xd [("at", v)]) = upd H dx (.xd [("at", v)]) := by
      funext b
      by_cases hb : b = dx
      · rw [hb, upd_same, upd_same]
      · rw [upd_ne hb, upd_ne hb]
        by_cases hc : b = a
        · rw [hc, del_same, ha]
        · rw [del_ne hc, upd_ne hc, upd_ne hb, upd_ne hc]
    rw [e]
    exact h dx hdx
theorem ps_raiseB {X : Cx} {x : Str} {p pos pos2 : Pos} {e : Expr} {te : TA} {W : WX} (T : ExF X.K X.mg x) (I : InitOk X.prog X.w X.K X.mg X.base) (hr : Room 2 X.A) (tk : Takes X W) (he : PA X [e] te) (hc : X.calm = true := by rfl) (hg : Gl X x := by rfl)
    (hdb : (x == ("__debug__" : Str)) = false := by decide) (hst : starEach (e :: []) X.env = (false, eval e X.env) :: starEach [] X.env := by rfl) (hpl : (backTo pos (starEach [] X.env)).any (·.1) = false := by rfl) :
    PS X (.Raise (some (.Call (.Name x p) [e] [] pos)) none pos2) (tRz X.K (He.ga X.K x) W te) := by
  obtain ⟨fd, F, b, ti⟩ := I.ex
  exact ps_raise hc tk (pmk_oex (dvs := []) (ds := []) (CX := L2.CX X.prog X.w) T.oex T.iC ti F hr b .nil passL hg T.g he hdb hst hpl)
/-- e.at in a suite -/
theorem pe_xfB {X : Cx} {a : Addr} {oe : Obj} {cls : Value} {d : Option Addr} {pn : List (Addr × Obj)} {e : Expr} {te : TE} {pos : Pos} {x : Str} (T : ExF X.K X.mg x)
    (hz : Zc cls d oe) (hf : ∃ vs, oe.data = .fields vs) (he : PE (X.suite a ((a, oe) :: pn)) e te) (hb : attributeBase e "at" X.env (eval e X.env) = eval e X.env := by rfl) :
    PE (X.suite a ((a, oe) :: pn)) (.Attribute e "at" pos) (tXf a cls d (He.ga X.K x) "at" te) := pe_xf T.xf T.noat hz hf he hb
/-! ### try with several clauses, each with a name -/
abbrev Cls3 := Value × Nat × (Addr → Value → Option Addr → TS)
abbrev freed (D : Ends) (i : Nat) : Ends := ⟨fun s h => D.nx (s.set i none) h, D.rt, fun s h => D.bk (s.set i none) h, fun s h => D.ct (s.set i none) h⟩
def wManyB (K : PySem.W.Frag) (Wout : WX) (D : Ends) : List Cls3 → WX
  | [] => Wout
  | (c, i, ts) :: more => fun cls d st Hs => ∃ yes, PySem.W.exmOne K cls c = some yes ∧
      (yes = true → ∀ a, Hs a = none → ts a cls d (freed D i) (st.set i (some (.ref a))) Hs) ∧ (yes = false → wManyB K Wout D more cls d st Hs)
inductive HdsB (X : Cx) : List ExceptHandler → List Cls3 → Prop
  | nil : HdsB X [] []
  | cons {x n : Str} {c : Value} {i : Nat} {ts : Addr → Value → Option Addr → TS} {s0 : Stmt} {suite : List Stmt} {p1 p2 : Pos} {hds : List ExceptHandler} {l : List Cls3}
      (at_ : X.N[i]? = some n) (own : X.env.kindOf n = some .local) (nm : Names X x c)
      (run : ∀ (a : Addr) (oe : Obj) (cls : Value) (d : Option Addr) (pn : List (Addr × Obj)), Zc cls d oe → (∃ vs, oe.data = .fields vs) → PSs (X.suite a ((a, oe) :: pn)) (s0 :: suite) (ts a cls d))
      (more : HdsB X hds l) : HdsB X (.ExceptHandler (some (.Name x p1)) (some n) (s0 :: suite) p2 :: hds) ((c, i, ts) :: l)
theorem ps_try_manyB {X : Cx} {body : List Stmt} {h0 : ExceptHandler} {hds : List ExceptHandler} {l : List Cls3} {pos : Pos} {tb : WX → TS} {Wout : WX}
    (stk : X.stack = X.env :: X.outer) (frm : X.env.frame = some X.env.locals) (nodup : X.N.Nodup) (tk : Takes X Wout)
    (hb : ∀ (W : WX) (pn : List (Addr × Obj)) (xe : Value → Shared → Prop), Takes (X.tr pn xe) W → PassesOwn (model X.prog X.w) X.A X.env xe → PSs (X.tr pn xe) body (tb W))
    (hh : HdsB X (h0 :: hds) l) : PS X (.Try body (h0 :: hds) [] [] pos) (fun D st Hs => tb (wManyB X.K Wout D l) D st Hs) := by
  refine ⟨fun pn sh st Hs D hin hq => ?_⟩
  have good := hin.ok
  have frames : X.A.frames = some (X.env :: X.outer) := by
    rw [good.frames, stk]
  refine wpAny_Try_except (wpAny_mono ((hb (wManyB X.K Wout D l) (X.pn ++ pn) (fun e t1 => wpAny (model X.prog X.w) X.A (noteFrame e X.env) (fun _ t2 => wpAny (model X.prog X.w) X.A (setFlight e none) (fun _ t3 =>
    wpAny (model X.prog X.w) X.A (handleBy e X.env (h0 :: hds)) (SP X pn D) X.xe t3) X.xe t2) X.xe t1) (fun u t xx => ?_) PassesOwn.looking).run [] sh st Hs D (hin.toTry _) hq) (fun fl t1 fin => ?_) (fun e t1 z => z))
  · obtain ⟨a, ground, sI, pn2, st2, H2, cls, d, rfl, inT, nb, up, sky, free, os, bare, wish⟩ := xx
    have in2 : Inv X pn st2 H2 sI := inT.ofTry good
    rw [show (X.tr (X.pn ++ pn) _).stack = X.env :: X.outer from stk] at sky
    show wpAny (model X.prog X.w) X.A (noteFrame (.ref a) X.env) _ _ _
    refine Sky.land Zc.steady frames frm sky fun g3 fly3 up3 => ?_
    have in3 : Inv X pn st2 H2 { t with heap := g3 } := in2.landed nb fly3.1 (up.trans up3) os bare
    obtain ⟨ob3, fs3, get3, zc3, dat3⟩ := fly3.there
    have notIn : a ∉ frs (X.env :: X.outer) := fun hm => by
      obtain ⟨_, o2, e2, nf⟩ := fly3.2.2.1.mem hm
      rw [get3] at e2
      cases e2
      exact nf _ dat3
    have nL : a ≠ X.env.locals := fun z => notIn (List.mem_filterMap.mpr ⟨X.env, List.mem_cons_self, by rw [frm, z]⟩)
    have nF : a ∉ X.fs := fun hm => by
      obtain ⟨en, men, q⟩ := List.mem_filterMap.mp hm
      exact notIn (List.mem_filterMap.mpr ⟨en, List.mem_cons_of_mem _ men, q⟩)
    have su3 := in3.suite get3 dat3 free nL nF
    have go : ∀ {hs' : List ExceptHandler} {l' : List Cls3}, HdsB X hs' l' → wManyB X.K Wout D l' cls d st2 H2 → wpAny (model X.prog X.w) X.A (handleBy (.ref a) X.env hs') (SP X pn D) X.xe { t with heap := g3 } := by
      intro hs' l' hk
      induction hk with
      | nil =>
        intro wish
        refine wpAny_handleBy_nil ?_
        obtain ⟨_, _, _, ob, fs, T, oT, _, get, _, dat, f1, _⟩ := id fly3
        unfold PySem.passOn
        refine wpAny_bind (wpAny_field get dat f1 ?_)
        rw [if_neg (show ¬ ((Value.ref T == Value.none) = true) by simp)]
        have last : wpAny (model X.prog X.w) X.A (setFlight (.ref a) X.env.frame) (fun _ t4 => wpAny (model X.prog X.w) X.A (throw (.ref a) : Sem Flow) (SP X pn D) X.xe t4) X.xe { t with heap := g3 } := by
          rw [frm]
          refine HandSPX.setFlight_upZ fly3 fun g4 held up4 => wpAny_throw (tk _ _ ⟨a, ground, sI, pn, st2, H2, cls, d, rfl, in2, nb, (up.trans up3).trans up4, .inr (.inr ?_), free, os, bare, wish⟩)
          rw [stk]
          exact held
        first | exact wpAny_bind last | exact wpAny_bind (wpAny_pure (wpAny_bind last))
      | @cons x n c i ts s0 suite p1 p2 hds2 l2 at_ own nm run more ih =>
        rintro ⟨yes, he, hy, hn⟩
        refine wpAny_handleBy_cons (codeAny_handlers_test ?_) (by intro q; cases q)
        have isCls : PySem.W.Looks (model X.prog X.w) g3 (typeOf (.ref a)) cls := fun _ _ _ _ kp q => wpAny_typeOf_ref (kp _ _ get3) (by rw [zc3.1]; exact q)
        have named : ∀ {Qv : Value → Shared → Prop} {Ev : Value → Shared → Prop}, Qv c { t with heap := g3 } → wpAny (model X.prog X.w) (X.A.mark (some (.ref a))) (eval (.Name x p1) X.env) Qv Ev { t with heap := g3 } := fun q => by
          obtain ⟨hg, hdb, hm | ⟨hm, hv, hne⟩⟩ := nm
          · exact ld_glob (X := X.suite a ((a, ob3) :: (X.pn ++ pn))) su3 hg hm q hdb
          · exact ld_blt (X := X.suite a ((a, ob3) :: (X.pn ++ pn))) su3 hg hm hv q hne hdb
        refine named ((PySem.W.exm_one (M := model X.prog X.w) in3.kIn isCls he).here ?_)
        cases yes with
        | false => exact ih (hn rfl)
        | true =>
          refine codeAny_handlers_suite_as (HandSPX.lands_againZ fly3 fun g4 fly4 up4 => ?_)
          have in4 : Inv X pn st2 H2 { t with heap := g4 } := in2.landed nb fly4.1 ((up.trans up3).trans up4) os bare
          obtain ⟨ob4, fs4, get4, zc4, dat4⟩ := fly4.there
          refine store_ok (X := X.suite a ((a, ob4) :: (X.pn ++ pn))) (v := .ref a) (in4.suite get4 dat4 free nL nF) nodup at_ (.inl own) rfl (fun t5 in5 => ?_) (.inr own)
          refine wpAny_mono ((run a ob4 cls d (X.pn ++ pn) zc4 ⟨_, dat4⟩).run [] t5 _ H2 _ in5 (hy rfl a free)) (fun fl t6 fin => ?_) (fun _ _ z => z.elim)
          cases fl with
          | next =>
            obtain ⟨_, _, in6, q⟩ := fin
            exact gone_ok (in6.unsuite good) nodup at_ own fun _ in7 => ⟨_, _, in7, q⟩
          | brk =>
            obtain ⟨_, _, in6, q⟩ := fin
            exact gone_ok (in6.unsuite good) nodup at_ own fun _ in7 => ⟨_, _, in7, q⟩
          | cont =>
            obtain ⟨_, _, in6, q⟩ := fin
            exact gone_ok (in6.unsuite good) nodup at_ own fun _ in7 => ⟨_, _, in7, q⟩
          | ret u =>
            obtain ⟨_, _, _, in6, r6, q⟩ := fin
            exact gone_ok (in6.unsuite good) nodup at_ own fun _ in7 => ⟨_, _, _, in7, r6, q⟩
    exact go hh wish
  · cases fl with
    | next =>
      obtain ⟨_, _, inE, q⟩ := fin
      exact wpAny_execs_nil ⟨_, _, inE.ofTry good, q⟩
    | brk =>
      obtain ⟨_, _, inE, q⟩ := fin
      exact ⟨_, _, inE.ofTry good, q⟩
    | cont =>
      obtain ⟨_, _, inE, q⟩ := fin
      exact ⟨_, _, inE.ofTry good, q⟩
    | ret u =>
      obtain ⟨_, _, _, inE, r, q⟩ := fin
      exact ⟨_, _, _, inE.ofTry good, r, q⟩
theorem many_yes {K : PySem.W.Frag} {mg : Str → Option Value} {x : Str} {i : Nat} {ts : Addr → Value → Option Addr → TS} {l : List Cls3} {Wout : WX} {D : Ends} {st : L2.St} {Hs : Hp} {d : Option Addr} (T : ExF K mg x)
    (h : ∀ a, Hs a = none → ts a (.ref (He.ga K x)) d (freed D i) (st.set i (some (.ref a))) Hs) : wManyB K Wout D ((.ref (He.ga K x), i, ts) :: l) (.ref (He.ga K x)) d st Hs := ⟨true, T.te, fun _ => h, fun z => nomatch z⟩
theorem many_no {K : PySem.W.Frag} {c cls : Value} {i : Nat} {ts : Addr → Value → Option Addr → TS} {l : List Cls3} {Wout : WX} {D : Ends} {st : L2.St} {Hs : Hp} {d : Option Addr} (T : PySem.W.exmOne K cls c = some false)
    (h : wManyB K Wout D l cls d st Hs) : wManyB K Wout D ((c, i, ts) :: l) cls d st Hs := ⟨false, T, (fun z => nomatch z), fun _ => h⟩
/-! ### rules whose reading names the written part itself (for comprehensions) -/
section
variable {X : Cx} (K : PySem.W.Frag)
theorem ixl (h : X.K = K := by rfl) : IxR X (rIxL K) := h ▸ ix_list
theorem ixt (h : X.K = K := by rfl) : IxR X (rIxT K) := h ▸ ix_tup
theorem slK (h : X.K = K := by rfl) : SlR X (rSlL K) := h ▸ sl_list
theorem lenK (h : X.K = K := by rfl) : CallR X (.builtin "len") (fun xs H Q => ∃ p ys, xs = [.ref p] ∧ (SqL K H p ys ∨ SqT K H p ys) ∧ Q (.int ys.length) H) := h ▸ call_len_seq
theorem isiK (h : X.K = K := by rfl) : CallR X (.builtin "isinstance") (rIsi K) := h ▸ call_isi
theorem lstK (h : X.K = K := by rfl) : CallR X (.type "list") (fun xs H Q => ∃ p ys, xs = [.ref p] ∧ (SqL K H p ys ∨ SqT K H p ys) ∧ ∀ l, H l = none → Q (.ref l) (upd H l (.lst ys))) := h ▸ call_list_of
theorem eqK (hu : X.A.units + 64 < cLine) (h : X.K = K := by rfl) : OpR X (compareOp .Eq) (rEqD K) := h ▸ op_eqD hu
theorem neK (hu : X.A.units + 64 < cLine) (h : X.K = K := by rfl) : OpR X (compareOp .NotEq) (rNeD K) := h ▸ op_neD hu
end
end Bel

namespace Bel
open PySem PySem.Spec PyProof.Rows L2
/-! ### readings opened step by step (each an equation) -/
def Sel (b : Bool) (t u : TS) : TS := if b = true then t else u
def SelE (b : Bool) (t u : TE) : TE := if b = true then t else u
def SelT (b : Bool) (t u : TT) : TT := if b = true then t else u
def SelC (b : Bool) (A B : Prop) : Prop := if b = true then A else B
def tK (b : Bool) : TT := fun _ H Q => Q b H
section
variable {t u : TS} {ta tb tc te : TE} {tA tB' : TT} {D : Ends} {σ : L2.St} {H : Hp} {Q : VK} {QT : Bool → Hp → Prop} {QA : List V → Hp → Prop} {K : PySem.W.Frag} {r : R2} {l : TA} {v : V} {i : Nat}
theorem x_next : tNext D σ H = D.nx σ H := rfl
theorem x_seq : tSeq t u D σ H = t { D with nx := u D } σ H := rfl
theorem x_brk : tBreak D σ H = D.bk σ H := rfl
theorem x_cont : tCont D σ H = D.ct σ H := rfl
theorem x_drop : tDrop te D σ H = te σ H (fun _ H1 => D.nx σ H1) := rfl
theorem x_ret : tRet te D σ H = te σ H D.rt := rfl
theorem x_retN : tRetN D σ H = D.rt .non H := rfl
theorem x_if : tIfS tA t u D σ H = tA σ H (fun b H1 => Sel b t u D σ H1) := by
  show tA σ H _ = tA σ H _
  congr 1
  funext b H1
  cases b <;> rfl
theorem sel_t : Sel true t u = t := rfl
theorem sel_f : Sel false t u = u := rfl
theorem selE_t : SelE true ta tb = ta := rfl
theorem selE_f : SelE false ta tb = tb := rfl
theorem selT_t : SelT true tA tB' = tA := rfl
theorem selT_f : SelT false tA tB' = tB' := rfl
theorem selC_t {A B : Prop} : SelC true A B = A := rfl
theorem selC_f {A B : Prop} : SelC false A B = B := rfl
theorem sel {b : Bool} (h1 : b = true → t D σ H) (h2 : b = false → u D σ H) : Sel b t u D σ H := by
  cases b
  · exact h2 rfl
  · exact h1 rfl
theorem selE {b : Bool} (h1 : b = true → ta σ H Q) (h2 : b = false → tb σ H Q) : SelE b ta tb σ H Q := by
  cases b
  · exact h2 rfl
  · exact h1 rfl
theorem selT {b : Bool} (h1 : b = true → tA σ H QT) (h2 : b = false → tB' σ H QT) : SelT b tA tB' σ H QT := by
  cases b
  · exact h2 rfl
  · exact h1 rfl
theorem sel_d {p : Prop} {_ : Decidable p} (h1 : p → t D σ H) (h2 : ¬ p → u D σ H) : Sel (decide p) t u D σ H := sel (fun e => h1 (of_decide_eq_true e)) (fun e => h2 (of_decide_eq_false e))
theorem selE_d {p : Prop} {_ : Decidable p} (h1 : p → ta σ H Q) (h2 : ¬ p → tb σ H Q) : SelE (decide p) ta tb σ H Q := selE (fun e => h1 (of_decide_eq_true e)) (fun e => h2 (of_decide_eq_false e))
theorem selT_d {p : Prop} {_ : Decidable p} (h1 : p → tA σ H QT) (h2 : ¬ p → tB' σ H QT) : SelT (decide p) tA tB' σ H QT := selT (fun e => h1 (of_decide_eq_true e)) (fun e => h2 (of_decide_eq_false e))
theorem x_test : tTest te σ H QT = te σ H (fun x H' => ∃ k, x = .bl k ∧ QT k H') := rfl
theorem x_tB : L2.tB te σ H QT = te σ H (fun x H' => ∃ k, x = .bl k ∧ QT k H') := rfl
theorem x_op : tOp r ta tb σ H Q = ta σ H (fun x H1 => tb σ H1 (fun y H2 => r x y H2 Q)) := rfl
theorem x_un {ru : V → Hp → VK → Prop} : tUn ru ta σ H Q = ta σ H (fun x H1 => ru x H1 Q) := rfl
theorem x_var : tVar i σ H Q = ∃ v, σ[i]? = some (some v) ∧ Q v H := rfl
theorem x_c : tC v σ H Q = Q v H := rfl
theorem x_cb {rl : List V → Hp → VK → Prop} : tCB rl l σ H Q = l σ H (fun vs H1 => rl vs H1 Q) := rfl
theorem x_nil : tNil σ H QA = QA [] H := rfl
theorem x_cons : tCons ta l σ H QA = ta σ H (fun x H1 => l σ H1 (fun xs H2 => QA (x :: xs) H2)) := rfl
theorem x_rI {C : Int → Int → Prop} {g : Int → Int → V} {a b : V} : rI C g a b H Q = ∃ i j, a = .int i ∧ b = .int j ∧ C i j ∧ Q (g i j) H := rfl
theorem x_rI0 {g : Int → Int → V} {a b : V} : rI0 g a b H Q = ∃ i j, a = .int i ∧ b = .int j ∧ Q (g i j) H := rfl
theorem x_rU {g : Int → V} {a : V} : rU g a H Q = ∃ i, a = .int i ∧ Q (g i) H := rfl
theorem x_rEq {a b : V} : rEq a b H Q = (scal a b = true ∧ Q (.bl (decide (a = b))) H) := rfl
theorem x_rNe {a b : V} : rNe a b H Q = (scal a b = true ∧ Q (.bl (!decide (a = b))) H) := rfl
theorem x_rIxL {a b : V} : rIxL K a b H Q = ∃ p xs i v, a = .ref p ∧ b = .int i ∧ SqL K H p xs ∧ atI xs i = some v ∧ Q v H := rfl
theorem x_rIxT {a b : V} : rIxT K a b H Q = ∃ p xs i v, a = .ref p ∧ b = .int i ∧ SqT K H p xs ∧ atI xs i = some v ∧ Q v H := rfl
theorem x_rSlL {a : V} {lo hi : Option Int} : rSlL K a lo hi H Q = ∃ p xs, a = .ref p ∧ SqL K H p xs ∧ ∀ q, H q = none → Q (.ref q) (upd H q (.lst (cutV xs lo hi))) := rfl
theorem x_rCat {a b : V} : rCat a b H Q = ∃ l m xs zs, a = .ref l ∧ b = .ref m ∧ H l = some (.lst xs) ∧ H m = some (.lst zs) ∧ xs.length + zs.length ≤ sizeLine ∧ ∀ p, H p = none → Q (.ref p) (upd H p (.lst (xs ++ zs))) := rfl
theorem x_rRep {a b : V} : rRep a b H Q = ∃ l k xs, a = .ref l ∧ b = .int k ∧ H l = some (.lst xs) ∧ -(2 ^ 63) ≤ k ∧ k < 2 ^ 63 ∧ xs.length * k.toNat ≤ sizeLine ∧ ∀ p, H p = none → Q (.ref p) (upd H p (.lst (List.replicate k.toNat xs).flatten)) := by first | rfl | (unfold rRep; rfl)
theorem x_rApp {a : V} {vs : List V} : rAppend a vs H Q = ∃ l xs y, a = .ref l ∧ vs = [y] ∧ H l = some (.lst xs) ∧ xs.length < sizeLine ∧ Q .non (upd H l (.lst (xs ++ [y]))) := rfl
theorem x_bm {T : String} {rm : V → List V → Hp → VK → Prop} : tBM K T rm ta l σ H Q = ta σ H (fun x H1 => tyV K T x H1 ∧ l σ H1 (fun xs H2 => rm x xs H2 Q)) := rfl
theorem x_bm0 {T : String} {rm : V → List V → Hp → VK → Prop} : tBM0 K T rm ta σ H Q = ta σ H (fun x H1 => tyV K T x H1 ∧ rm x [] H1 Q) := rfl
theorem x_sl {rs : V → Option Int → Option Int → Hp → VK → Prop} {tl th : TO} : tSl rs te tl th σ H Q = te σ H (fun x H1 => tl σ H1 (fun l H2 => th σ H2 (fun u H3 => rs x l u H3 Q))) := rfl
theorem x_nopart {QO : Option Int → Hp → Prop} : tNoPart σ H QO = QO none H := rfl
theorem x_part {QO : Option Int → Hp → Prop} : tPart te σ H QO = te σ H (fun x H1 => ∃ i, x = .int i ∧ QO (some i) H1) := rfl
theorem x_tup : tTup l σ H Q = l σ H (fun xs H1 => xs.length ≤ sizeLine ∧ ∀ p, H1 p = none → Q (.ref p) (upd H1 p (.tup xs))) := rfl
theorem x_lst : tLst l σ H Q = l σ H (fun xs H1 => xs.length ≤ sizeLine ∧ ∀ p, H1 p = none → Q (.ref p) (upd H1 p (.lst xs))) := rfl
theorem x_call {sp : Sp} {dvs : List V} {E : XK} : tCall sp dvs E l σ H Q = l σ H (fun vs H1 => sp (vs ++ dvs) H1 Q E) := rfl
theorem x_callS {sp : Sp} {dvs : List V} {W : WX} : tClS sp dvs W l σ H Q = l σ H (fun vs H1 => sp (vs ++ dvs) H1 Q (WE W σ)) := rfl
theorem x_asg {g : TG} : tAsg te g D σ H = te σ H (fun x H1 => g x σ H1 D.nx) := rfl
theorem x_gname {QG : L2.St → Hp → Prop} : gName i v σ H QG = QG (σ.set i (some v)) H := rfl
theorem x_gtup {n : Nat} {gs : TGs} {QG : L2.St → Hp → Prop} : gTup K n gs v σ H QG = ∃ a xs, v = .ref a ∧ SqT K H a xs ∧ xs.length = n ∧ gs xs σ H QG := rfl
theorem x_gnil {vs : List V} {QG : L2.St → Hp → Prop} : gNil vs σ H QG = (vs = [] ∧ QG σ H) := rfl
theorem x_gcons {vs : List V} {g : TG} {gs : TGs} {QG : L2.St → Hp → Prop} : gCons g gs vs σ H QG = ∃ v r, vs = v :: r ∧ g v σ H (fun σ' H' => gs r σ' H' QG) := rfl
theorem x_gsub {to ti : TE} {ts : TSet} {QG : L2.St → Hp → Prop} : gSub to ti ts v σ H QG = to σ H (fun o H1 => ti σ H1 (fun i H2 => ts o i v H2 (fun H3 => QG σ H3))) := rfl
theorem x_setL {o i' : V} {QH : Hp → Prop} : rSetL o i' v H QH = ∃ p xs k j, o = .ref p ∧ i' = .int k ∧ H p = some (.lst xs) ∧ ixN xs.length k = some j ∧ QH (upd H p (.lst (xs.set j v))) := rfl
theorem x_aug {ti : TIp} : tAug i te ti D σ H = ∃ x, σ[i]? = some (some x) ∧ te σ H (fun y H1 => ti x y H1 (fun z H2 => D.nx (σ.set i (some z)) H2)) := rfl
theorem x_ipI {f : Int → Int → Int} {a b : V} : ipI f a b H Q = ∃ i j, a = .int i ∧ b = .int j ∧ Q (.int (f i j)) H := rfl
theorem x_and : tAnd tA tB' σ H QT = tA σ H (fun c H1 => SelT c tB' (tK false) σ H1 QT) := by
  show tA σ H _ = tA σ H _
  congr 1
  funext c H1
  cases c <;> rfl
theorem x_or : tOr tA tB' σ H QT = tA σ H (fun c H1 => SelT c (tK true) tB' σ H1 QT) := by
  show tA σ H _ = tA σ H _
  congr 1
  funext c H1
  cases c <;> rfl
theorem x_not : tNot tA σ H QT = tA σ H (fun c H1 => QT (!c) H1) := rfl
theorem x_k {b : Bool} : tK b σ H QT = QT b H := rfl
theorem x_andV : tAndV ta tb σ H Q = ta σ H (fun x H1 => ∃ c, x = .bl c ∧ SelE c tb (tC (.bl false)) σ H1 Q) := by
  show ta σ H _ = ta σ H _
  congr 1
  funext x H1
  congr 1
  funext c
  cases c <;> rfl
theorem x_orV : tOrV ta tb σ H Q = ta σ H (fun x H1 => ∃ c, x = .bl c ∧ SelE c (tC (.bl true)) tb σ H1 Q) := by
  show ta σ H _ = ta σ H _
  congr 1
  funext x H1
  congr 1
  funext c
  cases c <;> rfl
theorem x_notV : tNotV ta σ H Q = ta σ H (fun x H1 => ∃ c, x = .bl c ∧ Q (.bl (!c)) H1) := rfl
theorem x_ife : tIf tA ta tb σ H Q = tA σ H (fun c H1 => SelE c ta tb σ H1 Q) := by
  show tA σ H _ = tA σ H _
  congr 1
  funext c H1
  cases c <;> rfl
theorem x_chain {r' : R2} : tChain r r' ta tb tc σ H Q = ta σ H (fun x H1 => tb σ H1 (fun y H2 => r x y H2 (fun z H3 => ∃ k, z = .bl k ∧ SelE k (fun σ' H' Q' => tc σ' H' (fun w' H4 => r' y w' H4 Q')) (tC (.bl false)) σ H3 Q))) := by
  show ta σ H _ = ta σ H _
  congr 1
  funext x H1
  congr 1
  funext y H2
  congr 1
  funext z H3
  congr 1
  funext k
  cases k <;> rfl
/-! loops -/
def LoopI (J : It) (g : TG) (tb : TS) (D : Ends) (σ : L2.St) (H1 : Hp) : Prop := ∃ W : Nat → Nat → L2.St → Hp → Prop, (∃ m, W 0 m σ H1) ∧ ∀ i m σ H, W i m σ H →
  (J.stop i H ∧ D.nx σ H) ∨ (J.go i H ∧ ∃ N : L2.St → Hp → Prop, (∀ σ' H', N σ' H' → ∃ m', m' < m ∧ W (i + 1) m' σ' H') ∧ ∀ x H', J.yld i H x H' → g x σ H' fun σ2 H2 => tb { D with nx := N, ct := N, bk := D.nx } σ2 H2)
theorem x_for {wi : TI} {g : TG} : tFor wi g t D σ H = wi σ H (fun J H1 => LoopI J g t D σ H1) := rfl
theorem x_ilist {R : It → Hp → Prop} : iList K te σ H R = te σ H (fun x H1 => ∃ a, x = .ref a ∧ (∃ xs, SqL K H1 a xs) ∧ R (Itl K a) H1) := rfl
theorem x_itup {R : It → Hp → Prop} : iTup K te σ H R = te σ H (fun x H1 => ∃ a, x = .ref a ∧ (∃ xs, SqT K H1 a xs) ∧ R (Itt K a) H1) := rfl
theorem x_irng1 {R : It → Hp → Prop} : iRng1 l σ H R = l σ H (fun vs H1 => ∃ j : Int, vs = [.int j] ∧ -(2 ^ 62) ≤ j ∧ j < 2 ^ 62 ∧ R (Itr 0 j.toNat) H1) := rfl
theorem x_irng2 {R : It → Hp → Prop} : iRng2 l σ H R = l σ H (fun vs H1 => ∃ i j : Int, vs = [.int i, .int j] ∧ (-(2 ^ 62) ≤ i ∧ i < 2 ^ 62 ∧ -(2 ^ 62) ≤ j ∧ j < 2 ^ 62) ∧ R (Itr i (j - i).toNat) H1) := rfl
theorem x_irev {R : It → Hp → Prop} : iRev K l σ H R = l σ H (fun vs H1 => ∃ (a : Addr) (xs : List V), vs = [.ref a] ∧ SqL K H1 a xs ∧ R (Itv K a xs.length) H1) := rfl
theorem loop_list {a : Addr} {xs : List V} {g : TG} (Pv : Nat → L2.St → Hp → Prop) (h0 : Pv 0 σ H) (hl : ∀ i σ H, i ≤ xs.length → Pv i σ H → SqL K H a xs)
    (hs : ∀ i x σ H, xs[i]? = some x → Pv i σ H → g x σ H fun σ2 H2 => t { D with nx := Pv (i + 1), ct := Pv (i + 1), bk := D.nx } σ2 H2) (hd : ∀ σ H, Pv xs.length σ H → D.nx σ H) : LoopI (Itl K a) g t D σ H := for_list Pv h0 hl hs hd
theorem loop_range {lo : Int} {n : Nat} {g : TG} (Pv : Nat → L2.St → Hp → Prop) (h0 : Pv 0 σ H)
    (hs : ∀ i σ H, i < n → Pv i σ H → g (.int (lo + i)) σ H fun σ2 H2 => t { D with nx := Pv (i + 1), ct := Pv (i + 1), bk := D.nx } σ2 H2) (hd : ∀ σ H, Pv n σ H → D.nx σ H) : LoopI (Itr lo n) g t D σ H := for_range Pv h0 hs hd
/-! comprehensions -/
def CompI (J : It) (g : TG) (tt : TT) (te : TE) (vs : List Nat) (st : L2.St) (Hs : Hp) (D : Addr) (Qd : Hp → Prop) : Prop :=
  ∃ W : Nat → Nat → Hp → Prop, (∃ m, W 0 m (upd Hs D (.lst []))) ∧ ∀ i m H, W i m H →
    (J.stop i H ∧ Qd H) ∨ (J.go i H ∧ ∃ Nx : Hp → Prop, (∀ G, Nx G → ∃ m2, m2 < m ∧ W (i + 1) m2 G) ∧
      ∀ x G, J.yld i H x G → g x (wipe st vs) G fun s2 G2 => wipe s2 vs = wipe st vs ∧ tt s2 G2 fun b G3 =>
        if b = true then te s2 G3 fun y G4 => ∃ acc, G4 D = some (.lst acc) ∧ acc.length < sizeLine ∧ Nx (upd G4 D (.lst (acc ++ [y]))) else Nx G3)
theorem x_lc {wi : TI} {g : TG} {vs : List Nat} : tLc wi g tA te vs σ H Q = wi σ H (fun J H1 => ∀ D, H1 D = none → CompI J g tA te vs σ H1 D (fun H => Q (.ref D) H)) := rfl
theorem x_yes : tYes σ H QT = QT true H := rfl
theorem comp_range {lo : Int} {n : Nat} {g : TG} {vs : List Nat} {D : Addr} {Qd : Hp → Prop} (Pv : Nat → Hp → Prop) (h0 : Pv 0 (upd H D (.lst [])))
    (hs : ∀ i H, i < n → Pv i H → g (.int (lo + i)) (wipe σ vs) H fun σ2 H2 => wipe σ2 vs = wipe σ vs ∧ tA σ2 H2 fun b H3 =>
      if b = true then te σ2 H3 fun y H4 => ∃ acc, H4 D = some (.lst acc) ∧ acc.length < sizeLine ∧ Pv (i + 1) (upd H4 D (.lst (acc ++ [y]))) else Pv (i + 1) H3) (hd : ∀ H, Pv n H → Qd H) : CompI (Itr lo n) g tA te vs σ H D Qd := lc_range Pv h0 hs hd
theorem comp_list {a : Addr} {xs : List V} {g : TG} {vs : List Nat} {D : Addr} {Qd : Hp → Prop} (Pv : Nat → Hp → Prop) (h0 : Pv 0 (upd H D (.lst []))) (hl : ∀ i H, i ≤ xs.length → Pv i H → SqL K H a xs)
    (hs : ∀ i x H, xs[i]? = some x → Pv i H → g x (wipe σ vs) H fun σ2 H2 => wipe σ2 vs = wipe σ vs ∧ tA σ2 H2 fun b H3 =>
      if b = true then te σ2 H3 fun y H4 => ∃ acc, H4 D = some (.lst acc) ∧ acc.length < sizeLine ∧ Pv (i + 1) (upd H4 D (.lst (acc ++ [y]))) else Pv (i + 1) H3) (hd : ∀ H, Pv xs.length H → Qd H) : CompI (Itl K a) g tA te vs σ H D Qd := lc_list Pv h0 hl hs hd
theorem scal_ii {a b : Int} : scal (.int a) (.int b) = true := rfl
theorem scal_bb {a b : Bool} : scal (.bl a) (.bl b) = true := rfl
theorem scal_ss {a b : Str} : scal (.str a) (.str b) = true := by first | rfl | (unfold scal; rfl)
theorem x_misc {CX : CXT} {P : Program} {w : World} {mg : Str → Option Value} {base : Heap} {N : List Str} {qual : Str} {scope : Scope} {f : Addr} {cd : Value} {A : Around} {outer : List Env} {s : Shared} {E : XK} : (cxOf CX P w K mg base N qual scope f cd A outer s H E).K = K := rfl
theorem x_misc2 {X : Cx} : X.nox.K = X.K := rfl
theorem tyv {a : Addr} {xs : List V} (h : SqL K H a xs) : tyV K "list" (.ref a) H := .inl ⟨rfl, _, h⟩
/-- isinstance -/
theorem isi_int {c : String} {b : Bool} {j : Int} (h : kitB "int" c = some b) (q : Q (.bl b) H) : rIsi K [.int j, .ty c] H Q := ⟨_, _, _, _, b, rfl, .ty c, .base (.int _), kit_ty h, q⟩
theorem isi_lst {c : String} {b : Bool} {a : Addr} {xs : List V} (h : kitB "list" c = some b) (hl : H a = some (.lst xs)) (q : Q (.bl b) H) : rIsi K [.ref a, .ty c] H Q := ⟨_, _, _, _, b, rfl, .ty c, .base (.lst hl), kit_ty h, q⟩
theorem isi_tup {c : String} {b : Bool} {a : Addr} {xs : List V} (h : kitB "tuple" c = some b) (hl : H a = some (.tup xs)) (q : Q (.bl b) H) : rIsi K [.ref a, .ty c] H Q := ⟨_, _, _, _, b, rfl, .ty c, .base (.tup hl), kit_ty h, q⟩
end
/-! ### heaps -/
theorem same_upd {H : Hp} {p : Addr} {o : HO} (h : H p = none) : Same H (upd H p o) := fun b x e => by
  rw [upd_ne (ne_of_none e h)]
  exact e
theorem Same.free' {H H' : Hp} {p : Addr} (s : Same H H') (h : H' p = none) : H p = none := s.free h
theorem Same.seqT {K : PySem.W.Frag} {H H' : Hp} {a : Addr} {xs : List V} (e : Same H H') (h : SqT K H a xs) : SqT K H' a xs := by
  rcases h with (h | ⟨o, h⟩) | h
  · exact .inl (.inl (e _ _ h))
  · exact .inl (.inr ⟨o, e _ _ h⟩)
  · exact .inr h
theorem upd_upd {H : Hp} {p : Addr} {o u : HO} : upd (upd H p o) p u = upd H p u := by
  funext b
  by_cases h : b = p
  · rw [h, upd_same, upd_same]
  · rw [upd_ne h, upd_ne h, upd_ne h]
theorem atI_int {xs : List Int} {k : Int} (h0 : 0 ≤ k) (h1 : k < xs.length) : atI (xs.map V.int) k = some (.int (xs.getD k.toNat 0)) := by
  obtain ⟨n, rfl⟩ := Int.eq_ofNat_of_zero_le h0
  refine atI_nat ?_
  have h2 : n < xs.length := by omega
  rw [List.getElem?_map, List.getElem?_eq_getElem h2, Int.toNat_natCast, List.getD_eq_getElem?_getD, List.getElem?_eq_getElem h2]
  rfl
/-! ### == of data -/
mutual
def plain : PyData → Bool
  | .none => true
  | .bool _ => false
  | .int _ => true
  | .str x => (PyData.str x).canLay0
  | .list xs => plainAl xs
  | .tuple xs => plainAl xs
  | .dict _ => false
def plainAl : List PyData → Bool
  | [] => true
  | x :: xs => (plainAl xs && plain x)
end
mutual
theorem plain_lay : ∀ d : PyData, plain d = true → d.canLay0 = true
  | .none, _ => by simp [PyData.canLay0]
  | .bool _, h => by simp [plain] at h
  | .int _, _ => by simp [PyData.canLay0]
  | .str x, h => by simpa [plain] using h
  | .list xs, h => by
    simp only [plain] at h
    simp only [PyData.canLay0]
    exact plainAl_lay xs h
  | .tuple xs, h => by
    simp only [plain] at h
    simp only [PyData.canLay0]
    exact plainAl_lay xs h
  | .dict _, h => by simp [plain] at h
theorem plainAl_lay : ∀ ds : List PyData, plainAl ds = true → PyData.canLayAll0 ds = true
  | [], _ => by simp [PyData.canLayAll0]
  | x :: xs, h => by
    simp only [plainAl, Bool.and_eq_true] at h
    simp only [PyData.canLayAll0, Bool.and_eq_true]
    exact ⟨plain_lay x h.2, plainAl_lay xs h.1⟩
end
mutual
theorem eqv_iff : ∀ d e : PyData, plain d = true → plain e = true → (PyData.eqv d e = true ↔ d = e)
  | .none, .none, _, _ => by simp [PyData.eqv]
  | .int i, .int j, _, _ => by simp [PyData.eqv]
  | .str i, .str j, _, _ => by simp [PyData.eqv]
  | .list xs, .list ys, h1, h2 => by
    simp only [plain] at h1 h2
    simp only [PyData.eqv, PyData.list.injEq]
    exact eqvAll_iff xs ys h1 h2
  | .tuple xs, .tuple ys, h1, h2 => by
    simp only [plain] at h1 h2
    simp only [PyData.eqv, PyData.tuple.injEq]
    exact eqvAll_iff xs ys h1 h2
  | .bool _, _, h1, _ => by simp [plain] at h1
  | .dict _, _, h1, _ => by simp [plain] at h1
  | _, .bool _, _, h2 => by simp [plain] at h2
  | _, .dict _, _, h2 => by simp [plain] at h2
  | .none, .int _, _, _ => by simp [PyData.eqv]
  | .none, .str _, _, _ => by simp [PyData.eqv]
  | .none, .list _, _, _ => by simp [PyData.eqv]
  | .none, .tuple _, _, _ => by simp [PyData.eqv]
  | .int _, .none, _, _ => by simp [PyData.eqv]
  | .int _, .str _, _, _ => by simp [PyData.eqv]
  | .int _, .list _, _, _ => by simp [PyData.eqv]
  | .int _, .tuple _, _, _ => by simp [PyData.eqv]
  | .str _, .none, _, _ => by simp [PyData.eqv]
  | .str _, .int _, _, _ => by simp [PyData.eqv]
  | .str _, .list _, _, _ => by simp [PyData.eqv]
  | .str _, .tuple _, _, _ => by simp [PyData.eqv]
  | .list _, .none, _, _ => by simp [PyData.eqv]
  | .list _, .int _, _, _ => by simp [PyData.eqv]
  | .list _, .str _, _, _ => by simp [PyData.eqv]
  | .list _, .tuple _, _, _ => by simp [PyData.eqv]
  | .tuple _, .none, _, _ => by simp [PyData.eqv]
  | .tuple _, .int _, _, _ => by simp [PyData.eqv]
  | .tuple _, .str _, _, _ => by simp [PyData.eqv]
  | .tuple _, .list _, _, _ => by simp [PyData.eqv]
theorem eqvAll_iff : ∀ ds es : List PyData, plainAl ds = true → plainAl es = true → (PyData.eqvAll ds es = true ↔ ds = es)
  | [], [], _, _ => by simp [PyData.eqvAll]
  | [], _ :: _, _, _ => by simp [PyData.eqvAll]
  | _ :: _, [], _, _ => by simp [PyData.eqvAll]
  | x :: xs, y :: ys, h1, h2 => by
    simp only [plainAl, Bool.and_eq_true] at h1 h2
    simp only [PyData.eqvAll, Bool.and_eq_true, List.cons.injEq]
    rw [eqv_iff x y h1.2 h2.2, eqvAll_iff xs ys h1.1 h2.1]
end
/-- data as it is compared: its value, and that it is plain and not deep -/
structure Dq (K : PySem.W.Frag) (H : Hp) (v : V) (d : PyData) : Prop where
  dp : Dp K H v d
  pl : plain d = true
  de : d.depth ≤ 64
theorem Dq.sh {K : PySem.W.Frag} {H : Hp} {v : V} {d : PyData} (h : Dq K H v d) : SeqAt.shaped d = true := by
  show (d.canLay0 && decide (d.depth ≤ 64)) = true
  rw [plain_lay d h.pl, decide_eq_true h.de]
  rfl
theorem eqd {K : PySem.W.Frag} {H : Hp} {x y : V} {d e : PyData} {Q : VK} (h1 : Dq K H x d) (h2 : Dq K H y e) (q : ∀ b : Bool, (b = true ↔ d = e) → Q (.bl b) H) : rEqD K x y H Q := ⟨d, e, h1.dp, h2.dp, h1.sh, h2.sh, q _ (eqv_iff d e h1.pl h2.pl)⟩
theorem ned {K : PySem.W.Frag} {H : Hp} {x y : V} {d e : PyData} {Q : VK} (h1 : Dq K H x d) (h2 : Dq K H y e) (q : ∀ b : Bool, (b = true ↔ d = e) → Q (.bl (!b)) H) : rNeD K x y H Q := ⟨d, e, h1.dp, h2.dp, h1.sh, h2.sh, q _ (eqv_iff d e h1.pl h2.pl)⟩
/-- equal data: the answer is known -/
theorem eqd_t {K : PySem.W.Frag} {H : Hp} {x y : V} {d : PyData} {Q : VK} (h1 : Dq K H x d) (h2 : Dq K H y d) (q : Q (.bl true) H) : rEqD K x y H Q := eqd h1 h2 fun b e => by
  rw [e.mpr rfl]
  exact q
theorem ned_f {K : PySem.W.Frag} {H : Hp} {x y : V} {d : PyData} {Q : VK} (h1 : Dq K H x d) (h2 : Dq K H y d) (q : Q (.bl false) H) : rNeD K x y H Q := ned h1 h2 fun b e => by
  rw [e.mpr rfl]
  exact q
theorem dpAll_ints {K : PySem.W.Frag} {H : Hp} : ∀ ns : List Int, DpAll K H (ns.map V.int) (ns.map PyData.int)
  | [] => .nil
  | n :: r => .cons (.int n) (dpAll_ints r)
theorem plainAl_ints : ∀ ns : List Int, plainAl (ns.map PyData.int) = true
  | [] => by simp [plainAl]
  | n :: r => by simp [plainAl, plain, plainAl_ints r]
theorem depthAll_ints' : ∀ ns : List Int, PyData.depthAll (ns.map PyData.int) ≤ 1
  | [] => by simp [PyData.depthAll]
  | n :: r => by
    have := depthAll_ints' r
    simp only [List.map_cons, PyData.depthAll, PyData.depth]
    omega
section
variable {K : PySem.W.Frag} {H : Hp}
theorem dq_int {i : Int} : Dq K H (.int i) (.int i) := ⟨.int i, by simp [plain], by simp [PyData.depth]⟩
theorem dq_lst {a : Addr} {ns : List Int} (h : SqL K H a (ns.map V.int)) : Dq K H (.ref a) (.list (ns.map PyData.int)) := ⟨.lst h (dpAll_ints ns), by simp only [plain]; exact plainAl_ints ns, by
  have := depthAll_ints' ns
  simp only [PyData.depth]
  omega⟩
theorem dq_tup {a : Addr} {ns : List Int} (h : SqT K H a (ns.map V.int)) : Dq K H (.ref a) (.tuple (ns.map PyData.int)) := ⟨.tup h (dpAll_ints ns), by simp only [plain]; exact plainAl_ints ns, by
  have := depthAll_ints' ns
  simp only [PyData.depth]
  omega⟩
theorem map_int_inj {ns ms : List Int} : ns.map PyData.int = ms.map PyData.int ↔ ns = ms := by
  refine ⟨fun h => ?_, fun h => by rw [h]⟩
  have e : ∀ l : List Int, (l.map PyData.int).map (fun d => match d with | .int i => i | _ => 0) = l := fun l => by
    rw [List.map_map]
    exact List.map_id'' (fun _ => rfl) l
  rw [← e ns, ← e ms, h]
end
theorem x_eqd {K : PySem.W.Frag} {H : Hp} {x y : V} {Q : VK} : rEqD K x y H Q = rEqD K x y H Q := rfl
/-! ### reversed lists, slices -/
theorem loop_rev {K : PySem.W.Frag} {t : TS} {D : Ends} {σ : L2.St} {H : Hp} {a : Addr} {xs : List V} {g : TG} (Pv : Nat → L2.St → Hp → Prop) (h0 : Pv 0 σ H) (hl : ∀ i σ H, i ≤ xs.length → Pv i σ H → SqL K H a xs)
    (hs : ∀ i x σ H, xs[xs.length - 1 - i]? = some x → i < xs.length → Pv i σ H → g x σ H fun σ2 H2 => t { D with nx := Pv (i + 1), ct := Pv (i + 1), bk := D.nx } σ2 H2) (hd : ∀ σ H, Pv xs.length σ H → D.nx σ H) : LoopI (Itv K a xs.length) g t D σ H := by
  refine ⟨fun i left σ H => left = xs.length - i ∧ i ≤ xs.length ∧ Pv i σ H, ⟨xs.length, by omega, by omega, h0⟩, ?_⟩
  rintro i left σ H ⟨rfl, hi, p⟩
  have q := hl i σ H hi p
  by_cases hlt : i < xs.length
  · have hk : xs.length - 1 - i < xs.length := by omega
    refine .inr ⟨⟨hlt, xs, xs[xs.length - 1 - i], q, by simp [hk]⟩, Pv (i + 1), fun σ' H' p' => ⟨xs.length - (i + 1), by omega, rfl, hlt, p'⟩, fun x H' y => ?_⟩
    obtain ⟨e, y⟩ := y
    subst e
    exact hs i x σ _ (y xs q) hlt p
  · obtain rfl : i = xs.length := Nat.le_antisymm hi (by omega)
    exact .inl ⟨Nat.le_refl xs.length, hd σ H p⟩
theorem cutV_nn {xs : List V} {i j : Nat} (h : i ≤ j) (hj : j ≤ xs.length) : cutV xs (some (i : Int)) (some (j : Int)) = (xs.drop i).take (j - i) := by
  unfold cutV
  rw [HT.sIx_nat, HT.sIx_nat, Nat.min_eq_left hj, Nat.min_eq_left (Nat.le_trans h hj)]
theorem cutV_from {xs : List V} {i : Nat} (h : i ≤ xs.length) : cutV xs (some (i : Int)) none = xs.drop i := by
  unfold cutV
  rw [HT.sIx_nat, HT.sIx_none, Nat.min_eq_left h]
  exact List.take_of_length_le (by rw [List.length_drop]; exact Nat.le_refl _)
theorem cutV_upto {xs : List V} {j : Nat} (hj : j ≤ xs.length) : cutV xs none (some (j : Int)) = xs.take j := by
  unfold cutV
  rw [HT.sIx_nat, HT.sIx_none, Nat.min_eq_left hj, List.drop_zero, Nat.sub_zero]
/-! ### exceptions caught -/
theorem x_xf {a : Addr} {cls : Value} {d : Option Addr} {C : Addr} {f : Str} {te : TE} {σ : L2.St} {H : Hp} {Q : VK} : tXf a cls d C f te σ H Q = te σ H (fun x H1 => x = .ref a ∧ cls = .ref C ∧ ∃ (dd : Addr) (fs : List (Str × V)) (v : V), d = some dd ∧ H1 dd = some (.xd fs) ∧ fs.lookup f = some v ∧ Q v H1) := rfl
theorem x_rz {K : PySem.W.Frag} {C : Addr} {W : WX} {ta : TA} {D : Ends} {σ : L2.St} {H : Hp} : tRz K C W ta D σ H = ta σ H (fun vs H1 => Bz K C W σ vs H1) := rfl
theorem lookup_at {v : V} : List.lookup ("at" : Str) [(("at" : Str), v)] = some v := rfl
theorem as_yes {K : PySem.W.Frag} {mg : Str → Option Value} {x : Str} {i : Nat} {ts : Addr → Value → Option Addr → TS} {Wout : WX} {D : Ends} {σ : L2.St} {H : Hp} {d : Option Addr} (T : ExF K mg x)
    (h : ∀ a, H a = none → ts a (.ref (He.ga K x)) d { nx := fun σ' H' => D.nx (σ'.set i none) H', rt := D.rt, bk := fun σ' H' => D.bk (σ'.set i none) H', ct := fun σ' H' => D.ct (σ'.set i none) H' } (σ.set i (some (.ref a))) H) :
    wAs K (.ref (He.ga K x)) i ts Wout D (.ref (He.ga K x)) d σ H := ⟨true, T.te, fun _ => h, fun z => nomatch z⟩
theorem int_at {ns : List Int} {i : Nat} {x : V} (h : (ns.map V.int)[i]? = some x) : ∃ z, ns[i]? = some z ∧ x = .int z := by
  rw [List.getElem?_map] at h
  cases e : ns[i]? with
  | none =>
    rw [e] at h
    cases h
  | some z =>
    rw [e] at h
    exact ⟨z, rfl, (Option.some.inj h).symm⟩
theorem upd_keep {H : Hp} {b c : Addr} {o x : HO} (hb : H b = none) (h : H c = some x) : upd H b o c = some x := same_upd hb c x h
theorem upd_other {H : Hp} {b c : Addr} {o x : HO} (hb : c ≠ b) (h : H c = some x) : upd H b o c = some x := (upd_ne hb).trans h
theorem Same.get {H H' : Hp} {a : Addr} {o : HO} (s : Same H H') (h : H a = some o) : H' a = some o := s a o h
theorem same_put {H H' : Hp} {p : Addr} {o : HO} (s : Same H H') (h : H p = none) : Same H (upd H' p o) := fun b x e => by
  rw [upd_ne (ne_of_none e h)]
  exact s b x e
theorem line_map {ds : List Int} {n : Nat} (h : ds.length ≤ n) (hn : n < 16777216) : (ds.map V.int).length < sizeLine := by
  rw [List.length_map, sizeLine_eq]
  omega
theorem line_map' {ds : List Int} {n : Nat} (h : ds.length ≤ n) (hn : n < 16777216) : (ds.map V.int).length ≤ sizeLine := Nat.le_of_lt (line_map h hn)
/-! ### x op= e of ints -/
def ipC (C : Int → Int → Prop) (f : Int → Int → Int) : TIp := fun x y H Q => ∃ i j, x = .int i ∧ y = .int j ∧ C i j ∧ Q (.int (f i j)) H
theorem x_ipC {C : Int → Int → Prop} {f : Int → Int → Int} {x y : V} {H : Hp} {Q : VK} : ipC C f x y H Q = ∃ i j, x = .int i ∧ y = .int j ∧ C i j ∧ Q (.int (f i j)) H := rfl
section
variable {X : Cx}
theorem ip_fdiv : PIp X .FloorDiv (ipC CDiv fun i j => i / j) := by
  intro pins s σ H x y v u Q I r1 r2 h
  obtain ⟨i, j, e1, e2, hc, q⟩ := h
  subst e1; subst e2
  obtain ⟨t, rfl⟩ := r1
  obtain ⟨t', rfl⟩ := r2
  have h1 : (0 : Int) < j := hc.1
  have h2 := hc.2
  exact ifloordiv_int (by omega) (by rw [Int.fdiv_eq_ediv_of_nonneg i (by omega)]; exact ⟨.int _, H, I.tok _, ⟨_, rfl⟩, q⟩) (.inl (PyProof.noPylong_small (by omega)))
theorem ip_mod : PIp X .Mod (ipC (fun _ j => 0 < j) fun i j => i % j) := by
  intro pins s σ H x y v u Q I r1 r2 h
  obtain ⟨i, j, e1, e2, hc, q⟩ := h
  subst e1; subst e2
  obtain ⟨t, rfl⟩ := r1
  obtain ⟨t', rfl⟩ := r2
  exact imod_int (by omega) (by rw [Int.fmod_eq_emod_of_nonneg i (by omega)]; exact ⟨.int _, H, I.tok _, ⟨_, rfl⟩, q⟩)
theorem ip_shr : PIp X .RShift (ipC (fun _ j => 0 ≤ j) fun i j => i / 2 ^ j.toNat) := by
  intro pins s σ H x y v u Q I r1 r2 h
  obtain ⟨i, j, e1, e2, hc, q⟩ := h
  subst e1; subst e2
  obtain ⟨t, rfl⟩ := r1
  obtain ⟨t', rfl⟩ := r2
  exact irshift_int hc (by rw [Int.fdiv_eq_ediv_of_nonneg i (Int.le_of_lt (Int.pow_pos (by decide)))]; exact ⟨.int _, H, I.tok _, ⟨_, rfl⟩, q⟩)
theorem ip_shl : PIp X .LShift (ipC (fun i j => 0 ≤ j ∧ (Builtin.Int.intBits i : Int) + j ≤ 2 ^ 27) fun i j => i * 2 ^ j.toNat) := by
  intro pins s σ H x y v u Q I r1 r2 h
  obtain ⟨i, j, e1, e2, hc, q⟩ := h
  subst e1; subst e2
  obtain ⟨t, rfl⟩ := r1
  obtain ⟨t', rfl⟩ := r2
  exact ilshift_int hc.1 hc.2 ⟨.int _, H, I.tok _, ⟨_, rfl⟩, q⟩
theorem ip_mul : PIp X .Mult (ipC CMul fun i j => i * j) := by
  intro pins s σ H x y v u Q I r1 r2 h
  obtain ⟨i, j, e1, e2, hc, q⟩ := h
  subst e1; subst e2
  obtain ⟨t, rfl⟩ := r1
  obtain ⟨t', rfl⟩ := r2
  exact PyProof.Rows.imul_int ⟨.int _, H, I.tok _, ⟨_, rfl⟩, q⟩ hc.ok
theorem ip_and : PIp X .BitAnd (ipI fun i j => Builtin.bitAnd i j) := by
  intro pins s σ H x y v u Q I r1 r2 h
  obtain ⟨i, j, e1, e2, q⟩ := h
  subst e1; subst e2
  obtain ⟨t, rfl⟩ := r1
  obtain ⟨t', rfl⟩ := r2
  exact iand_int ⟨.int _, H, I.tok _, ⟨_, rfl⟩, q⟩
theorem ip_or : PIp X .BitOr (ipI fun i j => Builtin.bitOr i j) := by
  intro pins s σ H x y v u Q I r1 r2 h
  obtain ⟨i, j, e1, e2, q⟩ := h
  subst e1; subst e2
  obtain ⟨t, rfl⟩ := r1
  obtain ⟨t', rfl⟩ := r2
  exact ior_int ⟨.int _, H, I.tok _, ⟨_, rfl⟩, q⟩
theorem ip_xor : PIp X .BitXor (ipI fun i j => Builtin.bitXor i j) := by
  intro pins s σ H x y v u Q I r1 r2 h
  obtain ⟨i, j, e1, e2, q⟩ := h
  subst e1; subst e2
  obtain ⟨t, rfl⟩ := r1
  obtain ⟨t', rfl⟩ := r2
  exact ixor_int ⟨.int _, H, I.tok _, ⟨_, rfl⟩, q⟩
end
/-! ### while -/
def WhB (Pv : L2.St → Hp → Prop) (μ : L2.St → Hp → Nat) (tb : TS) (D : Ends) (σ : L2.St) (H : Hp) (b : Bool) (H1 : Hp) : Prop :=
  if b = true then ∃ N : L2.St → Hp → Prop, (∀ σ' H', N σ' H' → ∃ m', m' < μ σ H ∧ (m' = μ σ' H' ∧ Pv σ' H')) ∧ tb { D with nx := N, ct := N, bk := D.nx } σ H1 else D.nx σ H1
section
variable {c : TT} {tb : TS} {D : Ends} {σ : L2.St} {H H1 : Hp} {Pv : L2.St → Hp → Prop} {μ : L2.St → Hp → Nat}
theorem loop_while (Pv : L2.St → Hp → Prop) (μ : L2.St → Hp → Nat) (h0 : Pv σ H) (hs : ∀ σ H, Pv σ H → c σ H fun b H1 => WhB Pv μ tb D σ H b H1) : tWhile c tb D σ H := by
  refine ⟨fun left σ H => left = μ σ H ∧ Pv σ H, ⟨μ σ H, rfl, h0⟩, ?_⟩
  rintro left σ H ⟨rfl, p⟩
  exact hs σ H p
theorem wh {b : Bool} (h1 : b = true → tb { D with nx := fun σ' H' => Pv σ' H' ∧ μ σ' H' < μ σ H, ct := fun σ' H' => Pv σ' H' ∧ μ σ' H' < μ σ H, bk := D.nx } σ H1) (h2 : b = false → D.nx σ H1) : WhB Pv μ tb D σ H b H1 := by
  cases b
  · exact h2 rfl
  · exact ⟨_, fun σ' H' ⟨p, l⟩ => ⟨_, l, rfl, p⟩, h1 rfl⟩
theorem wh_d {p : Prop} {_ : Decidable p} (h1 : p → tb { D with nx := fun σ' H' => Pv σ' H' ∧ μ σ' H' < μ σ H, ct := fun σ' H' => Pv σ' H' ∧ μ σ' H' < μ σ H, bk := D.nx } σ H1) (h2 : ¬ p → D.nx σ H1) : WhB Pv μ tb D σ H (decide p) H1 := wh (fun e => h1 (of_decide_eq_true e)) (fun e => h2 (of_decide_eq_false e))
end
theorem cpow_ok {i j : Int} (h : (decide (0 ≤ j) && decide (j ≤ 1000000) && decide (i.natAbs < 2 ^ 64)) = true) : CPow i j := by
  simp only [Bool.and_eq_true, decide_eq_true_eq] at h
  exact ⟨h.1.1, h.1.2, h.2⟩
theorem xf_at {a d : Addr} {C : Addr} {i : Nat} {σ : L2.St} {H : Hp} {Q : VK} {v : V} (hi : σ[i]? = some (some (.ref a))) (h : H d = some (.xd [("at", v)])) (q : Q v H) : tXf a (.ref C) (some d) C "at" (tVar i) σ H Q := ⟨_, hi, rfl, rfl, d, _, v, rfl, h, lookup_at, q⟩
section
variable {K : PySem.W.Frag} {H : Hp} {a : Addr} {xs : List V} {P : List V → Prop}
theorem ex_lst (h : H a = some (.lst xs)) (q : P xs) : ∃ x, H a = some (.lst x) ∧ P x := ⟨xs, h, q⟩
theorem ex_sq (h : SqL K H a xs) (q : P xs) : ∃ x, SqL K H a x ∧ P x := ⟨xs, h, q⟩
theorem ex_sqt (h : SqT K H a xs) (q : P xs) : ∃ x, SqT K H a x ∧ P x := ⟨xs, h, q⟩
theorem ex_or (h : SqL K H a xs) (q : P xs) : ∃ x, (SqL K H a x ∨ SqT K H a x) ∧ P x := ⟨xs, .inl h, q⟩
theorem ex_ort (h : SqT K H a xs) (q : P xs) : ∃ x, (SqL K H a x ∨ SqT K H a x) ∧ P x := ⟨xs, .inr h, q⟩
theorem and_sq {B : Prop} (h : SqL K H a xs) (q : B) : (∃ x, SqL K H a x) ∧ B := ⟨⟨xs, h⟩, q⟩
theorem and_tyv {B : Prop} (h : SqL K H a xs) (q : B) : tyV K "list" (.ref a) H ∧ B := ⟨tyv h, q⟩
end
theorem pow2_le {i j : Nat} (h : i ≤ j) : (2 : Int) ^ i ≤ 2 ^ j := by exact_mod_cast Nat.pow_le_pow_right (by decide) h
theorem pow2_pos {i : Nat} : (0 : Int) < 2 ^ i := Int.pow_pos (by decide)
/-! guards: the goal's shape, nothing else -/
section
variable {K : PySem.W.Frag} {H : Hp} {a : Addr} {P : List V → Prop} {B : Prop}
theorem g_xf {cls : Value} {d : Option Addr} {C : Addr} {f : Str} {te : TE} {σ : L2.St} {Q : VK} (h : tXf a cls d C f te σ H Q) : tXf a cls d C f te σ H Q := h
theorem g_and {A : Prop} (h : A ∧ B) : A ∧ B := h
theorem g_tyv (h : tyV K "list" (.ref a) H ∧ B) : tyV K "list" (.ref a) H ∧ B := h
theorem g_asq (h : (∃ x, SqL K H a x) ∧ B) : (∃ x, SqL K H a x) ∧ B := h
theorem g_lst (h : ∃ x, H a = some (.lst x) ∧ P x) : ∃ x, H a = some (.lst x) ∧ P x := h
theorem g_or (h : ∃ x, (SqL K H a x ∨ SqT K H a x) ∧ P x) : ∃ x, (SqL K H a x ∨ SqT K H a x) ∧ P x := h
theorem g_sq (h : ∃ x, SqL K H a x ∧ P x) : ∃ x, SqL K H a x ∧ P x := h
theorem g_sqt (h : ∃ x, SqT K H a x ∧ P x) : ∃ x, SqT K H a x ∧ P x := h
end
theorem cmul_r {i j : Int} (h1 : -18446744073709551616 < j) (h2 : j < 18446744073709551616) : CMul i j := .inr ⟨h1, h2⟩
theorem cmul_l {i j : Int} (h1 : -18446744073709551616 < i) (h2 : i < 18446744073709551616) : CMul i j := .inl ⟨h1, h2⟩
theorem cdiv_ok {i j : Int} (h1 : 0 < j) (h2 : j < 1073741824) : CDiv i j := ⟨h1, h2⟩
/-! comprehensions of ints over a range, nothing else made -/
def CP (D : Addr) (H1 : Hp) (y : V) (H4 : Hp) : Prop := ∃ acc, H4 D = some (.lst acc) ∧ acc.length < sizeLine ∧ upd H4 D (.lst (acc ++ [y])) = H1
def rngL (f : Nat → Int) (n : Nat) : List Int := (List.range n).map f
theorem rngL_len {f : Nat → Int} {n : Nat} : (rngL f n).length = n := by unfold rngL; rw [List.length_map, List.length_range]
theorem rngL_succ {f : Nat → Int} {n : Nat} : rngL f (n + 1) = rngL f n ++ [f n] := by
  unfold rngL
  rw [List.range_succ, List.map_append]
  rfl
theorem comp_rngY {te : TE} {σ : L2.St} {H : Hp} {lo : Int} {n : Nat} {g : TG} {vs : List Nat} {D : Addr} {Qd : Hp → Prop} (f : Nat → Int)
    (hs : ∀ i, i < n → g (.int (lo + i)) (wipe σ vs) (upd H D (.lst ((rngL f i).map V.int))) fun σ2 H2 => wipe σ2 vs = wipe σ vs ∧ te σ2 H2 (CP D (upd H D (.lst ((rngL f (i + 1)).map V.int)))))
    (hd : Qd (upd H D (.lst ((rngL f n).map V.int)))) : CompI (Itr lo n) g tYes te vs σ H D Qd := by
  refine comp_range (fun i H' => H' = upd H D (.lst ((rngL f i).map V.int))) rfl ?_ ?_
  · rintro i H' hi rfl
    exact hs i hi
  · rintro H' rfl
    exact hd
theorem cp {f : Nat → Int} {i : Nat} {D : Addr} {H : Hp} {y : V} (hn : i < 100000) (hy : y = .int (f i)) : CP D (upd H D (.lst ((rngL f (i + 1)).map V.int))) y (upd H D (.lst ((rngL f i).map V.int))) := by
  refine ⟨_, upd_same, ?_, ?_⟩
  · rw [List.length_map, rngL_len, sizeLine_eq]
    omega
  · rw [Bel.upd_upd, rngL_succ, List.map_append, hy]
    rfl
theorem wipe_nil {σ : L2.St} : wipe σ [] = σ := rfl
theorem wipe_cons {σ : L2.St} {v : Nat} {vs : List Nat} : wipe σ (v :: vs) = (wipe σ vs).set v none := rfl
theorem loop_rangeN {t : TS} {D : Ends} {σ : L2.St} {H : Hp} {lo : Int} {n m : Nat} {g : TG} (hn : n = m) (Pv : Nat → L2.St → Hp → Prop) (h0 : Pv 0 σ H)
    (hs : ∀ i σ H, i < m → Pv i σ H → g (.int (lo + i)) σ H fun σ2 H2 => t { D with nx := Pv (i + 1), ct := Pv (i + 1), bk := D.nx } σ2 H2) (hd : ∀ σ H, Pv m σ H → D.nx σ H) : LoopI (Itr lo n) g t D σ H := by
  subst hn
  exact loop_range Pv h0 hs hd
section
variable {K : PySem.W.Frag} {H : Hp} {x y : V} {Q : VK} {vs : List V}
theorem g_new {Pa : Addr → Prop} (h : ∀ p : Addr, H p = none → Pa p) : ∀ p : Addr, H p = none → Pa p := h
theorem g_ned (h : rNeD K x y H Q) : rNeD K x y H Q := h
theorem g_eqd (h : rEqD K x y H Q) : rEqD K x y H Q := h
theorem g_isi (h : rIsi K vs H Q) : rIsi K vs H Q := h
end
section
variable {t u : TS} {ta tb : TE} {tA tB' : TT} {D : Ends} {σ : L2.St} {H : Hp} {Q : VK} {QT : Bool → Hp → Prop} {p : Prop} {_ : Decidable p} {b : Bool}
theorem g_sel (h : Sel b t u D σ H) : Sel b t u D σ H := h
theorem g_selE (h : SelE b ta tb σ H Q) : SelE b ta tb σ H Q := h
theorem g_selT (h : SelT b tA tB' σ H QT) : SelT b tA tB' σ H QT := h
theorem sel_p (h : p) (q : t D σ H) : Sel (decide p) t u D σ H := by
  rw [decide_eq_true h]
  exact q
theorem sel_n (h : ¬ p) (q : u D σ H) : Sel (decide p) t u D σ H := by
  rw [decide_eq_false h]
  exact q
theorem selN_p (h : p) (q : u D σ H) : Sel (!decide p) t u D σ H := by
  rw [decide_eq_true h]
  exact q
theorem selN_n (h : ¬ p) (q : t D σ H) : Sel (!decide p) t u D σ H := by
  rw [decide_eq_false h]
  exact q
theorem selE_p (h : p) (q : ta σ H Q) : SelE (decide p) ta tb σ H Q := by
  rw [decide_eq_true h]
  exact q
theorem selE_n (h : ¬ p) (q : tb σ H Q) : SelE (decide p) ta tb σ H Q := by
  rw [decide_eq_false h]
  exact q
theorem selEN_p (h : p) (q : tb σ H Q) : SelE (!decide p) ta tb σ H Q := by
  rw [decide_eq_true h]
  exact q
theorem selEN_n (h : ¬ p) (q : ta σ H Q) : SelE (!decide p) ta tb σ H Q := by
  rw [decide_eq_false h]
  exact q
theorem selT_p (h : p) (q : tA σ H QT) : SelT (decide p) tA tB' σ H QT := by
  rw [decide_eq_true h]
  exact q
theorem selT_n (h : ¬ p) (q : tB' σ H QT) : SelT (decide p) tA tB' σ H QT := by
  rw [decide_eq_false h]
  exact q
theorem selTN_p (h : p) (q : tB' σ H QT) : SelT (!decide p) tA tB' σ H QT := by
  rw [decide_eq_true h]
  exact q
theorem selTN_n (h : ¬ p) (q : tA σ H QT) : SelT (!decide p) tA tB' σ H QT := by
  rw [decide_eq_false h]
  exact q
end
section
variable {t u : TS} {ta tb : TE} {tA tB' : TT} {D : Ends} {σ : L2.St} {H : Hp} {Q : VK} {QT : Bool → Hp → Prop} {p : Prop} {_ : Decidable p}
theorem gd_sel (h : Sel (decide p) t u D σ H) : Sel (decide p) t u D σ H := h
theorem gn_sel (h : Sel (!decide p) t u D σ H) : Sel (!decide p) t u D σ H := h
theorem gd_selE (h : SelE (decide p) ta tb σ H Q) : SelE (decide p) ta tb σ H Q := h
theorem gn_selE (h : SelE (!decide p) ta tb σ H Q) : SelE (!decide p) ta tb σ H Q := h
theorem gd_selT (h : SelT (decide p) tA tB' σ H QT) : SelT (decide p) tA tB' σ H QT := h
theorem gn_selT (h : SelT (!decide p) tA tB' σ H QT) : SelT (!decide p) tA tB' σ H QT := h
end
theorem ex_at {xs : List V} {i : Int} {v : V} {P : V → Prop} (h : atI xs i = some v) (q : P v) : ∃ x, atI xs i = some x ∧ P x := ⟨v, h, q⟩
theorem g_atI {xs : List V} {i : Int} {P : V → Prop} (h : ∃ x, atI xs i = some x ∧ P x) : ∃ x, atI xs i = some x ∧ P x := h
theorem ixN_ok {n : Nat} {i : Int} (h0 : 0 ≤ i) (h1 : i < n) : ixN n i = some i.toNat := by
  unfold ixN
  rw [if_pos h0, if_pos h1]
theorem set_ints {xs : List Int} {j : Nat} {v : Int} : (xs.map V.int).set j (.int v) = (xs.set j v).map V.int := (List.map_set ..).symm
theorem x_bits {te : TE} {σ : L2.St} {H : Hp} {Q : VK} : tBits te σ H Q = te σ H (fun x H1 => ∃ i, x = .int i ∧ Q (.int (Builtin.Int.intBits i : Nat)) H1) := rfl
theorem loop_tup {K : PySem.W.Frag} {t : TS} {D : Ends} {σ : L2.St} {H : Hp} {a : Addr} {xs : List V} {g : TG} (Pv : Nat → L2.St → Hp → Prop) (h0 : Pv 0 σ H) (hl : ∀ i σ H, i ≤ xs.length → Pv i σ H → SqT K H a xs)
    (hs : ∀ i x σ H, xs[i]? = some x → Pv i σ H → g x σ H fun σ2 H2 => t { D with nx := Pv (i + 1), ct := Pv (i + 1), bk := D.nx } σ2 H2) (hd : ∀ σ H, Pv xs.length σ H → D.nx σ H) : LoopI (Itt K a) g t D σ H := for_tup Pv h0 hl hs hd
/-! the number of bits -/
theorem bits_is {r k : Nat} (h1 : 2 ^ k ≤ r) (h2 : r < 2 ^ (k + 1)) : Builtin.Int.intBits (r : Int) = k + 1 := by
  have h0 : r ≠ 0 := by
    have := Nat.two_pow_pos k
    omega
  unfold Builtin.Int.intBits
  rw [if_neg (by simpa using h0), Int.natAbs_natCast]
  have a : k ≤ r.log2 := (Nat.le_log2 h0).mpr h1
  have b : r.log2 < k + 1 := (Nat.log2_lt h0).mpr h2
  omega
theorem bits_at {r : Nat} (h0 : r ≠ 0) : ∃ k, Builtin.Int.intBits (r : Int) = k + 1 ∧ 2 ^ k ≤ r ∧ r < 2 ^ (k + 1) := by
  refine ⟨r.log2, ?_, Nat.log2_self_le h0, Nat.lt_log2_self⟩
  exact bits_is (Nat.log2_self_le h0) Nat.lt_log2_self
/-! enumerate of a list: a new pair each turn -/
theorem x_ienum {K : PySem.W.Frag} {l : TA} {σ : L2.St} {H : Hp} {R : It → Hp → Prop} : iEnum K l σ H R = l σ H (fun vs H1 => ∃ (a : Addr) (xs : List V), vs = [.ref a] ∧ SqL K H1 a xs ∧ R (Ite K a) H1) := rfl
theorem loop_enum {K : PySem.W.Frag} {t : TS} {D : Ends} {σ : L2.St} {H : Hp} {a : Addr} {xs : List V} {g : TG} (Pv : Nat → L2.St → Hp → Prop) (h0 : Pv 0 σ H) (hl : ∀ i σ H, i ≤ xs.length → Pv i σ H → SqL K H a xs)
    (hs : ∀ i x σ H T, xs[i]? = some x → Pv i σ H → H T = none → g (.ref T) σ (upd H T (.tup [.int (i : Nat), x])) fun σ2 H2 => t { D with nx := Pv (i + 1), ct := Pv (i + 1), bk := D.nx } σ2 H2) (hd : ∀ σ H, Pv xs.length σ H → D.nx σ H) : LoopI (Ite K a) g t D σ H := by
  refine ⟨fun i left σ H => left = xs.length - i ∧ i ≤ xs.length ∧ Pv i σ H, ⟨xs.length, by omega, by omega, h0⟩, ?_⟩
  rintro i left σ H ⟨rfl, hi, p⟩
  have q := hl i σ H hi p
  by_cases hlt : i < xs.length
  · refine .inr ⟨⟨xs, xs[i], q, List.getElem?_eq_getElem hlt⟩, Pv (i + 1), fun σ' H' p' => ⟨xs.length - (i + 1), by omega, rfl, hlt, p'⟩, fun x H' y => ?_⟩
    obtain ⟨T, x2, e1, hT, e2, y⟩ := y
    subst e1; subst e2
    exact hs i x2 σ H T (y xs q) p hT
  · obtain rfl : i = xs.length := Nat.le_antisymm hi (by omega)
    exact .inl ⟨⟨xs, q, Nat.le_refl _⟩, hd σ H p⟩
/-- an empty tuple of the program -/
def etB (K : PySem.W.Frag) (p : Addr) : Bool := match K.lookup p with
  | some ⟨.type c, _, .seq its _, _⟩ => decide (c = "tuple") && its.isEmpty
  | _ => false
theorem etB_ok {K : PySem.W.Frag} {p : Addr} (h : etB K p = true) (H : Hp) : SqT K H p [] := by
  unfold etB at h
  split at h
  · rename_i c od its n osl q
    simp only [Bool.and_eq_true, decide_eq_true_eq, Array.isEmpty_iff] at h
    obtain ⟨rfl, rfl⟩ := h
    exact .inr ⟨_, _, n, q, rfl, rfl, Nat.zero_le _, .nil⟩
  · cases h
/-! lists of tuples of ints -/
inductive TkAll (H : Hp) : List V → List (List Int) → Prop
  | nil : TkAll H [] []
  | cons {r : Addr} {t : List Int} {vs : List V} {ts : List (List Int)} : H r = some (.tup (t.map V.int)) → TkAll H vs ts → TkAll H (.ref r :: vs) (t :: ts)
namespace TkAll
variable {H G : Hp} {vs us : List V} {ts ws : List (List Int)}
theorem len (h : TkAll H vs ts) : vs.length = ts.length := by
  induction h with
  | nil => rfl
  | cons _ _ ih => exact congrArg (· + 1) ih
theorem same (h : TkAll H vs ts) (s : Same H G) : TkAll G vs ts := by
  induction h with
  | nil => exact .nil
  | cons e _ ih => exact .cons (s _ _ e) ih
theorem put {m : Addr} {l : List V} {o : HO} (h : TkAll H vs ts) (hm : H m = some (.lst l)) : TkAll (upd H m o) vs ts := by
  induction h with
  | nil => exact .nil
  | cons e _ ih =>
    refine .cons ?_ ih
    rw [upd_ne ?_]
    · exact e
    · intro z
      rw [z, hm] at e
      cases e
theorem append (h : TkAll H vs ts) (g : TkAll H us ws) : TkAll H (vs ++ us) (ts ++ ws) := by
  induction h with
  | nil => exact g
  | cons e _ ih => exact .cons e ih
theorem take (h : TkAll H vs ts) (n : Nat) : TkAll H (vs.take n) (ts.take n) := by
  induction h generalizing n with
  | nil =>
    rw [List.take_nil, List.take_nil]
    exact .nil
  | cons e _ ih =>
    cases n with
    | zero => exact .nil
    | succ n => exact .cons e (ih n)
theorem drop (h : TkAll H vs ts) (n : Nat) : TkAll H (vs.drop n) (ts.drop n) := by
  induction h generalizing n with
  | nil =>
    rw [List.drop_nil, List.drop_nil]
    exact .nil
  | cons e g ih =>
    cases n with
    | zero => exact .cons e g
    | succ n => exact ih n
theorem get (h : TkAll H vs ts) {i : Nat} {x : V} (hx : vs[i]? = some x) : ∃ r t, x = .ref r ∧ ts[i]? = some t ∧ H r = some (.tup (t.map V.int)) := by
  induction h generalizing i with
  | nil => cases hx
  | cons e _ ih =>
    cases i with
    | zero =>
      cases hx
      exact ⟨_, _, rfl, rfl, e⟩
    | succ i => exact ih hx
theorem dp {K : PySem.W.Frag} (h : TkAll H vs ts) : DpAll K H vs (ts.map fun t => .tuple (t.map PyData.int)) := by
  induction h with
  | nil => exact .nil
  | cons e _ ih => exact .cons (.tup (SqT.of e) (dpAll_ints _)) ih
end TkAll
theorem plainAl_toks : ∀ ts : List (List Int), plainAl (ts.map fun t => .tuple (t.map PyData.int)) = true
  | [] => by simp [plainAl]
  | t :: r => by simp [plainAl, plain, plainAl_toks r, plainAl_ints t]
theorem depthAll_toks : ∀ ts : List (List Int), PyData.depthAll (ts.map fun t => .tuple (t.map PyData.int)) ≤ 2
  | [] => by simp [PyData.depthAll]
  | t :: r => by
    have := depthAll_toks r
    have := depthAll_ints' t
    simp only [List.map_cons, PyData.depthAll, PyData.depth]
    omega
theorem dq_toks {K : PySem.W.Frag} {H : Hp} {a : Addr} {vs : List V} {ts : List (List Int)} (h : SqL K H a vs) (g : TkAll H vs ts) : Dq K H (.ref a) (.list (ts.map fun t => .tuple (t.map PyData.int))) := ⟨.lst h g.dp, by simp only [plain]; exact plainAl_toks ts, by
  have := depthAll_toks ts
  simp only [PyData.depth]
  omega⟩
/-! xs[i] op= e, i from the front -/
def rGetL (K : PySem.W.Frag) : V → V → Hp → VK → Prop := fun a b H Q => ∃ (p : Addr) (xs : List V) (i : Int) (v : V), a = .ref p ∧ b = .int i ∧ SqL K H p xs ∧ 0 ≤ i ∧ atI xs i = some v ∧ Q v H
theorem x_getL {K : PySem.W.Frag} {a b : V} {H : Hp} {Q : VK} : rGetL K a b H Q = ∃ (p : Addr) (xs : List V) (i : Int) (v : V), a = .ref p ∧ b = .int i ∧ SqL K H p xs ∧ 0 ≤ i ∧ atI xs i = some v ∧ Q v H := rfl
theorem getL {X : Cx} (K : PySem.W.Frag) (e : X.K = K := by rfl) : PGet X (rGetL K) := by
  subst e
  intro pins s σ H o i ov iv Q I ro ri h
  obtain ⟨p, xs, k, z, rfl, rfl, hq, h0, he, q⟩ := h
  cases ro
  obtain ⟨t, rfl⟩ := ri
  obtain ⟨its, r, pl, hz⟩ := I.list hq
  obtain ⟨j, g1, g2, g3, g4, g5⟩ := atI_get he
  obtain ⟨w, ew, rw'⟩ := r.get g2
  have hn := line63
  have hj : k.toNat = j := by
    rw [seqIndex_of h0 g5] at g1
    exact Option.some.inj g1
  exact PySem.wpAny_getItem_list pl.isList h0 (by omega) (by rw [hj]; simpa using ew) ⟨z, H, I, rw', q⟩
theorem x_augS {to ti te : TE} {tget : V → V → Hp → VK → Prop} {tip : TIp} {tset : TSet} {D : Ends} {σ : L2.St} {H : Hp} : tAugS to ti te tget tip tset D σ H = to σ H (fun o H1 => ti σ H1 (fun i H2 => tget o i H2 (fun x H3 => te σ H3 (fun y H4 => tip x y H4 (fun z H5 => tset o i z H5 (fun H6 => D.nx σ H6)))))) := rfl
/-! replicated, pairs of lists -/
theorem rep_one {n : Nat} {x : Int} : (List.replicate n [V.int x]).flatten = (List.replicate n x).map V.int := by
  rw [List.map_replicate]
  induction n with
  | zero => rfl
  | succ n ih =>
    rw [List.replicate_succ, List.replicate_succ, List.flatten_cons, ih]
    rfl
theorem dq_pair {K : PySem.W.Frag} {H : Hp} {q a b : Addr} {xs ys : List Int} (hq : SqT K H q [.ref a, .ref b]) (ha : SqL K H a (xs.map V.int)) (hb : SqL K H b (ys.map V.int)) : Dq K H (.ref q) (.tuple [.list (xs.map PyData.int), .list (ys.map PyData.int)]) :=
  ⟨.tup hq (.cons (.lst ha (dpAll_ints xs)) (.cons (.lst hb (dpAll_ints ys)) .nil)), by simp [plain, plainAl, plainAl_ints], by
    have := depthAll_ints' xs
    have := depthAll_ints' ys
    simp only [PyData.depth, PyData.depthAll]
    omega⟩
end Bel

namespace K19
open PySem PySem.Spec PyProof.Rows L2 Bel
abbrev topS (i : Nat) : Stmt := PySem.Challenge.pw_bellows_k19_counts_and_costs.main.body.getD i (.Pass ⟨0, 0, 0, 0⟩)
abbrev s__law_draws : Stmt := topS 25
abbrev N__law_draws : List Str := ["script", "draws", "k", "rest", "turn", "mixed"]
theorem sc__law_draws : FnScope N__law_draws ["script"] (defScope s__law_draws) := ⟨rfl, rfl, rfl, by decide +kernel, rfl, by decide +kernel, by decide +kernel⟩
abbrev s__law_at : Stmt := topS 26
abbrev N__law_at : List Str := ["draws", "k", "many"]
theorem sc__law_at : FnScope N__law_at ["draws", "k", "many"] (defScope s__law_at) := ⟨rfl, rfl, rfl, by decide +kernel, rfl, by decide +kernel, by decide +kernel⟩
abbrev s__law_is_integer : Stmt := topS 27
abbrev N__law_is_integer : List Str := ["actual"]
theorem sc__law_is_integer : FnScope N__law_is_integer ["actual"] (defScope s__law_is_integer) := ⟨rfl, rfl, rfl, by decide +kernel, rfl, by decide +kernel, by decide +kernel⟩
abbrev s__law_is_row : Stmt := topS 28
abbrev N__law_is_row : List Str := ["actual", "item"]
theorem sc__law_is_row : FnScope N__law_is_row ["actual"] (defScope s__law_is_row) := ⟨rfl, rfl, rfl, by decide +kernel, rfl, by decide +kernel, by decide +kernel⟩
abbrev s_length_base : Stmt := topS 12
abbrev N_length_base : List Str := ["symbol", "extra_bits"]
theorem sc_length_base : FnScope N_length_base ["symbol"] (defScope s_length_base) := ⟨rfl, rfl, rfl, by decide +kernel, rfl, by decide +kernel, by decide +kernel⟩
abbrev s_distance_base : Stmt := topS 13
abbrev N_distance_base : List Str := ["symbol", "extra_bits"]
theorem sc_distance_base : FnScope N_distance_base ["symbol"] (defScope s_distance_base) := ⟨rfl, rfl, rfl, by decide +kernel, rfl, by decide +kernel, by decide +kernel⟩
abbrev s__length_symbol : Stmt := topS 14
abbrev N__length_symbol : List Str := ["length", "rest", "extra_bits"]
theorem sc__length_symbol : FnScope N__length_symbol ["length"] (defScope s__length_symbol) := ⟨rfl, rfl, rfl, by decide +kernel, rfl, by decide +kernel, by decide +kernel⟩
abbrev s__distance_symbol : Stmt := topS 15
abbrev N__distance_symbol : List Str := ["distance", "rest", "extra_bits"]
theorem sc__distance_symbol : FnScope N__distance_symbol ["distance"] (defScope s__distance_symbol) := ⟨rfl, rfl, rfl, by decide +kernel, rfl, by decide +kernel, by decide +kernel⟩
abbrev s_length_parts : Stmt := topS 10
abbrev N_length_parts : List Str := ["length", "symbol", "extra_bits", "base"]
theorem sc_length_parts : FnScope N_length_parts ["length"] (defScope s_length_parts) := ⟨rfl, rfl, rfl, by decide +kernel, rfl, by decide +kernel, by decide +kernel⟩
abbrev s_distance_parts : Stmt := topS 11
abbrev N_distance_parts : List Str := ["distance", "symbol", "extra_bits", "base"]
theorem sc_distance_parts : FnScope N_distance_parts ["distance"] (defScope s_distance_parts) := ⟨rfl, rfl, rfl, by decide +kernel, rfl, by decide +kernel, by decide +kernel⟩
abbrev s__law_length_parts : Stmt := topS 29
abbrev N__law_length_parts : List Str := ["length", "symbol", "extra", "base"]
theorem sc__law_length_parts : FnScope N__law_length_parts ["length"] (defScope s__law_length_parts) := ⟨rfl, rfl, rfl, by decide +kernel, rfl, by decide +kernel, by decide +kernel⟩
abbrev s__law_distance_parts : Stmt := topS 30
abbrev N__law_distance_parts : List Str := ["distance", "symbol", "extra", "base"]
theorem sc__law_distance_parts : FnScope N__law_distance_parts ["distance"] (defScope s__law_distance_parts) := ⟨rfl, rfl, rfl, by decide +kernel, rfl, by decide +kernel, by decide +kernel⟩
abbrev s__law_tokens : Stmt := topS 31
abbrev N__law_tokens : List Str := ["draws", "first", "many", "known", "out", "size", "k", "kind", "length"]
theorem sc__law_tokens : FnScope N__law_tokens ["draws", "first", "many", "known"] (defScope s__law_tokens) := ⟨rfl, rfl, rfl, by decide +kernel, rfl, by decide +kernel, by decide +kernel⟩
abbrev s_symbol_counts : Stmt := topS 18
abbrev N_symbol_counts : List Str := ["tokens", "letters", "distances", "token"]
theorem sc_symbol_counts : FnScope N_symbol_counts ["tokens"] (defScope s_symbol_counts) := ⟨rfl, rfl, rfl, by decide +kernel, rfl, by decide +kernel, by decide +kernel⟩
abbrev s__cost_of_parts : Stmt := topS 23
abbrev N__cost_of_parts : List Str := ["parts", "lengths", "symbol", "extra_bits", "_"]
theorem sc__cost_of_parts : FnScope N__cost_of_parts ["parts", "lengths"] (defScope s__cost_of_parts) := ⟨rfl, rfl, rfl, by decide +kernel, rfl, by decide +kernel, by decide +kernel⟩
abbrev s_literal_cost : Stmt := topS 20
abbrev N_literal_cost : List Str := ["byte", "letters"]
theorem sc_literal_cost : FnScope N_literal_cost ["byte", "letters"] (defScope s_literal_cost) := ⟨rfl, rfl, rfl, by decide +kernel, rfl, by decide +kernel, by decide +kernel⟩
abbrev s_length_cost : Stmt := topS 21
abbrev N_length_cost : List Str := ["length", "letters"]
theorem sc_length_cost : FnScope N_length_cost ["length", "letters"] (defScope s_length_cost) := ⟨rfl, rfl, rfl, by decide +kernel, rfl, by decide +kernel, by decide +kernel⟩
abbrev s_distance_cost : Stmt := topS 22
abbrev N_distance_cost : List Str := ["distance", "distances"]
theorem sc_distance_cost : FnScope N_distance_cost ["distance", "distances"] (defScope s_distance_cost) := ⟨rfl, rfl, rfl, by decide +kernel, rfl, by decide +kernel, by decide +kernel⟩
abbrev s_token_cost : Stmt := topS 19
abbrev N_token_cost : List Str := ["token", "letters", "distances", "of_length", "of_distance"]
theorem sc_token_cost : FnScope N_token_cost ["token", "letters", "distances"] (defScope s_token_cost) := ⟨rfl, rfl, rfl, by decide +kernel, rfl, by decide +kernel, by decide +kernel⟩
abbrev s__law_cost : Stmt := topS 32
abbrev N__law_cost : List Str := ["token", "letters", "distances", "one", "two"]
theorem sc__law_cost : FnScope N__law_cost ["token", "letters", "distances"] (defScope s__law_cost) := ⟨rfl, rfl, rfl, by decide +kernel, rfl, by decide +kernel, by decide +kernel⟩
abbrev s_law : Stmt := topS 33
abbrev N_law : List Str := ["script", "draws", "tokens", "kept", "base", "letters", "k", "distances", "one", "two", "token", "told", "due", "price"]
theorem sc_law : FnScope N_law ["script"] (defScope s_law) := ⟨rfl, rfl, rfl, by decide +kernel, rfl, by decide +kernel, by decide +kernel⟩
abbrev s_BellowsError___init__ : Stmt := inClass (topS 1) 0
abbrev N_BellowsError___init__ : List Str := ["self", "at"]
theorem sc_BellowsError___init__ : FnScope N_BellowsError___init__ ["self", "at"] (defScope s_BellowsError___init__) := ⟨rfl, rfl, rfl, by decide +kernel, rfl, by decide +kernel, by decide +kernel⟩
theorem st__law_draws {v0 : V} : L2.start N__law_draws [v0] = [some v0, none, none, none, none, none] := rfl
theorem st__law_at {v0 v1 v2 : V} : L2.start N__law_at [v0, v1, v2] = [some v0, some v1, some v2] := rfl
theorem st__law_is_integer {v0 : V} : L2.start N__law_is_integer [v0] = [some v0] := rfl
theorem st__law_is_row {v0 : V} : L2.start N__law_is_row [v0] = [some v0, none] := rfl
theorem st_length_base {v0 : V} : L2.start N_length_base [v0] = [some v0, none] := rfl
theorem st_distance_base {v0 : V} : L2.start N_distance_base [v0] = [some v0, none] := rfl
theorem st__length_symbol {v0 : V} : L2.start N__length_symbol [v0] = [some v0, none, none] := rfl
theorem st__distance_symbol {v0 : V} : L2.start N__distance_symbol [v0] = [some v0, none, none] := rfl
theorem st_length_parts {v0 : V} : L2.start N_length_parts [v0] = [some v0, none, none, none] := rfl
theorem st_distance_parts {v0 : V} : L2.start N_distance_parts [v0] = [some v0, none, none, none] := rfl
theorem st__law_length_parts {v0 : V} : L2.start N__law_length_parts [v0] = [some v0, none, none, none] := rfl
theorem st__law_distance_parts {v0 : V} : L2.start N__law_distance_parts [v0] = [some v0, none, none, none] := rfl
theorem st__law_tokens {v0 v1 v2 v3 : V} : L2.start N__law_tokens [v0, v1, v2, v3] = [some v0, some v1, some v2, some v3, none, none, none, none, none] := rfl
theorem st_symbol_counts {v0 : V} : L2.start N_symbol_counts [v0] = [some v0, none, none, none] := rfl
theorem st__cost_of_parts {v0 v1 : V} : L2.start N__cost_of_parts [v0, v1] = [some v0, some v1, none, none, none] := rfl
theorem st_literal_cost {v0 v1 : V} : L2.start N_literal_cost [v0, v1] = [some v0, some v1] := rfl
theorem st_length_cost {v0 v1 : V} : L2.start N_length_cost [v0, v1] = [some v0, some v1] := rfl
theorem st_distance_cost {v0 v1 : V} : L2.start N_distance_cost [v0, v1] = [some v0, some v1] := rfl
theorem st_token_cost {v0 v1 v2 : V} : L2.start N_token_cost [v0, v1, v2] = [some v0, some v1, some v2, none, none] := rfl
theorem st__law_cost {v0 v1 v2 : V} : L2.start N__law_cost [v0, v1, v2] = [some v0, some v1, some v2, none, none] := rfl
theorem st_law {v0 : V} : L2.start N_law [v0] = [some v0, none, none, none, none, none, none, none, none, none, none, none, none, none] := rfl
structure Tx (K : PySem.W.Frag) (mg : Str → Option Value) : Prop where
  b_abs : mg "abs" = none
  b_bool : mg "bool" = none
  b_int : mg "int" = none
  b_isinstance : mg "isinstance" = none
  b_len : mg "len" = none
  b_list : mg "list" = none
  b_min : mg "min" = none
  b_range : mg "range" = none
  b_tuple : mg "tuple" = none
  c_LEAST_LENGTH : ∃ u, mg "LEAST_LENGTH" = some u ∧ RelV (.int (3)) u
  c_MOST_LENGTH : ∃ u, mg "MOST_LENGTH" = some u ∧ RelV (.int (258)) u
  c_MOST_DISTANCE : ∃ u, mg "MOST_DISTANCE" = some u ∧ RelV (.int (32768)) u
  c_LAST_LETTER : ∃ u, mg "LAST_LETTER" = some u ∧ RelV (.int (285)) u
  c_LETTER_COUNT : ∃ u, mg "LETTER_COUNT" = some u ∧ RelV (.int (286)) u
  c_DISTANCE_COUNT : ∃ u, mg "DISTANCE_COUNT" = some u ∧ RelV (.int (30)) u
  c_END_OF_BLOCK : ∃ u, mg "END_OF_BLOCK" = some u ∧ RelV (.int (256)) u
  x_OutOfRange : ExF K mg "OutOfRange"
  d__law_draws : mg "_law_draws" = some (.ref (He.ga K "_law_draws")) ∧ ∃ fd, FunD K "_law_draws" "_law_draws" (defArgs s__law_draws) (defBody s__law_draws) (defScope s__law_draws) [] [] (He.ga K "_law_draws") fd
  d__law_at : mg "_law_at" = some (.ref (He.ga K "_law_at")) ∧ ∃ fd, FunD K "_law_at" "_law_at" (defArgs s__law_at) (defBody s__law_at) (defScope s__law_at) [] [] (He.ga K "_law_at") fd
  d__law_is_integer : mg "_law_is_integer" = some (.ref (He.ga K "_law_is_integer")) ∧ ∃ fd, FunD K "_law_is_integer" "_law_is_integer" (defArgs s__law_is_integer) (defBody s__law_is_integer) (defScope s__law_is_integer) [] [] (He.ga K "_law_is_integer") fd
  d__law_is_row : mg "_law_is_row" = some (.ref (He.ga K "_law_is_row")) ∧ ∃ fd, FunD K "_law_is_row" "_law_is_row" (defArgs s__law_is_row) (defBody s__law_is_row) (defScope s__law_is_row) [] [] (He.ga K "_law_is_row") fd
  d_length_base : mg "length_base" = some (.ref (He.ga K "length_base")) ∧ ∃ fd, FunD K "length_base" "length_base" (defArgs s_length_base) (defBody s_length_base) (defScope s_length_base) [] [] (He.ga K "length_base") fd
  d_distance_base : mg "distance_base" = some (.ref (He.ga K "distance_base")) ∧ ∃ fd, FunD K "distance_base" "distance_base" (defArgs s_distance_base) (defBody s_distance_base) (defScope s_distance_base) [] [] (He.ga K "distance_base") fd
  d__length_symbol : mg "_length_symbol" = some (.ref (He.ga K "_length_symbol")) ∧ ∃ fd, FunD K "_length_symbol" "_length_symbol" (defArgs s__length_symbol) (defBody s__length_symbol) (defScope s__length_symbol) [] [] (He.ga K "_length_symbol") fd
  d__distance_symbol : mg "_distance_symbol" = some (.ref (He.ga K "_distance_symbol")) ∧ ∃ fd, FunD K "_distance_symbol" "_distance_symbol" (defArgs s__distance_symbol) (defBody s__distance_symbol) (defScope s__distance_symbol) [] [] (He.ga K "_distance_symbol") fd
  d_length_parts : mg "length_parts" = some (.ref (He.ga K "length_parts")) ∧ ∃ fd, FunD K "length_parts" "length_parts" (defArgs s_length_parts) (defBody s_length_parts) (defScope s_length_parts) [] [] (He.ga K "length_parts") fd
  d_distance_parts : mg "distance_parts" = some (.ref (He.ga K "distance_parts")) ∧ ∃ fd, FunD K "distance_parts" "distance_parts" (defArgs s_distance_parts) (defBody s_distance_parts) (defScope s_distance_parts) [] [] (He.ga K "distance_parts") fd
  d__law_length_parts : mg "_law_length_parts" = some (.ref (He.ga K "_law_length_parts")) ∧ ∃ fd, FunD K "_law_length_parts" "_law_length_parts" (defArgs s__law_length_parts) (defBody s__law_length_parts) (defScope s__law_length_parts) [] [] (He.ga K "_law_length_parts") fd
  d__law_distance_parts : mg "_law_distance_parts" = some (.ref (He.ga K "_law_distance_parts")) ∧ ∃ fd, FunD K "_law_distance_parts" "_law_distance_parts" (defArgs s__law_distance_parts) (defBody s__law_distance_parts) (defScope s__law_distance_parts) [] [] (He.ga K "_law_distance_parts") fd
  d__law_tokens : mg "_law_tokens" = some (.ref (He.ga K "_law_tokens")) ∧ ∃ fd, FunD K "_law_tokens" "_law_tokens" (defArgs s__law_tokens) (defBody s__law_tokens) (defScope s__law_tokens) [] [] (He.ga K "_law_tokens") fd
  d_symbol_counts : mg "symbol_counts" = some (.ref (He.ga K "symbol_counts")) ∧ ∃ fd, FunD K "symbol_counts" "symbol_counts" (defArgs s_symbol_counts) (defBody s_symbol_counts) (defScope s_symbol_counts) [] [] (He.ga K "symbol_counts") fd
  d__cost_of_parts : mg "_cost_of_parts" = some (.ref (He.ga K "_cost_of_parts")) ∧ ∃ fd, FunD K "_cost_of_parts" "_cost_of_parts" (defArgs s__cost_of_parts) (defBody s__cost_of_parts) (defScope s__cost_of_parts) [] [] (He.ga K "_cost_of_parts") fd
  d_literal_cost : mg "literal_cost" = some (.ref (He.ga K "literal_cost")) ∧ ∃ fd, FunD K "literal_cost" "literal_cost" (defArgs s_literal_cost) (defBody s_literal_cost) (defScope s_literal_cost) [] [] (He.ga K "literal_cost") fd
  d_length_cost : mg "length_cost" = some (.ref (He.ga K "length_cost")) ∧ ∃ fd, FunD K "length_cost" "length_cost" (defArgs s_length_cost) (defBody s_length_cost) (defScope s_length_cost) [] [] (He.ga K "length_cost") fd
  d_distance_cost : mg "distance_cost" = some (.ref (He.ga K "distance_cost")) ∧ ∃ fd, FunD K "distance_cost" "distance_cost" (defArgs s_distance_cost) (defBody s_distance_cost) (defScope s_distance_cost) [] [] (He.ga K "distance_cost") fd
  d_token_cost : mg "token_cost" = some (.ref (He.ga K "token_cost")) ∧ ∃ fd, FunD K "token_cost" "token_cost" (defArgs s_token_cost) (defBody s_token_cost) (defScope s_token_cost) [] [] (He.ga K "token_cost") fd
  d__law_cost : mg "_law_cost" = some (.ref (He.ga K "_law_cost")) ∧ ∃ fd, FunD K "_law_cost" "_law_cost" (defArgs s__law_cost) (defBody s__law_cost) (defScope s__law_cost) [] [] (He.ga K "_law_cost") fd
  d_law : mg "law" = some (.ref (He.ga K "law")) ∧ ∃ fd, FunD K "law" "law" (defArgs s_law) (defBody s_law) (defScope s_law) [] [] (He.ga K "law") fd
  i_init : PySem.W.typeIn K (.ref (He.ma K (He.ga K "BellowsError") "__init__")) = some (.type "function") ∧ ∃ fd, FunD K "__init__" "BellowsError.__init__" (defArgs s_BellowsError___init__) (defBody s_BellowsError___init__) (defScope s_BellowsError___init__) [] [] (He.ma K (He.ga K "BellowsError") "__init__") fd
section
variable {P : Program} {w : World} {K : PySem.W.Frag} {mg : Str → Option Value} {base : Heap}
theorem ok_init (T : Tx K mg) : InitOk P w K mg base := by
  obtain ⟨ti, fd, F⟩ := T.i_init
  refine ⟨fd, F.ok sc_BellowsError___init__ (fun vs H Q E h => ?_) (fun cdv A outer s H vs Q E hr h => ⟨_, PSs.nox (pss_one (ps_ost (pv 0) (pv 1))), ?_⟩), F.bindsN (fun _ _ _ _ _ _ us hl => match us, hl with | [_, _], _ => rfl), ti⟩
  · obtain ⟨_, _, _, rfl, _⟩ := h
    rfl
  · obtain ⟨a, C, v, rfl, h1, h2, h3, q⟩ := h
    exact ⟨_, rfl, _, rfl, a, C, rfl, h1, h2, .inl ⟨h3, q⟩⟩
end
end K19

namespace K19
open PySem PySem.Spec PyProof.Rows L2 Bel
local macro_rules | `(tactic| wtm_at "xs") => `(tactic| simp only [x_next, x_seq, x_brk, x_cont, x_drop, x_ret, x_retN, x_if, sel_t, sel_f, selE_t, selE_f, selT_t, selT_f, selC_t, selC_f, x_test, x_tB, x_op, x_un, x_var, x_c, x_cb, x_nil, x_cons, x_rI, x_rI0, x_rU, x_rEq, x_rNe, x_rIxL, x_rIxT, x_rSlL, x_rCat, x_rRep, x_rApp, x_bm, x_bm0, x_sl, x_nopart, x_part, x_tup, x_lst, x_call, x_callS, x_asg, x_gname, x_gtup, x_gnil, x_gcons, x_gsub, x_setL, x_aug, x_ipI, x_ipC, x_bits, x_getL, x_augS, x_and, x_or, x_not, x_k, x_andV, x_orV, x_notV, x_ife, x_chain, x_for, x_ilist, x_itup, x_ienum, x_irng1, x_irng2, x_irev, x_lc, x_yes, wipe_nil, wipe_cons, List.map_cons, List.map_nil, x_misc, x_misc2, x_rz, lookup_at, Bool.not_true, Bool.not_false, decide_true, decide_false, not_true, not_false_eq_true, and_assoc, exists_and_left, exists_eq_left', exists_eq_left, exists_eq', exists_eq_right', exists_eq_right, V.int.injEq, V.ref.injEq, V.bl.injEq, V.str.injEq, List.cons.injEq, and_true, true_and, and_self, Option.some.injEq, List.cons_append, List.nil_append, List.append_nil, List.getElem?_cons_zero, List.getElem?_cons_succ, List.set_cons_zero, List.set_cons_succ, reduceCtorEq, false_and, and_false, exists_false, exists_const, or_false, false_or, scal_ii, scal_bb, scal_ss, List.length_cons, List.length_nil, Int.reduceToNat, Int.reducePow])
local macro_rules | `(tactic| k_call_by "xs" $h:term) => `(tactic| simp only [$h:term, x_next, x_seq, x_brk, x_cont, x_drop, x_ret, x_retN, x_if, sel_t, sel_f, selE_t, selE_f, selT_t, selT_f, selC_t, selC_f, x_test, x_tB, x_op, x_un, x_var, x_c, x_cb, x_nil, x_cons, x_rI, x_rI0, x_rU, x_rEq, x_rNe, x_rIxL, x_rIxT, x_rSlL, x_rCat, x_rRep, x_rApp, x_bm, x_bm0, x_sl, x_nopart, x_part, x_tup, x_lst, x_call, x_callS, x_asg, x_gname, x_gtup, x_gnil, x_gcons, x_gsub, x_setL, x_aug, x_ipI, x_ipC, x_bits, x_getL, x_augS, x_and, x_or, x_not, x_k, x_andV, x_orV, x_notV, x_ife, x_chain, x_for, x_ilist, x_itup, x_ienum, x_irng1, x_irng2, x_irev, x_lc, x_yes, wipe_nil, wipe_cons, List.map_cons, List.map_nil, x_misc, x_misc2, x_rz, lookup_at, Bool.not_true, Bool.not_false, decide_true, decide_false, not_true, not_false_eq_true, and_assoc, exists_and_left, exists_eq_left', exists_eq_left, exists_eq', exists_eq_right', exists_eq_right, V.int.injEq, V.ref.injEq, V.bl.injEq, V.str.injEq, List.cons.injEq, and_true, true_and, and_self, Option.some.injEq, List.cons_append, List.nil_append, List.append_nil, List.getElem?_cons_zero, List.getElem?_cons_succ, List.set_cons_zero, List.set_cons_succ, reduceCtorEq, false_and, and_false, exists_false, exists_const, or_false, false_or, scal_ii, scal_bb, scal_ss, List.length_cons, List.length_nil, Int.reduceToNat, Int.reducePow])
local macro_rules | `(tactic| wtm_at "hp") => `(tactic| first | (with_reducible assumption) | exact upd_same | (refine upd_keep (by with_reducible assumption) ?_; wtm_at "hp") | (refine Same.get (by with_reducible assumption) ?_; wtm_at "hp") | (refine upd_other (by first | (with_reducible assumption) | exact Ne.symm (by with_reducible assumption)) ?_; wtm_at "hp"))
local macro_rules | `(tactic| wtm_at "sq") => `(tactic| first | (with_reducible assumption) | exact SqL.of (by wtm_at "hp") | exact SqT.of (by wtm_at "hp") | (refine Same.seq (same_upd (by with_reducible assumption)) ?_; wtm_at "sq") | (refine Same.seq (by with_reducible assumption) ?_; wtm_at "sq") | (refine Same.seqT (same_upd (by with_reducible assumption)) ?_; wtm_at "sq") | (refine Same.seqT (by with_reducible assumption) ?_; wtm_at "sq"))
local macro_rules | `(tactic| wtm_at "cl") => `(tactic| first | (with_reducible assumption) | omega | (exact cmul_r (by omega) (by omega)) | (exact cmul_l (by omega) (by omega)) | (exact cdiv_ok (by omega) (by omega)) | (exact cpow_ok (by decide)) | (exact ⟨by omega, by omega, by omega⟩) | decide | (exact ⟨by omega, by omega⟩) | (simp only [List.length_append, List.length_map, List.length_cons, List.length_nil, rngL_len, sizeLine_eq]; omega) | wtm_at "hp" | wtm_at "sq")
local macro_rules | `(tactic| wtm_at "pf") => `(tactic| first | (with_reducible assumption) | omega | (simp only [List.length_append, List.length_map, List.length_cons, List.length_nil, rngL_len]; omega) | (with_reducible rfl) | (with_reducible trivial) | (with_reducible decide))
local macro_rules | `(tactic| wtm_at "st") => `(tactic| first | ((with_reducible refine g_isi ?_); first | (refine isi_int rfl ?_) | (refine isi_lst rfl (by wtm_at "hp") ?_) | (refine isi_tup rfl (by wtm_at "hp") ?_)) | ((with_reducible refine g_ned ?_); refine ned_f (dq_lst (by wtm_at "sq")) (dq_lst (by wtm_at "sq")) ?_) | ((with_reducible refine g_eqd ?_); refine eqd_t (dq_lst (by wtm_at "sq")) (dq_lst (by wtm_at "sq")) ?_) | ((with_reducible refine g_tyv ?_); refine and_tyv (by wtm_at "sq") ?_) | ((with_reducible refine g_asq ?_); refine and_sq (by wtm_at "sq") ?_) | ((with_reducible refine g_lst ?_); refine ex_lst (by wtm_at "hp") ?_) | ((with_reducible refine g_or ?_); first | (refine ex_or (by wtm_at "sq") ?_) | (refine ex_ort (by wtm_at "sq") ?_)) | ((with_reducible refine g_sq ?_); refine ex_sq (by wtm_at "sq") ?_) | ((with_reducible refine g_sqt ?_); refine ex_sqt (by wtm_at "sq") ?_) | ((with_reducible refine gd_sel ?_); first | (refine sel_p (by wtm_at "pf") ?_) | (refine sel_n (by wtm_at "pf") ?_)) | ((with_reducible refine gn_sel ?_); first | (refine selN_p (by wtm_at "pf") ?_) | (refine selN_n (by wtm_at "pf") ?_)) | ((with_reducible refine gd_selT ?_); first | (refine selT_p (by wtm_at "pf") ?_) | (refine selT_n (by wtm_at "pf") ?_)) | ((with_reducible refine gn_selT ?_); first | (refine selTN_p (by wtm_at "pf") ?_) | (refine selTN_n (by wtm_at "pf") ?_)) | ((with_reducible refine gd_selE ?_); first | (refine selE_p (by wtm_at "pf") ?_) | (refine selE_n (by wtm_at "pf") ?_)) | ((with_reducible refine gn_selE ?_); first | (refine selEN_p (by wtm_at "pf") ?_) | (refine selEN_n (by wtm_at "pf") ?_)) | ((with_reducible refine g_xf ?_); refine xf_at rfl (by wtm_at "hp") ?_) | ((with_reducible refine g_atI ?_); refine ex_at (by first | exact rfl | exact atI_int (by omega) (by wtm_at "pf")) ?_) | ((with_reducible refine g_and ?_); refine And.intro (by wtm_at "cl") ?_) | ((with_reducible refine g_new ?_); intro _ _))
local macro_rules | `(tactic| wtm_at "go") => `(tactic| repeat (first | wtm_at "xs" | wtm_at "st"))
section
variable {P : Program} {w : World} {K : PySem.W.Frag} {mg : Str → Option Value} {base : Heap}
def atD (ds : List Int) (k many : Int) : Int := if k < ds.length then ds.getD k.toNat 0 % many else 0
theorem atD_lo {ds : List Int} {k many : Int} (hm : 0 < many) : 0 ≤ atD ds k many := by
  unfold atD
  split
  · exact Int.emod_nonneg _ (by omega)
  · exact Int.le_refl 0
theorem atD_hi {ds : List Int} {k many : Int} (hm : 0 < many) : atD ds k many < many := by
  unfold atD
  split
  · exact Int.emod_lt_of_pos _ hm
  · exact hm
def sp__law_at (K : PySem.W.Frag) : Sp := fun vs H Q _ => ∃ (a : Addr) (ds : List Int) (k many : Int), vs = [.ref a, .int k, .int many] ∧ SqL K H a (ds.map V.int) ∧ 0 ≤ k ∧ 0 < many ∧ Q (.int (atD ds k many)) H
theorem ok__law_at (T : Tx K mg) : Cl P w K mg base 1 "_law_at" ["draws", "k", "many"] (sp__law_at K) [] := by
  obtain ⟨gm, fd, F⟩ := T.d__law_at
  refine ⟨_, fd, [], F.ok sc__law_at (fun vs H Q E h => ?_) (fun cdv A outer s H vs Q E hr h => ⟨_, (PSs.nox (pss_cons (ps_if (pt_cmpR op_lt (pv 1) (pe_callB (lenK K) rfl T.b_len (by decide +kernel) (pa_cons (pv 0) pa_nil)) (nomark _))
 (pss_one (ps_ret (by exact (pe_op op_mod (pe_callTy call_int1 rfl T.b_int (by decide +kernel) (pa_cons (pe_ix (ixl K) (pv 0) (pv 1) (fun _ _ => rfl)) pa_nil)) (pv 2)))))
 pss_nil)
 (pss_one (ps_ret (by exact pe_int))))), ?_⟩), gm, F.kp, F.bindsN (fun _ _ _ _ _ _ us hl => match us, hl with | [_, _, _], _ => rfl), .nil⟩
  · first | (obtain ⟨rfl, _⟩ := h; rfl) | (obtain ⟨_, rfl, _⟩ := h; rfl) | (obtain ⟨_, _, rfl, _⟩ := h; rfl) | (obtain ⟨_, _, _, rfl, _⟩ := h; rfl) | (obtain ⟨_, _, _, _, rfl, _⟩ := h; rfl) | (obtain ⟨_, _, _, _, _, rfl, _⟩ := h; rfl) | (obtain ⟨_, _, _, _, _, _, rfl, _⟩ := h; rfl) | (obtain ⟨_, _, _, _, _, _, _, rfl, _⟩ := h; rfl) | (obtain ⟨_, _, _, _, _, _, _, _, rfl, _⟩ := h; rfl)
  · obtain ⟨a, ds, k, many, rfl, hS, h0, hm, q⟩ := h
    k_call_by "xs" st__law_at
    refine ⟨_, .inl hS, sel_d (fun h1 => ?_) (fun h1 => ?_)⟩
    · wtm_at "xs"
      rw [List.length_map] at h1
      refine ⟨_, hS, _, atI_int h0 h1, ?_⟩
      wtm_at "xs"
      unfold atD at q
      rw [if_pos h1] at q
      exact ⟨hm, q⟩
    · wtm_at "xs"
      rw [List.length_map] at h1
      unfold atD at q
      rw [if_neg h1] at q
      exact q
theorem g_at {K : PySem.W.Frag} {H : Hp} {vs : List V} {Q : VK} {E : XK} (h : sp__law_at K vs H Q E) : sp__law_at K vs H Q E := h
theorem at_call {K : PySem.W.Frag} {H : Hp} {a : Addr} {ds : List Int} {k many : Int} {Q : VK} {E : XK} (hS : SqL K H a (ds.map V.int)) (h0 : 0 ≤ k) (hm : 0 < many) (q : 0 ≤ atD ds k many → atD ds k many < many → Q (.int (atD ds k many)) H) : sp__law_at K [.ref a, .int k, .int many] H Q E := ⟨a, ds, k, many, rfl, hS, h0, hm, q (atD_lo hm) (atD_hi hm)⟩
/-- the draws: all that is asked of them -/
structure Drawn (ds : List Int) : Prop where
  lo : ∀ d ∈ ds, 0 ≤ d
  hi : ∀ d ∈ ds, d < 65536
  len : ds.length ≤ 3780
def sp__law_draws (K : PySem.W.Frag) : Sp := fun vs H Q _ => ∃ (a : Addr) (ns : List Int), vs = [.ref a] ∧ SqL K H a (ns.map V.int) ∧ ns.length ≤ 63 ∧ ∀ ds p H', Drawn ds → Same H H' → H p = none → H' p = some (.lst (ds.map V.int)) → Q (.ref p) H'
structure DrI (a p : Addr) (H : Hp) (most : Nat) (H' : Hp) (ds : List Int) : Prop where
  same : Same H H'
  at_ : H' p = some (.lst (ds.map V.int))
  lo : ∀ d ∈ ds, 0 ≤ d
  hi : ∀ d ∈ ds, d < 65536
  len : ds.length ≤ most
theorem DrI.put {a p : Addr} {H : Hp} {most : Nat} {H' : Hp} {ds : List Int} (I : DrI a p H most H' ds) (hp : H p = none) {x : Int} (h0 : 0 ≤ x) (h1 : x < 65536) {m2 : Nat} (hm : most + 1 ≤ m2) : DrI a p H m2 (upd H' p (.lst (ds.map V.int ++ [.int x]))) (ds ++ [x]) := by
  refine ⟨same_put I.same hp, ?_, ?_, ?_, ?_⟩
  · rw [upd_same, List.map_append]
    rfl
  · intro d hd
    rcases List.mem_append.mp hd with h | h
    · exact I.lo d h
    · rw [List.mem_singleton.mp h]
      exact h0
  · intro d hd
    rcases List.mem_append.mp hd with h | h
    · exact I.hi d h
    · rw [List.mem_singleton.mp h]
      exact h1
  · rw [List.length_append, List.length_singleton]
    have := I.len
    omega
theorem DrI.mono {a p : Addr} {H : Hp} {most m2 : Nat} {H' : Hp} {ds : List Int} (I : DrI a p H most H' ds) (h : most ≤ m2) : DrI a p H m2 H' ds := ⟨I.same, I.at_, I.lo, I.hi, Nat.le_trans I.len h⟩
theorem ok__law_draws (T : Tx K mg) : Cl P w K mg base 1 "_law_draws" ["script"] (sp__law_draws K) [] := by
  obtain ⟨gm, fd, F⟩ := T.d__law_draws
  refine ⟨_, fd, [], F.ok sc__law_draws (fun vs H Q E h => ?_) (fun cdv A outer s H vs Q E hr h => ⟨_, (PSs.nox (pss_cons (ps_set (i := 1) sc__law_draws.nd rfl (Or.inl rfl) (by exact (pe_lst pa_nil)))
 (pss_cons (ps_for PassesOwn.never rfl (pi_range1 rfl T.b_range (pa_cons (pe_callB (call_min2 rfl) rfl T.b_min (by decide +kernel) (pa_cons pe_int (pa_cons (pe_callB (lenK K) rfl T.b_len (by decide +kernel) (pa_cons (pv 0) pa_nil)) pa_nil))) pa_nil)) (pg_name (i := 2) sc__law_draws.nd rfl (Or.inl rfl))
 (pss_cons (ps_set (i := 3) sc__law_draws.nd rfl (Or.inl rfl) (by exact (pe_callB call_abs rfl T.b_abs (by decide +kernel) (pa_cons (pe_ix (ixl K) (pv 0) (pv 2) (fun _ _ => rfl)) pa_nil))))
 (pss_one (ps_if (pt_cmpR op_ge (pv 3) (pe_op op_pow pe_int pe_int) (nomark _))
 (pss_one (ps_for PassesOwn.never rfl (pi_range1 rfl T.b_range (pa_cons pe_int pa_nil)) (pg_name (i := 4) sc__law_draws.nd rfl (Or.inl rfl))
 (pss_one (ps_if (pt_cmpR op_gt (pv 3) pe_int (nomark _))
 (pss_cons (ps_expr (pe_bm PySem.F.plainAttrs_list PySem.F.slot_list_append PySem.F.type_list_append mt_append (pv 1) (pa_cons (pe_op op_mod (pe_callTy call_int1 rfl T.b_int (by decide +kernel) (pa_cons (pv 3) pa_nil)) pe_int) pa_nil)))
 (pss_one (ps_set (i := 3) sc__law_draws.nd rfl (Or.inl rfl) (by exact (pe_op op_fdiv (pv 3) pe_int)))))
 pss_nil))))
 (pss_cons (ps_set (i := 5) sc__law_draws.nd rfl (Or.inl rfl) (by exact (pe_op op_mod (pe_callTy call_int1 rfl T.b_int (by decide +kernel) (pa_cons (pe_op op_add (pe_op op_mul (pv 3) pe_int) (pe_op op_mul (pe_op op_add (pv 2) pe_int) pe_int)) pa_nil)) pe_int)))
 (pss_cons (ps_set (i := 5) sc__law_draws.nd rfl (Or.inl rfl) (by exact (pe_op op_mod (pe_callTy call_int1 rfl T.b_int (by decide +kernel) (pa_cons (pe_op op_add (pe_op op_add (pe_op op_mul (pv 5) pe_int) (pe_op op_mul pe_int (pv 2))) pe_int) pa_nil)) pe_int)))
 (pss_cons (ps_expr (pe_bm PySem.F.plainAttrs_list PySem.F.slot_list_append PySem.F.type_list_append mt_append (pv 1) (pa_cons (pe_op op_mod (pe_callTy call_int1 rfl T.b_int (by decide +kernel) (pa_cons (pv 5) pa_nil)) pe_int) pa_nil)))
 (pss_one (ps_expr (pe_bm PySem.F.plainAttrs_list PySem.F.slot_list_append PySem.F.type_list_append mt_append (pv 1) (pa_cons (pe_op op_mod (pe_callTy call_int1 rfl T.b_int (by decide +kernel) (pa_cons (pe_op op_fdiv (pv 5) pe_int) pa_nil)) pe_int) pa_nil)))))))))))
 (pss_one (ps_ret (by exact (pv 1))))))), ?_⟩), gm, F.kp, F.bindsN (fun _ _ _ _ _ _ us hl => match us, hl with | [_], _ => rfl), .nil⟩
  · first | (obtain ⟨rfl, _⟩ := h; rfl) | (obtain ⟨_, rfl, _⟩ := h; rfl) | (obtain ⟨_, _, rfl, _⟩ := h; rfl) | (obtain ⟨_, _, _, rfl, _⟩ := h; rfl) | (obtain ⟨_, _, _, _, rfl, _⟩ := h; rfl) | (obtain ⟨_, _, _, _, _, rfl, _⟩ := h; rfl) | (obtain ⟨_, _, _, _, _, _, rfl, _⟩ := h; rfl) | (obtain ⟨_, _, _, _, _, _, _, rfl, _⟩ := h; rfl) | (obtain ⟨_, _, _, _, _, _, _, _, rfl, _⟩ := h; rfl)
  · obtain ⟨a, ns, rfl, hS, hlen, q⟩ := h
    k_call_by "xs" st__law_draws
    refine ⟨Nat.zero_le _, fun p hp => ⟨_, .inl ((same_upd hp).seq hS), ?_⟩⟩
    have hj : (if (((ns.map V.int).length : Nat) : Int) < 63 then (((ns.map V.int).length : Nat) : Int) else 63) = (ns.length : Int) := by
      rw [List.length_map]
      split <;> omega
    rw [hj]
    refine ⟨by omega, by omega, loop_range (fun i σ H' => ∃ ds y2 y3 y4 y5, σ = [some (.ref a), some (.ref p), y2, y3, y4, y5] ∧ DrI a p H (60 * i) H' ds) ⟨[], none, none, none, none, rfl, same_upd hp, upd_same, by simp, by simp, Nat.zero_le _⟩ ?_ ?_⟩
    · rintro i σ H' hi ⟨ds, y2, y3, y4, y5, rfl, I⟩
      rw [Int.toNat_natCast] at hi
      wtm_at "xs"
      have hi2 : (0 : Int) + (i : Nat) < (ns.length : Nat) := by omega
      refine ⟨_, I.same.seq hS, _, atI_int (by omega) hi2, ?_⟩
      wtm_at "xs"
      refine ⟨⟨by decide, by decide, by decide⟩, sel_d (fun h1 => ?_) (fun h1 => ?_)⟩
      · wtm_at "xs"
        refine ⟨by decide, by decide, loop_range (fun j σ H2 => ∃ ds y3 y4, σ = [some (.ref a), some (.ref p), some (.int (0 + (i : Nat))), some (.int y3), y4, y5] ∧ DrI a p H (60 * i + j) H2 ds) ⟨_, _, _, rfl, I⟩ ?_ ?_⟩
        · rintro j σ H2 hj2 ⟨ds2, z3, z4, rfl, J⟩
          wtm_at "xs"
          refine sel_d (fun h2 => ?_) (fun h2 => ?_)
          · wtm_at "xs"
            have hj3 : j < 60 := hj2
            refine ⟨tyv (SqL.of J.at_), by decide, _, J.at_, line_map J.len (by omega), ⟨by decide, by decide⟩, ?_⟩
            exact ⟨_, J.put hp (Int.emod_nonneg _ (by decide)) (Int.emod_lt_of_pos _ (by decide)) (Nat.le_refl _)⟩
          · wtm_at "xs"
            exact ⟨_, J.mono (Nat.le_succ _)⟩
        · rintro σ H2 ⟨ds2, z3, z4, rfl, J⟩
          wtm_at "xs"
          exact ⟨_, J.mono (by show 60 * i + (60 : Int).toNat ≤ 60 * (i + 1); omega)⟩
      · wtm_at "xs"
        refine ⟨.inr ⟨by decide, by decide⟩, .inr ⟨by decide, by decide⟩, by decide, .inr ⟨by decide, by decide⟩, .inl ⟨by decide, by decide⟩, by decide, tyv (SqL.of I.at_), by decide, _, I.at_, line_map I.len (by omega), ?_⟩
        generalize (_ : Int) % 2147483629 = M
        have J := I.put hp (x := M % 65536) (Int.emod_nonneg _ (by decide)) (Int.emod_lt_of_pos _ (by decide)) (Nat.le_refl _)
        have L := J.put hp (x := M / 65536 % 32768) (Int.emod_nonneg _ (by decide)) (Int.lt_trans (Int.emod_lt_of_pos _ (by decide)) (by decide : (32768 : Int) < 65536)) (m2 := 60 * (i + 1)) (by omega)
        rw [List.map_append] at L
        refine ⟨tyv (SqL.of upd_same), ⟨by decide, by decide⟩, by decide, _, upd_same, ?_, _, L⟩
        have := line_map J.len (by omega)
        rw [List.map_append] at this
        exact this
    · rintro σ H' ⟨ds, y2, y3, y4, y5, rfl, I⟩
      rw [Int.toNat_natCast] at I
      wtm_at "xs"
      exact q ds p H' ⟨I.lo, I.hi, Nat.le_trans I.len (by omega)⟩ I.same hp I.at_


end
end K19

namespace K19
open PySem PySem.Spec PyProof.Rows L2 Bel
local macro_rules | `(tactic| wtm_at "xs") => `(tactic| simp only [x_next, x_seq, x_brk, x_cont, x_drop, x_ret, x_retN, x_if, sel_t, sel_f, selE_t, selE_f, selT_t, selT_f, selC_t, selC_f, x_test, x_tB, x_op, x_un, x_var, x_c, x_cb, x_nil, x_cons, x_rI, x_rI0, x_rU, x_rEq, x_rNe, x_rIxL, x_rIxT, x_rSlL, x_rCat, x_rRep, x_rApp, x_bm, x_bm0, x_sl, x_nopart, x_part, x_tup, x_lst, x_call, x_callS, x_asg, x_gname, x_gtup, x_gnil, x_gcons, x_gsub, x_setL, x_aug, x_ipI, x_ipC, x_bits, x_getL, x_augS, x_and, x_or, x_not, x_k, x_andV, x_orV, x_notV, x_ife, x_chain, x_for, x_ilist, x_itup, x_ienum, x_irng1, x_irng2, x_irev, x_lc, x_yes, wipe_nil, wipe_cons, List.map_cons, List.map_nil, x_misc, x_misc2, x_rz, lookup_at, Bool.not_true, Bool.not_false, decide_true, decide_false, not_true, not_false_eq_true, and_assoc, exists_and_left, exists_eq_left', exists_eq_left, exists_eq', exists_eq_right', exists_eq_right, V.int.injEq, V.ref.injEq, V.bl.injEq, V.str.injEq, List.cons.injEq, and_true, true_and, and_self, Option.some.injEq, List.cons_append, List.nil_append, List.append_nil, List.getElem?_cons_zero, List.getElem?_cons_succ, List.set_cons_zero, List.set_cons_succ, reduceCtorEq, false_and, and_false, exists_false, exists_const, or_false, false_or, scal_ii, scal_bb, scal_ss, List.length_cons, List.length_nil, Int.reduceToNat, Int.reducePow])
local macro_rules | `(tactic| k_call_by "xs" $h:term) => `(tactic| simp only [$h:term, x_next, x_seq, x_brk, x_cont, x_drop, x_ret, x_retN, x_if, sel_t, sel_f, selE_t, selE_f, selT_t, selT_f, selC_t, selC_f, x_test, x_tB, x_op, x_un, x_var, x_c, x_cb, x_nil, x_cons, x_rI, x_rI0, x_rU, x_rEq, x_rNe, x_rIxL, x_rIxT, x_rSlL, x_rCat, x_rRep, x_rApp, x_bm, x_bm0, x_sl, x_nopart, x_part, x_tup, x_lst, x_call, x_callS, x_asg, x_gname, x_gtup, x_gnil, x_gcons, x_gsub, x_setL, x_aug, x_ipI, x_ipC, x_bits, x_getL, x_augS, x_and, x_or, x_not, x_k, x_andV, x_orV, x_notV, x_ife, x_chain, x_for, x_ilist, x_itup, x_ienum, x_irng1, x_irng2, x_irev, x_lc, x_yes, wipe_nil, wipe_cons, List.map_cons, List.map_nil, x_misc, x_misc2, x_rz, lookup_at, Bool.not_true, Bool.not_false, decide_true, decide_false, not_true, not_false_eq_true, and_assoc, exists_and_left, exists_eq_left', exists_eq_left, exists_eq', exists_eq_right', exists_eq_right, V.int.injEq, V.ref.injEq, V.bl.injEq, V.str.injEq, List.cons.injEq, and_true, true_and, and_self, Option.some.injEq, List.cons_append, List.nil_append, List.append_nil, List.getElem?_cons_zero, List.getElem?_cons_succ, List.set_cons_zero, List.set_cons_succ, reduceCtorEq, false_and, and_false, exists_false, exists_const, or_false, false_or, scal_ii, scal_bb, scal_ss, List.length_cons, List.length_nil, Int.reduceToNat, Int.reducePow])
local macro_rules | `(tactic| wtm_at "hp") => `(tactic| first | (with_reducible assumption) | exact upd_same | (refine upd_keep (by with_reducible assumption) ?_; wtm_at "hp") | (refine Same.get (by with_reducible assumption) ?_; wtm_at "hp") | (refine upd_other (by first | (with_reducible assumption) | exact Ne.symm (by with_reducible assumption)) ?_; wtm_at "hp"))
local macro_rules | `(tactic| wtm_at "sq") => `(tactic| first | (with_reducible assumption) | exact SqL.of (by wtm_at "hp") | exact SqT.of (by wtm_at "hp") | (refine Same.seq (same_upd (by with_reducible assumption)) ?_; wtm_at "sq") | (refine Same.seq (by with_reducible assumption) ?_; wtm_at "sq") | (refine Same.seqT (same_upd (by with_reducible assumption)) ?_; wtm_at "sq") | (refine Same.seqT (by with_reducible assumption) ?_; wtm_at "sq"))
local macro_rules | `(tactic| wtm_at "cl") => `(tactic| first | (with_reducible assumption) | omega | (exact cmul_r (by omega) (by omega)) | (exact cmul_l (by omega) (by omega)) | (exact cdiv_ok (by omega) (by omega)) | (exact cpow_ok (by decide)) | (exact ⟨by omega, by omega, by omega⟩) | decide | (exact ⟨by omega, by omega⟩) | (simp only [List.length_append, List.length_map, List.length_cons, List.length_nil, rngL_len, sizeLine_eq]; omega) | wtm_at "hp" | wtm_at "sq")
local macro_rules | `(tactic| wtm_at "pf") => `(tactic| first | (with_reducible assumption) | omega | (simp only [List.length_append, List.length_map, List.length_cons, List.length_nil, rngL_len]; omega) | (with_reducible rfl) | (with_reducible trivial) | (with_reducible decide))
local macro_rules | `(tactic| wtm_at "st") => `(tactic| first | ((with_reducible refine g_at ?_); refine at_call (by wtm_at "sq") (by omega) (by omega) (fun _ _ => ?_)) | ((with_reducible refine g_isi ?_); first | (refine isi_int rfl ?_) | (refine isi_lst rfl (by wtm_at "hp") ?_) | (refine isi_tup rfl (by wtm_at "hp") ?_)) | ((with_reducible refine g_ned ?_); refine ned_f (dq_lst (by wtm_at "sq")) (dq_lst (by wtm_at "sq")) ?_) | ((with_reducible refine g_eqd ?_); refine eqd_t (dq_lst (by wtm_at "sq")) (dq_lst (by wtm_at "sq")) ?_) | ((with_reducible refine g_tyv ?_); refine and_tyv (by wtm_at "sq") ?_) | ((with_reducible refine g_asq ?_); refine and_sq (by wtm_at "sq") ?_) | ((with_reducible refine g_lst ?_); refine ex_lst (by wtm_at "hp") ?_) | ((with_reducible refine g_or ?_); first | (refine ex_or (by wtm_at "sq") ?_) | (refine ex_ort (by wtm_at "sq") ?_)) | ((with_reducible refine g_sq ?_); refine ex_sq (by wtm_at "sq") ?_) | ((with_reducible refine g_sqt ?_); refine ex_sqt (by wtm_at "sq") ?_) | ((with_reducible refine gd_sel ?_); first | (refine sel_p (by wtm_at "pf") ?_) | (refine sel_n (by wtm_at "pf") ?_)) | ((with_reducible refine gn_sel ?_); first | (refine selN_p (by wtm_at "pf") ?_) | (refine selN_n (by wtm_at "pf") ?_)) | ((with_reducible refine gd_selT ?_); first | (refine selT_p (by wtm_at "pf") ?_) | (refine selT_n (by wtm_at "pf") ?_)) | ((with_reducible refine gn_selT ?_); first | (refine selTN_p (by wtm_at "pf") ?_) | (refine selTN_n (by wtm_at "pf") ?_)) | ((with_reducible refine gd_selE ?_); first | (refine selE_p (by wtm_at "pf") ?_) | (refine selE_n (by wtm_at "pf") ?_)) | ((with_reducible refine gn_selE ?_); first | (refine selEN_p (by wtm_at "pf") ?_) | (refine selEN_n (by wtm_at "pf") ?_)) | ((with_reducible refine g_xf ?_); refine xf_at rfl (by wtm_at "hp") ?_) | ((with_reducible refine g_atI ?_); refine ex_at (by first | exact rfl | exact atI_int (by omega) (by wtm_at "pf")) ?_) | ((with_reducible refine g_and ?_); refine And.intro (by wtm_at "cl") ?_) | ((with_reducible refine g_new ?_); intro _ _))
local macro_rules | `(tactic| wtm_at "go") => `(tactic| repeat (first | wtm_at "xs" | wtm_at "st"))
section
variable {P : Program} {w : World} {K : PySem.W.Frag} {mg : Str → Option Value} {base : Heap}
def sp__law_is_integer (K : PySem.W.Frag) : Sp := fun vs H Q _ => ∃ (i : Int), vs = [.int i] ∧ Q (.bl true) H
theorem ok__law_is_integer (T : Tx K mg) : Cl P w K mg base 1 "_law_is_integer" ["actual"] (sp__law_is_integer K) [] := by
  obtain ⟨gm, fd, F⟩ := T.d__law_is_integer
  refine ⟨_, fd, [], F.ok sc__law_is_integer (fun vs H Q E h => ?_) (fun cdv A outer s H vs Q E hr h => ⟨_, (PSs.nox (pss_one (ps_ret (by exact (pe_and (pe_callB (isiK K) rfl T.b_isinstance (by decide +kernel) (pa_cons (pv 0) (pa_cons (pe_bltn (v := .ty "int") rfl T.b_int (by decide +kernel) rfl) pa_nil))) (pe_one (pe_not (pe_callB (isiK K) rfl T.b_isinstance (by decide +kernel) (pa_cons (pv 0) (pa_cons (pe_bltn (v := .ty "bool") rfl T.b_bool (by decide +kernel) rfl) pa_nil)))))))))), ?_⟩), gm, F.kp, F.bindsN (fun _ _ _ _ _ _ us hl => match us, hl with | [_], _ => rfl), .nil⟩
  · first | (obtain ⟨rfl, _⟩ := h; rfl) | (obtain ⟨_, rfl, _⟩ := h; rfl) | (obtain ⟨_, _, rfl, _⟩ := h; rfl) | (obtain ⟨_, _, _, rfl, _⟩ := h; rfl) | (obtain ⟨_, _, _, _, rfl, _⟩ := h; rfl) | (obtain ⟨_, _, _, _, _, rfl, _⟩ := h; rfl) | (obtain ⟨_, _, _, _, _, _, rfl, _⟩ := h; rfl) | (obtain ⟨_, _, _, _, _, _, _, rfl, _⟩ := h; rfl) | (obtain ⟨_, _, _, _, _, _, _, _, rfl, _⟩ := h; rfl)
  · obtain ⟨i, rfl, q⟩ := h
    k_call_by "xs" st__law_is_integer
    refine isi_int rfl ?_
    wtm_at "xs"
    refine isi_int rfl ?_
    wtm_at "xs"
    exact q
theorem g_int {K : PySem.W.Frag} {H : Hp} {vs : List V} {Q : VK} {E : XK} (h : sp__law_is_integer K vs H Q E) : sp__law_is_integer K vs H Q E := h
theorem int_call {K : PySem.W.Frag} {H : Hp} {i : Int} {Q : VK} {E : XK} (q : Q (.bl true) H) : sp__law_is_integer K [.int i] H Q E := ⟨i, rfl, q⟩


end
end K19

namespace K19
open PySem PySem.Spec PyProof.Rows L2 Bel
local macro_rules | `(tactic| wtm_at "xs") => `(tactic| simp only [x_next, x_seq, x_brk, x_cont, x_drop, x_ret, x_retN, x_if, sel_t, sel_f, selE_t, selE_f, selT_t, selT_f, selC_t, selC_f, x_test, x_tB, x_op, x_un, x_var, x_c, x_cb, x_nil, x_cons, x_rI, x_rI0, x_rU, x_rEq, x_rNe, x_rIxL, x_rIxT, x_rSlL, x_rCat, x_rRep, x_rApp, x_bm, x_bm0, x_sl, x_nopart, x_part, x_tup, x_lst, x_call, x_callS, x_asg, x_gname, x_gtup, x_gnil, x_gcons, x_gsub, x_setL, x_aug, x_ipI, x_ipC, x_bits, x_getL, x_augS, x_and, x_or, x_not, x_k, x_andV, x_orV, x_notV, x_ife, x_chain, x_for, x_ilist, x_itup, x_ienum, x_irng1, x_irng2, x_irev, x_lc, x_yes, wipe_nil, wipe_cons, List.map_cons, List.map_nil, x_misc, x_misc2, x_rz, lookup_at, Bool.not_true, Bool.not_false, decide_true, decide_false, not_true, not_false_eq_true, and_assoc, exists_and_left, exists_eq_left', exists_eq_left, exists_eq', exists_eq_right', exists_eq_right, V.int.injEq, V.ref.injEq, V.bl.injEq, V.str.injEq, List.cons.injEq, and_true, true_and, and_self, Option.some.injEq, List.cons_append, List.nil_append, List.append_nil, List.getElem?_cons_zero, List.getElem?_cons_succ, List.set_cons_zero, List.set_cons_succ, reduceCtorEq, false_and, and_false, exists_false, exists_const, or_false, false_or, scal_ii, scal_bb, scal_ss, List.length_cons, List.length_nil, Int.reduceToNat, Int.reducePow])
local macro_rules | `(tactic| k_call_by "xs" $h:term) => `(tactic| simp only [$h:term, x_next, x_seq, x_brk, x_cont, x_drop, x_ret, x_retN, x_if, sel_t, sel_f, selE_t, selE_f, selT_t, selT_f, selC_t, selC_f, x_test, x_tB, x_op, x_un, x_var, x_c, x_cb, x_nil, x_cons, x_rI, x_rI0, x_rU, x_rEq, x_rNe, x_rIxL, x_rIxT, x_rSlL, x_rCat, x_rRep, x_rApp, x_bm, x_bm0, x_sl, x_nopart, x_part, x_tup, x_lst, x_call, x_callS, x_asg, x_gname, x_gtup, x_gnil, x_gcons, x_gsub, x_setL, x_aug, x_ipI, x_ipC, x_bits, x_getL, x_augS, x_and, x_or, x_not, x_k, x_andV, x_orV, x_notV, x_ife, x_chain, x_for, x_ilist, x_itup, x_ienum, x_irng1, x_irng2, x_irev, x_lc, x_yes, wipe_nil, wipe_cons, List.map_cons, List.map_nil, x_misc, x_misc2, x_rz, lookup_at, Bool.not_true, Bool.not_false, decide_true, decide_false, not_true, not_false_eq_true, and_assoc, exists_and_left, exists_eq_left', exists_eq_left, exists_eq', exists_eq_right', exists_eq_right, V.int.injEq, V.ref.injEq, V.bl.injEq, V.str.injEq, List.cons.injEq, and_true, true_and, and_self, Option.some.injEq, List.cons_append, List.nil_append, List.append_nil, List.getElem?_cons_zero, List.getElem?_cons_succ, List.set_cons_zero, List.set_cons_succ, reduceCtorEq, false_and, and_false, exists_false, exists_const, or_false, false_or, scal_ii, scal_bb, scal_ss, List.length_cons, List.length_nil, Int.reduceToNat, Int.reducePow])
local macro_rules | `(tactic| wtm_at "hp") => `(tactic| first | (with_reducible assumption) | exact upd_same | (refine upd_keep (by with_reducible assumption) ?_; wtm_at "hp") | (refine Same.get (by with_reducible assumption) ?_; wtm_at "hp") | (refine upd_other (by first | (with_reducible assumption) | exact Ne.symm (by with_reducible assumption)) ?_; wtm_at "hp"))
local macro_rules | `(tactic| wtm_at "sq") => `(tactic| first | (with_reducible assumption) | exact SqL.of (by wtm_at "hp") | exact SqT.of (by wtm_at "hp") | (refine Same.seq (same_upd (by with_reducible assumption)) ?_; wtm_at "sq") | (refine Same.seq (by with_reducible assumption) ?_; wtm_at "sq") | (refine Same.seqT (same_upd (by with_reducible assumption)) ?_; wtm_at "sq") | (refine Same.seqT (by with_reducible assumption) ?_; wtm_at "sq"))
local macro_rules | `(tactic| wtm_at "cl") => `(tactic| first | (with_reducible assumption) | omega | (exact cmul_r (by omega) (by omega)) | (exact cmul_l (by omega) (by omega)) | (exact cdiv_ok (by omega) (by omega)) | (exact cpow_ok (by decide)) | (exact ⟨by omega, by omega, by omega⟩) | decide | (exact ⟨by omega, by omega⟩) | (simp only [List.length_append, List.length_map, List.length_cons, List.length_nil, rngL_len, sizeLine_eq]; omega) | wtm_at "hp" | wtm_at "sq")
local macro_rules | `(tactic| wtm_at "pf") => `(tactic| first | (with_reducible assumption) | omega | (simp only [List.length_append, List.length_map, List.length_cons, List.length_nil, rngL_len]; omega) | (with_reducible rfl) | (with_reducible trivial) | (with_reducible decide))
local macro_rules | `(tactic| wtm_at "st") => `(tactic| first | ((with_reducible refine g_at ?_); refine at_call (by wtm_at "sq") (by omega) (by omega) (fun _ _ => ?_)) | ((with_reducible refine g_int ?_); refine int_call ?_) | ((with_reducible refine g_isi ?_); first | (refine isi_int rfl ?_) | (refine isi_lst rfl (by wtm_at "hp") ?_) | (refine isi_tup rfl (by wtm_at "hp") ?_)) | ((with_reducible refine g_ned ?_); refine ned_f (dq_lst (by wtm_at "sq")) (dq_lst (by wtm_at "sq")) ?_) | ((with_reducible refine g_eqd ?_); refine eqd_t (dq_lst (by wtm_at "sq")) (dq_lst (by wtm_at "sq")) ?_) | ((with_reducible refine g_tyv ?_); refine and_tyv (by wtm_at "sq") ?_) | ((with_reducible refine g_asq ?_); refine and_sq (by wtm_at "sq") ?_) | ((with_reducible refine g_lst ?_); refine ex_lst (by wtm_at "hp") ?_) | ((with_reducible refine g_or ?_); first | (refine ex_or (by wtm_at "sq") ?_) | (refine ex_ort (by wtm_at "sq") ?_)) | ((with_reducible refine g_sq ?_); refine ex_sq (by wtm_at "sq") ?_) | ((with_reducible refine g_sqt ?_); refine ex_sqt (by wtm_at "sq") ?_) | ((with_reducible refine gd_sel ?_); first | (refine sel_p (by wtm_at "pf") ?_) | (refine sel_n (by wtm_at "pf") ?_)) | ((with_reducible refine gn_sel ?_); first | (refine selN_p (by wtm_at "pf") ?_) | (refine selN_n (by wtm_at "pf") ?_)) | ((with_reducible refine gd_selT ?_); first | (refine selT_p (by wtm_at "pf") ?_) | (refine selT_n (by wtm_at "pf") ?_)) | ((with_reducible refine gn_selT ?_); first | (refine selTN_p (by wtm_at "pf") ?_) | (refine selTN_n (by wtm_at "pf") ?_)) | ((with_reducible refine gd_selE ?_); first | (refine selE_p (by wtm_at "pf") ?_) | (refine selE_n (by wtm_at "pf") ?_)) | ((with_reducible refine gn_selE ?_); first | (refine selEN_p (by wtm_at "pf") ?_) | (refine selEN_n (by wtm_at "pf") ?_)) | ((with_reducible refine g_xf ?_); refine xf_at rfl (by wtm_at "hp") ?_) | ((with_reducible refine g_atI ?_); refine ex_at (by first | exact rfl | exact atI_int (by omega) (by wtm_at "pf")) ?_) | ((with_reducible refine g_and ?_); refine And.intro (by wtm_at "cl") ?_) | ((with_reducible refine g_new ?_); intro _ _))
local macro_rules | `(tactic| wtm_at "go") => `(tactic| repeat (first | wtm_at "xs" | wtm_at "st"))
section
variable {P : Program} {w : World} {K : PySem.W.Frag} {mg : Str → Option Value} {base : Heap}
def sp__law_is_row (K : PySem.W.Frag) : Sp := fun vs H Q _ => ∃ (a : Addr) (ns : List Int), vs = [.ref a] ∧ H a = some (.lst (ns.map V.int)) ∧ Q (.bl true) H
theorem ok__law_is_row (T : Tx K mg) : Cl P w K mg base 2 "_law_is_row" ["actual"] (sp__law_is_row K) [] := by
  obtain ⟨gm, fd, F⟩ := T.d__law_is_row
  refine ⟨_, fd, [], F.ok sc__law_is_row (fun vs H Q E h => ?_) (fun cdv A outer s H vs Q E hr h => ⟨_, (PSs.nox (pss_cons (ps_if (pt_not (pt_val (pe_callB (isiK K) rfl T.b_isinstance (by decide +kernel) (pa_cons (pv 0) (pa_cons (pe_bltn (v := .ty "list") rfl T.b_list (by decide +kernel) rfl) pa_nil)))))
 (pss_one (ps_ret (by exact pe_bl)))
 pss_nil)
 (pss_cons (ps_for PassesOwn.never rfl (pi_list (pv 0)) (pg_name (i := 1) sc__law_is_row.nd rfl (Or.inl rfl))
 (pss_one (ps_if (pt_not (pt_val (pe_cl (ok__law_is_integer T) (hr.mono (by decide)) rfl (pa_cons (pv 1) pa_nil))))
 (pss_one (ps_ret (by exact pe_bl)))
 pss_nil)))
 (pss_one (ps_ret (by exact pe_bl)))))), ?_⟩), gm, F.kp, F.bindsN (fun _ _ _ _ _ _ us hl => match us, hl with | [_], _ => rfl), .nil⟩
  · first | (obtain ⟨rfl, _⟩ := h; rfl) | (obtain ⟨_, rfl, _⟩ := h; rfl) | (obtain ⟨_, _, rfl, _⟩ := h; rfl) | (obtain ⟨_, _, _, rfl, _⟩ := h; rfl) | (obtain ⟨_, _, _, _, rfl, _⟩ := h; rfl) | (obtain ⟨_, _, _, _, _, rfl, _⟩ := h; rfl) | (obtain ⟨_, _, _, _, _, _, rfl, _⟩ := h; rfl) | (obtain ⟨_, _, _, _, _, _, _, rfl, _⟩ := h; rfl) | (obtain ⟨_, _, _, _, _, _, _, _, rfl, _⟩ := h; rfl)
  · obtain ⟨a, ns, rfl, hl, q⟩ := h
    k_call_by "xs" st__law_is_row
    refine isi_lst rfl hl ?_
    wtm_at "xs"
    refine ⟨⟨_, SqL.of hl⟩, loop_list (xs := ns.map V.int) (fun i σ H' => ∃ y, σ = [some (.ref a), y] ∧ H' = H) ⟨_, rfl, rfl⟩ (fun i σ H' _ ⟨y, _, e⟩ => by rw [e]; exact SqL.of hl) ?_ ?_⟩
    · rintro i x σ H' hx ⟨y, rfl, rfl⟩
      obtain ⟨z, hz, rfl⟩ := int_at hx
      wtm_at "xs"
      refine ⟨z, rfl, ?_⟩
      wtm_at "xs"
    · rintro σ H' ⟨y, rfl, rfl⟩
      wtm_at "xs"
      exact q
theorem g_row {K : PySem.W.Frag} {H : Hp} {vs : List V} {Q : VK} {E : XK} (h : sp__law_is_row K vs H Q E) : sp__law_is_row K vs H Q E := h
theorem row_call {K : PySem.W.Frag} {H : Hp} {a : Addr} {ns : List Int} {Q : VK} {E : XK} (h : H a = some (.lst (ns.map V.int))) (q : Q (.bl true) H) : sp__law_is_row K [.ref a] H Q E := ⟨a, ns, rfl, h, q⟩


end
end K19

namespace K19
open PySem PySem.Spec PyProof.Rows L2 Bel
local macro_rules | `(tactic| wtm_at "xs") => `(tactic| simp only [x_next, x_seq, x_brk, x_cont, x_drop, x_ret, x_retN, x_if, sel_t, sel_f, selE_t, selE_f, selT_t, selT_f, selC_t, selC_f, x_test, x_tB, x_op, x_un, x_var, x_c, x_cb, x_nil, x_cons, x_rI, x_rI0, x_rU, x_rEq, x_rNe, x_rIxL, x_rIxT, x_rSlL, x_rCat, x_rRep, x_rApp, x_bm, x_bm0, x_sl, x_nopart, x_part, x_tup, x_lst, x_call, x_callS, x_asg, x_gname, x_gtup, x_gnil, x_gcons, x_gsub, x_setL, x_aug, x_ipI, x_ipC, x_bits, x_getL, x_augS, x_and, x_or, x_not, x_k, x_andV, x_orV, x_notV, x_ife, x_chain, x_for, x_ilist, x_itup, x_ienum, x_irng1, x_irng2, x_irev, x_lc, x_yes, wipe_nil, wipe_cons, List.map_cons, List.map_nil, x_misc, x_misc2, x_rz, lookup_at, Bool.not_true, Bool.not_false, decide_true, decide_false, not_true, not_false_eq_true, and_assoc, exists_and_left, exists_eq_left', exists_eq_left, exists_eq', exists_eq_right', exists_eq_right, V.int.injEq, V.ref.injEq, V.bl.injEq, V.str.injEq, List.cons.injEq, and_true, true_and, and_self, Option.some.injEq, List.cons_append, List.nil_append, List.append_nil, List.getElem?_cons_zero, List.getElem?_cons_succ, List.set_cons_zero, List.set_cons_succ, reduceCtorEq, false_and, and_false, exists_false, exists_const, or_false, false_or, scal_ii, scal_bb, scal_ss, List.length_cons, List.length_nil, Int.reduceToNat, Int.reducePow])
local macro_rules | `(tactic| k_call_by "xs" $h:term) => `(tactic| simp only [$h:term, x_next, x_seq, x_brk, x_cont, x_drop, x_ret, x_retN, x_if, sel_t, sel_f, selE_t, selE_f, selT_t, selT_f, selC_t, selC_f, x_test, x_tB, x_op, x_un, x_var, x_c, x_cb, x_nil, x_cons, x_rI, x_rI0, x_rU, x_rEq, x_rNe, x_rIxL, x_rIxT, x_rSlL, x_rCat, x_rRep, x_rApp, x_bm, x_bm0, x_sl, x_nopart, x_part, x_tup, x_lst, x_call, x_callS, x_asg, x_gname, x_gtup, x_gnil, x_gcons, x_gsub, x_setL, x_aug, x_ipI, x_ipC, x_bits, x_getL, x_augS, x_and, x_or, x_not, x_k, x_andV, x_orV, x_notV, x_ife, x_chain, x_for, x_ilist, x_itup, x_ienum, x_irng1, x_irng2, x_irev, x_lc, x_yes, wipe_nil, wipe_cons, List.map_cons, List.map_nil, x_misc, x_misc2, x_rz, lookup_at, Bool.not_true, Bool.not_false, decide_true, decide_false, not_true, not_false_eq_true, and_assoc, exists_and_left, exists_eq_left', exists_eq_left, exists_eq', exists_eq_right', exists_eq_right, V.int.injEq, V.ref.injEq, V.bl.injEq, V.str.injEq, List.cons.injEq, and_true, true_and, and_self, Option.some.injEq, List.cons_append, List.nil_append, List.append_nil, List.getElem?_cons_zero, List.getElem?_cons_succ, List.set_cons_zero, List.set_cons_succ, reduceCtorEq, false_and, and_false, exists_false, exists_const, or_false, false_or, scal_ii, scal_bb, scal_ss, List.length_cons, List.length_nil, Int.reduceToNat, Int.reducePow])
local macro_rules | `(tactic| wtm_at "hp") => `(tactic| first | (with_reducible assumption) | exact upd_same | (refine upd_keep (by with_reducible assumption) ?_; wtm_at "hp") | (refine Same.get (by with_reducible assumption) ?_; wtm_at "hp") | (refine upd_other (by first | (with_reducible assumption) | exact Ne.symm (by with_reducible assumption)) ?_; wtm_at "hp"))
local macro_rules | `(tactic| wtm_at "sq") => `(tactic| first | (with_reducible assumption) | exact SqL.of (by wtm_at "hp") | exact SqT.of (by wtm_at "hp") | (refine Same.seq (same_upd (by with_reducible assumption)) ?_; wtm_at "sq") | (refine Same.seq (by with_reducible assumption) ?_; wtm_at "sq") | (refine Same.seqT (same_upd (by with_reducible assumption)) ?_; wtm_at "sq") | (refine Same.seqT (by with_reducible assumption) ?_; wtm_at "sq"))
local macro_rules | `(tactic| wtm_at "cl") => `(tactic| first | (with_reducible assumption) | omega | (exact cmul_r (by omega) (by omega)) | (exact cmul_l (by omega) (by omega)) | (exact cdiv_ok (by omega) (by omega)) | (exact cpow_ok (by decide)) | (exact ⟨by omega, by omega, by omega⟩) | decide | (exact ⟨by omega, by omega⟩) | (simp only [List.length_append, List.length_map, List.length_cons, List.length_nil, rngL_len, sizeLine_eq]; omega) | wtm_at "hp" | wtm_at "sq")
local macro_rules | `(tactic| wtm_at "pf") => `(tactic| first | (with_reducible assumption) | omega | (simp only [List.length_append, List.length_map, List.length_cons, List.length_nil, rngL_len]; omega) | (with_reducible rfl) | (with_reducible trivial) | (with_reducible decide))
local macro_rules | `(tactic| wtm_at "st") => `(tactic| first | ((with_reducible refine g_at ?_); refine at_call (by wtm_at "sq") (by omega) (by omega) (fun _ _ => ?_)) | ((with_reducible refine g_row ?_); refine row_call (by wtm_at "hp") ?_) | ((with_reducible refine g_int ?_); refine int_call ?_) | ((with_reducible refine g_isi ?_); first | (refine isi_int rfl ?_) | (refine isi_lst rfl (by wtm_at "hp") ?_) | (refine isi_tup rfl (by wtm_at "hp") ?_)) | ((with_reducible refine g_ned ?_); refine ned_f (dq_lst (by wtm_at "sq")) (dq_lst (by wtm_at "sq")) ?_) | ((with_reducible refine g_eqd ?_); refine eqd_t (dq_lst (by wtm_at "sq")) (dq_lst (by wtm_at "sq")) ?_) | ((with_reducible refine g_tyv ?_); refine and_tyv (by wtm_at "sq") ?_) | ((with_reducible refine g_asq ?_); refine and_sq (by wtm_at "sq") ?_) | ((with_reducible refine g_lst ?_); refine ex_lst (by wtm_at "hp") ?_) | ((with_reducible refine g_or ?_); first | (refine ex_or (by wtm_at "sq") ?_) | (refine ex_ort (by wtm_at "sq") ?_)) | ((with_reducible refine g_sq ?_); refine ex_sq (by wtm_at "sq") ?_) | ((with_reducible refine g_sqt ?_); refine ex_sqt (by wtm_at "sq") ?_) | ((with_reducible refine gd_sel ?_); first | (refine sel_p (by wtm_at "pf") ?_) | (refine sel_n (by wtm_at "pf") ?_)) | ((with_reducible refine gn_sel ?_); first | (refine selN_p (by wtm_at "pf") ?_) | (refine selN_n (by wtm_at "pf") ?_)) | ((with_reducible refine gd_selT ?_); first | (refine selT_p (by wtm_at "pf") ?_) | (refine selT_n (by wtm_at "pf") ?_)) | ((with_reducible refine gn_selT ?_); first | (refine selTN_p (by wtm_at "pf") ?_) | (refine selTN_n (by wtm_at "pf") ?_)) | ((with_reducible refine gd_selE ?_); first | (refine selE_p (by wtm_at "pf") ?_) | (refine selE_n (by wtm_at "pf") ?_)) | ((with_reducible refine gn_selE ?_); first | (refine selEN_p (by wtm_at "pf") ?_) | (refine selEN_n (by wtm_at "pf") ?_)) | ((with_reducible refine g_xf ?_); refine xf_at rfl (by wtm_at "hp") ?_) | ((with_reducible refine g_atI ?_); refine ex_at (by first | exact rfl | exact atI_int (by omega) (by wtm_at "pf")) ?_) | ((with_reducible refine g_and ?_); refine And.intro (by wtm_at "cl") ?_) | ((with_reducible refine g_new ?_); intro _ _))
local macro_rules | `(tactic| wtm_at "go") => `(tactic| repeat (first | wtm_at "xs" | wtm_at "st"))
section
variable {P : Program} {w : World} {K : PySem.W.Frag} {mg : Str → Option Value} {base : Heap}
/-! ### symbols and their bases -/
def lEx (s : Int) : Int := if s = 285 then 0 else if s < 265 then 0 else (s - 261) / 4
def lBa (s : Int) : Int := if s = 285 then 258 else if s < 265 then s - 254 else 1 * 2 ^ ((s - 261) / 4 + 2).toNat + (s - 265) % 4 * 2 ^ ((s - 261) / 4).toNat + 3
def dEx (s : Int) : Int := if s < 4 then 0 else (s - 2) / 2
def dBa (s : Int) : Int := if s < 4 then s + 1 else 1 * 2 ^ ((s - 2) / 2 + 1).toNat + s % 2 * 2 ^ ((s - 2) / 2).toNat + 1
def sp_length_base (K : PySem.W.Frag) : Sp := fun vs H Q E => ∃ s : Int, vs = [.int s] ∧ (257 ≤ s ∧ s ≤ 285 → ∀ p, H p = none → Q (.ref p) (upd H p (.tup ([lEx s, lBa s].map V.int)))) ∧
  (¬ (257 ≤ s ∧ s ≤ 285) → ∀ d, H d = none → E (.ref (He.ga K "OutOfRange")) (some d) (upd H d (.xd [("at", .int s)])))
theorem ok_length_base (T : Tx K mg) : Cl P w K mg base 3 "length_base" ["symbol"] (sp_length_base K) [] := by
  obtain ⟨gm, fd, F⟩ := T.d_length_base
  refine ⟨_, fd, [], F.ok sc_length_base (fun vs H Q E h => ?_) (fun cdv A outer s H vs Q E hr h => ⟨_, (pss_cons (ps_if (pt_not (pt_chain op_le op_le pe_int (pv 0) (pe_gc rfl T.c_LAST_LETTER)))
 (pss_one (ps_raiseB T.x_OutOfRange (ok_init T) (hr.mono (by decide)) (takes_of rfl rfl rfl rfl) (by exact (pa_cons (pv 0) pa_nil))))
 pss_nil)
 (pss_cons (ps_if (pt_cmpR op_eq (pv 0) (pe_gc rfl T.c_LAST_LETTER) (nomark _))
 (pss_one (ps_ret (by exact (pe_tup (pa_cons pe_int (pa_cons (pe_gc rfl T.c_MOST_LENGTH) pa_nil))))))
 pss_nil)
 (pss_cons (ps_if (pt_cmpR op_lt (pv 0) pe_int (nomark _))
 (pss_one (ps_ret (by exact (pe_tup (pa_cons pe_int (pa_cons (pe_op op_sub (pv 0) pe_int) pa_nil))))))
 pss_nil)
 (pss_cons (ps_set (i := 1) sc_length_base.nd rfl (Or.inl rfl) (by exact (pe_op op_fdiv (pe_op op_sub (pv 0) pe_int) pe_int)))
 (pss_one (ps_ret (by exact (pe_tup (pa_cons (pv 1) (pa_cons (pe_op op_add (pe_op op_add (pe_op op_shl pe_int (pe_op op_add (pv 1) pe_int)) (pe_op op_shl (pe_op op_mod (pe_op op_sub (pv 0) pe_int) pe_int) (pv 1))) pe_int) pa_nil)))))))))), ?_⟩), gm, F.kp, F.bindsN (fun _ _ _ _ _ _ us hl => match us, hl with | [_], _ => rfl), .nil⟩
  · first | (obtain ⟨rfl, _⟩ := h; rfl) | (obtain ⟨_, rfl, _⟩ := h; rfl) | (obtain ⟨_, _, rfl, _⟩ := h; rfl) | (obtain ⟨_, _, _, rfl, _⟩ := h; rfl) | (obtain ⟨_, _, _, _, rfl, _⟩ := h; rfl) | (obtain ⟨_, _, _, _, _, rfl, _⟩ := h; rfl) | (obtain ⟨_, _, _, _, _, _, rfl, _⟩ := h; rfl) | (obtain ⟨_, _, _, _, _, _, _, rfl, _⟩ := h; rfl) | (obtain ⟨_, _, _, _, _, _, _, _, rfl, _⟩ := h; rfl)
  · obtain ⟨s, rfl, q, qe⟩ := h
    k_call_by "xs" st_length_base
    by_cases c : 257 ≤ s ∧ s ≤ 285
    · have q := q c
      obtain ⟨c1, c2⟩ := c
      unfold lEx lBa at q
      by_cases c3 : s = 285
      · subst c3
        wtm_at "go"
        exact q _ (by assumption)
      by_cases c4 : s < 265
      · rw [if_neg c3, if_pos c4, if_neg c3, if_pos c4] at q
        wtm_at "go"
        exact q _ (by assumption)
      · rw [if_neg c3, if_neg c4, if_neg c3, if_neg c4] at q
        wtm_at "go"
        exact q _ (by assumption)
    · have q := qe c
      by_cases c1 : 257 ≤ s
      · have c2 : ¬ s ≤ 285 := fun z => c ⟨c1, z⟩
        wtm_at "go"
        exact bz T.x_OutOfRange q
      · wtm_at "go"
        exact bz T.x_OutOfRange q
def sp_distance_base (K : PySem.W.Frag) : Sp := fun vs H Q E => ∃ s : Int, vs = [.int s] ∧ (0 ≤ s ∧ s < 30 → ∀ p, H p = none → Q (.ref p) (upd H p (.tup ([dEx s, dBa s].map V.int)))) ∧
  (¬ (0 ≤ s ∧ s < 30) → ∀ d, H d = none → E (.ref (He.ga K "OutOfRange")) (some d) (upd H d (.xd [("at", .int s)])))
theorem ok_distance_base (T : Tx K mg) : Cl P w K mg base 3 "distance_base" ["symbol"] (sp_distance_base K) [] := by
  obtain ⟨gm, fd, F⟩ := T.d_distance_base
  refine ⟨_, fd, [], F.ok sc_distance_base (fun vs H Q E h => ?_) (fun cdv A outer s H vs Q E hr h => ⟨_, (pss_cons (ps_if (pt_not (pt_chain op_le op_lt pe_int (pv 0) (pe_gc rfl T.c_DISTANCE_COUNT)))
 (pss_one (ps_raiseB T.x_OutOfRange (ok_init T) (hr.mono (by decide)) (takes_of rfl rfl rfl rfl) (by exact (pa_cons (pv 0) pa_nil))))
 pss_nil)
 (pss_cons (ps_if (pt_cmpR op_lt (pv 0) pe_int (nomark _))
 (pss_one (ps_ret (by exact (pe_tup (pa_cons pe_int (pa_cons (pe_op op_add (pv 0) pe_int) pa_nil))))))
 pss_nil)
 (pss_cons (ps_set (i := 1) sc_distance_base.nd rfl (Or.inl rfl) (by exact (pe_op op_fdiv (pe_op op_sub (pv 0) pe_int) pe_int)))
 (pss_one (ps_ret (by exact (pe_tup (pa_cons (pv 1) (pa_cons (pe_op op_add (pe_op op_add (pe_op op_shl pe_int (pe_op op_add (pv 1) pe_int)) (pe_op op_shl (pe_op op_mod (pv 0) pe_int) (pv 1))) pe_int) pa_nil))))))))), ?_⟩), gm, F.kp, F.bindsN (fun _ _ _ _ _ _ us hl => match us, hl with | [_], _ => rfl), .nil⟩
  · first | (obtain ⟨rfl, _⟩ := h; rfl) | (obtain ⟨_, rfl, _⟩ := h; rfl) | (obtain ⟨_, _, rfl, _⟩ := h; rfl) | (obtain ⟨_, _, _, rfl, _⟩ := h; rfl) | (obtain ⟨_, _, _, _, rfl, _⟩ := h; rfl) | (obtain ⟨_, _, _, _, _, rfl, _⟩ := h; rfl) | (obtain ⟨_, _, _, _, _, _, rfl, _⟩ := h; rfl) | (obtain ⟨_, _, _, _, _, _, _, rfl, _⟩ := h; rfl) | (obtain ⟨_, _, _, _, _, _, _, _, rfl, _⟩ := h; rfl)
  · obtain ⟨s, rfl, q, qe⟩ := h
    k_call_by "xs" st_distance_base
    by_cases c : 0 ≤ s ∧ s < 30
    · have q := q c
      obtain ⟨c1, c2⟩ := c
      unfold dEx dBa at q
      by_cases c4 : s < 4
      · rw [if_pos c4, if_pos c4] at q
        wtm_at "go"
        exact q _ (by assumption)
      · rw [if_neg c4, if_neg c4] at q
        wtm_at "go"
        exact q _ (by assumption)
    · have q := qe c
      by_cases c1 : 0 ≤ s
      · have c2 : ¬ s < 30 := fun z => c ⟨c1, z⟩
        wtm_at "go"
        exact bz T.x_OutOfRange q
      · wtm_at "go"
        exact bz T.x_OutOfRange q
def lXb (l : Int) : Int := (Builtin.Int.intBits (l - 3) : Int) - 3
def lSym (l : Int) : Int := if l = 258 then 285 else if l < 11 then l + 254 else 261 + 4 * lXb l + (l - 3) / 2 ^ (lXb l).toNat % 4
def dXb (d : Int) : Int := (Builtin.Int.intBits (d - 1) : Int) - 2
def dSym (d : Int) : Int := if d < 5 then d - 1 else 2 + 2 * dXb d + (d - 1) / 2 ^ (dXb d).toNat % 2
theorem lX_of {l : Int} (h : 11 ≤ l) (h2 : l ≤ 258) : ∃ e b r : Nat, l = r + 3 ∧ lXb l = (e + 1 : Nat) ∧ b < 4 ∧ e ≤ 4 ∧ r / 2 ^ (e + 1) = 4 + b ∧ r % 2 ^ (e + 1) < 2 ^ (e + 1) ∧ r = 2 ^ (e + 1) * (4 + b) + r % 2 ^ (e + 1) := by
  obtain ⟨r, hr⟩ := Int.eq_ofNat_of_zero_le (show 0 ≤ l - 3 by omega)
  obtain ⟨k, hk, k1, k2⟩ := bits_at (r := r) (by omega)
  have hk3 : 3 ≤ k := by
    apply Decidable.byContradiction
    intro c
    have : 2 ^ (k + 1) ≤ 2 ^ 3 := Nat.pow_le_pow_right (by decide) (by omega)
    omega
  have hk7 : k ≤ 7 := by
    apply Decidable.byContradiction
    intro c
    have : 2 ^ 8 ≤ 2 ^ k := Nat.pow_le_pow_right (by decide) (by omega)
    omega
  obtain ⟨e, rfl⟩ : ∃ e, k = e + 3 := ⟨k - 3, by omega⟩
  have p1 : 2 ^ (e + 3) = 2 ^ (e + 1) * 4 := by rw [Nat.pow_add 2 (e + 1) 2]
  have p2 : 2 ^ (e + 3 + 1) = 2 ^ (e + 1) * 8 := by rw [show e + 3 + 1 = (e + 1) + 3 by omega, Nat.pow_add 2 (e + 1) 3]
  rw [p1] at k1
  rw [p2] at k2
  have pp := Nat.two_pow_pos (e + 1)
  have d1 : 4 ≤ r / 2 ^ (e + 1) := (Nat.le_div_iff_mul_le pp).mpr (by rw [Nat.mul_comm]; exact k1)
  have d2 : r / 2 ^ (e + 1) < 8 := (Nat.div_lt_iff_lt_mul pp).mpr (by rw [Nat.mul_comm]; exact k2)
  refine ⟨e, r / 2 ^ (e + 1) - 4, r, by omega, ?_, by omega, by omega, by omega, Nat.mod_lt _ pp, ?_⟩
  · unfold lXb
    rw [hr, hk]
    omega
  · rw [show 4 + (r / 2 ^ (e + 1) - 4) = r / 2 ^ (e + 1) by omega]
    exact (Nat.div_add_mod r _).symm
theorem dX_of {d : Int} (h : 5 ≤ d) (h2 : d ≤ 32768) : ∃ e b r : Nat, d = r + 1 ∧ dXb d = (e + 1 : Nat) ∧ b < 2 ∧ e ≤ 12 ∧ r / 2 ^ (e + 1) = 2 + b ∧ r % 2 ^ (e + 1) < 2 ^ (e + 1) ∧ r = 2 ^ (e + 1) * (2 + b) + r % 2 ^ (e + 1) := by
  obtain ⟨r, hr⟩ := Int.eq_ofNat_of_zero_le (show 0 ≤ d - 1 by omega)
  obtain ⟨k, hk, k1, k2⟩ := bits_at (r := r) (by omega)
  have hk3 : 2 ≤ k := by
    apply Decidable.byContradiction
    intro c
    have : 2 ^ (k + 1) ≤ 2 ^ 2 := Nat.pow_le_pow_right (by decide) (by omega)
    omega
  have hk7 : k ≤ 14 := by
    apply Decidable.byContradiction
    intro c
    have : 2 ^ 15 ≤ 2 ^ k := Nat.pow_le_pow_right (by decide) (by omega)
    omega
  obtain ⟨e, rfl⟩ : ∃ e, k = e + 2 := ⟨k - 2, by omega⟩
  have p1 : 2 ^ (e + 2) = 2 ^ (e + 1) * 2 := by rw [Nat.pow_add 2 (e + 1) 1]
  have p2 : 2 ^ (e + 2 + 1) = 2 ^ (e + 1) * 4 := by rw [show e + 2 + 1 = (e + 1) + 2 by omega, Nat.pow_add 2 (e + 1) 2]
  rw [p1] at k1
  rw [p2] at k2
  have pp := Nat.two_pow_pos (e + 1)
  have d1 : 2 ≤ r / 2 ^ (e + 1) := (Nat.le_div_iff_mul_le pp).mpr (by rw [Nat.mul_comm]; exact k1)
  have d2 : r / 2 ^ (e + 1) < 4 := (Nat.div_lt_iff_lt_mul pp).mpr (by rw [Nat.mul_comm]; exact k2)
  refine ⟨e, r / 2 ^ (e + 1) - 2, r, by omega, ?_, by omega, by omega, by omega, Nat.mod_lt _ pp, ?_⟩
  · unfold dXb
    rw [hr, hk]
    omega
  · rw [show 2 + (r / 2 ^ (e + 1) - 2) = r / 2 ^ (e + 1) by omega]
    exact (Nat.div_add_mod r _).symm
theorem lSym_of {l : Int} (h : 11 ≤ l) (h2 : l ≤ 257) : ∃ e b m : Nat, b < 4 ∧ e ≤ 4 ∧ m < 2 ^ (e + 1) ∧ l = (2 ^ (e + 1) * (4 + b) + m : Nat) + 3 ∧ lSym l = 265 + 4 * e + b := by
  obtain ⟨e, b, r, hl, hx, hb, he, hq, hm, hr⟩ := lX_of h (by omega)
  refine ⟨e, b, r % 2 ^ (e + 1), hb, he, hm, by rw [← hr]; exact hl, ?_⟩
  unfold lSym
  rw [if_neg (by omega), if_neg (by omega), hx, hl, show ((r : Int) + 3 - 3) = (r : Int) by omega, Int.toNat_natCast]
  have : ((r : Int) / 2 ^ (e + 1)) = ((4 + b : Nat) : Int) := by
    rw [← hq]
    norm_cast
  rw [this]
  omega
theorem dSym_of {d : Int} (h : 5 ≤ d) (h2 : d ≤ 32768) : ∃ e b m : Nat, b < 2 ∧ e ≤ 12 ∧ m < 2 ^ (e + 1) ∧ d = (2 ^ (e + 1) * (2 + b) + m : Nat) + 1 ∧ dSym d = 4 + 2 * e + b := by
  obtain ⟨e, b, r, hl, hx, hb, he, hq, hm, hr⟩ := dX_of h (by omega)
  refine ⟨e, b, r % 2 ^ (e + 1), hb, he, hm, by rw [← hr]; exact hl, ?_⟩
  unfold dSym
  rw [if_neg (by omega), hx, hl, show ((r : Int) + 1 - 1) = (r : Int) by omega, Int.toNat_natCast]
  have : ((r : Int) / 2 ^ (e + 1)) = ((2 + b : Nat) : Int) := by
    rw [← hq]
    norm_cast
  rw [this]
  omega
def sp__length_symbol (K : PySem.W.Frag) : Sp := fun vs H Q _ => ∃ l : Int, vs = [.int l] ∧ 3 ≤ l ∧ l ≤ 258 ∧ Q (.int (lSym l)) H
theorem ok__length_symbol (T : Tx K mg) : Cl P w K mg base 1 "_length_symbol" ["length"] (sp__length_symbol K) [] := by
  obtain ⟨gm, fd, F⟩ := T.d__length_symbol
  refine ⟨_, fd, [], F.ok sc__length_symbol (fun vs H Q E h => ?_) (fun cdv A outer s H vs Q E hr h => ⟨_, (PSs.nox (pss_cons (ps_if (pt_cmpR op_eq (pv 0) (pe_gc rfl T.c_MOST_LENGTH) (nomark _))
 (pss_one (ps_ret (by exact (pe_gc rfl T.c_LAST_LETTER))))
 pss_nil)
 (pss_cons (ps_if (pt_cmpR op_lt (pv 0) pe_int (nomark _))
 (pss_one (ps_ret (by exact (pe_op op_add (pv 0) pe_int))))
 pss_nil)
 (pss_cons (ps_set (i := 1) sc__length_symbol.nd rfl (Or.inl rfl) (by exact (pe_op op_sub (pv 0) pe_int)))
 (pss_cons (ps_set (i := 2) sc__length_symbol.nd rfl (Or.inl rfl) (by exact (pe_op op_sub (pe_bits (pv 1)) pe_int)))
 (pss_one (ps_ret (by exact (pe_op op_add (pe_op op_add pe_int (pe_op op_mul pe_int (pv 2))) (pe_op op_mod (pe_op op_shr (pv 1) (pv 2)) pe_int)))))))))), ?_⟩), gm, F.kp, F.bindsN (fun _ _ _ _ _ _ us hl => match us, hl with | [_], _ => rfl), .nil⟩
  · first | (obtain ⟨rfl, _⟩ := h; rfl) | (obtain ⟨_, rfl, _⟩ := h; rfl) | (obtain ⟨_, _, rfl, _⟩ := h; rfl) | (obtain ⟨_, _, _, rfl, _⟩ := h; rfl) | (obtain ⟨_, _, _, _, rfl, _⟩ := h; rfl) | (obtain ⟨_, _, _, _, _, rfl, _⟩ := h; rfl) | (obtain ⟨_, _, _, _, _, _, rfl, _⟩ := h; rfl) | (obtain ⟨_, _, _, _, _, _, _, rfl, _⟩ := h; rfl) | (obtain ⟨_, _, _, _, _, _, _, _, rfl, _⟩ := h; rfl)
  · obtain ⟨l, rfl, h1, h2, q⟩ := h
    k_call_by "xs" st__length_symbol
    unfold lSym at q
    by_cases c3 : l = 258
    · subst c3
      wtm_at "go"
      exact q
    by_cases c4 : l < 11
    · rw [if_neg c3, if_pos c4] at q
      wtm_at "go"
      exact q
    · rw [if_neg c3, if_neg c4] at q
      obtain ⟨e, b, r, hl, hx, _⟩ := lX_of (l := l) (by omega) h2
      unfold lXb at hx q
      wtm_at "go"
      exact q
def sp__distance_symbol (K : PySem.W.Frag) : Sp := fun vs H Q _ => ∃ l : Int, vs = [.int l] ∧ 1 ≤ l ∧ l ≤ 32768 ∧ Q (.int (dSym l)) H
theorem ok__distance_symbol (T : Tx K mg) : Cl P w K mg base 1 "_distance_symbol" ["distance"] (sp__distance_symbol K) [] := by
  obtain ⟨gm, fd, F⟩ := T.d__distance_symbol
  refine ⟨_, fd, [], F.ok sc__distance_symbol (fun vs H Q E h => ?_) (fun cdv A outer s H vs Q E hr h => ⟨_, (PSs.nox (pss_cons (ps_if (pt_cmpR op_lt (pv 0) pe_int (nomark _))
 (pss_one (ps_ret (by exact (pe_op op_sub (pv 0) pe_int))))
 pss_nil)
 (pss_cons (ps_set (i := 1) sc__distance_symbol.nd rfl (Or.inl rfl) (by exact (pe_op op_sub (pv 0) pe_int)))
 (pss_cons (ps_set (i := 2) sc__distance_symbol.nd rfl (Or.inl rfl) (by exact (pe_op op_sub (pe_bits (pv 1)) pe_int)))
 (pss_one (ps_ret (by exact (pe_op op_add (pe_op op_add pe_int (pe_op op_mul pe_int (pv 2))) (pe_op op_mod (pe_op op_shr (pv 1) (pv 2)) pe_int))))))))), ?_⟩), gm, F.kp, F.bindsN (fun _ _ _ _ _ _ us hl => match us, hl with | [_], _ => rfl), .nil⟩
  · first | (obtain ⟨rfl, _⟩ := h; rfl) | (obtain ⟨_, rfl, _⟩ := h; rfl) | (obtain ⟨_, _, rfl, _⟩ := h; rfl) | (obtain ⟨_, _, _, rfl, _⟩ := h; rfl) | (obtain ⟨_, _, _, _, rfl, _⟩ := h; rfl) | (obtain ⟨_, _, _, _, _, rfl, _⟩ := h; rfl) | (obtain ⟨_, _, _, _, _, _, rfl, _⟩ := h; rfl) | (obtain ⟨_, _, _, _, _, _, _, rfl, _⟩ := h; rfl) | (obtain ⟨_, _, _, _, _, _, _, _, rfl, _⟩ := h; rfl)
  · obtain ⟨l, rfl, h1, h2, q⟩ := h
    k_call_by "xs" st__distance_symbol
    unfold dSym at q
    by_cases c4 : l < 5
    · rw [if_pos c4] at q
      wtm_at "go"
      exact q
    · rw [if_neg c4] at q
      obtain ⟨e, b, r, hl, hx, _⟩ := dX_of (d := l) (by omega) h2
      unfold dXb at hx q
      wtm_at "go"
      exact q


end
end K19

namespace K19
open PySem PySem.Spec PyProof.Rows L2 Bel
local macro_rules | `(tactic| wtm_at "xs") => `(tactic| simp only [x_next, x_seq, x_brk, x_cont, x_drop, x_ret, x_retN, x_if, sel_t, sel_f, selE_t, selE_f, selT_t, selT_f, selC_t, selC_f, x_test, x_tB, x_op, x_un, x_var, x_c, x_cb, x_nil, x_cons, x_rI, x_rI0, x_rU, x_rEq, x_rNe, x_rIxL, x_rIxT, x_rSlL, x_rCat, x_rRep, x_rApp, x_bm, x_bm0, x_sl, x_nopart, x_part, x_tup, x_lst, x_call, x_callS, x_asg, x_gname, x_gtup, x_gnil, x_gcons, x_gsub, x_setL, x_aug, x_ipI, x_ipC, x_bits, x_getL, x_augS, x_and, x_or, x_not, x_k, x_andV, x_orV, x_notV, x_ife, x_chain, x_for, x_ilist, x_itup, x_ienum, x_irng1, x_irng2, x_irev, x_lc, x_yes, wipe_nil, wipe_cons, List.map_cons, List.map_nil, x_misc, x_misc2, x_rz, lookup_at, Bool.not_true, Bool.not_false, decide_true, decide_false, not_true, not_false_eq_true, and_assoc, exists_and_left, exists_eq_left', exists_eq_left, exists_eq', exists_eq_right', exists_eq_right, V.int.injEq, V.ref.injEq, V.bl.injEq, V.str.injEq, List.cons.injEq, and_true, true_and, and_self, Option.some.injEq, List.cons_append, List.nil_append, List.append_nil, List.getElem?_cons_zero, List.getElem?_cons_succ, List.set_cons_zero, List.set_cons_succ, reduceCtorEq, false_and, and_false, exists_false, exists_const, or_false, false_or, scal_ii, scal_bb, scal_ss, List.length_cons, List.length_nil, Int.reduceToNat, Int.reducePow])
local macro_rules | `(tactic| k_call_by "xs" $h:term) => `(tactic| simp only [$h:term, x_next, x_seq, x_brk, x_cont, x_drop, x_ret, x_retN, x_if, sel_t, sel_f, selE_t, selE_f, selT_t, selT_f, selC_t, selC_f, x_test, x_tB, x_op, x_un, x_var, x_c, x_cb, x_nil, x_cons, x_rI, x_rI0, x_rU, x_rEq, x_rNe, x_rIxL, x_rIxT, x_rSlL, x_rCat, x_rRep, x_rApp, x_bm, x_bm0, x_sl, x_nopart, x_part, x_tup, x_lst, x_call, x_callS, x_asg, x_gname, x_gtup, x_gnil, x_gcons, x_gsub, x_setL, x_aug, x_ipI, x_ipC, x_bits, x_getL, x_augS, x_and, x_or, x_not, x_k, x_andV, x_orV, x_notV, x_ife, x_chain, x_for, x_ilist, x_itup, x_ienum, x_irng1, x_irng2, x_irev, x_lc, x_yes, wipe_nil, wipe_cons, List.map_cons, List.map_nil, x_misc, x_misc2, x_rz, lookup_at, Bool.not_true, Bool.not_false, decide_true, decide_false, not_true, not_false_eq_true, and_assoc, exists_and_left, exists_eq_left', exists_eq_left, exists_eq', exists_eq_right', exists_eq_right, V.int.injEq, V.ref.injEq, V.bl.injEq, V.str.injEq, List.cons.injEq, and_true, true_and, and_self, Option.some.injEq, List.cons_append, List.nil_append, List.append_nil, List.getElem?_cons_zero, List.getElem?_cons_succ, List.set_cons_zero, List.set_cons_succ, reduceCtorEq, false_and, and_false, exists_false, exists_const, or_false, false_or, scal_ii, scal_bb, scal_ss, List.length_cons, List.length_nil, Int.reduceToNat, Int.reducePow])
local macro_rules | `(tactic| wtm_at "hp") => `(tactic| first | (with_reducible assumption) | exact upd_same | (refine upd_keep (by with_reducible assumption) ?_; wtm_at "hp") | (refine Same.get (by with_reducible assumption) ?_; wtm_at "hp") | (refine upd_other (by first | (with_reducible assumption) | exact Ne.symm (by with_reducible assumption)) ?_; wtm_at "hp"))
local macro_rules | `(tactic| wtm_at "sq") => `(tactic| first | (with_reducible assumption) | exact SqL.of (by wtm_at "hp") | exact SqT.of (by wtm_at "hp") | (refine Same.seq (same_upd (by with_reducible assumption)) ?_; wtm_at "sq") | (refine Same.seq (by with_reducible assumption) ?_; wtm_at "sq") | (refine Same.seqT (same_upd (by with_reducible assumption)) ?_; wtm_at "sq") | (refine Same.seqT (by with_reducible assumption) ?_; wtm_at "sq"))
local macro_rules | `(tactic| wtm_at "cl") => `(tactic| first | (with_reducible assumption) | omega | (exact cmul_r (by omega) (by omega)) | (exact cmul_l (by omega) (by omega)) | (exact cdiv_ok (by omega) (by omega)) | (exact cpow_ok (by decide)) | (exact ⟨by omega, by omega, by omega⟩) | decide | (exact ⟨by omega, by omega⟩) | (simp only [List.length_append, List.length_map, List.length_cons, List.length_nil, rngL_len, sizeLine_eq]; omega) | wtm_at "hp" | wtm_at "sq")
local macro_rules | `(tactic| wtm_at "pf") => `(tactic| first | (with_reducible assumption) | omega | (simp only [List.length_append, List.length_map, List.length_cons, List.length_nil, rngL_len]; omega) | (with_reducible rfl) | (with_reducible trivial) | (with_reducible decide))
local macro_rules | `(tactic| wtm_at "st") => `(tactic| first | ((with_reducible refine g_at ?_); refine at_call (by wtm_at "sq") (by omega) (by omega) (fun _ _ => ?_)) | ((with_reducible refine g_row ?_); refine row_call (by wtm_at "hp") ?_) | ((with_reducible refine g_int ?_); refine int_call ?_) | ((with_reducible refine g_isi ?_); first | (refine isi_int rfl ?_) | (refine isi_lst rfl (by wtm_at "hp") ?_) | (refine isi_tup rfl (by wtm_at "hp") ?_)) | ((with_reducible refine g_ned ?_); refine ned_f (dq_lst (by wtm_at "sq")) (dq_lst (by wtm_at "sq")) ?_) | ((with_reducible refine g_eqd ?_); refine eqd_t (dq_lst (by wtm_at "sq")) (dq_lst (by wtm_at "sq")) ?_) | ((with_reducible refine g_tyv ?_); refine and_tyv (by wtm_at "sq") ?_) | ((with_reducible refine g_asq ?_); refine and_sq (by wtm_at "sq") ?_) | ((with_reducible refine g_lst ?_); refine ex_lst (by wtm_at "hp") ?_) | ((with_reducible refine g_or ?_); first | (refine ex_or (by wtm_at "sq") ?_) | (refine ex_ort (by wtm_at "sq") ?_)) | ((with_reducible refine g_sq ?_); refine ex_sq (by wtm_at "sq") ?_) | ((with_reducible refine g_sqt ?_); refine ex_sqt (by wtm_at "sq") ?_) | ((with_reducible refine gd_sel ?_); first | (refine sel_p (by wtm_at "pf") ?_) | (refine sel_n (by wtm_at "pf") ?_)) | ((with_reducible refine gn_sel ?_); first | (refine selN_p (by wtm_at "pf") ?_) | (refine selN_n (by wtm_at "pf") ?_)) | ((with_reducible refine gd_selT ?_); first | (refine selT_p (by wtm_at "pf") ?_) | (refine selT_n (by wtm_at "pf") ?_)) | ((with_reducible refine gn_selT ?_); first | (refine selTN_p (by wtm_at "pf") ?_) | (refine selTN_n (by wtm_at "pf") ?_)) | ((with_reducible refine gd_selE ?_); first | (refine selE_p (by wtm_at "pf") ?_) | (refine selE_n (by wtm_at "pf") ?_)) | ((with_reducible refine gn_selE ?_); first | (refine selEN_p (by wtm_at "pf") ?_) | (refine selEN_n (by wtm_at "pf") ?_)) | ((with_reducible refine g_xf ?_); refine xf_at rfl (by wtm_at "hp") ?_) | ((with_reducible refine g_atI ?_); refine ex_at (by first | exact rfl | exact atI_int (by omega) (by wtm_at "pf")) ?_) | ((with_reducible refine g_and ?_); refine And.intro (by wtm_at "cl") ?_) | ((with_reducible refine g_new ?_); intro _ _))
local macro_rules | `(tactic| wtm_at "go") => `(tactic| repeat (first | wtm_at "xs" | wtm_at "st"))
section
variable {P : Program} {w : World} {K : PySem.W.Frag} {mg : Str → Option Value} {base : Heap}
theorem lSym_in {l : Int} (h : 3 ≤ l) (h2 : l ≤ 258) : 257 ≤ lSym l ∧ lSym l ≤ 285 := by
  by_cases c : 11 ≤ l ∧ l ≤ 257
  · obtain ⟨e, b, m, hb, he, _, _, hs⟩ := lSym_of c.1 c.2
    omega
  · unfold lSym
    by_cases c3 : l = 258
    · rw [if_pos c3]
      decide
    · rw [if_neg c3, if_pos (by omega)]
      omega
theorem dSym_in {d : Int} (h : 1 ≤ d) (h2 : d ≤ 32768) : 0 ≤ dSym d ∧ dSym d < 30 := by
  by_cases c : 5 ≤ d
  · obtain ⟨e, b, m, hb, he, _, _, hs⟩ := dSym_of c h2
    omega
  · unfold dSym
    rw [if_pos (by omega)]
    omega
def sp_length_parts (K : PySem.W.Frag) : Sp := fun vs H Q E => ∃ l : Int, vs = [.int l] ∧ (3 ≤ l ∧ l ≤ 258 → ∀ p q, H p = none → upd H p (.tup ([lEx (lSym l), lBa (lSym l)].map V.int)) q = none → Q (.ref q) (upd (upd H p (.tup ([lEx (lSym l), lBa (lSym l)].map V.int))) q (.tup ([lSym l, lEx (lSym l), l - lBa (lSym l)].map V.int)))) ∧
  (¬ (3 ≤ l ∧ l ≤ 258) → ∀ d, H d = none → E (.ref (He.ga K "OutOfRange")) (some d) (upd H d (.xd [("at", .int l)])))
theorem ok_length_parts (T : Tx K mg) : Cl P w K mg base 4 "length_parts" ["length"] (sp_length_parts K) [] := by
  obtain ⟨gm, fd, F⟩ := T.d_length_parts
  refine ⟨_, fd, [], F.ok sc_length_parts (fun vs H Q E h => ?_) (fun cdv A outer s H vs Q E hr h => ⟨_, (pss_cons (ps_if (pt_not (pt_chain op_le op_le (pe_gc rfl T.c_LEAST_LENGTH) (pv 0) (pe_gc rfl T.c_MOST_LENGTH)))
 (pss_one (ps_raiseB T.x_OutOfRange (ok_init T) (hr.mono (by decide)) (takes_of rfl rfl rfl rfl) (by exact (pa_cons (pv 0) pa_nil))))
 pss_nil)
 (pss_cons (ps_set (i := 1) sc_length_parts.nd rfl (Or.inl rfl) (by exact (pe_cl (ok__length_symbol T) (hr.mono (by decide)) rfl (pa_cons (pv 0) pa_nil))))
 (pss_cons (ps_asg (pe_clS (ok_length_base T) (hr.mono (by decide)) rfl (takes_of rfl rfl rfl rfl) (pa_cons (pv 1) pa_nil)) (pg_tup (by rfl) (pgs_cons (pg_name (i := 2) sc_length_parts.nd rfl (Or.inl rfl)) (pgs_cons (pg_name (i := 3) sc_length_parts.nd rfl (Or.inl rfl)) pgs_nil))))
 (pss_one (ps_ret (by exact (pe_tup (pa_cons (pv 1) (pa_cons (pv 2) (pa_cons (pe_op op_sub (pv 0) (pv 3)) pa_nil)))))))))), ?_⟩), gm, F.kp, F.bindsN (fun _ _ _ _ _ _ us hl => match us, hl with | [_], _ => rfl), .nil⟩
  · first | (obtain ⟨rfl, _⟩ := h; rfl) | (obtain ⟨_, rfl, _⟩ := h; rfl) | (obtain ⟨_, _, rfl, _⟩ := h; rfl) | (obtain ⟨_, _, _, rfl, _⟩ := h; rfl) | (obtain ⟨_, _, _, _, rfl, _⟩ := h; rfl) | (obtain ⟨_, _, _, _, _, rfl, _⟩ := h; rfl) | (obtain ⟨_, _, _, _, _, _, rfl, _⟩ := h; rfl) | (obtain ⟨_, _, _, _, _, _, _, rfl, _⟩ := h; rfl) | (obtain ⟨_, _, _, _, _, _, _, _, rfl, _⟩ := h; rfl)
  · obtain ⟨l, rfl, q, qe⟩ := h
    k_call_by "xs" st_length_parts
    by_cases c : 3 ≤ l ∧ l ≤ 258
    · have q := q c
      obtain ⟨c1, c2⟩ := c
      have hs := lSym_in c1 c2
      wtm_at "go"
      refine ⟨l, rfl, c1, c2, ?_⟩
      wtm_at "go"
      refine ⟨_, rfl, fun _ p hp => ?_, fun z => absurd hs z⟩
      wtm_at "go"
      refine ⟨rfl, ?_⟩
      wtm_at "go"
      exact q _ _ hp (by assumption)
    · have q := qe c
      by_cases c1 : 3 ≤ l
      · have c2 : ¬ l ≤ 258 := fun z => c ⟨c1, z⟩
        wtm_at "go"
        exact bz T.x_OutOfRange q
      · wtm_at "go"
        exact bz T.x_OutOfRange q
def sp_distance_parts (K : PySem.W.Frag) : Sp := fun vs H Q E => ∃ l : Int, vs = [.int l] ∧ (1 ≤ l ∧ l ≤ 32768 → ∀ p q, H p = none → upd H p (.tup ([dEx (dSym l), dBa (dSym l)].map V.int)) q = none → Q (.ref q) (upd (upd H p (.tup ([dEx (dSym l), dBa (dSym l)].map V.int))) q (.tup ([dSym l, dEx (dSym l), l - dBa (dSym l)].map V.int)))) ∧
  (¬ (1 ≤ l ∧ l ≤ 32768) → ∀ d, H d = none → E (.ref (He.ga K "OutOfRange")) (some d) (upd H d (.xd [("at", .int l)])))
theorem ok_distance_parts (T : Tx K mg) : Cl P w K mg base 4 "distance_parts" ["distance"] (sp_distance_parts K) [] := by
  obtain ⟨gm, fd, F⟩ := T.d_distance_parts
  refine ⟨_, fd, [], F.ok sc_distance_parts (fun vs H Q E h => ?_) (fun cdv A outer s H vs Q E hr h => ⟨_, (pss_cons (ps_if (pt_not (pt_chain op_le op_le pe_int (pv 0) (pe_gc rfl T.c_MOST_DISTANCE)))
 (pss_one (ps_raiseB T.x_OutOfRange (ok_init T) (hr.mono (by decide)) (takes_of rfl rfl rfl rfl) (by exact (pa_cons (pv 0) pa_nil))))
 pss_nil)
 (pss_cons (ps_set (i := 1) sc_distance_parts.nd rfl (Or.inl rfl) (by exact (pe_cl (ok__distance_symbol T) (hr.mono (by decide)) rfl (pa_cons (pv 0) pa_nil))))
 (pss_cons (ps_asg (pe_clS (ok_distance_base T) (hr.mono (by decide)) rfl (takes_of rfl rfl rfl rfl) (pa_cons (pv 1) pa_nil)) (pg_tup (by rfl) (pgs_cons (pg_name (i := 2) sc_distance_parts.nd rfl (Or.inl rfl)) (pgs_cons (pg_name (i := 3) sc_distance_parts.nd rfl (Or.inl rfl)) pgs_nil))))
 (pss_one (ps_ret (by exact (pe_tup (pa_cons (pv 1) (pa_cons (pv 2) (pa_cons (pe_op op_sub (pv 0) (pv 3)) pa_nil)))))))))), ?_⟩), gm, F.kp, F.bindsN (fun _ _ _ _ _ _ us hl => match us, hl with | [_], _ => rfl), .nil⟩
  · first | (obtain ⟨rfl, _⟩ := h; rfl) | (obtain ⟨_, rfl, _⟩ := h; rfl) | (obtain ⟨_, _, rfl, _⟩ := h; rfl) | (obtain ⟨_, _, _, rfl, _⟩ := h; rfl) | (obtain ⟨_, _, _, _, rfl, _⟩ := h; rfl) | (obtain ⟨_, _, _, _, _, rfl, _⟩ := h; rfl) | (obtain ⟨_, _, _, _, _, _, rfl, _⟩ := h; rfl) | (obtain ⟨_, _, _, _, _, _, _, rfl, _⟩ := h; rfl) | (obtain ⟨_, _, _, _, _, _, _, _, rfl, _⟩ := h; rfl)
  · obtain ⟨l, rfl, q, qe⟩ := h
    k_call_by "xs" st_distance_parts
    by_cases c : 1 ≤ l ∧ l ≤ 32768
    · have q := q c
      obtain ⟨c1, c2⟩ := c
      have hs := dSym_in c1 c2
      wtm_at "go"
      refine ⟨l, rfl, c1, c2, ?_⟩
      wtm_at "go"
      refine ⟨_, rfl, fun _ p hp => ?_, fun z => absurd hs z⟩
      wtm_at "go"
      refine ⟨rfl, ?_⟩
      wtm_at "go"
      exact q _ _ hp (by assumption)
    · have q := qe c
      by_cases c1 : 1 ≤ l
      · have c2 : ¬ l ≤ 32768 := fun z => c ⟨c1, z⟩
        wtm_at "go"
        exact bz T.x_OutOfRange q
      · wtm_at "go"
        exact bz T.x_OutOfRange q
/-- what the law's walk asks of a symbol -/
def lB2 (s : Int) : Int := 1 * 2 ^ ((s - 261) / 4 + 2).toNat + (s - 265) % 4 * (1 * 2 ^ ((s - 261) / 4).toNat) + 3
theorem lB2_eq {s : Int} (h : 265 ≤ s) (h2 : s ≠ 285) : lBa s = lB2 s := by
  unfold lBa lB2
  rw [if_neg h2, if_neg (by omega), Int.one_mul, Int.one_mul]
def dB2 (s : Int) : Int := 1 * 2 ^ ((s - 2) / 2 + 1).toNat + s % 2 * (1 * 2 ^ ((s - 2) / 2).toNat) + 1
theorem dB2_eq {s : Int} (h : 4 ≤ s) : dBa s = dB2 s := by
  unfold dBa dB2
  rw [if_neg (by omega), Int.one_mul, Int.one_mul]
theorem lB2_of {e b : Nat} (hb : b < 4) : lB2 (265 + 4 * e + b) = (2 ^ (e + 1) * (4 + b) : Nat) + 3 := by
  unfold lB2
  rw [show ((265 + 4 * (e : Int) + b - 261) / 4 + 2).toNat = (e + 1) + 2 by omega, show ((265 + 4 * (e : Int) + b - 261) / 4).toNat = e + 1 by omega, show (265 + 4 * (e : Int) + b - 265) % 4 = b by omega, Int.one_mul, Int.one_mul, Int.pow_add]
  have : ((2 ^ (e + 1) * (4 + b) : Nat) : Int) = 2 ^ (e + 1) * (4 + (b : Int)) := by norm_cast
  rw [this, Int.mul_add, Int.mul_comm (b : Int)]
  rfl
theorem dB2_of {e b : Nat} (hb : b < 2) : dB2 (4 + 2 * e + b) = (2 ^ (e + 1) * (2 + b) : Nat) + 1 := by
  unfold dB2
  rw [show ((4 + 2 * (e : Int) + b - 2) / 2 + 1).toNat = (e + 1) + 1 by omega, show ((4 + 2 * (e : Int) + b - 2) / 2).toNat = e + 1 by omega, show (4 + 2 * (e : Int) + b) % 2 = b by omega, Int.one_mul, Int.one_mul, Int.pow_add 2 (e + 1) 1]
  have : ((2 ^ (e + 1) * (2 + b) : Nat) : Int) = 2 ^ (e + 1) * (2 + (b : Int)) := by norm_cast
  rw [this, Int.mul_add, Int.mul_comm (b : Int)]
  rfl
theorem two_pows {c : Nat} {e e2 b b2 m m2 : Nat} (hb : b < 2 ^ c) (hb2 : b2 < 2 ^ c) (hm : m < 2 ^ e) (hm2 : m2 < 2 ^ e2) (h : 2 ^ e * (2 ^ c + b) + m = 2 ^ e2 * (2 ^ c + b2) + m2) : e = e2 ∧ b = b2 := by
  have up : ∀ {e b m : Nat}, b < 2 ^ c → m < 2 ^ e → 2 ^ (e + c) ≤ 2 ^ e * (2 ^ c + b) + m ∧ 2 ^ e * (2 ^ c + b) + m < 2 ^ (e + c + 1) := by
    intro e b m hb hm
    have h1 : 2 ^ e * (2 ^ c + b + 1) ≤ 2 ^ e * (2 ^ c + 2 ^ c) := Nat.mul_le_mul_left _ (by omega)
    rw [Nat.mul_add, Nat.mul_one] at h1
    have h2 : 2 ^ (e + c + 1) = 2 ^ e * (2 ^ c + 2 ^ c) := by rw [Nat.pow_succ, Nat.pow_add, Nat.mul_add]; omega
    have h3 : 2 ^ e * 2 ^ c ≤ 2 ^ e * (2 ^ c + b) := Nat.mul_le_mul_left _ (by omega)
    rw [Nat.pow_add, ← Nat.pow_add, h2, Nat.pow_add]
    exact ⟨by omega, by omega⟩
  have a1 := up hb hm
  have a2 := up hb2 hm2
  rw [h] at a1
  have ee : e = e2 := by
    rcases Nat.lt_trichotomy e e2 with l | l | l
    · have := Nat.pow_le_pow_right (n := 2) (by decide) (show e + c + 1 ≤ e2 + c by omega)
      omega
    · exact l
    · have := Nat.pow_le_pow_right (n := 2) (by decide) (show e2 + c + 1 ≤ e + c by omega)
      omega
  subst ee
  refine ⟨rfl, ?_⟩
  have d : ∀ {b m : Nat}, m < 2 ^ e → (2 ^ e * (2 ^ c + b) + m) / 2 ^ e = 2 ^ c + b := fun {b m} hm => by
    rw [Nat.mul_add_div (Nat.two_pow_pos e), Nat.div_eq_of_lt hm, Nat.add_zero]
  have := d (b := b) hm
  rw [h, d hm2] at this
  omega
/-- the walk stops at the symbol of the length, and nowhere before -/
theorem l_fit {l s : Int} (h : 11 ≤ l) (h2 : l ≤ 257) (s1 : 265 ≤ s) (s2 : s < 285) : (lB2 s ≤ l ∧ l < lB2 s + 1 * 2 ^ ((s - 261) / 4).toNat) ↔ s = lSym l := by
  obtain ⟨e, b, m, hb, he, hm, hl, hs⟩ := lSym_of h h2
  obtain ⟨e2, b2, hb2, he2⟩ : ∃ e2 b2 : Nat, b2 < 4 ∧ s = 265 + 4 * e2 + b2 := ⟨((s - 265) / 4).toNat, ((s - 265) % 4).toNat, by omega, by omega⟩
  rw [he2, lB2_of hb2, show ((265 + 4 * (e2 : Int) + b2 - 261) / 4).toNat = e2 + 1 by omega, hs, Int.one_mul]
  have pe : ((2 : Int) ^ (e2 + 1)) = ((2 ^ (e2 + 1) : Nat) : Int) := by norm_cast
  rw [pe, hl]
  constructor
  · rintro ⟨c1, c2⟩
    obtain ⟨m2, hm2⟩ : ∃ m2 : Nat, m2 < 2 ^ (e2 + 1) ∧ 2 ^ (e + 1) * (4 + b) + m = 2 ^ (e2 + 1) * (4 + b2) + m2 := ⟨2 ^ (e + 1) * (4 + b) + m - 2 ^ (e2 + 1) * (4 + b2), by omega, by omega⟩
    have := two_pows (c := 2) hb hb2 hm hm2.1 hm2.2
    omega
  · intro c
    obtain rfl : e2 = e := by omega
    obtain rfl : b2 = b := by omega
    omega
theorem d_fit {l s : Int} (h : 5 ≤ l) (h2 : l ≤ 32768) (s1 : 4 ≤ s) (s2 : s < 30) : (dB2 s ≤ l ∧ l < dB2 s + 1 * 2 ^ ((s - 2) / 2).toNat) ↔ s = dSym l := by
  obtain ⟨e, b, m, hb, he, hm, hl, hs⟩ := dSym_of h h2
  obtain ⟨e2, b2, hb2, he2⟩ : ∃ e2 b2 : Nat, b2 < 2 ∧ s = 4 + 2 * e2 + b2 := ⟨((s - 4) / 2).toNat, ((s - 4) % 2).toNat, by omega, by omega⟩
  rw [he2, dB2_of hb2, show ((4 + 2 * (e2 : Int) + b2 - 2) / 2).toNat = e2 + 1 by omega, hs, Int.one_mul]
  have pe : ((2 : Int) ^ (e2 + 1)) = ((2 ^ (e2 + 1) : Nat) : Int) := by norm_cast
  rw [pe, hl]
  constructor
  · rintro ⟨c1, c2⟩
    obtain ⟨m2, hm2⟩ : ∃ m2 : Nat, m2 < 2 ^ (e2 + 1) ∧ 2 ^ (e + 1) * (2 + b) + m = 2 ^ (e2 + 1) * (2 + b2) + m2 := ⟨2 ^ (e + 1) * (2 + b) + m - 2 ^ (e2 + 1) * (2 + b2), by omega, by omega⟩
    have := two_pows (c := 1) hb hb2 hm hm2.1 hm2.2
    omega
  · intro c
    obtain rfl : e2 = e := by omega
    obtain rfl : b2 = b := by omega
    omega


end
end K19

namespace K19
open PySem PySem.Spec PyProof.Rows L2 Bel
local macro_rules | `(tactic| wtm_at "xs") => `(tactic| simp only [x_next, x_seq, x_brk, x_cont, x_drop, x_ret, x_retN, x_if, sel_t, sel_f, selE_t, selE_f, selT_t, selT_f, selC_t, selC_f, x_test, x_tB, x_op, x_un, x_var, x_c, x_cb, x_nil, x_cons, x_rI, x_rI0, x_rU, x_rEq, x_rNe, x_rIxL, x_rIxT, x_rSlL, x_rCat, x_rRep, x_rApp, x_bm, x_bm0, x_sl, x_nopart, x_part, x_tup, x_lst, x_call, x_callS, x_asg, x_gname, x_gtup, x_gnil, x_gcons, x_gsub, x_setL, x_aug, x_ipI, x_ipC, x_bits, x_getL, x_augS, x_and, x_or, x_not, x_k, x_andV, x_orV, x_notV, x_ife, x_chain, x_for, x_ilist, x_itup, x_ienum, x_irng1, x_irng2, x_irev, x_lc, x_yes, wipe_nil, wipe_cons, List.map_cons, List.map_nil, x_misc, x_misc2, x_rz, lookup_at, Bool.not_true, Bool.not_false, decide_true, decide_false, not_true, not_false_eq_true, and_assoc, exists_and_left, exists_eq_left', exists_eq_left, exists_eq', exists_eq_right', exists_eq_right, V.int.injEq, V.ref.injEq, V.bl.injEq, V.str.injEq, List.cons.injEq, and_true, true_and, and_self, Option.some.injEq, List.cons_append, List.nil_append, List.append_nil, List.getElem?_cons_zero, List.getElem?_cons_succ, List.set_cons_zero, List.set_cons_succ, reduceCtorEq, false_and, and_false, exists_false, exists_const, or_false, false_or, scal_ii, scal_bb, scal_ss, List.length_cons, List.length_nil, Int.reduceToNat, Int.reducePow])
local macro_rules | `(tactic| k_call_by "xs" $h:term) => `(tactic| simp only [$h:term, x_next, x_seq, x_brk, x_cont, x_drop, x_ret, x_retN, x_if, sel_t, sel_f, selE_t, selE_f, selT_t, selT_f, selC_t, selC_f, x_test, x_tB, x_op, x_un, x_var, x_c, x_cb, x_nil, x_cons, x_rI, x_rI0, x_rU, x_rEq, x_rNe, x_rIxL, x_rIxT, x_rSlL, x_rCat, x_rRep, x_rApp, x_bm, x_bm0, x_sl, x_nopart, x_part, x_tup, x_lst, x_call, x_callS, x_asg, x_gname, x_gtup, x_gnil, x_gcons, x_gsub, x_setL, x_aug, x_ipI, x_ipC, x_bits, x_getL, x_augS, x_and, x_or, x_not, x_k, x_andV, x_orV, x_notV, x_ife, x_chain, x_for, x_ilist, x_itup, x_ienum, x_irng1, x_irng2, x_irev, x_lc, x_yes, wipe_nil, wipe_cons, List.map_cons, List.map_nil, x_misc, x_misc2, x_rz, lookup_at, Bool.not_true, Bool.not_false, decide_true, decide_false, not_true, not_false_eq_true, and_assoc, exists_and_left, exists_eq_left', exists_eq_left, exists_eq', exists_eq_right', exists_eq_right, V.int.injEq, V.ref.injEq, V.bl.injEq, V.str.injEq, List.cons.injEq, and_true, true_and, and_self, Option.some.injEq, List.cons_append, List.nil_append, List.append_nil, List.getElem?_cons_zero, List.getElem?_cons_succ, List.set_cons_zero, List.set_cons_succ, reduceCtorEq, false_and, and_false, exists_false, exists_const, or_false, false_or, scal_ii, scal_bb, scal_ss, List.length_cons, List.length_nil, Int.reduceToNat, Int.reducePow])
local macro_rules | `(tactic| wtm_at "hp") => `(tactic| first | (with_reducible assumption) | exact upd_same | (refine upd_keep (by with_reducible assumption) ?_; wtm_at "hp") | (refine Same.get (by with_reducible assumption) ?_; wtm_at "hp") | (refine upd_other (by first | (with_reducible assumption) | exact Ne.symm (by with_reducible assumption)) ?_; wtm_at "hp"))
local macro_rules | `(tactic| wtm_at "sq") => `(tactic| first | (with_reducible assumption) | exact SqL.of (by wtm_at "hp") | exact SqT.of (by wtm_at "hp") | (refine Same.seq (same_upd (by with_reducible assumption)) ?_; wtm_at "sq") | (refine Same.seq (by with_reducible assumption) ?_; wtm_at "sq") | (refine Same.seqT (same_upd (by with_reducible assumption)) ?_; wtm_at "sq") | (refine Same.seqT (by with_reducible assumption) ?_; wtm_at "sq"))
local macro_rules | `(tactic| wtm_at "cl") => `(tactic| first | (with_reducible assumption) | omega | (exact cmul_r (by omega) (by omega)) | (exact cmul_l (by omega) (by omega)) | (exact cdiv_ok (by omega) (by omega)) | (exact cpow_ok (by decide)) | (exact ⟨by omega, by omega, by omega⟩) | decide | (exact ⟨by omega, by omega⟩) | (simp only [List.length_append, List.length_map, List.length_cons, List.length_nil, rngL_len, sizeLine_eq]; omega) | wtm_at "hp" | wtm_at "sq")
local macro_rules | `(tactic| wtm_at "pf") => `(tactic| first | (with_reducible assumption) | omega | (simp only [List.length_append, List.length_map, List.length_cons, List.length_nil, rngL_len]; omega) | (with_reducible rfl) | (with_reducible trivial) | (with_reducible decide))
local macro_rules | `(tactic| wtm_at "st") => `(tactic| first | ((with_reducible refine g_at ?_); refine at_call (by wtm_at "sq") (by omega) (by omega) (fun _ _ => ?_)) | ((with_reducible refine g_row ?_); refine row_call (by wtm_at "hp") ?_) | ((with_reducible refine g_int ?_); refine int_call ?_) | ((with_reducible refine g_isi ?_); first | (refine isi_int rfl ?_) | (refine isi_lst rfl (by wtm_at "hp") ?_) | (refine isi_tup rfl (by wtm_at "hp") ?_)) | ((with_reducible refine g_ned ?_); refine ned_f (dq_lst (by wtm_at "sq")) (dq_lst (by wtm_at "sq")) ?_) | ((with_reducible refine g_eqd ?_); refine eqd_t (dq_lst (by wtm_at "sq")) (dq_lst (by wtm_at "sq")) ?_) | ((with_reducible refine g_tyv ?_); refine and_tyv (by wtm_at "sq") ?_) | ((with_reducible refine g_asq ?_); refine and_sq (by wtm_at "sq") ?_) | ((with_reducible refine g_lst ?_); refine ex_lst (by wtm_at "hp") ?_) | ((with_reducible refine g_or ?_); first | (refine ex_or (by wtm_at "sq") ?_) | (refine ex_ort (by wtm_at "sq") ?_)) | ((with_reducible refine g_sq ?_); refine ex_sq (by wtm_at "sq") ?_) | ((with_reducible refine g_sqt ?_); refine ex_sqt (by wtm_at "sq") ?_) | ((with_reducible refine gd_sel ?_); first | (refine sel_p (by wtm_at "pf") ?_) | (refine sel_n (by wtm_at "pf") ?_)) | ((with_reducible refine gn_sel ?_); first | (refine selN_p (by wtm_at "pf") ?_) | (refine selN_n (by wtm_at "pf") ?_)) | ((with_reducible refine gd_selT ?_); first | (refine selT_p (by wtm_at "pf") ?_) | (refine selT_n (by wtm_at "pf") ?_)) | ((with_reducible refine gn_selT ?_); first | (refine selTN_p (by wtm_at "pf") ?_) | (refine selTN_n (by wtm_at "pf") ?_)) | ((with_reducible refine gd_selE ?_); first | (refine selE_p (by wtm_at "pf") ?_) | (refine selE_n (by wtm_at "pf") ?_)) | ((with_reducible refine gn_selE ?_); first | (refine selEN_p (by wtm_at "pf") ?_) | (refine selEN_n (by wtm_at "pf") ?_)) | ((with_reducible refine g_xf ?_); refine xf_at rfl (by wtm_at "hp") ?_) | ((with_reducible refine g_atI ?_); refine ex_at (by first | exact rfl | exact atI_int (by omega) (by wtm_at "pf")) ?_) | ((with_reducible refine g_and ?_); refine And.intro (by wtm_at "cl") ?_) | ((with_reducible refine g_new ?_); intro _ _))
local macro_rules | `(tactic| wtm_at "go") => `(tactic| repeat (first | wtm_at "xs" | wtm_at "st"))
section
variable {P : Program} {w : World} {K : PySem.W.Frag} {mg : Str → Option Value} {base : Heap}
def sp__law_length_parts (K : PySem.W.Frag) : Sp := fun vs H Q _ => ∃ l : Int, vs = [.int l] ∧ 3 ≤ l ∧ l ≤ 258 ∧ ∀ p, H p = none → Q (.ref p) (upd H p (.tup ([lSym l, lEx (lSym l), l - lBa (lSym l)].map V.int)))
theorem ok__law_length_parts (T : Tx K mg) : Cl P w K mg base 1 "_law_length_parts" ["length"] (sp__law_length_parts K) [] := by
  obtain ⟨gm, fd, F⟩ := T.d__law_length_parts
  refine ⟨_, fd, [], F.ok sc__law_length_parts (fun vs H Q E h => ?_) (fun cdv A outer s H vs Q E hr h => ⟨_, (PSs.nox (pss_cons (ps_if (pt_cmpR op_eq (pv 0) pe_int (nomark _))
 (pss_one (ps_ret (by exact (pe_tup (pa_cons pe_int (pa_cons pe_int (pa_cons pe_int pa_nil)))))))
 pss_nil)
 (pss_cons (ps_if (pt_cmpR op_le (pv 0) pe_int (nomark _))
 (pss_one (ps_ret (by exact (pe_tup (pa_cons (pe_op op_add pe_int (pv 0)) (pa_cons pe_int (pa_cons pe_int pa_nil)))))))
 pss_nil)
 (pss_cons (ps_for PassesOwn.never rfl (pi_range2 rfl T.b_range (pa_cons pe_int (pa_cons pe_int pa_nil))) (pg_name (i := 1) sc__law_length_parts.nd rfl (Or.inl rfl))
 (pss_cons (ps_set (i := 2) sc__law_length_parts.nd rfl (Or.inl rfl) (by exact (pe_op op_fdiv (pe_op op_sub (pv 1) pe_int) pe_int)))
 (pss_cons (ps_set (i := 3) sc__law_length_parts.nd rfl (Or.inl rfl) (by exact (pe_op op_add (pe_op op_add (pe_op op_shl pe_int (pe_op op_add (pv 2) pe_int)) (pe_op op_mul (pe_op op_mod (pe_callTy call_int1 rfl T.b_int (by decide +kernel) (pa_cons (pe_op op_sub (pv 1) pe_int) pa_nil)) pe_int) (pe_op op_shl pe_int (pv 2)))) pe_int)))
 (pss_one (ps_if (pt_chain op_le op_lt (pv 3) (pv 0) (pe_op op_add (pv 3) (pe_op op_shl pe_int (pv 2))))
 (pss_one (ps_ret (by exact (pe_tup (pa_cons (pv 1) (pa_cons (pv 2) (pa_cons (pe_op op_sub (pv 0) (pv 3)) pa_nil)))))))
 pss_nil)))))
 (pss_one (ps_ret (by exact (pe_tup (pa_cons pe_int (pa_cons pe_int (pa_cons pe_int pa_nil))))))))))), ?_⟩), gm, F.kp, F.bindsN (fun _ _ _ _ _ _ us hl => match us, hl with | [_], _ => rfl), .nil⟩
  · first | (obtain ⟨rfl, _⟩ := h; rfl) | (obtain ⟨_, rfl, _⟩ := h; rfl) | (obtain ⟨_, _, rfl, _⟩ := h; rfl) | (obtain ⟨_, _, _, rfl, _⟩ := h; rfl) | (obtain ⟨_, _, _, _, rfl, _⟩ := h; rfl) | (obtain ⟨_, _, _, _, _, rfl, _⟩ := h; rfl) | (obtain ⟨_, _, _, _, _, _, rfl, _⟩ := h; rfl) | (obtain ⟨_, _, _, _, _, _, _, rfl, _⟩ := h; rfl) | (obtain ⟨_, _, _, _, _, _, _, _, rfl, _⟩ := h; rfl)
  · obtain ⟨l, rfl, h1, h2, q⟩ := h
    k_call_by "xs" st__law_length_parts
    by_cases c3 : l = 258
    · subst c3
      wtm_at "go"
      exact q _ (by assumption)
    by_cases c4 : l ≤ 10
    · have e1 : lSym l = l + 254 := by
        unfold lSym
        rw [if_neg c3, if_pos (by omega)]
      have e2 : lEx (lSym l) = 0 := by
        rw [e1]
        unfold lEx
        rw [if_neg (by omega), if_pos (by omega)]
      have e3 : l - lBa (lSym l) = 0 := by
        rw [e1]
        unfold lBa
        rw [if_neg (by omega), if_pos (by omega)]
        omega
      rw [e2, e3, e1, Int.add_comm l] at q
      wtm_at "go"
      exact q _ (by assumption)
    have c5 : 11 ≤ l := by omega
    have c6 : l ≤ 257 := by omega
    have hin : 265 ≤ lSym l ∧ lSym l < 285 := by
      obtain ⟨e, b, m, hb, he, _, _, hs⟩ := lSym_of c5 c6
      omega
    wtm_at "go"
    refine loop_range (fun i σ H' => ∃ y1 y2 y3, σ = [some (.int l), y1, y2, y3] ∧ H' = H ∧ (265 : Int) + i ≤ lSym l) ⟨none, none, none, rfl, rfl, by omega⟩ ?_ ?_
    · rintro i σ H' hi ⟨y1, y2, y3, rfl, rfl, hle⟩
      have hi2 : i < 20 := hi
      have fit := l_fit c5 c6 (s := 265 + (i : Int)) (by omega) (by omega)
      have ex : lEx (265 + (i : Int)) = (265 + (i : Int) - 261) / 4 := by
        unfold lEx
        rw [if_neg (by omega), if_neg (by omega)]
      have bb := lB2_eq (s := 265 + (i : Int)) (by omega) (by omega)
      unfold lB2 at fit bb
      wtm_at "go"
      refine selE_d (fun c => ?_) (fun c => ?_)
      · wtm_at "go"
        refine sel_d (fun d => ?_) (fun d => ?_)
        · have he := fit.mp ⟨c, d⟩
          rw [← he, ex, bb] at q
          wtm_at "go"
          exact q _ (by assumption)
        · have hne : ¬ (265 + (i : Int)) = lSym l := fun z => d (fit.mpr z).2
          wtm_at "go"
          omega
      · have hne : ¬ (265 + (i : Int)) = lSym l := fun z => c (fit.mpr z).1
        wtm_at "go"
        omega
    · rintro σ H' ⟨y1, y2, y3, rfl, rfl, hle⟩
      exact absurd (show (265 : Int) + ((285 : Int) - 265).toNat ≤ lSym l from hle) (by omega)
def sp__law_distance_parts (K : PySem.W.Frag) : Sp := fun vs H Q _ => ∃ l : Int, vs = [.int l] ∧ 1 ≤ l ∧ l ≤ 32768 ∧ ∀ p, H p = none → Q (.ref p) (upd H p (.tup ([dSym l, dEx (dSym l), l - dBa (dSym l)].map V.int)))
theorem ok__law_distance_parts (T : Tx K mg) : Cl P w K mg base 1 "_law_distance_parts" ["distance"] (sp__law_distance_parts K) [] := by
  obtain ⟨gm, fd, F⟩ := T.d__law_distance_parts
  refine ⟨_, fd, [], F.ok sc__law_distance_parts (fun vs H Q E h => ?_) (fun cdv A outer s H vs Q E hr h => ⟨_, (PSs.nox (pss_cons (ps_if (pt_cmpR op_le (pv 0) pe_int (nomark _))
 (pss_one (ps_ret (by exact (pe_tup (pa_cons (pe_op op_sub (pv 0) pe_int) (pa_cons pe_int (pa_cons pe_int pa_nil)))))))
 pss_nil)
 (pss_cons (ps_for PassesOwn.never rfl (pi_range2 rfl T.b_range (pa_cons pe_int (pa_cons pe_int pa_nil))) (pg_name (i := 1) sc__law_distance_parts.nd rfl (Or.inl rfl))
 (pss_cons (ps_set (i := 2) sc__law_distance_parts.nd rfl (Or.inl rfl) (by exact (pe_op op_fdiv (pe_op op_sub (pv 1) pe_int) pe_int)))
 (pss_cons (ps_set (i := 3) sc__law_distance_parts.nd rfl (Or.inl rfl) (by exact (pe_op op_add (pe_op op_add (pe_op op_shl pe_int (pe_op op_add (pv 2) pe_int)) (pe_op op_mul (pe_op op_mod (pe_callTy call_int1 rfl T.b_int (by decide +kernel) (pa_cons (pv 1) pa_nil)) pe_int) (pe_op op_shl pe_int (pv 2)))) pe_int)))
 (pss_one (ps_if (pt_chain op_le op_lt (pv 3) (pv 0) (pe_op op_add (pv 3) (pe_op op_shl pe_int (pv 2))))
 (pss_one (ps_ret (by exact (pe_tup (pa_cons (pv 1) (pa_cons (pv 2) (pa_cons (pe_op op_sub (pv 0) (pv 3)) pa_nil)))))))
 pss_nil)))))
 (pss_one (ps_ret (by exact (pe_tup (pa_cons pe_int (pa_cons pe_int (pa_cons pe_int pa_nil)))))))))), ?_⟩), gm, F.kp, F.bindsN (fun _ _ _ _ _ _ us hl => match us, hl with | [_], _ => rfl), .nil⟩
  · first | (obtain ⟨rfl, _⟩ := h; rfl) | (obtain ⟨_, rfl, _⟩ := h; rfl) | (obtain ⟨_, _, rfl, _⟩ := h; rfl) | (obtain ⟨_, _, _, rfl, _⟩ := h; rfl) | (obtain ⟨_, _, _, _, rfl, _⟩ := h; rfl) | (obtain ⟨_, _, _, _, _, rfl, _⟩ := h; rfl) | (obtain ⟨_, _, _, _, _, _, rfl, _⟩ := h; rfl) | (obtain ⟨_, _, _, _, _, _, _, rfl, _⟩ := h; rfl) | (obtain ⟨_, _, _, _, _, _, _, _, rfl, _⟩ := h; rfl)
  · obtain ⟨l, rfl, h1, h2, q⟩ := h
    k_call_by "xs" st__law_distance_parts
    by_cases c4 : l ≤ 4
    · have e1 : dSym l = l - 1 := by
        unfold dSym
        rw [if_pos (by omega)]
      have e2 : dEx (dSym l) = 0 := by
        rw [e1]
        unfold dEx
        rw [if_pos (by omega)]
      have e3 : l - dBa (dSym l) = 0 := by
        rw [e1]
        unfold dBa
        rw [if_pos (by omega)]
        omega
      rw [e2, e3, e1] at q
      wtm_at "go"
      exact q _ (by assumption)
    have c5 : 5 ≤ l := by omega
    have hin : 4 ≤ dSym l ∧ dSym l < 30 := by
      obtain ⟨e, b, m, hb, he, _, _, hs⟩ := dSym_of c5 h2
      omega
    wtm_at "go"
    refine loop_range (fun i σ H' => ∃ y1 y2 y3, σ = [some (.int l), y1, y2, y3] ∧ H' = H ∧ (4 : Int) + i ≤ dSym l) ⟨none, none, none, rfl, rfl, by omega⟩ ?_ ?_
    · rintro i σ H' hi ⟨y1, y2, y3, rfl, rfl, hle⟩
      have hi2 : i < 26 := hi
      have fit := d_fit c5 h2 (s := 4 + (i : Int)) (by omega) (by omega)
      have ex : dEx (4 + (i : Int)) = (4 + (i : Int) - 2) / 2 := by
        unfold dEx
        rw [if_neg (by omega)]
      have bb := dB2_eq (s := 4 + (i : Int)) (by omega)
      unfold dB2 at fit bb
      wtm_at "go"
      refine selE_d (fun c => ?_) (fun c => ?_)
      · wtm_at "go"
        refine sel_d (fun d => ?_) (fun d => ?_)
        · have he := fit.mp ⟨c, d⟩
          rw [← he, ex, bb] at q
          wtm_at "go"
          exact q _ (by assumption)
        · have hne : ¬ (4 + (i : Int)) = dSym l := fun z => d (fit.mpr z).2
          wtm_at "go"
          omega
      · have hne : ¬ (4 + (i : Int)) = dSym l := fun z => c (fit.mpr z).1
        wtm_at "go"
        omega
    · rintro σ H' ⟨y1, y2, y3, rfl, rfl, hle⟩
      exact absurd (show (4 : Int) + ((30 : Int) - 4).toNat ≤ dSym l from hle) (by omega)


end
end K19

namespace K19
open PySem PySem.Spec PyProof.Rows L2 Bel
local macro_rules | `(tactic| wtm_at "xs") => `(tactic| simp only [x_next, x_seq, x_brk, x_cont, x_drop, x_ret, x_retN, x_if, sel_t, sel_f, selE_t, selE_f, selT_t, selT_f, selC_t, selC_f, x_test, x_tB, x_op, x_un, x_var, x_c, x_cb, x_nil, x_cons, x_rI, x_rI0, x_rU, x_rEq, x_rNe, x_rIxL, x_rIxT, x_rSlL, x_rCat, x_rRep, x_rApp, x_bm, x_bm0, x_sl, x_nopart, x_part, x_tup, x_lst, x_call, x_callS, x_asg, x_gname, x_gtup, x_gnil, x_gcons, x_gsub, x_setL, x_aug, x_ipI, x_ipC, x_bits, x_getL, x_augS, x_and, x_or, x_not, x_k, x_andV, x_orV, x_notV, x_ife, x_chain, x_for, x_ilist, x_itup, x_ienum, x_irng1, x_irng2, x_irev, x_lc, x_yes, wipe_nil, wipe_cons, List.map_cons, List.map_nil, x_misc, x_misc2, x_rz, lookup_at, Bool.not_true, Bool.not_false, decide_true, decide_false, not_true, not_false_eq_true, and_assoc, exists_and_left, exists_eq_left', exists_eq_left, exists_eq', exists_eq_right', exists_eq_right, V.int.injEq, V.ref.injEq, V.bl.injEq, V.str.injEq, List.cons.injEq, and_true, true_and, and_self, Option.some.injEq, List.cons_append, List.nil_append, List.append_nil, List.getElem?_cons_zero, List.getElem?_cons_succ, List.set_cons_zero, List.set_cons_succ, reduceCtorEq, false_and, and_false, exists_false, exists_const, or_false, false_or, scal_ii, scal_bb, scal_ss, List.length_cons, List.length_nil, Int.reduceToNat, Int.reducePow])
local macro_rules | `(tactic| k_call_by "xs" $h:term) => `(tactic| simp only [$h:term, x_next, x_seq, x_brk, x_cont, x_drop, x_ret, x_retN, x_if, sel_t, sel_f, selE_t, selE_f, selT_t, selT_f, selC_t, selC_f, x_test, x_tB, x_op, x_un, x_var, x_c, x_cb, x_nil, x_cons, x_rI, x_rI0, x_rU, x_rEq, x_rNe, x_rIxL, x_rIxT, x_rSlL, x_rCat, x_rRep, x_rApp, x_bm, x_bm0, x_sl, x_nopart, x_part, x_tup, x_lst, x_call, x_callS, x_asg, x_gname, x_gtup, x_gnil, x_gcons, x_gsub, x_setL, x_aug, x_ipI, x_ipC, x_bits, x_getL, x_augS, x_and, x_or, x_not, x_k, x_andV, x_orV, x_notV, x_ife, x_chain, x_for, x_ilist, x_itup, x_ienum, x_irng1, x_irng2, x_irev, x_lc, x_yes, wipe_nil, wipe_cons, List.map_cons, List.map_nil, x_misc, x_misc2, x_rz, lookup_at, Bool.not_true, Bool.not_false, decide_true, decide_false, not_true, not_false_eq_true, and_assoc, exists_and_left, exists_eq_left', exists_eq_left, exists_eq', exists_eq_right', exists_eq_right, V.int.injEq, V.ref.injEq, V.bl.injEq, V.str.injEq, List.cons.injEq, and_true, true_and, and_self, Option.some.injEq, List.cons_append, List.nil_append, List.append_nil, List.getElem?_cons_zero, List.getElem?_cons_succ, List.set_cons_zero, List.set_cons_succ, reduceCtorEq, false_and, and_false, exists_false, exists_const, or_false, false_or, scal_ii, scal_bb, scal_ss, List.length_cons, List.length_nil, Int.reduceToNat, Int.reducePow])
local macro_rules | `(tactic| wtm_at "hp") => `(tactic| first | (with_reducible assumption) | exact upd_same | (refine upd_keep (by with_reducible assumption) ?_; wtm_at "hp") | (refine Same.get (by with_reducible assumption) ?_; wtm_at "hp") | (refine upd_other (by first | (with_reducible assumption) | exact Ne.symm (by with_reducible assumption)) ?_; wtm_at "hp"))
local macro_rules | `(tactic| wtm_at "sq") => `(tactic| first | (with_reducible assumption) | exact SqL.of (by wtm_at "hp") | exact SqT.of (by wtm_at "hp") | (refine Same.seq (same_upd (by with_reducible assumption)) ?_; wtm_at "sq") | (refine Same.seq (by with_reducible assumption) ?_; wtm_at "sq") | (refine Same.seqT (same_upd (by with_reducible assumption)) ?_; wtm_at "sq") | (refine Same.seqT (by with_reducible assumption) ?_; wtm_at "sq"))
local macro_rules | `(tactic| wtm_at "cl") => `(tactic| first | (with_reducible assumption) | omega | (exact cmul_r (by omega) (by omega)) | (exact cmul_l (by omega) (by omega)) | (exact cdiv_ok (by omega) (by omega)) | (exact cpow_ok (by decide)) | (exact ⟨by omega, by omega, by omega⟩) | decide | (exact ⟨by omega, by omega⟩) | (simp only [List.length_append, List.length_map, List.length_cons, List.length_nil, rngL_len, sizeLine_eq]; omega) | wtm_at "hp" | wtm_at "sq")
local macro_rules | `(tactic| wtm_at "pf") => `(tactic| first | (with_reducible assumption) | omega | (simp only [List.length_append, List.length_map, List.length_cons, List.length_nil, rngL_len]; omega) | (with_reducible rfl) | (with_reducible trivial) | (with_reducible decide))
local macro_rules | `(tactic| wtm_at "st") => `(tactic| first | ((with_reducible refine g_at ?_); refine at_call (by wtm_at "sq") (by omega) (by omega) (fun _ _ => ?_)) | ((with_reducible refine g_row ?_); refine row_call (by wtm_at "hp") ?_) | ((with_reducible refine g_int ?_); refine int_call ?_) | ((with_reducible refine g_isi ?_); first | (refine isi_int rfl ?_) | (refine isi_lst rfl (by wtm_at "hp") ?_) | (refine isi_tup rfl (by wtm_at "hp") ?_)) | ((with_reducible refine g_ned ?_); refine ned_f (dq_lst (by wtm_at "sq")) (dq_lst (by wtm_at "sq")) ?_) | ((with_reducible refine g_eqd ?_); refine eqd_t (dq_lst (by wtm_at "sq")) (dq_lst (by wtm_at "sq")) ?_) | ((with_reducible refine g_tyv ?_); refine and_tyv (by wtm_at "sq") ?_) | ((with_reducible refine g_asq ?_); refine and_sq (by wtm_at "sq") ?_) | ((with_reducible refine g_lst ?_); refine ex_lst (by wtm_at "hp") ?_) | ((with_reducible refine g_or ?_); first | (refine ex_or (by wtm_at "sq") ?_) | (refine ex_ort (by wtm_at "sq") ?_)) | ((with_reducible refine g_sq ?_); refine ex_sq (by wtm_at "sq") ?_) | ((with_reducible refine g_sqt ?_); refine ex_sqt (by wtm_at "sq") ?_) | ((with_reducible refine gd_sel ?_); first | (refine sel_p (by wtm_at "pf") ?_) | (refine sel_n (by wtm_at "pf") ?_)) | ((with_reducible refine gn_sel ?_); first | (refine selN_p (by wtm_at "pf") ?_) | (refine selN_n (by wtm_at "pf") ?_)) | ((with_reducible refine gd_selT ?_); first | (refine selT_p (by wtm_at "pf") ?_) | (refine selT_n (by wtm_at "pf") ?_)) | ((with_reducible refine gn_selT ?_); first | (refine selTN_p (by wtm_at "pf") ?_) | (refine selTN_n (by wtm_at "pf") ?_)) | ((with_reducible refine gd_selE ?_); first | (refine selE_p (by wtm_at "pf") ?_) | (refine selE_n (by wtm_at "pf") ?_)) | ((with_reducible refine gn_selE ?_); first | (refine selEN_p (by wtm_at "pf") ?_) | (refine selEN_n (by wtm_at "pf") ?_)) | ((with_reducible refine g_xf ?_); refine xf_at rfl (by wtm_at "hp") ?_) | ((with_reducible refine g_atI ?_); refine ex_at (by first | exact rfl | exact atI_int (by omega) (by wtm_at "pf")) ?_) | ((with_reducible refine g_and ?_); refine And.intro (by wtm_at "cl") ?_) | ((with_reducible refine g_new ?_); intro _ _))
local macro_rules | `(tactic| wtm_at "go") => `(tactic| repeat (first | wtm_at "xs" | wtm_at "st"))
section
variable {P : Program} {w : World} {K : PySem.W.Frag} {mg : Str → Option Value} {base : Heap}
/-! ### tokens: what they make -/
/-- n times the item that lies d back -/
def reps (h : List Int) (d : Nat) : Nat → List Int
  | 0 => h
  | n + 1 => reps h d n ++ [(reps h d n).getD ((reps h d n).length - d) 0]
theorem reps_len {h : List Int} {d : Nat} : ∀ n, (reps h d n).length = h.length + n
  | 0 => rfl
  | n + 1 => by
    show (reps h d n ++ [_]).length = _
    rw [List.length_append, List.length_singleton, reps_len n]
    rfl
def one (h : List Int) : List Int → List Int
  | [x] => h ++ [x]
  | [l, d] => reps h d.toNat l.toNat
  | _ => h
def expd (h : List Int) (ts : List (List Int)) : List Int := ts.foldl one h
def size1 (n : Nat) : List Int → Nat
  | [_] => n + 1
  | [l, _] => n + l.toNat
  | _ => n
def sizes (n : Nat) (ts : List (List Int)) : Nat := ts.foldl size1 n
/-- the token may stand behind n bytes -/
def fits (n : Nat) : List Int → Prop
  | [_] => True
  | [l, d] => 0 ≤ l ∧ l ≤ 300 ∧ 1 ≤ d ∧ d ≤ n
  | _ => False
def Legal : Nat → List (List Int) → Prop
  | _, [] => True
  | n, t :: ts => fits n t ∧ Legal (size1 n t) ts
theorem one_len {h : List Int} : ∀ t, (one h t).length = size1 h.length t
  | [] => rfl
  | [x] => by
    show (h ++ [x]).length = _
    rw [List.length_append]
    rfl
  | [l, d] => reps_len _
  | _ :: _ :: _ :: _ => rfl
theorem run_len : ∀ (ts : List (List Int)) (h : List Int), (expd h ts).length = sizes h.length ts
  | [], _ => rfl
  | t :: ts, h => by
    show (expd (one h t) ts).length = sizes (size1 h.length t) ts
    rw [run_len ts, one_len]
theorem size1_ge (n : Nat) : ∀ t, n ≤ size1 n t
  | [] => Nat.le_refl n
  | [_] => Nat.le_succ n
  | [_, _] => Nat.le_add_right _ _
  | _ :: _ :: _ :: _ => Nat.le_refl n
theorem sizes_ge : ∀ (ts : List (List Int)) (n : Nat), n ≤ sizes n ts
  | [], n => Nat.le_refl n
  | t :: ts, n => Nat.le_trans (size1_ge n t) (sizes_ge ts _)
theorem size1_mono {n m : Nat} (h : n ≤ m) : ∀ t, size1 n t ≤ size1 m t
  | [] => h
  | [_] => Nat.succ_le_succ h
  | [_, _] => Nat.add_le_add_right h _
  | _ :: _ :: _ :: _ => h
theorem fits_mono {n m : Nat} (h : n ≤ m) : ∀ {t}, fits n t → fits m t
  | [], f => f
  | [_], f => f
  | [_, _], ⟨a, b, c, d⟩ => ⟨a, b, c, Int.le_trans d (Int.ofNat_le.mpr h)⟩
  | _ :: _ :: _ :: _, f => f
theorem Legal.mono : ∀ {ts : List (List Int)} {n m : Nat}, n ≤ m → Legal n ts → Legal m ts
  | [], _, _, _, _ => trivial
  | t :: ts, n, m, h, ⟨f, g⟩ => ⟨fits_mono h f, Legal.mono (size1_mono h t) g⟩
theorem legal_append : ∀ {ts us : List (List Int)} {n : Nat}, Legal n (ts ++ us) ↔ Legal n ts ∧ Legal (sizes n ts) us
  | [], us, n => ⟨fun h => ⟨trivial, h⟩, fun h => h.2⟩
  | t :: ts, us, n => by
    show fits n t ∧ Legal (size1 n t) (ts ++ us) ↔ (fits n t ∧ Legal (size1 n t) ts) ∧ Legal (sizes (size1 n t) ts) us
    rw [legal_append, and_assoc]
theorem Legal.at {ts : List (List Int)} {n i : Nat} {t : List Int} (h : Legal n ts) (e : ts[i]? = some t) : fits (sizes n (ts.take i)) t := by
  induction ts generalizing n i with
  | nil => cases e
  | cons u r ih =>
    cases i with
    | zero =>
      cases e
      exact h.1
    | succ i => exact ih h.2 e
theorem Legal.take {ts : List (List Int)} {n : Nat} (h : Legal n ts) (i : Nat) : Legal n (ts.take i) := by
  rw [← List.take_append_drop i ts] at h
  exact (legal_append.mp h).1
theorem size1_le {n : Nat} : ∀ {t}, fits n t → size1 n t ≤ n + 300
  | [], f => f.elim
  | [_], _ => by show n + 1 ≤ n + 300; omega
  | [l, _], f => by
    have := f.2.1
    show n + l.toNat ≤ n + 300
    omega
  | _ :: _ :: _ :: _, f => f.elim
theorem sizes_le : ∀ {ts : List (List Int)} {n : Nat}, Legal n ts → sizes n ts ≤ n + 300 * ts.length
  | [], n, _ => Nat.le_refl n
  | t :: ts, n, ⟨f, g⟩ => by
    have a := sizes_le g
    have b := size1_le f
    show sizes (size1 n t) ts ≤ n + 300 * (ts.length + 1)
    omega
theorem take_snoc {α : Type} {xs : List α} {i : Nat} {x : α} (h : xs[i]? = some x) : xs.take (i + 1) = xs.take i ++ [x] := by
  rw [List.take_add_one, h]
  rfl
theorem run_snoc {h : List Int} {ts : List (List Int)} {i : Nat} {t : List Int} (e : ts[i]? = some t) : expd h (ts.take (i + 1)) = one (expd h (ts.take i)) t := by
  rw [take_snoc e]
  unfold expd
  rw [List.foldl_append]
  rfl
theorem fits_cases {n : Nat} : ∀ {t}, fits n t → (∃ x, t = [x]) ∨ ∃ l d : Nat, t = [(l : Int), (d : Int)] ∧ l ≤ 300 ∧ 1 ≤ d ∧ d ≤ n
  | [], f => f.elim
  | [x], _ => .inl ⟨x, rfl⟩
  | [l, d], ⟨a, b, c, e⟩ => .inr ⟨l.toNat, d.toNat, by rw [Int.toNat_of_nonneg a, Int.toNat_of_nonneg (by omega)], by omega, by omega, by omega⟩
  | _ :: _ :: _ :: _, f => f.elim
/-- the list a of tokens in the heap -/
def Tk (K : PySem.W.Frag) (H : Hp) (a : Addr) (ts : List (List Int)) : Prop := ∃ vs, H a = some (.lst vs) ∧ TkAll H vs ts
def Sq (K : PySem.W.Frag) (H : Hp) (b : Addr) (ds : List Int) : Prop := SqL K H b (ds.map V.int) ∨ SqT K H b (ds.map V.int)


end
end K19

namespace K19
open PySem PySem.Spec PyProof.Rows L2 Bel
local macro_rules | `(tactic| wtm_at "xs") => `(tactic| simp only [x_next, x_seq, x_brk, x_cont, x_drop, x_ret, x_retN, x_if, sel_t, sel_f, selE_t, selE_f, selT_t, selT_f, selC_t, selC_f, x_test, x_tB, x_op, x_un, x_var, x_c, x_cb, x_nil, x_cons, x_rI, x_rI0, x_rU, x_rEq, x_rNe, x_rIxL, x_rIxT, x_rSlL, x_rCat, x_rRep, x_rApp, x_bm, x_bm0, x_sl, x_nopart, x_part, x_tup, x_lst, x_call, x_callS, x_asg, x_gname, x_gtup, x_gnil, x_gcons, x_gsub, x_setL, x_aug, x_ipI, x_ipC, x_bits, x_getL, x_augS, x_and, x_or, x_not, x_k, x_andV, x_orV, x_notV, x_ife, x_chain, x_for, x_ilist, x_itup, x_ienum, x_irng1, x_irng2, x_irev, x_lc, x_yes, wipe_nil, wipe_cons, List.map_cons, List.map_nil, x_misc, x_misc2, x_rz, lookup_at, Bool.not_true, Bool.not_false, decide_true, decide_false, not_true, not_false_eq_true, and_assoc, exists_and_left, exists_eq_left', exists_eq_left, exists_eq', exists_eq_right', exists_eq_right, V.int.injEq, V.ref.injEq, V.bl.injEq, V.str.injEq, List.cons.injEq, and_true, true_and, and_self, Option.some.injEq, List.cons_append, List.nil_append, List.append_nil, List.getElem?_cons_zero, List.getElem?_cons_succ, List.set_cons_zero, List.set_cons_succ, reduceCtorEq, false_and, and_false, exists_false, exists_const, or_false, false_or, scal_ii, scal_bb, scal_ss, List.length_cons, List.length_nil, Int.reduceToNat, Int.reducePow])
local macro_rules | `(tactic| k_call_by "xs" $h:term) => `(tactic| simp only [$h:term, x_next, x_seq, x_brk, x_cont, x_drop, x_ret, x_retN, x_if, sel_t, sel_f, selE_t, selE_f, selT_t, selT_f, selC_t, selC_f, x_test, x_tB, x_op, x_un, x_var, x_c, x_cb, x_nil, x_cons, x_rI, x_rI0, x_rU, x_rEq, x_rNe, x_rIxL, x_rIxT, x_rSlL, x_rCat, x_rRep, x_rApp, x_bm, x_bm0, x_sl, x_nopart, x_part, x_tup, x_lst, x_call, x_callS, x_asg, x_gname, x_gtup, x_gnil, x_gcons, x_gsub, x_setL, x_aug, x_ipI, x_ipC, x_bits, x_getL, x_augS, x_and, x_or, x_not, x_k, x_andV, x_orV, x_notV, x_ife, x_chain, x_for, x_ilist, x_itup, x_ienum, x_irng1, x_irng2, x_irev, x_lc, x_yes, wipe_nil, wipe_cons, List.map_cons, List.map_nil, x_misc, x_misc2, x_rz, lookup_at, Bool.not_true, Bool.not_false, decide_true, decide_false, not_true, not_false_eq_true, and_assoc, exists_and_left, exists_eq_left', exists_eq_left, exists_eq', exists_eq_right', exists_eq_right, V.int.injEq, V.ref.injEq, V.bl.injEq, V.str.injEq, List.cons.injEq, and_true, true_and, and_self, Option.some.injEq, List.cons_append, List.nil_append, List.append_nil, List.getElem?_cons_zero, List.getElem?_cons_succ, List.set_cons_zero, List.set_cons_succ, reduceCtorEq, false_and, and_false, exists_false, exists_const, or_false, false_or, scal_ii, scal_bb, scal_ss, List.length_cons, List.length_nil, Int.reduceToNat, Int.reducePow])
local macro_rules | `(tactic| wtm_at "hp") => `(tactic| first | (with_reducible assumption) | exact upd_same | (refine upd_keep (by with_reducible assumption) ?_; wtm_at "hp") | (refine Same.get (by with_reducible assumption) ?_; wtm_at "hp") | (refine upd_other (by first | (with_reducible assumption) | exact Ne.symm (by with_reducible assumption)) ?_; wtm_at "hp"))
local macro_rules | `(tactic| wtm_at "sq") => `(tactic| first | (with_reducible assumption) | exact SqL.of (by wtm_at "hp") | exact SqT.of (by wtm_at "hp") | (refine Same.seq (same_upd (by with_reducible assumption)) ?_; wtm_at "sq") | (refine Same.seq (by with_reducible assumption) ?_; wtm_at "sq") | (refine Same.seqT (same_upd (by with_reducible assumption)) ?_; wtm_at "sq") | (refine Same.seqT (by with_reducible assumption) ?_; wtm_at "sq"))
local macro_rules | `(tactic| wtm_at "cl") => `(tactic| first | (with_reducible assumption) | omega | (exact cmul_r (by omega) (by omega)) | (exact cmul_l (by omega) (by omega)) | (exact cdiv_ok (by omega) (by omega)) | (exact cpow_ok (by decide)) | (exact ⟨by omega, by omega, by omega⟩) | decide | (exact ⟨by omega, by omega⟩) | (simp only [List.length_append, List.length_map, List.length_cons, List.length_nil, rngL_len, sizeLine_eq]; omega) | wtm_at "hp" | wtm_at "sq")
local macro_rules | `(tactic| wtm_at "pf") => `(tactic| first | (with_reducible assumption) | omega | (simp only [List.length_append, List.length_map, List.length_cons, List.length_nil, rngL_len]; omega) | (with_reducible rfl) | (with_reducible trivial) | (with_reducible decide))
local macro_rules | `(tactic| wtm_at "st") => `(tactic| first | ((with_reducible refine g_at ?_); refine at_call (by wtm_at "sq") (by omega) (by omega) (fun _ _ => ?_)) | ((with_reducible refine g_row ?_); refine row_call (by wtm_at "hp") ?_) | ((with_reducible refine g_int ?_); refine int_call ?_) | ((with_reducible refine g_isi ?_); first | (refine isi_int rfl ?_) | (refine isi_lst rfl (by wtm_at "hp") ?_) | (refine isi_tup rfl (by wtm_at "hp") ?_)) | ((with_reducible refine g_ned ?_); refine ned_f (dq_lst (by wtm_at "sq")) (dq_lst (by wtm_at "sq")) ?_) | ((with_reducible refine g_eqd ?_); refine eqd_t (dq_lst (by wtm_at "sq")) (dq_lst (by wtm_at "sq")) ?_) | ((with_reducible refine g_tyv ?_); refine and_tyv (by wtm_at "sq") ?_) | ((with_reducible refine g_asq ?_); refine and_sq (by wtm_at "sq") ?_) | ((with_reducible refine g_lst ?_); refine ex_lst (by wtm_at "hp") ?_) | ((with_reducible refine g_or ?_); first | (refine ex_or (by wtm_at "sq") ?_) | (refine ex_ort (by wtm_at "sq") ?_)) | ((with_reducible refine g_sq ?_); refine ex_sq (by wtm_at "sq") ?_) | ((with_reducible refine g_sqt ?_); refine ex_sqt (by wtm_at "sq") ?_) | ((with_reducible refine gd_sel ?_); first | (refine sel_p (by wtm_at "pf") ?_) | (refine sel_n (by wtm_at "pf") ?_)) | ((with_reducible refine gn_sel ?_); first | (refine selN_p (by wtm_at "pf") ?_) | (refine selN_n (by wtm_at "pf") ?_)) | ((with_reducible refine gd_selT ?_); first | (refine selT_p (by wtm_at "pf") ?_) | (refine selT_n (by wtm_at "pf") ?_)) | ((with_reducible refine gn_selT ?_); first | (refine selTN_p (by wtm_at "pf") ?_) | (refine selTN_n (by wtm_at "pf") ?_)) | ((with_reducible refine gd_selE ?_); first | (refine selE_p (by wtm_at "pf") ?_) | (refine selE_n (by wtm_at "pf") ?_)) | ((with_reducible refine gn_selE ?_); first | (refine selEN_p (by wtm_at "pf") ?_) | (refine selEN_n (by wtm_at "pf") ?_)) | ((with_reducible refine g_xf ?_); refine xf_at rfl (by wtm_at "hp") ?_) | ((with_reducible refine g_atI ?_); refine ex_at (by first | exact rfl | exact atI_int (by omega) (by wtm_at "pf")) ?_) | ((with_reducible refine g_and ?_); refine And.intro (by wtm_at "cl") ?_) | ((with_reducible refine g_new ?_); intro _ _))
local macro_rules | `(tactic| wtm_at "go") => `(tactic| repeat (first | wtm_at "xs" | wtm_at "st"))
section
variable {P : Program} {w : World} {K : PySem.W.Frag} {mg : Str → Option Value} {base : Heap}
theorem three_or {k : Int} (h0 : 0 ≤ k) (h1 : k < 2) : ∃ m : Int, 0 < m ∧ m ≤ 256 ∧ atI [V.int 3, V.int 256] k = some (.int m) := by
  rcases (show k = 0 ∨ k = 1 by omega) with rfl | rfl
  · exact ⟨3, by decide, by decide, rfl⟩
  · exact ⟨256, by decide, by decide, rfl⟩
theorem tk_push {H G : Hp} {us : List V} {ts : List (List Int)} {pt p : Addr} {t : List Int} (hT : TkAll H us ts) (s : Same H G) (hpt : G pt = none) (hp : G p = some (.lst us)) : TkAll (upd (upd G pt (.tup (t.map V.int))) p (.lst (us ++ [.ref pt]))) (us ++ [.ref pt]) (ts ++ [t]) :=
  (((hT.same s).same (same_upd hpt)).append (.cons upd_same .nil)).put (upd_keep hpt hp)
/-- a token as the document has it -/
def okTok : List Int → Prop
  | [x] => 0 ≤ x ∧ x < 256
  | [l, d] => 3 ≤ l ∧ l ≤ 258 ∧ 1 ≤ d ∧ d ≤ 32768
  | _ => False
theorem okTok_snoc {ts : List (List Int)} {t : List Int} (h : ∀ t ∈ ts, okTok t) (g : okTok t) : ∀ u ∈ ts ++ [t], okTok u := by
  intro u hu
  rcases List.mem_append.mp hu with m | m
  · exact h u m
  · rw [List.mem_singleton.mp m]
    exact g
def sp__law_tokens (K : PySem.W.Frag) : Sp := fun vs H Q _ => ∃ (a : Addr) (ds : List Int) (first : Int) (many known : Nat), vs = [.ref a, .int first, .int (many : Nat), .int (known : Nat)] ∧ SqL K H a (ds.map V.int) ∧ 0 ≤ first ∧ many ≤ 50 ∧ known ≤ 5000 ∧
  ∀ ts p H', Same H H' → H p = none → Tk K H' p ts → ts.length = many → Legal known ts → (∀ t ∈ ts, okTok t) → Q (.ref p) H'
theorem sizes_snoc {n : Nat} {ts : List (List Int)} {t : List Int} : sizes n (ts ++ [t]) = size1 (sizes n ts) t := by
  unfold sizes
  rw [List.foldl_append]
  rfl
theorem ok__law_tokens (T : Tx K mg) : Cl P w K mg base 2 "_law_tokens" ["draws", "first", "many", "known"] (sp__law_tokens K) [] := by
  obtain ⟨gm, fd, F⟩ := T.d__law_tokens
  refine ⟨_, fd, [], F.ok sc__law_tokens (fun vs H Q E h => ?_) (fun cdv A outer s H vs Q E hr h => ⟨_, (PSs.nox (pss_cons (ps_set (i := 4) sc__law_tokens.nd rfl (Or.inl rfl) (by exact (pe_lst pa_nil)))
 (pss_cons (ps_set (i := 5) sc__law_tokens.nd rfl (Or.inl rfl) (by exact (pv 3)))
 (pss_cons (ps_for PassesOwn.never rfl (pi_range1 rfl T.b_range (pa_cons (pv 2) pa_nil)) (pg_name (i := 6) sc__law_tokens.nd rfl (Or.inl rfl))
 (pss_cons (ps_set (i := 7) sc__law_tokens.nd rfl (Or.inl rfl) (by exact (pe_cl (ok__law_at T) (hr.mono (by decide)) rfl (pa_cons (pv 0) (pa_cons (pe_op op_add (pv 1) (pe_op op_mul pe_int (pv 6))) (pa_cons pe_int pa_nil))))))
 (pss_one (ps_if (PW.pt (pw_or (pt_cmpR op_lt (pv 7) pe_int (nomark _)) (pw_or1 (pt_cmpR op_eq (pv 5) pe_int (nomark _)))))
 (pss_cons (ps_expr (pe_bm PySem.F.plainAttrs_list PySem.F.slot_list_append PySem.F.type_list_append mt_append (pv 4) (pa_cons (pe_tup (pa_cons (pe_cl (ok__law_at T) (hr.mono (by decide)) rfl (pa_cons (pv 0) (pa_cons (pe_op op_add (pe_op op_add (pv 1) (pe_op op_mul pe_int (pv 6))) pe_int) (pa_cons (pe_ix (ixl K) (pe_lst (pa_cons pe_int (pa_cons pe_int pa_nil))) (pe_cl (ok__law_at T) (hr.mono (by decide)) rfl (pa_cons (pv 0) (pa_cons (pv 1) (pa_cons pe_int pa_nil)))) (fun _ _ => rfl)) pa_nil)))) pa_nil)) pa_nil)))
 (pss_one (ps_set (i := 5) sc__law_tokens.nd rfl (Or.inl rfl) (by exact (pe_op op_add (pv 5) pe_int)))))
 (pss_cons (ps_set (i := 8) sc__law_tokens.nd rfl (Or.inl rfl) (by exact (pe_op op_add pe_int (pe_cl (ok__law_at T) (hr.mono (by decide)) rfl (pa_cons (pv 0) (pa_cons (pe_op op_add (pe_op op_add (pv 1) (pe_op op_mul pe_int (pv 6))) pe_int) (pa_cons pe_int pa_nil)))))))
 (pss_cons (ps_if (pt_cmpR op_eq (pv 7) pe_int (nomark _))
 (pss_one (ps_set (i := 8) sc__law_tokens.nd rfl (Or.inl rfl) (by exact (pe_op op_add pe_int (pe_cl (ok__law_at T) (hr.mono (by decide)) rfl (pa_cons (pv 0) (pa_cons (pe_op op_add (pe_op op_add (pv 1) (pe_op op_mul pe_int (pv 6))) pe_int) (pa_cons pe_int pa_nil))))))))
 pss_nil)
 (pss_cons (ps_expr (pe_bm PySem.F.plainAttrs_list PySem.F.slot_list_append PySem.F.type_list_append mt_append (pv 4) (pa_cons (pe_tup (pa_cons (pv 8) (pa_cons (pe_op op_add pe_int (pe_cl (ok__law_at T) (hr.mono (by decide)) rfl (pa_cons (pv 0) (pa_cons (pe_op op_add (pe_op op_add (pv 1) (pe_op op_mul pe_int (pv 6))) pe_int) (pa_cons (pv 5) pa_nil))))) pa_nil))) pa_nil)))
 (pss_one (ps_set (i := 5) sc__law_tokens.nd rfl (Or.inl rfl) (by exact (pe_op op_add (pv 5) (pv 8))))))))))))
 (pss_one (ps_ret (by exact (pv 4)))))))), ?_⟩), gm, F.kp, F.bindsN (fun _ _ _ _ _ _ us hl => match us, hl with | [_, _, _, _], _ => rfl), .nil⟩
  · first | (obtain ⟨rfl, _⟩ := h; rfl) | (obtain ⟨_, rfl, _⟩ := h; rfl) | (obtain ⟨_, _, rfl, _⟩ := h; rfl) | (obtain ⟨_, _, _, rfl, _⟩ := h; rfl) | (obtain ⟨_, _, _, _, rfl, _⟩ := h; rfl) | (obtain ⟨_, _, _, _, _, rfl, _⟩ := h; rfl) | (obtain ⟨_, _, _, _, _, _, rfl, _⟩ := h; rfl) | (obtain ⟨_, _, _, _, _, _, _, rfl, _⟩ := h; rfl) | (obtain ⟨_, _, _, _, _, _, _, _, rfl, _⟩ := h; rfl)
  · obtain ⟨a, ds, first, many, known, rfl, hS, hf, hm, hk, q⟩ := h
    k_call_by "xs" st__law_tokens
    refine ⟨by omega, fun p hp => ⟨by omega, by omega, ?_⟩⟩
    refine loop_range (fun i σ H' => ∃ y6 y7 y8 vs ts, σ = [some (.ref a), some (.int first), some (.int (many : Nat)), some (.int (known : Nat)), some (.ref p), some (.int (sizes known ts : Nat)), y6, y7, y8] ∧ Same H H' ∧ H' p = some (.lst vs) ∧ TkAll H' vs ts ∧ ts.length = i ∧ Legal known ts ∧ ∀ t ∈ ts, okTok t) ⟨none, none, none, [], [], rfl, same_upd hp, upd_same, .nil, rfl, trivial, fun _ h => nomatch h⟩ ?_ ?_
    · rintro i σ H' hi ⟨y6, y7, y8, us, ts, rfl, s, hv, hT, hl, hg, hok⟩
      rw [Int.toNat_natCast] at hi
      have hsz := sizes_le hg
      have hul := hT.len
      wtm_at "go"
      rename_i k0 k1
      generalize atD ds (first + 3 * (0 + (i : Nat))) 4 = kind at *
      have hsn : ∀ t : List Int, fits (sizes known ts) t → Legal known (ts ++ [t]) := fun t f => legal_append.mpr ⟨hg, f, trivial⟩
      by_cases c1 : kind < 2
      · wtm_at "go"
        rename_i pl fl q0 q1
        obtain ⟨m, m0, m1, hm'⟩ := three_or q0 q1
        refine ⟨_, hm', ?_⟩
        wtm_at "go"
        rename_i v0 v1 pt hpt
        refine ⟨_, _, _, us ++ [V.ref pt], ts ++ [[atD ds (first + 3 * (0 + (i : Nat)) + 1) m]], ?_, rfl, rfl, rfl, same_put ((s.trans (same_upd fl)).trans (same_upd hpt)) hp, upd_same, tk_push (t := [atD ds (first + 3 * (0 + (i : Nat)) + 1) m]) hT (same_upd fl) hpt (upd_keep fl hv), by rw [List.length_append, hl]; rfl, hsn _ trivial, okTok_snoc hok ⟨v0, by omega⟩⟩
        rw [sizes_snoc]
        show _ = ((sizes known ts + 1 : Nat) : Int)
        omega
      by_cases c2 : sizes known ts = 0
      · wtm_at "go"
        rename_i pl fl q0 q1
        obtain ⟨m, m0, m1, hm'⟩ := three_or q0 q1
        refine ⟨_, hm', ?_⟩
        wtm_at "go"
        rename_i v0 v1 pt hpt
        refine ⟨_, _, _, us ++ [V.ref pt], ts ++ [[atD ds (first + 3 * (0 + (i : Nat)) + 1) m]], ?_, rfl, rfl, rfl, same_put ((s.trans (same_upd fl)).trans (same_upd hpt)) hp, upd_same, tk_push (t := [atD ds (first + 3 * (0 + (i : Nat)) + 1) m]) hT (same_upd fl) hpt (upd_keep fl hv), by rw [List.length_append, hl]; rfl, hsn _ trivial, okTok_snoc hok ⟨v0, by omega⟩⟩
        rw [sizes_snoc]
        show _ = ((sizes known ts + 1 : Nat) : Int)
        omega
      wtm_at "go"
      generalize hkont : tSeq (tDrop _) _ _ = kont
      have fin : ∀ l : Nat, 3 ≤ l → l ≤ 258 → kont [some (.ref a), some (.int first), some (.int (many : Nat)), some (.int (known : Nat)), some (.ref p), some (.int (sizes known ts : Nat)), some (.int (0 + (i : Nat))), some (.int kind), some (.int (l : Nat))] H' := by
        intro l hl2 hl3
        subst hkont
        wtm_at "go"
        rename_i d0 d1 pt hpt
        have d3 : 0 ≤ 1 + atD ds (first + 3 * (0 + (i : Nat)) + 2) (sizes known ts : Nat) := by omega
        refine ⟨_, _, _, us ++ [V.ref pt], ts ++ [[(l : Int), 1 + atD ds (first + 3 * (0 + (i : Nat)) + 2) (sizes known ts : Nat)]], ?_, rfl, rfl, rfl, same_put (s.trans (same_upd hpt)) hp, upd_same, tk_push (t := [(l : Int), 1 + atD ds (first + 3 * (0 + (i : Nat)) + 2) (sizes known ts : Nat)]) hT (fun _ _ e => e) hpt hv, by rw [List.length_append, hl]; rfl, hsn _ ⟨by omega, by omega, by omega, by omega⟩, okTok_snoc hok ⟨by omega, by omega, by omega, by omega⟩⟩
        rw [sizes_snoc]
        show _ = ((sizes known ts + (l : Int).toNat : Nat) : Int)
        omega
      rename_i e0 e1
      refine sel_d (fun c => ?_) (fun c => ?_)
      · wtm_at "go"
        rename_i g0 g1
        have := fin (3 + atD ds (first + 3 * (0 + (i : Nat)) + 1) 256).toNat (by omega) (by omega)
        rw [Int.toNat_of_nonneg (by omega)] at this
        exact this
      · wtm_at "go"
        have := fin (3 + atD ds (first + 3 * (0 + (i : Nat)) + 1) 12).toNat (by omega) (by omega)
        rw [Int.toNat_of_nonneg (by omega)] at this
        exact this
    · rintro σ H' ⟨y6, y7, y8, us, ts, rfl, s, hv, hT, hl, hg, hok⟩
      rw [Int.toNat_natCast] at hl
      wtm_at "go"
      exact q ts p H' s hp ⟨us, hv, hT⟩ hl hg hok


end
end K19

namespace K19
open PySem PySem.Spec PyProof.Rows L2 Bel
local macro_rules | `(tactic| wtm_at "xs") => `(tactic| simp only [x_next, x_seq, x_brk, x_cont, x_drop, x_ret, x_retN, x_if, sel_t, sel_f, selE_t, selE_f, selT_t, selT_f, selC_t, selC_f, x_test, x_tB, x_op, x_un, x_var, x_c, x_cb, x_nil, x_cons, x_rI, x_rI0, x_rU, x_rEq, x_rNe, x_rIxL, x_rIxT, x_rSlL, x_rCat, x_rRep, x_rApp, x_bm, x_bm0, x_sl, x_nopart, x_part, x_tup, x_lst, x_call, x_callS, x_asg, x_gname, x_gtup, x_gnil, x_gcons, x_gsub, x_setL, x_aug, x_ipI, x_ipC, x_bits, x_getL, x_augS, x_and, x_or, x_not, x_k, x_andV, x_orV, x_notV, x_ife, x_chain, x_for, x_ilist, x_itup, x_ienum, x_irng1, x_irng2, x_irev, x_lc, x_yes, wipe_nil, wipe_cons, List.map_cons, List.map_nil, x_misc, x_misc2, x_rz, lookup_at, Bool.not_true, Bool.not_false, decide_true, decide_false, not_true, not_false_eq_true, and_assoc, exists_and_left, exists_eq_left', exists_eq_left, exists_eq', exists_eq_right', exists_eq_right, V.int.injEq, V.ref.injEq, V.bl.injEq, V.str.injEq, List.cons.injEq, and_true, true_and, and_self, Option.some.injEq, List.cons_append, List.nil_append, List.append_nil, List.getElem?_cons_zero, List.getElem?_cons_succ, List.set_cons_zero, List.set_cons_succ, reduceCtorEq, false_and, and_false, exists_false, exists_const, or_false, false_or, scal_ii, scal_bb, scal_ss, List.length_cons, List.length_nil, Int.reduceToNat, Int.reducePow])
local macro_rules | `(tactic| k_call_by "xs" $h:term) => `(tactic| simp only [$h:term, x_next, x_seq, x_brk, x_cont, x_drop, x_ret, x_retN, x_if, sel_t, sel_f, selE_t, selE_f, selT_t, selT_f, selC_t, selC_f, x_test, x_tB, x_op, x_un, x_var, x_c, x_cb, x_nil, x_cons, x_rI, x_rI0, x_rU, x_rEq, x_rNe, x_rIxL, x_rIxT, x_rSlL, x_rCat, x_rRep, x_rApp, x_bm, x_bm0, x_sl, x_nopart, x_part, x_tup, x_lst, x_call, x_callS, x_asg, x_gname, x_gtup, x_gnil, x_gcons, x_gsub, x_setL, x_aug, x_ipI, x_ipC, x_bits, x_getL, x_augS, x_and, x_or, x_not, x_k, x_andV, x_orV, x_notV, x_ife, x_chain, x_for, x_ilist, x_itup, x_ienum, x_irng1, x_irng2, x_irev, x_lc, x_yes, wipe_nil, wipe_cons, List.map_cons, List.map_nil, x_misc, x_misc2, x_rz, lookup_at, Bool.not_true, Bool.not_false, decide_true, decide_false, not_true, not_false_eq_true, and_assoc, exists_and_left, exists_eq_left', exists_eq_left, exists_eq', exists_eq_right', exists_eq_right, V.int.injEq, V.ref.injEq, V.bl.injEq, V.str.injEq, List.cons.injEq, and_true, true_and, and_self, Option.some.injEq, List.cons_append, List.nil_append, List.append_nil, List.getElem?_cons_zero, List.getElem?_cons_succ, List.set_cons_zero, List.set_cons_succ, reduceCtorEq, false_and, and_false, exists_false, exists_const, or_false, false_or, scal_ii, scal_bb, scal_ss, List.length_cons, List.length_nil, Int.reduceToNat, Int.reducePow])
local macro_rules | `(tactic| wtm_at "hp") => `(tactic| first | (with_reducible assumption) | exact upd_same | (refine upd_keep (by with_reducible assumption) ?_; wtm_at "hp") | (refine Same.get (by with_reducible assumption) ?_; wtm_at "hp") | (refine upd_other (by first | (with_reducible assumption) | exact Ne.symm (by with_reducible assumption)) ?_; wtm_at "hp"))
local macro_rules | `(tactic| wtm_at "sq") => `(tactic| first | (with_reducible assumption) | exact SqL.of (by wtm_at "hp") | exact SqT.of (by wtm_at "hp") | (refine Same.seq (same_upd (by with_reducible assumption)) ?_; wtm_at "sq") | (refine Same.seq (by with_reducible assumption) ?_; wtm_at "sq") | (refine Same.seqT (same_upd (by with_reducible assumption)) ?_; wtm_at "sq") | (refine Same.seqT (by with_reducible assumption) ?_; wtm_at "sq"))
local macro_rules | `(tactic| wtm_at "cl") => `(tactic| first | (with_reducible assumption) | omega | (exact cmul_r (by omega) (by omega)) | (exact cmul_l (by omega) (by omega)) | (exact cdiv_ok (by omega) (by omega)) | (exact cpow_ok (by decide)) | (exact ⟨by omega, by omega, by omega⟩) | decide | (exact ⟨by omega, by omega⟩) | (simp only [List.length_append, List.length_map, List.length_cons, List.length_nil, rngL_len, sizeLine_eq]; omega) | wtm_at "hp" | wtm_at "sq")
local macro_rules | `(tactic| wtm_at "pf") => `(tactic| first | (with_reducible assumption) | omega | (simp only [List.length_append, List.length_map, List.length_cons, List.length_nil, rngL_len]; omega) | (with_reducible rfl) | (with_reducible trivial) | (with_reducible decide))
local macro_rules | `(tactic| wtm_at "st") => `(tactic| first | ((with_reducible refine g_at ?_); refine at_call (by wtm_at "sq") (by omega) (by omega) (fun _ _ => ?_)) | ((with_reducible refine g_row ?_); refine row_call (by wtm_at "hp") ?_) | ((with_reducible refine g_int ?_); refine int_call ?_) | ((with_reducible refine g_isi ?_); first | (refine isi_int rfl ?_) | (refine isi_lst rfl (by wtm_at "hp") ?_) | (refine isi_tup rfl (by wtm_at "hp") ?_)) | ((with_reducible refine g_ned ?_); refine ned_f (dq_lst (by wtm_at "sq")) (dq_lst (by wtm_at "sq")) ?_) | ((with_reducible refine g_eqd ?_); refine eqd_t (dq_lst (by wtm_at "sq")) (dq_lst (by wtm_at "sq")) ?_) | ((with_reducible refine g_tyv ?_); refine and_tyv (by wtm_at "sq") ?_) | ((with_reducible refine g_asq ?_); refine and_sq (by wtm_at "sq") ?_) | ((with_reducible refine g_lst ?_); refine ex_lst (by wtm_at "hp") ?_) | ((with_reducible refine g_or ?_); first | (refine ex_or (by wtm_at "sq") ?_) | (refine ex_ort (by wtm_at "sq") ?_)) | ((with_reducible refine g_sq ?_); refine ex_sq (by wtm_at "sq") ?_) | ((with_reducible refine g_sqt ?_); refine ex_sqt (by wtm_at "sq") ?_) | ((with_reducible refine gd_sel ?_); first | (refine sel_p (by wtm_at "pf") ?_) | (refine sel_n (by wtm_at "pf") ?_)) | ((with_reducible refine gn_sel ?_); first | (refine selN_p (by wtm_at "pf") ?_) | (refine selN_n (by wtm_at "pf") ?_)) | ((with_reducible refine gd_selT ?_); first | (refine selT_p (by wtm_at "pf") ?_) | (refine selT_n (by wtm_at "pf") ?_)) | ((with_reducible refine gn_selT ?_); first | (refine selTN_p (by wtm_at "pf") ?_) | (refine selTN_n (by wtm_at "pf") ?_)) | ((with_reducible refine gd_selE ?_); first | (refine selE_p (by wtm_at "pf") ?_) | (refine selE_n (by wtm_at "pf") ?_)) | ((with_reducible refine gn_selE ?_); first | (refine selEN_p (by wtm_at "pf") ?_) | (refine selEN_n (by wtm_at "pf") ?_)) | ((with_reducible refine g_xf ?_); refine xf_at rfl (by wtm_at "hp") ?_) | ((with_reducible refine g_atI ?_); refine ex_at (by first | exact rfl | exact atI_int (by omega) (by wtm_at "pf")) ?_) | ((with_reducible refine g_and ?_); refine And.intro (by wtm_at "cl") ?_) | ((with_reducible refine g_new ?_); intro _ _))
local macro_rules | `(tactic| wtm_at "go") => `(tactic| repeat (first | wtm_at "xs" | wtm_at "st"))
section
variable {P : Program} {w : World} {K : PySem.W.Frag} {mg : Str → Option Value} {base : Heap}
/-! ### counts of symbols -/
def bump (xs : List Int) (i : Int) : List Int := xs.set i.toNat (xs.getD i.toNat 0 + 1)
theorem bump_len {xs : List Int} {i : Int} : (bump xs i).length = xs.length := List.length_set ..
def cnt (c : List Int × List Int) : List Int → List Int × List Int
  | [x] => (bump c.1 x, c.2)
  | [l, d] => (bump c.1 (lSym l), bump c.2 (dSym d))
  | _ => c
def counts (ts : List (List Int)) : List Int × List Int := ts.foldl cnt ((List.replicate 286 (0 : Int)).set 256 1, List.replicate 30 0)
theorem cnt_len {c : List Int × List Int} : ∀ {t}, (cnt c t).1.length = c.1.length ∧ (cnt c t).2.length = c.2.length
  | [] => ⟨rfl, rfl⟩
  | [_] => ⟨bump_len, rfl⟩
  | [_, _] => ⟨bump_len, bump_len⟩
  | _ :: _ :: _ :: _ => ⟨rfl, rfl⟩
theorem fold_len : ∀ (ts : List (List Int)) (c : List Int × List Int), (ts.foldl cnt c).1.length = c.1.length ∧ (ts.foldl cnt c).2.length = c.2.length
  | [], _ => ⟨rfl, rfl⟩
  | t :: ts, c => by
    have h := fold_len ts (cnt c t)
    exact ⟨h.1.trans cnt_len.1, h.2.trans cnt_len.2⟩
theorem counts_len (ts : List (List Int)) : (counts ts).1.length = 286 ∧ (counts ts).2.length = 30 := by
  have h := fold_len ts ((List.replicate 286 (0 : Int)).set 256 1, List.replicate 30 0)
  exact ⟨h.1.trans (by rw [List.length_set, List.length_replicate]), h.2.trans List.length_replicate⟩
theorem counts_snoc {ts : List (List Int)} {i : Nat} {t : List Int} (e : ts[i]? = some t) : counts (ts.take (i + 1)) = cnt (counts (ts.take i)) t := by
  rw [take_snoc e]
  unfold counts
  rw [List.foldl_append]
  rfl
theorem okTok_cases : ∀ {t}, okTok t → (∃ x, t = [x] ∧ 0 ≤ x ∧ x < 256) ∨ ∃ l d, t = [l, d] ∧ 3 ≤ l ∧ l ≤ 258 ∧ 1 ≤ d ∧ d ≤ 32768
  | [], f => f.elim
  | [x], f => .inl ⟨x, rfl, f⟩
  | [l, d], f => .inr ⟨l, d, rfl, f⟩
  | _ :: _ :: _ :: _, f => f.elim
theorem bump_put {xs : List Int} {i : Int} : ((xs.map V.int).set i.toNat (V.int (xs.getD i.toNat 0 + 1))) = (bump xs i).map V.int := set_ints
def sp_symbol_counts (K : PySem.W.Frag) : Sp := fun vs H Q _ => ∃ (a : Addr) (ts : List (List Int)), vs = [.ref a] ∧ Tk K H a ts ∧ (∀ t ∈ ts, okTok t) ∧
  ∀ p1 p2 q H', Same H H' → H p1 = none → H p2 = none → H q = none → p1 ≠ p2 → H' p1 = some (.lst ((counts ts).1.map V.int)) → H' p2 = some (.lst ((counts ts).2.map V.int)) → H' q = some (.tup [.ref p1, .ref p2]) → Q (.ref q) H'
theorem ok_symbol_counts (T : Tx K mg) : Cl P w K mg base 5 "symbol_counts" ["tokens"] (sp_symbol_counts K) [] := by
  obtain ⟨gm, fd, F⟩ := T.d_symbol_counts
  refine ⟨_, fd, [], F.ok sc_symbol_counts (fun vs H Q E h => ?_) (fun cdv A outer s H vs Q E hr h => ⟨_, (PSs.nox (pss_cons (ps_set (i := 1) sc_symbol_counts.nd rfl (Or.inl rfl) (by exact (pe_op op_rep (pe_lst (pa_cons pe_int pa_nil)) (pe_gc rfl T.c_LETTER_COUNT))))
 (pss_cons (ps_set (i := 2) sc_symbol_counts.nd rfl (Or.inl rfl) (by exact (pe_op op_rep (pe_lst (pa_cons pe_int pa_nil)) (pe_gc rfl T.c_DISTANCE_COUNT))))
 (pss_cons (ps_asg pe_int (pg_sub (pv 1) (pe_gc rfl T.c_END_OF_BLOCK) set_list))
 (pss_cons (ps_for PassesOwn.never rfl (pi_list (pv 0)) (pg_name (i := 3) sc_symbol_counts.nd rfl (Or.inl rfl))
 (pss_one (ps_if (pt_cmpR op_eq (pe_callB (lenK K) rfl T.b_len (by decide +kernel) (pa_cons (pv 3) pa_nil)) pe_int (nomark _))
 (pss_one (ps_augS (pv 1) (pe_ix (ixt K) (pv 3) pe_int (fun _ _ => rfl)) (getL K) (by exact pe_int) ip_add set_list))
 (pss_cons (ps_augS (pv 1) (pe_ix (ixt K) (pe_cl (ok_length_parts T) (hr.mono (by decide)) rfl (pa_cons (pe_ix (ixt K) (pv 3) pe_int (fun _ _ => rfl)) pa_nil)) pe_int (fun _ _ => rfl)) (getL K) (by exact pe_int) ip_add set_list)
 (pss_one (ps_augS (pv 2) (pe_ix (ixt K) (pe_cl (ok_distance_parts T) (hr.mono (by decide)) rfl (pa_cons (pe_ix (ixt K) (pv 3) pe_int (fun _ _ => rfl)) pa_nil)) pe_int (fun _ _ => rfl)) (getL K) (by exact pe_int) ip_add set_list))))))
 (pss_one (ps_ret (by exact (pe_tup (pa_cons (pv 1) (pa_cons (pv 2) pa_nil))))))))))), ?_⟩), gm, F.kp, F.bindsN (fun _ _ _ _ _ _ us hl => match us, hl with | [_], _ => rfl), .nil⟩
  · first | (obtain ⟨rfl, _⟩ := h; rfl) | (obtain ⟨_, rfl, _⟩ := h; rfl) | (obtain ⟨_, _, rfl, _⟩ := h; rfl) | (obtain ⟨_, _, _, rfl, _⟩ := h; rfl) | (obtain ⟨_, _, _, _, rfl, _⟩ := h; rfl) | (obtain ⟨_, _, _, _, _, rfl, _⟩ := h; rfl) | (obtain ⟨_, _, _, _, _, _, rfl, _⟩ := h; rfl) | (obtain ⟨_, _, _, _, _, _, _, rfl, _⟩ := h; rfl) | (obtain ⟨_, _, _, _, _, _, _, _, rfl, _⟩ := h; rfl)
  · obtain ⟨a, ts, rfl, ⟨us, hu, hT⟩, hok, q⟩ := h
    k_call_by "xs" st_symbol_counts
    wtm_at "go"
    rename_i z1 f1 p1 g1 z2 f2 p2 g2
    simp only [rep_one] at f2 g2 ⊢
    refine ⟨256, by rw [List.length_map, List.length_replicate]; rfl, ?_⟩
    have S1 := (same_upd (o := .lst [V.int 0]) f1).trans (same_upd (o := .lst ((List.replicate 286 (0 : Int)).map V.int)) g1)
    have S2 := S1.trans (same_upd (o := .lst [V.int 0]) f2)
    have S3 := S2.trans (same_upd (o := .lst ((List.replicate 30 (0 : Int)).map V.int)) g2)
    have hp1 : H p1 = none := (same_upd f1).free g1
    have hp2 : H p2 = none := S2.free g2
    have n12 : p1 ≠ p2 := ne_of_none (upd_keep f2 upd_same) g2
    have h2 : ((upd (upd (upd (upd H z1 (.lst [V.int 0])) p1 (.lst ((List.replicate 286 (0 : Int)).map V.int))) z2 (.lst [V.int 0])) p2 (.lst ((List.replicate 30 (0 : Int)).map V.int)))) p2 = some (.lst ((List.replicate 30 (0 : Int)).map V.int)) := upd_same
    have S4 := same_put (o := .lst (((List.replicate 286 (0 : Int)).map V.int).set 256 (.int 1))) S3 hp1
    have h2' := upd_other (o := .lst (((List.replicate 286 (0 : Int)).map V.int).set 256 (.int 1))) (Ne.symm n12) h2
    have h1' : (upd (upd (upd (upd (upd H z1 (.lst [V.int 0])) p1 (.lst ((List.replicate 286 (0 : Int)).map V.int))) z2 (.lst [V.int 0])) p2 (.lst ((List.replicate 30 (0 : Int)).map V.int))) p1 (.lst (((List.replicate 286 (0 : Int)).map V.int).set 256 (.int 1)))) p1 = some (.lst (((List.replicate 286 (0 : Int)).map V.int).set 256 (.int 1))) := upd_same
    rw [set_ints] at h1' h2' S4 ⊢
    generalize upd (upd (upd (upd (upd H z1 (.lst [V.int 0])) p1 (.lst ((List.replicate 286 (0 : Int)).map V.int))) z2 (.lst [V.int 0])) p2 (.lst ((List.replicate 30 (0 : Int)).map V.int))) p1 (.lst (((List.replicate 286 (0 : Int)).set 256 1).map V.int)) = G at *
    refine ⟨⟨_, SqL.of (S4 _ _ hu)⟩, loop_list (xs := us) (fun i σ H' => ∃ y3, σ = [some (.ref a), some (.ref p1), some (.ref p2), y3] ∧ Same H H' ∧ H' p1 = some (.lst ((counts (ts.take i)).1.map V.int)) ∧ H' p2 = some (.lst ((counts (ts.take i)).2.map V.int))) ⟨none, rfl, S4, h1', h2'⟩ (fun i σ H' _ ⟨_, _, s, _⟩ => SqL.of (s _ _ hu)) ?_ ?_⟩
    · rintro i x σ G2 hx ⟨y3, rfl, s, e1, e2⟩
      obtain ⟨r, t, rfl, ht, er⟩ := hT.get hx
      have er2 := s _ _ er
      rw [counts_snoc ht]
      have hl := counts_len (ts.take i)
      generalize counts (ts.take i) = c at *
      obtain ⟨c1, c2⟩ := c
      dsimp only at e1 e2 hl
      rcases okTok_cases (hok t (List.mem_of_getElem? ht)) with ⟨x, rfl, x0, x1⟩ | ⟨l, d, rfl, l0, l1, d0, d1⟩
      · wtm_at "go"
        exact ⟨x.toNat, ixN_ok x0 (by rw [List.length_map]; omega), same_put s hp1, by rw [upd_same]; exact congrArg (fun l => some (HO.lst l)) bump_put, upd_other (Ne.symm n12) e2⟩
      · have hls := lSym_in l0 l1
        have hds := dSym_in d0 d1
        wtm_at "go"
        refine ⟨l, rfl, fun _ u1 v1 k1 m1 => ?_, fun z => absurd ⟨l0, l1⟩ z⟩
        have U1 := (same_upd k1).trans (same_upd (o := .tup ([lSym l, lEx (lSym l), l - lBa (lSym l)].map V.int)) m1)
        have e1 := U1 _ _ e1
        have e2 := U1 _ _ e2
        have er2 := U1 _ _ er2
        have s := s.trans U1
        have ev : (upd (upd G2 u1 (.tup ([lEx (lSym l), lBa (lSym l)].map V.int))) v1 (.tup ([lSym l, lEx (lSym l), l - lBa (lSym l)].map V.int))) v1 = some (.tup ([lSym l, lEx (lSym l), l - lBa (lSym l)].map V.int)) := upd_same
        generalize (upd (upd G2 u1 (.tup ([lEx (lSym l), lBa (lSym l)].map V.int))) v1 (.tup ([lSym l, lEx (lSym l), l - lBa (lSym l)].map V.int))) = G3 at *
        wtm_at "go"
        refine ⟨(lSym l).toNat, ixN_ok (by omega) (by rw [List.length_map]; omega), ?_⟩
        rw [bump_put]
        have e1' : (upd G3 p1 (.lst ((bump c1 (lSym l)).map V.int))) p1 = some (.lst ((bump c1 (lSym l)).map V.int)) := upd_same
        have e2 := upd_other (o := .lst ((bump c1 (lSym l)).map V.int)) (Ne.symm n12) e2
        have s := same_put (o := .lst ((bump c1 (lSym l)).map V.int)) s hp1
        have er2 := s _ _ er
        generalize upd G3 p1 (.lst ((bump c1 (lSym l)).map V.int)) = G4 at *
        wtm_at "go"
        refine ⟨d, rfl, fun _ u2 v2 k2 m2 => ?_, fun z => absurd ⟨d0, d1⟩ z⟩
        have U2 := (same_upd k2).trans (same_upd (o := .tup ([dSym d, dEx (dSym d), d - dBa (dSym d)].map V.int)) m2)
        have e1 := U2 _ _ e1'
        have e2 := U2 _ _ e2
        have s := s.trans U2
        have ev : (upd (upd G4 u2 (.tup ([dEx (dSym d), dBa (dSym d)].map V.int))) v2 (.tup ([dSym d, dEx (dSym d), d - dBa (dSym d)].map V.int))) v2 = some (.tup ([dSym d, dEx (dSym d), d - dBa (dSym d)].map V.int)) := upd_same
        generalize (upd (upd G4 u2 (.tup ([dEx (dSym d), dBa (dSym d)].map V.int))) v2 (.tup ([dSym d, dEx (dSym d), d - dBa (dSym d)].map V.int))) = G5 at *
        wtm_at "go"
        exact ⟨(dSym d).toNat, ixN_ok (by omega) (by rw [List.length_map]; omega), same_put s hp2, upd_other n12 e1, by rw [upd_same]; exact congrArg (fun l => some (HO.lst l)) bump_put⟩
    · rintro σ G2 ⟨y3, rfl, s, e1, e2⟩
      rw [hT.len, List.take_length] at e1 e2
      wtm_at "go"
      rename_i qt hqt
      exact q p1 p2 qt _ (same_put s (s.free hqt)) hp1 hp2 (s.free hqt) n12 (upd_keep hqt e1) (upd_keep hqt e2) upd_same


end
end K19

namespace K19
open PySem PySem.Spec PyProof.Rows L2 Bel
local macro_rules | `(tactic| wtm_at "xs") => `(tactic| simp only [x_next, x_seq, x_brk, x_cont, x_drop, x_ret, x_retN, x_if, sel_t, sel_f, selE_t, selE_f, selT_t, selT_f, selC_t, selC_f, x_test, x_tB, x_op, x_un, x_var, x_c, x_cb, x_nil, x_cons, x_rI, x_rI0, x_rU, x_rEq, x_rNe, x_rIxL, x_rIxT, x_rSlL, x_rCat, x_rRep, x_rApp, x_bm, x_bm0, x_sl, x_nopart, x_part, x_tup, x_lst, x_call, x_callS, x_asg, x_gname, x_gtup, x_gnil, x_gcons, x_gsub, x_setL, x_aug, x_ipI, x_ipC, x_bits, x_getL, x_augS, x_and, x_or, x_not, x_k, x_andV, x_orV, x_notV, x_ife, x_chain, x_for, x_ilist, x_itup, x_ienum, x_irng1, x_irng2, x_irev, x_lc, x_yes, wipe_nil, wipe_cons, List.map_cons, List.map_nil, x_misc, x_misc2, x_rz, lookup_at, Bool.not_true, Bool.not_false, decide_true, decide_false, not_true, not_false_eq_true, and_assoc, exists_and_left, exists_eq_left', exists_eq_left, exists_eq', exists_eq_right', exists_eq_right, V.int.injEq, V.ref.injEq, V.bl.injEq, V.str.injEq, List.cons.injEq, and_true, true_and, and_self, Option.some.injEq, List.cons_append, List.nil_append, List.append_nil, List.getElem?_cons_zero, List.getElem?_cons_succ, List.set_cons_zero, List.set_cons_succ, reduceCtorEq, false_and, and_false, exists_false, exists_const, or_false, false_or, scal_ii, scal_bb, scal_ss, List.length_cons, List.length_nil, Int.reduceToNat, Int.reducePow])
local macro_rules | `(tactic| k_call_by "xs" $h:term) => `(tactic| simp only [$h:term, x_next, x_seq, x_brk, x_cont, x_drop, x_ret, x_retN, x_if, sel_t, sel_f, selE_t, selE_f, selT_t, selT_f, selC_t, selC_f, x_test, x_tB, x_op, x_un, x_var, x_c, x_cb, x_nil, x_cons, x_rI, x_rI0, x_rU, x_rEq, x_rNe, x_rIxL, x_rIxT, x_rSlL, x_rCat, x_rRep, x_rApp, x_bm, x_bm0, x_sl, x_nopart, x_part, x_tup, x_lst, x_call, x_callS, x_asg, x_gname, x_gtup, x_gnil, x_gcons, x_gsub, x_setL, x_aug, x_ipI, x_ipC, x_bits, x_getL, x_augS, x_and, x_or, x_not, x_k, x_andV, x_orV, x_notV, x_ife, x_chain, x_for, x_ilist, x_itup, x_ienum, x_irng1, x_irng2, x_irev, x_lc, x_yes, wipe_nil, wipe_cons, List.map_cons, List.map_nil, x_misc, x_misc2, x_rz, lookup_at, Bool.not_true, Bool.not_false, decide_true, decide_false, not_true, not_false_eq_true, and_assoc, exists_and_left, exists_eq_left', exists_eq_left, exists_eq', exists_eq_right', exists_eq_right, V.int.injEq, V.ref.injEq, V.bl.injEq, V.str.injEq, List.cons.injEq, and_true, true_and, and_self, Option.some.injEq, List.cons_append, List.nil_append, List.append_nil, List.getElem?_cons_zero, List.getElem?_cons_succ, List.set_cons_zero, List.set_cons_succ, reduceCtorEq, false_and, and_false, exists_false, exists_const, or_false, false_or, scal_ii, scal_bb, scal_ss, List.length_cons, List.length_nil, Int.reduceToNat, Int.reducePow])
local macro_rules | `(tactic| wtm_at "hp") => `(tactic| first | (with_reducible assumption) | exact upd_same | (refine upd_keep (by with_reducible assumption) ?_; wtm_at "hp") | (refine Same.get (by with_reducible assumption) ?_; wtm_at "hp") | (refine upd_other (by first | (with_reducible assumption) | exact Ne.symm (by with_reducible assumption)) ?_; wtm_at "hp"))
local macro_rules | `(tactic| wtm_at "sq") => `(tactic| first | (with_reducible assumption) | exact SqL.of (by wtm_at "hp") | exact SqT.of (by wtm_at "hp") | (refine Same.seq (same_upd (by with_reducible assumption)) ?_; wtm_at "sq") | (refine Same.seq (by with_reducible assumption) ?_; wtm_at "sq") | (refine Same.seqT (same_upd (by with_reducible assumption)) ?_; wtm_at "sq") | (refine Same.seqT (by with_reducible assumption) ?_; wtm_at "sq"))
local macro_rules | `(tactic| wtm_at "cl") => `(tactic| first | (with_reducible assumption) | omega | (exact cmul_r (by omega) (by omega)) | (exact cmul_l (by omega) (by omega)) | (exact cdiv_ok (by omega) (by omega)) | (exact cpow_ok (by decide)) | (exact ⟨by omega, by omega, by omega⟩) | decide | (exact ⟨by omega, by omega⟩) | (simp only [List.length_append, List.length_map, List.length_cons, List.length_nil, rngL_len, sizeLine_eq]; omega) | wtm_at "hp" | wtm_at "sq")
local macro_rules | `(tactic| wtm_at "pf") => `(tactic| first | (with_reducible assumption) | omega | (simp only [List.length_append, List.length_map, List.length_cons, List.length_nil, rngL_len]; omega) | (with_reducible rfl) | (with_reducible trivial) | (with_reducible decide))
local macro_rules | `(tactic| wtm_at "st") => `(tactic| first | ((with_reducible refine g_at ?_); refine at_call (by wtm_at "sq") (by omega) (by omega) (fun _ _ => ?_)) | ((with_reducible refine g_row ?_); refine row_call (by wtm_at "hp") ?_) | ((with_reducible refine g_int ?_); refine int_call ?_) | ((with_reducible refine g_isi ?_); first | (refine isi_int rfl ?_) | (refine isi_lst rfl (by wtm_at "hp") ?_) | (refine isi_tup rfl (by wtm_at "hp") ?_)) | ((with_reducible refine g_ned ?_); refine ned_f (dq_lst (by wtm_at "sq")) (dq_lst (by wtm_at "sq")) ?_) | ((with_reducible refine g_eqd ?_); refine eqd_t (dq_lst (by wtm_at "sq")) (dq_lst (by wtm_at "sq")) ?_) | ((with_reducible refine g_tyv ?_); refine and_tyv (by wtm_at "sq") ?_) | ((with_reducible refine g_asq ?_); refine and_sq (by wtm_at "sq") ?_) | ((with_reducible refine g_lst ?_); refine ex_lst (by wtm_at "hp") ?_) | ((with_reducible refine g_or ?_); first | (refine ex_or (by wtm_at "sq") ?_) | (refine ex_ort (by wtm_at "sq") ?_)) | ((with_reducible refine g_sq ?_); refine ex_sq (by wtm_at "sq") ?_) | ((with_reducible refine g_sqt ?_); refine ex_sqt (by wtm_at "sq") ?_) | ((with_reducible refine gd_sel ?_); first | (refine sel_p (by wtm_at "pf") ?_) | (refine sel_n (by wtm_at "pf") ?_)) | ((with_reducible refine gn_sel ?_); first | (refine selN_p (by wtm_at "pf") ?_) | (refine selN_n (by wtm_at "pf") ?_)) | ((with_reducible refine gd_selT ?_); first | (refine selT_p (by wtm_at "pf") ?_) | (refine selT_n (by wtm_at "pf") ?_)) | ((with_reducible refine gn_selT ?_); first | (refine selTN_p (by wtm_at "pf") ?_) | (refine selTN_n (by wtm_at "pf") ?_)) | ((with_reducible refine gd_selE ?_); first | (refine selE_p (by wtm_at "pf") ?_) | (refine selE_n (by wtm_at "pf") ?_)) | ((with_reducible refine gn_selE ?_); first | (refine selEN_p (by wtm_at "pf") ?_) | (refine selEN_n (by wtm_at "pf") ?_)) | ((with_reducible refine g_xf ?_); refine xf_at rfl (by wtm_at "hp") ?_) | ((with_reducible refine g_atI ?_); refine ex_at (by first | exact rfl | exact atI_int (by omega) (by wtm_at "pf")) ?_) | ((with_reducible refine g_and ?_); refine And.intro (by wtm_at "cl") ?_) | ((with_reducible refine g_new ?_); intro _ _))
local macro_rules | `(tactic| wtm_at "go") => `(tactic| repeat (first | wtm_at "xs" | wtm_at "st"))
section
variable {P : Program} {w : World} {K : PySem.W.Frag} {mg : Str → Option Value} {base : Heap}
/-! ### costs -/
def costV (L : List Int) (s e : Int) : V := if L.getD s.toNat 0 = 0 then .non else .int (L.getD s.toNat 0 + e)
def addV : V → V → V
  | .int i, .int j => .int (i + j)
  | _, _ => .non
def tokV (L M : List Int) : List Int → V
  | [x] => costV L x 0
  | [l, d] => addV (costV L (lSym l) (lEx (lSym l))) (costV M (dSym d) (dEx (dSym d)))
  | _ => .non
def sp__cost_of_parts (K : PySem.W.Frag) : Sp := fun vs H Q _ => ∃ (a b : Addr) (s e x : Int) (L : List Int), vs = [.ref a, .ref b] ∧ SqT K H a ([s, e, x].map V.int) ∧ SqL K H b (L.map V.int) ∧ 0 ≤ s ∧ s < L.length ∧ Q (costV L s e) H
theorem ok__cost_of_parts (T : Tx K mg) : Cl P w K mg base 1 "_cost_of_parts" ["parts", "lengths"] (sp__cost_of_parts K) [] := by
  obtain ⟨gm, fd, F⟩ := T.d__cost_of_parts
  refine ⟨_, fd, [], F.ok sc__cost_of_parts (fun vs H Q E h => ?_) (fun cdv A outer s H vs Q E hr h => ⟨_, (PSs.nox (pss_cons (ps_asg (pv 0) (pg_tup (by rfl) (pgs_cons (pg_name (i := 2) sc__cost_of_parts.nd rfl (Or.inl rfl)) (pgs_cons (pg_name (i := 3) sc__cost_of_parts.nd rfl (Or.inl rfl)) (pgs_cons (pg_name (i := 4) sc__cost_of_parts.nd rfl (Or.inl rfl)) pgs_nil)))))
 (pss_cons (ps_if (pt_cmpR op_eq (pe_ix (ixl K) (pv 1) (pv 2) (fun _ _ => rfl)) pe_int (nomark _))
 (pss_one (ps_ret (by exact pe_non)))
 pss_nil)
 (pss_one (ps_ret (by exact (pe_op op_add (pe_ix (ixl K) (pv 1) (pv 2) (fun _ _ => rfl)) (pv 3)))))))), ?_⟩), gm, F.kp, F.bindsN (fun _ _ _ _ _ _ us hl => match us, hl with | [_, _], _ => rfl), .nil⟩
  · first | (obtain ⟨rfl, _⟩ := h; rfl) | (obtain ⟨_, rfl, _⟩ := h; rfl) | (obtain ⟨_, _, rfl, _⟩ := h; rfl) | (obtain ⟨_, _, _, rfl, _⟩ := h; rfl) | (obtain ⟨_, _, _, _, rfl, _⟩ := h; rfl) | (obtain ⟨_, _, _, _, _, rfl, _⟩ := h; rfl) | (obtain ⟨_, _, _, _, _, _, rfl, _⟩ := h; rfl) | (obtain ⟨_, _, _, _, _, _, _, rfl, _⟩ := h; rfl) | (obtain ⟨_, _, _, _, _, _, _, _, rfl, _⟩ := h; rfl)
  · obtain ⟨a, b, s, e, x, L, rfl, hT, hS, s0, s1, q⟩ := h
    k_call_by "xs" st__cost_of_parts
    wtm_at "go"
    refine ⟨rfl, ?_⟩
    wtm_at "go"
    unfold costV at q
    refine sel_d (fun c => ?_) (fun c => ?_)
    · rw [if_pos c] at q
      wtm_at "go"
      exact q
    · rw [if_neg c] at q
      wtm_at "go"
      exact q
def sp_literal_cost (K : PySem.W.Frag) : Sp := fun vs H Q _ => ∃ (x : Int) (b : Addr) (L : List Int), vs = [.int x, .ref b] ∧ SqL K H b (L.map V.int) ∧ 0 ≤ x ∧ x < L.length ∧ ∀ H', Same H H' → Q (costV L x 0) H'
theorem ok_literal_cost (T : Tx K mg) : Cl P w K mg base 2 "literal_cost" ["byte", "letters"] (sp_literal_cost K) [] := by
  obtain ⟨gm, fd, F⟩ := T.d_literal_cost
  refine ⟨_, fd, [], F.ok sc_literal_cost (fun vs H Q E h => ?_) (fun cdv A outer s H vs Q E hr h => ⟨_, (PSs.nox (pss_one (ps_ret (by exact (pe_cl (ok__cost_of_parts T) (hr.mono (by decide)) rfl (pa_cons (pe_tup (pa_cons (pv 0) (pa_cons pe_int (pa_cons pe_int pa_nil)))) (pa_cons (pv 1) pa_nil))))))), ?_⟩), gm, F.kp, F.bindsN (fun _ _ _ _ _ _ us hl => match us, hl with | [_, _], _ => rfl), .nil⟩
  · first | (obtain ⟨rfl, _⟩ := h; rfl) | (obtain ⟨_, rfl, _⟩ := h; rfl) | (obtain ⟨_, _, rfl, _⟩ := h; rfl) | (obtain ⟨_, _, _, rfl, _⟩ := h; rfl) | (obtain ⟨_, _, _, _, rfl, _⟩ := h; rfl) | (obtain ⟨_, _, _, _, _, rfl, _⟩ := h; rfl) | (obtain ⟨_, _, _, _, _, _, rfl, _⟩ := h; rfl) | (obtain ⟨_, _, _, _, _, _, _, rfl, _⟩ := h; rfl) | (obtain ⟨_, _, _, _, _, _, _, _, rfl, _⟩ := h; rfl)
  · obtain ⟨x, b, L, rfl, hS, s0, s1, q⟩ := h
    k_call_by "xs" st_literal_cost
    wtm_at "go"
    rename_i p hp
    exact ⟨p, b, x, 0, 0, L, rfl, SqT.of upd_same, (same_upd hp).seq hS, s0, s1, q _ (same_upd hp)⟩
def sp_length_cost (K : PySem.W.Frag) : Sp := fun vs H Q _ => ∃ (l : Int) (b : Addr) (L : List Int), vs = [.int l, .ref b] ∧ SqL K H b (L.map V.int) ∧ 3 ≤ l ∧ l ≤ 258 ∧ 286 ≤ L.length ∧ ∀ H', Same H H' → Q (costV L (lSym l) (lEx (lSym l))) H'
theorem ok_length_cost (T : Tx K mg) : Cl P w K mg base 5 "length_cost" ["length", "letters"] (sp_length_cost K) [] := by
  obtain ⟨gm, fd, F⟩ := T.d_length_cost
  refine ⟨_, fd, [], F.ok sc_length_cost (fun vs H Q E h => ?_) (fun cdv A outer s H vs Q E hr h => ⟨_, (PSs.nox (pss_one (ps_ret (by exact (pe_cl (ok__cost_of_parts T) (hr.mono (by decide)) rfl (pa_cons (pe_cl (ok_length_parts T) (hr.mono (by decide)) rfl (pa_cons (pv 0) pa_nil)) (pa_cons (pv 1) pa_nil))))))), ?_⟩), gm, F.kp, F.bindsN (fun _ _ _ _ _ _ us hl => match us, hl with | [_, _], _ => rfl), .nil⟩
  · first | (obtain ⟨rfl, _⟩ := h; rfl) | (obtain ⟨_, rfl, _⟩ := h; rfl) | (obtain ⟨_, _, rfl, _⟩ := h; rfl) | (obtain ⟨_, _, _, rfl, _⟩ := h; rfl) | (obtain ⟨_, _, _, _, rfl, _⟩ := h; rfl) | (obtain ⟨_, _, _, _, _, rfl, _⟩ := h; rfl) | (obtain ⟨_, _, _, _, _, _, rfl, _⟩ := h; rfl) | (obtain ⟨_, _, _, _, _, _, _, rfl, _⟩ := h; rfl) | (obtain ⟨_, _, _, _, _, _, _, _, rfl, _⟩ := h; rfl)
  · obtain ⟨l, b, L, rfl, hS, l0, l1, hl, q⟩ := h
    have hls := lSym_in l0 l1
    k_call_by "xs" st_length_cost
    refine ⟨l, rfl, fun _ u1 v1 k1 m1 => ?_, fun z => absurd ⟨l0, l1⟩ z⟩
    have U1 := (same_upd k1).trans (same_upd (o := .tup ([lSym l, lEx (lSym l), l - lBa (lSym l)].map V.int)) m1)
    wtm_at "go"
    exact ⟨v1, b, _, _, _, L, rfl, SqT.of upd_same, U1.seq hS, by omega, by omega, q _ U1⟩
def sp_distance_cost (K : PySem.W.Frag) : Sp := fun vs H Q _ => ∃ (l : Int) (b : Addr) (L : List Int), vs = [.int l, .ref b] ∧ SqL K H b (L.map V.int) ∧ 1 ≤ l ∧ l ≤ 32768 ∧ 30 ≤ L.length ∧ ∀ H', Same H H' → Q (costV L (dSym l) (dEx (dSym l))) H'
theorem ok_distance_cost (T : Tx K mg) : Cl P w K mg base 5 "distance_cost" ["distance", "distances"] (sp_distance_cost K) [] := by
  obtain ⟨gm, fd, F⟩ := T.d_distance_cost
  refine ⟨_, fd, [], F.ok sc_distance_cost (fun vs H Q E h => ?_) (fun cdv A outer s H vs Q E hr h => ⟨_, (PSs.nox (pss_one (ps_ret (by exact (pe_cl (ok__cost_of_parts T) (hr.mono (by decide)) rfl (pa_cons (pe_cl (ok_distance_parts T) (hr.mono (by decide)) rfl (pa_cons (pv 0) pa_nil)) (pa_cons (pv 1) pa_nil))))))), ?_⟩), gm, F.kp, F.bindsN (fun _ _ _ _ _ _ us hl => match us, hl with | [_, _], _ => rfl), .nil⟩
  · first | (obtain ⟨rfl, _⟩ := h; rfl) | (obtain ⟨_, rfl, _⟩ := h; rfl) | (obtain ⟨_, _, rfl, _⟩ := h; rfl) | (obtain ⟨_, _, _, rfl, _⟩ := h; rfl) | (obtain ⟨_, _, _, _, rfl, _⟩ := h; rfl) | (obtain ⟨_, _, _, _, _, rfl, _⟩ := h; rfl) | (obtain ⟨_, _, _, _, _, _, rfl, _⟩ := h; rfl) | (obtain ⟨_, _, _, _, _, _, _, rfl, _⟩ := h; rfl) | (obtain ⟨_, _, _, _, _, _, _, _, rfl, _⟩ := h; rfl)
  · obtain ⟨l, b, L, rfl, hS, l0, l1, hl, q⟩ := h
    have hls := dSym_in l0 l1
    k_call_by "xs" st_distance_cost
    refine ⟨l, rfl, fun _ u1 v1 k1 m1 => ?_, fun z => absurd ⟨l0, l1⟩ z⟩
    have U1 := (same_upd k1).trans (same_upd (o := .tup ([dSym l, dEx (dSym l), l - dBa (dSym l)].map V.int)) m1)
    wtm_at "go"
    exact ⟨v1, b, _, _, _, L, rfl, SqT.of upd_same, U1.seq hS, by omega, by omega, q _ U1⟩
theorem costV_or (L : List Int) (s e : Int) : costV L s e = .non ∧ L.getD s.toNat 0 = 0 ∨ (¬ L.getD s.toNat 0 = 0 ∧ costV L s e = .int (L.getD s.toNat 0 + e)) := by
  unfold costV
  split
  · exact .inl ⟨rfl, by assumption⟩
  · exact .inr ⟨by assumption, rfl⟩
def sp_token_cost (K : PySem.W.Frag) : Sp := fun vs H Q _ => ∃ (a b c : Addr) (t : List Int) (L M : List Int), vs = [.ref a, .ref b, .ref c] ∧ H a = some (.tup (t.map V.int)) ∧ okTok t ∧ SqL K H b (L.map V.int) ∧ SqL K H c (M.map V.int) ∧ 286 ≤ L.length ∧ 30 ≤ M.length ∧ ∀ H', Same H H' → Q (tokV L M t) H'
theorem ok_token_cost (T : Tx K mg) : Cl P w K mg base 6 "token_cost" ["token", "letters", "distances"] (sp_token_cost K) [] := by
  obtain ⟨gm, fd, F⟩ := T.d_token_cost
  refine ⟨_, fd, [], F.ok sc_token_cost (fun vs H Q E h => ?_) (fun cdv A outer s H vs Q E hr h => ⟨_, (PSs.nox (pss_cons (ps_if (pt_cmpR op_eq (pe_callB (lenK K) rfl T.b_len (by decide +kernel) (pa_cons (pv 0) pa_nil)) pe_int (nomark _))
 (pss_one (ps_ret (by exact (pe_cl (ok_literal_cost T) (hr.mono (by decide)) rfl (pa_cons (pe_ix (ixt K) (pv 0) pe_int (fun _ _ => rfl)) (pa_cons (pv 1) pa_nil))))))
 pss_nil)
 (pss_cons (ps_set (i := 3) sc_token_cost.nd rfl (Or.inl rfl) (by exact (pe_cl (ok_length_cost T) (hr.mono (by decide)) rfl (pa_cons (pe_ix (ixt K) (pv 0) pe_int (fun _ _ => rfl)) (pa_cons (pv 1) pa_nil)))))
 (pss_cons (ps_set (i := 4) sc_token_cost.nd rfl (Or.inl rfl) (by exact (pe_cl (ok_distance_cost T) (hr.mono (by decide)) rfl (pa_cons (pe_ix (ixt K) (pv 0) pe_int (fun _ _ => rfl)) (pa_cons (pv 2) pa_nil)))))
 (pss_cons (ps_if (PW.pt (pw_or (pt_cmpR op_isN (pv 3) pe_non (nomark _)) (pw_or1 (pt_cmpR op_isN (pv 4) pe_non (nomark _)))))
 (pss_one (ps_ret (by exact pe_non)))
 pss_nil)
 (pss_one (ps_ret (by exact (pe_op op_add (pv 3) (pv 4)))))))))), ?_⟩), gm, F.kp, F.bindsN (fun _ _ _ _ _ _ us hl => match us, hl with | [_, _, _], _ => rfl), .nil⟩
  · first | (obtain ⟨rfl, _⟩ := h; rfl) | (obtain ⟨_, rfl, _⟩ := h; rfl) | (obtain ⟨_, _, rfl, _⟩ := h; rfl) | (obtain ⟨_, _, _, rfl, _⟩ := h; rfl) | (obtain ⟨_, _, _, _, rfl, _⟩ := h; rfl) | (obtain ⟨_, _, _, _, _, rfl, _⟩ := h; rfl) | (obtain ⟨_, _, _, _, _, _, rfl, _⟩ := h; rfl) | (obtain ⟨_, _, _, _, _, _, _, rfl, _⟩ := h; rfl) | (obtain ⟨_, _, _, _, _, _, _, _, rfl, _⟩ := h; rfl)
  · obtain ⟨a, b, c, t, L, M, rfl, hT, hok, hL, hM, l1, m1, q⟩ := h
    k_call_by "xs" st_token_cost
    rcases okTok_cases hok with ⟨x, rfl, x0, x1⟩ | ⟨l, d, rfl, g0, g1, d0, d1⟩
    · wtm_at "go"
      exact ⟨x, b, L, rfl, hL, x0, by omega, q⟩
    · wtm_at "go"
      refine ⟨l, b, L, rfl, hL, g0, g1, l1, fun G1 s1 => ?_⟩
      have hT1 := s1 _ _ hT
      have hM1 := s1.seq hM
      wtm_at "go"
      refine ⟨d, c, M, rfl, hM1, d0, d1, m1, fun G2 s2 => ?_⟩
      have q := q _ (s1.trans s2)
      change Q (addV (costV L (lSym l) (lEx (lSym l))) (costV M (dSym d) (dEx (dSym d)))) G2 at q
      rcases costV_or L (lSym l) (lEx (lSym l)) with ⟨e, _⟩ | ⟨_, e⟩ <;> rcases costV_or M (dSym d) (dEx (dSym d)) with ⟨f, _⟩ | ⟨_, f⟩ <;> rw [e, f] at q ⊢
      all_goals
        wtm_at "go"
        exact q
def sp__law_cost (K : PySem.W.Frag) : Sp := fun vs H Q _ => ∃ (a b c : Addr) (t : List Int) (L M : List Int), vs = [.ref a, .ref b, .ref c] ∧ H a = some (.tup (t.map V.int)) ∧ okTok t ∧ SqL K H b (L.map V.int) ∧ SqL K H c (M.map V.int) ∧ 286 ≤ L.length ∧ 30 ≤ M.length ∧ ∀ H', Same H H' → Q (tokV L M t) H'
theorem ok__law_cost (T : Tx K mg) : Cl P w K mg base 2 "_law_cost" ["token", "letters", "distances"] (sp__law_cost K) [] := by
  obtain ⟨gm, fd, F⟩ := T.d__law_cost
  refine ⟨_, fd, [], F.ok sc__law_cost (fun vs H Q E h => ?_) (fun cdv A outer s H vs Q E hr h => ⟨_, (PSs.nox (pss_cons (ps_if (pt_cmpR op_eq (pe_callB (lenK K) rfl T.b_len (by decide +kernel) (pa_cons (pv 0) pa_nil)) pe_int (nomark _))
 (pss_cons (ps_if (pt_cmpR op_eq (pe_ix (ixl K) (pv 1) (pe_ix (ixt K) (pv 0) pe_int (fun _ _ => rfl)) (fun _ _ => rfl)) pe_int (nomark _))
 (pss_one (ps_ret (by exact pe_non)))
 pss_nil)
 (pss_one (ps_ret (by exact (pe_ix (ixl K) (pv 1) (pe_ix (ixt K) (pv 0) pe_int (fun _ _ => rfl)) (fun _ _ => rfl))))))
 pss_nil)
 (pss_cons (ps_set (i := 3) sc__law_cost.nd rfl (Or.inl rfl) (by exact (pe_cl (ok__law_length_parts T) (hr.mono (by decide)) rfl (pa_cons (pe_ix (ixt K) (pv 0) pe_int (fun _ _ => rfl)) pa_nil))))
 (pss_cons (ps_set (i := 4) sc__law_cost.nd rfl (Or.inl rfl) (by exact (pe_cl (ok__law_distance_parts T) (hr.mono (by decide)) rfl (pa_cons (pe_ix (ixt K) (pv 0) pe_int (fun _ _ => rfl)) pa_nil))))
 (pss_cons (ps_if (PW.pt (pw_or (pt_cmpR op_eq (pe_ix (ixl K) (pv 1) (pe_ix (ixt K) (pv 3) pe_int (fun _ _ => rfl)) (fun _ _ => rfl)) pe_int (nomark _)) (pw_or1 (pt_cmpR op_eq (pe_ix (ixl K) (pv 2) (pe_ix (ixt K) (pv 4) pe_int (fun _ _ => rfl)) (fun _ _ => rfl)) pe_int (nomark _)))))
 (pss_one (ps_ret (by exact pe_non)))
 pss_nil)
 (pss_one (ps_ret (by exact (pe_op op_add (pe_op op_add (pe_op op_add (pe_ix (ixl K) (pv 1) (pe_ix (ixt K) (pv 3) pe_int (fun _ _ => rfl)) (fun _ _ => rfl)) (pe_ix (ixt K) (pv 3) pe_int (fun _ _ => rfl))) (pe_ix (ixl K) (pv 2) (pe_ix (ixt K) (pv 4) pe_int (fun _ _ => rfl)) (fun _ _ => rfl))) (pe_ix (ixt K) (pv 4) pe_int (fun _ _ => rfl))))))))))), ?_⟩), gm, F.kp, F.bindsN (fun _ _ _ _ _ _ us hl => match us, hl with | [_, _, _], _ => rfl), .nil⟩
  · first | (obtain ⟨rfl, _⟩ := h; rfl) | (obtain ⟨_, rfl, _⟩ := h; rfl) | (obtain ⟨_, _, rfl, _⟩ := h; rfl) | (obtain ⟨_, _, _, rfl, _⟩ := h; rfl) | (obtain ⟨_, _, _, _, rfl, _⟩ := h; rfl) | (obtain ⟨_, _, _, _, _, rfl, _⟩ := h; rfl) | (obtain ⟨_, _, _, _, _, _, rfl, _⟩ := h; rfl) | (obtain ⟨_, _, _, _, _, _, _, rfl, _⟩ := h; rfl) | (obtain ⟨_, _, _, _, _, _, _, _, rfl, _⟩ := h; rfl)
  · obtain ⟨a, b, c, t, L, M, rfl, hT, hok, hL, hM, l1, m1, q⟩ := h
    k_call_by "xs" st__law_cost
    rcases okTok_cases hok with ⟨x, rfl, x0, x1⟩ | ⟨l, d, rfl, g0, g1, d0, d1⟩
    · have q := q H (fun _ _ e => e)
      change Q (costV L x 0) H at q
      unfold costV at q
      wtm_at "go"
      refine sel_d (fun c => ?_) (fun c => ?_)
      · rw [if_pos c] at q
        wtm_at "go"
        exact q
      · rw [if_neg c, Int.add_zero] at q
        wtm_at "go"
        exact q
    · have hls := lSym_in g0 g1
      have hds := dSym_in d0 d1
      wtm_at "go"
      refine ⟨l, rfl, g0, g1, fun u1 k1 => ?_⟩
      have U1 := same_upd (o := .tup ([lSym l, lEx (lSym l), l - lBa (lSym l)].map V.int)) k1
      have hT := U1 _ _ hT
      have hL := U1.seq hL
      have hM := U1.seq hM
      have e1 : (upd H u1 (.tup ([lSym l, lEx (lSym l), l - lBa (lSym l)].map V.int))) u1 = some (.tup ([lSym l, lEx (lSym l), l - lBa (lSym l)].map V.int)) := upd_same
      generalize upd H u1 (.tup ([lSym l, lEx (lSym l), l - lBa (lSym l)].map V.int)) = G1 at *
      wtm_at "go"
      refine ⟨d, rfl, d0, d1, fun u2 k2 => ?_⟩
      have U2 := same_upd (o := .tup ([dSym d, dEx (dSym d), d - dBa (dSym d)].map V.int)) k2
      have e1 := U2 _ _ e1
      have hL := U2.seq hL
      have hM := U2.seq hM
      have e2 : (upd G1 u2 (.tup ([dSym d, dEx (dSym d), d - dBa (dSym d)].map V.int))) u2 = some (.tup ([dSym d, dEx (dSym d), d - dBa (dSym d)].map V.int)) := upd_same
      generalize upd G1 u2 (.tup ([dSym d, dEx (dSym d), d - dBa (dSym d)].map V.int)) = G2 at *
      have q := q _ (U1.trans U2)
      change Q (addV (costV L (lSym l) (lEx (lSym l))) (costV M (dSym d) (dEx (dSym d)))) G2 at q
      rcases costV_or L (lSym l) (lEx (lSym l)) with ⟨e, e'⟩ | ⟨e', e⟩ <;> rcases costV_or M (dSym d) (dEx (dSym d)) with ⟨f, f'⟩ | ⟨f', f⟩ <;> rw [e, f] at q
      · wtm_at "go"
        exact q
      · wtm_at "go"
        exact q
      · wtm_at "go"
        exact q
      · change Q (.int (L.getD (lSym l).toNat 0 + lEx (lSym l) + (M.getD (dSym d).toNat 0 + dEx (dSym d)))) G2 at q
        rw [← Int.add_assoc] at q
        wtm_at "go"
        exact q


end
end K19

namespace K19
open PySem PySem.Spec PyProof.Rows L2 Bel
local macro_rules | `(tactic| wtm_at "xs") => `(tactic| simp only [x_next, x_seq, x_brk, x_cont, x_drop, x_ret, x_retN, x_if, sel_t, sel_f, selE_t, selE_f, selT_t, selT_f, selC_t, selC_f, x_test, x_tB, x_op, x_un, x_var, x_c, x_cb, x_nil, x_cons, x_rI, x_rI0, x_rU, x_rEq, x_rNe, x_rIxL, x_rIxT, x_rSlL, x_rCat, x_rRep, x_rApp, x_bm, x_bm0, x_sl, x_nopart, x_part, x_tup, x_lst, x_call, x_callS, x_asg, x_gname, x_gtup, x_gnil, x_gcons, x_gsub, x_setL, x_aug, x_ipI, x_ipC, x_bits, x_getL, x_augS, x_and, x_or, x_not, x_k, x_andV, x_orV, x_notV, x_ife, x_chain, x_for, x_ilist, x_itup, x_ienum, x_irng1, x_irng2, x_irev, x_lc, x_yes, wipe_nil, wipe_cons, List.map_cons, List.map_nil, x_misc, x_misc2, x_rz, lookup_at, Bool.not_true, Bool.not_false, decide_true, decide_false, not_true, not_false_eq_true, and_assoc, exists_and_left, exists_eq_left', exists_eq_left, exists_eq', exists_eq_right', exists_eq_right, V.int.injEq, V.ref.injEq, V.bl.injEq, V.str.injEq, List.cons.injEq, and_true, true_and, and_self, Option.some.injEq, List.cons_append, List.nil_append, List.append_nil, List.getElem?_cons_zero, List.getElem?_cons_succ, List.set_cons_zero, List.set_cons_succ, reduceCtorEq, false_and, and_false, exists_false, exists_const, or_false, false_or, scal_ii, scal_bb, scal_ss, List.length_cons, List.length_nil, Int.reduceToNat, Int.reducePow])
local macro_rules | `(tactic| k_call_by "xs" $h:term) => `(tactic| simp only [$h:term, x_next, x_seq, x_brk, x_cont, x_drop, x_ret, x_retN, x_if, sel_t, sel_f, selE_t, selE_f, selT_t, selT_f, selC_t, selC_f, x_test, x_tB, x_op, x_un, x_var, x_c, x_cb, x_nil, x_cons, x_rI, x_rI0, x_rU, x_rEq, x_rNe, x_rIxL, x_rIxT, x_rSlL, x_rCat, x_rRep, x_rApp, x_bm, x_bm0, x_sl, x_nopart, x_part, x_tup, x_lst, x_call, x_callS, x_asg, x_gname, x_gtup, x_gnil, x_gcons, x_gsub, x_setL, x_aug, x_ipI, x_ipC, x_bits, x_getL, x_augS, x_and, x_or, x_not, x_k, x_andV, x_orV, x_notV, x_ife, x_chain, x_for, x_ilist, x_itup, x_ienum, x_irng1, x_irng2, x_irev, x_lc, x_yes, wipe_nil, wipe_cons, List.map_cons, List.map_nil, x_misc, x_misc2, x_rz, lookup_at, Bool.not_true, Bool.not_false, decide_true, decide_false, not_true, not_false_eq_true, and_assoc, exists_and_left, exists_eq_left', exists_eq_left, exists_eq', exists_eq_right', exists_eq_right, V.int.injEq, V.ref.injEq, V.bl.injEq, V.str.injEq, List.cons.injEq, and_true, true_and, and_self, Option.some.injEq, List.cons_append, List.nil_append, List.append_nil, List.getElem?_cons_zero, List.getElem?_cons_succ, List.set_cons_zero, List.set_cons_succ, reduceCtorEq, false_and, and_false, exists_false, exists_const, or_false, false_or, scal_ii, scal_bb, scal_ss, List.length_cons, List.length_nil, Int.reduceToNat, Int.reducePow])
local macro_rules | `(tactic| wtm_at "hp") => `(tactic| first | (with_reducible assumption) | exact upd_same | (refine upd_keep (by with_reducible assumption) ?_; wtm_at "hp") | (refine Same.get (by with_reducible assumption) ?_; wtm_at "hp") | (refine upd_other (by first | (with_reducible assumption) | exact Ne.symm (by with_reducible assumption)) ?_; wtm_at "hp"))
local macro_rules | `(tactic| wtm_at "sq") => `(tactic| first | (with_reducible assumption) | exact SqL.of (by wtm_at "hp") | exact SqT.of (by wtm_at "hp") | (refine Same.seq (same_upd (by with_reducible assumption)) ?_; wtm_at "sq") | (refine Same.seq (by with_reducible assumption) ?_; wtm_at "sq") | (refine Same.seqT (same_upd (by with_reducible assumption)) ?_; wtm_at "sq") | (refine Same.seqT (by with_reducible assumption) ?_; wtm_at "sq"))
local macro_rules | `(tactic| wtm_at "cl") => `(tactic| first | (with_reducible assumption) | omega | (exact cmul_r (by omega) (by omega)) | (exact cmul_l (by omega) (by omega)) | (exact cdiv_ok (by omega) (by omega)) | (exact cpow_ok (by decide)) | (exact ⟨by omega, by omega, by omega⟩) | decide | (exact ⟨by omega, by omega⟩) | (simp only [List.length_append, List.length_map, List.length_cons, List.length_nil, rngL_len, sizeLine_eq]; omega) | wtm_at "hp" | wtm_at "sq")
local macro_rules | `(tactic| wtm_at "pf") => `(tactic| first | (with_reducible assumption) | omega | (simp only [List.length_append, List.length_map, List.length_cons, List.length_nil, rngL_len]; omega) | (with_reducible rfl) | (with_reducible trivial) | (with_reducible decide))
local macro_rules | `(tactic| wtm_at "st") => `(tactic| first | ((with_reducible refine g_at ?_); refine at_call (by wtm_at "sq") (by omega) (by omega) (fun _ _ => ?_)) | ((with_reducible refine g_row ?_); refine row_call (by wtm_at "hp") ?_) | ((with_reducible refine g_int ?_); refine int_call ?_) | ((with_reducible refine g_isi ?_); first | (refine isi_int rfl ?_) | (refine isi_lst rfl (by wtm_at "hp") ?_) | (refine isi_tup rfl (by wtm_at "hp") ?_)) | ((with_reducible refine g_ned ?_); refine ned_f (dq_lst (by wtm_at "sq")) (dq_lst (by wtm_at "sq")) ?_) | ((with_reducible refine g_eqd ?_); refine eqd_t (dq_lst (by wtm_at "sq")) (dq_lst (by wtm_at "sq")) ?_) | ((with_reducible refine g_tyv ?_); refine and_tyv (by wtm_at "sq") ?_) | ((with_reducible refine g_asq ?_); refine and_sq (by wtm_at "sq") ?_) | ((with_reducible refine g_lst ?_); refine ex_lst (by wtm_at "hp") ?_) | ((with_reducible refine g_or ?_); first | (refine ex_or (by wtm_at "sq") ?_) | (refine ex_ort (by wtm_at "sq") ?_)) | ((with_reducible refine g_sq ?_); refine ex_sq (by wtm_at "sq") ?_) | ((with_reducible refine g_sqt ?_); refine ex_sqt (by wtm_at "sq") ?_) | ((with_reducible refine gd_sel ?_); first | (refine sel_p (by wtm_at "pf") ?_) | (refine sel_n (by wtm_at "pf") ?_)) | ((with_reducible refine gn_sel ?_); first | (refine selN_p (by wtm_at "pf") ?_) | (refine selN_n (by wtm_at "pf") ?_)) | ((with_reducible refine gd_selT ?_); first | (refine selT_p (by wtm_at "pf") ?_) | (refine selT_n (by wtm_at "pf") ?_)) | ((with_reducible refine gn_selT ?_); first | (refine selTN_p (by wtm_at "pf") ?_) | (refine selTN_n (by wtm_at "pf") ?_)) | ((with_reducible refine gd_selE ?_); first | (refine selE_p (by wtm_at "pf") ?_) | (refine selE_n (by wtm_at "pf") ?_)) | ((with_reducible refine gn_selE ?_); first | (refine selEN_p (by wtm_at "pf") ?_) | (refine selEN_n (by wtm_at "pf") ?_)) | ((with_reducible refine g_xf ?_); refine xf_at rfl (by wtm_at "hp") ?_) | ((with_reducible refine g_atI ?_); refine ex_at (by first | exact rfl | exact atI_int (by omega) (by wtm_at "pf")) ?_) | ((with_reducible refine g_and ?_); refine And.intro (by wtm_at "cl") ?_) | ((with_reducible refine g_new ?_); intro _ _))
local macro_rules | `(tactic| wtm_at "go") => `(tactic| repeat (first | wtm_at "xs" | wtm_at "st"))
section
variable {P : Program} {w : World} {K : PySem.W.Frag} {mg : Str → Option Value} {base : Heap}
theorem rngL_zero : ∀ n : Nat, rngL (fun _ => 0) n = List.replicate n 0
  | 0 => rfl
  | n + 1 => by
    rw [rngL_succ, rngL_zero n, List.replicate_succ']
theorem tokV_form (L M : List Int) : ∀ t, tokV L M t = .non ∨ ∃ i, tokV L M t = .int i
  | [] => .inl rfl
  | [x] => by
    rcases costV_or L x 0 with ⟨e, _⟩ | ⟨_, e⟩
    · exact .inl e
    · exact .inr ⟨_, e⟩
  | [l, d] => by
    rcases costV_or L (lSym l) (lEx (lSym l)) with ⟨e, _⟩ | ⟨_, e⟩ <;> rcases costV_or M (dSym d) (dEx (dSym d)) with ⟨f, _⟩ | ⟨_, f⟩
    · exact .inl (by show addV _ _ = _; rw [e, f]; rfl)
    · exact .inl (by show addV _ _ = _; rw [e, f]; rfl)
    · exact .inl (by show addV _ _ = _; rw [e, f]; rfl)
    · exact .inr ⟨_, by show addV _ _ = _; rw [e, f]; rfl⟩
  | _ :: _ :: _ :: _ => .inl rfl
theorem upd_at {H : Hp} {p : Addr} {o : HO} (_ : H p = none) : upd H p o p = some o := upd_same
def sp_law (K : PySem.W.Frag) : Sp := fun vs H Q _ => ∃ (a : Addr) (ns : List Int), vs = [.ref a] ∧ SqL K H a (ns.map V.int) ∧ ns.length ≤ 63 ∧ ∀ H', Q (.bl true) H'
theorem okf_law (T : Tx K mg) {fd : FuncData} (F : FunD K "law" "law" (defArgs s_law) (defBody s_law) (defScope s_law) [] [] (He.ga K "law") fd) : FnOk P w K mg base (L2.CX P w) 7 (He.ga K "law") fd ["script"] (sp_law K) := by
  refine F.ok sc_law (fun vs H Q E h => ?_) (fun cdv A outer s H vs Q E hr h => ⟨_, (PSs.nox (pss_cons (ps_set (i := 1) sc_law.nd rfl (Or.inr rfl) (by exact (pe_cl (ok__law_draws T) (hr.mono (by decide)) rfl (pa_cons (pv 0) pa_nil))))
 (pss_cons (ps_set (i := 2) sc_law.nd rfl (Or.inl rfl) (by exact (pe_cl (ok__law_tokens T) (hr.mono (by decide)) rfl (pa_cons (pv 1) (pa_cons pe_int (pa_cons (pe_cl (ok__law_at T) (hr.mono (by decide)) rfl (pa_cons (pv 1) (pa_cons pe_int (pa_cons pe_int pa_nil)))) (pa_cons (pe_cl (ok__law_at T) (hr.mono (by decide)) rfl (pa_cons (pv 1) (pa_cons pe_int (pa_cons pe_int pa_nil)))) pa_nil)))))))
 (pss_cons (ps_set (i := 3) sc_law.nd rfl (Or.inl rfl) (by exact (pe_callTy (lstK K) rfl T.b_list (by decide +kernel) (pa_cons (pv 2) pa_nil))))
 (pss_cons (ps_set (i := 4) sc_law.nd rfl (Or.inr rfl) (by exact (pe_callTy call_int1 rfl T.b_int (by decide +kernel) (pa_cons (pe_cmpR op_eq (pe_cl (ok__law_at T) (hr.mono (by decide)) rfl (pa_cons (pv 1) (pa_cons pe_int (pa_cons pe_int pa_nil)))) pe_int (nomark _)) pa_nil))))
 (pss_cons (ps_setLc (i := 5) (own := [("k", 6)]) (g := (gName 6)) (tt := tYes) rfl sc_law.nd rfl rfl (sw_true rfl rfl rfl (by decide +kernel)) (pi_range1 rfl T.b_range (pa_cons (pe_op op_add pe_int (pe_cl (ok__law_at T) (hr.mono (by decide)) rfl (pa_cons (pv 1) (pa_cons pe_int (pa_cons pe_int pa_nil))))) pa_nil)) (blkOk_by (own := [("k", 6)]) (N := N_law) (sc := defScope s_law) (by decide +kernel)) (fun _ _ _ _ _ => pg_name (i := 6) sc_law.nd rfl (Or.inl rfl)) (fun _ _ _ _ _ => pts_nil) (fun _ _ _ _ _ => (pe_op op_add (pv 4) (pe_cl (ok__law_at T) (hr.mono (by decide)) rfl (pa_cons (pv 1) (pa_cons (pe_op op_add pe_int (pe_op op_mod (pe_callTy call_int1 rfl T.b_int (by decide +kernel) (pa_cons (pe_op op_mul pe_int (pv 6)) pa_nil)) pe_int)) (pa_cons pe_int pa_nil)))))))
 (pss_cons (ps_setLc (i := 7) (own := [("k", 6)]) (g := (gName 6)) (tt := tYes) rfl sc_law.nd rfl rfl (sw_true rfl rfl rfl (by decide +kernel)) (pi_range1 rfl T.b_range (pa_cons (pe_op op_add pe_int (pe_cl (ok__law_at T) (hr.mono (by decide)) rfl (pa_cons (pv 1) (pa_cons pe_int (pa_cons pe_int pa_nil))))) pa_nil)) (blkOk_by (own := [("k", 6)]) (N := N_law) (sc := defScope s_law) (by decide +kernel)) (fun _ _ _ _ _ => pg_name (i := 6) sc_law.nd rfl (Or.inl rfl)) (fun _ _ _ _ _ => pts_nil) (fun _ _ _ _ _ => (pe_op op_add (pv 4) (pe_cl (ok__law_at T) (hr.mono (by decide)) rfl (pa_cons (pv 1) (pa_cons (pe_op op_add pe_int (pe_op op_mod (pe_callTy call_int1 rfl T.b_int (by decide +kernel) (pa_cons (pe_op op_mul pe_int (pv 6)) pa_nil)) pe_int)) (pa_cons pe_int pa_nil)))))))
 (pss_cons (ps_setLc (i := 8) (own := [("k", 6)]) (g := (gName 6)) (tt := tYes) rfl sc_law.nd rfl rfl (sw_true rfl rfl rfl (by decide +kernel)) (pi_range1 rfl T.b_range (pa_cons pe_int pa_nil)) (blkOk_by (own := [("k", 6)]) (N := N_law) (sc := defScope s_law) (by decide +kernel)) (fun _ _ _ _ _ => pg_name (i := 6) sc_law.nd rfl (Or.inl rfl)) (fun _ _ _ _ _ => pts_nil) (fun _ _ _ _ _ => pe_int))
 (pss_cons (ps_setLc (i := 9) (own := [("k", 6)]) (g := (gName 6)) (tt := tYes) rfl sc_law.nd rfl rfl (sw_true rfl rfl rfl (by decide +kernel)) (pi_range1 rfl T.b_range (pa_cons pe_int pa_nil)) (blkOk_by (own := [("k", 6)]) (N := N_law) (sc := defScope s_law) (by decide +kernel)) (fun _ _ _ _ _ => pg_name (i := 6) sc_law.nd rfl (Or.inl rfl)) (fun _ _ _ _ _ => pts_nil) (fun _ _ _ _ _ => pe_int))
 (pss_cons (ps_asg pe_int (pg_sub (pv 8) pe_int set_list))
 (pss_cons (ps_for PassesOwn.never rfl (pi_list (pv 2)) (pg_name (i := 10) sc_law.nd rfl (Or.inl rfl))
 (pss_one (ps_if (pt_cmpR op_eq (pe_callB (lenK K) rfl T.b_len (by decide +kernel) (pa_cons (pv 10) pa_nil)) pe_int (nomark _))
 (pss_one (ps_asg (pe_op op_add (pe_ix (ixl K) (pv 8) (pe_ix (ixt K) (pv 10) pe_int (fun _ _ => rfl)) (fun _ _ => rfl)) pe_int) (pg_sub (pv 8) (pe_ix (ixt K) (pv 10) pe_int (fun _ _ => rfl)) set_list)))
 (pss_cons (ps_asg (pe_op op_add (pe_ix (ixl K) (pv 8) (pe_ix (ixt K) (pe_cl (ok__law_length_parts T) (hr.mono (by decide)) rfl (pa_cons (pe_ix (ixt K) (pv 10) pe_int (fun _ _ => rfl)) pa_nil)) pe_int (fun _ _ => rfl)) (fun _ _ => rfl)) pe_int) (pg_sub (pv 8) (pe_ix (ixt K) (pe_cl (ok__law_length_parts T) (hr.mono (by decide)) rfl (pa_cons (pe_ix (ixt K) (pv 10) pe_int (fun _ _ => rfl)) pa_nil)) pe_int (fun _ _ => rfl)) set_list))
 (pss_one (ps_asg (pe_op op_add (pe_ix (ixl K) (pv 9) (pe_ix (ixt K) (pe_cl (ok__law_distance_parts T) (hr.mono (by decide)) rfl (pa_cons (pe_ix (ixt K) (pv 10) pe_int (fun _ _ => rfl)) pa_nil)) pe_int (fun _ _ => rfl)) (fun _ _ => rfl)) pe_int) (pg_sub (pv 9) (pe_ix (ixt K) (pe_cl (ok__law_distance_parts T) (hr.mono (by decide)) rfl (pa_cons (pe_ix (ixt K) (pv 10) pe_int (fun _ _ => rfl)) pa_nil)) pe_int (fun _ _ => rfl)) set_list)))))))
 (pss_cons (ps_set (i := 11) sc_law.nd rfl (Or.inl rfl) (by exact (pe_cl (ok_symbol_counts T) (hr.mono (by decide)) rfl (pa_cons (pv 2) pa_nil))))
 (pss_cons (ps_if (PW.pt (pw_or (pt_not (pt_val (pe_callB (isiK K) rfl T.b_isinstance (by decide +kernel) (pa_cons (pv 11) (pa_cons (pe_bltn (v := .ty "tuple") rfl T.b_tuple (by decide +kernel) rfl) pa_nil))))) (pw_or (pt_cmpR op_ne (pe_callB (lenK K) rfl T.b_len (by decide +kernel) (pa_cons (pv 11) pa_nil)) pe_int (nomark _)) (pw_or (pt_not (pt_val (pe_cl (ok__law_is_row T) (hr.mono (by decide)) rfl (pa_cons (pe_ix (ixt K) (pv 11) pe_int (fun _ _ => rfl)) pa_nil)))) (pw_or1 (pt_not (pt_val (pe_cl (ok__law_is_row T) (hr.mono (by decide)) rfl (pa_cons (pe_ix (ixt K) (pv 11) pe_int (fun _ _ => rfl)) pa_nil)))))))))
 (pss_one (ps_ret (by exact pe_bl)))
 pss_nil)
 (pss_cons (ps_if (PW.pt (pw_or (pt_cmpR (neK K hr.units) (pe_ix (ixt K) (pv 11) pe_int (fun _ _ => rfl)) (pv 8) (nomark _)) (pw_or (pt_cmpR (neK K hr.units) (pe_ix (ixt K) (pv 11) pe_int (fun _ _ => rfl)) (pv 9) (nomark _)) (pw_or1 (pt_cmpR (neK K hr.units) (pv 2) (pv 3) (nomark _))))))
 (pss_one (ps_ret (by exact pe_bl)))
 pss_nil)
 (pss_cons (ps_expr (pe_bm PySem.F.plainAttrs_list PySem.F.slot_list_append PySem.F.type_list_append mt_append (pe_ix (ixt K) (pv 11) pe_int (fun _ _ => rfl)) (pa_cons pe_int pa_nil)))
 (pss_cons (ps_asg pe_int (pg_sub (pe_ix (ixt K) (pv 11) pe_int (fun _ _ => rfl)) pe_int set_list))
 (pss_cons (ps_if (pt_cmpR (neK K hr.units) (pe_cl (ok_symbol_counts T) (hr.mono (by decide)) rfl (pa_cons (pv 2) pa_nil)) (pe_tup (pa_cons (pv 8) (pa_cons (pv 9) pa_nil))) (nomark _))
 (pss_one (ps_ret (by exact pe_bl)))
 pss_nil)
 (pss_cons (ps_for PassesOwn.never rfl (pi_list (pe_op op_cat (pv 2) (pe_lst (pa_cons (pe_tup (pa_cons pe_int (pa_cons pe_int pa_nil))) (pa_cons (pe_tup (pa_cons pe_int (pa_cons pe_int pa_nil))) (pa_cons (pe_tup (pa_cons pe_int pa_nil)) (pa_cons (pe_tup (pa_cons (pe_cl (ok__law_at T) (hr.mono (by decide)) rfl (pa_cons (pv 1) (pa_cons pe_int (pa_cons pe_int pa_nil)))) pa_nil)) pa_nil))))))) (pg_name (i := 10) sc_law.nd rfl (Or.inl rfl))
 (pss_cons (ps_set (i := 12) sc_law.nd rfl (Or.inl rfl) (by exact (pe_cl (ok__law_cost T) (hr.mono (by decide)) rfl (pa_cons (pv 10) (pa_cons (pv 5) (pa_cons (pv 7) pa_nil))))))
 (pss_cons (ps_set (i := 13) sc_law.nd rfl (Or.inl rfl) (by exact (pe_cl (ok_token_cost T) (hr.mono (by decide)) rfl (pa_cons (pv 10) (pa_cons (pv 5) (pa_cons (pv 7) pa_nil))))))
 (pss_one (ps_if (pt_cmpR op_isN (pv 12) pe_non (nomark _))
 (pss_one (ps_if (pt_cmpR op_notN (pv 13) pe_non (nomark _))
 (pss_one (ps_ret (by exact pe_bl)))
 pss_nil))
 (pss_one (ps_if (PW.pt (pw_or (pt_not (pt_val (pe_cl (ok__law_is_integer T) (hr.mono (by decide)) rfl (pa_cons (pv 13) pa_nil)))) (pw_or1 (pt_cmpR op_ne (pv 13) (pv 12) (nomark _)))))
 (pss_one (ps_ret (by exact pe_bl)))
 pss_nil)))))))
 (pss_one (ps_ret (by exact pe_bl))))))))))))))))))))), ?_⟩)
  · first | (obtain ⟨rfl, _⟩ := h; rfl) | (obtain ⟨_, rfl, _⟩ := h; rfl) | (obtain ⟨_, _, rfl, _⟩ := h; rfl) | (obtain ⟨_, _, _, rfl, _⟩ := h; rfl) | (obtain ⟨_, _, _, _, rfl, _⟩ := h; rfl) | (obtain ⟨_, _, _, _, _, rfl, _⟩ := h; rfl) | (obtain ⟨_, _, _, _, _, _, rfl, _⟩ := h; rfl) | (obtain ⟨_, _, _, _, _, _, _, rfl, _⟩ := h; rfl) | (obtain ⟨_, _, _, _, _, _, _, _, rfl, _⟩ := h; rfl)
  · obtain ⟨a, ns, rfl, hS, hlen, q⟩ := h
    k_call_by "xs" st_law
    refine ⟨a, ns, rfl, hS, hlen, fun ds p H1 hd hs hp hl => ?_⟩
    wtm_at "go"
    rename_i m0 m1 k0 k1
    refine ⟨p, ds, 40, (atD ds 0 15).toNat, (atD ds 1 4000).toNat, by rw [Int.toNat_of_nonneg m0, Int.toNat_of_nonneg k0], SqL.of hl, by decide, by omega, by omega, fun ts pt G s hpt hT hlt hL hok => ?_⟩
    have gp : G p = some (.lst (ds.map V.int)) := s _ _ hl
    obtain ⟨us, hu, hT⟩ := hT
    clear s
    wtm_at "go"
    rename_i pk hpk b0 b1 n0 n1 pl hpl
    refine comp_rngY (fun i => (if decide (atD ds 2 4 = 1) = true then 1 else 0) + atD ds (4 + 7 * (0 + (i : Int)) % 20) 15) (fun i hi => ?_) ?_
    · wtm_at "go"
      exact cp (by omega) rfl
    generalize hLe : rngL (fun i : Nat => (if decide (atD ds 2 4 = 1) = true then 1 else 0) + atD ds (4 + 7 * (0 + (i : Int)) % 20) 15) _ = L
    have lL : 286 ≤ L.length := by
      rw [← hLe, rngL_len]
      omega
    have lL2 : L.length ≤ 288 := by
      rw [← hLe, rngL_len]
      omega
    clear hLe
    have gp := upd_keep (o := .lst (L.map V.int)) hpl (upd_keep (o := .lst us) hpk gp)
    have hu := upd_keep (o := .lst (L.map V.int)) hpl (upd_keep (o := .lst us) hpk hu)
    have hT := (hT.same (same_upd (o := .lst us) hpk)).same (same_upd (o := .lst (L.map V.int)) hpl)
    have hk : (upd (upd G pk (.lst us)) pl (.lst (L.map V.int))) pk = some (.lst us) := upd_keep hpl upd_same
    have hLL : (upd (upd G pk (.lst us)) pl (.lst (L.map V.int))) pl = some (.lst (L.map V.int)) := upd_same
    generalize (upd (upd G pk (.lst us)) pl (.lst (L.map V.int))) = G at *
    wtm_at "go"
    rename_i o0 o1 pm hpm
    refine comp_rngY (fun i => (if decide (atD ds 2 4 = 1) = true then 1 else 0) + atD ds (24 + 5 * (0 + (i : Int)) % 14) 15) (fun i hi => ?_) ?_
    · wtm_at "go"
      exact cp (by omega) rfl
    generalize hLe : rngL (fun i : Nat => (if decide (atD ds 2 4 = 1) = true then 1 else 0) + atD ds (24 + 5 * (0 + (i : Int)) % 14) 15) _ = M
    have lM : 30 ≤ M.length := by
      rw [← hLe, rngL_len]
      omega
    clear hLe
    have gp := upd_keep (o := .lst (M.map V.int)) hpm gp
    have hu := upd_keep (o := .lst (M.map V.int)) hpm hu
    have hT := hT.same (same_upd (o := .lst (M.map V.int)) hpm)
    have hk := upd_keep (o := .lst (M.map V.int)) hpm hk
    have hLL := upd_keep (o := .lst (M.map V.int)) hpm hLL
    have hMM : (upd G pm (.lst (M.map V.int))) pm = some (.lst (M.map V.int)) := upd_same
    generalize (upd G pm (.lst (M.map V.int))) = G at *
    wtm_at "go"
    rename_i po hpo
    refine comp_rngY (fun _ => 0) (fun i hi => ?_) ?_
    · wtm_at "go"
      exact cp (by have : i < 286 := hi; omega) rfl
    rw [rngL_zero]
    wtm_at "go"
    rename_i pw hpw
    refine comp_rngY (fun _ => 0) (fun i hi => ?_) ?_
    · wtm_at "go"
      exact cp (by have : i < 30 := hi; omega) rfl
    rw [rngL_zero]
    wtm_at "go"
    refine ⟨256, by rw [List.length_map]; rfl, ?_⟩
    rw [set_ints]
    generalize (if decide (atD ds 2 4 = 1) = true then (1 : Int) else 0) = B at *
    have S3 : Same G (upd (upd G po (.lst ((List.replicate 286 (0 : Int)).map V.int))) pw (.lst ((List.replicate 30 (0 : Int)).map V.int))) := (same_upd hpo).trans (same_upd hpw)
    have now : po ≠ pw := ne_of_none upd_same hpw
    have hpw0 : G pw = none := (same_upd hpo).free hpw
    have w2 := upd_other (o := .lst (((List.replicate 286 (0 : Int)).set 256 1).map V.int)) (Ne.symm now) (show (upd (upd G po (.lst ((List.replicate 286 (0 : Int)).map V.int))) pw (.lst ((List.replicate 30 (0 : Int)).map V.int))) pw = some (.lst ((List.replicate 30 (0 : Int)).map V.int)) from upd_same)
    have S4 := same_put (o := .lst (((List.replicate 286 (0 : Int)).set 256 1).map V.int)) S3 hpo
    have w1 : (upd (upd (upd G po (.lst ((List.replicate 286 (0 : Int)).map V.int))) pw (.lst ((List.replicate 30 (0 : Int)).map V.int))) po (.lst (((List.replicate 286 (0 : Int)).set 256 1).map V.int))) po = some (.lst (((List.replicate 286 (0 : Int)).set 256 1).map V.int)) := upd_same
    generalize (upd (upd (upd G po (.lst ((List.replicate 286 (0 : Int)).map V.int))) pw (.lst ((List.replicate 30 (0 : Int)).map V.int))) po (.lst (((List.replicate 286 (0 : Int)).set 256 1).map V.int))) = G4 at *
    refine ⟨⟨_, SqL.of (S4 _ _ hu)⟩, loop_list (xs := us) (fun i σ H' => ∃ y10, σ = [some (.ref a), some (.ref p), some (.ref pt), some (.ref pk), some (.int B), some (.ref pl), none, some (.ref pm), some (.ref po), some (.ref pw), y10, none, none, none] ∧ Same G H' ∧ H' po = some (.lst ((counts (ts.take i)).1.map V.int)) ∧ H' pw = some (.lst ((counts (ts.take i)).2.map V.int))) ⟨none, rfl, S4, w1, w2⟩ (fun i σ H' _ ⟨_, _, s, _⟩ => SqL.of (s _ _ hu)) ?_ ?_⟩
    · rintro i x σ G2 hx ⟨y10, rfl, s, e1, e2⟩
      obtain ⟨r, t, rfl, ht, er⟩ := hT.get hx
      have er2 := s _ _ er
      rw [counts_snoc ht]
      have hl := counts_len (ts.take i)
      generalize counts (ts.take i) = c at *
      obtain ⟨c1, c2⟩ := c
      dsimp only at e1 e2 hl
      rcases okTok_cases (hok t (List.mem_of_getElem? ht)) with ⟨x, rfl, x0, x1⟩ | ⟨l, d, rfl, l0, l1, d0, d1⟩
      · wtm_at "go"
        exact ⟨x.toNat, ixN_ok x0 (by rw [List.length_map]; omega), same_put s hpo, by rw [upd_same]; exact congrArg (fun l => some (HO.lst l)) bump_put, upd_other (Ne.symm now) e2⟩
      · have hls := lSym_in l0 l1
        have hds := dSym_in d0 d1
        wtm_at "go"
        refine ⟨l, rfl, l0, l1, fun u1 k1 => ?_⟩
        have U := same_upd (o := .tup ([lSym l, lEx (lSym l), l - lBa (lSym l)].map V.int)) k1
        have e1 := U _ _ e1
        have e2 := U _ _ e2
        have er2 := U _ _ er2
        have s := s.trans U
        have ev : (upd G2 u1 (.tup ([lSym l, lEx (lSym l), l - lBa (lSym l)].map V.int))) u1 = some (.tup ([lSym l, lEx (lSym l), l - lBa (lSym l)].map V.int)) := upd_same
        generalize (upd G2 u1 (.tup ([lSym l, lEx (lSym l), l - lBa (lSym l)].map V.int))) = G2 at *
        wtm_at "go"
        refine ⟨l, rfl, l0, l1, fun u2 k2 => ?_⟩
        have U := same_upd (o := .tup ([lSym l, lEx (lSym l), l - lBa (lSym l)].map V.int)) k2
        have e1 := U _ _ e1
        have e2 := U _ _ e2
        have er2 := U _ _ er2
        have s := s.trans U
        have ev : (upd G2 u2 (.tup ([lSym l, lEx (lSym l), l - lBa (lSym l)].map V.int))) u2 = some (.tup ([lSym l, lEx (lSym l), l - lBa (lSym l)].map V.int)) := upd_same
        generalize (upd G2 u2 (.tup ([lSym l, lEx (lSym l), l - lBa (lSym l)].map V.int))) = G2 at *
        wtm_at "go"
        refine ⟨(lSym l).toNat, ixN_ok (by omega) (by rw [List.length_map]; omega), ?_⟩
        rw [bump_put]
        have e1 : (upd G2 po (.lst ((bump c1 (lSym l)).map V.int))) po = some (.lst ((bump c1 (lSym l)).map V.int)) := upd_same
        have e2 := upd_other (o := .lst ((bump c1 (lSym l)).map V.int)) (Ne.symm now) e2
        have s := same_put (o := .lst ((bump c1 (lSym l)).map V.int)) s hpo
        have er2 := s _ _ er
        generalize upd G2 po (.lst ((bump c1 (lSym l)).map V.int)) = G2 at *
        wtm_at "go"
        refine ⟨d, rfl, d0, d1, fun u3 k3 => ?_⟩
        have U := same_upd (o := .tup ([dSym d, dEx (dSym d), d - dBa (dSym d)].map V.int)) k3
        have e1 := U _ _ e1
        have e2 := U _ _ e2
        have er2 := U _ _ er2
        have s := s.trans U
        have ev : (upd G2 u3 (.tup ([dSym d, dEx (dSym d), d - dBa (dSym d)].map V.int))) u3 = some (.tup ([dSym d, dEx (dSym d), d - dBa (dSym d)].map V.int)) := upd_same
        generalize (upd G2 u3 (.tup ([dSym d, dEx (dSym d), d - dBa (dSym d)].map V.int))) = G2 at *
        wtm_at "go"
        refine ⟨d, rfl, d0, d1, fun u4 k4 => ?_⟩
        have U := same_upd (o := .tup ([dSym d, dEx (dSym d), d - dBa (dSym d)].map V.int)) k4
        have e1 := U _ _ e1
        have e2 := U _ _ e2
        have er2 := U _ _ er2
        have s := s.trans U
        have ev : (upd G2 u4 (.tup ([dSym d, dEx (dSym d), d - dBa (dSym d)].map V.int))) u4 = some (.tup ([dSym d, dEx (dSym d), d - dBa (dSym d)].map V.int)) := upd_same
        generalize (upd G2 u4 (.tup ([dSym d, dEx (dSym d), d - dBa (dSym d)].map V.int))) = G2 at *
        wtm_at "go"
        exact ⟨(dSym d).toNat, ixN_ok (by omega) (by rw [List.length_map]; omega), same_put s hpw0, upd_other now e1, by rw [upd_same]; exact congrArg (fun l => some (HO.lst l)) bump_put⟩
    · rintro σ G2 ⟨y10, rfl, s, e1, e2⟩
      rw [hT.len, List.take_length] at e1 e2
      have gp := s _ _ gp
      have hu := s _ _ hu
      have hk := s _ _ hk
      have hLL := s _ _ hLL
      have hMM := s _ _ hMM
      have hT := hT.same s
      clear s S4 w1 w2 S3
      have hcl := counts_len ts
      wtm_at "go"
      refine ⟨pt, ts, rfl, ⟨us, hu, hT⟩, hok, fun p1 p2 qq G3 s3 f1 f2 f3 n12 t1 t2 t3 => ?_⟩
      have m1 := ne_of_none gp f1
      have m2 := ne_of_none hu f1
      have m3 := ne_of_none hk f1
      have m4 := ne_of_none hLL f1
      have m5 := ne_of_none hMM f1
      have m6 := ne_of_none e1 f1
      have m7 := ne_of_none e2 f1
      have r1 := ne_of_none gp f2
      have r2 := ne_of_none hu f2
      have r3 := ne_of_none hk f2
      have r4 := ne_of_none hLL f2
      have r5 := ne_of_none hMM f2
      have r6 := ne_of_none e1 f2
      have r7 := ne_of_none e2 f2
      have gp := s3 _ _ gp
      have hu := s3 _ _ hu
      have hk := s3 _ _ hk
      have hLL := s3 _ _ hLL
      have hMM := s3 _ _ hMM
      have e1 := s3 _ _ e1
      have e2 := s3 _ _ e2
      have hT := hT.same s3
      clear s3 f1 f2 f3
      generalize hc : counts ts = c at *
      obtain ⟨c1, c2⟩ := c
      dsimp only at e1 e2 t1 t2 hcl
      wtm_at "go"
      refine ned_f (dq_toks (SqL.of hu) hT) (dq_toks (SqL.of hk) hT) ?_
      have z1 : qq ≠ p1 := fun e => by
        rw [e, t1] at t3
        cases t3
      have z2 : qq ≠ p2 := fun e => by
        rw [e, t2] at t3
        cases t3
      wtm_at "go"
      refine ⟨0, ixN_ok (by decide) (by rw [List.length_map]; omega), ?_⟩
      have gp := upd_other (o := .lst ((c2.map V.int).set 0 (V.int 7))) r1 (upd_other (o := .lst (c1.map V.int ++ [V.int 5])) m1 gp)
      have hk := upd_other (o := .lst ((c2.map V.int).set 0 (V.int 7))) r3 (upd_other (o := .lst (c1.map V.int ++ [V.int 5])) m3 hk)
      have hu := upd_other (o := .lst ((c2.map V.int).set 0 (V.int 7))) r2 (upd_other (o := .lst (c1.map V.int ++ [V.int 5])) m2 hu)
      have hLL := upd_other (o := .lst ((c2.map V.int).set 0 (V.int 7))) r4 (upd_other (o := .lst (c1.map V.int ++ [V.int 5])) m4 hLL)
      have hMM := upd_other (o := .lst ((c2.map V.int).set 0 (V.int 7))) r5 (upd_other (o := .lst (c1.map V.int ++ [V.int 5])) m5 hMM)
      have e1 := upd_other (o := .lst ((c2.map V.int).set 0 (V.int 7))) r6 (upd_other (o := .lst (c1.map V.int ++ [V.int 5])) m6 e1)
      have e2 := upd_other (o := .lst ((c2.map V.int).set 0 (V.int 7))) r7 (upd_other (o := .lst (c1.map V.int ++ [V.int 5])) m7 e2)
      have hT := (hT.put (o := .lst (c1.map V.int ++ [V.int 5])) t1).put (o := .lst ((c2.map V.int).set 0 (V.int 7))) (upd_other (Ne.symm n12) t2)
      clear m1 m2 m3 m4 m5 m6 m7 r1 r2 r3 r4 r5 r6 r7
      generalize (upd (upd G3 p1 (.lst (c1.map V.int ++ [V.int 5]))) p2 (.lst ((c2.map V.int).set 0 (V.int 7)))) = G3 at *
      wtm_at "go"
      refine ⟨pt, ts, rfl, ⟨us, hu, hT⟩, hok, fun p3 p4 q4 G5 s5 f1 f2 f3 n34 t5 t6 t7 => ?_⟩
      rw [hc] at t5 t6
      dsimp only at t5 t6
      have gp := s5 _ _ gp
      have hu := s5 _ _ hu
      have hk := s5 _ _ hk
      have hLL := s5 _ _ hLL
      have hMM := s5 _ _ hMM
      have e1 := s5 _ _ e1
      have e2 := s5 _ _ e2
      have hT := hT.same s5
      clear s5 f1 f2 f3
      wtm_at "go"
      rename_i q5 hq5
      have U := same_upd (o := .tup [V.ref po, V.ref pw]) hq5
      refine ned_f (dq_pair (SqT.of (U _ _ t7)) (SqL.of (U _ _ t5)) (SqL.of (U _ _ t6))) (dq_pair (SqT.of upd_same) (SqL.of (U _ _ e1)) (SqL.of (U _ _ e2))) ?_
      have gp := U _ _ gp
      have hu := U _ _ hu
      have hLL := U _ _ hLL
      have hMM := U _ _ hMM
      have hT := hT.same U
      generalize (upd G5 q5 (.tup [V.ref po, V.ref pw])) = G5 at *
      wtm_at "go"
      rename_i A1 h1 A2 h2 A3 h3 y0 y1 A4 h4 Al h5
      refine ⟨by have := hT.len; rw [sizeLine_eq]; show us.length + 4 ≤ _; omega, fun qn hqn => ?_⟩
      have S1 := same_upd (o := .tup [V.int 258, V.int 32768]) h1
      have S2 := same_upd (o := .tup [V.int 3, V.int 1]) h2
      have S3 := same_upd (o := .tup [V.int 255]) h3
      have S4 := same_upd (o := .tup [V.int (atD ds 39 256)]) h4
      have S5 := same_upd (o := .lst [V.ref A1, V.ref A2, V.ref A3, V.ref A4]) h5
      have S6 := same_upd (o := .lst (us ++ [V.ref A1, V.ref A2, V.ref A3, V.ref A4])) hqn
      have S456 := (S4.trans S5).trans S6
      have S3456 := S3.trans S456
      have S23456 := S2.trans S3456
      have S0 := S1.trans S23456
      have gp := S0 _ _ gp
      have hLL := S0 _ _ hLL
      have hMM := S0 _ _ hMM
      have hTx := (hT.same S0).append (.cons (t := [258, 32768]) (S23456 _ _ upd_same) (.cons (t := [3, 1]) (S3456 _ _ upd_same) (.cons (t := [255]) (S456 _ _ upd_same) (.cons (t := [atD ds 39 256]) ((S5.trans S6) _ _ upd_same) .nil))))
      have hqn' := upd_at (o := .lst (us ++ [V.ref A1, V.ref A2, V.ref A3, V.ref A4])) hqn
      have hokx : ∀ t ∈ ts ++ [[258, 32768], [3, 1], [255], [atD ds 39 256]], okTok t := by
        intro t ht
        rcases List.mem_append.mp ht with m | m
        · exact hok t m
        · simp only [List.mem_cons, List.not_mem_nil, or_false] at m
          rcases m with rfl | rfl | rfl | rfl
          · exact ⟨by decide, by decide, by decide, by decide⟩
          · exact ⟨by decide, by decide, by decide, by decide⟩
          · exact ⟨by decide, by decide⟩
          · exact ⟨y0, y1⟩
      clear S1 S2 S3 S4 S5 S6 S456 S3456 S23456 S0 hT
      revert gp hLL hMM hTx hqn'
      generalize upd _ qn _ = Gf
      intro gp hLL hMM hTx hqn'
      refine ⟨⟨_, SqL.of hqn'⟩, loop_list (xs := us ++ [V.ref A1, V.ref A2, V.ref A3, V.ref A4]) (fun i σ H' => ∃ y10 y12 y13, σ = [some (.ref a), some (.ref p), some (.ref pt), some (.ref pk), some (.int B), some (.ref pl), none, some (.ref pm), some (.ref po), some (.ref pw), y10, some (.ref qq), y12, y13] ∧ Same Gf H') ⟨_, _, _, rfl, fun _ _ e => e⟩ (fun i σ H' _ ⟨_, _, _, _, s⟩ => SqL.of (s _ _ hqn')) ?_ ?_⟩
      · rintro i x σ G6 hx ⟨y10, y12, y13, rfl, s⟩
        obtain ⟨r, t, rfl, ht, er⟩ := hTx.get hx
        have hot := hokx t (List.mem_of_getElem? ht)
        wtm_at "go"
        refine ⟨r, pl, pm, t, L, M, rfl, s _ _ er, hot, SqL.of (s _ _ hLL), SqL.of (s _ _ hMM), lL, lM, fun G7 s7 => ?_⟩
        have s := s.trans s7
        wtm_at "go"
        refine ⟨r, pl, pm, t, L, M, rfl, s _ _ er, hot, SqL.of (s _ _ hLL), SqL.of (s _ _ hMM), lL, lM, fun G8 s8 => ?_⟩
        have s := s.trans s8
        wtm_at "go"
        rcases tokV_form L M t with e | ⟨j, e⟩
        · rw [e]
          wtm_at "go"
          exact s
        · rw [e]
          wtm_at "go"
          exact s
      · rintro σ G6 ⟨y10, y12, y13, rfl, s⟩
        wtm_at "go"
        exact q _


end
end K19

namespace K19
open PySem PySem.Spec PyProof.Rows L2 Bel
def fa : List He.Fa := [.glo "_law_draws", .glo "_law_at", .glo "_law_is_integer", .glo "_law_is_row", .glo "length_base", .glo "distance_base", .glo "_length_symbol", .glo "_distance_symbol", .glo "length_parts", .glo "distance_parts", .glo "_law_length_parts", .glo "_law_distance_parts", .glo "_law_tokens", .glo "symbol_counts", .glo "_cost_of_parts", .glo "literal_cost", .glo "length_cost", .glo "distance_cost", .glo "token_cost", .glo "_law_cost", .glo "law", .free "abs", .free "bool", .free "int", .free "isinstance", .free "len", .free "list", .free "min", .free "range", .free "tuple"]
def fn : List He.DefD := [⟨("_law_draws", none), "_law_draws", "_law_draws", defArgs s__law_draws, defBody s__law_draws, defScope s__law_draws, [], []⟩, ⟨("_law_at", none), "_law_at", "_law_at", defArgs s__law_at, defBody s__law_at, defScope s__law_at, [], []⟩, ⟨("_law_is_integer", none), "_law_is_integer", "_law_is_integer", defArgs s__law_is_integer, defBody s__law_is_integer, defScope s__law_is_integer, [], []⟩, ⟨("_law_is_row", none), "_law_is_row", "_law_is_row", defArgs s__law_is_row, defBody s__law_is_row, defScope s__law_is_row, [], []⟩, ⟨("length_base", none), "length_base", "length_base", defArgs s_length_base, defBody s_length_base, defScope s_length_base, [], []⟩, ⟨("distance_base", none), "distance_base", "distance_base", defArgs s_distance_base, defBody s_distance_base, defScope s_distance_base, [], []⟩, ⟨("_length_symbol", none), "_length_symbol", "_length_symbol", defArgs s__length_symbol, defBody s__length_symbol, defScope s__length_symbol, [], []⟩, ⟨("_distance_symbol", none), "_distance_symbol", "_distance_symbol", defArgs s__distance_symbol, defBody s__distance_symbol, defScope s__distance_symbol, [], []⟩, ⟨("length_parts", none), "length_parts", "length_parts", defArgs s_length_parts, defBody s_length_parts, defScope s_length_parts, [], []⟩, ⟨("distance_parts", none), "distance_parts", "distance_parts", defArgs s_distance_parts, defBody s_distance_parts, defScope s_distance_parts, [], []⟩, ⟨("_law_length_parts", none), "_law_length_parts", "_law_length_parts", defArgs s__law_length_parts, defBody s__law_length_parts, defScope s__law_length_parts, [], []⟩, ⟨("_law_distance_parts", none), "_law_distance_parts", "_law_distance_parts", defArgs s__law_distance_parts, defBody s__law_distance_parts, defScope s__law_distance_parts, [], []⟩, ⟨("_law_tokens", none), "_law_tokens", "_law_tokens", defArgs s__law_tokens, defBody s__law_tokens, defScope s__law_tokens, [], []⟩, ⟨("symbol_counts", none), "symbol_counts", "symbol_counts", defArgs s_symbol_counts, defBody s_symbol_counts, defScope s_symbol_counts, [], []⟩, ⟨("_cost_of_parts", none), "_cost_of_parts", "_cost_of_parts", defArgs s__cost_of_parts, defBody s__cost_of_parts, defScope s__cost_of_parts, [], []⟩, ⟨("literal_cost", none), "literal_cost", "literal_cost", defArgs s_literal_cost, defBody s_literal_cost, defScope s_literal_cost, [], []⟩, ⟨("length_cost", none), "length_cost", "length_cost", defArgs s_length_cost, defBody s_length_cost, defScope s_length_cost, [], []⟩, ⟨("distance_cost", none), "distance_cost", "distance_cost", defArgs s_distance_cost, defBody s_distance_cost, defScope s_distance_cost, [], []⟩, ⟨("token_cost", none), "token_cost", "token_cost", defArgs s_token_cost, defBody s_token_cost, defScope s_token_cost, [], []⟩, ⟨("_law_cost", none), "_law_cost", "_law_cost", defArgs s__law_cost, defBody s__law_cost, defScope s__law_cost, [], []⟩, ⟨("law", none), "law", "law", defArgs s_law, defBody s_law, defScope s_law, [], []⟩, ⟨("BellowsError", some "__init__"), "__init__", "BellowsError.__init__", defArgs s_BellowsError___init__, defBody s_BellowsError___init__, defScope s_BellowsError___init__, [], []⟩]
def ck (K : PySem.W.Frag) : List Bool := [exFB K "OutOfRange", decide (PySem.W.typeIn K (.ref (He.ma K (He.ga K "BellowsError") "__init__")) = some (.type "function")), cvB K "LEAST_LENGTH" (.int (3)), cvB K "MOST_LENGTH" (.int (258)), cvB K "MOST_DISTANCE" (.int (32768)), cvB K "LAST_LETTER" (.int (285)), cvB K "LETTER_COUNT" (.int (286)), cvB K "DISTANCE_COUNT" (.int (30)), cvB K "END_OF_BLOCK" (.int (256))]
def ex (K : PySem.W.Frag) : Bool := (ck K).all id
abbrev R : PySem.W.OpenRow := PySem.W.OpenLaw.row PySem.Challenge.rw_bellows_k19_counts_and_costs
abbrev hk : PySem.W.Hook := He.hookX 4 fa fn [] [] ex
def ob (s : PySem.W.SharedT) : He.AlX := He.obsX 4 fa fn [] [] ex (HandSHeadRun.getT s)
theorem ob_eq (s : PySem.W.SharedT) : ob s = hk.obs s.abs := He.obsX_eq (HandSHeadRun.getT_eq s)
def loose : List Str := (["BellowsError", "DISTANCE_COUNT", "END_OF_BLOCK", "LAST_LETTER", "LEAST_LENGTH", "LETTER_COUNT", "MOST_DISTANCE", "MOST_LENGTH", "OutOfRange", "_cost_of_parts", "_distance_symbol", "_law_at", "_law_cost", "_law_distance_parts", "_law_draws", "_law_is_integer", "_law_is_row", "_law_length_parts", "_law_tokens", "_length_symbol", "distance_base", "distance_cost", "distance_parts", "length_base", "length_cost", "length_parts", "literal_cost", "symbol_counts", "token_cost"] : List Str)
theorem run (w : World) : HandSHeadRun.RunEq R (PySem.W.view R.prog [33]) hk ob 2000 loose w := by
  intro os
  kernel_rfl
theorem tx_of {w : World} {K : PySem.W.Frag} {h : Heap} {mg : Str → Option Value} (X : K.In h) (G : h.Ns mainGlobals mg) (c : He.SaysX fa fn [] [] ex w h K) : Tx K mg := by
  have hf : ∀ {f : He.Fa}, f ∈ fa → f.ok K = true := fun m => He.SaysD.facts c.t.d m
  have hx : ∀ (i : Nat) {b : Bool}, (ck K)[i]? = some b → b = true := fun i b e => List.all_eq_true.mp c.more b (List.mem_of_getElem? e)
  exact ⟨He.free_ok X G (hf (List.mem_of_getElem? (i := 21) rfl)),
    He.free_ok X G (hf (List.mem_of_getElem? (i := 22) rfl)),
    He.free_ok X G (hf (List.mem_of_getElem? (i := 23) rfl)),
    He.free_ok X G (hf (List.mem_of_getElem? (i := 24) rfl)),
    He.free_ok X G (hf (List.mem_of_getElem? (i := 25) rfl)),
    He.free_ok X G (hf (List.mem_of_getElem? (i := 26) rfl)),
    He.free_ok X G (hf (List.mem_of_getElem? (i := 27) rfl)),
    He.free_ok X G (hf (List.mem_of_getElem? (i := 28) rfl)),
    He.free_ok X G (hf (List.mem_of_getElem? (i := 29) rfl)),
    cvB_ok X G (hx 2 rfl),
    cvB_ok X G (hx 3 rfl),
    cvB_ok X G (hx 4 rfl),
    cvB_ok X G (hx 5 rfl),
    cvB_ok X G (hx 6 rfl),
    cvB_ok X G (hx 7 rfl),
    cvB_ok X G (hx 8 rfl),
    exFB_ok X G (hx 0 rfl),
    ⟨He.glo_ok X G (hf (List.mem_of_getElem? (i := 0) rfl)), He.SaysD.defs c.t.d (d := fn[0]) (List.mem_of_getElem? (i := 0) rfl)⟩,
    ⟨He.glo_ok X G (hf (List.mem_of_getElem? (i := 1) rfl)), He.SaysD.defs c.t.d (d := fn[1]) (List.mem_of_getElem? (i := 1) rfl)⟩,
    ⟨He.glo_ok X G (hf (List.mem_of_getElem? (i := 2) rfl)), He.SaysD.defs c.t.d (d := fn[2]) (List.mem_of_getElem? (i := 2) rfl)⟩,
    ⟨He.glo_ok X G (hf (List.mem_of_getElem? (i := 3) rfl)), He.SaysD.defs c.t.d (d := fn[3]) (List.mem_of_getElem? (i := 3) rfl)⟩,
    ⟨He.glo_ok X G (hf (List.mem_of_getElem? (i := 4) rfl)), He.SaysD.defs c.t.d (d := fn[4]) (List.mem_of_getElem? (i := 4) rfl)⟩,
    ⟨He.glo_ok X G (hf (List.mem_of_getElem? (i := 5) rfl)), He.SaysD.defs c.t.d (d := fn[5]) (List.mem_of_getElem? (i := 5) rfl)⟩,
    ⟨He.glo_ok X G (hf (List.mem_of_getElem? (i := 6) rfl)), He.SaysD.defs c.t.d (d := fn[6]) (List.mem_of_getElem? (i := 6) rfl)⟩,
    ⟨He.glo_ok X G (hf (List.mem_of_getElem? (i := 7) rfl)), He.SaysD.defs c.t.d (d := fn[7]) (List.mem_of_getElem? (i := 7) rfl)⟩,
    ⟨He.glo_ok X G (hf (List.mem_of_getElem? (i := 8) rfl)), He.SaysD.defs c.t.d (d := fn[8]) (List.mem_of_getElem? (i := 8) rfl)⟩,
    ⟨He.glo_ok X G (hf (List.mem_of_getElem? (i := 9) rfl)), He.SaysD.defs c.t.d (d := fn[9]) (List.mem_of_getElem? (i := 9) rfl)⟩,
    ⟨He.glo_ok X G (hf (List.mem_of_getElem? (i := 10) rfl)), He.SaysD.defs c.t.d (d := fn[10]) (List.mem_of_getElem? (i := 10) rfl)⟩,
    ⟨He.glo_ok X G (hf (List.mem_of_getElem? (i := 11) rfl)), He.SaysD.defs c.t.d (d := fn[11]) (List.mem_of_getElem? (i := 11) rfl)⟩,
    ⟨He.glo_ok X G (hf (List.mem_of_getElem? (i := 12) rfl)), He.SaysD.defs c.t.d (d := fn[12]) (List.mem_of_getElem? (i := 12) rfl)⟩,
    ⟨He.glo_ok X G (hf (List.mem_of_getElem? (i := 13) rfl)), He.SaysD.defs c.t.d (d := fn[13]) (List.mem_of_getElem? (i := 13) rfl)⟩,
    ⟨He.glo_ok X G (hf (List.mem_of_getElem? (i := 14) rfl)), He.SaysD.defs c.t.d (d := fn[14]) (List.mem_of_getElem? (i := 14) rfl)⟩,
    ⟨He.glo_ok X G (hf (List.mem_of_getElem? (i := 15) rfl)), He.SaysD.defs c.t.d (d := fn[15]) (List.mem_of_getElem? (i := 15) rfl)⟩,
    ⟨He.glo_ok X G (hf (List.mem_of_getElem? (i := 16) rfl)), He.SaysD.defs c.t.d (d := fn[16]) (List.mem_of_getElem? (i := 16) rfl)⟩,
    ⟨He.glo_ok X G (hf (List.mem_of_getElem? (i := 17) rfl)), He.SaysD.defs c.t.d (d := fn[17]) (List.mem_of_getElem? (i := 17) rfl)⟩,
    ⟨He.glo_ok X G (hf (List.mem_of_getElem? (i := 18) rfl)), He.SaysD.defs c.t.d (d := fn[18]) (List.mem_of_getElem? (i := 18) rfl)⟩,
    ⟨He.glo_ok X G (hf (List.mem_of_getElem? (i := 19) rfl)), He.SaysD.defs c.t.d (d := fn[19]) (List.mem_of_getElem? (i := 19) rfl)⟩,
    ⟨He.glo_ok X G (hf (List.mem_of_getElem? (i := 20) rfl)), He.SaysD.defs c.t.d (d := fn[20]) (List.mem_of_getElem? (i := 20) rfl)⟩,
    ⟨of_decide_eq_true (hx 1 rfl), He.SaysD.defs c.t.d (d := fn[21]) (List.mem_of_getElem? (i := 21) rfl)⟩⟩
theorem last {l : PySem.W.OpenLaw} {w : World} {K : PySem.W.Frag} {h : Heap} {mg : Str → Option Value} {fa : Addr} (T : Tx K mg) (KX : K.In h) (hmg : mg "law" = some (.ref fa)) :
    ∃ (K : PySem.W.Frag) (fd : FuncData) (sp : Sp), K.In h ∧ (∀ (s : Shared) (u : Value), BindsTo s fd ⟨[u], []⟩ [("script", u)]) ∧
        (∀ (H : Hp) (a : Addr) (ns : List Int), ns.length ≤ 63 → Only H → SqL K H a (ns.map V.int) → sp [.ref a] H (fun v _ => v = .bl true) fun _ _ _ => False) ∧
        ∀ base : Heap, K.In base → base.Ns mainGlobals mg → FnOk l.prog w K mg base CX0 7 fa fd ["script"] sp := by
  obtain ⟨gm, fd, F⟩ := T.d_law
  have e := hmg.symm.trans gm
  cases e
  have b := FunD.bindsA (ps := ["script"]) F fun _ _ _ _ _ _ us hl => match us, hl with | [_], _ => rfl
  exact ⟨K, fd, sp_law K, KX, fun s u => b s [u] rfl, fun H a ns hl _ hS => ⟨a, ns, rfl, hS, hl, fun _ => rfl⟩, fun base _ _ => toCX0 (okf_law T F) fun _ _ _ _ z => z⟩
end K19

open PySem PySem.W PySem.Calls PyProof.Rows
set_option maxHeartbeats 0 in
theorem PySem.Challenge.cw_bellows_k19_counts_and_costs_holds : PySem.Challenge.rw_bellows_k19_counts_and_costs.Holds := by
  w_on; o_law
  refine HandSHeadRun.head_any (r := OpenLaw.row PySem.Challenge.rw_bellows_k19_counts_and_costs) (q := view (OpenLaw.row PySem.Challenge.rw_bellows_k19_counts_and_costs).prog [33]) (H := K19.hk) (ob := K19.ob) (M := 2000) (loose := K19.loose) (d := HandSHeadRun.topDef (OpenLaw.row PySem.Challenge.rw_bellows_k19_counts_and_costs).prog 33) (kwd := []) K19.ob_eq
    (by kernel_rfl) (fun s => by kernel_rfl) K19.run (by kernel_rfl) (by kernel_rfl) (by kernel_rfl) (by rfl) (by first | assumption | decide +kernel) (by decide +kernel) ⟨rfl, rfl, rfl, rfl, rfl, by decide +kernel⟩ ?hw ?hc
  case hw => w_witness2
  case hc =>
    refine L2.walk_ofE (l := PySem.Challenge.rw_bellows_k19_counts_and_costs) (n := 63) (k := 7) (x := "script") (CX := L2.CX0) rfl (by decide) (by kernel_rfl) ⟨rfl, by decide, by decide⟩ ?F (fun _ _ _ _ z => z)
    intro w mg fa h Y G hmg0
    obtain ⟨K, KX, c⟩ := Y
    have hmg : mg ("law" : PySem.Str) = some (.ref fa) := by
      have e : (HandSHeadRun.topDef (OpenLaw.row PySem.Challenge.rw_bellows_k19_counts_and_costs).prog 33).name = ("law" : PySem.Str) := by kernel_rfl
      rw [← e]
      exact hmg0
    have T := K19.tx_of KX G c
    exact K19.last T KX hmg
