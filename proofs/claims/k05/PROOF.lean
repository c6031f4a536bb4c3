import PyProof.Rows.All
import Wide.All
import OpenK.AllK
import Wide.FinOn
import HandS.ForMost
import HandS.ForExc
import HandS.ExcInit
import HandS.ExcField
import HandS.IsInst
import HandS.Defaults
import HandS.Head0
import HandS.Head1
import HandS.Head2
import HandS.HeadEnd
import HandS.HeadHook4
import HandS.WideBits
import HandS.SetFor
import HandS.RevRange
import PySem.Challenge.RW_bellows_k05_joined_sums
set_option Elab.async false
set_option linter.all false
set_option maxRecDepth 100000
set_option maxHeartbeats 4000000
namespace Bel
open PySem PySem.Spec PyProof.Rows L2
/-! ### defs by name -/
structure Cl (P : Program) (w : World) (K : PySem.W.Frag) (mg : Str → Option Value) (base : Heap) (k : Nat) (x : Str) (ps : List Str) (sp : Sp) (dvs : List V) : Prop where
  ex : ∃ (f : Addr) (fd : FuncData) (ds : List Value), FnOk P w K mg base (L2.CX P w) k f fd ps sp ∧ mg x = some (.ref f) ∧ PySem.W.keepIn K (.ref f) = true ∧ Binds K fd ps ds ∧ Vals dvs ds
section
variable {X : Cx} {k : Nat} {x : Str} {ps : List Str} {sp : Sp} {dvs : List V} {p pos : Pos} {e : Expr} {es : List Expr} {t : TA} {W : WX}
theorem pe_cl (c : Cl X.prog X.w X.K X.mg X.base k x ps sp dvs) (hr : Room k X.A) (hg : Gl X x) (ha : PA X (e :: es) t)
    (hdb : (x == ("__debug__" : Str)) = false := by decide) (he : starEach (e :: es) X.env = (false, eval e X.env) :: starEach es X.env := by rfl) (hpl : (backTo pos (starEach es X.env)).any (·.1) = false := by rfl) :
    PE X (.Call (.Name x p) (e :: es) [] pos) (tCall sp dvs E0 t) := by
  obtain ⟨f, fd, ds, F, hm, hk, hb, hd⟩ := c.ex
  exact pe_call F hr hg hm hk hb hd passL ha hdb he hpl
theorem pe_cl0 (c : Cl X.prog X.w X.K X.mg X.base k x ps sp dvs) (hr : Room k X.A) (hg : Gl X x)
    (hdb : (x == ("__debug__" : Str)) = false := by decide) :
    PE X (.Call (.Name x p) [] [] pos) (tCall sp dvs E0 tNil) := by
  obtain ⟨f, fd, ds, F, hm, hk, hb, hd⟩ := c.ex
  exact pe_call0 F hr hg hm hk hb hd passL hdb
theorem run_fnD {f : Addr} {fd : FuncData} {dl : List Value} {Ex : XK} {pn : List (Addr × Obj)} {st : L2.St} {Hs : Hp} {sh : Shared} {Qv : VK} {args : List Value} {av : List V} (hr : Room k X.A) (hin : Inv X pn st Hs sh) (rel : Vals av args) (hd : Vals dvs dl)
    (ok : FnOk X.prog X.w X.K X.mg X.base (L2.CX X.prog X.w) k f fd ps sp) (bnd : Binds X.K fd ps dl) (out : PassesAt (L2.CX X.prog X.w) X st Ex)
    (pr : sp (av ++ dvs) Hs Qv Ex) : wpAny (model X.prog X.w) X.A (call (.ref f) args) (EP X pn st Qv) X.xe sh := by
  have all := rel.append hd
  have size : (args ++ dl).length = ps.length := by
    rw [← all.length]
    exact ok.len _ _ _ _ pr
  refine wpAny_call (codeAny_mono (ok.run X.A X.stack sh Hs ⟨args, []⟩ (args ++ dl) (av ++ dvs) Qv Ex hr hin.env0 (bnd sh args hin.kIn size) all pr) fun res sh2 fin => ?_)
  rcases res with er | fl
  · exact out pn Hs sh er sh2 hin fin
  · cases fl with
    | ret u => exact hin.after fin
    | next => exact fin.elim
    | brk => exact fin.elim
    | cont => exact fin.elim
/-- a call whose exceptions the body takes by W -/
def tClS (sp : Sp) (dvs : List V) (W : WX) (t : TA) : TE := fun σ H Q => t σ H fun vs H1 => sp (vs ++ dvs) H1 Q (WE W σ)
theorem pe_clS
    (c : Cl X.prog X.w X.K X.mg X.base k x ps sp dvs) (hr : Room k X.A) (hg : Gl X x) (tk : Takes X W) (ha : PA X (e :: es) t)
    (hdb : (x == ("__debug__" : Str)) = false := by decide) (he : starEach (e :: es) X.env = (false, eval e X.env) :: starEach es X.env := by rfl) (hpl : (backTo pos (starEach es X.env)).any (·.1) = false := by rfl) :
    PE X (.Call (.Name x p) (e :: es) [] pos) (tClS sp dvs W t) := by
  obtain ⟨f, fd, dl, ok, gm, kept, bnd, hd⟩ := c.ex
  refine ⟨fun pn sh st Hs Qv hin hq => wpAny_Call_Name_kw (ld_glob hin hg gm ?_ hdb)⟩
  refine PySem.W.callWith_K (h₀ := X.base) hin.ok.mod.kin kept (thn (ha.run pos pn sh st Hs _ hin hq) fun args sh1 ⟨av, H1, in1, rel, pr⟩ => ⟨in1.kIn, ?_⟩) he hpl
  exact run_fnD hr in1 rel hd ok bnd (passAt tk st) pr
end
theorem pe_gc {X : Cx} {x : Str} {pos : Pos} {v : V} (hg : Gl X x) (h : ∃ u, X.mg x = some u ∧ RelV v u) (hd : (x == ("__debug__" : Str)) = false := by decide) : PE X (.Name x pos) (tC v) := by
  obtain ⟨u, hm, r⟩ := h
  exact pe_glob hg hm r hd
theorem toCX0 {P : Program} {w : World} {K : PySem.W.Frag} {mg : Str → Option Value} {base : Heap} {k : Nat} {f : Addr} {fd : FuncData} {ps : List Str} {sp : Sp} (F : FnOk P w K mg base (L2.CX P w) k f fd ps sp) (h : ∀ vs H Q E, sp vs H Q E → sp vs H Q E0) : FnOk P w K mg base CX0 k f fd ps sp := by
  refine ⟨F.len, fun A outer s H args us vs Q E hr e0 hb r hs => codeAny_mono (F.run A outer s H args us vs Q E0 hr e0 hb r (h _ _ _ _ hs)) fun r s' hq => ?_⟩
  cases r with
  | error e =>
    obtain ⟨_, _, _, _, _, _, _, _, _, _, _, _, z⟩ := hq
    exact z
  | ok fl => cases fl <;> exact hq
/-! ### own exceptions with the one attribute at -/
open He in
structure ExF (K : PySem.W.Frag) (mg : Str → Option Value) (x : Str) : Prop where
  g : mg x = some (.ref (ga K x))
  oex : OexC K (ga K x)
  iC : PySem.W.findIn K (.ref (ga K x)) "__init__" = some (some (.ref (ma K (ga K "BellowsError") "__init__")))
  noat : PySem.W.findIn K (.ref (ga K x)) "at" = some none
  xf : XfC K (ga K x)
  te : PySem.W.exmOne K (.ref (ga K x)) (.ref (ga K x)) = some true
open He in
def oexB (K : PySem.W.Frag) (C : Addr) : Bool := (match K.lookup C with
  | some ⟨.type "type", _, .cls data, slots⟩ => (match data.mro, slots.toList with
    | .ref C' :: line, [_, _, _, _, some (.builtin n), _] => decide (C' = C) && (decide (n = "ValueError.__new__") && (!data.hasDel && (data.hasDict && PySem.HandSPX.refsVE line)))
    | _, _ => false)
  | _ => false) && (decide (PySem.W.findIn K (.ref C) "__setattr__" = some (some (.builtin "object.__setattr__"))) && (decide (PySem.W.subIn K (.ref C) (.type "BaseException") = some true) && (decide (PySem.W.typeIn K (.ref C) = some (.type "type")) && PySem.W.keepIn K (.ref C))))
theorem ba {x y : Bool} (e : (x && y) = true) : x = true ∧ y = true := by
  cases x <;> cases y <;> first | exact ⟨rfl, rfl⟩ | cases e
theorem oexB_ok {K : PySem.W.Frag} {C : Addr} (h : oexB K C = true) : OexC K C := by
  obtain ⟨q, h⟩ := ba h
  obtain ⟨h2, h⟩ := ba h
  obtain ⟨h3, h⟩ := ba h
  obtain ⟨h4, h5⟩ := ba h
  refine ⟨?_, of_decide_eq_true h2, of_decide_eq_true h3, of_decide_eq_true h4, h5⟩
  split at q
  · rename_i own data slots there
    split at q
    · rename_i C2 line z0 z1 z2 z3 n z5 em es
      simp only [Bool.and_eq_true, decide_eq_true_eq, Bool.not_eq_true'] at q
      obtain ⟨rfl, rfl, nodel, dict, tail⟩ := q
      obtain ⟨nm, bases, mro, ns, qn, hdict, sn, subs, abs, coll, del⟩ := data
      dsimp only at em nodel dict
      subst em nodel dict
      have e6 : slots = #[z0, z1, z2, z3, some (.builtin "ValueError.__new__"), z5] := by
        cases slots with
        | mk l =>
          simp only at es
          rw [es]
      subst e6
      exact ⟨_, _, _, _, _, _, _, _, _, _, _, _, _, _, _, there, tail⟩
    · cases q
  · cases q
open He in
def exFB (K : PySem.W.Frag) (x : Str) : Bool := decide (PySem.W.nsIn K mainGlobals x = some (some (.ref (ga K x)))) && (oexB K (ga K x) && (decide (PySem.W.findIn K (.ref (ga K x)) "__init__" = some (some (.ref (ma K (ga K "BellowsError") "__init__")))) && (decide (PySem.W.findIn K (.ref (ga K x)) "at" = some none) && (xfB K (ga K x) && decide (PySem.W.exmOne K (.ref (ga K x)) (.ref (ga K x)) = some true)))))
theorem exFB_ok {K : PySem.W.Frag} {h : Heap} {mg : Str → Option Value} {x : Str} (X : K.In h) (G : h.Ns mainGlobals mg) (c : exFB K x = true) : ExF K mg x := by
  obtain ⟨h1, c⟩ := ba c
  obtain ⟨h2, c⟩ := ba c
  obtain ⟨h3, c⟩ := ba c
  obtain ⟨h4, c⟩ := ba c
  obtain ⟨h5, h6⟩ := ba c
  exact ⟨PySem.W.mg_of X G (of_decide_eq_true h1), oexB_ok h2, of_decide_eq_true h3, of_decide_eq_true h4, xfB_ok h5, of_decide_eq_true h6⟩
def cvB (K : PySem.W.Frag) (x : Str) (v : V) : Bool := match PySem.W.nsIn K mainGlobals x with
  | some (some u) => He.relB v u
  | _ => false
theorem cvB_ok {K : PySem.W.Frag} {h : Heap} {mg : Str → Option Value} {x : Str} {v : V} (X : K.In h) (G : h.Ns mainGlobals mg) (c : cvB K x v = true) : ∃ u, mg x = some u ∧ RelV v u := by
  unfold cvB at c
  split at c
  · rename_i u e
    exact ⟨u, PySem.W.mg_of X G e, He.relB_ok c⟩
  · cases c
/-- BellowsError.__init__ -/
def spInit (K : PySem.W.Frag) : Sp := fun vs H Q _ => ∃ (a C : Addr) (v : V), vs = [.ref a, v] ∧ OexC K C ∧ PySem.W.findIn K (.ref C) "at" = some none ∧ H a = some (exo a C none) ∧
  ∀ dx, H dx = none → dx ≠ a → Q .non (upd (upd H dx (exd dx [("at", v)])) a (exo a C (some dx)))
structure InitOk (P : Program) (w : World) (K : PySem.W.Frag) (mg : Str → Option Value) (base : Heap) : Prop where
  ex : ∃ fd, FnOk P w K mg base (L2.CX P w) 1 (He.ma K (He.ga K "BellowsError") "__init__") fd ["self", "at"] (spInit K) ∧ Binds K fd ["self", "at"] [] ∧ PySem.W.typeIn K (.ref (He.ma K (He.ga K "BellowsError") "__init__")) = some (.type "function")
/-- raise X(e) -/
def Bz (K : PySem.W.Frag) (C : Addr) (W : WX) (σ : L2.St) (vs : List V) (H1 : Hp) : Prop := vs.length ≤ 1000 ∧ ∀ a, H1 a = none → spInit K (.ref a :: (vs ++ [])) (upd H1 a (exo a C none))
  (fun v H2 => v = .non ∧ ∃ (d : Addr) (fs : List (Str × V)), H2 a = some (exo a C (some d)) ∧ H2 d = some (exd d fs) ∧ H1 d = none ∧ W (.ref C) (some d) σ (upd (del H2 a) d (.xd fs))) (fun _ _ _ => False)
def tRz (K : PySem.W.Frag) (C : Addr) (W : WX) (ta : TA) : TS := fun _ σ H => ta σ H fun vs H1 => Bz K C W σ vs H1
theorem bz {K : PySem.W.Frag} {mg : Str → Option Value} {x : Str} {W : WX} {σ : L2.St} {v : V} {H : Hp} (T : ExF K mg x) (h : ∀ d, H d = none → W (.ref (He.ga K x)) (some d) σ (upd H d (.xd [("at", v)]))) : Bz K (He.ga K x) W σ [v] H := by
  refine ⟨(by show 1 ≤ 1000; decide), fun a ha => ⟨a, He.ga K x, v, rfl, T.oex, T.noat, upd_same, fun dx hdx hne => ⟨rfl, dx, [("at", v)], upd_same, ?_, ?_, ?_⟩⟩⟩
  · rw [upd_ne hne, upd_same]
  · rw [upd_ne hne] at hdx
    exact hdx
  · rw [upd_ne hne] at hdx
    have e : upd (del (upd (upd (upd H a (exo a (He.ga K x) none)) dx (exd dx [("at", v)])) a (exo a (He.ga K x) (some dx))) a) dx (.xd [("at", v)]) = upd H dx (.xd [("at", v)]) := by
      funext b
      by_cases hb : b = dx
      · rw [hb, upd_same, upd_same]
      · rw [upd_ne hb, upd_ne hb]
        by_cases hc : b = a
        · rw [hc, del_same, ha]
        · rw [del_ne hc, upd_ne hc, upd_ne hb, upd_ne hc]
    rw [e]
    exact h dx hdx
theorem ps_raiseB {X : Cx} {x : Str} {p pos pos2 : Pos} {e : Expr} {te : TA} {W : WX} (T : ExF X.K X.mg x) (I : InitOk X.prog X.w X.K X.mg X.base) (hr : Room 2 X.A) (tk : Takes X W) (he : PA X [e] te) (hc : X.calm = true := by rfl) (hg : Gl X x := by rfl)
    (hdb : (x == ("__debug__" : Str)) = false := by decide) (hst : starEach (e :: []) X.env = (false, eval e X.env) :: starEach [] X.env := by rfl) (hpl : (backTo pos (starEach [] X.env)).any (·.1) = false := by rfl) :
    PS X (.Raise (some (.Call (.Name x p) [e] [] pos)) none pos2) (tRz X.K (He.ga X.K x) W te) := by
  obtain ⟨fd, F, b, ti⟩ := I.ex
  exact ps_raise hc tk (pmk_oex (dvs := []) (ds := []) (CX := L2.CX X.prog X.w) T.oex T.iC ti F hr b .nil passL hg T.g he hdb hst hpl)
/-- e.at in a suite -/
theorem pe_xfB {X : Cx} {a : Addr} {oe : Obj} {cls : Value} {d : Option Addr} {pn : List (Addr × Obj)} {e : Expr} {te : TE} {pos : Pos} {x : Str} (T : ExF X.K X.mg x)
    (hz : Zc cls d oe) (hf : ∃ vs, oe.data = .fields vs) (he : PE (X.suite a ((a, oe) :: pn)) e te) (hb : attributeBase e "at" X.env (eval e X.env) = eval e X.env := by rfl) :
    PE (X.suite a ((a, oe) :: pn)) (.Attribute e "at" pos) (tXf a cls d (He.ga X.K x) "at" te) := pe_xf T.xf T.noat hz hf he hb
/-! ### try with several clauses, each with a name -/
abbrev Cls3 := Value × Nat × (Addr → Value → Option Addr → TS)
abbrev freed (D : Ends) (i : Nat) : Ends := ⟨fun s h => D.nx (s.set i none) h, D.rt, fun s h => D.bk (s.set i none) h, fun s h => D.ct (s.set i none) h⟩
def wManyB (K : PySem.W.Frag) (Wout : WX) (D : Ends) : List Cls3 → WX
  | [] => Wout
  | (c, i, ts) :: more => fun cls d st Hs => ∃ yes, PySem.W.exmOne K cls c = some yes ∧
      (yes = true → ∀ a, Hs a = none → ts a cls d (freed D i) (st.set i (some (.ref a))) Hs) ∧ (yes = false → wManyB K Wout D more cls d st Hs)
inductive HdsB (X : Cx) : List ExceptHandler → List Cls3 → Prop
  | nil : HdsB X [] []
  | cons {x n : Str} {c : Value} {i : Nat} {ts : Addr → Value → Option Addr → TS} {s0 : Stmt} {suite : List Stmt} {p1 p2 : Pos} {hds : List ExceptHandler} {l : List Cls3}
      (at_ : X.N[i]? = some n) (own : X.env.kindOf n = some .local) (nm : Names X x c)
      (run : ∀ (a : Addr) (oe : Obj) (cls : Value) (d : Option Addr) (pn : List (Addr × Obj)), Zc cls d oe → (∃ vs, oe.data = .fields vs) → PSs (X.suite a ((a, oe) :: pn)) (s0 :: suite) (ts a cls d))
      (more : HdsB X hds l) : HdsB X (.ExceptHandler (some (.Name x p1)) (some n) (s0 :: suite) p2 :: hds) ((c, i, ts) :: l)
theorem ps_try_manyB {X : Cx} {body : List Stmt} {h0 : ExceptHandler} {hds : List ExceptHandler} {l : List Cls3} {pos : Pos} {tb : WX → TS} {Wout : WX}
    (stk : X.stack = X.env :: X.outer) (frm : X.env.frame = some X.env.locals) (nodup : X.N.Nodup) (tk : Takes X Wout)
    (hb : ∀ (W : WX) (pn : List (Addr × Obj)) (xe : Value → Shared → Prop), Takes (X.tr pn xe) W → PassesOwn (model X.prog X.w) X.A X.env xe → PSs (X.tr pn xe) body (tb W))
    (hh : HdsB X (h0 :: hds) l) : PS X (.Try body (h0 :: hds) [] [] pos) (fun D st Hs => tb (wManyB X.K Wout D l) D st Hs) := by
  refine ⟨fun pn sh st Hs D hin hq => ?_⟩
  have good := hin.ok
  have frames : X.A.frames = some (X.env :: X.outer) := by
    rw [good.frames, stk]
  refine wpAny_Try_except (wpAny_mono ((hb (wManyB X.K Wout D l) (X.pn ++ pn) (fun e t1 => wpAny (model X.prog X.w) X.A (noteFrame e X.env) (fun _ t2 => wpAny (model X.prog X.w) X.A (setFlight e none) (fun _ t3 =>
    wpAny (model X.prog X.w) X.A (handleBy e X.env (h0 :: hds)) (SP X pn D) X.xe t3) X.xe t2) X.xe t1) (fun u t xx => ?_) PassesOwn.looking).run [] sh st Hs D (hin.toTry _) hq) (fun fl t1 fin => ?_) (fun e t1 z => z))
  · obtain ⟨a, ground, sI, pn2, st2, H2, cls, d, rfl, inT, nb, up, sky, free, os, bare, wish⟩ := xx
    have in2 : Inv X pn st2 H2 sI := inT.ofTry good
    rw [show (X.tr (X.pn ++ pn) _).stack = X.env :: X.outer from stk] at sky
    show wpAny (model X.prog X.w) X.A (noteFrame (.ref a) X.env) _ _ _
    refine Sky.land Zc.steady frames frm sky fun g3 fly3 up3 => ?_
    have in3 : Inv X pn st2 H2 { t with heap := g3 } := in2.landed nb fly3.1 (up.trans up3) os bare
    obtain ⟨ob3, fs3, get3, zc3, dat3⟩ := fly3.there
    have notIn : a ∉ frs (X.env :: X.outer) := fun hm => by
      obtain ⟨_, o2, e2, nf⟩ := fly3.2.2.1.mem hm
      rw [get3] at e2
      cases e2
      exact nf _ dat3
    have nL : a ≠ X.env.locals := fun z => notIn (List.mem_filterMap.mpr ⟨X.env, List.mem_cons_self, by rw [frm, z]⟩)
    have nF : a ∉ X.fs := fun hm => by
      obtain ⟨en, men, q⟩ := List.mem_filterMap.mp hm
      exact notIn (List.mem_filterMap.mpr ⟨en, List.mem_cons_of_mem _ men, q⟩)
    have su3 := in3.suite get3 dat3 free nL nF
    have go : ∀ {hs' : List ExceptHandler} {l' : List Cls3}, HdsB X hs' l' → wManyB X.K Wout D l' cls d st2 H2 → wpAny (model X.prog X.w) X.A (handleBy (.ref a) X.env hs') (SP X pn D) X.xe { t with heap := g3 } := by
      intro hs' l' hk
      induction hk with
      | nil =>
        intro wish
        refine wpAny_handleBy_nil ?_
        obtain ⟨_, _, _, ob, fs, T, oT, _, get, _, dat, f1, _⟩ := id fly3
        unfold PySem.passOn
        refine wpAny_bind (wpAny_field get dat f1 ?_)
        rw [if_neg (show ¬ ((Value.ref T == Value.none) = true) by simp)]
        have last : wpAny (model X.prog X.w) X.A (setFlight (.ref a) X.env.frame) (fun _ t4 => wpAny (model X.prog X.w) X.A (throw (.ref a) : Sem Flow) (SP X pn D) X.xe t4) X.xe { t with heap := g3 } := by
          rw [frm]
          refine HandSPX.setFlight_upZ fly3 fun g4 held up4 => wpAny_throw (tk _ _ ⟨a, ground, sI, pn, st2, H2, cls, d, rfl, in2, nb, (up.trans up3).trans up4, .inr (.inr ?_), free, os, bare, wish⟩)
          rw [stk]
          exact held
        first | exact wpAny_bind last | exact wpAny_bind (wpAny_pure (wpAny_bind last))
      | @cons x n c i ts s0 suite p1 p2 hds2 l2 at_ own nm run more ih =>
        rintro ⟨yes, he, hy, hn⟩
        refine wpAny_handleBy_cons (codeAny_handlers_test ?_) (by intro q; cases q)
        have isCls : PySem.W.Looks (model X.prog X.w) g3 (typeOf (.ref a)) cls := fun _ _ _ _ kp q => wpAny_typeOf_ref (kp _ _ get3) (by rw [zc3.1]; exact q)
        have named : ∀ {Qv : Value → Shared → Prop} {Ev : Value → Shared → Prop}, Qv c { t with heap := g3 } → wpAny (model X.prog X.w) (X.A.mark (some (.ref a))) (eval (.Name x p1) X.env) Qv Ev { t with heap := g3 } := fun q => by
          obtain ⟨hg, hdb, hm | ⟨hm, hv, hne⟩⟩ := nm
          · exact ld_glob (X := X.suite a ((a, ob3) :: (X.pn ++ pn))) su3 hg hm q hdb
          · exact ld_blt (X := X.suite a ((a, ob3) :: (X.pn ++ pn))) su3 hg hm hv q hne hdb
        refine named ((PySem.W.exm_one (M := model X.prog X.w) in3.kIn isCls he).here ?_)
        cases yes with
        | false => exact ih (hn rfl)
        | true =>
          refine codeAny_handlers_suite_as (HandSPX.lands_againZ fly3 fun g4 fly4 up4 => ?_)
          have in4 : Inv X pn st2 H2 { t with heap := g4 } := in2.landed nb fly4.1 ((up.trans up3).trans up4) os bare
          obtain ⟨ob4, fs4, get4, zc4, dat4⟩ := fly4.there
          refine store_ok (X := X.suite a ((a, ob4) :: (X.pn ++ pn))) (v := .ref a) (in4.suite get4 dat4 free nL nF) nodup at_ (.inl own) rfl (fun t5 in5 => ?_) (.inr own)
          refine wpAny_mono ((run a ob4 cls d (X.pn ++ pn) zc4 ⟨_, dat4⟩).run [] t5 _ H2 _ in5 (hy rfl a free)) (fun fl t6 fin => ?_) (fun _ _ z => z.elim)
          cases fl with
          | next =>
            obtain ⟨_, _, in6, q⟩ := fin
            exact gone_ok (in6.unsuite good) nodup at_ own fun _ in7 => ⟨_, _, in7, q⟩
          | brk =>
            obtain ⟨_, _, in6, q⟩ := fin
            exact gone_ok (in6.unsuite good) nodup at_ own fun _ in7 => ⟨_, _, in7, q⟩
          | cont =>
            obtain ⟨_, _, in6, q⟩ := fin
            exact gone_ok (in6.unsuite good) nodup at_ own fun _ in7 => ⟨_, _, in7, q⟩
          | ret u =>
            obtain ⟨_, _, _, in6, r6, q⟩ := fin
            exact gone_ok (in6.unsuite good) nodup at_ own fun _ in7 => ⟨_, _, _, in7, r6, q⟩
    exact go hh wish
  · cases fl with
    | next =>
      obtain ⟨_, _, inE, q⟩ := fin
      exact wpAny_execs_nil ⟨_, _, inE.ofTry good, q⟩
    | brk =>
      obtain ⟨_, _, inE, q⟩ := fin
      exact ⟨_, _, inE.ofTry good, q⟩
    | cont =>
      obtain ⟨_, _, inE, q⟩ := fin
      exact ⟨_, _, inE.ofTry good, q⟩
    | ret u =>
      obtain ⟨_, _, _, inE, r, q⟩ := fin
      exact ⟨_, _, _, inE.ofTry good, r, q⟩
theorem many_yes {K : PySem.W.Frag} {mg : Str → Option Value} {x : Str} {i : Nat} {ts : Addr → Value → Option Addr → TS} {l : List Cls3} {Wout : WX} {D : Ends} {st : L2.St} {Hs : Hp} {d : Option Addr} (T : ExF K mg x)
    (h : ∀ a, Hs a = none → ts a (.ref (He.ga K x)) d (freed D i) (st.set i (some (.ref a))) Hs) : wManyB K Wout D ((.ref (He.ga K x), i, ts) :: l) (.ref (He.ga K x)) d st Hs := ⟨true, T.te, fun _ => h, fun z => nomatch z⟩
theorem many_no {K : PySem.W.Frag} {c cls : Value} {i : Nat} {ts : Addr → Value → Option Addr → TS} {l : List Cls3} {Wout : WX} {D : Ends} {st : L2.St} {Hs : Hp} {d : Option Addr} (T : PySem.W.exmOne K cls c = some false)
    (h : wManyB K Wout D l cls d st Hs) : wManyB K Wout D ((c, i, ts) :: l) cls d st Hs := ⟨false, T, (fun z => nomatch z), fun _ => h⟩
/-! ### rules whose reading names the written part itself (for comprehensions) -/
section
variable {X : Cx} (K : PySem.W.Frag)
theorem ixl (h : X.K = K := by rfl) : IxR X (rIxL K) := h ▸ ix_list
theorem ixt (h : X.K = K := by rfl) : IxR X (rIxT K) := h ▸ ix_tup
theorem slK (h : X.K = K := by rfl) : SlR X (rSlL K) := h ▸ sl_list
theorem lenK (h : X.K = K := by rfl) : CallR X (.builtin "len") (fun xs H Q => ∃ p ys, xs = [.ref p] ∧ (SqL K H p ys ∨ SqT K H p ys) ∧ Q (.int ys.length) H) := h ▸ call_len_seq
theorem isiK (h : X.K = K := by rfl) : CallR X (.builtin "isinstance") (rIsi K) := h ▸ call_isi
theorem lstK (h : X.K = K := by rfl) : CallR X (.type "list") (fun xs H Q => ∃ p ys, xs = [.ref p] ∧ (SqL K H p ys ∨ SqT K H p ys) ∧ ∀ l, H l = none → Q (.ref l) (upd H l (.lst ys))) := h ▸ call_list_of
theorem eqK (hu : X.A.units + 64 < cLine) (h : X.K = K := by rfl) : OpR X (compareOp .Eq) (rEqD K) := h ▸ op_eqD hu
theorem neK (hu : X.A.units + 64 < cLine) (h : X.K = K := by rfl) : OpR X (compareOp .NotEq) (rNeD K) := h ▸ op_neD hu
theorem sumK (hc : X.calm = true) (h : X.K = K := by rfl) : CallR X (.builtin "sum") (rSum K) := h ▸ cr_sum hc
theorem cntK (h : X.K = K := by rfl) : MtR X "list.count" (rCntI K) := h ▸ mt_lcount
end
end Bel

namespace Bel
open PySem PySem.Spec PyProof.Rows L2
/-! ### readings opened step by step (each an equation) -/
def Sel (b : Bool) (t u : TS) : TS := if b = true then t else u
def SelE (b : Bool) (t u : TE) : TE := if b = true then t else u
def SelT (b : Bool) (t u : TT) : TT := if b = true then t else u
def SelC (b : Bool) (A B : Prop) : Prop := if b = true then A else B
def tK (b : Bool) : TT := fun _ H Q => Q b H
section
variable {t u : TS} {ta tb tc te : TE} {tA tB' : TT} {D : Ends} {σ : L2.St} {H : Hp} {Q : VK} {QT : Bool → Hp → Prop} {QA : List V → Hp → Prop} {K : PySem.W.Frag} {r : R2} {l : TA} {v : V} {i : Nat}
theorem x_next : tNext D σ H = D.nx σ H := rfl
theorem x_seq : tSeq t u D σ H = t { D with nx := u D } σ H := rfl
theorem x_brk : tBreak D σ H = D.bk σ H := rfl
theorem x_cont : tCont D σ H = D.ct σ H := rfl
theorem x_drop : tDrop te D σ H = te σ H (fun _ H1 => D.nx σ H1) := rfl
theorem x_ret : tRet te D σ H = te σ H D.rt := rfl
theorem x_retN : tRetN D σ H = D.rt .non H := rfl
theorem x_if : tIfS tA t u D σ H = tA σ H (fun b H1 => Sel b t u D σ H1) := by
  show tA σ H _ = tA σ H _
  congr 1
  funext b H1
  cases b <;> rfl
theorem sel_t : Sel true t u = t := rfl
theorem sel_f : Sel false t u = u := rfl
theorem selE_t : SelE true ta tb = ta := rfl
theorem selE_f : SelE false ta tb = tb := rfl
theorem selT_t : SelT true tA tB' = tA := rfl
theorem selT_f : SelT false tA tB' = tB' := rfl
theorem selC_t {A B : Prop} : SelC true A B = A := rfl
theorem selC_f {A B : Prop} : SelC false A B = B := rfl
theorem sel {b : Bool} (h1 : b = true → t D σ H) (h2 : b = false → u D σ H) : Sel b t u D σ H := by
  cases b
  · exact h2 rfl
  · exact h1 rfl
theorem selE {b : Bool} (h1 : b = true → ta σ H Q) (h2 : b = false → tb σ H Q) : SelE b ta tb σ H Q := by
  cases b
  · exact h2 rfl
  · exact h1 rfl
theorem selT {b : Bool} (h1 : b = true → tA σ H QT) (h2 : b = false → tB' σ H QT) : SelT b tA tB' σ H QT := by
  cases b
  · exact h2 rfl
  · exact h1 rfl
theorem sel_d {p : Prop} {_ : Decidable p} (h1 : p → t D σ H) (h2 : ¬ p → u D σ H) : Sel (decide p) t u D σ H := sel (fun e => h1 (of_decide_eq_true e)) (fun e => h2 (of_decide_eq_false e))
theorem selE_d {p : Prop} {_ : Decidable p} (h1 : p → ta σ H Q) (h2 : ¬ p → tb σ H Q) : SelE (decide p) ta tb σ H Q := selE (fun e => h1 (of_decide_eq_true e)) (fun e => h2 (of_decide_eq_false e))
theorem selT_d {p : Prop} {_ : Decidable p} (h1 : p → tA σ H QT) (h2 : ¬ p → tB' σ H QT) : SelT (decide p) tA tB' σ H QT := selT (fun e => h1 (of_decide_eq_true e)) (fun e => h2 (of_decide_eq_false e))
theorem x_test : tTest te σ H QT = te σ H (fun x H' => ∃ k, x = .bl k ∧ QT k H') := rfl
theorem x_tB : L2.tB te σ H QT = te σ H (fun x H' => ∃ k, x = .bl k ∧ QT k H') := rfl
theorem x_op : tOp r ta tb σ H Q = ta σ H (fun x H1 => tb σ H1 (fun y H2 => r x y H2 Q)) := rfl
theorem x_un {ru : V → Hp → VK → Prop} : tUn ru ta σ H Q = ta σ H (fun x H1 => ru x H1 Q) := rfl
theorem x_var : tVar i σ H Q = ∃ v, σ[i]? = some (some v) ∧ Q v H := rfl
theorem x_c : tC v σ H Q = Q v H := rfl
theorem x_cb {rl : List V → Hp → VK → Prop} : tCB rl l σ H Q = l σ H (fun vs H1 => rl vs H1 Q) := rfl
theorem x_nil : tNil σ H QA = QA [] H := rfl
theorem x_cons : tCons ta l σ H QA = ta σ H (fun x H1 => l σ H1 (fun xs H2 => QA (x :: xs) H2)) := rfl
theorem x_rI {C : Int → Int → Prop} {g : Int → Int → V} {a b : V} : rI C g a b H Q = ∃ i j, a = .int i ∧ b = .int j ∧ C i j ∧ Q (g i j) H := rfl
theorem x_rI0 {g : Int → Int → V} {a b : V} : rI0 g a b H Q = ∃ i j, a = .int i ∧ b = .int j ∧ Q (g i j) H := rfl
theorem x_rU {g : Int → V} {a : V} : rU g a H Q = ∃ i, a = .int i ∧ Q (g i) H := rfl
theorem x_rEq {a b : V} : rEq a b H Q = (scal a b = true ∧ Q (.bl (decide (a = b))) H) := rfl
theorem x_rNe {a b : V} : rNe a b H Q = (scal a b = true ∧ Q (.bl (!decide (a = b))) H) := rfl
theorem x_rIxL {a b : V} : rIxL K a b H Q = ∃ p xs i v, a = .ref p ∧ b = .int i ∧ SqL K H p xs ∧ atI xs i = some v ∧ Q v H := rfl
theorem x_rIxT {a b : V} : rIxT K a b H Q = ∃ p xs i v, a = .ref p ∧ b = .int i ∧ SqT K H p xs ∧ atI xs i = some v ∧ Q v H := rfl
theorem x_rSlL {a : V} {lo hi : Option Int} : rSlL K a lo hi H Q = ∃ p xs, a = .ref p ∧ SqL K H p xs ∧ ∀ q, H q = none → Q (.ref q) (upd H q (.lst (cutV xs lo hi))) := rfl
theorem x_rCat {a b : V} : rCat a b H Q = ∃ l m xs zs, a = .ref l ∧ b = .ref m ∧ H l = some (.lst xs) ∧ H m = some (.lst zs) ∧ xs.length + zs.length ≤ sizeLine ∧ ∀ p, H p = none → Q (.ref p) (upd H p (.lst (xs ++ zs))) := rfl
theorem x_rRep {a b : V} : rRep a b H Q = ∃ l k xs, a = .ref l ∧ b = .int k ∧ H l = some (.lst xs) ∧ -(2 ^ 63) ≤ k ∧ k < 2 ^ 63 ∧ xs.length * k.toNat ≤ sizeLine ∧ ∀ p, H p = none → Q (.ref p) (upd H p (.lst (List.replicate k.toNat xs).flatten)) := by first | rfl | (unfold rRep; rfl)
theorem x_rApp {a : V} {vs : List V} : rAppend a vs H Q = ∃ l xs y, a = .ref l ∧ vs = [y] ∧ H l = some (.lst xs) ∧ xs.length < sizeLine ∧ Q .non (upd H l (.lst (xs ++ [y]))) := rfl
theorem x_bm {T : String} {rm : V → List V → Hp → VK → Prop} : tBM K T rm ta l σ H Q = ta σ H (fun x H1 => tyV K T x H1 ∧ l σ H1 (fun xs H2 => rm x xs H2 Q)) := rfl
theorem x_bm0 {T : String} {rm : V → List V → Hp → VK → Prop} : tBM0 K T rm ta σ H Q = ta σ H (fun x H1 => tyV K T x H1 ∧ rm x [] H1 Q) := rfl
theorem x_sl {rs : V → Option Int → Option Int → Hp → VK → Prop} {tl th : TO} : tSl rs te tl th σ H Q = te σ H (fun x H1 => tl σ H1 (fun l H2 => th σ H2 (fun u H3 => rs x l u H3 Q))) := rfl
theorem x_nopart {QO : Option Int → Hp → Prop} : tNoPart σ H QO = QO none H := rfl
theorem x_part {QO : Option Int → Hp → Prop} : tPart te σ H QO = te σ H (fun x H1 => ∃ i, x = .int i ∧ QO (some i) H1) := rfl
theorem x_tup : tTup l σ H Q = l σ H (fun xs H1 => xs.length ≤ sizeLine ∧ ∀ p, H1 p = none → Q (.ref p) (upd H1 p (.tup xs))) := rfl
theorem x_lst : tLst l σ H Q = l σ H (fun xs H1 => xs.length ≤ sizeLine ∧ ∀ p, H1 p = none → Q (.ref p) (upd H1 p (.lst xs))) := rfl
theorem x_call {sp : Sp} {dvs : List V} {E : XK} : tCall sp dvs E l σ H Q = l σ H (fun vs H1 => sp (vs ++ dvs) H1 Q E) := rfl
theorem x_callS {sp : Sp} {dvs : List V} {W : WX} : tClS sp dvs W l σ H Q = l σ H (fun vs H1 => sp (vs ++ dvs) H1 Q (WE W σ)) := rfl
theorem x_asg {g : TG} : tAsg te g D σ H = te σ H (fun x H1 => g x σ H1 D.nx) := rfl
theorem x_gname {QG : L2.St → Hp → Prop} : gName i v σ H QG = QG (σ.set i (some v)) H := rfl
theorem x_gtup {n : Nat} {gs : TGs} {QG : L2.St → Hp → Prop} : gTup K n gs v σ H QG = ∃ a xs, v = .ref a ∧ SqT K H a xs ∧ xs.length = n ∧ gs xs σ H QG := rfl
theorem x_gnil {vs : List V} {QG : L2.St → Hp → Prop} : gNil vs σ H QG = (vs = [] ∧ QG σ H) := rfl
theorem x_gcons {vs : List V} {g : TG} {gs : TGs} {QG : L2.St → Hp → Prop} : gCons g gs vs σ H QG = ∃ v r, vs = v :: r ∧ g v σ H (fun σ' H' => gs r σ' H' QG) := rfl
theorem x_gsub {to ti : TE} {ts : TSet} {QG : L2.St → Hp → Prop} : gSub to ti ts v σ H QG = to σ H (fun o H1 => ti σ H1 (fun i H2 => ts o i v H2 (fun H3 => QG σ H3))) := rfl
theorem x_setL {o i' : V} {QH : Hp → Prop} : rSetL o i' v H QH = ∃ p xs k j, o = .ref p ∧ i' = .int k ∧ H p = some (.lst xs) ∧ ixN xs.length k = some j ∧ QH (upd H p (.lst (xs.set j v))) := rfl
theorem x_aug {ti : TIp} : tAug i te ti D σ H = ∃ x, σ[i]? = some (some x) ∧ te σ H (fun y H1 => ti x y H1 (fun z H2 => D.nx (σ.set i (some z)) H2)) := rfl
theorem x_ipI {f : Int → Int → Int} {a b : V} : ipI f a b H Q = ∃ i j, a = .int i ∧ b = .int j ∧ Q (.int (f i j)) H := rfl
theorem x_and : tAnd tA tB' σ H QT = tA σ H (fun c H1 => SelT c tB' (tK false) σ H1 QT) := by
  show tA σ H _ = tA σ H _
  congr 1
  funext c H1
  cases c <;> rfl
theorem x_or : tOr tA tB' σ H QT = tA σ H (fun c H1 => SelT c (tK true) tB' σ H1 QT) := by
  show tA σ H _ = tA σ H _
  congr 1
  funext c H1
  cases c <;> rfl
theorem x_not : tNot tA σ H QT = tA σ H (fun c H1 => QT (!c) H1) := rfl
theorem x_k {b : Bool} : tK b σ H QT = QT b H := rfl
theorem x_andV : tAndV ta tb σ H Q = ta σ H (fun x H1 => ∃ c, x = .bl c ∧ SelE c tb (tC (.bl false)) σ H1 Q) := by
  show ta σ H _ = ta σ H _
  congr 1
  funext x H1
  congr 1
  funext c
  cases c <;> rfl
theorem x_orV : tOrV ta tb σ H Q = ta σ H (fun x H1 => ∃ c, x = .bl c ∧ SelE c (tC (.bl true)) tb σ H1 Q) := by
  show ta σ H _ = ta σ H _
  congr 1
  funext x H1
  congr 1
  funext c
  cases c <;> rfl
theorem x_notV : tNotV ta σ H Q = ta σ H (fun x H1 => ∃ c, x = .bl c ∧ Q (.bl (!c)) H1) := rfl
theorem x_ife : tIf tA ta tb σ H Q = tA σ H (fun c H1 => SelE c ta tb σ H1 Q) := by
  show tA σ H _ = tA σ H _
  congr 1
  funext c H1
  cases c <;> rfl
theorem x_chain {r' : R2} : tChain r r' ta tb tc σ H Q = ta σ H (fun x H1 => tb σ H1 (fun y H2 => r x y H2 (fun z H3 => ∃ k, z = .bl k ∧ SelE k (fun σ' H' Q' => tc σ' H' (fun w' H4 => r' y w' H4 Q')) (tC (.bl false)) σ H3 Q))) := by
  show ta σ H _ = ta σ H _
  congr 1
  funext x H1
  congr 1
  funext y H2
  congr 1
  funext z H3
  congr 1
  funext k
  cases k <;> rfl
/-! loops -/
def LoopI (J : It) (g : TG) (tb : TS) (D : Ends) (σ : L2.St) (H1 : Hp) : Prop := ∃ W : Nat → Nat → L2.St → Hp → Prop, (∃ m, W 0 m σ H1) ∧ ∀ i m σ H, W i m σ H →
  (J.stop i H ∧ D.nx σ H) ∨ (J.go i H ∧ ∃ N : L2.St → Hp → Prop, (∀ σ' H', N σ' H' → ∃ m', m' < m ∧ W (i + 1) m' σ' H') ∧ ∀ x H', J.yld i H x H' → g x σ H' fun σ2 H2 => tb { D with nx := N, ct := N, bk := D.nx } σ2 H2)
theorem x_for {wi : TI} {g : TG} : tFor wi g t D σ H = wi σ H (fun J H1 => LoopI J g t D σ H1) := rfl
theorem x_ilist {R : It → Hp → Prop} : iList K te σ H R = te σ H (fun x H1 => ∃ a, x = .ref a ∧ (∃ xs, SqL K H1 a xs) ∧ R (Itl K a) H1) := rfl
theorem x_itup {R : It → Hp → Prop} : iTup K te σ H R = te σ H (fun x H1 => ∃ a, x = .ref a ∧ (∃ xs, SqT K H1 a xs) ∧ R (Itt K a) H1) := rfl
theorem x_irng1 {R : It → Hp → Prop} : iRng1 l σ H R = l σ H (fun vs H1 => ∃ j : Int, vs = [.int j] ∧ -(2 ^ 62) ≤ j ∧ j < 2 ^ 62 ∧ R (Itr 0 j.toNat) H1) := rfl
theorem x_irng2 {R : It → Hp → Prop} : iRng2 l σ H R = l σ H (fun vs H1 => ∃ i j : Int, vs = [.int i, .int j] ∧ (-(2 ^ 62) ≤ i ∧ i < 2 ^ 62 ∧ -(2 ^ 62) ≤ j ∧ j < 2 ^ 62) ∧ R (Itr i (j - i).toNat) H1) := rfl
theorem x_irev {R : It → Hp → Prop} : iRev K l σ H R = l σ H (fun vs H1 => ∃ (a : Addr) (xs : List V), vs = [.ref a] ∧ SqL K H1 a xs ∧ R (Itv K a xs.length) H1) := rfl
theorem loop_list {a : Addr} {xs : List V} {g : TG} (Pv : Nat → L2.St → Hp → Prop) (h0 : Pv 0 σ H) (hl : ∀ i σ H, i ≤ xs.length → Pv i σ H → SqL K H a xs)
    (hs : ∀ i x σ H, xs[i]? = some x → Pv i σ H → g x σ H fun σ2 H2 => t { D with nx := Pv (i + 1), ct := Pv (i + 1), bk := D.nx } σ2 H2) (hd : ∀ σ H, Pv xs.length σ H → D.nx σ H) : LoopI (Itl K a) g t D σ H := for_list Pv h0 hl hs hd
theorem loop_range {lo : Int} {n : Nat} {g : TG} (Pv : Nat → L2.St → Hp → Prop) (h0 : Pv 0 σ H)
    (hs : ∀ i σ H, i < n → Pv i σ H → g (.int (lo + i)) σ H fun σ2 H2 => t { D with nx := Pv (i + 1), ct := Pv (i + 1), bk := D.nx } σ2 H2) (hd : ∀ σ H, Pv n σ H → D.nx σ H) : LoopI (Itr lo n) g t D σ H := for_range Pv h0 hs hd
/-! comprehensions -/
def CompI (J : It) (g : TG) (tt : TT) (te : TE) (vs : List Nat) (st : L2.St) (Hs : Hp) (D : Addr) (Qd : Hp → Prop) : Prop :=
  ∃ W : Nat → Nat → Hp → Prop, (∃ m, W 0 m (upd Hs D (.lst []))) ∧ ∀ i m H, W i m H →
    (J.stop i H ∧ Qd H) ∨ (J.go i H ∧ ∃ Nx : Hp → Prop, (∀ G, Nx G → ∃ m2, m2 < m ∧ W (i + 1) m2 G) ∧
      ∀ x G, J.yld i H x G → g x (wipe st vs) G fun s2 G2 => wipe s2 vs = wipe st vs ∧ tt s2 G2 fun b G3 =>
        if b = true then te s2 G3 fun y G4 => ∃ acc, G4 D = some (.lst acc) ∧ acc.length < sizeLine ∧ Nx (upd G4 D (.lst (acc ++ [y]))) else Nx G3)
theorem x_lc {wi : TI} {g : TG} {vs : List Nat} : tLc wi g tA te vs σ H Q = wi σ H (fun J H1 => ∀ D, H1 D = none → CompI J g tA te vs σ H1 D (fun H => Q (.ref D) H)) := rfl
theorem x_yes : tYes σ H QT = QT true H := rfl
theorem comp_range {lo : Int} {n : Nat} {g : TG} {vs : List Nat} {D : Addr} {Qd : Hp → Prop} (Pv : Nat → Hp → Prop) (h0 : Pv 0 (upd H D (.lst [])))
    (hs : ∀ i H, i < n → Pv i H → g (.int (lo + i)) (wipe σ vs) H fun σ2 H2 => wipe σ2 vs = wipe σ vs ∧ tA σ2 H2 fun b H3 =>
      if b = true then te σ2 H3 fun y H4 => ∃ acc, H4 D = some (.lst acc) ∧ acc.length < sizeLine ∧ Pv (i + 1) (upd H4 D (.lst (acc ++ [y]))) else Pv (i + 1) H3) (hd : ∀ H, Pv n H → Qd H) : CompI (Itr lo n) g tA te vs σ H D Qd := lc_range Pv h0 hs hd
theorem comp_list {a : Addr} {xs : List V} {g : TG} {vs : List Nat} {D : Addr} {Qd : Hp → Prop} (Pv : Nat → Hp → Prop) (h0 : Pv 0 (upd H D (.lst []))) (hl : ∀ i H, i ≤ xs.length → Pv i H → SqL K H a xs)
    (hs : ∀ i x H, xs[i]? = some x → Pv i H → g x (wipe σ vs) H fun σ2 H2 => wipe σ2 vs = wipe σ vs ∧ tA σ2 H2 fun b H3 =>
      if b = true then te σ2 H3 fun y H4 => ∃ acc, H4 D = some (.lst acc) ∧ acc.length < sizeLine ∧ Pv (i + 1) (upd H4 D (.lst (acc ++ [y]))) else Pv (i + 1) H3) (hd : ∀ H, Pv xs.length H → Qd H) : CompI (Itl K a) g tA te vs σ H D Qd := lc_list Pv h0 hl hs hd
theorem scal_ii {a b : Int} : scal (.int a) (.int b) = true := rfl
theorem scal_bb {a b : Bool} : scal (.bl a) (.bl b) = true := rfl
theorem scal_ss {a b : Str} : scal (.str a) (.str b) = true := by first | rfl | (unfold scal; rfl)
theorem x_misc {CX : CXT} {P : Program} {w : World} {mg : Str → Option Value} {base : Heap} {N : List Str} {qual : Str} {scope : Scope} {f : Addr} {cd : Value} {A : Around} {outer : List Env} {s : Shared} {E : XK} : (cxOf CX P w K mg base N qual scope f cd A outer s H E).K = K := rfl
theorem x_misc2 {X : Cx} : X.nox.K = X.K := rfl
theorem tyv {a : Addr} {xs : List V} (h : SqL K H a xs) : tyV K "list" (.ref a) H := .inl ⟨rfl, _, h⟩
/-- isinstance -/
theorem isi_int {c : String} {b : Bool} {j : Int} (h : kitB "int" c = some b) (q : Q (.bl b) H) : rIsi K [.int j, .ty c] H Q := ⟨_, _, _, _, b, rfl, .ty c, .base (.int _), kit_ty h, q⟩
theorem isi_lst {c : String} {b : Bool} {a : Addr} {xs : List V} (h : kitB "list" c = some b) (hl : H a = some (.lst xs)) (q : Q (.bl b) H) : rIsi K [.ref a, .ty c] H Q := ⟨_, _, _, _, b, rfl, .ty c, .base (.lst hl), kit_ty h, q⟩
theorem isi_tup {c : String} {b : Bool} {a : Addr} {xs : List V} (h : kitB "tuple" c = some b) (hl : H a = some (.tup xs)) (q : Q (.bl b) H) : rIsi K [.ref a, .ty c] H Q := ⟨_, _, _, _, b, rfl, .ty c, .base (.tup hl), kit_ty h, q⟩
end
/-! ### heaps -/
theorem same_upd {H : Hp} {p : Addr} {o : HO} (h : H p = none) : Same H (upd H p o) := fun b x e => by
  rw [upd_ne (ne_of_none e h)]
  exact e
theorem Same.free' {H H' : Hp} {p : Addr} (s : Same H H') (h : H' p = none) : H p = none := s.free h
theorem Same.seqT {K : PySem.W.Frag} {H H' : Hp} {a : Addr} {xs : List V} (e : Same H H') (h : SqT K H a xs) : SqT K H' a xs := by
  rcases h with (h | ⟨o, h⟩) | h
  · exact .inl (.inl (e _ _ h))
  · exact .inl (.inr ⟨o, e _ _ h⟩)
  · exact .inr h
theorem upd_upd {H : Hp} {p : Addr} {o u : HO} : upd (upd H p o) p u = upd H p u := by
  funext b
  by_cases h : b = p
  · rw [h, upd_same, upd_same]
  · rw [upd_ne h, upd_ne h, upd_ne h]
theorem atI_int {xs : List Int} {k : Int} (h0 : 0 ≤ k) (h1 : k < xs.length) : atI (xs.map V.int) k = some (.int (xs.getD k.toNat 0)) := by
  obtain ⟨n, rfl⟩ := Int.eq_ofNat_of_zero_le h0
  refine atI_nat ?_
  have h2 : n < xs.length := by omega
  rw [List.getElem?_map, List.getElem?_eq_getElem h2, Int.toNat_natCast, List.getD_eq_getElem?_getD, List.getElem?_eq_getElem h2]
  rfl
/-! ### == of data -/
mutual
def plain : PyData → Bool
  | .none => true
  | .bool _ => false
  | .int _ => true
  | .str x => (PyData.str x).canLay0
  | .list xs => plainAl xs
  | .tuple xs => plainAl xs
  | .dict _ => false
def plainAl : List PyData → Bool
  | [] => true
  | x :: xs => (plainAl xs && plain x)
end
mutual
theorem plain_lay : ∀ d : PyData, plain d = true → d.canLay0 = true
  | .none, _ => by simp [PyData.canLay0]
  | .bool _, h => by simp [plain] at h
  | .int _, _ => by simp [PyData.canLay0]
  | .str x, h => by simpa [plain] using h
  | .list xs, h => by
    simp only [plain] at h
    simp only [PyData.canLay0]
    exact plainAl_lay xs h
  | .tuple xs, h => by
    simp only [plain] at h
    simp only [PyData.canLay0]
    exact plainAl_lay xs h
  | .dict _, h => by simp [plain] at h
theorem plainAl_lay : ∀ ds : List PyData, plainAl ds = true → PyData.canLayAll0 ds = true
  | [], _ => by simp [PyData.canLayAll0]
  | x :: xs, h => by
    simp only [plainAl, Bool.and_eq_true] at h
    simp only [PyData.canLayAll0, Bool.and_eq_true]
    exact ⟨plain_lay x h.2, plainAl_lay xs h.1⟩
end
mutual
theorem eqv_iff : ∀ d e : PyData, plain d = true → plain e = true → (PyData.eqv d e = true ↔ d = e)
  | .none, .none, _, _ => by simp [PyData.eqv]
  | .int i, .int j, _, _ => by simp [PyData.eqv]
  | .str i, .str j, _, _ => by simp [PyData.eqv]
  | .list xs, .list ys, h1, h2 => by
    simp only [plain] at h1 h2
    simp only [PyData.eqv, PyData.list.injEq]
    exact eqvAll_iff xs ys h1 h2
  | .tuple xs, .tuple ys, h1, h2 => by
    simp only [plain] at h1 h2
    simp only [PyData.eqv, PyData.tuple.injEq]
    exact eqvAll_iff xs ys h1 h2
  | .bool _, _, h1, _ => by simp [plain] at h1
  | .dict _, _, h1, _ => by simp [plain] at h1
  | _, .bool _, _, h2 => by simp [plain] at h2
  | _, .dict _, _, h2 => by simp [plain] at h2
  | .none, .int _, _, _ => by simp [PyData.eqv]
  | .none, .str _, _, _ => by simp [PyData.eqv]
  | .none, .list _, _, _ => by simp [PyData.eqv]
  | .none, .tuple _, _, _ => by simp [PyData.eqv]
  | .int _, .none, _, _ => by simp [PyData.eqv]
  | .int _, .str _, _, _ => by simp [PyData.eqv]
  | .int _, .list _, _, _ => by simp [PyData.eqv]
  | .int _, .tuple _, _, _ => by simp [PyData.eqv]
  | .str _, .none, _, _ => by simp [PyData.eqv]
  | .str _, .int _, _, _ => by simp [PyData.eqv]
  | .str _, .list _, _, _ => by simp [PyData.eqv]
  | .str _, .tuple _, _, _ => by simp [PyData.eqv]
  | .list _, .none, _, _ => by simp [PyData.eqv]
  | .list _, .int _, _, _ => by simp [PyData.eqv]
  | .list _, .str _, _, _ => by simp [PyData.eqv]
  | .list _, .tuple _, _, _ => by simp [PyData.eqv]
  | .tuple _, .none, _, _ => by simp [PyData.eqv]
  | .tuple _, .int _, _, _ => by simp [PyData.eqv]
  | .tuple _, .str _, _, _ => by simp [PyData.eqv]
  | .tuple _, .list _, _, _ => by simp [PyData.eqv]
theorem eqvAll_iff : ∀ ds es : List PyData, plainAl ds = true → plainAl es = true → (PyData.eqvAll ds es = true ↔ ds = es)
  | [], [], _, _ => by simp [PyData.eqvAll]
  | [], _ :: _, _, _ => by simp [PyData.eqvAll]
  | _ :: _, [], _, _ => by simp [PyData.eqvAll]
  | x :: xs, y :: ys, h1, h2 => by
    simp only [plainAl, Bool.and_eq_true] at h1 h2
    simp only [PyData.eqvAll, Bool.and_eq_true, List.cons.injEq]
    rw [eqv_iff x y h1.2 h2.2, eqvAll_iff xs ys h1.1 h2.1]
end
/-- data as it is compared: its value, and that it is plain and not deep -/
structure Dq (K : PySem.W.Frag) (H : Hp) (v : V) (d : PyData) : Prop where
  dp : Dp K H v d
  pl : plain d = true
  de : d.depth ≤ 64
theorem Dq.sh {K : PySem.W.Frag} {H : Hp} {v : V} {d : PyData} (h : Dq K H v d) : SeqAt.shaped d = true := by
  show (d.canLay0 && decide (d.depth ≤ 64)) = true
  rw [plain_lay d h.pl, decide_eq_true h.de]
  rfl
theorem eqd {K : PySem.W.Frag} {H : Hp} {x y : V} {d e : PyData} {Q : VK} (h1 : Dq K H x d) (h2 : Dq K H y e) (q : ∀ b : Bool, (b = true ↔ d = e) → Q (.bl b) H) : rEqD K x y H Q := ⟨d, e, h1.dp, h2.dp, h1.sh, h2.sh, q _ (eqv_iff d e h1.pl h2.pl)⟩
theorem ned {K : PySem.W.Frag} {H : Hp} {x y : V} {d e : PyData} {Q : VK} (h1 : Dq K H x d) (h2 : Dq K H y e) (q : ∀ b : Bool, (b = true ↔ d = e) → Q (.bl (!b)) H) : rNeD K x y H Q := ⟨d, e, h1.dp, h2.dp, h1.sh, h2.sh, q _ (eqv_iff d e h1.pl h2.pl)⟩
/-- equal data: the answer is known -/
theorem eqd_t {K : PySem.W.Frag} {H : Hp} {x y : V} {d : PyData} {Q : VK} (h1 : Dq K H x d) (h2 : Dq K H y d) (q : Q (.bl true) H) : rEqD K x y H Q := eqd h1 h2 fun b e => by
  rw [e.mpr rfl]
  exact q
theorem ned_f {K : PySem.W.Frag} {H : Hp} {x y : V} {d : PyData} {Q : VK} (h1 : Dq K H x d) (h2 : Dq K H y d) (q : Q (.bl false) H) : rNeD K x y H Q := ned h1 h2 fun b e => by
  rw [e.mpr rfl]
  exact q
theorem dpAll_ints {K : PySem.W.Frag} {H : Hp} : ∀ ns : List Int, DpAll K H (ns.map V.int) (ns.map PyData.int)
  | [] => .nil
  | n :: r => .cons (.int n) (dpAll_ints r)
theorem plainAl_ints : ∀ ns : List Int, plainAl (ns.map PyData.int) = true
  | [] => by simp [plainAl]
  | n :: r => by simp [plainAl, plain, plainAl_ints r]
theorem depthAll_ints' : ∀ ns : List Int, PyData.depthAll (ns.map PyData.int) ≤ 1
  | [] => by simp [PyData.depthAll]
  | n :: r => by
    have := depthAll_ints' r
    simp only [List.map_cons, PyData.depthAll, PyData.depth]
    omega
section
variable {K : PySem.W.Frag} {H : Hp}
theorem dq_int {i : Int} : Dq K H (.int i) (.int i) := ⟨.int i, by simp [plain], by simp [PyData.depth]⟩
theorem dq_lst {a : Addr} {ns : List Int} (h : SqL K H a (ns.map V.int)) : Dq K H (.ref a) (.list (ns.map PyData.int)) := ⟨.lst h (dpAll_ints ns), by simp only [plain]; exact plainAl_ints ns, by
  have := depthAll_ints' ns
  simp only [PyData.depth]
  omega⟩
theorem dq_tup {a : Addr} {ns : List Int} (h : SqT K H a (ns.map V.int)) : Dq K H (.ref a) (.tuple (ns.map PyData.int)) := ⟨.tup h (dpAll_ints ns), by simp only [plain]; exact plainAl_ints ns, by
  have := depthAll_ints' ns
  simp only [PyData.depth]
  omega⟩
theorem map_int_inj {ns ms : List Int} : ns.map PyData.int = ms.map PyData.int ↔ ns = ms := by
  refine ⟨fun h => ?_, fun h => by rw [h]⟩
  have e : ∀ l : List Int, (l.map PyData.int).map (fun d => match d with | .int i => i | _ => 0) = l := fun l => by
    rw [List.map_map]
    exact List.map_id'' (fun _ => rfl) l
  rw [← e ns, ← e ms, h]
end
theorem x_eqd {K : PySem.W.Frag} {H : Hp} {x y : V} {Q : VK} : rEqD K x y H Q = rEqD K x y H Q := rfl
/-! ### reversed lists, slices -/
theorem loop_rev {K : PySem.W.Frag} {t : TS} {D : Ends} {σ : L2.St} {H : Hp} {a : Addr} {xs : List V} {g : TG} (Pv : Nat → L2.St → Hp → Prop) (h0 : Pv 0 σ H) (hl : ∀ i σ H, i ≤ xs.length → Pv i σ H → SqL K H a xs)
    (hs : ∀ i x σ H, xs[xs.length - 1 - i]? = some x → i < xs.length → Pv i σ H → g x σ H fun σ2 H2 => t { D with nx := Pv (i + 1), ct := Pv (i + 1), bk := D.nx } σ2 H2) (hd : ∀ σ H, Pv xs.length σ H → D.nx σ H) : LoopI (Itv K a xs.length) g t D σ H := by
  refine ⟨fun i left σ H => left = xs.length - i ∧ i ≤ xs.length ∧ Pv i σ H, ⟨xs.length, by omega, by omega, h0⟩, ?_⟩
  rintro i left σ H ⟨rfl, hi, p⟩
  have q := hl i σ H hi p
  by_cases hlt : i < xs.length
  · have hk : xs.length - 1 - i < xs.length := by omega
    refine .inr ⟨⟨hlt, xs, xs[xs.length - 1 - i], q, by simp [hk]⟩, Pv (i + 1), fun σ' H' p' => ⟨xs.length - (i + 1), by omega, rfl, hlt, p'⟩, fun x H' y => ?_⟩
    obtain ⟨e, y⟩ := y
    subst e
    exact hs i x σ _ (y xs q) hlt p
  · obtain rfl : i = xs.length := Nat.le_antisymm hi (by omega)
    exact .inl ⟨Nat.le_refl xs.length, hd σ H p⟩
theorem cutV_nn {xs : List V} {i j : Nat} (h : i ≤ j) (hj : j ≤ xs.length) : cutV xs (some (i : Int)) (some (j : Int)) = (xs.drop i).take (j - i) := by
  unfold cutV
  rw [HT.sIx_nat, HT.sIx_nat, Nat.min_eq_left hj, Nat.min_eq_left (Nat.le_trans h hj)]
theorem cutV_from {xs : List V} {i : Nat} (h : i ≤ xs.length) : cutV xs (some (i : Int)) none = xs.drop i := by
  unfold cutV
  rw [HT.sIx_nat, HT.sIx_none, Nat.min_eq_left h]
  exact List.take_of_length_le (by rw [List.length_drop]; exact Nat.le_refl _)
theorem cutV_upto {xs : List V} {j : Nat} (hj : j ≤ xs.length) : cutV xs none (some (j : Int)) = xs.take j := by
  unfold cutV
  rw [HT.sIx_nat, HT.sIx_none, Nat.min_eq_left hj, List.drop_zero, Nat.sub_zero]
/-! ### exceptions caught -/
theorem x_xf {a : Addr} {cls : Value} {d : Option Addr} {C : Addr} {f : Str} {te : TE} {σ : L2.St} {H : Hp} {Q : VK} : tXf a cls d C f te σ H Q = te σ H (fun x H1 => x = .ref a ∧ cls = .ref C ∧ ∃ (dd : Addr) (fs : List (Str × V)) (v : V), d = some dd ∧ H1 dd = some (.xd fs) ∧ fs.lookup f = some v ∧ Q v H1) := rfl
theorem x_rz {K : PySem.W.Frag} {C : Addr} {W : WX} {ta : TA} {D : Ends} {σ : L2.St} {H : Hp} : tRz K C W ta D σ H = ta σ H (fun vs H1 => Bz K C W σ vs H1) := rfl
theorem lookup_at {v : V} : List.lookup ("at" : Str) [(("at" : Str), v)] = some v := rfl
theorem as_yes {K : PySem.W.Frag} {mg : Str → Option Value} {x : Str} {i : Nat} {ts : Addr → Value → Option Addr → TS} {Wout : WX} {D : Ends} {σ : L2.St} {H : Hp} {d : Option Addr} (T : ExF K mg x)
    (h : ∀ a, H a = none → ts a (.ref (He.ga K x)) d { nx := fun σ' H' => D.nx (σ'.set i none) H', rt := D.rt, bk := fun σ' H' => D.bk (σ'.set i none) H', ct := fun σ' H' => D.ct (σ'.set i none) H' } (σ.set i (some (.ref a))) H) :
    wAs K (.ref (He.ga K x)) i ts Wout D (.ref (He.ga K x)) d σ H := ⟨true, T.te, fun _ => h, fun z => nomatch z⟩
theorem int_at {ns : List Int} {i : Nat} {x : V} (h : (ns.map V.int)[i]? = some x) : ∃ z, ns[i]? = some z ∧ x = .int z := by
  rw [List.getElem?_map] at h
  cases e : ns[i]? with
  | none =>
    rw [e] at h
    cases h
  | some z =>
    rw [e] at h
    exact ⟨z, rfl, (Option.some.inj h).symm⟩
theorem upd_keep {H : Hp} {b c : Addr} {o x : HO} (hb : H b = none) (h : H c = some x) : upd H b o c = some x := same_upd hb c x h
theorem upd_other {H : Hp} {b c : Addr} {o x : HO} (hb : c ≠ b) (h : H c = some x) : upd H b o c = some x := (upd_ne hb).trans h
theorem Same.get {H H' : Hp} {a : Addr} {o : HO} (s : Same H H') (h : H a = some o) : H' a = some o := s a o h
theorem same_put {H H' : Hp} {p : Addr} {o : HO} (s : Same H H') (h : H p = none) : Same H (upd H' p o) := fun b x e => by
  rw [upd_ne (ne_of_none e h)]
  exact s b x e
theorem line_map {ds : List Int} {n : Nat} (h : ds.length ≤ n) (hn : n < 16777216) : (ds.map V.int).length < sizeLine := by
  rw [List.length_map, sizeLine_eq]
  omega
theorem line_map' {ds : List Int} {n : Nat} (h : ds.length ≤ n) (hn : n < 16777216) : (ds.map V.int).length ≤ sizeLine := Nat.le_of_lt (line_map h hn)
/-! ### x op= e of ints -/
def ipC (C : Int → Int → Prop) (f : Int → Int → Int) : TIp := fun x y H Q => ∃ i j, x = .int i ∧ y = .int j ∧ C i j ∧ Q (.int (f i j)) H
theorem x_ipC {C : Int → Int → Prop} {f : Int → Int → Int} {x y : V} {H : Hp} {Q : VK} : ipC C f x y H Q = ∃ i j, x = .int i ∧ y = .int j ∧ C i j ∧ Q (.int (f i j)) H := rfl
section
variable {X : Cx}
theorem ip_fdiv : PIp X .FloorDiv (ipC CDiv fun i j => i / j) := by
  intro pins s σ H x y v u Q I r1 r2 h
  obtain ⟨i, j, e1, e2, hc, q⟩ := h
  subst e1; subst e2
  obtain ⟨t, rfl⟩ := r1
  obtain ⟨t', rfl⟩ := r2
  have h1 : (0 : Int) < j := hc.1
  have h2 := hc.2
  exact ifloordiv_int (by omega) (by rw [Int.fdiv_eq_ediv_of_nonneg i (by omega)]; exact ⟨.int _, H, I.tok _, ⟨_, rfl⟩, q⟩) (.inl (PyProof.noPylong_small (by omega)))
theorem ip_mod : PIp X .Mod (ipC (fun _ j => 0 < j) fun i j => i % j) := by
  intro pins s σ H x y v u Q I r1 r2 h
  obtain ⟨i, j, e1, e2, hc, q⟩ := h
  subst e1; subst e2
  obtain ⟨t, rfl⟩ := r1
  obtain ⟨t', rfl⟩ := r2
  exact imod_int (by omega) (by rw [Int.fmod_eq_emod_of_nonneg i (by omega)]; exact ⟨.int _, H, I.tok _, ⟨_, rfl⟩, q⟩)
theorem ip_shr : PIp X .RShift (ipC (fun _ j => 0 ≤ j) fun i j => i / 2 ^ j.toNat) := by
  intro pins s σ H x y v u Q I r1 r2 h
  obtain ⟨i, j, e1, e2, hc, q⟩ := h
  subst e1; subst e2
  obtain ⟨t, rfl⟩ := r1
  obtain ⟨t', rfl⟩ := r2
  exact irshift_int hc (by rw [Int.fdiv_eq_ediv_of_nonneg i (Int.le_of_lt (Int.pow_pos (by decide)))]; exact ⟨.int _, H, I.tok _, ⟨_, rfl⟩, q⟩)
theorem ip_shl : PIp X .LShift (ipC (fun i j => 0 ≤ j ∧ (Builtin.Int.intBits i : Int) + j ≤ 2 ^ 27) fun i j => i * 2 ^ j.toNat) := by
  intro pins s σ H x y v u Q I r1 r2 h
  obtain ⟨i, j, e1, e2, hc, q⟩ := h
  subst e1; subst e2
  obtain ⟨t, rfl⟩ := r1
  obtain ⟨t', rfl⟩ := r2
  exact ilshift_int hc.1 hc.2 ⟨.int _, H, I.tok _, ⟨_, rfl⟩, q⟩
theorem ip_mul : PIp X .Mult (ipC CMul fun i j => i * j) := by
  intro pins s σ H x y v u Q I r1 r2 h
  obtain ⟨i, j, e1, e2, hc, q⟩ := h
  subst e1; subst e2
  obtain ⟨t, rfl⟩ := r1
  obtain ⟨t', rfl⟩ := r2
  exact PyProof.Rows.imul_int ⟨.int _, H, I.tok _, ⟨_, rfl⟩, q⟩ hc.ok
theorem ip_and : PIp X .BitAnd (ipI fun i j => Builtin.bitAnd i j) := by
  intro pins s σ H x y v u Q I r1 r2 h
  obtain ⟨i, j, e1, e2, q⟩ := h
  subst e1; subst e2
  obtain ⟨t, rfl⟩ := r1
  obtain ⟨t', rfl⟩ := r2
  exact iand_int ⟨.int _, H, I.tok _, ⟨_, rfl⟩, q⟩
theorem ip_or : PIp X .BitOr (ipI fun i j => Builtin.bitOr i j) := by
  intro pins s σ H x y v u Q I r1 r2 h
  obtain ⟨i, j, e1, e2, q⟩ := h
  subst e1; subst e2
  obtain ⟨t, rfl⟩ := r1
  obtain ⟨t', rfl⟩ := r2
  exact ior_int ⟨.int _, H, I.tok _, ⟨_, rfl⟩, q⟩
theorem ip_xor : PIp X .BitXor (ipI fun i j => Builtin.bitXor i j) := by
  intro pins s σ H x y v u Q I r1 r2 h
  obtain ⟨i, j, e1, e2, q⟩ := h
  subst e1; subst e2
  obtain ⟨t, rfl⟩ := r1
  obtain ⟨t', rfl⟩ := r2
  exact ixor_int ⟨.int _, H, I.tok _, ⟨_, rfl⟩, q⟩
end
/-! ### while -/
def WhB (Pv : L2.St → Hp → Prop) (μ : L2.St → Hp → Nat) (tb : TS) (D : Ends) (σ : L2.St) (H : Hp) (b : Bool) (H1 : Hp) : Prop :=
  if b = true then ∃ N : L2.St → Hp → Prop, (∀ σ' H', N σ' H' → ∃ m', m' < μ σ H ∧ (m' = μ σ' H' ∧ Pv σ' H')) ∧ tb { D with nx := N, ct := N, bk := D.nx } σ H1 else D.nx σ H1
section
variable {c : TT} {tb : TS} {D : Ends} {σ : L2.St} {H H1 : Hp} {Pv : L2.St → Hp → Prop} {μ : L2.St → Hp → Nat}
theorem loop_while (Pv : L2.St → Hp → Prop) (μ : L2.St → Hp → Nat) (h0 : Pv σ H) (hs : ∀ σ H, Pv σ H → c σ H fun b H1 => WhB Pv μ tb D σ H b H1) : tWhile c tb D σ H := by
  refine ⟨fun left σ H => left = μ σ H ∧ Pv σ H, ⟨μ σ H, rfl, h0⟩, ?_⟩
  rintro left σ H ⟨rfl, p⟩
  exact hs σ H p
theorem wh {b : Bool} (h1 : b = true → tb { D with nx := fun σ' H' => Pv σ' H' ∧ μ σ' H' < μ σ H, ct := fun σ' H' => Pv σ' H' ∧ μ σ' H' < μ σ H, bk := D.nx } σ H1) (h2 : b = false → D.nx σ H1) : WhB Pv μ tb D σ H b H1 := by
  cases b
  · exact h2 rfl
  · exact ⟨_, fun σ' H' ⟨p, l⟩ => ⟨_, l, rfl, p⟩, h1 rfl⟩
theorem wh_d {p : Prop} {_ : Decidable p} (h1 : p → tb { D with nx := fun σ' H' => Pv σ' H' ∧ μ σ' H' < μ σ H, ct := fun σ' H' => Pv σ' H' ∧ μ σ' H' < μ σ H, bk := D.nx } σ H1) (h2 : ¬ p → D.nx σ H1) : WhB Pv μ tb D σ H (decide p) H1 := wh (fun e => h1 (of_decide_eq_true e)) (fun e => h2 (of_decide_eq_false e))
end
theorem cpow_ok {i j : Int} (h : (decide (0 ≤ j) && decide (j ≤ 1000000) && decide (i.natAbs < 2 ^ 64)) = true) : CPow i j := by
  simp only [Bool.and_eq_true, decide_eq_true_eq] at h
  exact ⟨h.1.1, h.1.2, h.2⟩
theorem xf_at {a d : Addr} {C : Addr} {i : Nat} {σ : L2.St} {H : Hp} {Q : VK} {v : V} (hi : σ[i]? = some (some (.ref a))) (h : H d = some (.xd [("at", v)])) (q : Q v H) : tXf a (.ref C) (some d) C "at" (tVar i) σ H Q := ⟨_, hi, rfl, rfl, d, _, v, rfl, h, lookup_at, q⟩
section
variable {K : PySem.W.Frag} {H : Hp} {a : Addr} {xs : List V} {P : List V → Prop}
theorem ex_lst (h : H a = some (.lst xs)) (q : P xs) : ∃ x, H a = some (.lst x) ∧ P x := ⟨xs, h, q⟩
theorem ex_sq (h : SqL K H a xs) (q : P xs) : ∃ x, SqL K H a x ∧ P x := ⟨xs, h, q⟩
theorem ex_sqt (h : SqT K H a xs) (q : P xs) : ∃ x, SqT K H a x ∧ P x := ⟨xs, h, q⟩
theorem ex_or (h : SqL K H a xs) (q : P xs) : ∃ x, (SqL K H a x ∨ SqT K H a x) ∧ P x := ⟨xs, .inl h, q⟩
theorem ex_ort (h : SqT K H a xs) (q : P xs) : ∃ x, (SqL K H a x ∨ SqT K H a x) ∧ P x := ⟨xs, .inr h, q⟩
theorem and_sq {B : Prop} (h : SqL K H a xs) (q : B) : (∃ x, SqL K H a x) ∧ B := ⟨⟨xs, h⟩, q⟩
theorem and_tyv {B : Prop} (h : SqL K H a xs) (q : B) : tyV K "list" (.ref a) H ∧ B := ⟨tyv h, q⟩
end
theorem pow2_le {i j : Nat} (h : i ≤ j) : (2 : Int) ^ i ≤ 2 ^ j := by exact_mod_cast Nat.pow_le_pow_right (by decide) h
theorem pow2_pos {i : Nat} : (0 : Int) < 2 ^ i := Int.pow_pos (by decide)
/-! guards: the goal's shape, nothing else -/
section
variable {K : PySem.W.Frag} {H : Hp} {a : Addr} {P : List V → Prop} {B : Prop}
theorem g_xf {cls : Value} {d : Option Addr} {C : Addr} {f : Str} {te : TE} {σ : L2.St} {Q : VK} (h : tXf a cls d C f te σ H Q) : tXf a cls d C f te σ H Q := h
theorem g_and {A : Prop} (h : A ∧ B) : A ∧ B := h
theorem g_tyv (h : tyV K "list" (.ref a) H ∧ B) : tyV K "list" (.ref a) H ∧ B := h
theorem g_asq (h : (∃ x, SqL K H a x) ∧ B) : (∃ x, SqL K H a x) ∧ B := h
theorem g_lst (h : ∃ x, H a = some (.lst x) ∧ P x) : ∃ x, H a = some (.lst x) ∧ P x := h
theorem g_or (h : ∃ x, (SqL K H a x ∨ SqT K H a x) ∧ P x) : ∃ x, (SqL K H a x ∨ SqT K H a x) ∧ P x := h
theorem g_sq (h : ∃ x, SqL K H a x ∧ P x) : ∃ x, SqL K H a x ∧ P x := h
theorem g_sqt (h : ∃ x, SqT K H a x ∧ P x) : ∃ x, SqT K H a x ∧ P x := h
end
theorem cmul_r {i j : Int} (h1 : -18446744073709551616 < j) (h2 : j < 18446744073709551616) : CMul i j := .inr ⟨h1, h2⟩
theorem cmul_l {i j : Int} (h1 : -18446744073709551616 < i) (h2 : i < 18446744073709551616) : CMul i j := .inl ⟨h1, h2⟩
theorem cdiv_ok {i j : Int} (h1 : 0 < j) (h2 : j < 1073741824) : CDiv i j := ⟨h1, h2⟩
/-! comprehensions of ints over a range, nothing else made -/
def CP (D : Addr) (H1 : Hp) (y : V) (H4 : Hp) : Prop := ∃ acc, H4 D = some (.lst acc) ∧ acc.length < sizeLine ∧ upd H4 D (.lst (acc ++ [y])) = H1
def rngL (f : Nat → Int) (n : Nat) : List Int := (List.range n).map f
theorem rngL_len {f : Nat → Int} {n : Nat} : (rngL f n).length = n := by unfold rngL; rw [List.length_map, List.length_range]
theorem rngL_succ {f : Nat → Int} {n : Nat} : rngL f (n + 1) = rngL f n ++ [f n] := by
  unfold rngL
  rw [List.range_succ, List.map_append]
  rfl
theorem comp_rngY {te : TE} {σ : L2.St} {H : Hp} {lo : Int} {n : Nat} {g : TG} {vs : List Nat} {D : Addr} {Qd : Hp → Prop} (f : Nat → Int)
    (hs : ∀ i, i < n → g (.int (lo + i)) (wipe σ vs) (upd H D (.lst ((rngL f i).map V.int))) fun σ2 H2 => wipe σ2 vs = wipe σ vs ∧ te σ2 H2 (CP D (upd H D (.lst ((rngL f (i + 1)).map V.int)))))
    (hd : Qd (upd H D (.lst ((rngL f n).map V.int)))) : CompI (Itr lo n) g tYes te vs σ H D Qd := by
  refine comp_range (fun i H' => H' = upd H D (.lst ((rngL f i).map V.int))) rfl ?_ ?_
  · rintro i H' hi rfl
    exact hs i hi
  · rintro H' rfl
    exact hd
theorem cp {f : Nat → Int} {i : Nat} {D : Addr} {H : Hp} {y : V} (hn : i < 100000) (hy : y = .int (f i)) : CP D (upd H D (.lst ((rngL f (i + 1)).map V.int))) y (upd H D (.lst ((rngL f i).map V.int))) := by
  refine ⟨_, upd_same, ?_, ?_⟩
  · rw [List.length_map, rngL_len, sizeLine_eq]
    omega
  · rw [Bel.upd_upd, rngL_succ, List.map_append, hy]
    rfl
theorem wipe_nil {σ : L2.St} : wipe σ [] = σ := rfl
theorem wipe_cons {σ : L2.St} {v : Nat} {vs : List Nat} : wipe σ (v :: vs) = (wipe σ vs).set v none := rfl
theorem loop_rangeN {t : TS} {D : Ends} {σ : L2.St} {H : Hp} {lo : Int} {n m : Nat} {g : TG} (hn : n = m) (Pv : Nat → L2.St → Hp → Prop) (h0 : Pv 0 σ H)
    (hs : ∀ i σ H, i < m → Pv i σ H → g (.int (lo + i)) σ H fun σ2 H2 => t { D with nx := Pv (i + 1), ct := Pv (i + 1), bk := D.nx } σ2 H2) (hd : ∀ σ H, Pv m σ H → D.nx σ H) : LoopI (Itr lo n) g t D σ H := by
  subst hn
  exact loop_range Pv h0 hs hd
section
variable {K : PySem.W.Frag} {H : Hp} {x y : V} {Q : VK} {vs : List V}
theorem g_new {Pa : Addr → Prop} (h : ∀ p : Addr, H p = none → Pa p) : ∀ p : Addr, H p = none → Pa p := h
theorem g_ned (h : rNeD K x y H Q) : rNeD K x y H Q := h
theorem g_eqd (h : rEqD K x y H Q) : rEqD K x y H Q := h
theorem g_isi (h : rIsi K vs H Q) : rIsi K vs H Q := h
end
section
variable {t u : TS} {ta tb : TE} {tA tB' : TT} {D : Ends} {σ : L2.St} {H : Hp} {Q : VK} {QT : Bool → Hp → Prop} {p : Prop} {_ : Decidable p} {b : Bool}
theorem g_sel (h : Sel b t u D σ H) : Sel b t u D σ H := h
theorem g_selE (h : SelE b ta tb σ H Q) : SelE b ta tb σ H Q := h
theorem g_selT (h : SelT b tA tB' σ H QT) : SelT b tA tB' σ H QT := h
theorem sel_p (h : p) (q : t D σ H) : Sel (decide p) t u D σ H := by
  rw [decide_eq_true h]
  exact q
theorem sel_n (h : ¬ p) (q : u D σ H) : Sel (decide p) t u D σ H := by
  rw [decide_eq_false h]
  exact q
theorem selN_p (h : p) (q : u D σ H) : Sel (!decide p) t u D σ H := by
  rw [decide_eq_true h]
  exact q
theorem selN_n (h : ¬ p) (q : t D σ H) : Sel (!decide p) t u D σ H := by
  rw [decide_eq_false h]
  exact q
theorem selE_p (h : p) (q : ta σ H Q) : SelE (decide p) ta tb σ H Q := by
  rw [decide_eq_true h]
  exact q
theorem selE_n (h : ¬ p) (q : tb σ H Q) : SelE (decide p) ta tb σ H Q := by
  rw [decide_eq_false h]
  exact q
theorem selEN_p (h : p) (q : tb σ H Q) : SelE (!decide p) ta tb σ H Q := by
  rw [decide_eq_true h]
  exact q
theorem selEN_n (h : ¬ p) (q : ta σ H Q) : SelE (!decide p) ta tb σ H Q := by
  rw [decide_eq_false h]
  exact q
theorem selT_p (h : p) (q : tA σ H QT) : SelT (decide p) tA tB' σ H QT := by
  rw [decide_eq_true h]
  exact q
theorem selT_n (h : ¬ p) (q : tB' σ H QT) : SelT (decide p) tA tB' σ H QT := by
  rw [decide_eq_false h]
  exact q
theorem selTN_p (h : p) (q : tB' σ H QT) : SelT (!decide p) tA tB' σ H QT := by
  rw [decide_eq_true h]
  exact q
theorem selTN_n (h : ¬ p) (q : tA σ H QT) : SelT (!decide p) tA tB' σ H QT := by
  rw [decide_eq_false h]
  exact q
end
section
variable {t u : TS} {ta tb : TE} {tA tB' : TT} {D : Ends} {σ : L2.St} {H : Hp} {Q : VK} {QT : Bool → Hp → Prop} {p : Prop} {_ : Decidable p}
theorem gd_sel (h : Sel (decide p) t u D σ H) : Sel (decide p) t u D σ H := h
theorem gn_sel (h : Sel (!decide p) t u D σ H) : Sel (!decide p) t u D σ H := h
theorem gd_selE (h : SelE (decide p) ta tb σ H Q) : SelE (decide p) ta tb σ H Q := h
theorem gn_selE (h : SelE (!decide p) ta tb σ H Q) : SelE (!decide p) ta tb σ H Q := h
theorem gd_selT (h : SelT (decide p) tA tB' σ H QT) : SelT (decide p) tA tB' σ H QT := h
theorem gn_selT (h : SelT (!decide p) tA tB' σ H QT) : SelT (!decide p) tA tB' σ H QT := h
end
theorem ex_at {xs : List V} {i : Int} {v : V} {P : V → Prop} (h : atI xs i = some v) (q : P v) : ∃ x, atI xs i = some x ∧ P x := ⟨v, h, q⟩
theorem g_atI {xs : List V} {i : Int} {P : V → Prop} (h : ∃ x, atI xs i = some x ∧ P x) : ∃ x, atI xs i = some x ∧ P x := h
theorem ixN_ok {n : Nat} {i : Int} (h0 : 0 ≤ i) (h1 : i < n) : ixN n i = some i.toNat := by
  unfold ixN
  rw [if_pos h0, if_pos h1]
theorem set_ints {xs : List Int} {j : Nat} {v : Int} : (xs.map V.int).set j (.int v) = (xs.set j v).map V.int := (List.map_set ..).symm
theorem x_bits {te : TE} {σ : L2.St} {H : Hp} {Q : VK} : tBits te σ H Q = te σ H (fun x H1 => ∃ i, x = .int i ∧ Q (.int (Builtin.Int.intBits i : Nat)) H1) := rfl
theorem loop_tup {K : PySem.W.Frag} {t : TS} {D : Ends} {σ : L2.St} {H : Hp} {a : Addr} {xs : List V} {g : TG} (Pv : Nat → L2.St → Hp → Prop) (h0 : Pv 0 σ H) (hl : ∀ i σ H, i ≤ xs.length → Pv i σ H → SqT K H a xs)
    (hs : ∀ i x σ H, xs[i]? = some x → Pv i σ H → g x σ H fun σ2 H2 => t { D with nx := Pv (i + 1), ct := Pv (i + 1), bk := D.nx } σ2 H2) (hd : ∀ σ H, Pv xs.length σ H → D.nx σ H) : LoopI (Itt K a) g t D σ H := for_tup Pv h0 hl hs hd
/-! the number of bits -/
theorem bits_is {r k : Nat} (h1 : 2 ^ k ≤ r) (h2 : r < 2 ^ (k + 1)) : Builtin.Int.intBits (r : Int) = k + 1 := by
  have h0 : r ≠ 0 := by
    have := Nat.two_pow_pos k
    omega
  unfold Builtin.Int.intBits
  rw [if_neg (by simpa using h0), Int.natAbs_natCast]
  have a : k ≤ r.log2 := (Nat.le_log2 h0).mpr h1
  have b : r.log2 < k + 1 := (Nat.log2_lt h0).mpr h2
  omega
theorem bits_at {r : Nat} (h0 : r ≠ 0) : ∃ k, Builtin.Int.intBits (r : Int) = k + 1 ∧ 2 ^ k ≤ r ∧ r < 2 ^ (k + 1) := by
  refine ⟨r.log2, ?_, Nat.log2_self_le h0, Nat.lt_log2_self⟩
  exact bits_is (Nat.log2_self_le h0) Nat.lt_log2_self
/-! enumerate of a list: a new pair each turn -/
theorem x_ienum {K : PySem.W.Frag} {l : TA} {σ : L2.St} {H : Hp} {R : It → Hp → Prop} : iEnum K l σ H R = l σ H (fun vs H1 => ∃ (a : Addr) (xs : List V), vs = [.ref a] ∧ SqL K H1 a xs ∧ R (Ite K a) H1) := rfl
theorem loop_enum {K : PySem.W.Frag} {t : TS} {D : Ends} {σ : L2.St} {H : Hp} {a : Addr} {xs : List V} {g : TG} (Pv : Nat → L2.St → Hp → Prop) (h0 : Pv 0 σ H) (hl : ∀ i σ H, i ≤ xs.length → Pv i σ H → SqL K H a xs)
    (hs : ∀ i x σ H T, xs[i]? = some x → Pv i σ H → H T = none → g (.ref T) σ (upd H T (.tup [.int (i : Nat), x])) fun σ2 H2 => t { D with nx := Pv (i + 1), ct := Pv (i + 1), bk := D.nx } σ2 H2) (hd : ∀ σ H, Pv xs.length σ H → D.nx σ H) : LoopI (Ite K a) g t D σ H := by
  refine ⟨fun i left σ H => left = xs.length - i ∧ i ≤ xs.length ∧ Pv i σ H, ⟨xs.length, by omega, by omega, h0⟩, ?_⟩
  rintro i left σ H ⟨rfl, hi, p⟩
  have q := hl i σ H hi p
  by_cases hlt : i < xs.length
  · refine .inr ⟨⟨xs, xs[i], q, List.getElem?_eq_getElem hlt⟩, Pv (i + 1), fun σ' H' p' => ⟨xs.length - (i + 1), by omega, rfl, hlt, p'⟩, fun x H' y => ?_⟩
    obtain ⟨T, x2, e1, hT, e2, y⟩ := y
    subst e1; subst e2
    exact hs i x2 σ H T (y xs q) p hT
  · obtain rfl : i = xs.length := Nat.le_antisymm hi (by omega)
    exact .inl ⟨⟨xs, q, Nat.le_refl _⟩, hd σ H p⟩
/-- an empty tuple of the program -/
def etB (K : PySem.W.Frag) (p : Addr) : Bool := match K.lookup p with
  | some ⟨.type c, _, .seq its _, _⟩ => decide (c = "tuple") && its.isEmpty
  | _ => false
theorem etB_ok {K : PySem.W.Frag} {p : Addr} (h : etB K p = true) (H : Hp) : SqT K H p [] := by
  unfold etB at h
  split at h
  · rename_i c od its n osl q
    simp only [Bool.and_eq_true, decide_eq_true_eq, Array.isEmpty_iff] at h
    obtain ⟨rfl, rfl⟩ := h
    exact .inr ⟨_, _, n, q, rfl, rfl, Nat.zero_le _, .nil⟩
  · cases h
/-! lists of tuples of ints -/
inductive TkAll (H : Hp) : List V → List (List Int) → Prop
  | nil : TkAll H [] []
  | cons {r : Addr} {t : List Int} {vs : List V} {ts : List (List Int)} : H r = some (.tup (t.map V.int)) → TkAll H vs ts → TkAll H (.ref r :: vs) (t :: ts)
namespace TkAll
variable {H G : Hp} {vs us : List V} {ts ws : List (List Int)}
theorem len (h : TkAll H vs ts) : vs.length = ts.length := by
  induction h with
  | nil => rfl
  | cons _ _ ih => exact congrArg (· + 1) ih
theorem same (h : TkAll H vs ts) (s : Same H G) : TkAll G vs ts := by
  induction h with
  | nil => exact .nil
  | cons e _ ih => exact .cons (s _ _ e) ih
theorem put {m : Addr} {l : List V} {o : HO} (h : TkAll H vs ts) (hm : H m = some (.lst l)) : TkAll (upd H m o) vs ts := by
  induction h with
  | nil => exact .nil
  | cons e _ ih =>
    refine .cons ?_ ih
    rw [upd_ne ?_]
    · exact e
    · intro z
      rw [z, hm] at e
      cases e
theorem append (h : TkAll H vs ts) (g : TkAll H us ws) : TkAll H (vs ++ us) (ts ++ ws) := by
  induction h with
  | nil => exact g
  | cons e _ ih => exact .cons e ih
theorem take (h : TkAll H vs ts) (n : Nat) : TkAll H (vs.take n) (ts.take n) := by
  induction h generalizing n with
  | nil =>
    rw [List.take_nil, List.take_nil]
    exact .nil
  | cons e _ ih =>
    cases n with
    | zero => exact .nil
    | succ n => exact .cons e (ih n)
theorem drop (h : TkAll H vs ts) (n : Nat) : TkAll H (vs.drop n) (ts.drop n) := by
  induction h generalizing n with
  | nil =>
    rw [List.drop_nil, List.drop_nil]
    exact .nil
  | cons e g ih =>
    cases n with
    | zero => exact .cons e g
    | succ n => exact ih n
theorem get (h : TkAll H vs ts) {i : Nat} {x : V} (hx : vs[i]? = some x) : ∃ r t, x = .ref r ∧ ts[i]? = some t ∧ H r = some (.tup (t.map V.int)) := by
  induction h generalizing i with
  | nil => cases hx
  | cons e _ ih =>
    cases i with
    | zero =>
      cases hx
      exact ⟨_, _, rfl, rfl, e⟩
    | succ i => exact ih hx
theorem dp {K : PySem.W.Frag} (h : TkAll H vs ts) : DpAll K H vs (ts.map fun t => .tuple (t.map PyData.int)) := by
  induction h with
  | nil => exact .nil
  | cons e _ ih => exact .cons (.tup (SqT.of e) (dpAll_ints _)) ih
end TkAll
theorem plainAl_toks : ∀ ts : List (List Int), plainAl (ts.map fun t => .tuple (t.map PyData.int)) = true
  | [] => by simp [plainAl]
  | t :: r => by simp [plainAl, plain, plainAl_toks r, plainAl_ints t]
theorem depthAll_toks : ∀ ts : List (List Int), PyData.depthAll (ts.map fun t => .tuple (t.map PyData.int)) ≤ 2
  | [] => by simp [PyData.depthAll]
  | t :: r => by
    have := depthAll_toks r
    have := depthAll_ints' t
    simp only [List.map_cons, PyData.depthAll, PyData.depth]
    omega
theorem dq_toks {K : PySem.W.Frag} {H : Hp} {a : Addr} {vs : List V} {ts : List (List Int)} (h : SqL K H a vs) (g : TkAll H vs ts) : Dq K H (.ref a) (.list (ts.map fun t => .tuple (t.map PyData.int))) := ⟨.lst h g.dp, by simp only [plain]; exact plainAl_toks ts, by
  have := depthAll_toks ts
  simp only [PyData.depth]
  omega⟩
/-! xs[i] op= e, i from the front -/
def rGetL (K : PySem.W.Frag) : V → V → Hp → VK → Prop := fun a b H Q => ∃ (p : Addr) (xs : List V) (i : Int) (v : V), a = .ref p ∧ b = .int i ∧ SqL K H p xs ∧ 0 ≤ i ∧ atI xs i = some v ∧ Q v H
theorem x_getL {K : PySem.W.Frag} {a b : V} {H : Hp} {Q : VK} : rGetL K a b H Q = ∃ (p : Addr) (xs : List V) (i : Int) (v : V), a = .ref p ∧ b = .int i ∧ SqL K H p xs ∧ 0 ≤ i ∧ atI xs i = some v ∧ Q v H := rfl
theorem getL {X : Cx} (K : PySem.W.Frag) (e : X.K = K := by rfl) : PGet X (rGetL K) := by
  subst e
  intro pins s σ H o i ov iv Q I ro ri h
  obtain ⟨p, xs, k, z, rfl, rfl, hq, h0, he, q⟩ := h
  cases ro
  obtain ⟨t, rfl⟩ := ri
  obtain ⟨its, r, pl, hz⟩ := I.list hq
  obtain ⟨j, g1, g2, g3, g4, g5⟩ := atI_get he
  obtain ⟨w, ew, rw'⟩ := r.get g2
  have hn := line63
  have hj : k.toNat = j := by
    rw [seqIndex_of h0 g5] at g1
    exact Option.some.inj g1
  exact PySem.wpAny_getItem_list pl.isList h0 (by omega) (by rw [hj]; simpa using ew) ⟨z, H, I, rw', q⟩
theorem x_augS {to ti te : TE} {tget : V → V → Hp → VK → Prop} {tip : TIp} {tset : TSet} {D : Ends} {σ : L2.St} {H : Hp} : tAugS to ti te tget tip tset D σ H = to σ H (fun o H1 => ti σ H1 (fun i H2 => tget o i H2 (fun x H3 => te σ H3 (fun y H4 => tip x y H4 (fun z H5 => tset o i z H5 (fun H6 => D.nx σ H6)))))) := rfl
/-! replicated, pairs of lists -/
theorem rep_one {n : Nat} {x : Int} : (List.replicate n [V.int x]).flatten = (List.replicate n x).map V.int := by
  rw [List.map_replicate]
  induction n with
  | zero => rfl
  | succ n ih =>
    rw [List.replicate_succ, List.replicate_succ, List.flatten_cons, ih]
    rfl
theorem dq_pair {K : PySem.W.Frag} {H : Hp} {q a b : Addr} {xs ys : List Int} (hq : SqT K H q [.ref a, .ref b]) (ha : SqL K H a (xs.map V.int)) (hb : SqL K H b (ys.map V.int)) : Dq K H (.ref q) (.tuple [.list (xs.map PyData.int), .list (ys.map PyData.int)]) :=
  ⟨.tup hq (.cons (.lst ha (dpAll_ints xs)) (.cons (.lst hb (dpAll_ints ys)) .nil)), by simp [plain, plainAl, plainAl_ints], by
    have := depthAll_ints' xs
    have := depthAll_ints' ys
    simp only [PyData.depth, PyData.depthAll]
    omega⟩
/-! comprehensions of ints over a list of ints, nothing else made -/
theorem take_map_snoc {xs : List Int} {f : Int → Int} {i : Nat} {x : Int} (h : xs[i]? = some x) : (xs.take (i + 1)).map f = (xs.take i).map f ++ [f x] := by
  rw [List.take_add_one, h, List.map_append]
  rfl
theorem comp_intY {K : PySem.W.Frag} {te : TE} {σ : L2.St} {H : Hp} {a : Addr} {xs : List Int} {g : TG} {vs : List Nat} {D : Addr} {Qd : Hp → Prop} (f : Int → Int) (hS : SqL K H a (xs.map V.int)) (hD : H D = none)
    (hs : ∀ i x, xs[i]? = some x → g (.int x) (wipe σ vs) (upd H D (.lst (((xs.take i).map f).map V.int))) fun σ2 H2 => wipe σ2 vs = wipe σ vs ∧ te σ2 H2 (CP D (upd H D (.lst (((xs.take (i + 1)).map f).map V.int)))))
    (hd : Qd (upd H D (.lst ((xs.map f).map V.int)))) : CompI (Itl K a) g tYes te vs σ H D Qd := by
  refine comp_list (xs := xs.map V.int) (fun i H' => H' = upd H D (.lst (((xs.take i).map f).map V.int))) rfl ?_ ?_ ?_
  · rintro i H' _ rfl
    exact (same_upd hD).seq hS
  · rintro i x H' hx rfl
    obtain ⟨z, hz, rfl⟩ := int_at hx
    exact hs i z hz
  · rintro H' rfl
    rw [List.length_map, List.take_length]
    exact hd
theorem cpi {xs : List Int} {f : Int → Int} {i : Nat} {x : Int} {D : Addr} {H : Hp} {y : V} (hx : xs[i]? = some x) (hn : xs.length < 100000) (hy : y = .int (f x)) : CP D (upd H D (.lst (((xs.take (i + 1)).map f).map V.int))) y (upd H D (.lst (((xs.take i).map f).map V.int))) := by
  refine ⟨_, upd_same, ?_, ?_⟩
  · rw [List.length_map, List.length_map, List.length_take, sizeLine_eq]
    omega
  · rw [Bel.upd_upd, take_map_snoc hx, List.map_append, hy]
    rfl
end Bel

namespace Bel
open PySem PySem.Spec PyProof.Rows L2
/-! ### data that never changes: ints, texts, tuples of such -/
mutual
inductive Imm (K : PySem.W.Frag) (H : Hp) : V → PyData → Prop
  | non : Imm K H .non .none
  | bl (b : Bool) : Imm K H (.bl b) (.bool b)
  | int (i : Int) : Imm K H (.int i) (.int i)
  | str (x : Str) : Imm K H (.str x) (.str x)
  | tup {a : Addr} {xs : List V} {ds : List PyData} : SqT K H a xs → ImmL K H xs ds → Imm K H (.ref a) (.tuple ds)
inductive ImmL (K : PySem.W.Frag) (H : Hp) : List V → List PyData → Prop
  | nil : ImmL K H [] []
  | cons {v : V} {vs : List V} {d : PyData} {ds : List PyData} : Imm K H v d → ImmL K H vs ds → ImmL K H (v :: vs) (d :: ds)
end
mutual
theorem Imm.mono {K : PySem.W.Frag} {H H' : Hp} (st : ∀ a xs, SqT K H a xs → SqT K H' a xs) : ∀ {v : V} {d : PyData}, Imm K H v d → Imm K H' v d
  | _, _, .non => .non
  | _, _, .bl b => .bl b
  | _, _, .int i => .int i
  | _, _, .str x => .str x
  | _, _, .tup h g => .tup (st _ _ h) (ImmL.mono st g)
theorem ImmL.mono {K : PySem.W.Frag} {H H' : Hp} (st : ∀ a xs, SqT K H a xs → SqT K H' a xs) : ∀ {vs : List V} {ds : List PyData}, ImmL K H vs ds → ImmL K H' vs ds
  | _, _, .nil => .nil
  | _, _, .cons h g => .cons (Imm.mono st h) (ImmL.mono st g)
end
mutual
theorem Imm.dp {K : PySem.W.Frag} {H : Hp} : ∀ {v : V} {d : PyData}, Imm K H v d → Dp K H v d
  | _, _, .non => .non
  | _, _, .bl b => .bl b
  | _, _, .int i => .int i
  | _, _, .str x => .str x
  | _, _, .tup h g => .tup h (ImmL.dp g)
theorem ImmL.dp {K : PySem.W.Frag} {H : Hp} : ∀ {vs : List V} {ds : List PyData}, ImmL K H vs ds → DpAll K H vs ds
  | _, _, .nil => .nil
  | _, _, .cons h g => .cons (Imm.dp h) (ImmL.dp g)
end
namespace ImmL
variable {K : PySem.W.Frag} {H : Hp} {vs us : List V} {ds es : List PyData}
theorem len : ∀ {vs : List V} {ds : List PyData}, ImmL K H vs ds → vs.length = ds.length
  | _, _, .nil => rfl
  | _, _, .cons _ g => congrArg (· + 1) (len g)
theorem append : ∀ {vs : List V} {ds : List PyData}, ImmL K H vs ds → ImmL K H us es → ImmL K H (vs ++ us) (ds ++ es)
  | _, _, .nil, g => g
  | _, _, .cons h k, g => .cons h (append k g)
theorem one {x : V} {d : PyData} (h : Imm K H x d) : ImmL K H [x] [d] := .cons h .nil
theorem snoc {x : V} {d : PyData} (g : ImmL K H vs ds) (h : Imm K H x d) : ImmL K H (vs ++ [x]) (ds ++ [d]) := g.append (.one h)
theorem get : ∀ {vs : List V} {ds : List PyData} {i : Nat} {x : V}, ImmL K H vs ds → vs[i]? = some x → ∃ d, ds[i]? = some d ∧ Imm K H x d
  | _, _, _, _, .nil, e => by cases e
  | _, _, 0, _, .cons h _, e => by
    cases e
    exact ⟨_, rfl, h⟩
  | _, _, i + 1, _, .cons _ g, e => get (i := i) g e
theorem at_ : ∀ {vs : List V} {ds : List PyData} {i : Nat} {d : PyData}, ImmL K H vs ds → ds[i]? = some d → ∃ x, vs[i]? = some x ∧ Imm K H x d
  | _, _, _, _, .nil, e => by cases e
  | _, _, 0, _, .cons h _, e => by
    cases e
    exact ⟨_, rfl, h⟩
  | _, _, i + 1, _, .cons _ g, e => at_ (i := i) g e
theorem take : ∀ {vs : List V} {ds : List PyData} (n : Nat), ImmL K H vs ds → ImmL K H (vs.take n) (ds.take n)
  | _, _, n, .nil => by
    rw [List.take_nil, List.take_nil]
    exact .nil
  | _, _, 0, .cons _ _ => .nil
  | _, _, n + 1, .cons h g => .cons h (take n g)
theorem drop : ∀ {vs : List V} {ds : List PyData} (n : Nat), ImmL K H vs ds → ImmL K H (vs.drop n) (ds.drop n)
  | _, _, n, .nil => by
    rw [List.drop_nil, List.drop_nil]
    exact .nil
  | _, _, 0, .cons h g => .cons h g
  | _, _, n + 1, .cons _ g => drop n g
theorem of_is : ∀ ns : List Int, ImmL K H (ns.map V.int) (ns.map PyData.int)
  | [] => .nil
  | n :: r => .cons (.int n) (of_is r)
theorem of_ints : ∀ {ns : List Int} {vs : List V}, ImmL K H vs (ns.map PyData.int) → vs = ns.map V.int
  | [], _, .nil => rfl
  | _ :: _, _, .cons (.int _) g => by rw [of_ints g]; rfl
theorem rev : ∀ {vs : List V} {ds : List PyData}, ImmL K H vs ds → ImmL K H vs.reverse ds.reverse
  | _, _, .nil => .nil
  | _, _, .cons h g => by
    rw [List.reverse_cons, List.reverse_cons]
    exact (rev g).snoc h
theorem set : ∀ {vs : List V} {ds : List PyData} {x : V} {d : PyData} (i : Nat), Imm K H x d → ImmL K H vs ds → ImmL K H (vs.set i x) (ds.set i d)
  | _, _, _, _, _, _, .nil => .nil
  | _, _, _, _, 0, h, .cons _ g => .cons h g
  | _, _, _, _, i + 1, h, .cons k g => .cons k (set i h g)
end ImmL
theorem Imm.of_int {K : PySem.W.Frag} {H : Hp} {v : V} {i : Int} (h : Imm K H v (.int i)) : v = .int i := by
  cases h
  rfl
theorem Imm.of_str {K : PySem.W.Frag} {H : Hp} {v : V} {x : Str} (h : Imm K H v (.str x)) : v = .str x := by
  cases h
  rfl
theorem Imm.of_tup {K : PySem.W.Frag} {H : Hp} {v : V} {ds : List PyData} (h : Imm K H v (.tuple ds)) : ∃ a xs, v = .ref a ∧ SqT K H a xs ∧ ImmL K H xs ds := by
  cases h with
  | tup h g => exact ⟨_, _, rfl, h, g⟩
theorem Imm.of_ints {K : PySem.W.Frag} {H : Hp} {v : V} {ns : List Int} (h : Imm K H v (.tuple (ns.map PyData.int))) : ∃ a, v = .ref a ∧ SqT K H a (ns.map V.int) := by
  cases h with
  | tup h g => exact ⟨_, rfl, ImmL.of_ints g ▸ h⟩
/-- a tuple of ints -/
abbrev tI (ns : List Int) : PyData := .tuple (ns.map PyData.int)
theorem Imm.of_is {K : PySem.W.Frag} {H : Hp} {a : Addr} {ns : List Int} (h : SqT K H a (ns.map V.int)) : Imm K H (.ref a) (tI ns) := .tup h (ImmL.of_is ns)
/-! ### what is owned -/
inductive As where
  | pt (a : Addr) (o : HO)
  | im (v : V) (d : PyData)
  | ims (vs : List V) (ds : List PyData)
def As.holds (K : PySem.W.Frag) (B H : Hp) : As → Prop
  | .pt a o => H a = some o ∧ B a = none
  | .im v d => Imm K H v d
  | .ims vs ds => ImmL K H vs ds
/-- addresses -/
def As.ad : As → List Addr
  | .pt a _ => [a]
  | _ => []
def ads (l : List As) : List Addr := l.flatMap As.ad
structure Own (K : PySem.W.Frag) (B H : Hp) (l : List As) : Prop where
  same : Same B H
  nd : (ads l).Nodup
  all : ∀ x ∈ l, x.holds K B H
/-- may be changed -/
def mutb : HO → Bool
  | .tup _ => false
  | .frz _ _ => false
  | _ => true
theorem sqT_upd {K : PySem.W.Frag} {H : Hp} {a b : Addr} {o o' : HO} {xs : List V} (h : H b = some o) (m : mutb o = true) (g : SqT K H a xs) : SqT K (upd H b o') a xs := by
  rcases g with (g | ⟨u, g⟩) | g
  · refine .inl (.inl ?_)
    rw [upd_ne ?_]
    · exact g
    · rintro rfl
      rw [g] at h
      cases h
      cases m
  · refine .inl (.inr ⟨u, ?_⟩)
    rw [upd_ne ?_]
    · exact g
    · rintro rfl
      rw [g] at h
      cases h
      cases m
  · exact .inr g
inductive Put : List As → Addr → HO → HO → List As → Prop
  | here {l : List As} {a : Addr} {o o' : HO} : Put (.pt a o :: l) a o o' (.pt a o' :: l)
  | there {l l' : List As} {x : As} {a : Addr} {o o' : HO} : Put l a o o' l' → Put (x :: l) a o o' (x :: l')
theorem Put.mem {l l' : List As} {a : Addr} {o o' : HO} (p : Put l a o o' l') : As.pt a o ∈ l := by
  induction p with
  | here => exact .head _
  | there _ ih => exact .tail _ ih
theorem Put.ads {l l' : List As} {a : Addr} {o o' : HO} (p : Put l a o o' l') : ads l' = ads l := by
  induction p with
  | here => rfl
  | there _ ih =>
    unfold Bel.ads at ih ⊢
    rw [List.flatMap_cons, List.flatMap_cons, ih]
theorem mem_ads {l : List As} {a : Addr} {o : HO} (h : As.pt a o ∈ l) : a ∈ ads l := List.mem_flatMap.mpr ⟨_, h, List.mem_singleton.mpr rfl⟩
theorem Put.old {l l' : List As} {a : Addr} {o o' : HO} (p : Put l a o o' l') (nd : (Bel.ads l).Nodup) : ∀ x ∈ l', x = .pt a o' ∨ (x ∈ l ∧ a ∉ x.ad) := by
  induction p with
  | @here l a o o' =>
    intro x hx
    rcases List.mem_cons.mp hx with e | h
    · exact .inl e
    · refine .inr ⟨.tail _ h, fun z => ?_⟩
      unfold Bel.ads at nd
      rw [List.flatMap_cons] at nd
      exact (List.nodup_append.mp nd).2.2 a (List.mem_singleton.mpr rfl) a (List.mem_flatMap.mpr ⟨x, h, z⟩) rfl
  | @there l l' y a o o' q ih =>
    intro x hx
    unfold Bel.ads at nd
    rw [List.flatMap_cons] at nd
    have nd2 := List.nodup_append.mp nd
    rcases List.mem_cons.mp hx with e | h
    · subst e
      refine .inr ⟨.head _, fun z => ?_⟩
      exact nd2.2.2 a z a (mem_ads q.mem) rfl
    · rcases ih nd2.2.1 x h with e | ⟨g, z⟩
      · exact .inl e
      · exact .inr ⟨.tail _ g, z⟩
theorem ads_sub {l l' : List As} (s : l'.Sublist l) : (ads l').Sublist (ads l) := by
  unfold ads
  induction s with
  | slnil => exact List.Sublist.refl _
  | cons y _ ih =>
    rw [List.flatMap_cons]
    exact ih.trans (List.sublist_append_right _ _)
  | cons_cons y _ ih =>
    rw [List.flatMap_cons, List.flatMap_cons]
    exact (List.Sublist.refl _).append ih
namespace Own
variable {K : PySem.W.Frag} {B H H' : Hp} {l l' : List As} {a : Addr} {o o' : HO}
theorem start : Own K H H [] := ⟨Same.refl H, List.nodup_nil, fun _ h => nomatch h⟩
theorem get (L : Own K B H l) (m : As.pt a o ∈ l) : H a = some o := (L.all _ m).1
theorem fresh (L : Own K B H l) (m : As.pt a o ∈ l) : B a = none := (L.all _ m).2
theorem imm (L : Own K B H l) {v : V} {d : PyData} (m : As.im v d ∈ l) : Imm K H v d := L.all _ m
theorem imms (L : Own K B H l) {vs : List V} {ds : List PyData} (m : As.ims vs ds ∈ l) : ImmL K H vs ds := L.all _ m
theorem sq (L : Own K B H l) {xs : List V} (h : SqL K B a xs) : SqL K H a xs := L.same.seq h
theorem sqT (L : Own K B H l) {xs : List V} (h : SqT K B a xs) : SqT K H a xs := Same.seqT L.same h
theorem base (L : Own K B H l) {o : HO} (h : B a = some o) : H a = some o := L.same _ _ h
theorem holds_same {x : As} (s : Same H H') (h : x.holds K B H) : x.holds K B H' := by
  cases x with
  | pt a o => exact ⟨s _ _ h.1, h.2⟩
  | im v d => exact Imm.mono (fun _ _ g => Same.seqT s g) h
  | ims v d => exact ImmL.mono (fun _ _ g => Same.seqT s g) h
theorem call (L : Own K B H l) (s : Same H H') : Own K B H' l := ⟨L.same.trans s, L.nd, fun x hx => holds_same s (L.all x hx)⟩
theorem add0 (L : Own K B H l) {H1 : Hp} {p : Addr} {o : HO} (s : Same H H1) (hp : H p = none) (hl : H1 p = some o) : Own K B H1 (.pt p o :: l) := by
  refine ⟨L.same.trans s, ?_, fun x hx => ?_⟩
  · refine List.nodup_append.mpr ⟨List.nodup_cons.mpr ⟨List.not_mem_nil, List.nodup_nil⟩, L.nd, fun b hb c hc e => ?_⟩
    obtain rfl := List.mem_singleton.mp hb
    subst e
    obtain ⟨x, hx, hb⟩ := List.mem_flatMap.mp hc
    cases x with
    | pt a o =>
      obtain rfl := List.mem_singleton.mp hb
      have := (L.all _ hx).1
      rw [hp] at this
      cases this
    | im _ _ => cases hb
    | ims _ _ => cases hb
  · rcases List.mem_cons.mp hx with e | h
    · rw [e]
      exact ⟨hl, L.same.free hp⟩
    · exact holds_same s (L.all x h)
theorem add (L : Own K B H l) {y : As} (h : y.holds K B H) (n : ∀ b ∈ y.ad, b ∉ ads l) : Own K B H (y :: l) := by
  refine ⟨L.same, ?_, fun x hx => ?_⟩
  · unfold ads
    rw [List.flatMap_cons]
    refine List.nodup_append.mpr ⟨?_, L.nd, fun b hb c hc e => n b hb (e ▸ hc)⟩
    cases y with
    | pt a o => exact List.nodup_cons.mpr ⟨List.not_mem_nil, List.nodup_nil⟩
    | im _ _ => exact List.nodup_nil
    | ims _ _ => exact List.nodup_nil
  · rcases List.mem_cons.mp hx with e | h'
    · rw [e]
      exact h
    · exact L.all x h'
theorem addIm (L : Own K B H l) {v : V} {d : PyData} (h : Imm K H v d) : Own K B H (.im v d :: l) := L.add h (fun _ h => nomatch h)
theorem addIms (L : Own K B H l) {vs : List V} {ds : List PyData} (h : ImmL K H vs ds) : Own K B H (.ims vs ds :: l) := L.add h (fun _ h => nomatch h)
theorem ad_some (L : Own K B H l) {b : Addr} (h : b ∈ ads l) : ∃ o, H b = some o := by
  obtain ⟨x, hx, hb⟩ := List.mem_flatMap.mp h
  cases x with
  | pt a o =>
    rw [List.mem_singleton.mp hb]
    exact ⟨o, (L.all _ hx).1⟩
  | im _ _ => cases hb
  | ims _ _ => cases hb
theorem ad_fresh (L : Own K B H l) {b : Addr} (h : b ∈ ads l) : B b = none := by
  obtain ⟨x, hx, hb⟩ := List.mem_flatMap.mp h
  cases x with
  | pt a o =>
    rw [List.mem_singleton.mp hb]
    exact (L.all _ hx).2
  | im _ _ => cases hb
  | ims _ _ => cases hb
/-- a call that made what l' says -/
theorem calls (L : Own K B H l) (M : Own K H H' l') : Own K B H' (l' ++ l) := by
  refine ⟨L.same.trans M.same, ?_, fun x hx => ?_⟩
  · unfold ads
    rw [List.flatMap_append]
    refine List.nodup_append.mpr ⟨M.nd, L.nd, fun b hb c hc e => ?_⟩
    obtain ⟨o, h⟩ := L.ad_some (e ▸ hc : b ∈ ads l)
    rw [M.ad_fresh hb] at h
    cases h
  · rcases List.mem_append.mp hx with h | h
    · have := M.all x h
      cases x with
      | pt a o => exact ⟨this.1, L.same.free this.2⟩
      | im _ _ => exact this
      | ims _ _ => exact this
    · exact holds_same M.same (L.all x h)
theorem c0 (L : Own K B H l) (M : Own K H H' []) : Own K B H' l := L.calls M
theorem c1 {x : As} (L : Own K B H l) (M : Own K H H' [x]) : Own K B H' (x :: l) := L.calls M
theorem c2 {x y : As} (L : Own K B H l) (M : Own K H H' [x, y]) : Own K B H' (x :: y :: l) := L.calls M
theorem c3 {x y z : As} (L : Own K B H l) (M : Own K H H' [x, y, z]) : Own K B H' (x :: y :: z :: l) := L.calls M
theorem new (L : Own K B H l) {p : Addr} (h : H p = none) (o : HO) : Own K B (upd H p o) (.pt p o :: l) := by
  refine (L.call (same_upd h)).add ⟨upd_same, L.same.free h⟩ fun b hb hn => ?_
  obtain rfl := List.mem_singleton.mp hb
  obtain ⟨u, e⟩ := L.ad_some hn
  rw [h] at e
  cases e
theorem put (L : Own K B H l) (m : mutb o = true) (p : Put l a o o' l') : Own K B (upd H a o') l' := by
  have ha := L.get p.mem
  have hB := L.fresh p.mem
  refine ⟨same_put L.same hB, p.ads ▸ L.nd, fun x hx => ?_⟩
  rcases p.old L.nd x hx with e | ⟨h, n⟩
  · subst e
    exact ⟨upd_same, hB⟩
  · have q := L.all x h
    cases x with
    | pt b u =>
      refine ⟨?_, q.2⟩
      rw [upd_ne fun e => n (List.mem_singleton.mpr e.symm)]
      exact q.1
    | im _ _ => exact Imm.mono (fun _ _ g => sqT_upd ha m g) q
    | ims _ _ => exact ImmL.mono (fun _ _ g => sqT_upd ha m g) q
theorem drop1 {x : As} (L : Own K B H (x :: l)) : Own K B H l := by
  refine ⟨L.same, ?_, fun y hy => L.all y (.tail _ hy)⟩
  have := L.nd
  unfold ads at this
  rw [List.flatMap_cons] at this
  exact (List.nodup_append.mp this).2.1
theorem sub (L : Own K B H l) (s : l'.Sublist l) : Own K B H l' := by
  refine ⟨L.same, ?_, fun y hy => L.all y (s.subset hy)⟩
  exact List.Nodup.sublist (ads_sub s) L.nd
theorem perm (L : Own K B H l) (s : l.Perm l') : Own K B H l' := ⟨L.same, (s.flatMap_right _).nodup_iff.mp L.nd, fun x hx => L.all x (s.mem_iff.mpr hx)⟩
theorem rebase {B' : Hp} (L : Own K B H l) (s : Same B' B) : Own K B' H l := by
  refine ⟨s.trans L.same, L.nd, fun x hx => ?_⟩
  have q := L.all x hx
  cases x with
  | pt a o => exact ⟨q.1, s.free q.2⟩
  | im _ _ => exact q
  | ims _ _ => exact q
end Own
/-! ### without some cells: what a call may change -/
def delL (H : Hp) (as : List Addr) : Hp := fun b => if b ∈ as then none else H b
theorem delL_in {H : Hp} {as : List Addr} {b : Addr} (h : b ∈ as) : delL H as b = none := if_pos h
theorem delL_out {H : Hp} {as : List Addr} {b : Addr} (h : b ∉ as) : delL H as b = H b := if_neg h
/-- taken out of l: the cells of l1; what stays: l0 -/
theorem Own.muts {K : PySem.W.Frag} {B H H' : Hp} {l1 l0 l' : List As} (L : Own K B H (l1 ++ l0)) (m : ∀ a o, As.pt a o ∈ l1 → mutb o = true) (M : Own K (delL H (ads l1)) H' l') : Own K B H' (l' ++ l0) := by
  have nd := L.nd
  unfold ads at nd
  rw [List.flatMap_append] at nd
  have nd := List.nodup_append.mp nd
  have key : ∀ b o, H b = some o → b ∉ ads l1 → H' b = some o := fun b o h n => M.same b o ((delL_out n).trans h)
  have hB : Same B H' := fun b o h => by
    refine key b o (L.same b o h) fun z => ?_
    have : B b = none := L.ad_fresh (by unfold ads; rw [List.flatMap_append]; exact List.mem_append_left _ z)
    rw [h] at this
    cases this
  have hT : ∀ a xs, SqT K H a xs → SqT K H' a xs := by
    intro a xs g
    have no : ∀ o, H a = some o → mutb o = false → a ∉ ads l1 := fun o h e z => by
      obtain ⟨x, hx, hb⟩ := List.mem_flatMap.mp z
      cases x with
      | pt b u =>
        obtain rfl := List.mem_singleton.mp hb
        have := L.get (List.mem_append_left _ hx)
        rw [h] at this
        cases this
        rw [m _ _ hx] at e
        cases e
      | im _ _ => cases hb
      | ims _ _ => cases hb
    rcases g with (g | ⟨u, g⟩) | g
    · exact .inl (.inl (key _ _ g (no _ g rfl)))
    · exact .inl (.inr ⟨u, key _ _ g (no _ g rfl)⟩)
    · exact .inr g
  refine ⟨hB, ?_, fun x hx => ?_⟩
  · unfold ads
    rw [List.flatMap_append]
    refine List.nodup_append.mpr ⟨M.nd, nd.2.1, fun b hb c hc e => ?_⟩
    subst e
    obtain ⟨o, h⟩ := L.ad_some (b := b) (by unfold ads; rw [List.flatMap_append]; exact List.mem_append_right _ hc)
    have f := M.ad_fresh hb
    by_cases z : b ∈ ads l1
    · exact nd.2.2 b z b hc rfl
    · rw [delL_out z, h] at f
      cases f
  · rcases List.mem_append.mp hx with h | h
    · have q := M.all x h
      cases x with
      | pt a o =>
        refine ⟨q.1, ?_⟩
        have f := q.2
        by_cases z : a ∈ ads l1
        · exact L.ad_fresh (by unfold ads; rw [List.flatMap_append]; exact List.mem_append_left _ z)
        · rw [delL_out z] at f
          exact L.same.free f
      | im _ _ => exact q
      | ims _ _ => exact q
    · have q := L.all x (List.mem_append_right _ h)
      cases x with
      | pt a o =>
        refine ⟨key a o q.1 fun z => ?_, q.2⟩
        exact nd.2.2 a z a (mem_ads h) rfl
      | im _ _ => exact Imm.mono hT q
      | ims _ _ => exact ImmL.mono hT q
/-- the cells of l0 alone are changed by the def: its base is without them -/
theorem Own.enter {K : PySem.W.Frag} {B H : Hp} {l0 : List As} (L : Own K B H l0) : Own K (delL H (ads l0)) H l0 := by
  refine ⟨fun b o h => ?_, L.nd, fun x hx => ?_⟩
  · by_cases z : b ∈ ads l0
    · rw [delL_in z] at h
      cases h
    · rw [delL_out z] at h
      exact h
  · have q := L.all x hx
    cases x with
    | pt a o => exact ⟨q.1, delL_in (mem_ads hx)⟩
    | im _ _ => exact q
    | ims _ _ => exact q
/-! ### steps that make and change, the heap told by what is owned -/
def NewO (H : Hp) (o : HO) (Q : VK) : Prop := ∀ p : Addr, H p = none → Q (.ref p) (upd H p o)
def AppO (H : Hp) (p : Addr) (y : V) (Q : VK) : Prop := ∃ xs, H p = some (.lst xs) ∧ xs.length < sizeLine ∧ Q .non (upd H p (.lst (xs ++ [y])))
def SetO (H : Hp) (p : Addr) (k : Int) (v : V) (QH : Hp → Prop) : Prop := ∃ xs j, H p = some (.lst xs) ∧ ixN xs.length k = some j ∧ QH (upd H p (.lst (xs.set j v)))
section
variable {K : PySem.W.Frag} {B H : Hp} {l l' : List As} {o : HO} {Q : VK} {QH : Hp → Prop} {p : Addr} {xs : List V} {y : V} {k : Int} {j : Nat}
theorem newO (L : Own K B H l) (h : ∀ p H', Own K B H' (.pt p o :: l) → Q (.ref p) H') : NewO H o Q := fun p hp => h p _ (L.new hp o)
theorem appO (L : Own K B H l) (pp : Put l p (.lst xs) (.lst (xs ++ [y])) l') (hs : xs.length < sizeLine) (h : ∀ H', Own K B H' l' → Q .non H') : AppO H p y Q := ⟨xs, L.get pp.mem, hs, h _ (L.put rfl pp)⟩
theorem setO (L : Own K B H l) (pp : Put l p (.lst xs) (.lst (xs.set k.toNat y)) l') (h0 : 0 ≤ k) (h1 : k < xs.length) (h : ∀ H', Own K B H' l' → QH H') : SetO H p k y QH := ⟨xs, _, L.get pp.mem, ixN_ok h0 h1, h _ (L.put rfl pp)⟩
theorem g_newO (h : NewO H o Q) : NewO H o Q := h
theorem g_appO (h : AppO H p y Q) : AppO H p y Q := h
theorem g_setO (h : SetO H p k y QH) : SetO H p k y QH := h
end
section
variable {K : PySem.W.Frag} {H : Hp} {Q : VK} {a b v : V} {vs : List V} {l : TA} {σ : L2.St} {lo hi : Option Int} {QH : Hp → Prop}
theorem n_tup : tTup l σ H Q = l σ H (fun xs H1 => xs.length ≤ sizeLine ∧ NewO H1 (.tup xs) Q) := rfl
theorem n_lst : tLst l σ H Q = l σ H (fun xs H1 => xs.length ≤ sizeLine ∧ NewO H1 (.lst xs) Q) := rfl
theorem n_rSlL : rSlL K a lo hi H Q = ∃ p xs, a = .ref p ∧ SqL K H p xs ∧ NewO H (.lst (cutV xs lo hi)) Q := rfl
theorem n_rCat : rCat a b H Q = ∃ l m xs zs, a = .ref l ∧ b = .ref m ∧ H l = some (.lst xs) ∧ H m = some (.lst zs) ∧ xs.length + zs.length ≤ sizeLine ∧ NewO H (.lst (xs ++ zs)) Q := rfl
theorem n_rRep : rRep a b H Q = ∃ l k xs, a = .ref l ∧ b = .int k ∧ H l = some (.lst xs) ∧ -(2 ^ 63) ≤ k ∧ k < 2 ^ 63 ∧ xs.length * k.toNat ≤ sizeLine ∧ NewO H (.lst (List.replicate k.toNat xs).flatten) Q := by first | rfl | (unfold rRep; rfl)
theorem n_rApp : rAppend a vs H Q = ∃ l y, a = .ref l ∧ vs = [y] ∧ AppO H l y Q := propext ⟨fun ⟨l, xs, y, e1, e2, h⟩ => ⟨l, y, e1, e2, xs, h⟩, fun ⟨l, y, e1, e2, xs, h⟩ => ⟨l, xs, y, e1, e2, h⟩⟩
theorem n_setL {o i' : V} : rSetL o i' v H QH = ∃ p k, o = .ref p ∧ i' = .int k ∧ SetO H p k v QH := propext ⟨fun ⟨p, xs, k, j, e1, e2, h⟩ => ⟨p, k, e1, e2, xs, j, h⟩, fun ⟨p, k, e1, e2, xs, j, h⟩ => ⟨p, xs, k, j, e1, e2, h⟩⟩
/-- list(..) -/
def rLs (K : PySem.W.Frag) (xs : List V) (H : Hp) (Q : VK) : Prop := ∃ p ys, xs = [.ref p] ∧ (SqL K H p ys ∨ SqT K H p ys) ∧ NewO H (.lst ys) Q
theorem n_rLs {xs : List V} : rLs K xs H Q = ∃ p ys, xs = [.ref p] ∧ (SqL K H p ys ∨ SqT K H p ys) ∧ NewO H (.lst ys) Q := rfl
end
theorem lsK {X : Cx} (K : PySem.W.Frag) (h : X.K = K := by rfl) : CallR X (.type "list") (rLs K) := h ▸ call_list_of
/-! comprehensions -/
def EndC (D : Addr) (N : Hp → Prop) (y : V) (H4 : Hp) : Prop := ∃ acc, H4 D = some (.lst acc) ∧ acc.length < sizeLine ∧ N (upd H4 D (.lst (acc ++ [y])))
theorem endC {K : PySem.W.Frag} {B H : Hp} {l l' : List As} {D : Addr} {N : Hp → Prop} {y : V} {acc : List V} (L : Own K B H l) (pp : Put l D (.lst acc) (.lst (acc ++ [y])) l') (hs : acc.length < sizeLine) (h : ∀ H', Own K B H' l' → N H') : ∃ acc, H D = some (.lst acc) ∧ acc.length < sizeLine ∧ N (upd H D (.lst (acc ++ [y]))) := ⟨acc, L.get pp.mem, hs, h _ (L.put rfl pp)⟩
theorem mem_here {α : Type} {x : α} {l : List α} : x ∈ x :: l := List.Mem.head _
theorem mem_there {α : Type} {x y : α} {l : List α} (h : x ∈ l) : x ∈ y :: l := List.Mem.tail _ h
/-! lists of ints -/
abbrev pI (a : Addr) (ns : List Int) : As := .pt a (.lst (ns.map V.int))
theorem appI {K : PySem.W.Frag} {B H : Hp} {l l' : List As} {Q : VK} {p : Addr} {ns : List Int} {y : Int} (L : Own K B H l) (pp : Put l p (.lst (ns.map V.int)) (.lst ((ns ++ [y]).map V.int)) l') (hs : ns.length < sizeLine) (h : ∀ H', Own K B H' l' → Q .non H') : AppO H p (.int y) Q :=
  ⟨ns.map V.int, L.get pp.mem, by rw [List.length_map]; exact hs, by
    have e : ns.map V.int ++ [V.int y] = (ns ++ [y]).map V.int := by rw [List.map_append]; rfl
    rw [e]
    exact h _ (L.put rfl pp)⟩
theorem setI {K : PySem.W.Frag} {B H : Hp} {l l' : List As} {QH : Hp → Prop} {p : Addr} {ns : List Int} {k y : Int} (L : Own K B H l) (pp : Put l p (.lst (ns.map V.int)) (.lst ((ns.set k.toNat y).map V.int)) l') (h0 : 0 ≤ k) (h1 : k < ns.length) (h : ∀ H', Own K B H' l' → QH H') : SetO H p k (.int y) QH :=
  ⟨ns.map V.int, k.toNat, L.get pp.mem, ixN_ok h0 (by rw [List.length_map]; exact h1), by
    rw [set_ints]
    exact h _ (L.put rfl pp)⟩
theorem ints_cat {xs ys : List Int} : xs.map V.int ++ ys.map V.int = (xs ++ ys).map V.int := List.map_append.symm
theorem ints_app1 {xs : List Int} {y : Int} : xs.map V.int ++ [V.int y] = (xs ++ [y]).map V.int := by rw [List.map_append]; rfl
theorem ints_len {xs : List Int} : (xs.map V.int).length = xs.length := List.length_map ..
theorem ints_take {xs : List Int} {n : Nat} : (xs.map V.int).take n = (xs.take n).map V.int := List.map_take.symm
theorem ints_drop {xs : List Int} {n : Nat} : (xs.map V.int).drop n = (xs.drop n).map V.int := List.map_drop.symm
/-! comprehensions of ints -/
/-- the end of a turn: the list goes on as ys -/
def CQ (K : PySem.W.Frag) (B : Hp) (D : Addr) (l : List As) (ys : List Int) (y : V) (H4 : Hp) : Prop := ∃ acc, H4 D = some (.lst acc) ∧ acc.length < sizeLine ∧ Own K B (upd H4 D (.lst (acc ++ [y]))) (.pt D (.lst (ys.map V.int)) :: l)
theorem cq {K : PySem.W.Frag} {B H : Hp} {D : Addr} {l : List As} {ys : List Int} {y : Int} (L : Own K B H (.pt D (.lst (ys.map V.int)) :: l)) (hn : ys.length < 100000) : CQ K B D l (ys ++ [y]) (.int y) H := by
  refine ⟨_, L.get (.head _), line_map (Nat.le_of_lt hn) (by decide), ?_⟩
  have := L.put (o' := .lst (ys.map V.int ++ [V.int y])) rfl .here
  rw [List.map_append]
  exact this
theorem g_cq {K : PySem.W.Frag} {B H : Hp} {D : Addr} {l : List As} {ys : List Int} {y : V} (h : CQ K B D l ys y H) : CQ K B D l ys y H := h
section
variable {K : PySem.W.Frag} {B H : Hp} {l : List As} {te : TE} {tA : TT} {σ : L2.St} {lo : Int} {n : Nat} {g : TG} {vs : List Nat} {Q : Addr → Hp → Prop}
/-- over a range -/
theorem compRi (f : Nat → Int) (L : Own K B H l) (hn : n < 100000)
    (hs : ∀ i D H1, i < n → Own K B H1 (.pt D (.lst ((rngL f i).map V.int)) :: l) → g (.int (lo + i)) (wipe σ vs) H1 fun σ2 H2 => wipe σ2 vs = wipe σ vs ∧ te σ2 H2 (CQ K B D l (rngL f i ++ [f i])))
    (hd : ∀ D H', Own K B H' (.pt D (.lst ((rngL f n).map V.int)) :: l) → Q D H') : ∀ D, H D = none → CompI (Itr lo n) g tYes te vs σ H D (Q D) := by
  intro D hD
  refine comp_range (fun i H' => Own K B H' (.pt D (.lst ((rngL f i).map V.int)) :: l)) (L.new hD _) (fun i H' hi h => ?_) (fun H' h => hd D H' h)
  have := hs i D H' hi h
  unfold CQ at this
  rw [← rngL_succ] at this
  exact this
/-- over a range, with a test -/
theorem compRt (f : Nat → Int) (p : Nat → Bool) (L : Own K B H l) (hn : n < 100000)
    (hs : ∀ i D H1, i < n → Own K B H1 (.pt D (.lst ((((List.range i).filter p).map f).map V.int)) :: l) → g (.int (lo + i)) (wipe σ vs) H1 fun σ2 H2 => wipe σ2 vs = wipe σ vs ∧ tA σ2 H2 fun b H3 =>
      if b = true then te σ2 H3 (CQ K B D l (((List.range (i + 1)).filter p).map f)) else Own K B H3 (.pt D (.lst ((((List.range (i + 1)).filter p).map f).map V.int)) :: l))
    (hd : ∀ D H', Own K B H' (.pt D (.lst ((((List.range n).filter p).map f).map V.int)) :: l) → Q D H') : ∀ D, H D = none → CompI (Itr lo n) g tA te vs σ H D (Q D) := by
  intro D hD
  exact comp_range (fun i H' => Own K B H' (.pt D (.lst ((((List.range i).filter p).map f).map V.int)) :: l)) (L.new hD _) (fun i H' hi h => hs i D H' hi h) (fun H' h => hd D H' h)
/-- over a list of ints -/
theorem compLi {a : Addr} {xs : List Int} (f : Int → Int) (L : Own K B H l) (hS : SqL K H a (xs.map V.int)) (hn : xs.length < 100000)
    (hs : ∀ i x D H1, xs[i]? = some x → Own K B H1 (.pt D (.lst (((xs.take i).map f).map V.int)) :: l) → g (.int x) (wipe σ vs) H1 fun σ2 H2 => wipe σ2 vs = wipe σ vs ∧ te σ2 H2 (CQ K B D l ((xs.take i).map f ++ [f x])))
    (hk : ∀ H', Own K B H' l → SqL K H' a (xs.map V.int))
    (hd : ∀ D H', Own K B H' (.pt D (.lst ((xs.map f).map V.int)) :: l) → Q D H') : ∀ D, H D = none → CompI (Itl K a) g tYes te vs σ H D (Q D) := by
  intro D hD
  refine comp_list (xs := xs.map V.int) (fun i H' => Own K B H' (.pt D (.lst (((xs.take i).map f).map V.int)) :: l)) (L.new hD _) (fun i H' _ h => hk H' h.drop1) (fun i x H' hx h => ?_) (fun H' h => ?_)
  · obtain ⟨z, hz, rfl⟩ := int_at hx
    have := hs i z D H' hz h
    unfold CQ at this
    rw [← take_map_snoc hz] at this
    exact this
  · rw [List.length_map, List.take_length] at h
    exact hd D H' h
/-- over a list of ints, with a test -/
theorem compLt {a : Addr} {xs : List Int} (f : Int → Int) (p : Int → Bool) (L : Own K B H l) (hS : SqL K H a (xs.map V.int)) (hn : xs.length < 100000)
    (hs : ∀ i x D H1, xs[i]? = some x → Own K B H1 (.pt D (.lst ((((xs.take i).filter p).map f).map V.int)) :: l) → g (.int x) (wipe σ vs) H1 fun σ2 H2 => wipe σ2 vs = wipe σ vs ∧ tA σ2 H2 fun b H3 =>
      if b = true then te σ2 H3 (CQ K B D l (((xs.take (i + 1)).filter p).map f)) else Own K B H3 (.pt D (.lst ((((xs.take (i + 1)).filter p).map f).map V.int)) :: l))
    (hk : ∀ H', Own K B H' l → SqL K H' a (xs.map V.int))
    (hd : ∀ D H', Own K B H' (.pt D (.lst (((xs.filter p).map f).map V.int)) :: l) → Q D H') : ∀ D, H D = none → CompI (Itl K a) g tA te vs σ H D (Q D) := by
  intro D hD
  refine comp_list (xs := xs.map V.int) (fun i H' => Own K B H' (.pt D (.lst ((((xs.take i).filter p).map f).map V.int)) :: l)) (L.new hD _) (fun i H' _ h => hk H' h.drop1) (fun i x H' hx h => ?_) (fun H' h => ?_)
  · obtain ⟨z, hz, rfl⟩ := int_at hx
    exact hs i z D H' hz h
  · rw [List.length_map, List.take_length] at h
    exact hd D H' h
end
/-! ranges with a step, reversed ranges -/
theorem x_irng3 {l : TA} {σ : L2.St} {H : Hp} {R : It → Hp → Prop} : iRng3 l σ H R = l σ H (fun vs H1 => ∃ (i j c : Int) (n : Nat), vs = [.int i, .int j, .int c] ∧ RgC i j c n ∧ R (Itc i c n) H1) := rfl
theorem x_irevR {tr : L2.St → Hp → (Int → Int → Hp → Prop) → Prop} {σ : L2.St} {H : Hp} {R : It → Hp → Prop} : iRevR tr σ H R = tr σ H (fun a b H1 => (-(2 ^ 62) ≤ a ∧ a < 2 ^ 62 ∧ -(2 ^ 62) ≤ b ∧ b < 2 ^ 62) ∧ R (Itc (a + (((b - a).toNat : Nat) : Int) - 1) (-1) (b - a).toNat) H1) := by
  unfold iRevR
  congr 1
  funext a b H1
  simp only [and_assoc]
theorem x_rg1 {te : TE} {σ : L2.St} {H : Hp} {Q : Int → Int → Hp → Prop} : tRg1 te σ H Q = te σ H (fun x H1 => ∃ n, x = .int n ∧ Q 0 n H1) := rfl
theorem x_rg2 {ta tb : TE} {σ : L2.St} {H : Hp} {Q : Int → Int → Hp → Prop} : tRg2 ta tb σ H Q = ta σ H (fun x H1 => tb σ H1 (fun y H2 => ∃ i j, x = .int i ∧ y = .int j ∧ Q i j H2)) := rfl
theorem rgNeg {i j : Int} {P : Nat → Prop} (h : -(2 ^ 62) ≤ i ∧ i < 2 ^ 62 ∧ -(2 ^ 62) ≤ j ∧ j < 2 ^ 62) (q : P (i - j).toNat) : ∃ n, RgC i j (-1) n ∧ P n := ⟨_, RgC.neg h.1 h.2.1 h.2.2.1 h.2.2.2, q⟩
theorem loop_rangeC {t : TS} {D : Ends} {σ : L2.St} {H : Hp} {lo c : Int} {n : Nat} {g : TG} (Pv : Nat → L2.St → Hp → Prop) (h0 : Pv 0 σ H)
    (hs : ∀ i σ H, i < n → Pv i σ H → g (.int (lo + (i : Nat) * c)) σ H fun σ2 H2 => t { D with nx := Pv (i + 1), ct := Pv (i + 1), bk := D.nx } σ2 H2) (hd : ∀ σ H, Pv n σ H → D.nx σ H) : LoopI (Itc lo c n) g t D σ H := for_rangeC Pv h0 hs hd
theorem comp_rangeC {te : TE} {tA : TT} {σ : L2.St} {H : Hp} {lo c : Int} {n : Nat} {g : TG} {vs : List Nat} {D : Addr} {Qd : Hp → Prop} (Pv : Nat → Hp → Prop) (h0 : Pv 0 (upd H D (.lst [])))
    (hs : ∀ i H, i < n → Pv i H → g (.int (lo + (i : Nat) * c)) (wipe σ vs) H fun σ2 H2 => wipe σ2 vs = wipe σ vs ∧ tA σ2 H2 fun b H3 =>
      if b = true then te σ2 H3 fun y H4 => ∃ acc, H4 D = some (.lst acc) ∧ acc.length < sizeLine ∧ Pv (i + 1) (upd H4 D (.lst (acc ++ [y]))) else Pv (i + 1) H3) (hd : ∀ H, Pv n H → Qd H) : CompI (Itc lo c n) g tA te vs σ H D Qd := by
  refine ⟨fun i left H => left = n - i ∧ i ≤ n ∧ Pv i H, ⟨n, by omega, by omega, h0⟩, ?_⟩
  rintro i left H ⟨rfl, hi, p⟩
  by_cases hlt : i < n
  · refine .inr ⟨hlt, Pv (i + 1), fun H' p' => ⟨n - (i + 1), by omega, rfl, hlt, p'⟩, fun x H' y => ?_⟩
    obtain ⟨e1, e2⟩ := y
    subst e1; subst e2
    exact hs i H' hlt p
  · obtain rfl : i = n := Nat.le_antisymm hi (by omega)
    exact .inl ⟨Nat.le_refl _, hd H p⟩
section
variable {K : PySem.W.Frag} {B H : Hp} {l : List As} {te : TE} {tA : TT} {σ : L2.St} {lo c : Int} {n : Nat} {g : TG} {vs : List Nat} {Q : Addr → Hp → Prop}
/-- over a range with a step, with a test -/
theorem compRtc (f : Nat → Int) (p : Nat → Bool) (L : Own K B H l) (hn : n < 100000)
    (hs : ∀ i D H1, i < n → Own K B H1 (pI D (((List.range i).filter p).map f) :: l) → g (.int (lo + (i : Nat) * c)) (wipe σ vs) H1 fun σ2 H2 => wipe σ2 vs = wipe σ vs ∧ tA σ2 H2 fun b H3 =>
      if b = true then te σ2 H3 (CQ K B D l (((List.range (i + 1)).filter p).map f)) else Own K B H3 (pI D (((List.range (i + 1)).filter p).map f) :: l))
    (hd : ∀ D H', Own K B H' (pI D (((List.range n).filter p).map f) :: l) → Q D H') : ∀ D, H D = none → CompI (Itc lo c n) g tA te vs σ H D (Q D) := by
  intro D hD
  exact comp_rangeC (fun i H' => Own K B H' (pI D (((List.range i).filter p).map f) :: l)) (L.new hD _) (fun i H' hi h => hs i D H' hi h) (fun H' h => hd D H' h)
end
theorem filt_snoc {f : Nat → Int} {p : Nat → Bool} {i : Nat} : ((List.range (i + 1)).filter p).map f = if p i = true then ((List.range i).filter p).map f ++ [f i] else ((List.range i).filter p).map f := by
  rw [List.range_succ, List.filter_append, List.map_append]
  by_cases h : p i = true
  · rw [if_pos h, List.filter_cons_of_pos h]
    rfl
  · rw [if_neg h, List.filter_cons_of_neg h]
    exact List.append_nil _
/-- the turn of a comprehension with a test -/
theorem ct_yes {K : PySem.W.Frag} {B H : Hp} {l : List As} {D : Addr} {f : Nat → Int} {p : Nat → Bool} {i : Nat} {y : Int} (L : Own K B H (pI D (((List.range i).filter p).map f) :: l)) (hn : i < 100000) (hp : p i = true) (hy : y = f i) : CQ K B D l (((List.range (i + 1)).filter p).map f) (.int y) H := by
  rw [filt_snoc, if_pos hp, hy]
  refine cq L ?_
  rw [List.length_map]
  have := List.length_filter_le p (List.range i)
  rw [List.length_range] at this
  omega
theorem ct_no {K : PySem.W.Frag} {B H : Hp} {l : List As} {D : Addr} {f : Nat → Int} {p : Nat → Bool} {i : Nat} (L : Own K B H (pI D (((List.range i).filter p).map f) :: l)) (hp : ¬ p i = true) : Own K B H (pI D (((List.range (i + 1)).filter p).map f) :: l) := by
  rw [filt_snoc, if_neg hp]
  exact L
theorem filtL_snoc {xs : List Int} {f : Int → Int} {p : Int → Bool} {i : Nat} {x : Int} (h : xs[i]? = some x) : ((xs.take (i + 1)).filter p).map f = if p x = true then ((xs.take i).filter p).map f ++ [f x] else ((xs.take i).filter p).map f := by
  rw [List.take_add_one, h, List.filter_append, List.map_append]
  by_cases h : p x = true
  · rw [if_pos h]
    show _ ++ (List.filter p [x]).map f = _
    rw [List.filter_cons_of_pos h]
    rfl
  · rw [if_neg h]
    show _ ++ (List.filter p [x]).map f = _
    rw [List.filter_cons_of_neg h]
    exact List.append_nil _
theorem cl_yes {K : PySem.W.Frag} {B H : Hp} {l : List As} {D : Addr} {xs : List Int} {f : Int → Int} {p : Int → Bool} {i : Nat} {x y : Int} (L : Own K B H (pI D (((xs.take i).filter p).map f) :: l)) (hx : xs[i]? = some x) (hn : xs.length < 100000) (hp : p x = true) (hy : y = f x) : CQ K B D l (((xs.take (i + 1)).filter p).map f) (.int y) H := by
  rw [filtL_snoc hx, if_pos hp, hy]
  refine cq L ?_
  rw [List.length_map]
  have := List.length_filter_le p (xs.take i)
  rw [List.length_take] at this
  omega
theorem cl_no {K : PySem.W.Frag} {B H : Hp} {l : List As} {D : Addr} {xs : List Int} {f : Int → Int} {p : Int → Bool} {i : Nat} {x : Int} (L : Own K B H (pI D (((xs.take i).filter p).map f) :: l)) (hx : xs[i]? = some x) (hp : ¬ p x = true) : Own K B H (pI D (((xs.take (i + 1)).filter p).map f) :: l) := by
  rw [filtL_snoc hx, if_neg hp]
  exact L
/-! slices -/
theorem cut_ii {xs : List V} {i j : Int} (h0 : 0 ≤ i) (h1 : 0 ≤ j) : cutV xs (some i) (some j) = (xs.drop i.toNat).take (j.toNat - i.toNat) := by
  obtain ⟨i, rfl⟩ := Int.eq_ofNat_of_zero_le h0
  obtain ⟨j, rfl⟩ := Int.eq_ofNat_of_zero_le h1
  unfold cutV
  rw [HT.sIx_nat, HT.sIx_nat, Int.toNat_natCast, Int.toNat_natCast]
  by_cases h : i ≤ xs.length
  · rw [Nat.min_eq_left h]
    by_cases k : j ≤ xs.length
    · rw [Nat.min_eq_left k]
    · rw [Nat.min_eq_right (by omega), List.take_of_length_le (by rw [List.length_drop]; omega), List.take_of_length_le (by rw [List.length_drop]; omega)]
  · rw [show min i xs.length = xs.length by omega, List.drop_of_length_le (Nat.le_refl _), List.drop_of_length_le (show xs.length ≤ i by omega), List.take_nil, List.take_nil]
theorem cut_in {xs : List V} {i : Int} (h0 : 0 ≤ i) : cutV xs (some i) none = xs.drop i.toNat := by
  obtain ⟨i, rfl⟩ := Int.eq_ofNat_of_zero_le h0
  unfold cutV
  rw [HT.sIx_nat, HT.sIx_none, Int.toNat_natCast]
  by_cases h : i ≤ xs.length
  · rw [Nat.min_eq_left h]
    exact List.take_of_length_le (by rw [List.length_drop]; exact Nat.le_refl _)
  · rw [Nat.min_eq_right (by omega), List.drop_of_length_le (Nat.le_refl _), List.drop_of_length_le (show xs.length ≤ i by omega), List.take_nil]
theorem cut_ni {xs : List V} {j : Int} (h1 : 0 ≤ j) : cutV xs none (some j) = xs.take j.toNat := by
  obtain ⟨j, rfl⟩ := Int.eq_ofNat_of_zero_le h1
  unfold cutV
  rw [HT.sIx_nat, HT.sIx_none, Int.toNat_natCast, List.drop_zero, Nat.sub_zero]
  by_cases k : j ≤ xs.length
  · rw [Nat.min_eq_left k]
  · rw [Nat.min_eq_right (by omega), List.take_of_length_le (Nat.le_refl _), List.take_of_length_le (show xs.length ≤ j by omega)]
/-! == of lists of ints -/
theorem eqd_ints {K : PySem.W.Frag} {H : Hp} {a b : Addr} {xs ys : List Int} {Q : VK} (h1 : SqL K H a (xs.map V.int)) (h2 : SqL K H b (ys.map V.int)) (q : Q (.bl (decide (xs = ys))) H) : rEqD K (.ref a) (.ref b) H Q := by
  refine eqd (dq_lst h1) (dq_lst h2) fun r e => ?_
  have : r = decide (xs = ys) := by
    rw [PyData.list.injEq, map_int_inj] at e
    by_cases c : xs = ys
    · rw [decide_eq_true c, e.mpr c]
    · rw [decide_eq_false c]
      cases r with
      | false => rfl
      | true => exact absurd (e.mp rfl) c
  rw [this]
  exact q
theorem ned_ints {K : PySem.W.Frag} {H : Hp} {a b : Addr} {xs ys : List Int} {Q : VK} (h1 : SqL K H a (xs.map V.int)) (h2 : SqL K H b (ys.map V.int)) (q : Q (.bl (!decide (xs = ys))) H) : rNeD K (.ref a) (.ref b) H Q := by
  refine ned (dq_lst h1) (dq_lst h2) fun r e => ?_
  have : r = decide (xs = ys) := by
    rw [PyData.list.injEq, map_int_inj] at e
    by_cases c : xs = ys
    · rw [decide_eq_true c, e.mpr c]
    · rw [decide_eq_false c]
      cases r with
      | false => rfl
      | true => exact absurd (e.mp rfl) c
  rw [this]
  exact q
theorem ite_d {A B p : Prop} {_ : Decidable p} (h1 : p → A) (h2 : ¬ p → B) : if decide p = true then A else B := by
  by_cases c : p
  · rw [if_pos (decide_eq_true c)]
    exact h1 c
  · rw [if_neg (by rw [decide_eq_false c]; decide)]
    exact h2 c
theorem ite_nd {A B p : Prop} {_ : Decidable p} (h1 : ¬ p → A) (h2 : p → B) : if (!decide p) = true then A else B := by
  by_cases c : p
  · rw [if_neg (by rw [decide_eq_true c]; decide)]
    exact h2 c
  · rw [if_pos (by rw [decide_eq_false c]; rfl)]
    exact h1 c
/-! tuples of ints -/
def tupI (ns : List Int) : HO := .tup (ns.map V.int)
theorem t_i1 {x : Int} : HO.tup [.int x] = tupI [x] := rfl
theorem t_i2 {x y : Int} : HO.tup [.int x, .int y] = tupI [x, y] := rfl
theorem t_i3 {x y z : Int} : HO.tup [.int x, .int y, .int z] = tupI [x, y, z] := rfl
theorem t_i4 {x y z u : Int} : HO.tup [.int x, .int y, .int z, .int u] = tupI [x, y, z, u] := rfl
theorem t_i5 {x y z u v : Int} : HO.tup [.int x, .int y, .int z, .int u, .int v] = tupI [x, y, z, u, v] := rfl
abbrev pT (a : Addr) (ns : List Int) : As := .pt a (tupI ns)
theorem sqT_tupI {K : PySem.W.Frag} {H : Hp} {p : Addr} {ns : List Int} (h : H p = some (tupI ns)) : SqT K H p (ns.map V.int) := SqT.of h
theorem Own.imT {K : PySem.W.Frag} {B H : Hp} {l : List As} {p : Addr} {ns : List Int} (L : Own K B H l) (m : As.im (.ref p) (tI ns) ∈ l) : SqT K H p (ns.map V.int) := by
  obtain ⟨a, e, h⟩ := Imm.of_ints (L.imm m)
  cases e
  exact h
theorem Own.imI {K : PySem.W.Frag} {B H : Hp} {l : List As} {p : Addr} {ns : List Int} (L : Own K B H l) (m : As.pt p (tupI ns) ∈ l) : Imm K H (.ref p) (tI ns) := Imm.of_is (SqT.of (L.get m))
section
variable {K : PySem.W.Frag} {H : Hp} {a b : Addr} {xs ys : List Int} {Q : VK}
theorem eqdT_ints (h1 : SqT K H a (xs.map V.int)) (h2 : SqT K H b (ys.map V.int)) (q : Q (.bl (decide (xs = ys))) H) : rEqD K (.ref a) (.ref b) H Q := by
  refine eqd (dq_tup h1) (dq_tup h2) fun r e => ?_
  have : r = decide (xs = ys) := by
    rw [PyData.tuple.injEq, map_int_inj] at e
    by_cases c : xs = ys
    · rw [decide_eq_true c, e.mpr c]
    · rw [decide_eq_false c]
      cases r with
      | false => rfl
      | true => exact absurd (e.mp rfl) c
  rw [this]
  exact q
theorem nedT_ints (h1 : SqT K H a (xs.map V.int)) (h2 : SqT K H b (ys.map V.int)) (q : Q (.bl (!decide (xs = ys))) H) : rNeD K (.ref a) (.ref b) H Q := by
  refine ned (dq_tup h1) (dq_tup h2) fun r e => ?_
  have : r = decide (xs = ys) := by
    rw [PyData.tuple.injEq, map_int_inj] at e
    by_cases c : xs = ys
    · rw [decide_eq_true c, e.mpr c]
    · rw [decide_eq_false c]
      cases r with
      | false => rfl
      | true => exact absurd (e.mp rfl) c
  rw [this]
  exact q
/-! isinstance of what is read -/
theorem isi_sqT {c : String} {r : Bool} {vs : List V} (h : kitB "tuple" c = some r) (hl : SqT K H a vs) (q : Q (.bl r) H) : rIsi K [.ref a, .ty c] H Q := by
  rcases hl with (g | ⟨o, g⟩) | ⟨o, its, n, g, c1, _⟩
  · exact ⟨_, _, _, _, r, rfl, .ty c, .base (.tup g), kit_ty h, q⟩
  · exact ⟨_, _, _, _, r, rfl, .ty c, .fTuple g, kit_ty h, q⟩
  · exact ⟨_, _, _, _, r, rfl, .ty c, .kTuple g c1, kit_ty h, q⟩
theorem isi_sqL {c : String} {r : Bool} {vs : List V} (h : kitB "list" c = some r) (hl : SqL K H a vs) (q : Q (.bl r) H) : rIsi K [.ref a, .ty c] H Q := by
  rcases hl with (g | ⟨o, g⟩) | ⟨o, its, n, g, c1, _⟩
  · exact ⟨_, _, _, _, r, rfl, .ty c, .base (.lst g), kit_ty h, q⟩
  · exact ⟨_, _, _, _, r, rfl, .ty c, .base (.frz g), kit_ty h, q⟩
  · exact ⟨_, _, _, _, r, rfl, .ty c, .kList g c1, kit_ty h, q⟩
theorem isi_non {c : String} {r : Bool} (h : kitB "NoneType" c = some r) (q : Q (.bl r) H) : rIsi K [.non, .ty c] H Q := ⟨_, _, _, _, r, rfl, .ty c, .base .non, kit_ty h, q⟩
theorem isi_bl {c : String} {r x : Bool} (h : kitB "bool" c = some r) (q : Q (.bl r) H) : rIsi K [.bl x, .ty c] H Q := ⟨_, _, _, _, r, rfl, .ty c, .base (.bl x), kit_ty h, q⟩
theorem isi_str {c : String} {r : Bool} {x : Str} (h : kitB "str" c = some r) (q : Q (.bl r) H) : rIsi K [.str x, .ty c] H Q := ⟨_, _, _, _, r, rfl, .ty c, .base (.str x), kit_ty h, q⟩
end
theorem g_sum {K : PySem.W.Frag} {H : Hp} {vs : List V} {Q : VK} (h : rSum K vs H Q) : rSum K vs H Q := h
theorem sum_call {K : PySem.W.Frag} {H : Hp} {a : Addr} {ns : List Int} {Q : VK} (h : SqL K H a (ns.map V.int)) (q : Q (.int ns.sum) H) : rSum K [.ref a] H Q := ⟨a, ns, rfl, h, q⟩
/-! an error caught: its dict is what is new -/
theorem caught {K : PySem.W.Frag} {B H H' : Hp} {l : List As} {d : Addr} {n : Int} {C : Value} {P : Hp → Prop} (L : Own K B H l) (s : Same H H') (hd : H' d = none) (h : ∀ G, Own K B G (.pt d (.xd [("at", .int n)]) :: l) → P G) : P (upd H' d (.xd [("at", .int n)])) := h _ ((L.call s).new hd _)
theorem maxK {X : Cx} (K : PySem.W.Frag) (hc : X.calm = true) (h : X.K = K := by rfl) : CallR X (.builtin "max") (rMax K) := h ▸ cr_max hc
theorem minK {X : Cx} (K : PySem.W.Frag) (hc : X.calm = true) (h : X.K = K := by rfl) : CallR X (.builtin "min") (rMin K) := h ▸ cr_min hc
theorem g_max {K : PySem.W.Frag} {H : Hp} {vs : List V} {Q : VK} (h : rMax K vs H Q) : rMax K vs H Q := h
theorem max_call {K : PySem.W.Frag} {H : Hp} {a : Addr} {ns : List Int} {Q : VK} (h : SqL K H a (ns.map V.int)) (n : 0 < ns.length) (q : ∀ m, m ∈ ns → (∀ y, y ∈ ns → y ≤ m) → Q (.int m) H) : rMax K [.ref a] H Q := ⟨a, ns, rfl, h, n, q⟩
theorem and_low (a k : Nat) : Builtin.bitAnd (a : Int) (2 ^ k - 1) = ((a % 2 ^ k : Nat) : Int) := by
  have e : ((2 : Int) ^ k - 1) = ((2 ^ k - 1 : Nat) : Int) := by
    have := Nat.two_pow_pos k
    rw [Int.natCast_sub (by omega), Int.natCast_pow]
    rfl
  rw [e]
  show ((a &&& (2 ^ k - 1) : Nat) : Int) = _
  rw [Nat.and_two_pow_sub_one_eq_mod]
theorem and255 {x : Int} (h : 0 ≤ x) : Builtin.bitAnd x 255 = x % 256 := by
  obtain ⟨a, rfl⟩ := Int.eq_ofNat_of_zero_le h
  exact and_low a 8
theorem and1 {x : Int} (h : 0 ≤ x) : Builtin.bitAnd x 1 = x % 2 := by
  obtain ⟨a, rfl⟩ := Int.eq_ofNat_of_zero_le h
  exact and_low a 1
theorem andK {x : Int} (h : 0 ≤ x) (k : Nat) : Builtin.bitAnd x (2 ^ k - 1) = x % 2 ^ k := by
  obtain ⟨a, rfl⟩ := Int.eq_ofNat_of_zero_le h
  rw [and_low a k, Int.natCast_emod, Int.natCast_pow]
  rfl
/-! a < b < c < d -/
def tChain3 (r r' r'' : R2) (ta tb tc td : TE) : TT := fun σ H Q => ta σ H fun x H1 => tb σ H1 fun y H2 => r x y H2 fun z H3 => ∃ k, z = .bl k ∧
  (if k = true then tc σ H3 fun u H4 => r' y u H4 fun z' H5 => ∃ k', z' = .bl k' ∧ (if k' = true then td σ H5 fun u' H6 => r'' u u' H6 fun z'' H7 => ∃ k'', z'' = .bl k'' ∧ Q k'' H7 else Q false H5) else Q false H3)
theorem pt_chain3 {X : Cx} {o1 o2 o3 : CmpOp} {r r' r'' : R2} {a b c d : Expr} {ta tb tc td : TE} {pos : Pos} (h1 : OpR X (compareOp o1) r) (h2 : OpR X (compareOp o2) r') (h3 : OpR X (compareOp o3) r'') (ha : PE X a ta) (hb : PE X b tb) (hc : PE X c tc) (hd : PE X d td)
    (marks : lastMarks [o1, o2, o3] [b, c, d] = false := by with_unfolding_all rfl) : PT X (.Compare a [o1, o2, o3] [b, c, d] pos) (tChain3 r r' r'' ta tb tc td) := by
  refine ⟨fun pn sh st Hs Qv hin hq => isTrue_chain (thn (ha.run pn sh st Hs _ hin hq) fun va s1 ha1 => ?_) marks⟩
  obtain ⟨x, G1, in1, r1, q1⟩ := ha1
  refine test_link (thn (hb.run pn s1 st G1 _ in1 q1) fun vb s2 hb1 => ?_)
  obtain ⟨y, G2, in2, r2, q2⟩ := hb1
  refine thn (h1 pn s2 st G2 x y va vb _ in2 r1 r2 q2) fun vt s3 ht => ?_
  obtain ⟨z, G3, in3, r3, k, e, q3⟩ := ht
  subst e
  cases r3
  refine wpAny_truthy_bool ?_
  cases k with
  | false => exact ite_ff ⟨G3, in3, q3⟩
  | true =>
    refine ite_tt (test_link (thn (hc.run pn s3 st G3 _ in3 q3) fun vc s4 hc1 => ?_))
    obtain ⟨u, G4, in4, r4, q4⟩ := hc1
    refine thn (h2 pn s4 st G4 y u vb vc _ in4 r2 r4 q4) fun vt s5 ht => ?_
    obtain ⟨z', G5, in5, r5, k', e, q5⟩ := ht
    subst e
    cases r5
    refine wpAny_truthy_bool ?_
    cases k' with
    | false => exact ite_ff ⟨G5, in5, q5⟩
    | true =>
      refine ite_tt (test_last (thn (hd.run pn s5 st G5 _ in5 q5) fun vd s6 hd1 => ?_))
      obtain ⟨u', G6, in6, r6, q6⟩ := hd1
      refine thn (h3 pn s6 st G6 u u' vc vd _ in6 r4 r6 q6) fun vt s7 ht => ?_
      obtain ⟨z'', G7, in7, r7, k'', e, q7⟩ := ht
      subst e
      cases r7
      exact wpAny_truthy_bool ⟨G7, in7, q7⟩
theorem x_chain3 {r r' r'' : R2} {ta tb tc td : TE} {σ : L2.St} {H : Hp} {Q : Bool → Hp → Prop} : tChain3 r r' r'' ta tb tc td σ H Q = ta σ H (fun x H1 => tb σ H1 (fun y H2 => r x y H2 (fun z H3 => ∃ k, z = .bl k ∧
  SelT k (fun σ' H' Q' => tc σ' H' (fun u H4 => r' y u H4 (fun z' H5 => ∃ k', z' = .bl k' ∧ SelT k' (fun σ'' H'' Q'' => td σ'' H'' (fun u' H6 => r'' u u' H6 (fun z'' H7 => ∃ k'', z'' = .bl k'' ∧ Q'' k'' H7))) (tK false) σ' H5 Q'))) (tK false) σ H3 Q))) := by
  unfold tChain3
  congr 1
  funext x H1
  congr 1
  funext y H2
  congr 1
  funext z H3
  congr 1
  funext k
  cases k with
  | false => rfl
  | true =>
    refine congrArg (z = V.bl true ∧ ·) ?_
    show tc σ H3 _ = tc σ H3 _
    congr 1
    funext u H4
    congr 1
    funext z' H5
    congr 1
    funext k'
    cases k' <;> rfl
theorem sel_nd {t u : TS} {D : Ends} {σ : L2.St} {H : Hp} {p : Prop} {_ : Decidable p} (h1 : ¬ p → t D σ H) (h2 : p → u D σ H) : Sel (!decide p) t u D σ H := by
  by_cases c : p
  · rw [decide_eq_true c]
    exact h2 c
  · rw [decide_eq_false c]
    exact h1 c
/-! a text and an int -/
def tupS (s : Str) (n : Int) : HO := .tup [.str s, .int n]
theorem t_s1 {s : Str} {n : Int} : HO.tup [.str s, .int n] = tupS s n := rfl
theorem sqT_tupS {K : PySem.W.Frag} {H : Hp} {p : Addr} {s : Str} {n : Int} (h : H p = some (tupS s n)) : SqT K H p [.str s, .int n] := SqT.of h
theorem dq_tupS {K : PySem.W.Frag} {H : Hp} {p : Addr} {s : Str} {n : Int} (h : SqT K H p [.str s, .int n]) (l : (PyData.str s).canLay0 = true) : Dq K H (.ref p) (.tuple [.str s, .int n]) :=
  ⟨.tup h (.cons (.str s) (.cons (.int n) .nil)), by simp [plain, plainAl, l], by simp [PyData.depth, PyData.depthAll]⟩
end Bel

namespace K05
open PySem PySem.Spec PyProof.Rows L2 Bel
abbrev topS (i : Nat) : Stmt := PySem.Challenge.pw_bellows_k05_joined_sums.main.body.getD i (.Pass ⟨0, 0, 0, 0⟩)
abbrev s__law_draws : Stmt := topS 19
abbrev N__law_draws : List Str := ["_law_script", "_law_draws_here", "_law_k", "_law_rest", "_law_turn", "_law_mixed"]
theorem sc__law_draws : FnScope N__law_draws ["_law_script"] (defScope s__law_draws) := ⟨rfl, rfl, rfl, by decide +kernel, rfl, by decide +kernel, by decide +kernel⟩
abbrev s__law_at : Stmt := topS 20
abbrev N__law_at : List Str := ["_law_draws_here", "_law_k", "_law_many"]
theorem sc__law_at : FnScope N__law_at ["_law_draws_here", "_law_k", "_law_many"] (defScope s__law_at) := ⟨rfl, rfl, rfl, by decide +kernel, rfl, by decide +kernel, by decide +kernel⟩
abbrev s__law_is_integer : Stmt := topS 21
abbrev N__law_is_integer : List Str := ["_law_actual"]
theorem sc__law_is_integer : FnScope N__law_is_integer ["_law_actual"] (defScope s__law_is_integer) := ⟨rfl, rfl, rfl, by decide +kernel, rfl, by decide +kernel, by decide +kernel⟩
abbrev s__law_is_row : Stmt := topS 22
abbrev N__law_is_row : List Str := ["_law_actual", "_law_item"]
theorem sc__law_is_row : FnScope N__law_is_row ["_law_actual"] (defScope s__law_is_row) := ⟨rfl, rfl, rfl, by decide +kernel, rfl, by decide +kernel, by decide +kernel⟩
abbrev s__is_crc : Stmt := topS 13
abbrev N__is_crc : List Str := ["number"]
theorem sc__is_crc : FnScope N__is_crc ["number"] (defScope s__is_crc) := ⟨rfl, rfl, rfl, by decide +kernel, rfl, by decide +kernel, by decide +kernel⟩
abbrev s__is_adler : Stmt := topS 14
abbrev N__is_adler : List Str := ["number"]
theorem sc__is_adler : FnScope N__is_adler ["number"] (defScope s__is_adler) := ⟨rfl, rfl, rfl, by decide +kernel, rfl, by decide +kernel, by decide +kernel⟩
abbrev s__check_three : Stmt := topS 15
abbrev N__check_three : List Str := ["is_first_valid", "is_second_valid", "size"]
theorem sc__check_three : FnScope N__check_three ["is_first_valid", "is_second_valid", "size"] (defScope s__check_three) := ⟨rfl, rfl, rfl, by decide +kernel, rfl, by decide +kernel, by decide +kernel⟩
abbrev s__product : Stmt := topS 17
abbrev N__product : List Str := ["first", "second", "product", "power", "carry"]
theorem sc__product : FnScope N__product ["first", "second"] (defScope s__product) := ⟨rfl, rfl, rfl, by decide +kernel, rfl, by decide +kernel, by decide +kernel⟩
abbrev s__moved : Stmt := topS 16
abbrev N__moved : List Str := ["crc", "factor", "times"]
theorem sc__moved : FnScope N__moved ["crc", "factor", "times"] (defScope s__moved) := ⟨rfl, rfl, rfl, by decide +kernel, rfl, by decide +kernel, by decide +kernel⟩
abbrev s_adler32_joined : Stmt := topS 9
abbrev N_adler32_joined : List Str := ["first", "second", "size", "excess", "low", "high"]
theorem sc_adler32_joined : FnScope N_adler32_joined ["first", "second", "size"] (defScope s_adler32_joined) := ⟨rfl, rfl, rfl, by decide +kernel, rfl, by decide +kernel, by decide +kernel⟩
abbrev s_crc32_joined : Stmt := topS 10
abbrev N_crc32_joined : List Str := ["first", "second", "size"]
theorem sc_crc32_joined : FnScope N_crc32_joined ["first", "second", "size"] (defScope s_crc32_joined) := ⟨rfl, rfl, rfl, by decide +kernel, rfl, by decide +kernel, by decide +kernel⟩
abbrev s_adler32_front : Stmt := topS 11
abbrev N_adler32_front : List Str := ["whole", "second", "size", "excess", "high"]
theorem sc_adler32_front : FnScope N_adler32_front ["whole", "second", "size"] (defScope s_adler32_front) := ⟨rfl, rfl, rfl, by decide +kernel, rfl, by decide +kernel, by decide +kernel⟩
abbrev s_crc32_front : Stmt := topS 12
abbrev N_crc32_front : List Str := ["whole", "second", "size"]
theorem sc_crc32_front : FnScope N_crc32_front ["whole", "second", "size"] (defScope s_crc32_front) := ⟨rfl, rfl, rfl, by decide +kernel, rfl, by decide +kernel, by decide +kernel⟩
abbrev s__law_adler : Stmt := topS 23
abbrev N__law_adler : List Str := ["_law_data", "_law_a", "_law_b", "_law_byte"]
theorem sc__law_adler : FnScope N__law_adler ["_law_data"] (defScope s__law_adler) := ⟨rfl, rfl, rfl, by decide +kernel, rfl, by decide +kernel, by decide +kernel⟩
abbrev s__law_crc : Stmt := topS 24
abbrev N__law_crc : List Str := ["_law_data", "_law_register", "_law_byte", "_law_turn", "_law_lowest"]
theorem sc__law_crc : FnScope N__law_crc ["_law_data"] (defScope s__law_crc) := ⟨rfl, rfl, rfl, by decide +kernel, rfl, by decide +kernel, by decide +kernel⟩
abbrev s__law_place : Stmt := topS 25
abbrev N__law_place : List Str := ["_law_which", "_law_first", "_law_second", "_law_size", "_law_e"]
theorem sc__law_place : FnScope N__law_place ["_law_which", "_law_first", "_law_second", "_law_size"] (defScope s__law_place) := ⟨rfl, rfl, rfl, by decide +kernel, rfl, by decide +kernel, by decide +kernel⟩
abbrev s__law_large : Stmt := topS 26
abbrev N__law_large : List Str := ["_law_draws_here", "_law_which", "_law_sums", "_law_k", "_law_one", "_law_two", "_law_first", "_law_other"]
theorem sc__law_large : FnScope N__law_large ["_law_draws_here", "_law_which"] (defScope s__law_large) := ⟨rfl, rfl, rfl, by decide +kernel, rfl, by decide +kernel, by decide +kernel⟩
abbrev s_law : Stmt := topS 27
abbrev N_law : List Str := ["_law_script", "_law_draws_here", "_law_one", "_law_k", "_law_two", "_law_a", "_law_b", "_law_c", "_law_d", "_law_e", "_law_f", "_law_size", "_law_told", "_law_high", "_law_which", "_law_good", "_law_next_good"]
theorem sc_law : FnScope N_law ["_law_script"] (defScope s_law) := ⟨rfl, rfl, rfl, by decide +kernel, rfl, by decide +kernel, by decide +kernel⟩
abbrev s_BellowsError___init__ : Stmt := inClass (topS 1) 0
abbrev N_BellowsError___init__ : List Str := ["self", "at"]
theorem sc_BellowsError___init__ : FnScope N_BellowsError___init__ ["self", "at"] (defScope s_BellowsError___init__) := ⟨rfl, rfl, rfl, by decide +kernel, rfl, by decide +kernel, by decide +kernel⟩
theorem st__law_draws {v0 : V} : L2.start N__law_draws [v0] = [some v0, none, none, none, none, none] := rfl
theorem st__law_at {v0 v1 v2 : V} : L2.start N__law_at [v0, v1, v2] = [some v0, some v1, some v2] := rfl
theorem st__law_is_integer {v0 : V} : L2.start N__law_is_integer [v0] = [some v0] := rfl
theorem st__law_is_row {v0 : V} : L2.start N__law_is_row [v0] = [some v0, none] := rfl
theorem st__is_crc {v0 : V} : L2.start N__is_crc [v0] = [some v0] := rfl
theorem st__is_adler {v0 : V} : L2.start N__is_adler [v0] = [some v0] := rfl
theorem st__check_three {v0 v1 v2 : V} : L2.start N__check_three [v0, v1, v2] = [some v0, some v1, some v2] := rfl
theorem st__product {v0 v1 : V} : L2.start N__product [v0, v1] = [some v0, some v1, none, none, none] := rfl
theorem st__moved {v0 v1 v2 : V} : L2.start N__moved [v0, v1, v2] = [some v0, some v1, some v2] := rfl
theorem st_adler32_joined {v0 v1 v2 : V} : L2.start N_adler32_joined [v0, v1, v2] = [some v0, some v1, some v2, none, none, none] := rfl
theorem st_crc32_joined {v0 v1 v2 : V} : L2.start N_crc32_joined [v0, v1, v2] = [some v0, some v1, some v2] := rfl
theorem st_adler32_front {v0 v1 v2 : V} : L2.start N_adler32_front [v0, v1, v2] = [some v0, some v1, some v2, none, none] := rfl
theorem st_crc32_front {v0 v1 v2 : V} : L2.start N_crc32_front [v0, v1, v2] = [some v0, some v1, some v2] := rfl
theorem st__law_adler {v0 : V} : L2.start N__law_adler [v0] = [some v0, none, none, none] := rfl
theorem st__law_crc {v0 : V} : L2.start N__law_crc [v0] = [some v0, none, none, none, none] := rfl
theorem st__law_place {v0 v1 v2 v3 : V} : L2.start N__law_place [v0, v1, v2, v3] = [some v0, some v1, some v2, some v3, none] := rfl
theorem st__law_large {v0 v1 : V} : L2.start N__law_large [v0, v1] = [some v0, some v1, none, none, none, none, none, none] := rfl
theorem st_law {v0 : V} : L2.start N_law [v0] = [some v0, none, none, none, none, none, none, none, none, none, none, none, none, none, none, none, none] := rfl
structure Tx (K : PySem.W.Frag) (mg : Str → Option Value) : Prop where
  b_abs : mg "abs" = none
  b_bool : mg "bool" = none
  b_int : mg "int" = none
  b_isinstance : mg "isinstance" = none
  b_len : mg "len" = none
  b_list : mg "list" = none
  b_min : mg "min" = none
  b_range : mg "range" = none
  c__ALL_BITS : ∃ u, mg "_ALL_BITS" = some u ∧ RelV (.int (4294967295)) u
  c__ADLER_MODULUS : ∃ u, mg "_ADLER_MODULUS" = some u ∧ RelV (.int (65521)) u
  c__CRC_POLYNOMIAL : ∃ u, mg "_CRC_POLYNOMIAL" = some u ∧ RelV (.int (3988292384)) u
  c__POWER_8 : ∃ u, mg "_POWER_8" = some u ∧ RelV (.int (8388608)) u
  c__POWER_MINUS_8 : ∃ u, mg "_POWER_MINUS_8" = some u ∧ RelV (.int (1701301141)) u
  x_OutOfRange : ExF K mg "OutOfRange"
  d__law_draws : mg "_law_draws" = some (.ref (He.ga K "_law_draws")) ∧ ∃ fd, FunD K "_law_draws" "_law_draws" (defArgs s__law_draws) (defBody s__law_draws) (defScope s__law_draws) [] [] (He.ga K "_law_draws") fd
  d__law_at : mg "_law_at" = some (.ref (He.ga K "_law_at")) ∧ ∃ fd, FunD K "_law_at" "_law_at" (defArgs s__law_at) (defBody s__law_at) (defScope s__law_at) [] [] (He.ga K "_law_at") fd
  d__law_is_integer : mg "_law_is_integer" = some (.ref (He.ga K "_law_is_integer")) ∧ ∃ fd, FunD K "_law_is_integer" "_law_is_integer" (defArgs s__law_is_integer) (defBody s__law_is_integer) (defScope s__law_is_integer) [] [] (He.ga K "_law_is_integer") fd
  d__law_is_row : mg "_law_is_row" = some (.ref (He.ga K "_law_is_row")) ∧ ∃ fd, FunD K "_law_is_row" "_law_is_row" (defArgs s__law_is_row) (defBody s__law_is_row) (defScope s__law_is_row) [] [] (He.ga K "_law_is_row") fd
  d__is_crc : mg "_is_crc" = some (.ref (He.ga K "_is_crc")) ∧ ∃ fd, FunD K "_is_crc" "_is_crc" (defArgs s__is_crc) (defBody s__is_crc) (defScope s__is_crc) [] [] (He.ga K "_is_crc") fd
  d__is_adler : mg "_is_adler" = some (.ref (He.ga K "_is_adler")) ∧ ∃ fd, FunD K "_is_adler" "_is_adler" (defArgs s__is_adler) (defBody s__is_adler) (defScope s__is_adler) [] [] (He.ga K "_is_adler") fd
  d__check_three : mg "_check_three" = some (.ref (He.ga K "_check_three")) ∧ ∃ fd, FunD K "_check_three" "_check_three" (defArgs s__check_three) (defBody s__check_three) (defScope s__check_three) [] [] (He.ga K "_check_three") fd
  d__product : mg "_product" = some (.ref (He.ga K "_product")) ∧ ∃ fd, FunD K "_product" "_product" (defArgs s__product) (defBody s__product) (defScope s__product) [] [] (He.ga K "_product") fd
  d__moved : mg "_moved" = some (.ref (He.ga K "_moved")) ∧ ∃ fd, FunD K "_moved" "_moved" (defArgs s__moved) (defBody s__moved) (defScope s__moved) [] [] (He.ga K "_moved") fd
  d_adler32_joined : mg "adler32_joined" = some (.ref (He.ga K "adler32_joined")) ∧ ∃ fd, FunD K "adler32_joined" "adler32_joined" (defArgs s_adler32_joined) (defBody s_adler32_joined) (defScope s_adler32_joined) [] [] (He.ga K "adler32_joined") fd
  d_crc32_joined : mg "crc32_joined" = some (.ref (He.ga K "crc32_joined")) ∧ ∃ fd, FunD K "crc32_joined" "crc32_joined" (defArgs s_crc32_joined) (defBody s_crc32_joined) (defScope s_crc32_joined) [] [] (He.ga K "crc32_joined") fd
  d_adler32_front : mg "adler32_front" = some (.ref (He.ga K "adler32_front")) ∧ ∃ fd, FunD K "adler32_front" "adler32_front" (defArgs s_adler32_front) (defBody s_adler32_front) (defScope s_adler32_front) [] [] (He.ga K "adler32_front") fd
  d_crc32_front : mg "crc32_front" = some (.ref (He.ga K "crc32_front")) ∧ ∃ fd, FunD K "crc32_front" "crc32_front" (defArgs s_crc32_front) (defBody s_crc32_front) (defScope s_crc32_front) [] [] (He.ga K "crc32_front") fd
  d__law_adler : mg "_law_adler" = some (.ref (He.ga K "_law_adler")) ∧ ∃ fd, FunD K "_law_adler" "_law_adler" (defArgs s__law_adler) (defBody s__law_adler) (defScope s__law_adler) [] [] (He.ga K "_law_adler") fd
  d__law_crc : mg "_law_crc" = some (.ref (He.ga K "_law_crc")) ∧ ∃ fd, FunD K "_law_crc" "_law_crc" (defArgs s__law_crc) (defBody s__law_crc) (defScope s__law_crc) [] [] (He.ga K "_law_crc") fd
  d__law_place : mg "_law_place" = some (.ref (He.ga K "_law_place")) ∧ ∃ fd, FunD K "_law_place" "_law_place" (defArgs s__law_place) (defBody s__law_place) (defScope s__law_place) [] [] (He.ga K "_law_place") fd
  d__law_large : mg "_law_large" = some (.ref (He.ga K "_law_large")) ∧ ∃ fd, FunD K "_law_large" "_law_large" (defArgs s__law_large) (defBody s__law_large) (defScope s__law_large) [] [] (He.ga K "_law_large") fd
  d_law : mg "law" = some (.ref (He.ga K "law")) ∧ ∃ fd, FunD K "law" "law" (defArgs s_law) (defBody s_law) (defScope s_law) [] [] (He.ga K "law") fd
  i_init : PySem.W.typeIn K (.ref (He.ma K (He.ga K "BellowsError") "__init__")) = some (.type "function") ∧ ∃ fd, FunD K "__init__" "BellowsError.__init__" (defArgs s_BellowsError___init__) (defBody s_BellowsError___init__) (defScope s_BellowsError___init__) [] [] (He.ma K (He.ga K "BellowsError") "__init__") fd
section
variable {P : Program} {w : World} {K : PySem.W.Frag} {mg : Str → Option Value} {base : Heap}
theorem ok_init (T : Tx K mg) : InitOk P w K mg base := by
  obtain ⟨ti, fd, F⟩ := T.i_init
  refine ⟨fd, F.ok sc_BellowsError___init__ (fun vs H Q E h => ?_) (fun cdv A outer s H vs Q E hr h => ⟨_, PSs.nox (pss_one (ps_ost (pv 0) (pv 1))), ?_⟩), F.bindsN (fun _ _ _ _ _ _ us hl => match us, hl with | [_, _], _ => rfl), ti⟩
  · obtain ⟨_, _, _, rfl, _⟩ := h
    rfl
  · obtain ⟨a, C, v, rfl, h1, h2, h3, q⟩ := h
    exact ⟨_, rfl, _, rfl, a, C, rfl, h1, h2, .inl ⟨h3, q⟩⟩
end
end K05

namespace K05
open PySem PySem.Spec PyProof.Rows L2 Bel
local macro_rules | `(tactic| wtm_at "xs") => `(tactic| simp only [x_next, x_seq, x_brk, x_cont, x_drop, x_ret, x_retN, x_if, sel_t, sel_f, selE_t, selE_f, selT_t, selT_f, selC_t, selC_f, x_test, x_tB, x_op, x_un, x_var, x_c, x_cb, x_nil, x_cons, x_rI, x_rI0, x_rU, x_rEq, x_rNe, x_rIxL, x_rIxT, x_rSlL, x_rCat, x_rRep, x_rApp, x_bm, x_bm0, x_sl, x_nopart, x_part, x_tup, x_lst, x_call, x_callS, x_asg, x_gname, x_gtup, x_gnil, x_gcons, x_gsub, x_setL, x_aug, x_ipI, x_ipC, x_bits, x_getL, x_augS, x_and, x_or, x_not, x_k, x_andV, x_orV, x_notV, x_ife, x_chain, x_for, x_ilist, x_itup, x_ienum, x_irng1, x_irng2, x_irev, x_lc, x_yes, wipe_nil, wipe_cons, List.map_cons, List.map_nil, x_misc, x_misc2, x_rz, lookup_at, Bool.not_true, Bool.not_false, decide_true, decide_false, not_true, not_false_eq_true, and_assoc, exists_and_left, exists_eq_left', exists_eq_left, exists_eq', exists_eq_right', exists_eq_right, V.int.injEq, V.ref.injEq, V.bl.injEq, V.str.injEq, List.cons.injEq, and_true, true_and, and_self, Option.some.injEq, List.cons_append, List.nil_append, List.append_nil, List.getElem?_cons_zero, List.getElem?_cons_succ, List.set_cons_zero, List.set_cons_succ, reduceCtorEq, false_and, and_false, exists_false, exists_const, or_false, false_or, scal_ii, scal_bb, scal_ss, List.length_cons, List.length_nil, Int.reduceToNat, Int.reducePow])
local macro_rules | `(tactic| k_call_by "xs" $h:term) => `(tactic| simp only [$h:term, x_next, x_seq, x_brk, x_cont, x_drop, x_ret, x_retN, x_if, sel_t, sel_f, selE_t, selE_f, selT_t, selT_f, selC_t, selC_f, x_test, x_tB, x_op, x_un, x_var, x_c, x_cb, x_nil, x_cons, x_rI, x_rI0, x_rU, x_rEq, x_rNe, x_rIxL, x_rIxT, x_rSlL, x_rCat, x_rRep, x_rApp, x_bm, x_bm0, x_sl, x_nopart, x_part, x_tup, x_lst, x_call, x_callS, x_asg, x_gname, x_gtup, x_gnil, x_gcons, x_gsub, x_setL, x_aug, x_ipI, x_ipC, x_bits, x_getL, x_augS, x_and, x_or, x_not, x_k, x_andV, x_orV, x_notV, x_ife, x_chain, x_for, x_ilist, x_itup, x_ienum, x_irng1, x_irng2, x_irev, x_lc, x_yes, wipe_nil, wipe_cons, List.map_cons, List.map_nil, x_misc, x_misc2, x_rz, lookup_at, Bool.not_true, Bool.not_false, decide_true, decide_false, not_true, not_false_eq_true, and_assoc, exists_and_left, exists_eq_left', exists_eq_left, exists_eq', exists_eq_right', exists_eq_right, V.int.injEq, V.ref.injEq, V.bl.injEq, V.str.injEq, List.cons.injEq, and_true, true_and, and_self, Option.some.injEq, List.cons_append, List.nil_append, List.append_nil, List.getElem?_cons_zero, List.getElem?_cons_succ, List.set_cons_zero, List.set_cons_succ, reduceCtorEq, false_and, and_false, exists_false, exists_const, or_false, false_or, scal_ii, scal_bb, scal_ss, List.length_cons, List.length_nil, Int.reduceToNat, Int.reducePow])
local macro_rules | `(tactic| wtm_at "hp") => `(tactic| first | (with_reducible assumption) | exact upd_same | (refine upd_keep (by with_reducible assumption) ?_; wtm_at "hp") | (refine Same.get (by with_reducible assumption) ?_; wtm_at "hp") | (refine upd_other (by first | (with_reducible assumption) | exact Ne.symm (by with_reducible assumption)) ?_; wtm_at "hp"))
local macro_rules | `(tactic| wtm_at "sq") => `(tactic| first | (with_reducible assumption) | exact SqL.of (by wtm_at "hp") | exact SqT.of (by wtm_at "hp") | (refine Same.seq (same_upd (by with_reducible assumption)) ?_; wtm_at "sq") | (refine Same.seq (by with_reducible assumption) ?_; wtm_at "sq") | (refine Same.seqT (same_upd (by with_reducible assumption)) ?_; wtm_at "sq") | (refine Same.seqT (by with_reducible assumption) ?_; wtm_at "sq"))
local macro_rules | `(tactic| wtm_at "cl") => `(tactic| first | (with_reducible assumption) | omega | (exact cmul_r (by omega) (by omega)) | (exact cmul_l (by omega) (by omega)) | (exact cdiv_ok (by omega) (by omega)) | (exact cpow_ok (by decide)) | (exact ⟨by omega, by omega, by omega⟩) | decide | (exact ⟨by omega, by omega⟩) | (simp only [List.length_append, List.length_map, List.length_cons, List.length_nil, rngL_len, sizeLine_eq]; omega) | wtm_at "hp" | wtm_at "sq")
local macro_rules | `(tactic| wtm_at "pf") => `(tactic| first | (with_reducible assumption) | omega | (simp only [List.length_append, List.length_map, List.length_cons, List.length_nil, rngL_len]; omega) | (with_reducible rfl) | (with_reducible trivial) | (with_reducible decide))
local macro_rules | `(tactic| wtm_at "st") => `(tactic| first | ((with_reducible refine g_isi ?_); first | (refine isi_int rfl ?_) | (refine isi_lst rfl (by wtm_at "hp") ?_) | (refine isi_tup rfl (by wtm_at "hp") ?_)) | ((with_reducible refine g_ned ?_); refine ned_f (dq_lst (by wtm_at "sq")) (dq_lst (by wtm_at "sq")) ?_) | ((with_reducible refine g_eqd ?_); refine eqd_t (dq_lst (by wtm_at "sq")) (dq_lst (by wtm_at "sq")) ?_) | ((with_reducible refine g_tyv ?_); refine and_tyv (by wtm_at "sq") ?_) | ((with_reducible refine g_asq ?_); refine and_sq (by wtm_at "sq") ?_) | ((with_reducible refine g_lst ?_); refine ex_lst (by wtm_at "hp") ?_) | ((with_reducible refine g_or ?_); first | (refine ex_or (by wtm_at "sq") ?_) | (refine ex_ort (by wtm_at "sq") ?_)) | ((with_reducible refine g_sq ?_); refine ex_sq (by wtm_at "sq") ?_) | ((with_reducible refine g_sqt ?_); refine ex_sqt (by wtm_at "sq") ?_) | ((with_reducible refine gd_sel ?_); first | (refine sel_p (by wtm_at "pf") ?_) | (refine sel_n (by wtm_at "pf") ?_)) | ((with_reducible refine gn_sel ?_); first | (refine selN_p (by wtm_at "pf") ?_) | (refine selN_n (by wtm_at "pf") ?_)) | ((with_reducible refine gd_selT ?_); first | (refine selT_p (by wtm_at "pf") ?_) | (refine selT_n (by wtm_at "pf") ?_)) | ((with_reducible refine gn_selT ?_); first | (refine selTN_p (by wtm_at "pf") ?_) | (refine selTN_n (by wtm_at "pf") ?_)) | ((with_reducible refine gd_selE ?_); first | (refine selE_p (by wtm_at "pf") ?_) | (refine selE_n (by wtm_at "pf") ?_)) | ((with_reducible refine gn_selE ?_); first | (refine selEN_p (by wtm_at "pf") ?_) | (refine selEN_n (by wtm_at "pf") ?_)) | ((with_reducible refine g_xf ?_); refine xf_at rfl (by wtm_at "hp") ?_) | ((with_reducible refine g_atI ?_); refine ex_at (by first | exact rfl | exact atI_int (by omega) (by wtm_at "pf")) ?_) | ((with_reducible refine g_and ?_); refine And.intro (by wtm_at "cl") ?_) | ((with_reducible refine g_new ?_); intro _ _))
local macro_rules | `(tactic| wtm_at "go") => `(tactic| repeat (first | wtm_at "xs" | wtm_at "st"))
local macro_rules | `(tactic| wtm_at "xo") => `(tactic| simp only [x_next, x_seq, x_brk, x_cont, x_drop, x_ret, x_retN, x_if, sel_t, sel_f, selE_t, selE_f, selT_t, selT_f, selC_t, selC_f, x_test, x_tB, x_op, x_un, x_var, x_c, x_cb, x_nil, x_cons, x_rI, x_rI0, x_rU, x_rEq, x_rNe, x_rIxL, x_rIxT, n_rSlL, n_rCat, n_rRep, n_rApp, x_bm, x_bm0, x_sl, x_nopart, x_part, n_tup, n_lst, x_call, x_callS, x_asg, x_gname, x_gtup, x_gnil, x_gcons, x_gsub, n_setL, x_aug, x_ipI, x_ipC, x_bits, x_getL, x_augS, x_and, x_or, x_not, x_k, x_andV, x_orV, x_notV, x_ife, x_chain, x_for, x_ilist, x_itup, x_ienum, x_irng1, x_irng2, x_irev, x_lc, x_yes, wipe_nil, wipe_cons, List.map_cons, List.map_nil, x_misc, x_misc2, x_rz, lookup_at, Bool.not_true, Bool.not_false, decide_true, decide_false, not_true, not_false_eq_true, and_assoc, exists_and_left, exists_eq_left', exists_eq_left, exists_eq', exists_eq_right', exists_eq_right, V.int.injEq, V.ref.injEq, V.bl.injEq, V.str.injEq, List.cons.injEq, and_true, true_and, and_self, Option.some.injEq, List.cons_append, List.nil_append, List.append_nil, List.getElem?_cons_zero, List.getElem?_cons_succ, List.set_cons_zero, List.set_cons_succ, reduceCtorEq, false_and, and_false, exists_false, exists_const, or_false, false_or, scal_ii, scal_bb, scal_ss, List.length_cons, List.length_nil, Int.reduceToNat, Int.reducePow, n_rLs, t_s1, t_i1, t_i2, t_i3, t_i4, t_i5, x_chain3, x_irng3, x_irevR, x_rg1, x_rg2, ints_cat, ints_app1, ints_len, ints_take, ints_drop, rep_one])
local macro_rules | `(tactic| k_call_by "xo" $h:term) => `(tactic| simp only [$h:term, x_next, x_seq, x_brk, x_cont, x_drop, x_ret, x_retN, x_if, sel_t, sel_f, selE_t, selE_f, selT_t, selT_f, selC_t, selC_f, x_test, x_tB, x_op, x_un, x_var, x_c, x_cb, x_nil, x_cons, x_rI, x_rI0, x_rU, x_rEq, x_rNe, x_rIxL, x_rIxT, n_rSlL, n_rCat, n_rRep, n_rApp, x_bm, x_bm0, x_sl, x_nopart, x_part, n_tup, n_lst, x_call, x_callS, x_asg, x_gname, x_gtup, x_gnil, x_gcons, x_gsub, n_setL, x_aug, x_ipI, x_ipC, x_bits, x_getL, x_augS, x_and, x_or, x_not, x_k, x_andV, x_orV, x_notV, x_ife, x_chain, x_for, x_ilist, x_itup, x_ienum, x_irng1, x_irng2, x_irev, x_lc, x_yes, wipe_nil, wipe_cons, List.map_cons, List.map_nil, x_misc, x_misc2, x_rz, lookup_at, Bool.not_true, Bool.not_false, decide_true, decide_false, not_true, not_false_eq_true, and_assoc, exists_and_left, exists_eq_left', exists_eq_left, exists_eq', exists_eq_right', exists_eq_right, V.int.injEq, V.ref.injEq, V.bl.injEq, V.str.injEq, List.cons.injEq, and_true, true_and, and_self, Option.some.injEq, List.cons_append, List.nil_append, List.append_nil, List.getElem?_cons_zero, List.getElem?_cons_succ, List.set_cons_zero, List.set_cons_succ, reduceCtorEq, false_and, and_false, exists_false, exists_const, or_false, false_or, scal_ii, scal_bb, scal_ss, List.length_cons, List.length_nil, Int.reduceToNat, Int.reducePow, n_rLs, t_s1, t_i1, t_i2, t_i3, t_i4, t_i5, x_chain3, x_irng3, x_irevR, x_rg1, x_rg2, ints_cat, ints_app1, ints_len, ints_take, ints_drop, rep_one])
local macro_rules | `(tactic| wtm_at "mem") => `(tactic| first | (with_reducible exact mem_here) | (with_reducible refine mem_there ?_; wtm_at "mem"))
local macro_rules | `(tactic| wtm_at "pp") => `(tactic| first | (with_reducible exact Put.here) | (with_reducible apply Put.there; wtm_at "pp"))
local macro_rules | `(tactic| wtm_at "ho") => `(tactic| first | (with_reducible assumption) | exact Own.get (by with_reducible assumption) (by wtm_at "mem") | exact Own.base (by with_reducible assumption) (by with_reducible assumption))
local macro_rules | `(tactic| wtm_at "qo") => `(tactic| first | (with_reducible assumption) | exact SqL.of (by wtm_at "ho") | exact sqT_tupI (by wtm_at "ho") | exact sqT_tupS (by wtm_at "ho") | exact SqT.of (by wtm_at "ho") | exact Own.imT (by with_reducible assumption) (by wtm_at "mem") | exact Own.sq (by with_reducible assumption) (by with_reducible assumption) | exact Own.sqT (by with_reducible assumption) (by with_reducible assumption))
local macro_rules | `(tactic| wtm_at "sub") => `(tactic| first | exact List.nil_sublist _ | (with_reducible refine List.Sublist.cons_cons _ ?_; wtm_at "sub") | (refine List.Sublist.cons _ ?_; wtm_at "sub"))
local macro_rules | `(tactic| wtm_at "co") => `(tactic| first | (with_reducible assumption) | omega | (exact cmul_r (by omega) (by omega)) | (exact cmul_l (by omega) (by omega)) | (exact cdiv_ok (by omega) (by omega)) | (exact cpow_ok (by decide)) | (exact ⟨by omega, by omega, by omega⟩) | decide | (exact ⟨by omega, by omega⟩) | (simp only [List.length_append, List.length_map, List.length_cons, List.length_nil, rngL_len, sizeLine_eq]; omega) | wtm_at "ho" | wtm_at "qo")
local macro_rules | `(tactic| wtm_at "so") => `(tactic| first | ((with_reducible refine g_sum ?_); refine sum_call (by wtm_at "qo") ?_) | ((with_reducible refine g_cq ?_); exact cq (by with_reducible assumption) (by simp only [rngL_len, List.length_map, List.length_take]; omega)) | ((with_reducible refine g_newO ?_); refine newO (by with_reducible assumption) (fun _ _ _ => ?_)) | ((with_reducible refine g_appO ?_); refine appI (by with_reducible assumption) (by wtm_at "pp") (by wtm_at "co") (fun _ _ => ?_)) | ((with_reducible refine g_setO ?_); refine setI (by with_reducible assumption) (by wtm_at "pp") (by omega) (by wtm_at "co") (fun _ _ => ?_)) | ((with_reducible refine g_appO ?_); refine appO (by with_reducible assumption) (by wtm_at "pp") (by wtm_at "co") (fun _ _ => ?_)) | ((with_reducible refine g_setO ?_); refine setO (by with_reducible assumption) (by wtm_at "pp") (by omega) (by wtm_at "co") (fun _ _ => ?_)) | ((with_reducible refine g_isi ?_); first | (refine isi_int rfl ?_) | (refine isi_sqL rfl (by wtm_at "qo") ?_) | (refine isi_sqT rfl (by wtm_at "qo") ?_) | (refine isi_bl rfl ?_) | (refine isi_non rfl ?_) | (refine isi_str rfl ?_)) | ((with_reducible refine g_ned ?_); first | (refine ned_f (dq_lst (by wtm_at "qo")) (dq_lst (by wtm_at "qo")) ?_) | (refine ned_ints (by wtm_at "qo") (by wtm_at "qo") ?_) | (refine nedT_ints (by wtm_at "qo") (by wtm_at "qo") ?_)) | ((with_reducible refine g_eqd ?_); first | (refine eqd_t (dq_lst (by wtm_at "qo")) (dq_lst (by wtm_at "qo")) ?_) | (refine eqd_ints (by wtm_at "qo") (by wtm_at "qo") ?_) | (refine eqdT_ints (by wtm_at "qo") (by wtm_at "qo") ?_)) | ((with_reducible refine g_tyv ?_); refine and_tyv (by wtm_at "qo") ?_) | ((with_reducible refine g_asq ?_); refine and_sq (by wtm_at "qo") ?_) | ((with_reducible refine g_lst ?_); refine ex_lst (by wtm_at "ho") ?_) | ((with_reducible refine g_or ?_); first | (refine ex_or (by wtm_at "qo") ?_) | (refine ex_ort (by wtm_at "qo") ?_)) | ((with_reducible refine g_sq ?_); refine ex_sq (by wtm_at "qo") ?_) | ((with_reducible refine g_sqt ?_); refine ex_sqt (by wtm_at "qo") ?_) | ((with_reducible refine gd_sel ?_); first | (refine sel_p (by wtm_at "pf") ?_) | (refine sel_n (by wtm_at "pf") ?_)) | ((with_reducible refine gn_sel ?_); first | (refine selN_p (by wtm_at "pf") ?_) | (refine selN_n (by wtm_at "pf") ?_)) | ((with_reducible refine gd_selT ?_); first | (refine selT_p (by wtm_at "pf") ?_) | (refine selT_n (by wtm_at "pf") ?_)) | ((with_reducible refine gn_selT ?_); first | (refine selTN_p (by wtm_at "pf") ?_) | (refine selTN_n (by wtm_at "pf") ?_)) | ((with_reducible refine gd_selE ?_); first | (refine selE_p (by wtm_at "pf") ?_) | (refine selE_n (by wtm_at "pf") ?_)) | ((with_reducible refine gn_selE ?_); first | (refine selEN_p (by wtm_at "pf") ?_) | (refine selEN_n (by wtm_at "pf") ?_)) | ((with_reducible refine g_xf ?_); refine xf_at rfl (by wtm_at "ho") ?_) | ((with_reducible refine g_atI ?_); refine ex_at (by first | exact rfl | exact atI_int (by omega) (by wtm_at "pf")) ?_) | ((with_reducible refine g_and ?_); refine And.intro (by wtm_at "co") ?_))
local macro_rules | `(tactic| wtm_at "oo") => `(tactic| repeat (first | wtm_at "xo" | wtm_at "so"))
local macro_rules | `(tactic| wtm_at "cR") => `(tactic| (refine' compRi _ (by with_reducible assumption) (by omega) (fun _ _ _ _ _ => ?_) (fun _ _ _ => ?_); rotate_left; focus (wtm_at "oo")))
section
variable {P : Program} {w : World} {K : PySem.W.Frag} {mg : Str → Option Value} {base : Heap}
def atD (ds : List Int) (k many : Int) : Int := if k < ds.length then ds.getD k.toNat 0 % many else 0
theorem atD_lo {ds : List Int} {k many : Int} (hm : 0 < many) : 0 ≤ atD ds k many := by
  unfold atD
  split
  · exact Int.emod_nonneg _ (by omega)
  · exact Int.le_refl 0
theorem atD_hi {ds : List Int} {k many : Int} (hm : 0 < many) : atD ds k many < many := by
  unfold atD
  split
  · exact Int.emod_lt_of_pos _ hm
  · exact hm
def sp__law_at (K : PySem.W.Frag) : Sp := fun vs H Q _ => ∃ (a : Addr) (ds : List Int) (k many : Int), vs = [.ref a, .int k, .int many] ∧ SqL K H a (ds.map V.int) ∧ 0 ≤ k ∧ 0 < many ∧ Q (.int (atD ds k many)) H
theorem ok__law_at (T : Tx K mg) : Cl P w K mg base 1 "_law_at" ["_law_draws_here", "_law_k", "_law_many"] (sp__law_at K) [] := by
  obtain ⟨gm, fd, F⟩ := T.d__law_at
  refine ⟨_, fd, [], F.ok sc__law_at (fun vs H Q E h => ?_) (fun cdv A outer s H vs Q E hr h => ⟨_, (PSs.nox (pss_cons (ps_if (pt_cmpR op_lt (pv 1) (pe_callB (lenK K) rfl T.b_len (by decide +kernel) (pa_cons (pv 0) pa_nil)) (nomark _))
 (pss_one (ps_ret (by exact (pe_op op_mod (pe_callTy call_int1 rfl T.b_int (by decide +kernel) (pa_cons (pe_ix (ixl K) (pv 0) (pv 1) (fun _ _ => rfl)) pa_nil)) (pv 2)))))
 pss_nil)
 (pss_one (ps_ret (by exact pe_int))))), ?_⟩), gm, F.kp, F.bindsN (fun _ _ _ _ _ _ us hl => match us, hl with | [_, _, _], _ => rfl), .nil⟩
  · first | (obtain ⟨rfl, _⟩ := h; rfl) | (obtain ⟨_, rfl, _⟩ := h; rfl) | (obtain ⟨_, _, rfl, _⟩ := h; rfl) | (obtain ⟨_, _, _, rfl, _⟩ := h; rfl) | (obtain ⟨_, _, _, _, rfl, _⟩ := h; rfl) | (obtain ⟨_, _, _, _, _, rfl, _⟩ := h; rfl) | (obtain ⟨_, _, _, _, _, _, rfl, _⟩ := h; rfl) | (obtain ⟨_, _, _, _, _, _, _, rfl, _⟩ := h; rfl) | (obtain ⟨_, _, _, _, _, _, _, _, rfl, _⟩ := h; rfl) | (obtain ⟨_, _, _, _, _, _, _, _, _, rfl, _⟩ := h; rfl) | (obtain ⟨_, _, _, _, _, _, _, _, _, _, rfl, _⟩ := h; rfl) | (obtain ⟨_, _, _, _, _, _, _, _, _, _, _, rfl, _⟩ := h; rfl) | (obtain ⟨_, _, _, _, _, _, _, _, _, _, _, _, rfl, _⟩ := h; rfl) | (obtain ⟨_, _, _, _, _, _, _, _, _, _, _, _, _, rfl, _⟩ := h; rfl) | (obtain ⟨_, _, _, _, _, _, _, _, _, _, _, _, _, _, rfl, _⟩ := h; rfl) | (obtain ⟨_, _, _, _, _, _, _, _, _, _, _, _, _, _, _, rfl, _⟩ := h; rfl) | (obtain ⟨_, _, _, _, _, _, _, _, _, _, _, _, _, _, _, _, rfl, _⟩ := h; rfl) | (obtain ⟨_, _, _, _, _, _, _, _, _, _, _, _, _, _, _, _, _, rfl, _⟩ := h; rfl) | (obtain ⟨_, _, _, _, _, _, _, _, _, _, _, _, _, _, _, _, _, _, rfl, _⟩ := h; rfl) | (obtain ⟨_, _, _, _, _, _, _, _, _, _, _, _, _, _, _, _, _, _, _, rfl, _⟩ := h; rfl) | (obtain ⟨_, _, _, _, _, _, _, _, _, _, _, _, _, _, _, _, _, _, _, _, rfl, _⟩ := h; rfl) | (obtain ⟨_, _, _, _, _, _, _, _, _, _, _, _, _, _, _, _, _, _, _, _, _, rfl, _⟩ := h; rfl)
  · obtain ⟨a, ds, k, many, rfl, hS, h0, hm, q⟩ := h
    k_call_by "xs" st__law_at
    refine ⟨_, .inl hS, sel_d (fun h1 => ?_) (fun h1 => ?_)⟩
    · wtm_at "xs"
      rw [List.length_map] at h1
      refine ⟨_, hS, _, atI_int h0 h1, ?_⟩
      wtm_at "xs"
      unfold atD at q
      rw [if_pos h1] at q
      exact ⟨hm, q⟩
    · wtm_at "xs"
      rw [List.length_map] at h1
      unfold atD at q
      rw [if_neg h1] at q
      exact q
theorem g_at {K : PySem.W.Frag} {H : Hp} {vs : List V} {Q : VK} {E : XK} (h : sp__law_at K vs H Q E) : sp__law_at K vs H Q E := h
theorem at_call {K : PySem.W.Frag} {H : Hp} {a : Addr} {ds : List Int} {k many : Int} {Q : VK} {E : XK} (hS : SqL K H a (ds.map V.int)) (h0 : 0 ≤ k) (hm : 0 < many) (q : 0 ≤ atD ds k many → atD ds k many < many → Q (.int (atD ds k many)) H) : sp__law_at K [.ref a, .int k, .int many] H Q E := ⟨a, ds, k, many, rfl, hS, h0, hm, q (atD_lo hm) (atD_hi hm)⟩
/-- the draws: all that is asked of them -/
structure Drawn (ds : List Int) : Prop where
  lo : ∀ d ∈ ds, 0 ≤ d
  hi : ∀ d ∈ ds, d < 65536
  len : ds.length ≤ 3780
def sp__law_draws (K : PySem.W.Frag) : Sp := fun vs H Q _ => ∃ (a : Addr) (ns : List Int), vs = [.ref a] ∧ SqL K H a (ns.map V.int) ∧ ns.length ≤ 63 ∧ ∀ ds p H', Drawn ds → Same H H' → H p = none → H' p = some (.lst (ds.map V.int)) → Q (.ref p) H'
structure DrI (a p : Addr) (H : Hp) (most : Nat) (H' : Hp) (ds : List Int) : Prop where
  same : Same H H'
  at_ : H' p = some (.lst (ds.map V.int))
  lo : ∀ d ∈ ds, 0 ≤ d
  hi : ∀ d ∈ ds, d < 65536
  len : ds.length ≤ most
theorem DrI.put {a p : Addr} {H : Hp} {most : Nat} {H' : Hp} {ds : List Int} (I : DrI a p H most H' ds) (hp : H p = none) {x : Int} (h0 : 0 ≤ x) (h1 : x < 65536) {m2 : Nat} (hm : most + 1 ≤ m2) : DrI a p H m2 (upd H' p (.lst (ds.map V.int ++ [.int x]))) (ds ++ [x]) := by
  refine ⟨same_put I.same hp, ?_, ?_, ?_, ?_⟩
  · rw [upd_same, List.map_append]
    rfl
  · intro d hd
    rcases List.mem_append.mp hd with h | h
    · exact I.lo d h
    · rw [List.mem_singleton.mp h]
      exact h0
  · intro d hd
    rcases List.mem_append.mp hd with h | h
    · exact I.hi d h
    · rw [List.mem_singleton.mp h]
      exact h1
  · rw [List.length_append, List.length_singleton]
    have := I.len
    omega
theorem DrI.mono {a p : Addr} {H : Hp} {most m2 : Nat} {H' : Hp} {ds : List Int} (I : DrI a p H most H' ds) (h : most ≤ m2) : DrI a p H m2 H' ds := ⟨I.same, I.at_, I.lo, I.hi, Nat.le_trans I.len h⟩
theorem ok__law_draws (T : Tx K mg) : Cl P w K mg base 1 "_law_draws" ["_law_script"] (sp__law_draws K) [] := by
  obtain ⟨gm, fd, F⟩ := T.d__law_draws
  refine ⟨_, fd, [], F.ok sc__law_draws (fun vs H Q E h => ?_) (fun cdv A outer s H vs Q E hr h => ⟨_, (PSs.nox (pss_cons (ps_set (i := 1) sc__law_draws.nd rfl (Or.inl rfl) (by exact (pe_lst pa_nil)))
 (pss_cons (ps_for PassesOwn.never rfl (pi_range1 rfl T.b_range (pa_cons (pe_callB (call_min2 rfl) rfl T.b_min (by decide +kernel) (pa_cons pe_int (pa_cons (pe_callB (lenK K) rfl T.b_len (by decide +kernel) (pa_cons (pv 0) pa_nil)) pa_nil))) pa_nil)) (pg_name (i := 2) sc__law_draws.nd rfl (Or.inl rfl))
 (pss_cons (ps_set (i := 3) sc__law_draws.nd rfl (Or.inl rfl) (by exact (pe_callB call_abs rfl T.b_abs (by decide +kernel) (pa_cons (pe_ix (ixl K) (pv 0) (pv 2) (fun _ _ => rfl)) pa_nil))))
 (pss_one (ps_if (pt_cmpR op_ge (pv 3) (pe_op op_pow pe_int pe_int) (nomark _))
 (pss_one (ps_for PassesOwn.never rfl (pi_range1 rfl T.b_range (pa_cons pe_int pa_nil)) (pg_name (i := 4) sc__law_draws.nd rfl (Or.inl rfl))
 (pss_one (ps_if (pt_cmpR op_gt (pv 3) pe_int (nomark _))
 (pss_cons (ps_expr (pe_bm PySem.F.plainAttrs_list PySem.F.slot_list_append PySem.F.type_list_append mt_append (pv 1) (pa_cons (pe_op op_mod (pe_callTy call_int1 rfl T.b_int (by decide +kernel) (pa_cons (pv 3) pa_nil)) pe_int) pa_nil)))
 (pss_one (ps_set (i := 3) sc__law_draws.nd rfl (Or.inl rfl) (by exact (pe_op op_fdiv (pv 3) pe_int)))))
 pss_nil))))
 (pss_cons (ps_set (i := 5) sc__law_draws.nd rfl (Or.inl rfl) (by exact (pe_op op_mod (pe_callTy call_int1 rfl T.b_int (by decide +kernel) (pa_cons (pe_op op_add (pe_op op_mul (pv 3) pe_int) (pe_op op_mul (pe_op op_add (pv 2) pe_int) pe_int)) pa_nil)) pe_int)))
 (pss_cons (ps_set (i := 5) sc__law_draws.nd rfl (Or.inl rfl) (by exact (pe_op op_mod (pe_callTy call_int1 rfl T.b_int (by decide +kernel) (pa_cons (pe_op op_add (pe_op op_add (pe_op op_mul (pv 5) pe_int) (pe_op op_mul pe_int (pv 2))) pe_int) pa_nil)) pe_int)))
 (pss_cons (ps_expr (pe_bm PySem.F.plainAttrs_list PySem.F.slot_list_append PySem.F.type_list_append mt_append (pv 1) (pa_cons (pe_op op_mod (pe_callTy call_int1 rfl T.b_int (by decide +kernel) (pa_cons (pv 5) pa_nil)) pe_int) pa_nil)))
 (pss_one (ps_expr (pe_bm PySem.F.plainAttrs_list PySem.F.slot_list_append PySem.F.type_list_append mt_append (pv 1) (pa_cons (pe_op op_mod (pe_callTy call_int1 rfl T.b_int (by decide +kernel) (pa_cons (pe_op op_fdiv (pv 5) pe_int) pa_nil)) pe_int) pa_nil)))))))))))
 (pss_one (ps_ret (by exact (pv 1))))))), ?_⟩), gm, F.kp, F.bindsN (fun _ _ _ _ _ _ us hl => match us, hl with | [_], _ => rfl), .nil⟩
  · first | (obtain ⟨rfl, _⟩ := h; rfl) | (obtain ⟨_, rfl, _⟩ := h; rfl) | (obtain ⟨_, _, rfl, _⟩ := h; rfl) | (obtain ⟨_, _, _, rfl, _⟩ := h; rfl) | (obtain ⟨_, _, _, _, rfl, _⟩ := h; rfl) | (obtain ⟨_, _, _, _, _, rfl, _⟩ := h; rfl) | (obtain ⟨_, _, _, _, _, _, rfl, _⟩ := h; rfl) | (obtain ⟨_, _, _, _, _, _, _, rfl, _⟩ := h; rfl) | (obtain ⟨_, _, _, _, _, _, _, _, rfl, _⟩ := h; rfl) | (obtain ⟨_, _, _, _, _, _, _, _, _, rfl, _⟩ := h; rfl) | (obtain ⟨_, _, _, _, _, _, _, _, _, _, rfl, _⟩ := h; rfl) | (obtain ⟨_, _, _, _, _, _, _, _, _, _, _, rfl, _⟩ := h; rfl) | (obtain ⟨_, _, _, _, _, _, _, _, _, _, _, _, rfl, _⟩ := h; rfl) | (obtain ⟨_, _, _, _, _, _, _, _, _, _, _, _, _, rfl, _⟩ := h; rfl) | (obtain ⟨_, _, _, _, _, _, _, _, _, _, _, _, _, _, rfl, _⟩ := h; rfl) | (obtain ⟨_, _, _, _, _, _, _, _, _, _, _, _, _, _, _, rfl, _⟩ := h; rfl) | (obtain ⟨_, _, _, _, _, _, _, _, _, _, _, _, _, _, _, _, rfl, _⟩ := h; rfl) | (obtain ⟨_, _, _, _, _, _, _, _, _, _, _, _, _, _, _, _, _, rfl, _⟩ := h; rfl) | (obtain ⟨_, _, _, _, _, _, _, _, _, _, _, _, _, _, _, _, _, _, rfl, _⟩ := h; rfl) | (obtain ⟨_, _, _, _, _, _, _, _, _, _, _, _, _, _, _, _, _, _, _, rfl, _⟩ := h; rfl) | (obtain ⟨_, _, _, _, _, _, _, _, _, _, _, _, _, _, _, _, _, _, _, _, rfl, _⟩ := h; rfl) | (obtain ⟨_, _, _, _, _, _, _, _, _, _, _, _, _, _, _, _, _, _, _, _, _, rfl, _⟩ := h; rfl)
  · obtain ⟨a, ns, rfl, hS, hlen, q⟩ := h
    k_call_by "xs" st__law_draws
    refine ⟨Nat.zero_le _, fun p hp => ⟨_, .inl ((same_upd hp).seq hS), ?_⟩⟩
    have hj : (if (((ns.map V.int).length : Nat) : Int) < 63 then (((ns.map V.int).length : Nat) : Int) else 63) = (ns.length : Int) := by
      rw [List.length_map]
      split <;> omega
    rw [hj]
    refine ⟨by omega, by omega, loop_range (fun i σ H' => ∃ ds y2 y3 y4 y5, σ = [some (.ref a), some (.ref p), y2, y3, y4, y5] ∧ DrI a p H (60 * i) H' ds) ⟨[], none, none, none, none, rfl, same_upd hp, upd_same, by simp, by simp, Nat.zero_le _⟩ ?_ ?_⟩
    · rintro i σ H' hi ⟨ds, y2, y3, y4, y5, rfl, I⟩
      rw [Int.toNat_natCast] at hi
      wtm_at "xs"
      have hi2 : (0 : Int) + (i : Nat) < (ns.length : Nat) := by omega
      refine ⟨_, I.same.seq hS, _, atI_int (by omega) hi2, ?_⟩
      wtm_at "xs"
      refine ⟨⟨by decide, by decide, by decide⟩, sel_d (fun h1 => ?_) (fun h1 => ?_)⟩
      · wtm_at "xs"
        refine ⟨by decide, by decide, loop_range (fun j σ H2 => ∃ ds y3 y4, σ = [some (.ref a), some (.ref p), some (.int (0 + (i : Nat))), some (.int y3), y4, y5] ∧ DrI a p H (60 * i + j) H2 ds) ⟨_, _, _, rfl, I⟩ ?_ ?_⟩
        · rintro j σ H2 hj2 ⟨ds2, z3, z4, rfl, J⟩
          wtm_at "xs"
          refine sel_d (fun h2 => ?_) (fun h2 => ?_)
          · wtm_at "xs"
            have hj3 : j < 60 := hj2
            refine ⟨tyv (SqL.of J.at_), by decide, _, J.at_, line_map J.len (by omega), ⟨by decide, by decide⟩, ?_⟩
            exact ⟨_, J.put hp (Int.emod_nonneg _ (by decide)) (Int.emod_lt_of_pos _ (by decide)) (Nat.le_refl _)⟩
          · wtm_at "xs"
            exact ⟨_, J.mono (Nat.le_succ _)⟩
        · rintro σ H2 ⟨ds2, z3, z4, rfl, J⟩
          wtm_at "xs"
          exact ⟨_, J.mono (by show 60 * i + (60 : Int).toNat ≤ 60 * (i + 1); omega)⟩
      · wtm_at "xs"
        refine ⟨.inr ⟨by decide, by decide⟩, .inr ⟨by decide, by decide⟩, by decide, .inr ⟨by decide, by decide⟩, .inl ⟨by decide, by decide⟩, by decide, tyv (SqL.of I.at_), by decide, _, I.at_, line_map I.len (by omega), ?_⟩
        generalize (_ : Int) % 2147483629 = M
        have J := I.put hp (x := M % 65536) (Int.emod_nonneg _ (by decide)) (Int.emod_lt_of_pos _ (by decide)) (Nat.le_refl _)
        have L := J.put hp (x := M / 65536 % 32768) (Int.emod_nonneg _ (by decide)) (Int.lt_trans (Int.emod_lt_of_pos _ (by decide)) (by decide : (32768 : Int) < 65536)) (m2 := 60 * (i + 1)) (by omega)
        rw [List.map_append] at L
        refine ⟨tyv (SqL.of upd_same), ⟨by decide, by decide⟩, by decide, _, upd_same, ?_, _, L⟩
        have := line_map J.len (by omega)
        rw [List.map_append] at this
        exact this
    · rintro σ H' ⟨ds, y2, y3, y4, y5, rfl, I⟩
      rw [Int.toNat_natCast] at I
      wtm_at "xs"
      exact q ds p H' ⟨I.lo, I.hi, Nat.le_trans I.len (by omega)⟩ I.same hp I.at_


end
end K05

namespace K05
open PySem PySem.Spec PyProof.Rows L2 Bel
local macro_rules | `(tactic| wtm_at "xs") => `(tactic| simp only [x_next, x_seq, x_brk, x_cont, x_drop, x_ret, x_retN, x_if, sel_t, sel_f, selE_t, selE_f, selT_t, selT_f, selC_t, selC_f, x_test, x_tB, x_op, x_un, x_var, x_c, x_cb, x_nil, x_cons, x_rI, x_rI0, x_rU, x_rEq, x_rNe, x_rIxL, x_rIxT, x_rSlL, x_rCat, x_rRep, x_rApp, x_bm, x_bm0, x_sl, x_nopart, x_part, x_tup, x_lst, x_call, x_callS, x_asg, x_gname, x_gtup, x_gnil, x_gcons, x_gsub, x_setL, x_aug, x_ipI, x_ipC, x_bits, x_getL, x_augS, x_and, x_or, x_not, x_k, x_andV, x_orV, x_notV, x_ife, x_chain, x_for, x_ilist, x_itup, x_ienum, x_irng1, x_irng2, x_irev, x_lc, x_yes, wipe_nil, wipe_cons, List.map_cons, List.map_nil, x_misc, x_misc2, x_rz, lookup_at, Bool.not_true, Bool.not_false, decide_true, decide_false, not_true, not_false_eq_true, and_assoc, exists_and_left, exists_eq_left', exists_eq_left, exists_eq', exists_eq_right', exists_eq_right, V.int.injEq, V.ref.injEq, V.bl.injEq, V.str.injEq, List.cons.injEq, and_true, true_and, and_self, Option.some.injEq, List.cons_append, List.nil_append, List.append_nil, List.getElem?_cons_zero, List.getElem?_cons_succ, List.set_cons_zero, List.set_cons_succ, reduceCtorEq, false_and, and_false, exists_false, exists_const, or_false, false_or, scal_ii, scal_bb, scal_ss, List.length_cons, List.length_nil, Int.reduceToNat, Int.reducePow])
local macro_rules | `(tactic| k_call_by "xs" $h:term) => `(tactic| simp only [$h:term, x_next, x_seq, x_brk, x_cont, x_drop, x_ret, x_retN, x_if, sel_t, sel_f, selE_t, selE_f, selT_t, selT_f, selC_t, selC_f, x_test, x_tB, x_op, x_un, x_var, x_c, x_cb, x_nil, x_cons, x_rI, x_rI0, x_rU, x_rEq, x_rNe, x_rIxL, x_rIxT, x_rSlL, x_rCat, x_rRep, x_rApp, x_bm, x_bm0, x_sl, x_nopart, x_part, x_tup, x_lst, x_call, x_callS, x_asg, x_gname, x_gtup, x_gnil, x_gcons, x_gsub, x_setL, x_aug, x_ipI, x_ipC, x_bits, x_getL, x_augS, x_and, x_or, x_not, x_k, x_andV, x_orV, x_notV, x_ife, x_chain, x_for, x_ilist, x_itup, x_ienum, x_irng1, x_irng2, x_irev, x_lc, x_yes, wipe_nil, wipe_cons, List.map_cons, List.map_nil, x_misc, x_misc2, x_rz, lookup_at, Bool.not_true, Bool.not_false, decide_true, decide_false, not_true, not_false_eq_true, and_assoc, exists_and_left, exists_eq_left', exists_eq_left, exists_eq', exists_eq_right', exists_eq_right, V.int.injEq, V.ref.injEq, V.bl.injEq, V.str.injEq, List.cons.injEq, and_true, true_and, and_self, Option.some.injEq, List.cons_append, List.nil_append, List.append_nil, List.getElem?_cons_zero, List.getElem?_cons_succ, List.set_cons_zero, List.set_cons_succ, reduceCtorEq, false_and, and_false, exists_false, exists_const, or_false, false_or, scal_ii, scal_bb, scal_ss, List.length_cons, List.length_nil, Int.reduceToNat, Int.reducePow])
local macro_rules | `(tactic| wtm_at "hp") => `(tactic| first | (with_reducible assumption) | exact upd_same | (refine upd_keep (by with_reducible assumption) ?_; wtm_at "hp") | (refine Same.get (by with_reducible assumption) ?_; wtm_at "hp") | (refine upd_other (by first | (with_reducible assumption) | exact Ne.symm (by with_reducible assumption)) ?_; wtm_at "hp"))
local macro_rules | `(tactic| wtm_at "sq") => `(tactic| first | (with_reducible assumption) | exact SqL.of (by wtm_at "hp") | exact SqT.of (by wtm_at "hp") | (refine Same.seq (same_upd (by with_reducible assumption)) ?_; wtm_at "sq") | (refine Same.seq (by with_reducible assumption) ?_; wtm_at "sq") | (refine Same.seqT (same_upd (by with_reducible assumption)) ?_; wtm_at "sq") | (refine Same.seqT (by with_reducible assumption) ?_; wtm_at "sq"))
local macro_rules | `(tactic| wtm_at "cl") => `(tactic| first | (with_reducible assumption) | omega | (exact cmul_r (by omega) (by omega)) | (exact cmul_l (by omega) (by omega)) | (exact cdiv_ok (by omega) (by omega)) | (exact cpow_ok (by decide)) | (exact ⟨by omega, by omega, by omega⟩) | decide | (exact ⟨by omega, by omega⟩) | (simp only [List.length_append, List.length_map, List.length_cons, List.length_nil, rngL_len, sizeLine_eq]; omega) | wtm_at "hp" | wtm_at "sq")
local macro_rules | `(tactic| wtm_at "pf") => `(tactic| first | (with_reducible assumption) | omega | (simp only [List.length_append, List.length_map, List.length_cons, List.length_nil, rngL_len]; omega) | (with_reducible rfl) | (with_reducible trivial) | (with_reducible decide))
local macro_rules | `(tactic| wtm_at "st") => `(tactic| first | ((with_reducible refine g_at ?_); refine at_call (by wtm_at "sq") (by omega) (by omega) (fun _ _ => ?_)) | ((with_reducible refine g_isi ?_); first | (refine isi_int rfl ?_) | (refine isi_lst rfl (by wtm_at "hp") ?_) | (refine isi_tup rfl (by wtm_at "hp") ?_)) | ((with_reducible refine g_ned ?_); refine ned_f (dq_lst (by wtm_at "sq")) (dq_lst (by wtm_at "sq")) ?_) | ((with_reducible refine g_eqd ?_); refine eqd_t (dq_lst (by wtm_at "sq")) (dq_lst (by wtm_at "sq")) ?_) | ((with_reducible refine g_tyv ?_); refine and_tyv (by wtm_at "sq") ?_) | ((with_reducible refine g_asq ?_); refine and_sq (by wtm_at "sq") ?_) | ((with_reducible refine g_lst ?_); refine ex_lst (by wtm_at "hp") ?_) | ((with_reducible refine g_or ?_); first | (refine ex_or (by wtm_at "sq") ?_) | (refine ex_ort (by wtm_at "sq") ?_)) | ((with_reducible refine g_sq ?_); refine ex_sq (by wtm_at "sq") ?_) | ((with_reducible refine g_sqt ?_); refine ex_sqt (by wtm_at "sq") ?_) | ((with_reducible refine gd_sel ?_); first | (refine sel_p (by wtm_at "pf") ?_) | (refine sel_n (by wtm_at "pf") ?_)) | ((with_reducible refine gn_sel ?_); first | (refine selN_p (by wtm_at "pf") ?_) | (refine selN_n (by wtm_at "pf") ?_)) | ((with_reducible refine gd_selT ?_); first | (refine selT_p (by wtm_at "pf") ?_) | (refine selT_n (by wtm_at "pf") ?_)) | ((with_reducible refine gn_selT ?_); first | (refine selTN_p (by wtm_at "pf") ?_) | (refine selTN_n (by wtm_at "pf") ?_)) | ((with_reducible refine gd_selE ?_); first | (refine selE_p (by wtm_at "pf") ?_) | (refine selE_n (by wtm_at "pf") ?_)) | ((with_reducible refine gn_selE ?_); first | (refine selEN_p (by wtm_at "pf") ?_) | (refine selEN_n (by wtm_at "pf") ?_)) | ((with_reducible refine g_xf ?_); refine xf_at rfl (by wtm_at "hp") ?_) | ((with_reducible refine g_atI ?_); refine ex_at (by first | exact rfl | exact atI_int (by omega) (by wtm_at "pf")) ?_) | ((with_reducible refine g_and ?_); refine And.intro (by wtm_at "cl") ?_) | ((with_reducible refine g_new ?_); intro _ _))
local macro_rules | `(tactic| wtm_at "go") => `(tactic| repeat (first | wtm_at "xs" | wtm_at "st"))
local macro_rules | `(tactic| wtm_at "xo") => `(tactic| simp only [x_next, x_seq, x_brk, x_cont, x_drop, x_ret, x_retN, x_if, sel_t, sel_f, selE_t, selE_f, selT_t, selT_f, selC_t, selC_f, x_test, x_tB, x_op, x_un, x_var, x_c, x_cb, x_nil, x_cons, x_rI, x_rI0, x_rU, x_rEq, x_rNe, x_rIxL, x_rIxT, n_rSlL, n_rCat, n_rRep, n_rApp, x_bm, x_bm0, x_sl, x_nopart, x_part, n_tup, n_lst, x_call, x_callS, x_asg, x_gname, x_gtup, x_gnil, x_gcons, x_gsub, n_setL, x_aug, x_ipI, x_ipC, x_bits, x_getL, x_augS, x_and, x_or, x_not, x_k, x_andV, x_orV, x_notV, x_ife, x_chain, x_for, x_ilist, x_itup, x_ienum, x_irng1, x_irng2, x_irev, x_lc, x_yes, wipe_nil, wipe_cons, List.map_cons, List.map_nil, x_misc, x_misc2, x_rz, lookup_at, Bool.not_true, Bool.not_false, decide_true, decide_false, not_true, not_false_eq_true, and_assoc, exists_and_left, exists_eq_left', exists_eq_left, exists_eq', exists_eq_right', exists_eq_right, V.int.injEq, V.ref.injEq, V.bl.injEq, V.str.injEq, List.cons.injEq, and_true, true_and, and_self, Option.some.injEq, List.cons_append, List.nil_append, List.append_nil, List.getElem?_cons_zero, List.getElem?_cons_succ, List.set_cons_zero, List.set_cons_succ, reduceCtorEq, false_and, and_false, exists_false, exists_const, or_false, false_or, scal_ii, scal_bb, scal_ss, List.length_cons, List.length_nil, Int.reduceToNat, Int.reducePow, n_rLs, t_s1, t_i1, t_i2, t_i3, t_i4, t_i5, x_chain3, x_irng3, x_irevR, x_rg1, x_rg2, ints_cat, ints_app1, ints_len, ints_take, ints_drop, rep_one])
local macro_rules | `(tactic| k_call_by "xo" $h:term) => `(tactic| simp only [$h:term, x_next, x_seq, x_brk, x_cont, x_drop, x_ret, x_retN, x_if, sel_t, sel_f, selE_t, selE_f, selT_t, selT_f, selC_t, selC_f, x_test, x_tB, x_op, x_un, x_var, x_c, x_cb, x_nil, x_cons, x_rI, x_rI0, x_rU, x_rEq, x_rNe, x_rIxL, x_rIxT, n_rSlL, n_rCat, n_rRep, n_rApp, x_bm, x_bm0, x_sl, x_nopart, x_part, n_tup, n_lst, x_call, x_callS, x_asg, x_gname, x_gtup, x_gnil, x_gcons, x_gsub, n_setL, x_aug, x_ipI, x_ipC, x_bits, x_getL, x_augS, x_and, x_or, x_not, x_k, x_andV, x_orV, x_notV, x_ife, x_chain, x_for, x_ilist, x_itup, x_ienum, x_irng1, x_irng2, x_irev, x_lc, x_yes, wipe_nil, wipe_cons, List.map_cons, List.map_nil, x_misc, x_misc2, x_rz, lookup_at, Bool.not_true, Bool.not_false, decide_true, decide_false, not_true, not_false_eq_true, and_assoc, exists_and_left, exists_eq_left', exists_eq_left, exists_eq', exists_eq_right', exists_eq_right, V.int.injEq, V.ref.injEq, V.bl.injEq, V.str.injEq, List.cons.injEq, and_true, true_and, and_self, Option.some.injEq, List.cons_append, List.nil_append, List.append_nil, List.getElem?_cons_zero, List.getElem?_cons_succ, List.set_cons_zero, List.set_cons_succ, reduceCtorEq, false_and, and_false, exists_false, exists_const, or_false, false_or, scal_ii, scal_bb, scal_ss, List.length_cons, List.length_nil, Int.reduceToNat, Int.reducePow, n_rLs, t_s1, t_i1, t_i2, t_i3, t_i4, t_i5, x_chain3, x_irng3, x_irevR, x_rg1, x_rg2, ints_cat, ints_app1, ints_len, ints_take, ints_drop, rep_one])
local macro_rules | `(tactic| wtm_at "mem") => `(tactic| first | (with_reducible exact mem_here) | (with_reducible refine mem_there ?_; wtm_at "mem"))
local macro_rules | `(tactic| wtm_at "pp") => `(tactic| first | (with_reducible exact Put.here) | (with_reducible apply Put.there; wtm_at "pp"))
local macro_rules | `(tactic| wtm_at "ho") => `(tactic| first | (with_reducible assumption) | exact Own.get (by with_reducible assumption) (by wtm_at "mem") | exact Own.base (by with_reducible assumption) (by with_reducible assumption))
local macro_rules | `(tactic| wtm_at "qo") => `(tactic| first | (with_reducible assumption) | exact SqL.of (by wtm_at "ho") | exact sqT_tupI (by wtm_at "ho") | exact sqT_tupS (by wtm_at "ho") | exact SqT.of (by wtm_at "ho") | exact Own.imT (by with_reducible assumption) (by wtm_at "mem") | exact Own.sq (by with_reducible assumption) (by with_reducible assumption) | exact Own.sqT (by with_reducible assumption) (by with_reducible assumption))
local macro_rules | `(tactic| wtm_at "sub") => `(tactic| first | exact List.nil_sublist _ | (with_reducible refine List.Sublist.cons_cons _ ?_; wtm_at "sub") | (refine List.Sublist.cons _ ?_; wtm_at "sub"))
local macro_rules | `(tactic| wtm_at "co") => `(tactic| first | (with_reducible assumption) | omega | (exact cmul_r (by omega) (by omega)) | (exact cmul_l (by omega) (by omega)) | (exact cdiv_ok (by omega) (by omega)) | (exact cpow_ok (by decide)) | (exact ⟨by omega, by omega, by omega⟩) | decide | (exact ⟨by omega, by omega⟩) | (simp only [List.length_append, List.length_map, List.length_cons, List.length_nil, rngL_len, sizeLine_eq]; omega) | wtm_at "ho" | wtm_at "qo")
local macro_rules | `(tactic| wtm_at "so") => `(tactic| first | ((with_reducible refine g_sum ?_); refine sum_call (by wtm_at "qo") ?_) | ((with_reducible refine g_cq ?_); exact cq (by with_reducible assumption) (by simp only [rngL_len, List.length_map, List.length_take]; omega)) | ((with_reducible refine g_newO ?_); refine newO (by with_reducible assumption) (fun _ _ _ => ?_)) | ((with_reducible refine g_appO ?_); refine appI (by with_reducible assumption) (by wtm_at "pp") (by wtm_at "co") (fun _ _ => ?_)) | ((with_reducible refine g_setO ?_); refine setI (by with_reducible assumption) (by wtm_at "pp") (by omega) (by wtm_at "co") (fun _ _ => ?_)) | ((with_reducible refine g_appO ?_); refine appO (by with_reducible assumption) (by wtm_at "pp") (by wtm_at "co") (fun _ _ => ?_)) | ((with_reducible refine g_setO ?_); refine setO (by with_reducible assumption) (by wtm_at "pp") (by omega) (by wtm_at "co") (fun _ _ => ?_)) | ((with_reducible refine g_at ?_); refine at_call (by wtm_at "qo") (by omega) (by omega) (fun _ _ => ?_)) | ((with_reducible refine g_isi ?_); first | (refine isi_int rfl ?_) | (refine isi_sqL rfl (by wtm_at "qo") ?_) | (refine isi_sqT rfl (by wtm_at "qo") ?_) | (refine isi_bl rfl ?_) | (refine isi_non rfl ?_) | (refine isi_str rfl ?_)) | ((with_reducible refine g_ned ?_); first | (refine ned_f (dq_lst (by wtm_at "qo")) (dq_lst (by wtm_at "qo")) ?_) | (refine ned_ints (by wtm_at "qo") (by wtm_at "qo") ?_) | (refine nedT_ints (by wtm_at "qo") (by wtm_at "qo") ?_)) | ((with_reducible refine g_eqd ?_); first | (refine eqd_t (dq_lst (by wtm_at "qo")) (dq_lst (by wtm_at "qo")) ?_) | (refine eqd_ints (by wtm_at "qo") (by wtm_at "qo") ?_) | (refine eqdT_ints (by wtm_at "qo") (by wtm_at "qo") ?_)) | ((with_reducible refine g_tyv ?_); refine and_tyv (by wtm_at "qo") ?_) | ((with_reducible refine g_asq ?_); refine and_sq (by wtm_at "qo") ?_) | ((with_reducible refine g_lst ?_); refine ex_lst (by wtm_at "ho") ?_) | ((with_reducible refine g_or ?_); first | (refine ex_or (by wtm_at "qo") ?_) | (refine ex_ort (by wtm_at "qo") ?_)) | ((with_reducible refine g_sq ?_); refine ex_sq (by wtm_at "qo") ?_) | ((with_reducible refine g_sqt ?_); refine ex_sqt (by wtm_at "qo") ?_) | ((with_reducible refine gd_sel ?_); first | (refine sel_p (by wtm_at "pf") ?_) | (refine sel_n (by wtm_at "pf") ?_)) | ((with_reducible refine gn_sel ?_); first | (refine selN_p (by wtm_at "pf") ?_) | (refine selN_n (by wtm_at "pf") ?_)) | ((with_reducible refine gd_selT ?_); first | (refine selT_p (by wtm_at "pf") ?_) | (refine selT_n (by wtm_at "pf") ?_)) | ((with_reducible refine gn_selT ?_); first | (refine selTN_p (by wtm_at "pf") ?_) | (refine selTN_n (by wtm_at "pf") ?_)) | ((with_reducible refine gd_selE ?_); first | (refine selE_p (by wtm_at "pf") ?_) | (refine selE_n (by wtm_at "pf") ?_)) | ((with_reducible refine gn_selE ?_); first | (refine selEN_p (by wtm_at "pf") ?_) | (refine selEN_n (by wtm_at "pf") ?_)) | ((with_reducible refine g_xf ?_); refine xf_at rfl (by wtm_at "ho") ?_) | ((with_reducible refine g_atI ?_); refine ex_at (by first | exact rfl | exact atI_int (by omega) (by wtm_at "pf")) ?_) | ((with_reducible refine g_and ?_); refine And.intro (by wtm_at "co") ?_))
local macro_rules | `(tactic| wtm_at "oo") => `(tactic| repeat (first | wtm_at "xo" | wtm_at "so"))
local macro_rules | `(tactic| wtm_at "cR") => `(tactic| (refine' compRi _ (by with_reducible assumption) (by omega) (fun _ _ _ _ _ => ?_) (fun _ _ _ => ?_); rotate_left; focus (wtm_at "oo")))
section
variable {P : Program} {w : World} {K : PySem.W.Frag} {mg : Str → Option Value} {base : Heap}
def sp__law_is_integer (K : PySem.W.Frag) : Sp := fun vs H Q _ => ∃ (i : Int), vs = [.int i] ∧ Q (.bl true) H
theorem ok__law_is_integer (T : Tx K mg) : Cl P w K mg base 1 "_law_is_integer" ["_law_actual"] (sp__law_is_integer K) [] := by
  obtain ⟨gm, fd, F⟩ := T.d__law_is_integer
  refine ⟨_, fd, [], F.ok sc__law_is_integer (fun vs H Q E h => ?_) (fun cdv A outer s H vs Q E hr h => ⟨_, (PSs.nox (pss_one (ps_ret (by exact (pe_and (pe_callB (isiK K) rfl T.b_isinstance (by decide +kernel) (pa_cons (pv 0) (pa_cons (pe_bltn (v := .ty "int") rfl T.b_int (by decide +kernel) rfl) pa_nil))) (pe_one (pe_not (pe_callB (isiK K) rfl T.b_isinstance (by decide +kernel) (pa_cons (pv 0) (pa_cons (pe_bltn (v := .ty "bool") rfl T.b_bool (by decide +kernel) rfl) pa_nil)))))))))), ?_⟩), gm, F.kp, F.bindsN (fun _ _ _ _ _ _ us hl => match us, hl with | [_], _ => rfl), .nil⟩
  · first | (obtain ⟨rfl, _⟩ := h; rfl) | (obtain ⟨_, rfl, _⟩ := h; rfl) | (obtain ⟨_, _, rfl, _⟩ := h; rfl) | (obtain ⟨_, _, _, rfl, _⟩ := h; rfl) | (obtain ⟨_, _, _, _, rfl, _⟩ := h; rfl) | (obtain ⟨_, _, _, _, _, rfl, _⟩ := h; rfl) | (obtain ⟨_, _, _, _, _, _, rfl, _⟩ := h; rfl) | (obtain ⟨_, _, _, _, _, _, _, rfl, _⟩ := h; rfl) | (obtain ⟨_, _, _, _, _, _, _, _, rfl, _⟩ := h; rfl) | (obtain ⟨_, _, _, _, _, _, _, _, _, rfl, _⟩ := h; rfl) | (obtain ⟨_, _, _, _, _, _, _, _, _, _, rfl, _⟩ := h; rfl) | (obtain ⟨_, _, _, _, _, _, _, _, _, _, _, rfl, _⟩ := h; rfl) | (obtain ⟨_, _, _, _, _, _, _, _, _, _, _, _, rfl, _⟩ := h; rfl) | (obtain ⟨_, _, _, _, _, _, _, _, _, _, _, _, _, rfl, _⟩ := h; rfl) | (obtain ⟨_, _, _, _, _, _, _, _, _, _, _, _, _, _, rfl, _⟩ := h; rfl) | (obtain ⟨_, _, _, _, _, _, _, _, _, _, _, _, _, _, _, rfl, _⟩ := h; rfl) | (obtain ⟨_, _, _, _, _, _, _, _, _, _, _, _, _, _, _, _, rfl, _⟩ := h; rfl) | (obtain ⟨_, _, _, _, _, _, _, _, _, _, _, _, _, _, _, _, _, rfl, _⟩ := h; rfl) | (obtain ⟨_, _, _, _, _, _, _, _, _, _, _, _, _, _, _, _, _, _, rfl, _⟩ := h; rfl) | (obtain ⟨_, _, _, _, _, _, _, _, _, _, _, _, _, _, _, _, _, _, _, rfl, _⟩ := h; rfl) | (obtain ⟨_, _, _, _, _, _, _, _, _, _, _, _, _, _, _, _, _, _, _, _, rfl, _⟩ := h; rfl) | (obtain ⟨_, _, _, _, _, _, _, _, _, _, _, _, _, _, _, _, _, _, _, _, _, rfl, _⟩ := h; rfl)
  · obtain ⟨i, rfl, q⟩ := h
    k_call_by "xs" st__law_is_integer
    refine isi_int rfl ?_
    wtm_at "xs"
    refine isi_int rfl ?_
    wtm_at "xs"
    exact q
theorem g_int {K : PySem.W.Frag} {H : Hp} {vs : List V} {Q : VK} {E : XK} (h : sp__law_is_integer K vs H Q E) : sp__law_is_integer K vs H Q E := h
theorem int_call {K : PySem.W.Frag} {H : Hp} {i : Int} {Q : VK} {E : XK} (q : Q (.bl true) H) : sp__law_is_integer K [.int i] H Q E := ⟨i, rfl, q⟩


end
end K05

namespace K05
open PySem PySem.Spec PyProof.Rows L2 Bel
local macro_rules | `(tactic| wtm_at "xs") => `(tactic| simp only [x_next, x_seq, x_brk, x_cont, x_drop, x_ret, x_retN, x_if, sel_t, sel_f, selE_t, selE_f, selT_t, selT_f, selC_t, selC_f, x_test, x_tB, x_op, x_un, x_var, x_c, x_cb, x_nil, x_cons, x_rI, x_rI0, x_rU, x_rEq, x_rNe, x_rIxL, x_rIxT, x_rSlL, x_rCat, x_rRep, x_rApp, x_bm, x_bm0, x_sl, x_nopart, x_part, x_tup, x_lst, x_call, x_callS, x_asg, x_gname, x_gtup, x_gnil, x_gcons, x_gsub, x_setL, x_aug, x_ipI, x_ipC, x_bits, x_getL, x_augS, x_and, x_or, x_not, x_k, x_andV, x_orV, x_notV, x_ife, x_chain, x_for, x_ilist, x_itup, x_ienum, x_irng1, x_irng2, x_irev, x_lc, x_yes, wipe_nil, wipe_cons, List.map_cons, List.map_nil, x_misc, x_misc2, x_rz, lookup_at, Bool.not_true, Bool.not_false, decide_true, decide_false, not_true, not_false_eq_true, and_assoc, exists_and_left, exists_eq_left', exists_eq_left, exists_eq', exists_eq_right', exists_eq_right, V.int.injEq, V.ref.injEq, V.bl.injEq, V.str.injEq, List.cons.injEq, and_true, true_and, and_self, Option.some.injEq, List.cons_append, List.nil_append, List.append_nil, List.getElem?_cons_zero, List.getElem?_cons_succ, List.set_cons_zero, List.set_cons_succ, reduceCtorEq, false_and, and_false, exists_false, exists_const, or_false, false_or, scal_ii, scal_bb, scal_ss, List.length_cons, List.length_nil, Int.reduceToNat, Int.reducePow])
local macro_rules | `(tactic| k_call_by "xs" $h:term) => `(tactic| simp only [$h:term, x_next, x_seq, x_brk, x_cont, x_drop, x_ret, x_retN, x_if, sel_t, sel_f, selE_t, selE_f, selT_t, selT_f, selC_t, selC_f, x_test, x_tB, x_op, x_un, x_var, x_c, x_cb, x_nil, x_cons, x_rI, x_rI0, x_rU, x_rEq, x_rNe, x_rIxL, x_rIxT, x_rSlL, x_rCat, x_rRep, x_rApp, x_bm, x_bm0, x_sl, x_nopart, x_part, x_tup, x_lst, x_call, x_callS, x_asg, x_gname, x_gtup, x_gnil, x_gcons, x_gsub, x_setL, x_aug, x_ipI, x_ipC, x_bits, x_getL, x_augS, x_and, x_or, x_not, x_k, x_andV, x_orV, x_notV, x_ife, x_chain, x_for, x_ilist, x_itup, x_ienum, x_irng1, x_irng2, x_irev, x_lc, x_yes, wipe_nil, wipe_cons, List.map_cons, List.map_nil, x_misc, x_misc2, x_rz, lookup_at, Bool.not_true, Bool.not_false, decide_true, decide_false, not_true, not_false_eq_true, and_assoc, exists_and_left, exists_eq_left', exists_eq_left, exists_eq', exists_eq_right', exists_eq_right, V.int.injEq, V.ref.injEq, V.bl.injEq, V.str.injEq, List.cons.injEq, and_true, true_and, and_self, Option.some.injEq, List.cons_append, List.nil_append, List.append_nil, List.getElem?_cons_zero, List.getElem?_cons_succ, List.set_cons_zero, List.set_cons_succ, reduceCtorEq, false_and, and_false, exists_false, exists_const, or_false, false_or, scal_ii, scal_bb, scal_ss, List.length_cons, List.length_nil, Int.reduceToNat, Int.reducePow])
local macro_rules | `(tactic| wtm_at "hp") => `(tactic| first | (with_reducible assumption) | exact upd_same | (refine upd_keep (by with_reducible assumption) ?_; wtm_at "hp") | (refine Same.get (by with_reducible assumption) ?_; wtm_at "hp") | (refine upd_other (by first | (with_reducible assumption) | exact Ne.symm (by with_reducible assumption)) ?_; wtm_at "hp"))
local macro_rules | `(tactic| wtm_at "sq") => `(tactic| first | (with_reducible assumption) | exact SqL.of (by wtm_at "hp") | exact SqT.of (by wtm_at "hp") | (refine Same.seq (same_upd (by with_reducible assumption)) ?_; wtm_at "sq") | (refine Same.seq (by with_reducible assumption) ?_; wtm_at "sq") | (refine Same.seqT (same_upd (by with_reducible assumption)) ?_; wtm_at "sq") | (refine Same.seqT (by with_reducible assumption) ?_; wtm_at "sq"))
local macro_rules | `(tactic| wtm_at "cl") => `(tactic| first | (with_reducible assumption) | omega | (exact cmul_r (by omega) (by omega)) | (exact cmul_l (by omega) (by omega)) | (exact cdiv_ok (by omega) (by omega)) | (exact cpow_ok (by decide)) | (exact ⟨by omega, by omega, by omega⟩) | decide | (exact ⟨by omega, by omega⟩) | (simp only [List.length_append, List.length_map, List.length_cons, List.length_nil, rngL_len, sizeLine_eq]; omega) | wtm_at "hp" | wtm_at "sq")
local macro_rules | `(tactic| wtm_at "pf") => `(tactic| first | (with_reducible assumption) | omega | (simp only [List.length_append, List.length_map, List.length_cons, List.length_nil, rngL_len]; omega) | (with_reducible rfl) | (with_reducible trivial) | (with_reducible decide))
local macro_rules | `(tactic| wtm_at "st") => `(tactic| first | ((with_reducible refine g_at ?_); refine at_call (by wtm_at "sq") (by omega) (by omega) (fun _ _ => ?_)) | ((with_reducible refine g_int ?_); refine int_call ?_) | ((with_reducible refine g_isi ?_); first | (refine isi_int rfl ?_) | (refine isi_lst rfl (by wtm_at "hp") ?_) | (refine isi_tup rfl (by wtm_at "hp") ?_)) | ((with_reducible refine g_ned ?_); refine ned_f (dq_lst (by wtm_at "sq")) (dq_lst (by wtm_at "sq")) ?_) | ((with_reducible refine g_eqd ?_); refine eqd_t (dq_lst (by wtm_at "sq")) (dq_lst (by wtm_at "sq")) ?_) | ((with_reducible refine g_tyv ?_); refine and_tyv (by wtm_at "sq") ?_) | ((with_reducible refine g_asq ?_); refine and_sq (by wtm_at "sq") ?_) | ((with_reducible refine g_lst ?_); refine ex_lst (by wtm_at "hp") ?_) | ((with_reducible refine g_or ?_); first | (refine ex_or (by wtm_at "sq") ?_) | (refine ex_ort (by wtm_at "sq") ?_)) | ((with_reducible refine g_sq ?_); refine ex_sq (by wtm_at "sq") ?_) | ((with_reducible refine g_sqt ?_); refine ex_sqt (by wtm_at "sq") ?_) | ((with_reducible refine gd_sel ?_); first | (refine sel_p (by wtm_at "pf") ?_) | (refine sel_n (by wtm_at "pf") ?_)) | ((with_reducible refine gn_sel ?_); first | (refine selN_p (by wtm_at "pf") ?_) | (refine selN_n (by wtm_at "pf") ?_)) | ((with_reducible refine gd_selT ?_); first | (refine selT_p (by wtm_at "pf") ?_) | (refine selT_n (by wtm_at "pf") ?_)) | ((with_reducible refine gn_selT ?_); first | (refine selTN_p (by wtm_at "pf") ?_) | (refine selTN_n (by wtm_at "pf") ?_)) | ((with_reducible refine gd_selE ?_); first | (refine selE_p (by wtm_at "pf") ?_) | (refine selE_n (by wtm_at "pf") ?_)) | ((with_reducible refine gn_selE ?_); first | (refine selEN_p (by wtm_at "pf") ?_) | (refine selEN_n (by wtm_at "pf") ?_)) | ((with_reducible refine g_xf ?_); refine xf_at rfl (by wtm_at "hp") ?_) | ((with_reducible refine g_atI ?_); refine ex_at (by first | exact rfl | exact atI_int (by omega) (by wtm_at "pf")) ?_) | ((with_reducible refine g_and ?_); refine And.intro (by wtm_at "cl") ?_) | ((with_reducible refine g_new ?_); intro _ _))
local macro_rules | `(tactic| wtm_at "go") => `(tactic| repeat (first | wtm_at "xs" | wtm_at "st"))
local macro_rules | `(tactic| wtm_at "xo") => `(tactic| simp only [x_next, x_seq, x_brk, x_cont, x_drop, x_ret, x_retN, x_if, sel_t, sel_f, selE_t, selE_f, selT_t, selT_f, selC_t, selC_f, x_test, x_tB, x_op, x_un, x_var, x_c, x_cb, x_nil, x_cons, x_rI, x_rI0, x_rU, x_rEq, x_rNe, x_rIxL, x_rIxT, n_rSlL, n_rCat, n_rRep, n_rApp, x_bm, x_bm0, x_sl, x_nopart, x_part, n_tup, n_lst, x_call, x_callS, x_asg, x_gname, x_gtup, x_gnil, x_gcons, x_gsub, n_setL, x_aug, x_ipI, x_ipC, x_bits, x_getL, x_augS, x_and, x_or, x_not, x_k, x_andV, x_orV, x_notV, x_ife, x_chain, x_for, x_ilist, x_itup, x_ienum, x_irng1, x_irng2, x_irev, x_lc, x_yes, wipe_nil, wipe_cons, List.map_cons, List.map_nil, x_misc, x_misc2, x_rz, lookup_at, Bool.not_true, Bool.not_false, decide_true, decide_false, not_true, not_false_eq_true, and_assoc, exists_and_left, exists_eq_left', exists_eq_left, exists_eq', exists_eq_right', exists_eq_right, V.int.injEq, V.ref.injEq, V.bl.injEq, V.str.injEq, List.cons.injEq, and_true, true_and, and_self, Option.some.injEq, List.cons_append, List.nil_append, List.append_nil, List.getElem?_cons_zero, List.getElem?_cons_succ, List.set_cons_zero, List.set_cons_succ, reduceCtorEq, false_and, and_false, exists_false, exists_const, or_false, false_or, scal_ii, scal_bb, scal_ss, List.length_cons, List.length_nil, Int.reduceToNat, Int.reducePow, n_rLs, t_s1, t_i1, t_i2, t_i3, t_i4, t_i5, x_chain3, x_irng3, x_irevR, x_rg1, x_rg2, ints_cat, ints_app1, ints_len, ints_take, ints_drop, rep_one])
local macro_rules | `(tactic| k_call_by "xo" $h:term) => `(tactic| simp only [$h:term, x_next, x_seq, x_brk, x_cont, x_drop, x_ret, x_retN, x_if, sel_t, sel_f, selE_t, selE_f, selT_t, selT_f, selC_t, selC_f, x_test, x_tB, x_op, x_un, x_var, x_c, x_cb, x_nil, x_cons, x_rI, x_rI0, x_rU, x_rEq, x_rNe, x_rIxL, x_rIxT, n_rSlL, n_rCat, n_rRep, n_rApp, x_bm, x_bm0, x_sl, x_nopart, x_part, n_tup, n_lst, x_call, x_callS, x_asg, x_gname, x_gtup, x_gnil, x_gcons, x_gsub, n_setL, x_aug, x_ipI, x_ipC, x_bits, x_getL, x_augS, x_and, x_or, x_not, x_k, x_andV, x_orV, x_notV, x_ife, x_chain, x_for, x_ilist, x_itup, x_ienum, x_irng1, x_irng2, x_irev, x_lc, x_yes, wipe_nil, wipe_cons, List.map_cons, List.map_nil, x_misc, x_misc2, x_rz, lookup_at, Bool.not_true, Bool.not_false, decide_true, decide_false, not_true, not_false_eq_true, and_assoc, exists_and_left, exists_eq_left', exists_eq_left, exists_eq', exists_eq_right', exists_eq_right, V.int.injEq, V.ref.injEq, V.bl.injEq, V.str.injEq, List.cons.injEq, and_true, true_and, and_self, Option.some.injEq, List.cons_append, List.nil_append, List.append_nil, List.getElem?_cons_zero, List.getElem?_cons_succ, List.set_cons_zero, List.set_cons_succ, reduceCtorEq, false_and, and_false, exists_false, exists_const, or_false, false_or, scal_ii, scal_bb, scal_ss, List.length_cons, List.length_nil, Int.reduceToNat, Int.reducePow, n_rLs, t_s1, t_i1, t_i2, t_i3, t_i4, t_i5, x_chain3, x_irng3, x_irevR, x_rg1, x_rg2, ints_cat, ints_app1, ints_len, ints_take, ints_drop, rep_one])
local macro_rules | `(tactic| wtm_at "mem") => `(tactic| first | (with_reducible exact mem_here) | (with_reducible refine mem_there ?_; wtm_at "mem"))
local macro_rules | `(tactic| wtm_at "pp") => `(tactic| first | (with_reducible exact Put.here) | (with_reducible apply Put.there; wtm_at "pp"))
local macro_rules | `(tactic| wtm_at "ho") => `(tactic| first | (with_reducible assumption) | exact Own.get (by with_reducible assumption) (by wtm_at "mem") | exact Own.base (by with_reducible assumption) (by with_reducible assumption))
local macro_rules | `(tactic| wtm_at "qo") => `(tactic| first | (with_reducible assumption) | exact SqL.of (by wtm_at "ho") | exact sqT_tupI (by wtm_at "ho") | exact sqT_tupS (by wtm_at "ho") | exact SqT.of (by wtm_at "ho") | exact Own.imT (by with_reducible assumption) (by wtm_at "mem") | exact Own.sq (by with_reducible assumption) (by with_reducible assumption) | exact Own.sqT (by with_reducible assumption) (by with_reducible assumption))
local macro_rules | `(tactic| wtm_at "sub") => `(tactic| first | exact List.nil_sublist _ | (with_reducible refine List.Sublist.cons_cons _ ?_; wtm_at "sub") | (refine List.Sublist.cons _ ?_; wtm_at "sub"))
local macro_rules | `(tactic| wtm_at "co") => `(tactic| first | (with_reducible assumption) | omega | (exact cmul_r (by omega) (by omega)) | (exact cmul_l (by omega) (by omega)) | (exact cdiv_ok (by omega) (by omega)) | (exact cpow_ok (by decide)) | (exact ⟨by omega, by omega, by omega⟩) | decide | (exact ⟨by omega, by omega⟩) | (simp only [List.length_append, List.length_map, List.length_cons, List.length_nil, rngL_len, sizeLine_eq]; omega) | wtm_at "ho" | wtm_at "qo")
local macro_rules | `(tactic| wtm_at "so") => `(tactic| first | ((with_reducible refine g_sum ?_); refine sum_call (by wtm_at "qo") ?_) | ((with_reducible refine g_cq ?_); exact cq (by with_reducible assumption) (by simp only [rngL_len, List.length_map, List.length_take]; omega)) | ((with_reducible refine g_newO ?_); refine newO (by with_reducible assumption) (fun _ _ _ => ?_)) | ((with_reducible refine g_appO ?_); refine appI (by with_reducible assumption) (by wtm_at "pp") (by wtm_at "co") (fun _ _ => ?_)) | ((with_reducible refine g_setO ?_); refine setI (by with_reducible assumption) (by wtm_at "pp") (by omega) (by wtm_at "co") (fun _ _ => ?_)) | ((with_reducible refine g_appO ?_); refine appO (by with_reducible assumption) (by wtm_at "pp") (by wtm_at "co") (fun _ _ => ?_)) | ((with_reducible refine g_setO ?_); refine setO (by with_reducible assumption) (by wtm_at "pp") (by omega) (by wtm_at "co") (fun _ _ => ?_)) | ((with_reducible refine g_at ?_); refine at_call (by wtm_at "qo") (by omega) (by omega) (fun _ _ => ?_)) | ((with_reducible refine g_int ?_); refine int_call ?_) | ((with_reducible refine g_isi ?_); first | (refine isi_int rfl ?_) | (refine isi_sqL rfl (by wtm_at "qo") ?_) | (refine isi_sqT rfl (by wtm_at "qo") ?_) | (refine isi_bl rfl ?_) | (refine isi_non rfl ?_) | (refine isi_str rfl ?_)) | ((with_reducible refine g_ned ?_); first | (refine ned_f (dq_lst (by wtm_at "qo")) (dq_lst (by wtm_at "qo")) ?_) | (refine ned_ints (by wtm_at "qo") (by wtm_at "qo") ?_) | (refine nedT_ints (by wtm_at "qo") (by wtm_at "qo") ?_)) | ((with_reducible refine g_eqd ?_); first | (refine eqd_t (dq_lst (by wtm_at "qo")) (dq_lst (by wtm_at "qo")) ?_) | (refine eqd_ints (by wtm_at "qo") (by wtm_at "qo") ?_) | (refine eqdT_ints (by wtm_at "qo") (by wtm_at "qo") ?_)) | ((with_reducible refine g_tyv ?_); refine and_tyv (by wtm_at "qo") ?_) | ((with_reducible refine g_asq ?_); refine and_sq (by wtm_at "qo") ?_) | ((with_reducible refine g_lst ?_); refine ex_lst (by wtm_at "ho") ?_) | ((with_reducible refine g_or ?_); first | (refine ex_or (by wtm_at "qo") ?_) | (refine ex_ort (by wtm_at "qo") ?_)) | ((with_reducible refine g_sq ?_); refine ex_sq (by wtm_at "qo") ?_) | ((with_reducible refine g_sqt ?_); refine ex_sqt (by wtm_at "qo") ?_) | ((with_reducible refine gd_sel ?_); first | (refine sel_p (by wtm_at "pf") ?_) | (refine sel_n (by wtm_at "pf") ?_)) | ((with_reducible refine gn_sel ?_); first | (refine selN_p (by wtm_at "pf") ?_) | (refine selN_n (by wtm_at "pf") ?_)) | ((with_reducible refine gd_selT ?_); first | (refine selT_p (by wtm_at "pf") ?_) | (refine selT_n (by wtm_at "pf") ?_)) | ((with_reducible refine gn_selT ?_); first | (refine selTN_p (by wtm_at "pf") ?_) | (refine selTN_n (by wtm_at "pf") ?_)) | ((with_reducible refine gd_selE ?_); first | (refine selE_p (by wtm_at "pf") ?_) | (refine selE_n (by wtm_at "pf") ?_)) | ((with_reducible refine gn_selE ?_); first | (refine selEN_p (by wtm_at "pf") ?_) | (refine selEN_n (by wtm_at "pf") ?_)) | ((with_reducible refine g_xf ?_); refine xf_at rfl (by wtm_at "ho") ?_) | ((with_reducible refine g_atI ?_); refine ex_at (by first | exact rfl | exact atI_int (by omega) (by wtm_at "pf")) ?_) | ((with_reducible refine g_and ?_); refine And.intro (by wtm_at "co") ?_))
local macro_rules | `(tactic| wtm_at "oo") => `(tactic| repeat (first | wtm_at "xo" | wtm_at "so"))
local macro_rules | `(tactic| wtm_at "cR") => `(tactic| (refine' compRi _ (by with_reducible assumption) (by omega) (fun _ _ _ _ _ => ?_) (fun _ _ _ => ?_); rotate_left; focus (wtm_at "oo")))
section
variable {P : Program} {w : World} {K : PySem.W.Frag} {mg : Str → Option Value} {base : Heap}
def sp__law_is_row (K : PySem.W.Frag) : Sp := fun vs H Q _ => ∃ (a : Addr) (ns : List Int), vs = [.ref a] ∧ H a = some (.lst (ns.map V.int)) ∧ Q (.bl true) H
theorem ok__law_is_row (T : Tx K mg) : Cl P w K mg base 2 "_law_is_row" ["_law_actual"] (sp__law_is_row K) [] := by
  obtain ⟨gm, fd, F⟩ := T.d__law_is_row
  refine ⟨_, fd, [], F.ok sc__law_is_row (fun vs H Q E h => ?_) (fun cdv A outer s H vs Q E hr h => ⟨_, (PSs.nox (pss_cons (ps_if (pt_not (pt_val (pe_callB (isiK K) rfl T.b_isinstance (by decide +kernel) (pa_cons (pv 0) (pa_cons (pe_bltn (v := .ty "list") rfl T.b_list (by decide +kernel) rfl) pa_nil)))))
 (pss_one (ps_ret (by exact pe_bl)))
 pss_nil)
 (pss_cons (ps_for PassesOwn.never rfl (pi_list (pv 0)) (pg_name (i := 1) sc__law_is_row.nd rfl (Or.inl rfl))
 (pss_one (ps_if (pt_not (pt_val (pe_cl (ok__law_is_integer T) (hr.mono (by decide)) rfl (pa_cons (pv 1) pa_nil))))
 (pss_one (ps_ret (by exact pe_bl)))
 pss_nil)))
 (pss_one (ps_ret (by exact pe_bl)))))), ?_⟩), gm, F.kp, F.bindsN (fun _ _ _ _ _ _ us hl => match us, hl with | [_], _ => rfl), .nil⟩
  · first | (obtain ⟨rfl, _⟩ := h; rfl) | (obtain ⟨_, rfl, _⟩ := h; rfl) | (obtain ⟨_, _, rfl, _⟩ := h; rfl) | (obtain ⟨_, _, _, rfl, _⟩ := h; rfl) | (obtain ⟨_, _, _, _, rfl, _⟩ := h; rfl) | (obtain ⟨_, _, _, _, _, rfl, _⟩ := h; rfl) | (obtain ⟨_, _, _, _, _, _, rfl, _⟩ := h; rfl) | (obtain ⟨_, _, _, _, _, _, _, rfl, _⟩ := h; rfl) | (obtain ⟨_, _, _, _, _, _, _, _, rfl, _⟩ := h; rfl) | (obtain ⟨_, _, _, _, _, _, _, _, _, rfl, _⟩ := h; rfl) | (obtain ⟨_, _, _, _, _, _, _, _, _, _, rfl, _⟩ := h; rfl) | (obtain ⟨_, _, _, _, _, _, _, _, _, _, _, rfl, _⟩ := h; rfl) | (obtain ⟨_, _, _, _, _, _, _, _, _, _, _, _, rfl, _⟩ := h; rfl) | (obtain ⟨_, _, _, _, _, _, _, _, _, _, _, _, _, rfl, _⟩ := h; rfl) | (obtain ⟨_, _, _, _, _, _, _, _, _, _, _, _, _, _, rfl, _⟩ := h; rfl) | (obtain ⟨_, _, _, _, _, _, _, _, _, _, _, _, _, _, _, rfl, _⟩ := h; rfl) | (obtain ⟨_, _, _, _, _, _, _, _, _, _, _, _, _, _, _, _, rfl, _⟩ := h; rfl) | (obtain ⟨_, _, _, _, _, _, _, _, _, _, _, _, _, _, _, _, _, rfl, _⟩ := h; rfl) | (obtain ⟨_, _, _, _, _, _, _, _, _, _, _, _, _, _, _, _, _, _, rfl, _⟩ := h; rfl) | (obtain ⟨_, _, _, _, _, _, _, _, _, _, _, _, _, _, _, _, _, _, _, rfl, _⟩ := h; rfl) | (obtain ⟨_, _, _, _, _, _, _, _, _, _, _, _, _, _, _, _, _, _, _, _, rfl, _⟩ := h; rfl) | (obtain ⟨_, _, _, _, _, _, _, _, _, _, _, _, _, _, _, _, _, _, _, _, _, rfl, _⟩ := h; rfl)
  · obtain ⟨a, ns, rfl, hl, q⟩ := h
    k_call_by "xs" st__law_is_row
    refine isi_lst rfl hl ?_
    wtm_at "xs"
    refine ⟨⟨_, SqL.of hl⟩, loop_list (xs := ns.map V.int) (fun i σ H' => ∃ y, σ = [some (.ref a), y] ∧ H' = H) ⟨_, rfl, rfl⟩ (fun i σ H' _ ⟨y, _, e⟩ => by rw [e]; exact SqL.of hl) ?_ ?_⟩
    · rintro i x σ H' hx ⟨y, rfl, rfl⟩
      obtain ⟨z, hz, rfl⟩ := int_at hx
      wtm_at "xs"
      refine ⟨z, rfl, ?_⟩
      wtm_at "xs"
    · rintro σ H' ⟨y, rfl, rfl⟩
      wtm_at "xs"
      exact q
theorem g_row {K : PySem.W.Frag} {H : Hp} {vs : List V} {Q : VK} {E : XK} (h : sp__law_is_row K vs H Q E) : sp__law_is_row K vs H Q E := h
theorem row_call {K : PySem.W.Frag} {H : Hp} {a : Addr} {ns : List Int} {Q : VK} {E : XK} (h : H a = some (.lst (ns.map V.int))) (q : Q (.bl true) H) : sp__law_is_row K [.ref a] H Q E := ⟨a, ns, rfl, h, q⟩


end
end K05

namespace K05
open PySem PySem.Spec PyProof.Rows L2 Bel
local macro_rules | `(tactic| wtm_at "xs") => `(tactic| simp only [x_next, x_seq, x_brk, x_cont, x_drop, x_ret, x_retN, x_if, sel_t, sel_f, selE_t, selE_f, selT_t, selT_f, selC_t, selC_f, x_test, x_tB, x_op, x_un, x_var, x_c, x_cb, x_nil, x_cons, x_rI, x_rI0, x_rU, x_rEq, x_rNe, x_rIxL, x_rIxT, x_rSlL, x_rCat, x_rRep, x_rApp, x_bm, x_bm0, x_sl, x_nopart, x_part, x_tup, x_lst, x_call, x_callS, x_asg, x_gname, x_gtup, x_gnil, x_gcons, x_gsub, x_setL, x_aug, x_ipI, x_ipC, x_bits, x_getL, x_augS, x_and, x_or, x_not, x_k, x_andV, x_orV, x_notV, x_ife, x_chain, x_for, x_ilist, x_itup, x_ienum, x_irng1, x_irng2, x_irev, x_lc, x_yes, wipe_nil, wipe_cons, List.map_cons, List.map_nil, x_misc, x_misc2, x_rz, lookup_at, Bool.not_true, Bool.not_false, decide_true, decide_false, not_true, not_false_eq_true, and_assoc, exists_and_left, exists_eq_left', exists_eq_left, exists_eq', exists_eq_right', exists_eq_right, V.int.injEq, V.ref.injEq, V.bl.injEq, V.str.injEq, List.cons.injEq, and_true, true_and, and_self, Option.some.injEq, List.cons_append, List.nil_append, List.append_nil, List.getElem?_cons_zero, List.getElem?_cons_succ, List.set_cons_zero, List.set_cons_succ, reduceCtorEq, false_and, and_false, exists_false, exists_const, or_false, false_or, scal_ii, scal_bb, scal_ss, List.length_cons, List.length_nil, Int.reduceToNat, Int.reducePow])
local macro_rules | `(tactic| k_call_by "xs" $h:term) => `(tactic| simp only [$h:term, x_next, x_seq, x_brk, x_cont, x_drop, x_ret, x_retN, x_if, sel_t, sel_f, selE_t, selE_f, selT_t, selT_f, selC_t, selC_f, x_test, x_tB, x_op, x_un, x_var, x_c, x_cb, x_nil, x_cons, x_rI, x_rI0, x_rU, x_rEq, x_rNe, x_rIxL, x_rIxT, x_rSlL, x_rCat, x_rRep, x_rApp, x_bm, x_bm0, x_sl, x_nopart, x_part, x_tup, x_lst, x_call, x_callS, x_asg, x_gname, x_gtup, x_gnil, x_gcons, x_gsub, x_setL, x_aug, x_ipI, x_ipC, x_bits, x_getL, x_augS, x_and, x_or, x_not, x_k, x_andV, x_orV, x_notV, x_ife, x_chain, x_for, x_ilist, x_itup, x_ienum, x_irng1, x_irng2, x_irev, x_lc, x_yes, wipe_nil, wipe_cons, List.map_cons, List.map_nil, x_misc, x_misc2, x_rz, lookup_at, Bool.not_true, Bool.not_false, decide_true, decide_false, not_true, not_false_eq_true, and_assoc, exists_and_left, exists_eq_left', exists_eq_left, exists_eq', exists_eq_right', exists_eq_right, V.int.injEq, V.ref.injEq, V.bl.injEq, V.str.injEq, List.cons.injEq, and_true, true_and, and_self, Option.some.injEq, List.cons_append, List.nil_append, List.append_nil, List.getElem?_cons_zero, List.getElem?_cons_succ, List.set_cons_zero, List.set_cons_succ, reduceCtorEq, false_and, and_false, exists_false, exists_const, or_false, false_or, scal_ii, scal_bb, scal_ss, List.length_cons, List.length_nil, Int.reduceToNat, Int.reducePow])
local macro_rules | `(tactic| wtm_at "hp") => `(tactic| first | (with_reducible assumption) | exact upd_same | (refine upd_keep (by with_reducible assumption) ?_; wtm_at "hp") | (refine Same.get (by with_reducible assumption) ?_; wtm_at "hp") | (refine upd_other (by first | (with_reducible assumption) | exact Ne.symm (by with_reducible assumption)) ?_; wtm_at "hp"))
local macro_rules | `(tactic| wtm_at "sq") => `(tactic| first | (with_reducible assumption) | exact SqL.of (by wtm_at "hp") | exact SqT.of (by wtm_at "hp") | (refine Same.seq (same_upd (by with_reducible assumption)) ?_; wtm_at "sq") | (refine Same.seq (by with_reducible assumption) ?_; wtm_at "sq") | (refine Same.seqT (same_upd (by with_reducible assumption)) ?_; wtm_at "sq") | (refine Same.seqT (by with_reducible assumption) ?_; wtm_at "sq"))
local macro_rules | `(tactic| wtm_at "cl") => `(tactic| first | (with_reducible assumption) | omega | (exact cmul_r (by omega) (by omega)) | (exact cmul_l (by omega) (by omega)) | (exact cdiv_ok (by omega) (by omega)) | (exact cpow_ok (by decide)) | (exact ⟨by omega, by omega, by omega⟩) | decide | (exact ⟨by omega, by omega⟩) | (simp only [List.length_append, List.length_map, List.length_cons, List.length_nil, rngL_len, sizeLine_eq]; omega) | wtm_at "hp" | wtm_at "sq")
local macro_rules | `(tactic| wtm_at "pf") => `(tactic| first | (with_reducible assumption) | omega | (simp only [List.length_append, List.length_map, List.length_cons, List.length_nil, rngL_len]; omega) | (with_reducible rfl) | (with_reducible trivial) | (with_reducible decide))
local macro_rules | `(tactic| wtm_at "st") => `(tactic| first | ((with_reducible refine g_at ?_); refine at_call (by wtm_at "sq") (by omega) (by omega) (fun _ _ => ?_)) | ((with_reducible refine g_row ?_); refine row_call (by wtm_at "hp") ?_) | ((with_reducible refine g_int ?_); refine int_call ?_) | ((with_reducible refine g_isi ?_); first | (refine isi_int rfl ?_) | (refine isi_lst rfl (by wtm_at "hp") ?_) | (refine isi_tup rfl (by wtm_at "hp") ?_)) | ((with_reducible refine g_ned ?_); refine ned_f (dq_lst (by wtm_at "sq")) (dq_lst (by wtm_at "sq")) ?_) | ((with_reducible refine g_eqd ?_); refine eqd_t (dq_lst (by wtm_at "sq")) (dq_lst (by wtm_at "sq")) ?_) | ((with_reducible refine g_tyv ?_); refine and_tyv (by wtm_at "sq") ?_) | ((with_reducible refine g_asq ?_); refine and_sq (by wtm_at "sq") ?_) | ((with_reducible refine g_lst ?_); refine ex_lst (by wtm_at "hp") ?_) | ((with_reducible refine g_or ?_); first | (refine ex_or (by wtm_at "sq") ?_) | (refine ex_ort (by wtm_at "sq") ?_)) | ((with_reducible refine g_sq ?_); refine ex_sq (by wtm_at "sq") ?_) | ((with_reducible refine g_sqt ?_); refine ex_sqt (by wtm_at "sq") ?_) | ((with_reducible refine gd_sel ?_); first | (refine sel_p (by wtm_at "pf") ?_) | (refine sel_n (by wtm_at "pf") ?_)) | ((with_reducible refine gn_sel ?_); first | (refine selN_p (by wtm_at "pf") ?_) | (refine selN_n (by wtm_at "pf") ?_)) | ((with_reducible refine gd_selT ?_); first | (refine selT_p (by wtm_at "pf") ?_) | (refine selT_n (by wtm_at "pf") ?_)) | ((with_reducible refine gn_selT ?_); first | (refine selTN_p (by wtm_at "pf") ?_) | (refine selTN_n (by wtm_at "pf") ?_)) | ((with_reducible refine gd_selE ?_); first | (refine selE_p (by wtm_at "pf") ?_) | (refine selE_n (by wtm_at "pf") ?_)) | ((with_reducible refine gn_selE ?_); first | (refine selEN_p (by wtm_at "pf") ?_) | (refine selEN_n (by wtm_at "pf") ?_)) | ((with_reducible refine g_xf ?_); refine xf_at rfl (by wtm_at "hp") ?_) | ((with_reducible refine g_atI ?_); refine ex_at (by first | exact rfl | exact atI_int (by omega) (by wtm_at "pf")) ?_) | ((with_reducible refine g_and ?_); refine And.intro (by wtm_at "cl") ?_) | ((with_reducible refine g_new ?_); intro _ _))
local macro_rules | `(tactic| wtm_at "go") => `(tactic| repeat (first | wtm_at "xs" | wtm_at "st"))
local macro_rules | `(tactic| wtm_at "xo") => `(tactic| simp only [x_next, x_seq, x_brk, x_cont, x_drop, x_ret, x_retN, x_if, sel_t, sel_f, selE_t, selE_f, selT_t, selT_f, selC_t, selC_f, x_test, x_tB, x_op, x_un, x_var, x_c, x_cb, x_nil, x_cons, x_rI, x_rI0, x_rU, x_rEq, x_rNe, x_rIxL, x_rIxT, n_rSlL, n_rCat, n_rRep, n_rApp, x_bm, x_bm0, x_sl, x_nopart, x_part, n_tup, n_lst, x_call, x_callS, x_asg, x_gname, x_gtup, x_gnil, x_gcons, x_gsub, n_setL, x_aug, x_ipI, x_ipC, x_bits, x_getL, x_augS, x_and, x_or, x_not, x_k, x_andV, x_orV, x_notV, x_ife, x_chain, x_for, x_ilist, x_itup, x_ienum, x_irng1, x_irng2, x_irev, x_lc, x_yes, wipe_nil, wipe_cons, List.map_cons, List.map_nil, x_misc, x_misc2, x_rz, lookup_at, Bool.not_true, Bool.not_false, decide_true, decide_false, not_true, not_false_eq_true, and_assoc, exists_and_left, exists_eq_left', exists_eq_left, exists_eq', exists_eq_right', exists_eq_right, V.int.injEq, V.ref.injEq, V.bl.injEq, V.str.injEq, List.cons.injEq, and_true, true_and, and_self, Option.some.injEq, List.cons_append, List.nil_append, List.append_nil, List.getElem?_cons_zero, List.getElem?_cons_succ, List.set_cons_zero, List.set_cons_succ, reduceCtorEq, false_and, and_false, exists_false, exists_const, or_false, false_or, scal_ii, scal_bb, scal_ss, List.length_cons, List.length_nil, Int.reduceToNat, Int.reducePow, n_rLs, t_s1, t_i1, t_i2, t_i3, t_i4, t_i5, x_chain3, x_irng3, x_irevR, x_rg1, x_rg2, ints_cat, ints_app1, ints_len, ints_take, ints_drop, rep_one])
local macro_rules | `(tactic| k_call_by "xo" $h:term) => `(tactic| simp only [$h:term, x_next, x_seq, x_brk, x_cont, x_drop, x_ret, x_retN, x_if, sel_t, sel_f, selE_t, selE_f, selT_t, selT_f, selC_t, selC_f, x_test, x_tB, x_op, x_un, x_var, x_c, x_cb, x_nil, x_cons, x_rI, x_rI0, x_rU, x_rEq, x_rNe, x_rIxL, x_rIxT, n_rSlL, n_rCat, n_rRep, n_rApp, x_bm, x_bm0, x_sl, x_nopart, x_part, n_tup, n_lst, x_call, x_callS, x_asg, x_gname, x_gtup, x_gnil, x_gcons, x_gsub, n_setL, x_aug, x_ipI, x_ipC, x_bits, x_getL, x_augS, x_and, x_or, x_not, x_k, x_andV, x_orV, x_notV, x_ife, x_chain, x_for, x_ilist, x_itup, x_ienum, x_irng1, x_irng2, x_irev, x_lc, x_yes, wipe_nil, wipe_cons, List.map_cons, List.map_nil, x_misc, x_misc2, x_rz, lookup_at, Bool.not_true, Bool.not_false, decide_true, decide_false, not_true, not_false_eq_true, and_assoc, exists_and_left, exists_eq_left', exists_eq_left, exists_eq', exists_eq_right', exists_eq_right, V.int.injEq, V.ref.injEq, V.bl.injEq, V.str.injEq, List.cons.injEq, and_true, true_and, and_self, Option.some.injEq, List.cons_append, List.nil_append, List.append_nil, List.getElem?_cons_zero, List.getElem?_cons_succ, List.set_cons_zero, List.set_cons_succ, reduceCtorEq, false_and, and_false, exists_false, exists_const, or_false, false_or, scal_ii, scal_bb, scal_ss, List.length_cons, List.length_nil, Int.reduceToNat, Int.reducePow, n_rLs, t_s1, t_i1, t_i2, t_i3, t_i4, t_i5, x_chain3, x_irng3, x_irevR, x_rg1, x_rg2, ints_cat, ints_app1, ints_len, ints_take, ints_drop, rep_one])
local macro_rules | `(tactic| wtm_at "mem") => `(tactic| first | (with_reducible exact mem_here) | (with_reducible refine mem_there ?_; wtm_at "mem"))
local macro_rules | `(tactic| wtm_at "pp") => `(tactic| first | (with_reducible exact Put.here) | (with_reducible apply Put.there; wtm_at "pp"))
local macro_rules | `(tactic| wtm_at "ho") => `(tactic| first | (with_reducible assumption) | exact Own.get (by with_reducible assumption) (by wtm_at "mem") | exact Own.base (by with_reducible assumption) (by with_reducible assumption))
local macro_rules | `(tactic| wtm_at "qo") => `(tactic| first | (with_reducible assumption) | exact SqL.of (by wtm_at "ho") | exact sqT_tupI (by wtm_at "ho") | exact sqT_tupS (by wtm_at "ho") | exact SqT.of (by wtm_at "ho") | exact Own.imT (by with_reducible assumption) (by wtm_at "mem") | exact Own.sq (by with_reducible assumption) (by with_reducible assumption) | exact Own.sqT (by with_reducible assumption) (by with_reducible assumption))
local macro_rules | `(tactic| wtm_at "sub") => `(tactic| first | exact List.nil_sublist _ | (with_reducible refine List.Sublist.cons_cons _ ?_; wtm_at "sub") | (refine List.Sublist.cons _ ?_; wtm_at "sub"))
local macro_rules | `(tactic| wtm_at "co") => `(tactic| first | (with_reducible assumption) | omega | (exact cmul_r (by omega) (by omega)) | (exact cmul_l (by omega) (by omega)) | (exact cdiv_ok (by omega) (by omega)) | (exact cpow_ok (by decide)) | (exact ⟨by omega, by omega, by omega⟩) | decide | (exact ⟨by omega, by omega⟩) | (simp only [List.length_append, List.length_map, List.length_cons, List.length_nil, rngL_len, sizeLine_eq]; omega) | wtm_at "ho" | wtm_at "qo")
local macro_rules | `(tactic| wtm_at "so") => `(tactic| first | ((with_reducible refine g_sum ?_); refine sum_call (by wtm_at "qo") ?_) | ((with_reducible refine g_cq ?_); exact cq (by with_reducible assumption) (by simp only [rngL_len, List.length_map, List.length_take]; omega)) | ((with_reducible refine g_newO ?_); refine newO (by with_reducible assumption) (fun _ _ _ => ?_)) | ((with_reducible refine g_appO ?_); refine appI (by with_reducible assumption) (by wtm_at "pp") (by wtm_at "co") (fun _ _ => ?_)) | ((with_reducible refine g_setO ?_); refine setI (by with_reducible assumption) (by wtm_at "pp") (by omega) (by wtm_at "co") (fun _ _ => ?_)) | ((with_reducible refine g_appO ?_); refine appO (by with_reducible assumption) (by wtm_at "pp") (by wtm_at "co") (fun _ _ => ?_)) | ((with_reducible refine g_setO ?_); refine setO (by with_reducible assumption) (by wtm_at "pp") (by omega) (by wtm_at "co") (fun _ _ => ?_)) | ((with_reducible refine g_at ?_); refine at_call (by wtm_at "qo") (by omega) (by omega) (fun _ _ => ?_)) | ((with_reducible refine g_row ?_); refine row_call (by wtm_at "ho") ?_) | ((with_reducible refine g_int ?_); refine int_call ?_) | ((with_reducible refine g_isi ?_); first | (refine isi_int rfl ?_) | (refine isi_sqL rfl (by wtm_at "qo") ?_) | (refine isi_sqT rfl (by wtm_at "qo") ?_) | (refine isi_bl rfl ?_) | (refine isi_non rfl ?_) | (refine isi_str rfl ?_)) | ((with_reducible refine g_ned ?_); first | (refine ned_f (dq_lst (by wtm_at "qo")) (dq_lst (by wtm_at "qo")) ?_) | (refine ned_ints (by wtm_at "qo") (by wtm_at "qo") ?_) | (refine nedT_ints (by wtm_at "qo") (by wtm_at "qo") ?_)) | ((with_reducible refine g_eqd ?_); first | (refine eqd_t (dq_lst (by wtm_at "qo")) (dq_lst (by wtm_at "qo")) ?_) | (refine eqd_ints (by wtm_at "qo") (by wtm_at "qo") ?_) | (refine eqdT_ints (by wtm_at "qo") (by wtm_at "qo") ?_)) | ((with_reducible refine g_tyv ?_); refine and_tyv (by wtm_at "qo") ?_) | ((with_reducible refine g_asq ?_); refine and_sq (by wtm_at "qo") ?_) | ((with_reducible refine g_lst ?_); refine ex_lst (by wtm_at "ho") ?_) | ((with_reducible refine g_or ?_); first | (refine ex_or (by wtm_at "qo") ?_) | (refine ex_ort (by wtm_at "qo") ?_)) | ((with_reducible refine g_sq ?_); refine ex_sq (by wtm_at "qo") ?_) | ((with_reducible refine g_sqt ?_); refine ex_sqt (by wtm_at "qo") ?_) | ((with_reducible refine gd_sel ?_); first | (refine sel_p (by wtm_at "pf") ?_) | (refine sel_n (by wtm_at "pf") ?_)) | ((with_reducible refine gn_sel ?_); first | (refine selN_p (by wtm_at "pf") ?_) | (refine selN_n (by wtm_at "pf") ?_)) | ((with_reducible refine gd_selT ?_); first | (refine selT_p (by wtm_at "pf") ?_) | (refine selT_n (by wtm_at "pf") ?_)) | ((with_reducible refine gn_selT ?_); first | (refine selTN_p (by wtm_at "pf") ?_) | (refine selTN_n (by wtm_at "pf") ?_)) | ((with_reducible refine gd_selE ?_); first | (refine selE_p (by wtm_at "pf") ?_) | (refine selE_n (by wtm_at "pf") ?_)) | ((with_reducible refine gn_selE ?_); first | (refine selEN_p (by wtm_at "pf") ?_) | (refine selEN_n (by wtm_at "pf") ?_)) | ((with_reducible refine g_xf ?_); refine xf_at rfl (by wtm_at "ho") ?_) | ((with_reducible refine g_atI ?_); refine ex_at (by first | exact rfl | exact atI_int (by omega) (by wtm_at "pf")) ?_) | ((with_reducible refine g_and ?_); refine And.intro (by wtm_at "co") ?_))
local macro_rules | `(tactic| wtm_at "oo") => `(tactic| repeat (first | wtm_at "xo" | wtm_at "so"))
local macro_rules | `(tactic| wtm_at "cR") => `(tactic| (refine' compRi _ (by with_reducible assumption) (by omega) (fun _ _ _ _ _ => ?_) (fun _ _ _ => ?_); rotate_left; focus (wtm_at "oo")))
section
variable {P : Program} {w : World} {K : PySem.W.Frag} {mg : Str → Option Value} {base : Heap}
def sp__is_crc (K : PySem.W.Frag) : Sp := fun vs H Q _ => ∃ (n : Int), vs = [.int n] ∧ ∀ b : Bool, (b = true ↔ 0 ≤ n ∧ n < 2 ^ 32) → Q (.bl b) H
theorem ok__is_crc (T : Tx K mg) : Cl P w K mg base 1 "_is_crc" ["number"] (sp__is_crc K) [] := by
  obtain ⟨gm, fd, F⟩ := T.d__is_crc
  refine ⟨_, fd, [], F.ok sc__is_crc (fun vs H Q E h => ?_) (fun cdv A outer s H vs Q E hr h => ⟨_, (PSs.nox (pss_one (ps_ret (by exact (pe_chain op_le op_le pe_int (pv 0) (pe_gc rfl T.c__ALL_BITS)))))), ?_⟩), gm, F.kp, F.bindsN (fun _ _ _ _ _ _ us hl => match us, hl with | [_], _ => rfl), .nil⟩
  · first | (obtain ⟨rfl, _⟩ := h; rfl) | (obtain ⟨_, rfl, _⟩ := h; rfl) | (obtain ⟨_, _, rfl, _⟩ := h; rfl) | (obtain ⟨_, _, _, rfl, _⟩ := h; rfl) | (obtain ⟨_, _, _, _, rfl, _⟩ := h; rfl) | (obtain ⟨_, _, _, _, _, rfl, _⟩ := h; rfl) | (obtain ⟨_, _, _, _, _, _, rfl, _⟩ := h; rfl) | (obtain ⟨_, _, _, _, _, _, _, rfl, _⟩ := h; rfl) | (obtain ⟨_, _, _, _, _, _, _, _, rfl, _⟩ := h; rfl) | (obtain ⟨_, _, _, _, _, _, _, _, _, rfl, _⟩ := h; rfl) | (obtain ⟨_, _, _, _, _, _, _, _, _, _, rfl, _⟩ := h; rfl) | (obtain ⟨_, _, _, _, _, _, _, _, _, _, _, rfl, _⟩ := h; rfl) | (obtain ⟨_, _, _, _, _, _, _, _, _, _, _, _, rfl, _⟩ := h; rfl) | (obtain ⟨_, _, _, _, _, _, _, _, _, _, _, _, _, rfl, _⟩ := h; rfl) | (obtain ⟨_, _, _, _, _, _, _, _, _, _, _, _, _, _, rfl, _⟩ := h; rfl) | (obtain ⟨_, _, _, _, _, _, _, _, _, _, _, _, _, _, _, rfl, _⟩ := h; rfl) | (obtain ⟨_, _, _, _, _, _, _, _, _, _, _, _, _, _, _, _, rfl, _⟩ := h; rfl) | (obtain ⟨_, _, _, _, _, _, _, _, _, _, _, _, _, _, _, _, _, rfl, _⟩ := h; rfl) | (obtain ⟨_, _, _, _, _, _, _, _, _, _, _, _, _, _, _, _, _, _, rfl, _⟩ := h; rfl) | (obtain ⟨_, _, _, _, _, _, _, _, _, _, _, _, _, _, _, _, _, _, _, rfl, _⟩ := h; rfl) | (obtain ⟨_, _, _, _, _, _, _, _, _, _, _, _, _, _, _, _, _, _, _, _, rfl, _⟩ := h; rfl) | (obtain ⟨_, _, _, _, _, _, _, _, _, _, _, _, _, _, _, _, _, _, _, _, _, rfl, _⟩ := h; rfl)
  · obtain ⟨n, rfl, q⟩ := h
    k_call_by "xs" st__is_crc
    refine selE_d (fun c => ?_) (fun c => ?_)
    · wtm_at "go"
      exact q _ (by simp; omega)
    · wtm_at "go"
      exact q _ (by simp; omega)


end
end K05

namespace K05
open PySem PySem.Spec PyProof.Rows L2 Bel
local macro_rules | `(tactic| wtm_at "xs") => `(tactic| simp only [x_next, x_seq, x_brk, x_cont, x_drop, x_ret, x_retN, x_if, sel_t, sel_f, selE_t, selE_f, selT_t, selT_f, selC_t, selC_f, x_test, x_tB, x_op, x_un, x_var, x_c, x_cb, x_nil, x_cons, x_rI, x_rI0, x_rU, x_rEq, x_rNe, x_rIxL, x_rIxT, x_rSlL, x_rCat, x_rRep, x_rApp, x_bm, x_bm0, x_sl, x_nopart, x_part, x_tup, x_lst, x_call, x_callS, x_asg, x_gname, x_gtup, x_gnil, x_gcons, x_gsub, x_setL, x_aug, x_ipI, x_ipC, x_bits, x_getL, x_augS, x_and, x_or, x_not, x_k, x_andV, x_orV, x_notV, x_ife, x_chain, x_for, x_ilist, x_itup, x_ienum, x_irng1, x_irng2, x_irev, x_lc, x_yes, wipe_nil, wipe_cons, List.map_cons, List.map_nil, x_misc, x_misc2, x_rz, lookup_at, Bool.not_true, Bool.not_false, decide_true, decide_false, not_true, not_false_eq_true, and_assoc, exists_and_left, exists_eq_left', exists_eq_left, exists_eq', exists_eq_right', exists_eq_right, V.int.injEq, V.ref.injEq, V.bl.injEq, V.str.injEq, List.cons.injEq, and_true, true_and, and_self, Option.some.injEq, List.cons_append, List.nil_append, List.append_nil, List.getElem?_cons_zero, List.getElem?_cons_succ, List.set_cons_zero, List.set_cons_succ, reduceCtorEq, false_and, and_false, exists_false, exists_const, or_false, false_or, scal_ii, scal_bb, scal_ss, List.length_cons, List.length_nil, Int.reduceToNat, Int.reducePow])
local macro_rules | `(tactic| k_call_by "xs" $h:term) => `(tactic| simp only [$h:term, x_next, x_seq, x_brk, x_cont, x_drop, x_ret, x_retN, x_if, sel_t, sel_f, selE_t, selE_f, selT_t, selT_f, selC_t, selC_f, x_test, x_tB, x_op, x_un, x_var, x_c, x_cb, x_nil, x_cons, x_rI, x_rI0, x_rU, x_rEq, x_rNe, x_rIxL, x_rIxT, x_rSlL, x_rCat, x_rRep, x_rApp, x_bm, x_bm0, x_sl, x_nopart, x_part, x_tup, x_lst, x_call, x_callS, x_asg, x_gname, x_gtup, x_gnil, x_gcons, x_gsub, x_setL, x_aug, x_ipI, x_ipC, x_bits, x_getL, x_augS, x_and, x_or, x_not, x_k, x_andV, x_orV, x_notV, x_ife, x_chain, x_for, x_ilist, x_itup, x_ienum, x_irng1, x_irng2, x_irev, x_lc, x_yes, wipe_nil, wipe_cons, List.map_cons, List.map_nil, x_misc, x_misc2, x_rz, lookup_at, Bool.not_true, Bool.not_false, decide_true, decide_false, not_true, not_false_eq_true, and_assoc, exists_and_left, exists_eq_left', exists_eq_left, exists_eq', exists_eq_right', exists_eq_right, V.int.injEq, V.ref.injEq, V.bl.injEq, V.str.injEq, List.cons.injEq, and_true, true_and, and_self, Option.some.injEq, List.cons_append, List.nil_append, List.append_nil, List.getElem?_cons_zero, List.getElem?_cons_succ, List.set_cons_zero, List.set_cons_succ, reduceCtorEq, false_and, and_false, exists_false, exists_const, or_false, false_or, scal_ii, scal_bb, scal_ss, List.length_cons, List.length_nil, Int.reduceToNat, Int.reducePow])
local macro_rules | `(tactic| wtm_at "hp") => `(tactic| first | (with_reducible assumption) | exact upd_same | (refine upd_keep (by with_reducible assumption) ?_; wtm_at "hp") | (refine Same.get (by with_reducible assumption) ?_; wtm_at "hp") | (refine upd_other (by first | (with_reducible assumption) | exact Ne.symm (by with_reducible assumption)) ?_; wtm_at "hp"))
local macro_rules | `(tactic| wtm_at "sq") => `(tactic| first | (with_reducible assumption) | exact SqL.of (by wtm_at "hp") | exact SqT.of (by wtm_at "hp") | (refine Same.seq (same_upd (by with_reducible assumption)) ?_; wtm_at "sq") | (refine Same.seq (by with_reducible assumption) ?_; wtm_at "sq") | (refine Same.seqT (same_upd (by with_reducible assumption)) ?_; wtm_at "sq") | (refine Same.seqT (by with_reducible assumption) ?_; wtm_at "sq"))
local macro_rules | `(tactic| wtm_at "cl") => `(tactic| first | (with_reducible assumption) | omega | (exact cmul_r (by omega) (by omega)) | (exact cmul_l (by omega) (by omega)) | (exact cdiv_ok (by omega) (by omega)) | (exact cpow_ok (by decide)) | (exact ⟨by omega, by omega, by omega⟩) | decide | (exact ⟨by omega, by omega⟩) | (simp only [List.length_append, List.length_map, List.length_cons, List.length_nil, rngL_len, sizeLine_eq]; omega) | wtm_at "hp" | wtm_at "sq")
local macro_rules | `(tactic| wtm_at "pf") => `(tactic| first | (with_reducible assumption) | omega | (simp only [List.length_append, List.length_map, List.length_cons, List.length_nil, rngL_len]; omega) | (with_reducible rfl) | (with_reducible trivial) | (with_reducible decide))
local macro_rules | `(tactic| wtm_at "st") => `(tactic| first | ((with_reducible refine g_at ?_); refine at_call (by wtm_at "sq") (by omega) (by omega) (fun _ _ => ?_)) | ((with_reducible refine g_row ?_); refine row_call (by wtm_at "hp") ?_) | ((with_reducible refine g_int ?_); refine int_call ?_) | ((with_reducible refine g_isi ?_); first | (refine isi_int rfl ?_) | (refine isi_lst rfl (by wtm_at "hp") ?_) | (refine isi_tup rfl (by wtm_at "hp") ?_)) | ((with_reducible refine g_ned ?_); refine ned_f (dq_lst (by wtm_at "sq")) (dq_lst (by wtm_at "sq")) ?_) | ((with_reducible refine g_eqd ?_); refine eqd_t (dq_lst (by wtm_at "sq")) (dq_lst (by wtm_at "sq")) ?_) | ((with_reducible refine g_tyv ?_); refine and_tyv (by wtm_at "sq") ?_) | ((with_reducible refine g_asq ?_); refine and_sq (by wtm_at "sq") ?_) | ((with_reducible refine g_lst ?_); refine ex_lst (by wtm_at "hp") ?_) | ((with_reducible refine g_or ?_); first | (refine ex_or (by wtm_at "sq") ?_) | (refine ex_ort (by wtm_at "sq") ?_)) | ((with_reducible refine g_sq ?_); refine ex_sq (by wtm_at "sq") ?_) | ((with_reducible refine g_sqt ?_); refine ex_sqt (by wtm_at "sq") ?_) | ((with_reducible refine gd_sel ?_); first | (refine sel_p (by wtm_at "pf") ?_) | (refine sel_n (by wtm_at "pf") ?_)) | ((with_reducible refine gn_sel ?_); first | (refine selN_p (by wtm_at "pf") ?_) | (refine selN_n (by wtm_at "pf") ?_)) | ((with_reducible refine gd_selT ?_); first | (refine selT_p (by wtm_at "pf") ?_) | (refine selT_n (by wtm_at "pf") ?_)) | ((with_reducible refine gn_selT ?_); first | (refine selTN_p (by wtm_at "pf") ?_) | (refine selTN_n (by wtm_at "pf") ?_)) | ((with_reducible refine gd_selE ?_); first | (refine selE_p (by wtm_at "pf") ?_) | (refine selE_n (by wtm_at "pf") ?_)) | ((with_reducible refine gn_selE ?_); first | (refine selEN_p (by wtm_at "pf") ?_) | (refine selEN_n (by wtm_at "pf") ?_)) | ((with_reducible refine g_xf ?_); refine xf_at rfl (by wtm_at "hp") ?_) | ((with_reducible refine g_atI ?_); refine ex_at (by first | exact rfl | exact atI_int (by omega) (by wtm_at "pf")) ?_) | ((with_reducible refine g_and ?_); refine And.intro (by wtm_at "cl") ?_) | ((with_reducible refine g_new ?_); intro _ _))
local macro_rules | `(tactic| wtm_at "go") => `(tactic| repeat (first | wtm_at "xs" | wtm_at "st"))
local macro_rules | `(tactic| wtm_at "xo") => `(tactic| simp only [x_next, x_seq, x_brk, x_cont, x_drop, x_ret, x_retN, x_if, sel_t, sel_f, selE_t, selE_f, selT_t, selT_f, selC_t, selC_f, x_test, x_tB, x_op, x_un, x_var, x_c, x_cb, x_nil, x_cons, x_rI, x_rI0, x_rU, x_rEq, x_rNe, x_rIxL, x_rIxT, n_rSlL, n_rCat, n_rRep, n_rApp, x_bm, x_bm0, x_sl, x_nopart, x_part, n_tup, n_lst, x_call, x_callS, x_asg, x_gname, x_gtup, x_gnil, x_gcons, x_gsub, n_setL, x_aug, x_ipI, x_ipC, x_bits, x_getL, x_augS, x_and, x_or, x_not, x_k, x_andV, x_orV, x_notV, x_ife, x_chain, x_for, x_ilist, x_itup, x_ienum, x_irng1, x_irng2, x_irev, x_lc, x_yes, wipe_nil, wipe_cons, List.map_cons, List.map_nil, x_misc, x_misc2, x_rz, lookup_at, Bool.not_true, Bool.not_false, decide_true, decide_false, not_true, not_false_eq_true, and_assoc, exists_and_left, exists_eq_left', exists_eq_left, exists_eq', exists_eq_right', exists_eq_right, V.int.injEq, V.ref.injEq, V.bl.injEq, V.str.injEq, List.cons.injEq, and_true, true_and, and_self, Option.some.injEq, List.cons_append, List.nil_append, List.append_nil, List.getElem?_cons_zero, List.getElem?_cons_succ, List.set_cons_zero, List.set_cons_succ, reduceCtorEq, false_and, and_false, exists_false, exists_const, or_false, false_or, scal_ii, scal_bb, scal_ss, List.length_cons, List.length_nil, Int.reduceToNat, Int.reducePow, n_rLs, t_s1, t_i1, t_i2, t_i3, t_i4, t_i5, x_chain3, x_irng3, x_irevR, x_rg1, x_rg2, ints_cat, ints_app1, ints_len, ints_take, ints_drop, rep_one])
local macro_rules | `(tactic| k_call_by "xo" $h:term) => `(tactic| simp only [$h:term, x_next, x_seq, x_brk, x_cont, x_drop, x_ret, x_retN, x_if, sel_t, sel_f, selE_t, selE_f, selT_t, selT_f, selC_t, selC_f, x_test, x_tB, x_op, x_un, x_var, x_c, x_cb, x_nil, x_cons, x_rI, x_rI0, x_rU, x_rEq, x_rNe, x_rIxL, x_rIxT, n_rSlL, n_rCat, n_rRep, n_rApp, x_bm, x_bm0, x_sl, x_nopart, x_part, n_tup, n_lst, x_call, x_callS, x_asg, x_gname, x_gtup, x_gnil, x_gcons, x_gsub, n_setL, x_aug, x_ipI, x_ipC, x_bits, x_getL, x_augS, x_and, x_or, x_not, x_k, x_andV, x_orV, x_notV, x_ife, x_chain, x_for, x_ilist, x_itup, x_ienum, x_irng1, x_irng2, x_irev, x_lc, x_yes, wipe_nil, wipe_cons, List.map_cons, List.map_nil, x_misc, x_misc2, x_rz, lookup_at, Bool.not_true, Bool.not_false, decide_true, decide_false, not_true, not_false_eq_true, and_assoc, exists_and_left, exists_eq_left', exists_eq_left, exists_eq', exists_eq_right', exists_eq_right, V.int.injEq, V.ref.injEq, V.bl.injEq, V.str.injEq, List.cons.injEq, and_true, true_and, and_self, Option.some.injEq, List.cons_append, List.nil_append, List.append_nil, List.getElem?_cons_zero, List.getElem?_cons_succ, List.set_cons_zero, List.set_cons_succ, reduceCtorEq, false_and, and_false, exists_false, exists_const, or_false, false_or, scal_ii, scal_bb, scal_ss, List.length_cons, List.length_nil, Int.reduceToNat, Int.reducePow, n_rLs, t_s1, t_i1, t_i2, t_i3, t_i4, t_i5, x_chain3, x_irng3, x_irevR, x_rg1, x_rg2, ints_cat, ints_app1, ints_len, ints_take, ints_drop, rep_one])
local macro_rules | `(tactic| wtm_at "mem") => `(tactic| first | (with_reducible exact mem_here) | (with_reducible refine mem_there ?_; wtm_at "mem"))
local macro_rules | `(tactic| wtm_at "pp") => `(tactic| first | (with_reducible exact Put.here) | (with_reducible apply Put.there; wtm_at "pp"))
local macro_rules | `(tactic| wtm_at "ho") => `(tactic| first | (with_reducible assumption) | exact Own.get (by with_reducible assumption) (by wtm_at "mem") | exact Own.base (by with_reducible assumption) (by with_reducible assumption))
local macro_rules | `(tactic| wtm_at "qo") => `(tactic| first | (with_reducible assumption) | exact SqL.of (by wtm_at "ho") | exact sqT_tupI (by wtm_at "ho") | exact sqT_tupS (by wtm_at "ho") | exact SqT.of (by wtm_at "ho") | exact Own.imT (by with_reducible assumption) (by wtm_at "mem") | exact Own.sq (by with_reducible assumption) (by with_reducible assumption) | exact Own.sqT (by with_reducible assumption) (by with_reducible assumption))
local macro_rules | `(tactic| wtm_at "sub") => `(tactic| first | exact List.nil_sublist _ | (with_reducible refine List.Sublist.cons_cons _ ?_; wtm_at "sub") | (refine List.Sublist.cons _ ?_; wtm_at "sub"))
local macro_rules | `(tactic| wtm_at "co") => `(tactic| first | (with_reducible assumption) | omega | (exact cmul_r (by omega) (by omega)) | (exact cmul_l (by omega) (by omega)) | (exact cdiv_ok (by omega) (by omega)) | (exact cpow_ok (by decide)) | (exact ⟨by omega, by omega, by omega⟩) | decide | (exact ⟨by omega, by omega⟩) | (simp only [List.length_append, List.length_map, List.length_cons, List.length_nil, rngL_len, sizeLine_eq]; omega) | wtm_at "ho" | wtm_at "qo")
local macro_rules | `(tactic| wtm_at "so") => `(tactic| first | ((with_reducible refine g_sum ?_); refine sum_call (by wtm_at "qo") ?_) | ((with_reducible refine g_cq ?_); exact cq (by with_reducible assumption) (by simp only [rngL_len, List.length_map, List.length_take]; omega)) | ((with_reducible refine g_newO ?_); refine newO (by with_reducible assumption) (fun _ _ _ => ?_)) | ((with_reducible refine g_appO ?_); refine appI (by with_reducible assumption) (by wtm_at "pp") (by wtm_at "co") (fun _ _ => ?_)) | ((with_reducible refine g_setO ?_); refine setI (by with_reducible assumption) (by wtm_at "pp") (by omega) (by wtm_at "co") (fun _ _ => ?_)) | ((with_reducible refine g_appO ?_); refine appO (by with_reducible assumption) (by wtm_at "pp") (by wtm_at "co") (fun _ _ => ?_)) | ((with_reducible refine g_setO ?_); refine setO (by with_reducible assumption) (by wtm_at "pp") (by omega) (by wtm_at "co") (fun _ _ => ?_)) | ((with_reducible refine g_at ?_); refine at_call (by wtm_at "qo") (by omega) (by omega) (fun _ _ => ?_)) | ((with_reducible refine g_row ?_); refine row_call (by wtm_at "ho") ?_) | ((with_reducible refine g_int ?_); refine int_call ?_) | ((with_reducible refine g_isi ?_); first | (refine isi_int rfl ?_) | (refine isi_sqL rfl (by wtm_at "qo") ?_) | (refine isi_sqT rfl (by wtm_at "qo") ?_) | (refine isi_bl rfl ?_) | (refine isi_non rfl ?_) | (refine isi_str rfl ?_)) | ((with_reducible refine g_ned ?_); first | (refine ned_f (dq_lst (by wtm_at "qo")) (dq_lst (by wtm_at "qo")) ?_) | (refine ned_ints (by wtm_at "qo") (by wtm_at "qo") ?_) | (refine nedT_ints (by wtm_at "qo") (by wtm_at "qo") ?_)) | ((with_reducible refine g_eqd ?_); first | (refine eqd_t (dq_lst (by wtm_at "qo")) (dq_lst (by wtm_at "qo")) ?_) | (refine eqd_ints (by wtm_at "qo") (by wtm_at "qo") ?_) | (refine eqdT_ints (by wtm_at "qo") (by wtm_at "qo") ?_)) | ((with_reducible refine g_tyv ?_); refine and_tyv (by wtm_at "qo") ?_) | ((with_reducible refine g_asq ?_); refine and_sq (by wtm_at "qo") ?_) | ((with_reducible refine g_lst ?_); refine ex_lst (by wtm_at "ho") ?_) | ((with_reducible refine g_or ?_); first | (refine ex_or (by wtm_at "qo") ?_) | (refine ex_ort (by wtm_at "qo") ?_)) | ((with_reducible refine g_sq ?_); refine ex_sq (by wtm_at "qo") ?_) | ((with_reducible refine g_sqt ?_); refine ex_sqt (by wtm_at "qo") ?_) | ((with_reducible refine gd_sel ?_); first | (refine sel_p (by wtm_at "pf") ?_) | (refine sel_n (by wtm_at "pf") ?_)) | ((with_reducible refine gn_sel ?_); first | (refine selN_p (by wtm_at "pf") ?_) | (refine selN_n (by wtm_at "pf") ?_)) | ((with_reducible refine gd_selT ?_); first | (refine selT_p (by wtm_at "pf") ?_) | (refine selT_n (by wtm_at "pf") ?_)) | ((with_reducible refine gn_selT ?_); first | (refine selTN_p (by wtm_at "pf") ?_) | (refine selTN_n (by wtm_at "pf") ?_)) | ((with_reducible refine gd_selE ?_); first | (refine selE_p (by wtm_at "pf") ?_) | (refine selE_n (by wtm_at "pf") ?_)) | ((with_reducible refine gn_selE ?_); first | (refine selEN_p (by wtm_at "pf") ?_) | (refine selEN_n (by wtm_at "pf") ?_)) | ((with_reducible refine g_xf ?_); refine xf_at rfl (by wtm_at "ho") ?_) | ((with_reducible refine g_atI ?_); refine ex_at (by first | exact rfl | exact atI_int (by omega) (by wtm_at "pf")) ?_) | ((with_reducible refine g_and ?_); refine And.intro (by wtm_at "co") ?_))
local macro_rules | `(tactic| wtm_at "oo") => `(tactic| repeat (first | wtm_at "xo" | wtm_at "so"))
local macro_rules | `(tactic| wtm_at "cR") => `(tactic| (refine' compRi _ (by with_reducible assumption) (by omega) (fun _ _ _ _ _ => ?_) (fun _ _ _ => ?_); rotate_left; focus (wtm_at "oo")))
section
variable {P : Program} {w : World} {K : PySem.W.Frag} {mg : Str → Option Value} {base : Heap}
/-! ### CRC sums: the mathematics -/
def poly : Nat := 3988292384
def stepN (r : Nat) : Nat := (r >>> 1) ^^^ (if r % 2 = 1 then poly else 0)
def stepsN : Nat → Nat → Nat
  | 0, r => r
  | k + 1, r => stepsN k (stepN r)
theorem stepN_xor (a b : Nat) : stepN (a ^^^ b) = stepN a ^^^ stepN b := by
  unfold stepN
  rw [Nat.shiftRight_xor_distrib]
  have e := @Nat.xor_mod_two_eq_one a b
  by_cases ha : a % 2 = 1 <;> by_cases hb : b % 2 = 1
  · rw [if_neg (by rw [e]; simp [ha, hb]), if_pos ha, if_pos hb]
    rw [Nat.xor_zero, Nat.xor_assoc, ← Nat.xor_assoc poly, Nat.xor_comm poly, Nat.xor_assoc (b >>> 1), Nat.xor_self, Nat.xor_zero]
  · rw [if_pos (by rw [e]; simp [ha, hb]), if_pos ha, if_neg hb, Nat.xor_zero, Nat.xor_assoc, Nat.xor_assoc, Nat.xor_comm (b >>> 1)]
  · rw [if_pos (by rw [e]; simp [ha, hb]), if_neg ha, if_pos hb, Nat.xor_zero, Nat.xor_assoc]
  · rw [if_neg (by rw [e]; simp [ha, hb]), if_neg ha, if_neg hb, Nat.xor_zero, Nat.xor_zero, Nat.xor_zero]
theorem stepsN_xor : ∀ k a b, stepsN k (a ^^^ b) = stepsN k a ^^^ stepsN k b
  | 0, _, _ => rfl
  | k + 1, a, b => by
    show stepsN k (stepN (a ^^^ b)) = stepsN k (stepN a) ^^^ stepsN k (stepN b)
    rw [stepN_xor, stepsN_xor]
theorem stepN_even (y : Nat) : stepN (2 * y) = y := by
  unfold stepN
  rw [if_neg (by omega), Nat.xor_zero, Nat.shiftRight_eq_div_pow]
  omega
theorem stepsN_mul : ∀ k y, stepsN k (2 ^ k * y) = y
  | 0, y => by
    show 2 ^ 0 * y = y
    omega
  | k + 1, y => by
    show stepsN k (stepN (2 ^ (k + 1) * y)) = y
    rw [Nat.pow_succ, Nat.mul_comm (2 ^ k) 2, Nat.mul_assoc, stepN_even, stepsN_mul]
theorem split_xor (k r : Nat) : r = 2 ^ k * (r / 2 ^ k) ^^^ r % 2 ^ k := by
  apply Nat.eq_of_testBit_eq
  intro i
  rw [Nat.testBit_xor, Nat.testBit_mod_two_pow, Nat.mul_comm, Nat.testBit_mul_two_pow, Nat.testBit_div_two_pow]
  by_cases h : i < k
  · simp [h, Nat.not_le.mpr h]
  · have h2 : k ≤ i := by omega
    simp [h, h2, Nat.sub_add_cancel h2]
theorem stepsN_split (k r : Nat) : stepsN k r = (r / 2 ^ k) ^^^ stepsN k (r % 2 ^ k) := by
  conv => lhs; rw [split_xor k r]
  rw [stepsN_xor, stepsN_mul]
theorem stepN_lt {r : Nat} (h : r < 2 ^ 32) : stepN r < 2 ^ 32 := by
  unfold stepN
  refine Nat.xor_lt_two_pow (Nat.lt_of_le_of_lt (Nat.shiftRight_le r 1) h) ?_
  split <;> decide
theorem stepsN_lt : ∀ k r, r < 2 ^ 32 → stepsN k r < 2 ^ 32
  | 0, _, h => h
  | k + 1, r, h => stepsN_lt k (stepN r) (stepN_lt h)
theorem stepsN_add : ∀ j k r, stepsN (j + k) r = stepsN k (stepsN j r)
  | 0, k, r => by rw [Nat.zero_add]; rfl
  | j + 1, k, r => by
    rw [Nat.add_right_comm]
    show stepsN (j + k) (stepN r) = stepsN k (stepsN j (stepN r))
    exact stepsN_add j k (stepN r)
def byteN (s x : Nat) : Nat := stepsN 8 (s ^^^ x)
def runN (xs : List Nat) (s : Nat) : Nat := xs.foldl byteN s
def crcN (xs : List Nat) (n : Nat) : Nat := runN xs (n ^^^ 4294967295) ^^^ 4294967295
theorem byteN_lt {s x : Nat} (h : s < 2 ^ 32) (hx : x < 256) : byteN s x < 2 ^ 32 := stepsN_lt 8 _ (Nat.xor_lt_two_pow h (by omega))
theorem runN_lt : ∀ (xs : List Nat) (s : Nat), s < 2 ^ 32 → (∀ x ∈ xs, x < 256) → runN xs s < 2 ^ 32
  | [], _, h, _ => h
  | x :: r, s, h, hx => runN_lt r (byteN s x) (byteN_lt h (hx x List.mem_cons_self)) fun y hy => hx y (List.mem_cons_of_mem _ hy)
theorem crcN_lt {xs : List Nat} {n : Nat} (h : n < 2 ^ 32) (hx : ∀ x ∈ xs, x < 256) : crcN xs n < 2 ^ 32 := Nat.xor_lt_two_pow (runN_lt xs _ (Nat.xor_lt_two_pow h (by decide)) hx) (by decide)
theorem crcN_parts (xs ys : List Nat) (n : Nat) : crcN ys (crcN xs n) = crcN (xs ++ ys) n := by
  unfold crcN runN
  rw [Nat.xor_assoc, Nat.xor_self, Nat.xor_zero, List.foldl_append]
theorem runN_take {xs : List Nat} {i x s : Nat} (h : xs[i]? = some x) : runN (xs.take (i + 1)) s = byteN (runN (xs.take i) s) x := by
  have e : xs.take (i + 1) = xs.take i ++ [x] := by
    rw [List.take_add_one, h]
    rfl
  rw [e]
  unfold runN
  rw [List.foldl_append]
  rfl
/-- lists of bytes as lists of naturals -/
theorem nats_of {ns : List Int} (h : ∀ x ∈ ns, 0 ≤ x ∧ x < 256) : ∃ xs : List Nat, ns = xs.map (fun x : Nat => (x : Int)) ∧ ∀ x ∈ xs, x < 256 := by
  refine ⟨ns.map Int.toNat, ?_, ?_⟩
  · rw [List.map_map]
    conv => lhs; rw [← List.map_id ns]
    refine List.map_congr_left fun x hx => ?_
    have := h x hx
    show x = (x.toNat : Int)
    omega
  · intro x hx
    obtain ⟨y, hy, rfl⟩ := List.mem_map.mp hx
    have := h y hy
    omega


end
end K05

namespace K05
open PySem PySem.Spec PyProof.Rows L2 Bel
local macro_rules | `(tactic| wtm_at "xs") => `(tactic| simp only [x_next, x_seq, x_brk, x_cont, x_drop, x_ret, x_retN, x_if, sel_t, sel_f, selE_t, selE_f, selT_t, selT_f, selC_t, selC_f, x_test, x_tB, x_op, x_un, x_var, x_c, x_cb, x_nil, x_cons, x_rI, x_rI0, x_rU, x_rEq, x_rNe, x_rIxL, x_rIxT, x_rSlL, x_rCat, x_rRep, x_rApp, x_bm, x_bm0, x_sl, x_nopart, x_part, x_tup, x_lst, x_call, x_callS, x_asg, x_gname, x_gtup, x_gnil, x_gcons, x_gsub, x_setL, x_aug, x_ipI, x_ipC, x_bits, x_getL, x_augS, x_and, x_or, x_not, x_k, x_andV, x_orV, x_notV, x_ife, x_chain, x_for, x_ilist, x_itup, x_ienum, x_irng1, x_irng2, x_irev, x_lc, x_yes, wipe_nil, wipe_cons, List.map_cons, List.map_nil, x_misc, x_misc2, x_rz, lookup_at, Bool.not_true, Bool.not_false, decide_true, decide_false, not_true, not_false_eq_true, and_assoc, exists_and_left, exists_eq_left', exists_eq_left, exists_eq', exists_eq_right', exists_eq_right, V.int.injEq, V.ref.injEq, V.bl.injEq, V.str.injEq, List.cons.injEq, and_true, true_and, and_self, Option.some.injEq, List.cons_append, List.nil_append, List.append_nil, List.getElem?_cons_zero, List.getElem?_cons_succ, List.set_cons_zero, List.set_cons_succ, reduceCtorEq, false_and, and_false, exists_false, exists_const, or_false, false_or, scal_ii, scal_bb, scal_ss, List.length_cons, List.length_nil, Int.reduceToNat, Int.reducePow])
local macro_rules | `(tactic| k_call_by "xs" $h:term) => `(tactic| simp only [$h:term, x_next, x_seq, x_brk, x_cont, x_drop, x_ret, x_retN, x_if, sel_t, sel_f, selE_t, selE_f, selT_t, selT_f, selC_t, selC_f, x_test, x_tB, x_op, x_un, x_var, x_c, x_cb, x_nil, x_cons, x_rI, x_rI0, x_rU, x_rEq, x_rNe, x_rIxL, x_rIxT, x_rSlL, x_rCat, x_rRep, x_rApp, x_bm, x_bm0, x_sl, x_nopart, x_part, x_tup, x_lst, x_call, x_callS, x_asg, x_gname, x_gtup, x_gnil, x_gcons, x_gsub, x_setL, x_aug, x_ipI, x_ipC, x_bits, x_getL, x_augS, x_and, x_or, x_not, x_k, x_andV, x_orV, x_notV, x_ife, x_chain, x_for, x_ilist, x_itup, x_ienum, x_irng1, x_irng2, x_irev, x_lc, x_yes, wipe_nil, wipe_cons, List.map_cons, List.map_nil, x_misc, x_misc2, x_rz, lookup_at, Bool.not_true, Bool.not_false, decide_true, decide_false, not_true, not_false_eq_true, and_assoc, exists_and_left, exists_eq_left', exists_eq_left, exists_eq', exists_eq_right', exists_eq_right, V.int.injEq, V.ref.injEq, V.bl.injEq, V.str.injEq, List.cons.injEq, and_true, true_and, and_self, Option.some.injEq, List.cons_append, List.nil_append, List.append_nil, List.getElem?_cons_zero, List.getElem?_cons_succ, List.set_cons_zero, List.set_cons_succ, reduceCtorEq, false_and, and_false, exists_false, exists_const, or_false, false_or, scal_ii, scal_bb, scal_ss, List.length_cons, List.length_nil, Int.reduceToNat, Int.reducePow])
local macro_rules | `(tactic| wtm_at "hp") => `(tactic| first | (with_reducible assumption) | exact upd_same | (refine upd_keep (by with_reducible assumption) ?_; wtm_at "hp") | (refine Same.get (by with_reducible assumption) ?_; wtm_at "hp") | (refine upd_other (by first | (with_reducible assumption) | exact Ne.symm (by with_reducible assumption)) ?_; wtm_at "hp"))
local macro_rules | `(tactic| wtm_at "sq") => `(tactic| first | (with_reducible assumption) | exact SqL.of (by wtm_at "hp") | exact SqT.of (by wtm_at "hp") | (refine Same.seq (same_upd (by with_reducible assumption)) ?_; wtm_at "sq") | (refine Same.seq (by with_reducible assumption) ?_; wtm_at "sq") | (refine Same.seqT (same_upd (by with_reducible assumption)) ?_; wtm_at "sq") | (refine Same.seqT (by with_reducible assumption) ?_; wtm_at "sq"))
local macro_rules | `(tactic| wtm_at "cl") => `(tactic| first | (with_reducible assumption) | omega | (exact cmul_r (by omega) (by omega)) | (exact cmul_l (by omega) (by omega)) | (exact cdiv_ok (by omega) (by omega)) | (exact cpow_ok (by decide)) | (exact ⟨by omega, by omega, by omega⟩) | decide | (exact ⟨by omega, by omega⟩) | (simp only [List.length_append, List.length_map, List.length_cons, List.length_nil, rngL_len, sizeLine_eq]; omega) | wtm_at "hp" | wtm_at "sq")
local macro_rules | `(tactic| wtm_at "pf") => `(tactic| first | (with_reducible assumption) | omega | (simp only [List.length_append, List.length_map, List.length_cons, List.length_nil, rngL_len]; omega) | (with_reducible rfl) | (with_reducible trivial) | (with_reducible decide))
local macro_rules | `(tactic| wtm_at "st") => `(tactic| first | ((with_reducible refine g_at ?_); refine at_call (by wtm_at "sq") (by omega) (by omega) (fun _ _ => ?_)) | ((with_reducible refine g_row ?_); refine row_call (by wtm_at "hp") ?_) | ((with_reducible refine g_int ?_); refine int_call ?_) | ((with_reducible refine g_isi ?_); first | (refine isi_int rfl ?_) | (refine isi_lst rfl (by wtm_at "hp") ?_) | (refine isi_tup rfl (by wtm_at "hp") ?_)) | ((with_reducible refine g_ned ?_); refine ned_f (dq_lst (by wtm_at "sq")) (dq_lst (by wtm_at "sq")) ?_) | ((with_reducible refine g_eqd ?_); refine eqd_t (dq_lst (by wtm_at "sq")) (dq_lst (by wtm_at "sq")) ?_) | ((with_reducible refine g_tyv ?_); refine and_tyv (by wtm_at "sq") ?_) | ((with_reducible refine g_asq ?_); refine and_sq (by wtm_at "sq") ?_) | ((with_reducible refine g_lst ?_); refine ex_lst (by wtm_at "hp") ?_) | ((with_reducible refine g_or ?_); first | (refine ex_or (by wtm_at "sq") ?_) | (refine ex_ort (by wtm_at "sq") ?_)) | ((with_reducible refine g_sq ?_); refine ex_sq (by wtm_at "sq") ?_) | ((with_reducible refine g_sqt ?_); refine ex_sqt (by wtm_at "sq") ?_) | ((with_reducible refine gd_sel ?_); first | (refine sel_p (by wtm_at "pf") ?_) | (refine sel_n (by wtm_at "pf") ?_)) | ((with_reducible refine gn_sel ?_); first | (refine selN_p (by wtm_at "pf") ?_) | (refine selN_n (by wtm_at "pf") ?_)) | ((with_reducible refine gd_selT ?_); first | (refine selT_p (by wtm_at "pf") ?_) | (refine selT_n (by wtm_at "pf") ?_)) | ((with_reducible refine gn_selT ?_); first | (refine selTN_p (by wtm_at "pf") ?_) | (refine selTN_n (by wtm_at "pf") ?_)) | ((with_reducible refine gd_selE ?_); first | (refine selE_p (by wtm_at "pf") ?_) | (refine selE_n (by wtm_at "pf") ?_)) | ((with_reducible refine gn_selE ?_); first | (refine selEN_p (by wtm_at "pf") ?_) | (refine selEN_n (by wtm_at "pf") ?_)) | ((with_reducible refine g_xf ?_); refine xf_at rfl (by wtm_at "hp") ?_) | ((with_reducible refine g_atI ?_); refine ex_at (by first | exact rfl | exact atI_int (by omega) (by wtm_at "pf")) ?_) | ((with_reducible refine g_and ?_); refine And.intro (by wtm_at "cl") ?_) | ((with_reducible refine g_new ?_); intro _ _))
local macro_rules | `(tactic| wtm_at "go") => `(tactic| repeat (first | wtm_at "xs" | wtm_at "st"))
local macro_rules | `(tactic| wtm_at "xo") => `(tactic| simp only [x_next, x_seq, x_brk, x_cont, x_drop, x_ret, x_retN, x_if, sel_t, sel_f, selE_t, selE_f, selT_t, selT_f, selC_t, selC_f, x_test, x_tB, x_op, x_un, x_var, x_c, x_cb, x_nil, x_cons, x_rI, x_rI0, x_rU, x_rEq, x_rNe, x_rIxL, x_rIxT, n_rSlL, n_rCat, n_rRep, n_rApp, x_bm, x_bm0, x_sl, x_nopart, x_part, n_tup, n_lst, x_call, x_callS, x_asg, x_gname, x_gtup, x_gnil, x_gcons, x_gsub, n_setL, x_aug, x_ipI, x_ipC, x_bits, x_getL, x_augS, x_and, x_or, x_not, x_k, x_andV, x_orV, x_notV, x_ife, x_chain, x_for, x_ilist, x_itup, x_ienum, x_irng1, x_irng2, x_irev, x_lc, x_yes, wipe_nil, wipe_cons, List.map_cons, List.map_nil, x_misc, x_misc2, x_rz, lookup_at, Bool.not_true, Bool.not_false, decide_true, decide_false, not_true, not_false_eq_true, and_assoc, exists_and_left, exists_eq_left', exists_eq_left, exists_eq', exists_eq_right', exists_eq_right, V.int.injEq, V.ref.injEq, V.bl.injEq, V.str.injEq, List.cons.injEq, and_true, true_and, and_self, Option.some.injEq, List.cons_append, List.nil_append, List.append_nil, List.getElem?_cons_zero, List.getElem?_cons_succ, List.set_cons_zero, List.set_cons_succ, reduceCtorEq, false_and, and_false, exists_false, exists_const, or_false, false_or, scal_ii, scal_bb, scal_ss, List.length_cons, List.length_nil, Int.reduceToNat, Int.reducePow, n_rLs, t_s1, t_i1, t_i2, t_i3, t_i4, t_i5, x_chain3, x_irng3, x_irevR, x_rg1, x_rg2, ints_cat, ints_app1, ints_len, ints_take, ints_drop, rep_one])
local macro_rules | `(tactic| k_call_by "xo" $h:term) => `(tactic| simp only [$h:term, x_next, x_seq, x_brk, x_cont, x_drop, x_ret, x_retN, x_if, sel_t, sel_f, selE_t, selE_f, selT_t, selT_f, selC_t, selC_f, x_test, x_tB, x_op, x_un, x_var, x_c, x_cb, x_nil, x_cons, x_rI, x_rI0, x_rU, x_rEq, x_rNe, x_rIxL, x_rIxT, n_rSlL, n_rCat, n_rRep, n_rApp, x_bm, x_bm0, x_sl, x_nopart, x_part, n_tup, n_lst, x_call, x_callS, x_asg, x_gname, x_gtup, x_gnil, x_gcons, x_gsub, n_setL, x_aug, x_ipI, x_ipC, x_bits, x_getL, x_augS, x_and, x_or, x_not, x_k, x_andV, x_orV, x_notV, x_ife, x_chain, x_for, x_ilist, x_itup, x_ienum, x_irng1, x_irng2, x_irev, x_lc, x_yes, wipe_nil, wipe_cons, List.map_cons, List.map_nil, x_misc, x_misc2, x_rz, lookup_at, Bool.not_true, Bool.not_false, decide_true, decide_false, not_true, not_false_eq_true, and_assoc, exists_and_left, exists_eq_left', exists_eq_left, exists_eq', exists_eq_right', exists_eq_right, V.int.injEq, V.ref.injEq, V.bl.injEq, V.str.injEq, List.cons.injEq, and_true, true_and, and_self, Option.some.injEq, List.cons_append, List.nil_append, List.append_nil, List.getElem?_cons_zero, List.getElem?_cons_succ, List.set_cons_zero, List.set_cons_succ, reduceCtorEq, false_and, and_false, exists_false, exists_const, or_false, false_or, scal_ii, scal_bb, scal_ss, List.length_cons, List.length_nil, Int.reduceToNat, Int.reducePow, n_rLs, t_s1, t_i1, t_i2, t_i3, t_i4, t_i5, x_chain3, x_irng3, x_irevR, x_rg1, x_rg2, ints_cat, ints_app1, ints_len, ints_take, ints_drop, rep_one])
local macro_rules | `(tactic| wtm_at "mem") => `(tactic| first | (with_reducible exact mem_here) | (with_reducible refine mem_there ?_; wtm_at "mem"))
local macro_rules | `(tactic| wtm_at "pp") => `(tactic| first | (with_reducible exact Put.here) | (with_reducible apply Put.there; wtm_at "pp"))
local macro_rules | `(tactic| wtm_at "ho") => `(tactic| first | (with_reducible assumption) | exact Own.get (by with_reducible assumption) (by wtm_at "mem") | exact Own.base (by with_reducible assumption) (by with_reducible assumption))
local macro_rules | `(tactic| wtm_at "qo") => `(tactic| first | (with_reducible assumption) | exact SqL.of (by wtm_at "ho") | exact sqT_tupI (by wtm_at "ho") | exact sqT_tupS (by wtm_at "ho") | exact SqT.of (by wtm_at "ho") | exact Own.imT (by with_reducible assumption) (by wtm_at "mem") | exact Own.sq (by with_reducible assumption) (by with_reducible assumption) | exact Own.sqT (by with_reducible assumption) (by with_reducible assumption))
local macro_rules | `(tactic| wtm_at "sub") => `(tactic| first | exact List.nil_sublist _ | (with_reducible refine List.Sublist.cons_cons _ ?_; wtm_at "sub") | (refine List.Sublist.cons _ ?_; wtm_at "sub"))
local macro_rules | `(tactic| wtm_at "co") => `(tactic| first | (with_reducible assumption) | omega | (exact cmul_r (by omega) (by omega)) | (exact cmul_l (by omega) (by omega)) | (exact cdiv_ok (by omega) (by omega)) | (exact cpow_ok (by decide)) | (exact ⟨by omega, by omega, by omega⟩) | decide | (exact ⟨by omega, by omega⟩) | (simp only [List.length_append, List.length_map, List.length_cons, List.length_nil, rngL_len, sizeLine_eq]; omega) | wtm_at "ho" | wtm_at "qo")
local macro_rules | `(tactic| wtm_at "so") => `(tactic| first | ((with_reducible refine g_sum ?_); refine sum_call (by wtm_at "qo") ?_) | ((with_reducible refine g_cq ?_); exact cq (by with_reducible assumption) (by simp only [rngL_len, List.length_map, List.length_take]; omega)) | ((with_reducible refine g_newO ?_); refine newO (by with_reducible assumption) (fun _ _ _ => ?_)) | ((with_reducible refine g_appO ?_); refine appI (by with_reducible assumption) (by wtm_at "pp") (by wtm_at "co") (fun _ _ => ?_)) | ((with_reducible refine g_setO ?_); refine setI (by with_reducible assumption) (by wtm_at "pp") (by omega) (by wtm_at "co") (fun _ _ => ?_)) | ((with_reducible refine g_appO ?_); refine appO (by with_reducible assumption) (by wtm_at "pp") (by wtm_at "co") (fun _ _ => ?_)) | ((with_reducible refine g_setO ?_); refine setO (by with_reducible assumption) (by wtm_at "pp") (by omega) (by wtm_at "co") (fun _ _ => ?_)) | ((with_reducible refine g_at ?_); refine at_call (by wtm_at "qo") (by omega) (by omega) (fun _ _ => ?_)) | ((with_reducible refine g_row ?_); refine row_call (by wtm_at "ho") ?_) | ((with_reducible refine g_int ?_); refine int_call ?_) | ((with_reducible refine g_isi ?_); first | (refine isi_int rfl ?_) | (refine isi_sqL rfl (by wtm_at "qo") ?_) | (refine isi_sqT rfl (by wtm_at "qo") ?_) | (refine isi_bl rfl ?_) | (refine isi_non rfl ?_) | (refine isi_str rfl ?_)) | ((with_reducible refine g_ned ?_); first | (refine ned_f (dq_lst (by wtm_at "qo")) (dq_lst (by wtm_at "qo")) ?_) | (refine ned_ints (by wtm_at "qo") (by wtm_at "qo") ?_) | (refine nedT_ints (by wtm_at "qo") (by wtm_at "qo") ?_)) | ((with_reducible refine g_eqd ?_); first | (refine eqd_t (dq_lst (by wtm_at "qo")) (dq_lst (by wtm_at "qo")) ?_) | (refine eqd_ints (by wtm_at "qo") (by wtm_at "qo") ?_) | (refine eqdT_ints (by wtm_at "qo") (by wtm_at "qo") ?_)) | ((with_reducible refine g_tyv ?_); refine and_tyv (by wtm_at "qo") ?_) | ((with_reducible refine g_asq ?_); refine and_sq (by wtm_at "qo") ?_) | ((with_reducible refine g_lst ?_); refine ex_lst (by wtm_at "ho") ?_) | ((with_reducible refine g_or ?_); first | (refine ex_or (by wtm_at "qo") ?_) | (refine ex_ort (by wtm_at "qo") ?_)) | ((with_reducible refine g_sq ?_); refine ex_sq (by wtm_at "qo") ?_) | ((with_reducible refine g_sqt ?_); refine ex_sqt (by wtm_at "qo") ?_) | ((with_reducible refine gd_sel ?_); first | (refine sel_p (by wtm_at "pf") ?_) | (refine sel_n (by wtm_at "pf") ?_)) | ((with_reducible refine gn_sel ?_); first | (refine selN_p (by wtm_at "pf") ?_) | (refine selN_n (by wtm_at "pf") ?_)) | ((with_reducible refine gd_selT ?_); first | (refine selT_p (by wtm_at "pf") ?_) | (refine selT_n (by wtm_at "pf") ?_)) | ((with_reducible refine gn_selT ?_); first | (refine selTN_p (by wtm_at "pf") ?_) | (refine selTN_n (by wtm_at "pf") ?_)) | ((with_reducible refine gd_selE ?_); first | (refine selE_p (by wtm_at "pf") ?_) | (refine selE_n (by wtm_at "pf") ?_)) | ((with_reducible refine gn_selE ?_); first | (refine selEN_p (by wtm_at "pf") ?_) | (refine selEN_n (by wtm_at "pf") ?_)) | ((with_reducible refine g_xf ?_); refine xf_at rfl (by wtm_at "ho") ?_) | ((with_reducible refine g_atI ?_); refine ex_at (by first | exact rfl | exact atI_int (by omega) (by wtm_at "pf")) ?_) | ((with_reducible refine g_and ?_); refine And.intro (by wtm_at "co") ?_))
local macro_rules | `(tactic| wtm_at "oo") => `(tactic| repeat (first | wtm_at "xo" | wtm_at "so"))
local macro_rules | `(tactic| wtm_at "cR") => `(tactic| (refine' compRi _ (by with_reducible assumption) (by omega) (fun _ _ _ _ _ => ?_) (fun _ _ _ => ?_); rotate_left; focus (wtm_at "oo")))
section
variable {P : Program} {w : World} {K : PySem.W.Frag} {mg : Str → Option Value} {base : Heap}
/-! ### products modulo the polynomial -/
/-- the first k powers of the first factor -/
def mulAt (a b : Nat) : Nat → Nat
  | 0 => 0
  | k + 1 => mulAt a b k ^^^ (if a / 2 ^ (31 - k) % 2 = 1 then stepsN k b else 0)
def mulN (a b : Nat) : Nat := mulAt a b 32
theorem stepsN_zero : ∀ k, stepsN k 0 = 0
  | 0 => rfl
  | k + 1 => stepsN_zero k
theorem stepsN_comm (j k r : Nat) : stepsN j (stepsN k r) = stepsN k (stepsN j r) := by
  rw [← stepsN_add, ← stepsN_add, Nat.add_comm]
theorem mulAt_steps (a b m : Nat) : ∀ k, mulAt a (stepsN m b) k = stepsN m (mulAt a b k)
  | 0 => (stepsN_zero m).symm
  | k + 1 => by
    show mulAt a (stepsN m b) k ^^^ _ = stepsN m (mulAt a b k ^^^ _)
    rw [stepsN_xor, mulAt_steps a b m k]
    congr 1
    split
    · exact stepsN_comm k m b
    · exact (stepsN_zero m).symm
theorem mulN_steps (a b m : Nat) : mulN a (stepsN m b) = stepsN m (mulN a b) := mulAt_steps a b m 32
theorem mulAt_lt {a b : Nat} (h : b < 2 ^ 32) : ∀ k, mulAt a b k < 2 ^ 32
  | 0 => (by decide : (0 : Nat) < 2 ^ 32)
  | k + 1 => by
    refine Nat.xor_lt_two_pow (mulAt_lt h k) ?_
    split
    · exact stepsN_lt k b h
    · decide
theorem mulN_lt {a b : Nat} (h : b < 2 ^ 32) : mulN a b < 2 ^ 32 := mulAt_lt h 32
theorem stepsN_top {k : Nat} (h : k ≤ 31) : stepsN k (2 ^ 31) = 2 ^ (31 - k) := by
  have e : (2 : Nat) ^ 31 = 2 ^ k * 2 ^ (31 - k) := by
    rw [← Nat.pow_add]
    congr 1
    omega
  rw [e, stepsN_mul]
theorem mulAt_top (a : Nat) : ∀ k, k ≤ 32 → ∀ j, (mulAt a (2 ^ 31) k).testBit j = (decide (32 ≤ j + k ∧ j < 32) && a.testBit j)
  | 0, _, j => by
    show Nat.testBit 0 j = _
    rw [Nat.zero_testBit, decide_eq_false (by omega), Bool.false_and]
  | k + 1, hk, j => by
    show (mulAt a (2 ^ 31) k ^^^ _).testBit j = _
    rw [Nat.testBit_xor, mulAt_top a k (by omega) j, stepsN_top (by omega)]
    by_cases c : j = 31 - k
    · subst c
      rw [decide_eq_false (by omega), decide_eq_true (by omega), Bool.false_and, Bool.true_and, Bool.false_xor]
      rw [Nat.testBit_eq_decide_div_mod_eq (x := a)]
      split
      · rename_i h
        rw [decide_eq_true h, Nat.testBit_two_pow_self]
      · rename_i h
        rw [decide_eq_false h, Nat.zero_testBit]
    · have e : (if a / 2 ^ (31 - k) % 2 = 1 then 2 ^ (31 - k) else 0).testBit j = false := by
        split
        · rw [Nat.testBit_two_pow]
          exact decide_eq_false (by omega)
        · exact Nat.zero_testBit j
      rw [e, Bool.xor_false]
      congr 1
      exact decide_eq_decide.mpr (by omega)
theorem mulN_top {a : Nat} (h : a < 2 ^ 32) : mulN a (2 ^ 31) = a := by
  apply Nat.eq_of_testBit_eq
  intro j
  unfold mulN
  rw [mulAt_top a 32 (Nat.le_refl _) j]
  by_cases c : j < 32
  · rw [decide_eq_true (by omega), Bool.true_and]
  · rw [decide_eq_false (by omega), Bool.false_and, Nat.testBit_lt_two_pow (Nat.lt_of_lt_of_le h (Nat.pow_le_pow_right (by decide) (by omega)))]
theorem stepN_zero_of {r : Nat} (h : r < 2 ^ 32) (e : stepN r = 0) : r = 0 := by
  unfold stepN at e
  rw [Nat.shiftRight_eq_div_pow] at e
  by_cases c : r % 2 = 1
  · rw [if_pos c] at e
    have e2 : r / 2 ^ 1 = poly := by
      have := congrArg (· ^^^ poly) e
      simpa [Nat.xor_assoc] using this
    unfold poly at e2
    omega
  · rw [if_neg c, Nat.xor_zero] at e
    omega
theorem stepN_inj {a b : Nat} (ha : a < 2 ^ 32) (hb : b < 2 ^ 32) (e : stepN a = stepN b) : a = b := by
  have h := stepN_zero_of (Nat.xor_lt_two_pow ha hb) (by rw [stepN_xor, e, Nat.xor_self])
  have := congrArg (· ^^^ b) h
  simpa [Nat.xor_assoc] using this
theorem stepsN_inj : ∀ {k a b : Nat}, a < 2 ^ 32 → b < 2 ^ 32 → stepsN k a = stepsN k b → a = b
  | 0, _, _, _, _, e => e
  | k + 1, a, b, ha, hb, e => stepN_inj ha hb (stepsN_inj (k := k) (stepN_lt ha) (stepN_lt hb) e)
/-- moved by a factor, as often as told -/
def movN (c f t : Nat) : Nat := if h : t = 0 then c else movN (if t % 2 = 1 then mulN c f else c) (mulN f f) (t / 2)
termination_by t
decreasing_by omega
theorem movN_zero (c f : Nat) : movN c f 0 = c := by
  rw [movN]
  exact dif_pos rfl
theorem movN_pos {c f t : Nat} (h : t ≠ 0) : movN c f t = movN (if t % 2 = 1 then mulN c f else c) (mulN f f) (t / 2) := by
  rw [movN]
  exact dif_neg h
theorem half_mul (n t : Nat) : 2 * n * (t / 2) + n * (t % 2) = n * t := by
  have h := Nat.div_add_mod t 2
  generalize t / 2 = q at *
  generalize t % 2 = r at *
  subst h
  rw [Nat.mul_add, Nat.mul_comm 2 n, Nat.mul_assoc]
theorem movN_lt : ∀ (t : Nat) {c f : Nat}, c < 2 ^ 32 → f < 2 ^ 32 → movN c f t < 2 ^ 32 := by
  intro t
  induction t using Nat.strongRecOn with
  | _ t ih =>
    intro c f hc hf
    by_cases h : t = 0
    · rw [h, movN_zero]
      exact hc
    · rw [movN_pos h]
      refine ih _ (by omega) ?_ (mulN_lt hf)
      split
      · exact mulN_lt hf
      · exact hc
/-- forward -/
theorem movN_fwd : ∀ (t : Nat) {c n : Nat}, c < 2 ^ 32 → movN c (stepsN n (2 ^ 31)) t = stepsN (n * t) c := by
  intro t
  induction t using Nat.strongRecOn with
  | _ t ih =>
    intro c n hc
    by_cases h : t = 0
    · subst h
      rw [movN_zero]
      rfl
    · rw [movN_pos h]
      have hX : stepsN n (2 ^ 31) < 2 ^ 32 := stepsN_lt n _ (by decide)
      have eM : ∀ {c}, c < 2 ^ 32 → mulN c (stepsN n (2 ^ 31)) = stepsN n c := fun hc => by rw [mulN_steps, mulN_top hc]
      rw [eM hX, eM hc, ← stepsN_add, ← Nat.two_mul]
      have e2 := half_mul n t
      have hsp : ∀ a b x, stepsN a (stepsN b x) = stepsN (a + b) x := fun a b x => by rw [stepsN_comm, ← stepsN_add]
      split
      · rename_i c1
        rw [ih _ (by omega) (stepsN_lt n c hc), hsp]
        congr 1
        rw [c1, Nat.mul_one] at e2
        exact e2
      · rename_i c1
        rw [ih _ (by omega) hc]
        congr 1
        rw [show t % 2 = 0 by omega, Nat.mul_zero, Nat.add_zero] at e2
        exact e2
/-- back -/
theorem movN_back : ∀ (t : Nat) {c f n : Nat}, c < 2 ^ 32 → f < 2 ^ 32 → stepsN n f = 2 ^ 31 → stepsN (n * t) (movN c f t) = c := by
  intro t
  induction t using Nat.strongRecOn with
  | _ t ih =>
    intro c f n hc hf e
    by_cases h : t = 0
    · subst h
      rw [movN_zero]
      rfl
    · rw [movN_pos h]
      have eM : ∀ {c}, c < 2 ^ 32 → stepsN n (mulN c f) = c := fun hc => by rw [← mulN_steps, e, mulN_top hc]
      have e3 : stepsN (2 * n) (mulN f f) = 2 ^ 31 := by
        rw [Nat.two_mul, stepsN_add, eM hf, e]
      have e2 := half_mul n t
      rw [← e2, stepsN_add]
      split
      · rename_i c1
        rw [ih _ (by omega) (mulN_lt hf) (mulN_lt hf) e3, c1, Nat.mul_one, eM hc]
      · rename_i c1
        rw [ih _ (by omega) hc (mulN_lt hf) e3, show t % 2 = 0 by omega, Nat.mul_zero]
        rfl
theorem pow8_is : (8388608 : Nat) = stepsN 8 (2 ^ 31) := by decide
theorem back8_is : stepsN 8 1701301141 = 2 ^ 31 := by decide
def joinN (a b n : Nat) : Nat := stepsN (8 * n) a ^^^ b
theorem movN_8 {a : Nat} (n : Nat) (h : a < 2 ^ 32) : movN a 8388608 n = stepsN (8 * n) a := by
  rw [pow8_is, movN_fwd n h]
theorem joinN_lt {a b n : Nat} (ha : a < 2 ^ 32) (hb : b < 2 ^ 32) : joinN a b n < 2 ^ 32 := Nat.xor_lt_two_pow (stepsN_lt _ _ ha) hb
theorem frontN {a b n : Nat} (ha : a < 2 ^ 32) (hb : b < 2 ^ 32) : movN (joinN a b n ^^^ b) 1701301141 n = a := by
  unfold joinN
  rw [Nat.xor_assoc, Nat.xor_self, Nat.xor_zero]
  exact stepsN_inj (movN_lt n (stepsN_lt _ _ ha) (by decide)) ha (movN_back n (stepsN_lt _ _ ha) (by decide) back8_is)
theorem joinN_assoc (a b c n m : Nat) : joinN (joinN a b n) c m = joinN a (joinN b c m) (n + m) := by
  unfold joinN
  rw [stepsN_xor, Nat.mul_add, stepsN_add, Nat.xor_assoc]
theorem runN_from : ∀ (xs : List Nat) (s u : Nat), runN xs (s ^^^ u) = runN xs s ^^^ stepsN (8 * xs.length) u
  | [], _, _ => rfl
  | x :: r, s, u => by
    show runN r (byteN (s ^^^ u) x) = runN r (byteN s x) ^^^ stepsN (8 * (r.length + 1)) u
    have e : byteN (s ^^^ u) x = byteN s x ^^^ stepsN 8 u := by
      unfold byteN
      rw [← stepsN_xor, Nat.xor_assoc, Nat.xor_comm u x, Nat.xor_assoc]
    rw [e, runN_from r, Nat.mul_add, Nat.mul_one, Nat.add_comm (8 * r.length) 8, stepsN_add]
theorem crc_join (xs ys : List Nat) : crcN (xs ++ ys) 0 = joinN (crcN xs 0) (crcN ys 0) ys.length := by
  rw [← crcN_parts]
  generalize crcN xs 0 = a
  show runN ys (a ^^^ 4294967295) ^^^ 4294967295 = stepsN (8 * ys.length) a ^^^ (runN ys (0 ^^^ 4294967295) ^^^ 4294967295)
  rw [Nat.zero_xor, Nat.xor_comm a, runN_from, Nat.xor_comm (runN ys 4294967295), Nat.xor_assoc]


end
end K05

namespace K05
open PySem PySem.Spec PyProof.Rows L2 Bel
local macro_rules | `(tactic| wtm_at "xs") => `(tactic| simp only [x_next, x_seq, x_brk, x_cont, x_drop, x_ret, x_retN, x_if, sel_t, sel_f, selE_t, selE_f, selT_t, selT_f, selC_t, selC_f, x_test, x_tB, x_op, x_un, x_var, x_c, x_cb, x_nil, x_cons, x_rI, x_rI0, x_rU, x_rEq, x_rNe, x_rIxL, x_rIxT, x_rSlL, x_rCat, x_rRep, x_rApp, x_bm, x_bm0, x_sl, x_nopart, x_part, x_tup, x_lst, x_call, x_callS, x_asg, x_gname, x_gtup, x_gnil, x_gcons, x_gsub, x_setL, x_aug, x_ipI, x_ipC, x_bits, x_getL, x_augS, x_and, x_or, x_not, x_k, x_andV, x_orV, x_notV, x_ife, x_chain, x_for, x_ilist, x_itup, x_ienum, x_irng1, x_irng2, x_irev, x_lc, x_yes, wipe_nil, wipe_cons, List.map_cons, List.map_nil, x_misc, x_misc2, x_rz, lookup_at, Bool.not_true, Bool.not_false, decide_true, decide_false, not_true, not_false_eq_true, and_assoc, exists_and_left, exists_eq_left', exists_eq_left, exists_eq', exists_eq_right', exists_eq_right, V.int.injEq, V.ref.injEq, V.bl.injEq, V.str.injEq, List.cons.injEq, and_true, true_and, and_self, Option.some.injEq, List.cons_append, List.nil_append, List.append_nil, List.getElem?_cons_zero, List.getElem?_cons_succ, List.set_cons_zero, List.set_cons_succ, reduceCtorEq, false_and, and_false, exists_false, exists_const, or_false, false_or, scal_ii, scal_bb, scal_ss, List.length_cons, List.length_nil, Int.reduceToNat, Int.reducePow])
local macro_rules | `(tactic| k_call_by "xs" $h:term) => `(tactic| simp only [$h:term, x_next, x_seq, x_brk, x_cont, x_drop, x_ret, x_retN, x_if, sel_t, sel_f, selE_t, selE_f, selT_t, selT_f, selC_t, selC_f, x_test, x_tB, x_op, x_un, x_var, x_c, x_cb, x_nil, x_cons, x_rI, x_rI0, x_rU, x_rEq, x_rNe, x_rIxL, x_rIxT, x_rSlL, x_rCat, x_rRep, x_rApp, x_bm, x_bm0, x_sl, x_nopart, x_part, x_tup, x_lst, x_call, x_callS, x_asg, x_gname, x_gtup, x_gnil, x_gcons, x_gsub, x_setL, x_aug, x_ipI, x_ipC, x_bits, x_getL, x_augS, x_and, x_or, x_not, x_k, x_andV, x_orV, x_notV, x_ife, x_chain, x_for, x_ilist, x_itup, x_ienum, x_irng1, x_irng2, x_irev, x_lc, x_yes, wipe_nil, wipe_cons, List.map_cons, List.map_nil, x_misc, x_misc2, x_rz, lookup_at, Bool.not_true, Bool.not_false, decide_true, decide_false, not_true, not_false_eq_true, and_assoc, exists_and_left, exists_eq_left', exists_eq_left, exists_eq', exists_eq_right', exists_eq_right, V.int.injEq, V.ref.injEq, V.bl.injEq, V.str.injEq, List.cons.injEq, and_true, true_and, and_self, Option.some.injEq, List.cons_append, List.nil_append, List.append_nil, List.getElem?_cons_zero, List.getElem?_cons_succ, List.set_cons_zero, List.set_cons_succ, reduceCtorEq, false_and, and_false, exists_false, exists_const, or_false, false_or, scal_ii, scal_bb, scal_ss, List.length_cons, List.length_nil, Int.reduceToNat, Int.reducePow])
local macro_rules | `(tactic| wtm_at "hp") => `(tactic| first | (with_reducible assumption) | exact upd_same | (refine upd_keep (by with_reducible assumption) ?_; wtm_at "hp") | (refine Same.get (by with_reducible assumption) ?_; wtm_at "hp") | (refine upd_other (by first | (with_reducible assumption) | exact Ne.symm (by with_reducible assumption)) ?_; wtm_at "hp"))
local macro_rules | `(tactic| wtm_at "sq") => `(tactic| first | (with_reducible assumption) | exact SqL.of (by wtm_at "hp") | exact SqT.of (by wtm_at "hp") | (refine Same.seq (same_upd (by with_reducible assumption)) ?_; wtm_at "sq") | (refine Same.seq (by with_reducible assumption) ?_; wtm_at "sq") | (refine Same.seqT (same_upd (by with_reducible assumption)) ?_; wtm_at "sq") | (refine Same.seqT (by with_reducible assumption) ?_; wtm_at "sq"))
local macro_rules | `(tactic| wtm_at "cl") => `(tactic| first | (with_reducible assumption) | omega | (exact cmul_r (by omega) (by omega)) | (exact cmul_l (by omega) (by omega)) | (exact cdiv_ok (by omega) (by omega)) | (exact cpow_ok (by decide)) | (exact ⟨by omega, by omega, by omega⟩) | decide | (exact ⟨by omega, by omega⟩) | (simp only [List.length_append, List.length_map, List.length_cons, List.length_nil, rngL_len, sizeLine_eq]; omega) | wtm_at "hp" | wtm_at "sq")
local macro_rules | `(tactic| wtm_at "pf") => `(tactic| first | (with_reducible assumption) | omega | (simp only [List.length_append, List.length_map, List.length_cons, List.length_nil, rngL_len]; omega) | (with_reducible rfl) | (with_reducible trivial) | (with_reducible decide))
local macro_rules | `(tactic| wtm_at "st") => `(tactic| first | ((with_reducible refine g_at ?_); refine at_call (by wtm_at "sq") (by omega) (by omega) (fun _ _ => ?_)) | ((with_reducible refine g_row ?_); refine row_call (by wtm_at "hp") ?_) | ((with_reducible refine g_int ?_); refine int_call ?_) | ((with_reducible refine g_isi ?_); first | (refine isi_int rfl ?_) | (refine isi_lst rfl (by wtm_at "hp") ?_) | (refine isi_tup rfl (by wtm_at "hp") ?_)) | ((with_reducible refine g_ned ?_); refine ned_f (dq_lst (by wtm_at "sq")) (dq_lst (by wtm_at "sq")) ?_) | ((with_reducible refine g_eqd ?_); refine eqd_t (dq_lst (by wtm_at "sq")) (dq_lst (by wtm_at "sq")) ?_) | ((with_reducible refine g_tyv ?_); refine and_tyv (by wtm_at "sq") ?_) | ((with_reducible refine g_asq ?_); refine and_sq (by wtm_at "sq") ?_) | ((with_reducible refine g_lst ?_); refine ex_lst (by wtm_at "hp") ?_) | ((with_reducible refine g_or ?_); first | (refine ex_or (by wtm_at "sq") ?_) | (refine ex_ort (by wtm_at "sq") ?_)) | ((with_reducible refine g_sq ?_); refine ex_sq (by wtm_at "sq") ?_) | ((with_reducible refine g_sqt ?_); refine ex_sqt (by wtm_at "sq") ?_) | ((with_reducible refine gd_sel ?_); first | (refine sel_p (by wtm_at "pf") ?_) | (refine sel_n (by wtm_at "pf") ?_)) | ((with_reducible refine gn_sel ?_); first | (refine selN_p (by wtm_at "pf") ?_) | (refine selN_n (by wtm_at "pf") ?_)) | ((with_reducible refine gd_selT ?_); first | (refine selT_p (by wtm_at "pf") ?_) | (refine selT_n (by wtm_at "pf") ?_)) | ((with_reducible refine gn_selT ?_); first | (refine selTN_p (by wtm_at "pf") ?_) | (refine selTN_n (by wtm_at "pf") ?_)) | ((with_reducible refine gd_selE ?_); first | (refine selE_p (by wtm_at "pf") ?_) | (refine selE_n (by wtm_at "pf") ?_)) | ((with_reducible refine gn_selE ?_); first | (refine selEN_p (by wtm_at "pf") ?_) | (refine selEN_n (by wtm_at "pf") ?_)) | ((with_reducible refine g_xf ?_); refine xf_at rfl (by wtm_at "hp") ?_) | ((with_reducible refine g_atI ?_); refine ex_at (by first | exact rfl | exact atI_int (by omega) (by wtm_at "pf")) ?_) | ((with_reducible refine g_and ?_); refine And.intro (by wtm_at "cl") ?_) | ((with_reducible refine g_new ?_); intro _ _))
local macro_rules | `(tactic| wtm_at "go") => `(tactic| repeat (first | wtm_at "xs" | wtm_at "st"))
local macro_rules | `(tactic| wtm_at "xo") => `(tactic| simp only [x_next, x_seq, x_brk, x_cont, x_drop, x_ret, x_retN, x_if, sel_t, sel_f, selE_t, selE_f, selT_t, selT_f, selC_t, selC_f, x_test, x_tB, x_op, x_un, x_var, x_c, x_cb, x_nil, x_cons, x_rI, x_rI0, x_rU, x_rEq, x_rNe, x_rIxL, x_rIxT, n_rSlL, n_rCat, n_rRep, n_rApp, x_bm, x_bm0, x_sl, x_nopart, x_part, n_tup, n_lst, x_call, x_callS, x_asg, x_gname, x_gtup, x_gnil, x_gcons, x_gsub, n_setL, x_aug, x_ipI, x_ipC, x_bits, x_getL, x_augS, x_and, x_or, x_not, x_k, x_andV, x_orV, x_notV, x_ife, x_chain, x_for, x_ilist, x_itup, x_ienum, x_irng1, x_irng2, x_irev, x_lc, x_yes, wipe_nil, wipe_cons, List.map_cons, List.map_nil, x_misc, x_misc2, x_rz, lookup_at, Bool.not_true, Bool.not_false, decide_true, decide_false, not_true, not_false_eq_true, and_assoc, exists_and_left, exists_eq_left', exists_eq_left, exists_eq', exists_eq_right', exists_eq_right, V.int.injEq, V.ref.injEq, V.bl.injEq, V.str.injEq, List.cons.injEq, and_true, true_and, and_self, Option.some.injEq, List.cons_append, List.nil_append, List.append_nil, List.getElem?_cons_zero, List.getElem?_cons_succ, List.set_cons_zero, List.set_cons_succ, reduceCtorEq, false_and, and_false, exists_false, exists_const, or_false, false_or, scal_ii, scal_bb, scal_ss, List.length_cons, List.length_nil, Int.reduceToNat, Int.reducePow, n_rLs, t_s1, t_i1, t_i2, t_i3, t_i4, t_i5, x_chain3, x_irng3, x_irevR, x_rg1, x_rg2, ints_cat, ints_app1, ints_len, ints_take, ints_drop, rep_one])
local macro_rules | `(tactic| k_call_by "xo" $h:term) => `(tactic| simp only [$h:term, x_next, x_seq, x_brk, x_cont, x_drop, x_ret, x_retN, x_if, sel_t, sel_f, selE_t, selE_f, selT_t, selT_f, selC_t, selC_f, x_test, x_tB, x_op, x_un, x_var, x_c, x_cb, x_nil, x_cons, x_rI, x_rI0, x_rU, x_rEq, x_rNe, x_rIxL, x_rIxT, n_rSlL, n_rCat, n_rRep, n_rApp, x_bm, x_bm0, x_sl, x_nopart, x_part, n_tup, n_lst, x_call, x_callS, x_asg, x_gname, x_gtup, x_gnil, x_gcons, x_gsub, n_setL, x_aug, x_ipI, x_ipC, x_bits, x_getL, x_augS, x_and, x_or, x_not, x_k, x_andV, x_orV, x_notV, x_ife, x_chain, x_for, x_ilist, x_itup, x_ienum, x_irng1, x_irng2, x_irev, x_lc, x_yes, wipe_nil, wipe_cons, List.map_cons, List.map_nil, x_misc, x_misc2, x_rz, lookup_at, Bool.not_true, Bool.not_false, decide_true, decide_false, not_true, not_false_eq_true, and_assoc, exists_and_left, exists_eq_left', exists_eq_left, exists_eq', exists_eq_right', exists_eq_right, V.int.injEq, V.ref.injEq, V.bl.injEq, V.str.injEq, List.cons.injEq, and_true, true_and, and_self, Option.some.injEq, List.cons_append, List.nil_append, List.append_nil, List.getElem?_cons_zero, List.getElem?_cons_succ, List.set_cons_zero, List.set_cons_succ, reduceCtorEq, false_and, and_false, exists_false, exists_const, or_false, false_or, scal_ii, scal_bb, scal_ss, List.length_cons, List.length_nil, Int.reduceToNat, Int.reducePow, n_rLs, t_s1, t_i1, t_i2, t_i3, t_i4, t_i5, x_chain3, x_irng3, x_irevR, x_rg1, x_rg2, ints_cat, ints_app1, ints_len, ints_take, ints_drop, rep_one])
local macro_rules | `(tactic| wtm_at "mem") => `(tactic| first | (with_reducible exact mem_here) | (with_reducible refine mem_there ?_; wtm_at "mem"))
local macro_rules | `(tactic| wtm_at "pp") => `(tactic| first | (with_reducible exact Put.here) | (with_reducible apply Put.there; wtm_at "pp"))
local macro_rules | `(tactic| wtm_at "ho") => `(tactic| first | (with_reducible assumption) | exact Own.get (by with_reducible assumption) (by wtm_at "mem") | exact Own.base (by with_reducible assumption) (by with_reducible assumption))
local macro_rules | `(tactic| wtm_at "qo") => `(tactic| first | (with_reducible assumption) | exact SqL.of (by wtm_at "ho") | exact sqT_tupI (by wtm_at "ho") | exact sqT_tupS (by wtm_at "ho") | exact SqT.of (by wtm_at "ho") | exact Own.imT (by with_reducible assumption) (by wtm_at "mem") | exact Own.sq (by with_reducible assumption) (by with_reducible assumption) | exact Own.sqT (by with_reducible assumption) (by with_reducible assumption))
local macro_rules | `(tactic| wtm_at "sub") => `(tactic| first | exact List.nil_sublist _ | (with_reducible refine List.Sublist.cons_cons _ ?_; wtm_at "sub") | (refine List.Sublist.cons _ ?_; wtm_at "sub"))
local macro_rules | `(tactic| wtm_at "co") => `(tactic| first | (with_reducible assumption) | omega | (exact cmul_r (by omega) (by omega)) | (exact cmul_l (by omega) (by omega)) | (exact cdiv_ok (by omega) (by omega)) | (exact cpow_ok (by decide)) | (exact ⟨by omega, by omega, by omega⟩) | decide | (exact ⟨by omega, by omega⟩) | (simp only [List.length_append, List.length_map, List.length_cons, List.length_nil, rngL_len, sizeLine_eq]; omega) | wtm_at "ho" | wtm_at "qo")
local macro_rules | `(tactic| wtm_at "so") => `(tactic| first | ((with_reducible refine g_sum ?_); refine sum_call (by wtm_at "qo") ?_) | ((with_reducible refine g_cq ?_); exact cq (by with_reducible assumption) (by simp only [rngL_len, List.length_map, List.length_take]; omega)) | ((with_reducible refine g_newO ?_); refine newO (by with_reducible assumption) (fun _ _ _ => ?_)) | ((with_reducible refine g_appO ?_); refine appI (by with_reducible assumption) (by wtm_at "pp") (by wtm_at "co") (fun _ _ => ?_)) | ((with_reducible refine g_setO ?_); refine setI (by with_reducible assumption) (by wtm_at "pp") (by omega) (by wtm_at "co") (fun _ _ => ?_)) | ((with_reducible refine g_appO ?_); refine appO (by with_reducible assumption) (by wtm_at "pp") (by wtm_at "co") (fun _ _ => ?_)) | ((with_reducible refine g_setO ?_); refine setO (by with_reducible assumption) (by wtm_at "pp") (by omega) (by wtm_at "co") (fun _ _ => ?_)) | ((with_reducible refine g_at ?_); refine at_call (by wtm_at "qo") (by omega) (by omega) (fun _ _ => ?_)) | ((with_reducible refine g_row ?_); refine row_call (by wtm_at "ho") ?_) | ((with_reducible refine g_int ?_); refine int_call ?_) | ((with_reducible refine g_isi ?_); first | (refine isi_int rfl ?_) | (refine isi_sqL rfl (by wtm_at "qo") ?_) | (refine isi_sqT rfl (by wtm_at "qo") ?_) | (refine isi_bl rfl ?_) | (refine isi_non rfl ?_) | (refine isi_str rfl ?_)) | ((with_reducible refine g_ned ?_); first | (refine ned_f (dq_lst (by wtm_at "qo")) (dq_lst (by wtm_at "qo")) ?_) | (refine ned_ints (by wtm_at "qo") (by wtm_at "qo") ?_) | (refine nedT_ints (by wtm_at "qo") (by wtm_at "qo") ?_)) | ((with_reducible refine g_eqd ?_); first | (refine eqd_t (dq_lst (by wtm_at "qo")) (dq_lst (by wtm_at "qo")) ?_) | (refine eqd_ints (by wtm_at "qo") (by wtm_at "qo") ?_) | (refine eqdT_ints (by wtm_at "qo") (by wtm_at "qo") ?_)) | ((with_reducible refine g_tyv ?_); refine and_tyv (by wtm_at "qo") ?_) | ((with_reducible refine g_asq ?_); refine and_sq (by wtm_at "qo") ?_) | ((with_reducible refine g_lst ?_); refine ex_lst (by wtm_at "ho") ?_) | ((with_reducible refine g_or ?_); first | (refine ex_or (by wtm_at "qo") ?_) | (refine ex_ort (by wtm_at "qo") ?_)) | ((with_reducible refine g_sq ?_); refine ex_sq (by wtm_at "qo") ?_) | ((with_reducible refine g_sqt ?_); refine ex_sqt (by wtm_at "qo") ?_) | ((with_reducible refine gd_sel ?_); first | (refine sel_p (by wtm_at "pf") ?_) | (refine sel_n (by wtm_at "pf") ?_)) | ((with_reducible refine gn_sel ?_); first | (refine selN_p (by wtm_at "pf") ?_) | (refine selN_n (by wtm_at "pf") ?_)) | ((with_reducible refine gd_selT ?_); first | (refine selT_p (by wtm_at "pf") ?_) | (refine selT_n (by wtm_at "pf") ?_)) | ((with_reducible refine gn_selT ?_); first | (refine selTN_p (by wtm_at "pf") ?_) | (refine selTN_n (by wtm_at "pf") ?_)) | ((with_reducible refine gd_selE ?_); first | (refine selE_p (by wtm_at "pf") ?_) | (refine selE_n (by wtm_at "pf") ?_)) | ((with_reducible refine gn_selE ?_); first | (refine selEN_p (by wtm_at "pf") ?_) | (refine selEN_n (by wtm_at "pf") ?_)) | ((with_reducible refine g_xf ?_); refine xf_at rfl (by wtm_at "ho") ?_) | ((with_reducible refine g_atI ?_); refine ex_at (by first | exact rfl | exact atI_int (by omega) (by wtm_at "pf")) ?_) | ((with_reducible refine g_and ?_); refine And.intro (by wtm_at "co") ?_))
local macro_rules | `(tactic| wtm_at "oo") => `(tactic| repeat (first | wtm_at "xo" | wtm_at "so"))
local macro_rules | `(tactic| wtm_at "cR") => `(tactic| (refine' compRi _ (by with_reducible assumption) (by omega) (fun _ _ _ _ _ => ?_) (fun _ _ _ => ?_); rotate_left; focus (wtm_at "oo")))
section
variable {P : Program} {w : World} {K : PySem.W.Frag} {mg : Str → Option Value} {base : Heap}
/-! ### Adler sums of two parts -/
def okC (n : Int) : Prop := 0 ≤ n ∧ n < 2 ^ 32
instance (n : Int) : Decidable (okC n) := by unfold okC; exact inferInstance
def isAd (n : Int) : Prop := 0 ≤ n ∧ n < 2 ^ 32 ∧ n % 65536 < 65521 ∧ n / 65536 < 65521
instance (n : Int) : Decidable (isAd n) := by unfold isAd; exact inferInstance
def adStep (s : Int × Int) (x : Int) : Int × Int := ((s.1 + x) % 65521, (s.2 + (s.1 + x) % 65521) % 65521)
def adRun (xs : List Int) (s : Int × Int) : Int × Int := xs.foldl adStep s
def ad1 (xs : List Int) : Int := 65536 * (adRun xs (1, 0)).2 + (adRun xs (1, 0)).1
theorem run_take {xs : List Int} {i : Nat} {x : Int} {s : Int × Int} (h : xs[i]? = some x) : adRun (xs.take (i + 1)) s = adStep (adRun (xs.take i) s) x := by
  have e : xs.take (i + 1) = xs.take i ++ [x] := by
    rw [List.take_add_one, h]
    rfl
  rw [e]
  unfold adRun
  rw [List.foldl_append]
  rfl
theorem adStep_lo {s : Int × Int} {x : Int} : 0 ≤ (adStep s x).1 ∧ (adStep s x).1 < 65521 ∧ 0 ≤ (adStep s x).2 ∧ (adStep s x).2 < 65521 :=
  ⟨Int.emod_nonneg _ (by decide), Int.emod_lt_of_pos _ (by decide), Int.emod_nonneg _ (by decide), Int.emod_lt_of_pos _ (by decide)⟩
theorem adRun_in : ∀ (xs : List Int) (s : Int × Int), 0 ≤ s.1 → s.1 < 65521 → 0 ≤ s.2 → s.2 < 65521 → 0 ≤ (adRun xs s).1 ∧ (adRun xs s).1 < 65521 ∧ 0 ≤ (adRun xs s).2 ∧ (adRun xs s).2 < 65521
  | [], s, h1, h2, h3, h4 => ⟨h1, h2, h3, h4⟩
  | x :: r, s, _, _, _, _ => adRun_in r (adStep s x) adStep_lo.1 adStep_lo.2.1 adStep_lo.2.2.1 adStep_lo.2.2.2
def adJ (x y z : Int) : Int := 65536 * ((y / 65536 + x / 65536 + z * (x % 65536 - 1)) % 65521) + (y % 65536 + (x % 65536 - 1)) % 65521
def adF (x y z : Int) : Int := 65536 * ((x / 65536 - y / 65536 - z * (x % 65536 - y % 65536)) % 65521) + (x % 65536 - y % 65536 + 1) % 65521
theorem two_parts {p q : Int} (h1 : 0 ≤ p) (h2 : p < 65521) (h3 : 0 ≤ q) (h4 : q < 65521) : isAd (65536 * q + p) ∧ (65536 * q + p) % 65536 = p ∧ (65536 * q + p) / 65536 = q := by
  unfold isAd
  omega
theorem ad1_is (xs : List Int) : isAd (ad1 xs) ∧ ad1 xs % 65536 = (adRun xs (1, 0)).1 ∧ ad1 xs / 65536 = (adRun xs (1, 0)).2 := by
  obtain ⟨a1, a2, a3, a4⟩ := adRun_in xs (1, 0) (by decide) (by decide) (by decide) (by decide)
  exact two_parts a1 a2 a3 a4
theorem mM {x : Int} : 0 ≤ x % 65521 ∧ x % 65521 < 65521 := ⟨Int.emod_nonneg _ (by decide), Int.emod_lt_of_pos _ (by decide)⟩
theorem adJ_is (x y z : Int) : isAd (adJ x y z) ∧ adJ x y z % 65536 = (y % 65536 + (x % 65536 - 1)) % 65521 ∧ adJ x y z / 65536 = (y / 65536 + x / 65536 + z * (x % 65536 - 1)) % 65521 := two_parts mM.1 mM.2 mM.1 mM.2
theorem mod_off {x y k : Int} (h : x = y + 65521 * k) : x % 65521 = y % 65521 := by
  rw [h, Int.add_mul_emod_self_left]
theorem mod_ex (x : Int) : ∃ q, x % 65521 = x - 65521 * q := ⟨x / 65521, by have := Int.emod_add_mul_ediv x 65521; omega⟩
theorem ad_front {x y z : Int} (hx : isAd x) (hy : isAd y) : adF (adJ x y z) y z = x := by
  obtain ⟨_, e1, e2⟩ := adJ_is x y z
  obtain ⟨h1, h2, h3, h4⟩ := hx
  unfold adF
  rw [e1, e2]
  have hab : x = 65536 * (x / 65536) + x % 65536 := by omega
  have ha0 : 0 ≤ x % 65536 := by omega
  have hb0 : 0 ≤ x / 65536 := by omega
  conv => rhs; rw [hab]
  generalize x % 65536 = a at *
  generalize x / 65536 = b at *
  generalize y % 65536 = c at *
  generalize y / 65536 = d at *
  obtain ⟨q1, f1⟩ := mod_ex (c + (a - 1))
  obtain ⟨q2, f2⟩ := mod_ex (d + b + z * (a - 1))
  rw [f1, f2]
  have g1 : (c + (a - 1) - 65521 * q1 - c + 1) % 65521 = a := by
    rw [mod_off (y := a) (k := -q1) (by omega)]
    exact Int.emod_eq_of_lt ha0 h3
  have g2 : (d + b + z * (a - 1) - 65521 * q2 - d - z * (c + (a - 1) - 65521 * q1 - c)) % 65521 = b := by
    rw [mod_off (y := b) (k := z * q1 - q2) ?_]
    · exact Int.emod_eq_of_lt hb0 h4
    · rw [show c + (a - 1) - 65521 * q1 - c = (a - 1) - 65521 * q1 by omega, Int.mul_sub z (a - 1), Int.mul_left_comm z 65521, Int.mul_sub 65521]
      omega
  rw [g1, g2]
theorem adJ_assoc (x y c n m : Int) : adJ (adJ x y n) c m = adJ x (adJ y c m) (n + m) := by
  obtain ⟨_, e1, e2⟩ := adJ_is x y n
  obtain ⟨_, e3, e4⟩ := adJ_is y c m
  have u : ∀ p q z, adJ p q z = 65536 * ((q / 65536 + p / 65536 + z * (p % 65536 - 1)) % 65521) + (q % 65536 + (p % 65536 - 1)) % 65521 := fun _ _ _ => rfl
  rw [u (adJ x y n), u x (adJ y c m), e1, e2, e3, e4]
  generalize x % 65536 = a0
  generalize x / 65536 = b0
  generalize y % 65536 = a1
  generalize y / 65536 = b1
  generalize c % 65536 = a2
  generalize c / 65536 = b2
  obtain ⟨q1, f1⟩ := mod_ex (a1 + (a0 - 1))
  obtain ⟨q2, f2⟩ := mod_ex (b1 + b0 + n * (a0 - 1))
  obtain ⟨q3, f3⟩ := mod_ex (a2 + (a1 - 1))
  obtain ⟨q4, f4⟩ := mod_ex (b2 + b1 + m * (a1 - 1))
  rw [f1, f2, f3, f4]
  congr 1
  · congr 1
    refine mod_off (k := q4 - q2 - m * q1) ?_
    rw [show a1 + (a0 - 1) - 65521 * q1 - 1 = (a1 - 1) + (a0 - 1) - 65521 * q1 by omega, Int.mul_sub m, Int.mul_add m, Int.add_mul n m, Int.mul_left_comm m 65521, Int.mul_sub 65521]
    omega
  · exact mod_off (k := q3 - q1) (by omega)
theorem adRun_from : ∀ (ys : List Int) (e f : Int) (s t : Int × Int), (t.1 - s.1 - e) % 65521 = 0 → (t.2 - s.2 - f) % 65521 = 0 →
    ((adRun ys t).1 - (adRun ys s).1 - e) % 65521 = 0 ∧ ((adRun ys t).2 - (adRun ys s).2 - (f + ys.length * e)) % 65521 = 0
  | [], e, f, s, t, h1, h2 => ⟨h1, by
    show (t.2 - s.2 - (f + ((0 : Nat) : Int) * e)) % 65521 = 0
    rw [Int.natCast_zero, Int.zero_mul, Int.add_zero]
    exact h2⟩
  | x :: r, e, f, s, t, h1, h2 => by
    obtain ⟨s1, s2⟩ := s
    obtain ⟨t1, t2⟩ := t
    have ih := adRun_from r e (f + e) (adStep (s1, s2) x) (adStep (t1, t2) x) (by
      show ((t1 + x) % 65521 - (s1 + x) % 65521 - e) % 65521 = 0
      dsimp only at h1
      omega) (by
      show ((t2 + (t1 + x) % 65521) % 65521 - (s2 + (s1 + x) % 65521) % 65521 - (f + e)) % 65521 = 0
      dsimp only at h1 h2
      omega)
    refine ⟨ih.1, ?_⟩
    have e1 : f + (((x :: r).length : Nat) : Int) * e = f + e + (r.length : Int) * e := by
      rw [List.length_cons, Int.natCast_add, Int.add_mul]
      omega
    rw [e1]
    exact ih.2
theorem ad_join (xs ys : List Int) : ad1 (xs ++ ys) = adJ (ad1 xs) (ad1 ys) ys.length := by
  obtain ⟨_, e1, e2⟩ := ad1_is xs
  obtain ⟨_, e3, e4⟩ := ad1_is ys
  unfold adJ
  rw [e1, e2, e3, e4]
  obtain ⟨a1, a2, a3, a4⟩ := adRun_in xs (1, 0) (by decide) (by decide) (by decide) (by decide)
  obtain ⟨c1, c2, c3, c4⟩ := adRun_in ys (adRun xs (1, 0)) a1 a2 a3 a4
  have h := adRun_from ys ((adRun xs (1, 0)).1 - 1) ((adRun xs (1, 0)).2) (1, 0) (adRun xs (1, 0)) (by show ((adRun xs (1, 0)).1 - 1 - ((adRun xs (1, 0)).1 - 1)) % 65521 = 0; omega) (by show ((adRun xs (1, 0)).2 - 0 - (adRun xs (1, 0)).2) % 65521 = 0; omega)
  obtain ⟨h1, h2⟩ := h
  unfold ad1
  have e : adRun (xs ++ ys) (1, 0) = adRun ys (adRun xs (1, 0)) := by
    unfold adRun
    rw [List.foldl_append]
  rw [e]
  generalize (ys.length : Int) * _ = w at *
  omega
def bad3 (p q : Prop) [Decidable p] [Decidable q] (z : Int) : Int := if p then if q then if 0 ≤ z ∧ z ≤ 2 ^ 40 then -1 else 2 else 1 else 0


end
end K05

namespace K05
open PySem PySem.Spec PyProof.Rows L2 Bel
local macro_rules | `(tactic| wtm_at "xs") => `(tactic| simp only [x_next, x_seq, x_brk, x_cont, x_drop, x_ret, x_retN, x_if, sel_t, sel_f, selE_t, selE_f, selT_t, selT_f, selC_t, selC_f, x_test, x_tB, x_op, x_un, x_var, x_c, x_cb, x_nil, x_cons, x_rI, x_rI0, x_rU, x_rEq, x_rNe, x_rIxL, x_rIxT, x_rSlL, x_rCat, x_rRep, x_rApp, x_bm, x_bm0, x_sl, x_nopart, x_part, x_tup, x_lst, x_call, x_callS, x_asg, x_gname, x_gtup, x_gnil, x_gcons, x_gsub, x_setL, x_aug, x_ipI, x_ipC, x_bits, x_getL, x_augS, x_and, x_or, x_not, x_k, x_andV, x_orV, x_notV, x_ife, x_chain, x_for, x_ilist, x_itup, x_ienum, x_irng1, x_irng2, x_irev, x_lc, x_yes, wipe_nil, wipe_cons, List.map_cons, List.map_nil, x_misc, x_misc2, x_rz, lookup_at, Bool.not_true, Bool.not_false, decide_true, decide_false, not_true, not_false_eq_true, and_assoc, exists_and_left, exists_eq_left', exists_eq_left, exists_eq', exists_eq_right', exists_eq_right, V.int.injEq, V.ref.injEq, V.bl.injEq, V.str.injEq, List.cons.injEq, and_true, true_and, and_self, Option.some.injEq, List.cons_append, List.nil_append, List.append_nil, List.getElem?_cons_zero, List.getElem?_cons_succ, List.set_cons_zero, List.set_cons_succ, reduceCtorEq, false_and, and_false, exists_false, exists_const, or_false, false_or, scal_ii, scal_bb, scal_ss, List.length_cons, List.length_nil, Int.reduceToNat, Int.reducePow])
local macro_rules | `(tactic| k_call_by "xs" $h:term) => `(tactic| simp only [$h:term, x_next, x_seq, x_brk, x_cont, x_drop, x_ret, x_retN, x_if, sel_t, sel_f, selE_t, selE_f, selT_t, selT_f, selC_t, selC_f, x_test, x_tB, x_op, x_un, x_var, x_c, x_cb, x_nil, x_cons, x_rI, x_rI0, x_rU, x_rEq, x_rNe, x_rIxL, x_rIxT, x_rSlL, x_rCat, x_rRep, x_rApp, x_bm, x_bm0, x_sl, x_nopart, x_part, x_tup, x_lst, x_call, x_callS, x_asg, x_gname, x_gtup, x_gnil, x_gcons, x_gsub, x_setL, x_aug, x_ipI, x_ipC, x_bits, x_getL, x_augS, x_and, x_or, x_not, x_k, x_andV, x_orV, x_notV, x_ife, x_chain, x_for, x_ilist, x_itup, x_ienum, x_irng1, x_irng2, x_irev, x_lc, x_yes, wipe_nil, wipe_cons, List.map_cons, List.map_nil, x_misc, x_misc2, x_rz, lookup_at, Bool.not_true, Bool.not_false, decide_true, decide_false, not_true, not_false_eq_true, and_assoc, exists_and_left, exists_eq_left', exists_eq_left, exists_eq', exists_eq_right', exists_eq_right, V.int.injEq, V.ref.injEq, V.bl.injEq, V.str.injEq, List.cons.injEq, and_true, true_and, and_self, Option.some.injEq, List.cons_append, List.nil_append, List.append_nil, List.getElem?_cons_zero, List.getElem?_cons_succ, List.set_cons_zero, List.set_cons_succ, reduceCtorEq, false_and, and_false, exists_false, exists_const, or_false, false_or, scal_ii, scal_bb, scal_ss, List.length_cons, List.length_nil, Int.reduceToNat, Int.reducePow])
local macro_rules | `(tactic| wtm_at "hp") => `(tactic| first | (with_reducible assumption) | exact upd_same | (refine upd_keep (by with_reducible assumption) ?_; wtm_at "hp") | (refine Same.get (by with_reducible assumption) ?_; wtm_at "hp") | (refine upd_other (by first | (with_reducible assumption) | exact Ne.symm (by with_reducible assumption)) ?_; wtm_at "hp"))
local macro_rules | `(tactic| wtm_at "sq") => `(tactic| first | (with_reducible assumption) | exact SqL.of (by wtm_at "hp") | exact SqT.of (by wtm_at "hp") | (refine Same.seq (same_upd (by with_reducible assumption)) ?_; wtm_at "sq") | (refine Same.seq (by with_reducible assumption) ?_; wtm_at "sq") | (refine Same.seqT (same_upd (by with_reducible assumption)) ?_; wtm_at "sq") | (refine Same.seqT (by with_reducible assumption) ?_; wtm_at "sq"))
local macro_rules | `(tactic| wtm_at "cl") => `(tactic| first | (with_reducible assumption) | omega | (exact cmul_r (by omega) (by omega)) | (exact cmul_l (by omega) (by omega)) | (exact cdiv_ok (by omega) (by omega)) | (exact cpow_ok (by decide)) | (exact ⟨by omega, by omega, by omega⟩) | decide | (exact ⟨by omega, by omega⟩) | (simp only [List.length_append, List.length_map, List.length_cons, List.length_nil, rngL_len, sizeLine_eq]; omega) | wtm_at "hp" | wtm_at "sq")
local macro_rules | `(tactic| wtm_at "pf") => `(tactic| first | (with_reducible assumption) | omega | (simp only [List.length_append, List.length_map, List.length_cons, List.length_nil, rngL_len]; omega) | (with_reducible rfl) | (with_reducible trivial) | (with_reducible decide))
local macro_rules | `(tactic| wtm_at "st") => `(tactic| first | ((with_reducible refine g_at ?_); refine at_call (by wtm_at "sq") (by omega) (by omega) (fun _ _ => ?_)) | ((with_reducible refine g_row ?_); refine row_call (by wtm_at "hp") ?_) | ((with_reducible refine g_int ?_); refine int_call ?_) | ((with_reducible refine g_isi ?_); first | (refine isi_int rfl ?_) | (refine isi_lst rfl (by wtm_at "hp") ?_) | (refine isi_tup rfl (by wtm_at "hp") ?_)) | ((with_reducible refine g_ned ?_); refine ned_f (dq_lst (by wtm_at "sq")) (dq_lst (by wtm_at "sq")) ?_) | ((with_reducible refine g_eqd ?_); refine eqd_t (dq_lst (by wtm_at "sq")) (dq_lst (by wtm_at "sq")) ?_) | ((with_reducible refine g_tyv ?_); refine and_tyv (by wtm_at "sq") ?_) | ((with_reducible refine g_asq ?_); refine and_sq (by wtm_at "sq") ?_) | ((with_reducible refine g_lst ?_); refine ex_lst (by wtm_at "hp") ?_) | ((with_reducible refine g_or ?_); first | (refine ex_or (by wtm_at "sq") ?_) | (refine ex_ort (by wtm_at "sq") ?_)) | ((with_reducible refine g_sq ?_); refine ex_sq (by wtm_at "sq") ?_) | ((with_reducible refine g_sqt ?_); refine ex_sqt (by wtm_at "sq") ?_) | ((with_reducible refine gd_sel ?_); first | (refine sel_p (by wtm_at "pf") ?_) | (refine sel_n (by wtm_at "pf") ?_)) | ((with_reducible refine gn_sel ?_); first | (refine selN_p (by wtm_at "pf") ?_) | (refine selN_n (by wtm_at "pf") ?_)) | ((with_reducible refine gd_selT ?_); first | (refine selT_p (by wtm_at "pf") ?_) | (refine selT_n (by wtm_at "pf") ?_)) | ((with_reducible refine gn_selT ?_); first | (refine selTN_p (by wtm_at "pf") ?_) | (refine selTN_n (by wtm_at "pf") ?_)) | ((with_reducible refine gd_selE ?_); first | (refine selE_p (by wtm_at "pf") ?_) | (refine selE_n (by wtm_at "pf") ?_)) | ((with_reducible refine gn_selE ?_); first | (refine selEN_p (by wtm_at "pf") ?_) | (refine selEN_n (by wtm_at "pf") ?_)) | ((with_reducible refine g_xf ?_); refine xf_at rfl (by wtm_at "hp") ?_) | ((with_reducible refine g_atI ?_); refine ex_at (by first | exact rfl | exact atI_int (by omega) (by wtm_at "pf")) ?_) | ((with_reducible refine g_and ?_); refine And.intro (by wtm_at "cl") ?_) | ((with_reducible refine g_new ?_); intro _ _))
local macro_rules | `(tactic| wtm_at "go") => `(tactic| repeat (first | wtm_at "xs" | wtm_at "st"))
local macro_rules | `(tactic| wtm_at "xo") => `(tactic| simp only [x_next, x_seq, x_brk, x_cont, x_drop, x_ret, x_retN, x_if, sel_t, sel_f, selE_t, selE_f, selT_t, selT_f, selC_t, selC_f, x_test, x_tB, x_op, x_un, x_var, x_c, x_cb, x_nil, x_cons, x_rI, x_rI0, x_rU, x_rEq, x_rNe, x_rIxL, x_rIxT, n_rSlL, n_rCat, n_rRep, n_rApp, x_bm, x_bm0, x_sl, x_nopart, x_part, n_tup, n_lst, x_call, x_callS, x_asg, x_gname, x_gtup, x_gnil, x_gcons, x_gsub, n_setL, x_aug, x_ipI, x_ipC, x_bits, x_getL, x_augS, x_and, x_or, x_not, x_k, x_andV, x_orV, x_notV, x_ife, x_chain, x_for, x_ilist, x_itup, x_ienum, x_irng1, x_irng2, x_irev, x_lc, x_yes, wipe_nil, wipe_cons, List.map_cons, List.map_nil, x_misc, x_misc2, x_rz, lookup_at, Bool.not_true, Bool.not_false, decide_true, decide_false, not_true, not_false_eq_true, and_assoc, exists_and_left, exists_eq_left', exists_eq_left, exists_eq', exists_eq_right', exists_eq_right, V.int.injEq, V.ref.injEq, V.bl.injEq, V.str.injEq, List.cons.injEq, and_true, true_and, and_self, Option.some.injEq, List.cons_append, List.nil_append, List.append_nil, List.getElem?_cons_zero, List.getElem?_cons_succ, List.set_cons_zero, List.set_cons_succ, reduceCtorEq, false_and, and_false, exists_false, exists_const, or_false, false_or, scal_ii, scal_bb, scal_ss, List.length_cons, List.length_nil, Int.reduceToNat, Int.reducePow, n_rLs, t_s1, t_i1, t_i2, t_i3, t_i4, t_i5, x_chain3, x_irng3, x_irevR, x_rg1, x_rg2, ints_cat, ints_app1, ints_len, ints_take, ints_drop, rep_one])
local macro_rules | `(tactic| k_call_by "xo" $h:term) => `(tactic| simp only [$h:term, x_next, x_seq, x_brk, x_cont, x_drop, x_ret, x_retN, x_if, sel_t, sel_f, selE_t, selE_f, selT_t, selT_f, selC_t, selC_f, x_test, x_tB, x_op, x_un, x_var, x_c, x_cb, x_nil, x_cons, x_rI, x_rI0, x_rU, x_rEq, x_rNe, x_rIxL, x_rIxT, n_rSlL, n_rCat, n_rRep, n_rApp, x_bm, x_bm0, x_sl, x_nopart, x_part, n_tup, n_lst, x_call, x_callS, x_asg, x_gname, x_gtup, x_gnil, x_gcons, x_gsub, n_setL, x_aug, x_ipI, x_ipC, x_bits, x_getL, x_augS, x_and, x_or, x_not, x_k, x_andV, x_orV, x_notV, x_ife, x_chain, x_for, x_ilist, x_itup, x_ienum, x_irng1, x_irng2, x_irev, x_lc, x_yes, wipe_nil, wipe_cons, List.map_cons, List.map_nil, x_misc, x_misc2, x_rz, lookup_at, Bool.not_true, Bool.not_false, decide_true, decide_false, not_true, not_false_eq_true, and_assoc, exists_and_left, exists_eq_left', exists_eq_left, exists_eq', exists_eq_right', exists_eq_right, V.int.injEq, V.ref.injEq, V.bl.injEq, V.str.injEq, List.cons.injEq, and_true, true_and, and_self, Option.some.injEq, List.cons_append, List.nil_append, List.append_nil, List.getElem?_cons_zero, List.getElem?_cons_succ, List.set_cons_zero, List.set_cons_succ, reduceCtorEq, false_and, and_false, exists_false, exists_const, or_false, false_or, scal_ii, scal_bb, scal_ss, List.length_cons, List.length_nil, Int.reduceToNat, Int.reducePow, n_rLs, t_s1, t_i1, t_i2, t_i3, t_i4, t_i5, x_chain3, x_irng3, x_irevR, x_rg1, x_rg2, ints_cat, ints_app1, ints_len, ints_take, ints_drop, rep_one])
local macro_rules | `(tactic| wtm_at "mem") => `(tactic| first | (with_reducible exact mem_here) | (with_reducible refine mem_there ?_; wtm_at "mem"))
local macro_rules | `(tactic| wtm_at "pp") => `(tactic| first | (with_reducible exact Put.here) | (with_reducible apply Put.there; wtm_at "pp"))
local macro_rules | `(tactic| wtm_at "ho") => `(tactic| first | (with_reducible assumption) | exact Own.get (by with_reducible assumption) (by wtm_at "mem") | exact Own.base (by with_reducible assumption) (by with_reducible assumption))
local macro_rules | `(tactic| wtm_at "qo") => `(tactic| first | (with_reducible assumption) | exact SqL.of (by wtm_at "ho") | exact sqT_tupI (by wtm_at "ho") | exact sqT_tupS (by wtm_at "ho") | exact SqT.of (by wtm_at "ho") | exact Own.imT (by with_reducible assumption) (by wtm_at "mem") | exact Own.sq (by with_reducible assumption) (by with_reducible assumption) | exact Own.sqT (by with_reducible assumption) (by with_reducible assumption))
local macro_rules | `(tactic| wtm_at "sub") => `(tactic| first | exact List.nil_sublist _ | (with_reducible refine List.Sublist.cons_cons _ ?_; wtm_at "sub") | (refine List.Sublist.cons _ ?_; wtm_at "sub"))
local macro_rules | `(tactic| wtm_at "co") => `(tactic| first | (with_reducible assumption) | omega | (exact cmul_r (by omega) (by omega)) | (exact cmul_l (by omega) (by omega)) | (exact cdiv_ok (by omega) (by omega)) | (exact cpow_ok (by decide)) | (exact ⟨by omega, by omega, by omega⟩) | decide | (exact ⟨by omega, by omega⟩) | (simp only [List.length_append, List.length_map, List.length_cons, List.length_nil, rngL_len, sizeLine_eq]; omega) | wtm_at "ho" | wtm_at "qo")
local macro_rules | `(tactic| wtm_at "so") => `(tactic| first | ((with_reducible refine g_sum ?_); refine sum_call (by wtm_at "qo") ?_) | ((with_reducible refine g_cq ?_); exact cq (by with_reducible assumption) (by simp only [rngL_len, List.length_map, List.length_take]; omega)) | ((with_reducible refine g_newO ?_); refine newO (by with_reducible assumption) (fun _ _ _ => ?_)) | ((with_reducible refine g_appO ?_); refine appI (by with_reducible assumption) (by wtm_at "pp") (by wtm_at "co") (fun _ _ => ?_)) | ((with_reducible refine g_setO ?_); refine setI (by with_reducible assumption) (by wtm_at "pp") (by omega) (by wtm_at "co") (fun _ _ => ?_)) | ((with_reducible refine g_appO ?_); refine appO (by with_reducible assumption) (by wtm_at "pp") (by wtm_at "co") (fun _ _ => ?_)) | ((with_reducible refine g_setO ?_); refine setO (by with_reducible assumption) (by wtm_at "pp") (by omega) (by wtm_at "co") (fun _ _ => ?_)) | ((with_reducible refine g_at ?_); refine at_call (by wtm_at "qo") (by omega) (by omega) (fun _ _ => ?_)) | ((with_reducible refine g_row ?_); refine row_call (by wtm_at "ho") ?_) | ((with_reducible refine g_int ?_); refine int_call ?_) | ((with_reducible refine g_isi ?_); first | (refine isi_int rfl ?_) | (refine isi_sqL rfl (by wtm_at "qo") ?_) | (refine isi_sqT rfl (by wtm_at "qo") ?_) | (refine isi_bl rfl ?_) | (refine isi_non rfl ?_) | (refine isi_str rfl ?_)) | ((with_reducible refine g_ned ?_); first | (refine ned_f (dq_lst (by wtm_at "qo")) (dq_lst (by wtm_at "qo")) ?_) | (refine ned_ints (by wtm_at "qo") (by wtm_at "qo") ?_) | (refine nedT_ints (by wtm_at "qo") (by wtm_at "qo") ?_)) | ((with_reducible refine g_eqd ?_); first | (refine eqd_t (dq_lst (by wtm_at "qo")) (dq_lst (by wtm_at "qo")) ?_) | (refine eqd_ints (by wtm_at "qo") (by wtm_at "qo") ?_) | (refine eqdT_ints (by wtm_at "qo") (by wtm_at "qo") ?_)) | ((with_reducible refine g_tyv ?_); refine and_tyv (by wtm_at "qo") ?_) | ((with_reducible refine g_asq ?_); refine and_sq (by wtm_at "qo") ?_) | ((with_reducible refine g_lst ?_); refine ex_lst (by wtm_at "ho") ?_) | ((with_reducible refine g_or ?_); first | (refine ex_or (by wtm_at "qo") ?_) | (refine ex_ort (by wtm_at "qo") ?_)) | ((with_reducible refine g_sq ?_); refine ex_sq (by wtm_at "qo") ?_) | ((with_reducible refine g_sqt ?_); refine ex_sqt (by wtm_at "qo") ?_) | ((with_reducible refine gd_sel ?_); first | (refine sel_p (by wtm_at "pf") ?_) | (refine sel_n (by wtm_at "pf") ?_)) | ((with_reducible refine gn_sel ?_); first | (refine selN_p (by wtm_at "pf") ?_) | (refine selN_n (by wtm_at "pf") ?_)) | ((with_reducible refine gd_selT ?_); first | (refine selT_p (by wtm_at "pf") ?_) | (refine selT_n (by wtm_at "pf") ?_)) | ((with_reducible refine gn_selT ?_); first | (refine selTN_p (by wtm_at "pf") ?_) | (refine selTN_n (by wtm_at "pf") ?_)) | ((with_reducible refine gd_selE ?_); first | (refine selE_p (by wtm_at "pf") ?_) | (refine selE_n (by wtm_at "pf") ?_)) | ((with_reducible refine gn_selE ?_); first | (refine selEN_p (by wtm_at "pf") ?_) | (refine selEN_n (by wtm_at "pf") ?_)) | ((with_reducible refine g_xf ?_); refine xf_at rfl (by wtm_at "ho") ?_) | ((with_reducible refine g_atI ?_); refine ex_at (by first | exact rfl | exact atI_int (by omega) (by wtm_at "pf")) ?_) | ((with_reducible refine g_and ?_); refine And.intro (by wtm_at "co") ?_))
local macro_rules | `(tactic| wtm_at "oo") => `(tactic| repeat (first | wtm_at "xo" | wtm_at "so"))
local macro_rules | `(tactic| wtm_at "cR") => `(tactic| (refine' compRi _ (by with_reducible assumption) (by omega) (fun _ _ _ _ _ => ?_) (fun _ _ _ => ?_); rotate_left; focus (wtm_at "oo")))
section
variable {P : Program} {w : World} {K : PySem.W.Frag} {mg : Str → Option Value} {base : Heap}
def sp__is_adler (K : PySem.W.Frag) : Sp := fun vs H Q _ => ∃ (n : Int), vs = [.int n] ∧ Q (.bl (decide (isAd n))) H
theorem ok__is_adler (T : Tx K mg) : Cl P w K mg base 2 "_is_adler" ["number"] (sp__is_adler K) [] := by
  obtain ⟨gm, fd, F⟩ := T.d__is_adler
  refine ⟨_, fd, [], F.ok sc__is_adler (fun vs H Q E h => ?_) (fun cdv A outer s H vs Q E hr h => ⟨_, (PSs.nox (pss_one (ps_ret (by exact (pe_and (pe_cl (ok__is_crc T) (hr.mono (by decide)) rfl (pa_cons (pv 0) pa_nil)) (pe_and (pe_cmpR op_lt (pe_op op_mod (pv 0) pe_int) (pe_gc rfl T.c__ADLER_MODULUS) (nomark _)) (pe_one (pe_cmpR op_lt (pe_op op_fdiv (pv 0) pe_int) (pe_gc rfl T.c__ADLER_MODULUS) (nomark _))))))))), ?_⟩), gm, F.kp, F.bindsN (fun _ _ _ _ _ _ us hl => match us, hl with | [_], _ => rfl), .nil⟩
  · first | (obtain ⟨rfl, _⟩ := h; rfl) | (obtain ⟨_, rfl, _⟩ := h; rfl) | (obtain ⟨_, _, rfl, _⟩ := h; rfl) | (obtain ⟨_, _, _, rfl, _⟩ := h; rfl) | (obtain ⟨_, _, _, _, rfl, _⟩ := h; rfl) | (obtain ⟨_, _, _, _, _, rfl, _⟩ := h; rfl) | (obtain ⟨_, _, _, _, _, _, rfl, _⟩ := h; rfl) | (obtain ⟨_, _, _, _, _, _, _, rfl, _⟩ := h; rfl) | (obtain ⟨_, _, _, _, _, _, _, _, rfl, _⟩ := h; rfl) | (obtain ⟨_, _, _, _, _, _, _, _, _, rfl, _⟩ := h; rfl) | (obtain ⟨_, _, _, _, _, _, _, _, _, _, rfl, _⟩ := h; rfl) | (obtain ⟨_, _, _, _, _, _, _, _, _, _, _, rfl, _⟩ := h; rfl) | (obtain ⟨_, _, _, _, _, _, _, _, _, _, _, _, rfl, _⟩ := h; rfl) | (obtain ⟨_, _, _, _, _, _, _, _, _, _, _, _, _, rfl, _⟩ := h; rfl) | (obtain ⟨_, _, _, _, _, _, _, _, _, _, _, _, _, _, rfl, _⟩ := h; rfl) | (obtain ⟨_, _, _, _, _, _, _, _, _, _, _, _, _, _, _, rfl, _⟩ := h; rfl) | (obtain ⟨_, _, _, _, _, _, _, _, _, _, _, _, _, _, _, _, rfl, _⟩ := h; rfl) | (obtain ⟨_, _, _, _, _, _, _, _, _, _, _, _, _, _, _, _, _, rfl, _⟩ := h; rfl) | (obtain ⟨_, _, _, _, _, _, _, _, _, _, _, _, _, _, _, _, _, _, rfl, _⟩ := h; rfl) | (obtain ⟨_, _, _, _, _, _, _, _, _, _, _, _, _, _, _, _, _, _, _, rfl, _⟩ := h; rfl) | (obtain ⟨_, _, _, _, _, _, _, _, _, _, _, _, _, _, _, _, _, _, _, _, rfl, _⟩ := h; rfl) | (obtain ⟨_, _, _, _, _, _, _, _, _, _, _, _, _, _, _, _, _, _, _, _, _, rfl, _⟩ := h; rfl)
  · obtain ⟨n, rfl, q⟩ := h
    k_call_by "xo" st__is_adler
    refine ⟨n, rfl, fun b hb => ?_⟩
    wtm_at "oo"
    have fin : ∀ r : Bool, (r = true ↔ isAd n) → Q (.bl r) H := fun r hr => by
      have : r = decide (isAd n) := by
        rw [Bool.eq_iff_iff, hr, decide_eq_true_iff]
      rw [this]
      exact q
    unfold isAd at fin
    refine selE (fun c => ?_) (fun c => ?_)
    · wtm_at "oo"
      have h1 := hb.mp c
      refine selE_d (fun c2 => ?_) (fun c2 => ?_)
      · wtm_at "oo"
        exact fin _ (by simp; omega)
      · wtm_at "oo"
        exact fin _ (by simp; omega)
    · wtm_at "oo"
      have h1 : ¬ (0 ≤ n ∧ n < 2 ^ 32) := fun z => by
        rw [hb.mpr z] at c
        cases c
      exact fin _ (by simp; omega)
def sp__check_three (K : PySem.W.Frag) : Sp := fun vs H Q E => ∃ (p q : Prop) (_ : Decidable p) (_ : Decidable q) (z : Int), vs = [.bl (decide p), .bl (decide q), .int z] ∧ (bad3 p q z = -1 → Q .non H) ∧
  (bad3 p q z ≠ -1 → ∀ d, H d = none → E (.ref (He.ga K "OutOfRange")) (some d) (upd H d (.xd [("at", .int (bad3 p q z))])))
theorem ok__check_three (T : Tx K mg) : Cl P w K mg base 3 "_check_three" ["is_first_valid", "is_second_valid", "size"] (sp__check_three K) [] := by
  obtain ⟨gm, fd, F⟩ := T.d__check_three
  refine ⟨_, fd, [], F.ok sc__check_three (fun vs H Q E h => ?_) (fun cdv A outer s H vs Q E hr h => ⟨_, (pss_cons (ps_if (pt_not (pt_val (pv 0)))
 (pss_one (ps_raiseB T.x_OutOfRange (ok_init T) (hr.mono (by decide)) (takes_of rfl rfl rfl rfl) (by exact (pa_cons pe_int pa_nil))))
 pss_nil)
 (pss_cons (ps_if (pt_not (pt_val (pv 1)))
 (pss_one (ps_raiseB T.x_OutOfRange (ok_init T) (hr.mono (by decide)) (takes_of rfl rfl rfl rfl) (by exact (pa_cons pe_int pa_nil))))
 pss_nil)
 (pss_one (ps_if (pt_not (pt_chain op_le op_le pe_int (pv 2) (pe_op op_pow pe_int pe_int)))
 (pss_one (ps_raiseB T.x_OutOfRange (ok_init T) (hr.mono (by decide)) (takes_of rfl rfl rfl rfl) (by exact (pa_cons pe_int pa_nil))))
 pss_nil)))), ?_⟩), gm, F.kp, F.bindsN (fun _ _ _ _ _ _ us hl => match us, hl with | [_, _, _], _ => rfl), .nil⟩
  · first | (obtain ⟨rfl, _⟩ := h; rfl) | (obtain ⟨_, rfl, _⟩ := h; rfl) | (obtain ⟨_, _, rfl, _⟩ := h; rfl) | (obtain ⟨_, _, _, rfl, _⟩ := h; rfl) | (obtain ⟨_, _, _, _, rfl, _⟩ := h; rfl) | (obtain ⟨_, _, _, _, _, rfl, _⟩ := h; rfl) | (obtain ⟨_, _, _, _, _, _, rfl, _⟩ := h; rfl) | (obtain ⟨_, _, _, _, _, _, _, rfl, _⟩ := h; rfl) | (obtain ⟨_, _, _, _, _, _, _, _, rfl, _⟩ := h; rfl) | (obtain ⟨_, _, _, _, _, _, _, _, _, rfl, _⟩ := h; rfl) | (obtain ⟨_, _, _, _, _, _, _, _, _, _, rfl, _⟩ := h; rfl) | (obtain ⟨_, _, _, _, _, _, _, _, _, _, _, rfl, _⟩ := h; rfl) | (obtain ⟨_, _, _, _, _, _, _, _, _, _, _, _, rfl, _⟩ := h; rfl) | (obtain ⟨_, _, _, _, _, _, _, _, _, _, _, _, _, rfl, _⟩ := h; rfl) | (obtain ⟨_, _, _, _, _, _, _, _, _, _, _, _, _, _, rfl, _⟩ := h; rfl) | (obtain ⟨_, _, _, _, _, _, _, _, _, _, _, _, _, _, _, rfl, _⟩ := h; rfl) | (obtain ⟨_, _, _, _, _, _, _, _, _, _, _, _, _, _, _, _, rfl, _⟩ := h; rfl) | (obtain ⟨_, _, _, _, _, _, _, _, _, _, _, _, _, _, _, _, _, rfl, _⟩ := h; rfl) | (obtain ⟨_, _, _, _, _, _, _, _, _, _, _, _, _, _, _, _, _, _, rfl, _⟩ := h; rfl) | (obtain ⟨_, _, _, _, _, _, _, _, _, _, _, _, _, _, _, _, _, _, _, rfl, _⟩ := h; rfl) | (obtain ⟨_, _, _, _, _, _, _, _, _, _, _, _, _, _, _, _, _, _, _, _, rfl, _⟩ := h; rfl) | (obtain ⟨_, _, _, _, _, _, _, _, _, _, _, _, _, _, _, _, _, _, _, _, _, rfl, _⟩ := h; rfl)
  · obtain ⟨p, q, ip, iq, z, rfl, qq, qe⟩ := h
    k_call_by "xo" st__check_three
    unfold bad3 at qq qe
    by_cases cp : p
    · rw [if_pos cp] at qq qe
      wtm_at "oo"
      by_cases cq : q
      · rw [if_pos cq] at qq qe
        wtm_at "oo"
        refine selE_d (fun c1 => ?_) (fun c1 => ?_)
        · wtm_at "oo"
          refine sel_nd (fun c2 => ?_) (fun c2 => ?_)
          · rw [if_neg (by omega)] at qe
            wtm_at "oo"
            exact bz T.x_OutOfRange (qe (by decide))
          · rw [if_pos (by omega)] at qq
            wtm_at "oo"
            exact qq rfl
        · rw [if_neg (by omega)] at qe
          wtm_at "oo"
          exact bz T.x_OutOfRange (qe (by decide))
      · rw [if_neg cq] at qe
        wtm_at "oo"
        exact bz T.x_OutOfRange (qe (by decide))
    · rw [if_neg cp] at qe
      wtm_at "oo"
      exact bz T.x_OutOfRange (qe (by decide))
def sp__product (K : PySem.W.Frag) : Sp := fun vs H Q _ => ∃ (a b : Nat), vs = [.int (a : Int), .int (b : Int)] ∧ Q (.int (mulN a b : Nat)) H
theorem xor_nat (a b : Nat) : Builtin.bitXor (a : Int) (b : Int) = ((a ^^^ b : Nat) : Int) := by
  rw [Bits.bitXor_pp (by omega) (by omega)]
  rfl
theorem and_nat (a k : Nat) : Builtin.bitAnd (a : Int) (2 ^ k - 1) = ((a % 2 ^ k : Nat) : Int) := by
  rw [Bits.bitAnd_mask k (by omega)]
  simp
theorem and_one (r : Nat) : Builtin.bitAnd (r : Int) 1 = ((r % 2 : Nat) : Int) := and_nat r 1
theorem half_is (r : Nat) : (r : Int) / (2 : Int) = ((r >>> 1 : Nat) : Int) := by
  rw [Nat.shiftRight_eq_div_pow]
  omega
theorem xor_poly (v : Nat) : Builtin.bitXor (v : Int) 3988292384 = ((v ^^^ poly : Nat) : Int) := xor_nat v poly
theorem ok__product (T : Tx K mg) : Cl P w K mg base 1 "_product" ["first", "second"] (sp__product K) [] := by
  obtain ⟨gm, fd, F⟩ := T.d__product
  refine ⟨_, fd, [], F.ok sc__product (fun vs H Q E h => ?_) (fun cdv A outer s H vs Q E hr h => ⟨_, (PSs.nox (pss_cons (ps_set (i := 2) sc__product.nd rfl (Or.inl rfl) (by exact pe_int))
 (pss_cons (ps_for PassesOwn.never rfl (pi_range1 rfl T.b_range (pa_cons pe_int pa_nil)) (pg_name (i := 3) sc__product.nd rfl (Or.inl rfl))
 (pss_cons (ps_if (pt_cmpR op_eq (pe_op op_and (pe_op op_shr (pv 0) (pe_op op_sub pe_int (pv 3))) pe_int) pe_int (nomark _))
 (pss_one (ps_aug (i := 2) sc__product.nd rfl (Or.inl rfl) (by exact (pv 1)) ip_xor))
 pss_nil)
 (pss_cons (ps_set (i := 4) sc__product.nd rfl (Or.inl rfl) (by exact (pe_op op_and (pv 1) pe_int)))
 (pss_cons (ps_aug (i := 1) sc__product.nd rfl (Or.inl rfl) (by exact pe_int) ip_shr)
 (pss_one (ps_if (pt_cmpR op_eq (pv 4) pe_int (nomark _))
 (pss_one (ps_aug (i := 1) sc__product.nd rfl (Or.inl rfl) (by exact (pe_gc rfl T.c__CRC_POLYNOMIAL)) ip_xor))
 pss_nil))))))
 (pss_one (ps_ret (by exact (pv 2))))))), ?_⟩), gm, F.kp, F.bindsN (fun _ _ _ _ _ _ us hl => match us, hl with | [_, _], _ => rfl), .nil⟩
  · first | (obtain ⟨rfl, _⟩ := h; rfl) | (obtain ⟨_, rfl, _⟩ := h; rfl) | (obtain ⟨_, _, rfl, _⟩ := h; rfl) | (obtain ⟨_, _, _, rfl, _⟩ := h; rfl) | (obtain ⟨_, _, _, _, rfl, _⟩ := h; rfl) | (obtain ⟨_, _, _, _, _, rfl, _⟩ := h; rfl) | (obtain ⟨_, _, _, _, _, _, rfl, _⟩ := h; rfl) | (obtain ⟨_, _, _, _, _, _, _, rfl, _⟩ := h; rfl) | (obtain ⟨_, _, _, _, _, _, _, _, rfl, _⟩ := h; rfl) | (obtain ⟨_, _, _, _, _, _, _, _, _, rfl, _⟩ := h; rfl) | (obtain ⟨_, _, _, _, _, _, _, _, _, _, rfl, _⟩ := h; rfl) | (obtain ⟨_, _, _, _, _, _, _, _, _, _, _, rfl, _⟩ := h; rfl) | (obtain ⟨_, _, _, _, _, _, _, _, _, _, _, _, rfl, _⟩ := h; rfl) | (obtain ⟨_, _, _, _, _, _, _, _, _, _, _, _, _, rfl, _⟩ := h; rfl) | (obtain ⟨_, _, _, _, _, _, _, _, _, _, _, _, _, _, rfl, _⟩ := h; rfl) | (obtain ⟨_, _, _, _, _, _, _, _, _, _, _, _, _, _, _, rfl, _⟩ := h; rfl) | (obtain ⟨_, _, _, _, _, _, _, _, _, _, _, _, _, _, _, _, rfl, _⟩ := h; rfl) | (obtain ⟨_, _, _, _, _, _, _, _, _, _, _, _, _, _, _, _, _, rfl, _⟩ := h; rfl) | (obtain ⟨_, _, _, _, _, _, _, _, _, _, _, _, _, _, _, _, _, _, rfl, _⟩ := h; rfl) | (obtain ⟨_, _, _, _, _, _, _, _, _, _, _, _, _, _, _, _, _, _, _, rfl, _⟩ := h; rfl) | (obtain ⟨_, _, _, _, _, _, _, _, _, _, _, _, _, _, _, _, _, _, _, _, rfl, _⟩ := h; rfl) | (obtain ⟨_, _, _, _, _, _, _, _, _, _, _, _, _, _, _, _, _, _, _, _, _, rfl, _⟩ := h; rfl)
  · obtain ⟨a, b, rfl, q⟩ := h
    k_call_by "xo" st__product
    wtm_at "oo"
    refine loop_rangeN (m := 32) rfl (fun j σ H2 => ∃ y3 y4, σ = [some (.int a), some (.int (stepsN j b : Nat)), some (.int (mulAt a b j : Nat)), y3, y4] ∧ H2 = H) ⟨none, none, rfl, rfl⟩ ?_ ?_
    · rintro j σ H2 hj ⟨y3, y4, rfl, rfl⟩
      have e1 : stepsN (j + 1) b = stepN (stepsN j b) := stepsN_add j 1 b
      have e6 : mulAt a b (j + 1) = mulAt a b j ^^^ (if a / 2 ^ (31 - j) % 2 = 1 then stepsN j b else 0) := rfl
      rw [e1, e6]
      generalize stepsN j b = r
      generalize mulAt a b j = m
      have e7 : (a : Int) / 2 ^ (31 - (0 + (j : Int))).toNat = ((a / 2 ^ (31 - j) : Nat) : Int) := by
        rw [show (31 - (0 + (j : Int))).toNat = 31 - j by omega, Int.natCast_ediv, Int.natCast_pow]
        rfl
      unfold stepN
      wtm_at "oo"
      rw [e7, and_one]
      by_cases c : a / 2 ^ (31 - j) % 2 = 1
      · rw [if_pos c, c]
        wtm_at "oo"
        rw [and_one]
        by_cases c2 : r % 2 = 1
        · rw [if_pos c2, c2]
          wtm_at "oo"
          rw [half_is, xor_poly, xor_nat]
          exact ⟨rfl, rfl⟩
        · rw [if_neg c2, show r % 2 = 0 by omega, Nat.xor_zero]
          wtm_at "oo"
          exact xor_nat m r
      · rw [if_neg c, show a / 2 ^ (31 - j) % 2 = 0 by omega, Nat.xor_zero]
        wtm_at "oo"
        rw [and_one]
        by_cases c2 : r % 2 = 1
        · rw [if_pos c2, c2]
          wtm_at "oo"
          rw [half_is, xor_poly]
        · rw [if_neg c2, show r % 2 = 0 by omega, Nat.xor_zero]
          wtm_at "oo"
          exact half_is r
    · rintro σ H2 ⟨y3, y4, rfl, rfl⟩
      wtm_at "oo"
      exact q
def sp__moved (K : PySem.W.Frag) : Sp := fun vs H Q _ => ∃ (a b t : Nat), vs = [.int (a : Int), .int (b : Int), .int (t : Int)] ∧ Q (.int (movN a b t : Nat)) H
theorem ok__moved (T : Tx K mg) : Cl P w K mg base 2 "_moved" ["crc", "factor", "times"] (sp__moved K) [] := by
  obtain ⟨gm, fd, F⟩ := T.d__moved
  refine ⟨_, fd, [], F.ok sc__moved (fun vs H Q E h => ?_) (fun cdv A outer s H vs Q E hr h => ⟨_, (PSs.nox (pss_cons (ps_while PassesOwn.never (pt_cmpR op_gt (pv 2) pe_int (nomark _))
 (pss_cons (ps_if (pt_cmpR op_eq (pe_op op_and (pv 2) pe_int) pe_int (nomark _))
 (pss_one (ps_set (i := 0) sc__moved.nd rfl (Or.inl rfl) (by exact (pe_cl (ok__product T) (hr.mono (by decide)) rfl (pa_cons (pv 0) (pa_cons (pv 1) pa_nil))))))
 pss_nil)
 (pss_cons (ps_set (i := 1) sc__moved.nd rfl (Or.inl rfl) (by exact (pe_cl (ok__product T) (hr.mono (by decide)) rfl (pa_cons (pv 1) (pa_cons (pv 1) pa_nil)))))
 (pss_one (ps_aug (i := 2) sc__moved.nd rfl (Or.inl rfl) (by exact pe_int) ip_shr)))))
 (pss_one (ps_ret (by exact (pv 0)))))), ?_⟩), gm, F.kp, F.bindsN (fun _ _ _ _ _ _ us hl => match us, hl with | [_, _, _], _ => rfl), .nil⟩
  · first | (obtain ⟨rfl, _⟩ := h; rfl) | (obtain ⟨_, rfl, _⟩ := h; rfl) | (obtain ⟨_, _, rfl, _⟩ := h; rfl) | (obtain ⟨_, _, _, rfl, _⟩ := h; rfl) | (obtain ⟨_, _, _, _, rfl, _⟩ := h; rfl) | (obtain ⟨_, _, _, _, _, rfl, _⟩ := h; rfl) | (obtain ⟨_, _, _, _, _, _, rfl, _⟩ := h; rfl) | (obtain ⟨_, _, _, _, _, _, _, rfl, _⟩ := h; rfl) | (obtain ⟨_, _, _, _, _, _, _, _, rfl, _⟩ := h; rfl) | (obtain ⟨_, _, _, _, _, _, _, _, _, rfl, _⟩ := h; rfl) | (obtain ⟨_, _, _, _, _, _, _, _, _, _, rfl, _⟩ := h; rfl) | (obtain ⟨_, _, _, _, _, _, _, _, _, _, _, rfl, _⟩ := h; rfl) | (obtain ⟨_, _, _, _, _, _, _, _, _, _, _, _, rfl, _⟩ := h; rfl) | (obtain ⟨_, _, _, _, _, _, _, _, _, _, _, _, _, rfl, _⟩ := h; rfl) | (obtain ⟨_, _, _, _, _, _, _, _, _, _, _, _, _, _, rfl, _⟩ := h; rfl) | (obtain ⟨_, _, _, _, _, _, _, _, _, _, _, _, _, _, _, rfl, _⟩ := h; rfl) | (obtain ⟨_, _, _, _, _, _, _, _, _, _, _, _, _, _, _, _, rfl, _⟩ := h; rfl) | (obtain ⟨_, _, _, _, _, _, _, _, _, _, _, _, _, _, _, _, _, rfl, _⟩ := h; rfl) | (obtain ⟨_, _, _, _, _, _, _, _, _, _, _, _, _, _, _, _, _, _, rfl, _⟩ := h; rfl) | (obtain ⟨_, _, _, _, _, _, _, _, _, _, _, _, _, _, _, _, _, _, _, rfl, _⟩ := h; rfl) | (obtain ⟨_, _, _, _, _, _, _, _, _, _, _, _, _, _, _, _, _, _, _, _, rfl, _⟩ := h; rfl) | (obtain ⟨_, _, _, _, _, _, _, _, _, _, _, _, _, _, _, _, _, _, _, _, _, rfl, _⟩ := h; rfl)
  · obtain ⟨a, b, t, rfl, q⟩ := h
    k_call_by "xo" st__moved
    refine loop_while (fun σ H' => ∃ a2 b2 t2 : Nat, σ = [some (.int (a2 : Int)), some (.int (b2 : Int)), some (.int (t2 : Int))] ∧ H' = H ∧ movN a2 b2 t2 = movN a b t) (fun σ _ => match σ with
      | [_, _, some (.int k)] => k.toNat
      | _ => 0) ⟨a, b, t, rfl, rfl, rfl⟩ ?_
    rintro σ H' ⟨a2, b2, t2, rfl, rfl, e⟩
    wtm_at "oo"
    refine wh_d (fun c => ?_) (fun c => ?_)
    · have ht : t2 ≠ 0 := by omega
      rw [movN_pos ht] at e
      have e3 : (t2 : Int) / (2 : Int) = ((t2 / 2 : Nat) : Int) := by omega
      wtm_at "oo"
      rw [and_one]
      by_cases c2 : t2 % 2 = 1
      · rw [if_pos c2] at e
        rw [c2]
        wtm_at "oo"
        refine ⟨a2, b2, rfl, ?_⟩
        wtm_at "oo"
        refine ⟨b2, b2, rfl, ?_⟩
        wtm_at "oo"
        refine ⟨⟨_, rfl, _, rfl, _, e3, e⟩, ?_⟩
        show ((t2 : Int) / 2).toNat < (t2 : Int).toNat
        omega
      · rw [if_neg c2] at e
        rw [show t2 % 2 = 0 by omega]
        wtm_at "oo"
        refine ⟨b2, b2, rfl, ?_⟩
        wtm_at "oo"
        refine ⟨⟨_, rfl, _, rfl, _, e3, e⟩, ?_⟩
        show ((t2 : Int) / 2).toNat < (t2 : Int).toNat
        omega
    · obtain rfl : t2 = 0 := by omega
      rw [movN_zero] at e
      wtm_at "oo"
      rw [e]
      exact q


end
end K05

namespace K05
open PySem PySem.Spec PyProof.Rows L2 Bel
local macro_rules | `(tactic| wtm_at "xs") => `(tactic| simp only [x_next, x_seq, x_brk, x_cont, x_drop, x_ret, x_retN, x_if, sel_t, sel_f, selE_t, selE_f, selT_t, selT_f, selC_t, selC_f, x_test, x_tB, x_op, x_un, x_var, x_c, x_cb, x_nil, x_cons, x_rI, x_rI0, x_rU, x_rEq, x_rNe, x_rIxL, x_rIxT, x_rSlL, x_rCat, x_rRep, x_rApp, x_bm, x_bm0, x_sl, x_nopart, x_part, x_tup, x_lst, x_call, x_callS, x_asg, x_gname, x_gtup, x_gnil, x_gcons, x_gsub, x_setL, x_aug, x_ipI, x_ipC, x_bits, x_getL, x_augS, x_and, x_or, x_not, x_k, x_andV, x_orV, x_notV, x_ife, x_chain, x_for, x_ilist, x_itup, x_ienum, x_irng1, x_irng2, x_irev, x_lc, x_yes, wipe_nil, wipe_cons, List.map_cons, List.map_nil, x_misc, x_misc2, x_rz, lookup_at, Bool.not_true, Bool.not_false, decide_true, decide_false, not_true, not_false_eq_true, and_assoc, exists_and_left, exists_eq_left', exists_eq_left, exists_eq', exists_eq_right', exists_eq_right, V.int.injEq, V.ref.injEq, V.bl.injEq, V.str.injEq, List.cons.injEq, and_true, true_and, and_self, Option.some.injEq, List.cons_append, List.nil_append, List.append_nil, List.getElem?_cons_zero, List.getElem?_cons_succ, List.set_cons_zero, List.set_cons_succ, reduceCtorEq, false_and, and_false, exists_false, exists_const, or_false, false_or, scal_ii, scal_bb, scal_ss, List.length_cons, List.length_nil, Int.reduceToNat, Int.reducePow])
local macro_rules | `(tactic| k_call_by "xs" $h:term) => `(tactic| simp only [$h:term, x_next, x_seq, x_brk, x_cont, x_drop, x_ret, x_retN, x_if, sel_t, sel_f, selE_t, selE_f, selT_t, selT_f, selC_t, selC_f, x_test, x_tB, x_op, x_un, x_var, x_c, x_cb, x_nil, x_cons, x_rI, x_rI0, x_rU, x_rEq, x_rNe, x_rIxL, x_rIxT, x_rSlL, x_rCat, x_rRep, x_rApp, x_bm, x_bm0, x_sl, x_nopart, x_part, x_tup, x_lst, x_call, x_callS, x_asg, x_gname, x_gtup, x_gnil, x_gcons, x_gsub, x_setL, x_aug, x_ipI, x_ipC, x_bits, x_getL, x_augS, x_and, x_or, x_not, x_k, x_andV, x_orV, x_notV, x_ife, x_chain, x_for, x_ilist, x_itup, x_ienum, x_irng1, x_irng2, x_irev, x_lc, x_yes, wipe_nil, wipe_cons, List.map_cons, List.map_nil, x_misc, x_misc2, x_rz, lookup_at, Bool.not_true, Bool.not_false, decide_true, decide_false, not_true, not_false_eq_true, and_assoc, exists_and_left, exists_eq_left', exists_eq_left, exists_eq', exists_eq_right', exists_eq_right, V.int.injEq, V.ref.injEq, V.bl.injEq, V.str.injEq, List.cons.injEq, and_true, true_and, and_self, Option.some.injEq, List.cons_append, List.nil_append, List.append_nil, List.getElem?_cons_zero, List.getElem?_cons_succ, List.set_cons_zero, List.set_cons_succ, reduceCtorEq, false_and, and_false, exists_false, exists_const, or_false, false_or, scal_ii, scal_bb, scal_ss, List.length_cons, List.length_nil, Int.reduceToNat, Int.reducePow])
local macro_rules | `(tactic| wtm_at "hp") => `(tactic| first | (with_reducible assumption) | exact upd_same | (refine upd_keep (by with_reducible assumption) ?_; wtm_at "hp") | (refine Same.get (by with_reducible assumption) ?_; wtm_at "hp") | (refine upd_other (by first | (with_reducible assumption) | exact Ne.symm (by with_reducible assumption)) ?_; wtm_at "hp"))
local macro_rules | `(tactic| wtm_at "sq") => `(tactic| first | (with_reducible assumption) | exact SqL.of (by wtm_at "hp") | exact SqT.of (by wtm_at "hp") | (refine Same.seq (same_upd (by with_reducible assumption)) ?_; wtm_at "sq") | (refine Same.seq (by with_reducible assumption) ?_; wtm_at "sq") | (refine Same.seqT (same_upd (by with_reducible assumption)) ?_; wtm_at "sq") | (refine Same.seqT (by with_reducible assumption) ?_; wtm_at "sq"))
local macro_rules | `(tactic| wtm_at "cl") => `(tactic| first | (with_reducible assumption) | omega | (exact cmul_r (by omega) (by omega)) | (exact cmul_l (by omega) (by omega)) | (exact cdiv_ok (by omega) (by omega)) | (exact cpow_ok (by decide)) | (exact ⟨by omega, by omega, by omega⟩) | decide | (exact ⟨by omega, by omega⟩) | (simp only [List.length_append, List.length_map, List.length_cons, List.length_nil, rngL_len, sizeLine_eq]; omega) | wtm_at "hp" | wtm_at "sq")
local macro_rules | `(tactic| wtm_at "pf") => `(tactic| first | (with_reducible assumption) | omega | (simp only [List.length_append, List.length_map, List.length_cons, List.length_nil, rngL_len]; omega) | (with_reducible rfl) | (with_reducible trivial) | (with_reducible decide))
local macro_rules | `(tactic| wtm_at "st") => `(tactic| first | ((with_reducible refine g_at ?_); refine at_call (by wtm_at "sq") (by omega) (by omega) (fun _ _ => ?_)) | ((with_reducible refine g_row ?_); refine row_call (by wtm_at "hp") ?_) | ((with_reducible refine g_int ?_); refine int_call ?_) | ((with_reducible refine g_isi ?_); first | (refine isi_int rfl ?_) | (refine isi_lst rfl (by wtm_at "hp") ?_) | (refine isi_tup rfl (by wtm_at "hp") ?_)) | ((with_reducible refine g_ned ?_); refine ned_f (dq_lst (by wtm_at "sq")) (dq_lst (by wtm_at "sq")) ?_) | ((with_reducible refine g_eqd ?_); refine eqd_t (dq_lst (by wtm_at "sq")) (dq_lst (by wtm_at "sq")) ?_) | ((with_reducible refine g_tyv ?_); refine and_tyv (by wtm_at "sq") ?_) | ((with_reducible refine g_asq ?_); refine and_sq (by wtm_at "sq") ?_) | ((with_reducible refine g_lst ?_); refine ex_lst (by wtm_at "hp") ?_) | ((with_reducible refine g_or ?_); first | (refine ex_or (by wtm_at "sq") ?_) | (refine ex_ort (by wtm_at "sq") ?_)) | ((with_reducible refine g_sq ?_); refine ex_sq (by wtm_at "sq") ?_) | ((with_reducible refine g_sqt ?_); refine ex_sqt (by wtm_at "sq") ?_) | ((with_reducible refine gd_sel ?_); first | (refine sel_p (by wtm_at "pf") ?_) | (refine sel_n (by wtm_at "pf") ?_)) | ((with_reducible refine gn_sel ?_); first | (refine selN_p (by wtm_at "pf") ?_) | (refine selN_n (by wtm_at "pf") ?_)) | ((with_reducible refine gd_selT ?_); first | (refine selT_p (by wtm_at "pf") ?_) | (refine selT_n (by wtm_at "pf") ?_)) | ((with_reducible refine gn_selT ?_); first | (refine selTN_p (by wtm_at "pf") ?_) | (refine selTN_n (by wtm_at "pf") ?_)) | ((with_reducible refine gd_selE ?_); first | (refine selE_p (by wtm_at "pf") ?_) | (refine selE_n (by wtm_at "pf") ?_)) | ((with_reducible refine gn_selE ?_); first | (refine selEN_p (by wtm_at "pf") ?_) | (refine selEN_n (by wtm_at "pf") ?_)) | ((with_reducible refine g_xf ?_); refine xf_at rfl (by wtm_at "hp") ?_) | ((with_reducible refine g_atI ?_); refine ex_at (by first | exact rfl | exact atI_int (by omega) (by wtm_at "pf")) ?_) | ((with_reducible refine g_and ?_); refine And.intro (by wtm_at "cl") ?_) | ((with_reducible refine g_new ?_); intro _ _))
local macro_rules | `(tactic| wtm_at "go") => `(tactic| repeat (first | wtm_at "xs" | wtm_at "st"))
local macro_rules | `(tactic| wtm_at "xo") => `(tactic| simp only [x_next, x_seq, x_brk, x_cont, x_drop, x_ret, x_retN, x_if, sel_t, sel_f, selE_t, selE_f, selT_t, selT_f, selC_t, selC_f, x_test, x_tB, x_op, x_un, x_var, x_c, x_cb, x_nil, x_cons, x_rI, x_rI0, x_rU, x_rEq, x_rNe, x_rIxL, x_rIxT, n_rSlL, n_rCat, n_rRep, n_rApp, x_bm, x_bm0, x_sl, x_nopart, x_part, n_tup, n_lst, x_call, x_callS, x_asg, x_gname, x_gtup, x_gnil, x_gcons, x_gsub, n_setL, x_aug, x_ipI, x_ipC, x_bits, x_getL, x_augS, x_and, x_or, x_not, x_k, x_andV, x_orV, x_notV, x_ife, x_chain, x_for, x_ilist, x_itup, x_ienum, x_irng1, x_irng2, x_irev, x_lc, x_yes, wipe_nil, wipe_cons, List.map_cons, List.map_nil, x_misc, x_misc2, x_rz, lookup_at, Bool.not_true, Bool.not_false, decide_true, decide_false, not_true, not_false_eq_true, and_assoc, exists_and_left, exists_eq_left', exists_eq_left, exists_eq', exists_eq_right', exists_eq_right, V.int.injEq, V.ref.injEq, V.bl.injEq, V.str.injEq, List.cons.injEq, and_true, true_and, and_self, Option.some.injEq, List.cons_append, List.nil_append, List.append_nil, List.getElem?_cons_zero, List.getElem?_cons_succ, List.set_cons_zero, List.set_cons_succ, reduceCtorEq, false_and, and_false, exists_false, exists_const, or_false, false_or, scal_ii, scal_bb, scal_ss, List.length_cons, List.length_nil, Int.reduceToNat, Int.reducePow, n_rLs, t_s1, t_i1, t_i2, t_i3, t_i4, t_i5, x_chain3, x_irng3, x_irevR, x_rg1, x_rg2, ints_cat, ints_app1, ints_len, ints_take, ints_drop, rep_one])
local macro_rules | `(tactic| k_call_by "xo" $h:term) => `(tactic| simp only [$h:term, x_next, x_seq, x_brk, x_cont, x_drop, x_ret, x_retN, x_if, sel_t, sel_f, selE_t, selE_f, selT_t, selT_f, selC_t, selC_f, x_test, x_tB, x_op, x_un, x_var, x_c, x_cb, x_nil, x_cons, x_rI, x_rI0, x_rU, x_rEq, x_rNe, x_rIxL, x_rIxT, n_rSlL, n_rCat, n_rRep, n_rApp, x_bm, x_bm0, x_sl, x_nopart, x_part, n_tup, n_lst, x_call, x_callS, x_asg, x_gname, x_gtup, x_gnil, x_gcons, x_gsub, n_setL, x_aug, x_ipI, x_ipC, x_bits, x_getL, x_augS, x_and, x_or, x_not, x_k, x_andV, x_orV, x_notV, x_ife, x_chain, x_for, x_ilist, x_itup, x_ienum, x_irng1, x_irng2, x_irev, x_lc, x_yes, wipe_nil, wipe_cons, List.map_cons, List.map_nil, x_misc, x_misc2, x_rz, lookup_at, Bool.not_true, Bool.not_false, decide_true, decide_false, not_true, not_false_eq_true, and_assoc, exists_and_left, exists_eq_left', exists_eq_left, exists_eq', exists_eq_right', exists_eq_right, V.int.injEq, V.ref.injEq, V.bl.injEq, V.str.injEq, List.cons.injEq, and_true, true_and, and_self, Option.some.injEq, List.cons_append, List.nil_append, List.append_nil, List.getElem?_cons_zero, List.getElem?_cons_succ, List.set_cons_zero, List.set_cons_succ, reduceCtorEq, false_and, and_false, exists_false, exists_const, or_false, false_or, scal_ii, scal_bb, scal_ss, List.length_cons, List.length_nil, Int.reduceToNat, Int.reducePow, n_rLs, t_s1, t_i1, t_i2, t_i3, t_i4, t_i5, x_chain3, x_irng3, x_irevR, x_rg1, x_rg2, ints_cat, ints_app1, ints_len, ints_take, ints_drop, rep_one])
local macro_rules | `(tactic| wtm_at "mem") => `(tactic| first | (with_reducible exact mem_here) | (with_reducible refine mem_there ?_; wtm_at "mem"))
local macro_rules | `(tactic| wtm_at "pp") => `(tactic| first | (with_reducible exact Put.here) | (with_reducible apply Put.there; wtm_at "pp"))
local macro_rules | `(tactic| wtm_at "ho") => `(tactic| first | (with_reducible assumption) | exact Own.get (by with_reducible assumption) (by wtm_at "mem") | exact Own.base (by with_reducible assumption) (by with_reducible assumption))
local macro_rules | `(tactic| wtm_at "qo") => `(tactic| first | (with_reducible assumption) | exact SqL.of (by wtm_at "ho") | exact sqT_tupI (by wtm_at "ho") | exact sqT_tupS (by wtm_at "ho") | exact SqT.of (by wtm_at "ho") | exact Own.imT (by with_reducible assumption) (by wtm_at "mem") | exact Own.sq (by with_reducible assumption) (by with_reducible assumption) | exact Own.sqT (by with_reducible assumption) (by with_reducible assumption))
local macro_rules | `(tactic| wtm_at "sub") => `(tactic| first | exact List.nil_sublist _ | (with_reducible refine List.Sublist.cons_cons _ ?_; wtm_at "sub") | (refine List.Sublist.cons _ ?_; wtm_at "sub"))
local macro_rules | `(tactic| wtm_at "co") => `(tactic| first | (with_reducible assumption) | omega | (exact cmul_r (by omega) (by omega)) | (exact cmul_l (by omega) (by omega)) | (exact cdiv_ok (by omega) (by omega)) | (exact cpow_ok (by decide)) | (exact ⟨by omega, by omega, by omega⟩) | decide | (exact ⟨by omega, by omega⟩) | (simp only [List.length_append, List.length_map, List.length_cons, List.length_nil, rngL_len, sizeLine_eq]; omega) | wtm_at "ho" | wtm_at "qo")
local macro_rules | `(tactic| wtm_at "so") => `(tactic| first | ((with_reducible refine g_sum ?_); refine sum_call (by wtm_at "qo") ?_) | ((with_reducible refine g_cq ?_); exact cq (by with_reducible assumption) (by simp only [rngL_len, List.length_map, List.length_take]; omega)) | ((with_reducible refine g_newO ?_); refine newO (by with_reducible assumption) (fun _ _ _ => ?_)) | ((with_reducible refine g_appO ?_); refine appI (by with_reducible assumption) (by wtm_at "pp") (by wtm_at "co") (fun _ _ => ?_)) | ((with_reducible refine g_setO ?_); refine setI (by with_reducible assumption) (by wtm_at "pp") (by omega) (by wtm_at "co") (fun _ _ => ?_)) | ((with_reducible refine g_appO ?_); refine appO (by with_reducible assumption) (by wtm_at "pp") (by wtm_at "co") (fun _ _ => ?_)) | ((with_reducible refine g_setO ?_); refine setO (by with_reducible assumption) (by wtm_at "pp") (by omega) (by wtm_at "co") (fun _ _ => ?_)) | ((with_reducible refine g_at ?_); refine at_call (by wtm_at "qo") (by omega) (by omega) (fun _ _ => ?_)) | ((with_reducible refine g_row ?_); refine row_call (by wtm_at "ho") ?_) | ((with_reducible refine g_int ?_); refine int_call ?_) | ((with_reducible refine g_isi ?_); first | (refine isi_int rfl ?_) | (refine isi_sqL rfl (by wtm_at "qo") ?_) | (refine isi_sqT rfl (by wtm_at "qo") ?_) | (refine isi_bl rfl ?_) | (refine isi_non rfl ?_) | (refine isi_str rfl ?_)) | ((with_reducible refine g_ned ?_); first | (refine ned_f (dq_lst (by wtm_at "qo")) (dq_lst (by wtm_at "qo")) ?_) | (refine ned_ints (by wtm_at "qo") (by wtm_at "qo") ?_) | (refine nedT_ints (by wtm_at "qo") (by wtm_at "qo") ?_)) | ((with_reducible refine g_eqd ?_); first | (refine eqd_t (dq_lst (by wtm_at "qo")) (dq_lst (by wtm_at "qo")) ?_) | (refine eqd_ints (by wtm_at "qo") (by wtm_at "qo") ?_) | (refine eqdT_ints (by wtm_at "qo") (by wtm_at "qo") ?_)) | ((with_reducible refine g_tyv ?_); refine and_tyv (by wtm_at "qo") ?_) | ((with_reducible refine g_asq ?_); refine and_sq (by wtm_at "qo") ?_) | ((with_reducible refine g_lst ?_); refine ex_lst (by wtm_at "ho") ?_) | ((with_reducible refine g_or ?_); first | (refine ex_or (by wtm_at "qo") ?_) | (refine ex_ort (by wtm_at "qo") ?_)) | ((with_reducible refine g_sq ?_); refine ex_sq (by wtm_at "qo") ?_) | ((with_reducible refine g_sqt ?_); refine ex_sqt (by wtm_at "qo") ?_) | ((with_reducible refine gd_sel ?_); first | (refine sel_p (by wtm_at "pf") ?_) | (refine sel_n (by wtm_at "pf") ?_)) | ((with_reducible refine gn_sel ?_); first | (refine selN_p (by wtm_at "pf") ?_) | (refine selN_n (by wtm_at "pf") ?_)) | ((with_reducible refine gd_selT ?_); first | (refine selT_p (by wtm_at "pf") ?_) | (refine selT_n (by wtm_at "pf") ?_)) | ((with_reducible refine gn_selT ?_); first | (refine selTN_p (by wtm_at "pf") ?_) | (refine selTN_n (by wtm_at "pf") ?_)) | ((with_reducible refine gd_selE ?_); first | (refine selE_p (by wtm_at "pf") ?_) | (refine selE_n (by wtm_at "pf") ?_)) | ((with_reducible refine gn_selE ?_); first | (refine selEN_p (by wtm_at "pf") ?_) | (refine selEN_n (by wtm_at "pf") ?_)) | ((with_reducible refine g_xf ?_); refine xf_at rfl (by wtm_at "ho") ?_) | ((with_reducible refine g_atI ?_); refine ex_at (by first | exact rfl | exact atI_int (by omega) (by wtm_at "pf")) ?_) | ((with_reducible refine g_and ?_); refine And.intro (by wtm_at "co") ?_))
local macro_rules | `(tactic| wtm_at "oo") => `(tactic| repeat (first | wtm_at "xo" | wtm_at "so"))
local macro_rules | `(tactic| wtm_at "cR") => `(tactic| (refine' compRi _ (by with_reducible assumption) (by omega) (fun _ _ _ _ _ => ?_) (fun _ _ _ => ?_); rotate_left; focus (wtm_at "oo")))
section
variable {P : Program} {w : World} {K : PySem.W.Frag} {mg : Str → Option Value} {base : Heap}
theorem bad3_ok {p q : Prop} [Decidable p] [Decidable q] {z : Int} (h : bad3 p q z = -1) : p ∧ q ∧ 0 ≤ z ∧ z ≤ 2 ^ 40 := by
  unfold bad3 at h
  split at h
  · split at h
    · split at h
      · rename_i h1 h2 h3
        exact ⟨h1, h2, h3.1, h3.2⟩
      · cases h
    · cases h
  · cases h
theorem bl_dec {p : Prop} [Decidable p] {b : Bool} (h : b = true ↔ p) : b = decide p := by
  rw [Bool.eq_iff_iff, h, decide_eq_true_iff]
def sp_adler32_joined (K : PySem.W.Frag) : Sp := fun vs H Q E => ∃ (x y z : Int), vs = [.int x, .int y, .int z] ∧ (bad3 (isAd x) (isAd y) z = -1 → Q (.int (adJ x y z)) H) ∧
  (bad3 (isAd x) (isAd y) z ≠ -1 → ∀ d, H d = none → E (.ref (He.ga K "OutOfRange")) (some d) (upd H d (.xd [("at", .int (bad3 (isAd x) (isAd y) z))])))
theorem ok_adler32_joined (T : Tx K mg) : Cl P w K mg base 4 "adler32_joined" ["first", "second", "size"] (sp_adler32_joined K) [] := by
  obtain ⟨gm, fd, F⟩ := T.d_adler32_joined
  refine ⟨_, fd, [], F.ok sc_adler32_joined (fun vs H Q E h => ?_) (fun cdv A outer s H vs Q E hr h => ⟨_, (pss_cons (ps_expr (pe_clS (ok__check_three T) (hr.mono (by decide)) rfl (takes_of rfl rfl rfl rfl) (pa_cons (pe_cl (ok__is_adler T) (hr.mono (by decide)) rfl (pa_cons (pv 0) pa_nil)) (pa_cons (pe_cl (ok__is_adler T) (hr.mono (by decide)) rfl (pa_cons (pv 1) pa_nil)) (pa_cons (pv 2) pa_nil)))))
 (pss_cons (ps_set (i := 3) sc_adler32_joined.nd rfl (Or.inl rfl) (by exact (pe_op op_sub (pe_op op_mod (pv 0) pe_int) pe_int)))
 (pss_cons (ps_set (i := 4) sc_adler32_joined.nd rfl (Or.inl rfl) (by exact (pe_op op_add (pe_op op_mod (pv 1) pe_int) (pv 3))))
 (pss_cons (ps_set (i := 5) sc_adler32_joined.nd rfl (Or.inl rfl) (by exact (pe_op op_add (pe_op op_add (pe_op op_fdiv (pv 1) pe_int) (pe_op op_fdiv (pv 0) pe_int)) (pe_op op_mul (pv 2) (pv 3)))))
 (pss_one (ps_ret (by exact (pe_op op_add (pe_op op_mul pe_int (pe_op op_mod (pv 5) (pe_gc rfl T.c__ADLER_MODULUS))) (pe_op op_mod (pv 4) (pe_gc rfl T.c__ADLER_MODULUS)))))))))), ?_⟩), gm, F.kp, F.bindsN (fun _ _ _ _ _ _ us hl => match us, hl with | [_, _, _], _ => rfl), .nil⟩
  · first | (obtain ⟨rfl, _⟩ := h; rfl) | (obtain ⟨_, rfl, _⟩ := h; rfl) | (obtain ⟨_, _, rfl, _⟩ := h; rfl) | (obtain ⟨_, _, _, rfl, _⟩ := h; rfl) | (obtain ⟨_, _, _, _, rfl, _⟩ := h; rfl) | (obtain ⟨_, _, _, _, _, rfl, _⟩ := h; rfl) | (obtain ⟨_, _, _, _, _, _, rfl, _⟩ := h; rfl) | (obtain ⟨_, _, _, _, _, _, _, rfl, _⟩ := h; rfl) | (obtain ⟨_, _, _, _, _, _, _, _, rfl, _⟩ := h; rfl) | (obtain ⟨_, _, _, _, _, _, _, _, _, rfl, _⟩ := h; rfl) | (obtain ⟨_, _, _, _, _, _, _, _, _, _, rfl, _⟩ := h; rfl) | (obtain ⟨_, _, _, _, _, _, _, _, _, _, _, rfl, _⟩ := h; rfl) | (obtain ⟨_, _, _, _, _, _, _, _, _, _, _, _, rfl, _⟩ := h; rfl) | (obtain ⟨_, _, _, _, _, _, _, _, _, _, _, _, _, rfl, _⟩ := h; rfl) | (obtain ⟨_, _, _, _, _, _, _, _, _, _, _, _, _, _, rfl, _⟩ := h; rfl) | (obtain ⟨_, _, _, _, _, _, _, _, _, _, _, _, _, _, _, rfl, _⟩ := h; rfl) | (obtain ⟨_, _, _, _, _, _, _, _, _, _, _, _, _, _, _, _, rfl, _⟩ := h; rfl) | (obtain ⟨_, _, _, _, _, _, _, _, _, _, _, _, _, _, _, _, _, rfl, _⟩ := h; rfl) | (obtain ⟨_, _, _, _, _, _, _, _, _, _, _, _, _, _, _, _, _, _, rfl, _⟩ := h; rfl) | (obtain ⟨_, _, _, _, _, _, _, _, _, _, _, _, _, _, _, _, _, _, _, rfl, _⟩ := h; rfl) | (obtain ⟨_, _, _, _, _, _, _, _, _, _, _, _, _, _, _, _, _, _, _, _, rfl, _⟩ := h; rfl) | (obtain ⟨_, _, _, _, _, _, _, _, _, _, _, _, _, _, _, _, _, _, _, _, _, rfl, _⟩ := h; rfl)
  · obtain ⟨x, y, z, rfl, qq, qe⟩ := h
    k_call_by "xo" st_adler32_joined
    refine ⟨x, rfl, ?_⟩
    wtm_at "oo"
    refine ⟨y, rfl, ?_⟩
    wtm_at "oo"
    refine ⟨isAd x, isAd y, inferInstance, inferInstance, z, rfl, fun g => ?_, qe⟩
    obtain ⟨⟨x0, x1, x2, x3⟩, ⟨y0, y1, y2, y3⟩, z0, z1⟩ := bad3_ok g
    have qq := qq g
    unfold adJ at qq
    wtm_at "oo"
    exact qq
def sp_adler32_front (K : PySem.W.Frag) : Sp := fun vs H Q E => ∃ (x y z : Int), vs = [.int x, .int y, .int z] ∧ (bad3 (isAd x) (isAd y) z = -1 → Q (.int (adF x y z)) H) ∧
  (bad3 (isAd x) (isAd y) z ≠ -1 → ∀ d, H d = none → E (.ref (He.ga K "OutOfRange")) (some d) (upd H d (.xd [("at", .int (bad3 (isAd x) (isAd y) z))])))
theorem ok_adler32_front (T : Tx K mg) : Cl P w K mg base 4 "adler32_front" ["whole", "second", "size"] (sp_adler32_front K) [] := by
  obtain ⟨gm, fd, F⟩ := T.d_adler32_front
  refine ⟨_, fd, [], F.ok sc_adler32_front (fun vs H Q E h => ?_) (fun cdv A outer s H vs Q E hr h => ⟨_, (pss_cons (ps_expr (pe_clS (ok__check_three T) (hr.mono (by decide)) rfl (takes_of rfl rfl rfl rfl) (pa_cons (pe_cl (ok__is_adler T) (hr.mono (by decide)) rfl (pa_cons (pv 0) pa_nil)) (pa_cons (pe_cl (ok__is_adler T) (hr.mono (by decide)) rfl (pa_cons (pv 1) pa_nil)) (pa_cons (pv 2) pa_nil)))))
 (pss_cons (ps_set (i := 3) sc_adler32_front.nd rfl (Or.inl rfl) (by exact (pe_op op_sub (pe_op op_mod (pv 0) pe_int) (pe_op op_mod (pv 1) pe_int))))
 (pss_cons (ps_set (i := 4) sc_adler32_front.nd rfl (Or.inl rfl) (by exact (pe_op op_sub (pe_op op_sub (pe_op op_fdiv (pv 0) pe_int) (pe_op op_fdiv (pv 1) pe_int)) (pe_op op_mul (pv 2) (pv 3)))))
 (pss_one (ps_ret (by exact (pe_op op_add (pe_op op_mul pe_int (pe_op op_mod (pv 4) (pe_gc rfl T.c__ADLER_MODULUS))) (pe_op op_mod (pe_op op_add (pv 3) pe_int) (pe_gc rfl T.c__ADLER_MODULUS))))))))), ?_⟩), gm, F.kp, F.bindsN (fun _ _ _ _ _ _ us hl => match us, hl with | [_, _, _], _ => rfl), .nil⟩
  · first | (obtain ⟨rfl, _⟩ := h; rfl) | (obtain ⟨_, rfl, _⟩ := h; rfl) | (obtain ⟨_, _, rfl, _⟩ := h; rfl) | (obtain ⟨_, _, _, rfl, _⟩ := h; rfl) | (obtain ⟨_, _, _, _, rfl, _⟩ := h; rfl) | (obtain ⟨_, _, _, _, _, rfl, _⟩ := h; rfl) | (obtain ⟨_, _, _, _, _, _, rfl, _⟩ := h; rfl) | (obtain ⟨_, _, _, _, _, _, _, rfl, _⟩ := h; rfl) | (obtain ⟨_, _, _, _, _, _, _, _, rfl, _⟩ := h; rfl) | (obtain ⟨_, _, _, _, _, _, _, _, _, rfl, _⟩ := h; rfl) | (obtain ⟨_, _, _, _, _, _, _, _, _, _, rfl, _⟩ := h; rfl) | (obtain ⟨_, _, _, _, _, _, _, _, _, _, _, rfl, _⟩ := h; rfl) | (obtain ⟨_, _, _, _, _, _, _, _, _, _, _, _, rfl, _⟩ := h; rfl) | (obtain ⟨_, _, _, _, _, _, _, _, _, _, _, _, _, rfl, _⟩ := h; rfl) | (obtain ⟨_, _, _, _, _, _, _, _, _, _, _, _, _, _, rfl, _⟩ := h; rfl) | (obtain ⟨_, _, _, _, _, _, _, _, _, _, _, _, _, _, _, rfl, _⟩ := h; rfl) | (obtain ⟨_, _, _, _, _, _, _, _, _, _, _, _, _, _, _, _, rfl, _⟩ := h; rfl) | (obtain ⟨_, _, _, _, _, _, _, _, _, _, _, _, _, _, _, _, _, rfl, _⟩ := h; rfl) | (obtain ⟨_, _, _, _, _, _, _, _, _, _, _, _, _, _, _, _, _, _, rfl, _⟩ := h; rfl) | (obtain ⟨_, _, _, _, _, _, _, _, _, _, _, _, _, _, _, _, _, _, _, rfl, _⟩ := h; rfl) | (obtain ⟨_, _, _, _, _, _, _, _, _, _, _, _, _, _, _, _, _, _, _, _, rfl, _⟩ := h; rfl) | (obtain ⟨_, _, _, _, _, _, _, _, _, _, _, _, _, _, _, _, _, _, _, _, _, rfl, _⟩ := h; rfl)
  · obtain ⟨x, y, z, rfl, qq, qe⟩ := h
    k_call_by "xo" st_adler32_front
    refine ⟨x, rfl, ?_⟩
    wtm_at "oo"
    refine ⟨y, rfl, ?_⟩
    wtm_at "oo"
    refine ⟨isAd x, isAd y, inferInstance, inferInstance, z, rfl, fun g => ?_, qe⟩
    obtain ⟨⟨x0, x1, x2, x3⟩, ⟨y0, y1, y2, y3⟩, z0, z1⟩ := bad3_ok g
    have qq := qq g
    unfold adF at qq
    wtm_at "oo"
    exact qq
def sp_crc32_joined (K : PySem.W.Frag) : Sp := fun vs H Q E => ∃ (x y z : Int), vs = [.int x, .int y, .int z] ∧ (bad3 (okC x) (okC y) z = -1 → Q (.int (joinN x.toNat y.toNat z.toNat : Nat)) H) ∧
  (bad3 (okC x) (okC y) z ≠ -1 → ∀ d, H d = none → E (.ref (He.ga K "OutOfRange")) (some d) (upd H d (.xd [("at", .int (bad3 (okC x) (okC y) z))])))
theorem ok_crc32_joined (T : Tx K mg) : Cl P w K mg base 4 "crc32_joined" ["first", "second", "size"] (sp_crc32_joined K) [] := by
  obtain ⟨gm, fd, F⟩ := T.d_crc32_joined
  refine ⟨_, fd, [], F.ok sc_crc32_joined (fun vs H Q E h => ?_) (fun cdv A outer s H vs Q E hr h => ⟨_, (pss_cons (ps_expr (pe_clS (ok__check_three T) (hr.mono (by decide)) rfl (takes_of rfl rfl rfl rfl) (pa_cons (pe_cl (ok__is_crc T) (hr.mono (by decide)) rfl (pa_cons (pv 0) pa_nil)) (pa_cons (pe_cl (ok__is_crc T) (hr.mono (by decide)) rfl (pa_cons (pv 1) pa_nil)) (pa_cons (pv 2) pa_nil)))))
 (pss_one (ps_ret (by exact (pe_op op_xor (pe_cl (ok__moved T) (hr.mono (by decide)) rfl (pa_cons (pv 0) (pa_cons (pe_gc rfl T.c__POWER_8) (pa_cons (pv 2) pa_nil)))) (pv 1)))))), ?_⟩), gm, F.kp, F.bindsN (fun _ _ _ _ _ _ us hl => match us, hl with | [_, _, _], _ => rfl), .nil⟩
  · first | (obtain ⟨rfl, _⟩ := h; rfl) | (obtain ⟨_, rfl, _⟩ := h; rfl) | (obtain ⟨_, _, rfl, _⟩ := h; rfl) | (obtain ⟨_, _, _, rfl, _⟩ := h; rfl) | (obtain ⟨_, _, _, _, rfl, _⟩ := h; rfl) | (obtain ⟨_, _, _, _, _, rfl, _⟩ := h; rfl) | (obtain ⟨_, _, _, _, _, _, rfl, _⟩ := h; rfl) | (obtain ⟨_, _, _, _, _, _, _, rfl, _⟩ := h; rfl) | (obtain ⟨_, _, _, _, _, _, _, _, rfl, _⟩ := h; rfl) | (obtain ⟨_, _, _, _, _, _, _, _, _, rfl, _⟩ := h; rfl) | (obtain ⟨_, _, _, _, _, _, _, _, _, _, rfl, _⟩ := h; rfl) | (obtain ⟨_, _, _, _, _, _, _, _, _, _, _, rfl, _⟩ := h; rfl) | (obtain ⟨_, _, _, _, _, _, _, _, _, _, _, _, rfl, _⟩ := h; rfl) | (obtain ⟨_, _, _, _, _, _, _, _, _, _, _, _, _, rfl, _⟩ := h; rfl) | (obtain ⟨_, _, _, _, _, _, _, _, _, _, _, _, _, _, rfl, _⟩ := h; rfl) | (obtain ⟨_, _, _, _, _, _, _, _, _, _, _, _, _, _, _, rfl, _⟩ := h; rfl) | (obtain ⟨_, _, _, _, _, _, _, _, _, _, _, _, _, _, _, _, rfl, _⟩ := h; rfl) | (obtain ⟨_, _, _, _, _, _, _, _, _, _, _, _, _, _, _, _, _, rfl, _⟩ := h; rfl) | (obtain ⟨_, _, _, _, _, _, _, _, _, _, _, _, _, _, _, _, _, _, rfl, _⟩ := h; rfl) | (obtain ⟨_, _, _, _, _, _, _, _, _, _, _, _, _, _, _, _, _, _, _, rfl, _⟩ := h; rfl) | (obtain ⟨_, _, _, _, _, _, _, _, _, _, _, _, _, _, _, _, _, _, _, _, rfl, _⟩ := h; rfl) | (obtain ⟨_, _, _, _, _, _, _, _, _, _, _, _, _, _, _, _, _, _, _, _, _, rfl, _⟩ := h; rfl)
  · obtain ⟨x, y, z, rfl, qq, qe⟩ := h
    k_call_by "xo" st_crc32_joined
    refine ⟨x, rfl, fun b hb => ?_⟩
    obtain rfl : b = decide (okC x) := bl_dec hb
    wtm_at "oo"
    refine ⟨y, rfl, fun b hb => ?_⟩
    obtain rfl : b = decide (okC y) := bl_dec hb
    wtm_at "oo"
    refine ⟨okC x, okC y, inferInstance, inferInstance, z, rfl, fun g => ?_, qe⟩
    obtain ⟨⟨x0, x1⟩, ⟨y0, y1⟩, z0, z1⟩ := bad3_ok g
    have qq := qq g
    clear qe g
    obtain ⟨x, rfl⟩ := Int.eq_ofNat_of_zero_le x0
    obtain ⟨y, rfl⟩ := Int.eq_ofNat_of_zero_le y0
    obtain ⟨z, rfl⟩ := Int.eq_ofNat_of_zero_le z0
    wtm_at "oo"
    refine ⟨x, 8388608, z, rfl, ?_⟩
    wtm_at "oo"
    rw [xor_nat, movN_8 z (by omega)]
    exact qq
def sp_crc32_front (K : PySem.W.Frag) : Sp := fun vs H Q E => ∃ (x y z : Int), vs = [.int x, .int y, .int z] ∧ (bad3 (okC x) (okC y) z = -1 → Q (.int (movN (x.toNat ^^^ y.toNat) 1701301141 z.toNat : Nat)) H) ∧
  (bad3 (okC x) (okC y) z ≠ -1 → ∀ d, H d = none → E (.ref (He.ga K "OutOfRange")) (some d) (upd H d (.xd [("at", .int (bad3 (okC x) (okC y) z))])))
theorem ok_crc32_front (T : Tx K mg) : Cl P w K mg base 4 "crc32_front" ["whole", "second", "size"] (sp_crc32_front K) [] := by
  obtain ⟨gm, fd, F⟩ := T.d_crc32_front
  refine ⟨_, fd, [], F.ok sc_crc32_front (fun vs H Q E h => ?_) (fun cdv A outer s H vs Q E hr h => ⟨_, (pss_cons (ps_expr (pe_clS (ok__check_three T) (hr.mono (by decide)) rfl (takes_of rfl rfl rfl rfl) (pa_cons (pe_cl (ok__is_crc T) (hr.mono (by decide)) rfl (pa_cons (pv 0) pa_nil)) (pa_cons (pe_cl (ok__is_crc T) (hr.mono (by decide)) rfl (pa_cons (pv 1) pa_nil)) (pa_cons (pv 2) pa_nil)))))
 (pss_one (ps_ret (by exact (pe_cl (ok__moved T) (hr.mono (by decide)) rfl (pa_cons (pe_op op_xor (pv 0) (pv 1)) (pa_cons (pe_gc rfl T.c__POWER_MINUS_8) (pa_cons (pv 2) pa_nil)))))))), ?_⟩), gm, F.kp, F.bindsN (fun _ _ _ _ _ _ us hl => match us, hl with | [_, _, _], _ => rfl), .nil⟩
  · first | (obtain ⟨rfl, _⟩ := h; rfl) | (obtain ⟨_, rfl, _⟩ := h; rfl) | (obtain ⟨_, _, rfl, _⟩ := h; rfl) | (obtain ⟨_, _, _, rfl, _⟩ := h; rfl) | (obtain ⟨_, _, _, _, rfl, _⟩ := h; rfl) | (obtain ⟨_, _, _, _, _, rfl, _⟩ := h; rfl) | (obtain ⟨_, _, _, _, _, _, rfl, _⟩ := h; rfl) | (obtain ⟨_, _, _, _, _, _, _, rfl, _⟩ := h; rfl) | (obtain ⟨_, _, _, _, _, _, _, _, rfl, _⟩ := h; rfl) | (obtain ⟨_, _, _, _, _, _, _, _, _, rfl, _⟩ := h; rfl) | (obtain ⟨_, _, _, _, _, _, _, _, _, _, rfl, _⟩ := h; rfl) | (obtain ⟨_, _, _, _, _, _, _, _, _, _, _, rfl, _⟩ := h; rfl) | (obtain ⟨_, _, _, _, _, _, _, _, _, _, _, _, rfl, _⟩ := h; rfl) | (obtain ⟨_, _, _, _, _, _, _, _, _, _, _, _, _, rfl, _⟩ := h; rfl) | (obtain ⟨_, _, _, _, _, _, _, _, _, _, _, _, _, _, rfl, _⟩ := h; rfl) | (obtain ⟨_, _, _, _, _, _, _, _, _, _, _, _, _, _, _, rfl, _⟩ := h; rfl) | (obtain ⟨_, _, _, _, _, _, _, _, _, _, _, _, _, _, _, _, rfl, _⟩ := h; rfl) | (obtain ⟨_, _, _, _, _, _, _, _, _, _, _, _, _, _, _, _, _, rfl, _⟩ := h; rfl) | (obtain ⟨_, _, _, _, _, _, _, _, _, _, _, _, _, _, _, _, _, _, rfl, _⟩ := h; rfl) | (obtain ⟨_, _, _, _, _, _, _, _, _, _, _, _, _, _, _, _, _, _, _, rfl, _⟩ := h; rfl) | (obtain ⟨_, _, _, _, _, _, _, _, _, _, _, _, _, _, _, _, _, _, _, _, rfl, _⟩ := h; rfl) | (obtain ⟨_, _, _, _, _, _, _, _, _, _, _, _, _, _, _, _, _, _, _, _, _, rfl, _⟩ := h; rfl)
  · obtain ⟨x, y, z, rfl, qq, qe⟩ := h
    k_call_by "xo" st_crc32_front
    refine ⟨x, rfl, fun b hb => ?_⟩
    obtain rfl : b = decide (okC x) := bl_dec hb
    wtm_at "oo"
    refine ⟨y, rfl, fun b hb => ?_⟩
    obtain rfl : b = decide (okC y) := bl_dec hb
    wtm_at "oo"
    refine ⟨okC x, okC y, inferInstance, inferInstance, z, rfl, fun g => ?_, qe⟩
    obtain ⟨⟨x0, x1⟩, ⟨y0, y1⟩, z0, z1⟩ := bad3_ok g
    have qq := qq g
    clear qe g
    obtain ⟨x, rfl⟩ := Int.eq_ofNat_of_zero_le x0
    obtain ⟨y, rfl⟩ := Int.eq_ofNat_of_zero_le y0
    obtain ⟨z, rfl⟩ := Int.eq_ofNat_of_zero_le z0
    wtm_at "oo"
    rw [xor_nat]
    refine ⟨_, 1701301141, z, rfl, ?_⟩
    wtm_at "oo"
    exact qq
def bytesV (xs : List Nat) : List V := xs.map fun x : Nat => V.int (x : Int)
theorem byte_at {xs : List Nat} {i : Nat} {x : V} (h : (bytesV xs)[i]? = some x) : ∃ z, xs[i]? = some z ∧ x = .int (z : Nat) := by
  unfold bytesV at h
  rw [List.getElem?_map] at h
  cases e : xs[i]? with
  | none =>
    rw [e] at h
    cases h
  | some z =>
    rw [e] at h
    exact ⟨z, rfl, (Option.some.inj h).symm⟩
theorem bytesV_eq (xs : List Nat) : bytesV xs = (xs.map fun x : Nat => (x : Int)).map V.int := by
  rw [List.map_map]
  rfl
def sp__law_adler (K : PySem.W.Frag) : Sp := fun vs H Q _ => ∃ (a : Addr) (xs : List Int), vs = [.ref a] ∧ SqL K H a (xs.map V.int) ∧ Q (.int (ad1 xs)) H
theorem ok__law_adler (T : Tx K mg) : Cl P w K mg base 1 "_law_adler" ["_law_data"] (sp__law_adler K) [] := by
  obtain ⟨gm, fd, F⟩ := T.d__law_adler
  refine ⟨_, fd, [], F.ok sc__law_adler (fun vs H Q E h => ?_) (fun cdv A outer s H vs Q E hr h => ⟨_, (PSs.nox (pss_cons (ps_set (i := 1) sc__law_adler.nd rfl (Or.inl rfl) (by exact pe_int))
 (pss_cons (ps_set (i := 2) sc__law_adler.nd rfl (Or.inl rfl) (by exact pe_int))
 (pss_cons (ps_for PassesOwn.never rfl (pi_list (pv 0)) (pg_name (i := 3) sc__law_adler.nd rfl (Or.inl rfl))
 (pss_cons (ps_set (i := 1) sc__law_adler.nd rfl (Or.inl rfl) (by exact (pe_op op_mod (pe_callTy call_int1 rfl T.b_int (by decide +kernel) (pa_cons (pe_op op_add (pv 1) (pv 3)) pa_nil)) pe_int)))
 (pss_one (ps_set (i := 2) sc__law_adler.nd rfl (Or.inl rfl) (by exact (pe_op op_mod (pe_callTy call_int1 rfl T.b_int (by decide +kernel) (pa_cons (pe_op op_add (pv 2) (pv 1)) pa_nil)) pe_int))))))
 (pss_one (ps_ret (by exact (pe_op op_add (pe_op op_mul pe_int (pv 2)) (pv 1))))))))), ?_⟩), gm, F.kp, F.bindsN (fun _ _ _ _ _ _ us hl => match us, hl with | [_], _ => rfl), .nil⟩
  · first | (obtain ⟨rfl, _⟩ := h; rfl) | (obtain ⟨_, rfl, _⟩ := h; rfl) | (obtain ⟨_, _, rfl, _⟩ := h; rfl) | (obtain ⟨_, _, _, rfl, _⟩ := h; rfl) | (obtain ⟨_, _, _, _, rfl, _⟩ := h; rfl) | (obtain ⟨_, _, _, _, _, rfl, _⟩ := h; rfl) | (obtain ⟨_, _, _, _, _, _, rfl, _⟩ := h; rfl) | (obtain ⟨_, _, _, _, _, _, _, rfl, _⟩ := h; rfl) | (obtain ⟨_, _, _, _, _, _, _, _, rfl, _⟩ := h; rfl) | (obtain ⟨_, _, _, _, _, _, _, _, _, rfl, _⟩ := h; rfl) | (obtain ⟨_, _, _, _, _, _, _, _, _, _, rfl, _⟩ := h; rfl) | (obtain ⟨_, _, _, _, _, _, _, _, _, _, _, rfl, _⟩ := h; rfl) | (obtain ⟨_, _, _, _, _, _, _, _, _, _, _, _, rfl, _⟩ := h; rfl) | (obtain ⟨_, _, _, _, _, _, _, _, _, _, _, _, _, rfl, _⟩ := h; rfl) | (obtain ⟨_, _, _, _, _, _, _, _, _, _, _, _, _, _, rfl, _⟩ := h; rfl) | (obtain ⟨_, _, _, _, _, _, _, _, _, _, _, _, _, _, _, rfl, _⟩ := h; rfl) | (obtain ⟨_, _, _, _, _, _, _, _, _, _, _, _, _, _, _, _, rfl, _⟩ := h; rfl) | (obtain ⟨_, _, _, _, _, _, _, _, _, _, _, _, _, _, _, _, _, rfl, _⟩ := h; rfl) | (obtain ⟨_, _, _, _, _, _, _, _, _, _, _, _, _, _, _, _, _, _, rfl, _⟩ := h; rfl) | (obtain ⟨_, _, _, _, _, _, _, _, _, _, _, _, _, _, _, _, _, _, _, rfl, _⟩ := h; rfl) | (obtain ⟨_, _, _, _, _, _, _, _, _, _, _, _, _, _, _, _, _, _, _, _, rfl, _⟩ := h; rfl) | (obtain ⟨_, _, _, _, _, _, _, _, _, _, _, _, _, _, _, _, _, _, _, _, _, rfl, _⟩ := h; rfl)
  · obtain ⟨a, xs, rfl, hS, q⟩ := h
    k_call_by "xo" st__law_adler
    wtm_at "oo"
    refine loop_list (xs := xs.map V.int) (fun i σ H' => ∃ y, σ = [some (.ref a), some (.int (adRun (xs.take i) (1, 0)).1), some (.int (adRun (xs.take i) (1, 0)).2), y] ∧ H' = H) ⟨none, rfl, rfl⟩ (fun i σ H' _ ⟨y, _, e⟩ => by rw [e]; exact hS) ?_ ?_
    · rintro i x σ H' hx ⟨y, rfl, rfl⟩
      obtain ⟨z, hz, rfl⟩ := int_at hx
      wtm_at "oo"
      rw [run_take hz]
      exact ⟨rfl, rfl⟩
    · rintro σ H' ⟨y, rfl, rfl⟩
      rw [List.length_map, List.take_length]
      wtm_at "oo"
      exact q
def sp__law_crc (K : PySem.W.Frag) : Sp := fun vs H Q _ => ∃ (a : Addr) (xs : List Nat), vs = [.ref a] ∧ SqL K H a (bytesV xs) ∧ Q (.int (crcN xs 0 : Nat)) H
theorem ok__law_crc (T : Tx K mg) : Cl P w K mg base 1 "_law_crc" ["_law_data"] (sp__law_crc K) [] := by
  obtain ⟨gm, fd, F⟩ := T.d__law_crc
  refine ⟨_, fd, [], F.ok sc__law_crc (fun vs H Q E h => ?_) (fun cdv A outer s H vs Q E hr h => ⟨_, (PSs.nox (pss_cons (ps_set (i := 1) sc__law_crc.nd rfl (Or.inl rfl) (by exact pe_int))
 (pss_cons (ps_for PassesOwn.never rfl (pi_list (pv 0)) (pg_name (i := 2) sc__law_crc.nd rfl (Or.inl rfl))
 (pss_cons (ps_set (i := 1) sc__law_crc.nd rfl (Or.inl rfl) (by exact (pe_op op_xor (pv 1) (pv 2))))
 (pss_one (ps_for PassesOwn.never rfl (pi_range1 rfl T.b_range (pa_cons pe_int pa_nil)) (pg_name (i := 3) sc__law_crc.nd rfl (Or.inl rfl))
 (pss_cons (ps_set (i := 4) sc__law_crc.nd rfl (Or.inl rfl) (by exact (pe_op op_and (pv 1) pe_int)))
 (pss_cons (ps_set (i := 1) sc__law_crc.nd rfl (Or.inl rfl) (by exact (pe_op op_shr (pv 1) pe_int)))
 (pss_one (ps_if (pt_cmpR op_eq (pv 4) pe_int (nomark _))
 (pss_one (ps_set (i := 1) sc__law_crc.nd rfl (Or.inl rfl) (by exact (pe_op op_xor (pv 1) pe_int))))
 pss_nil))))))))
 (pss_one (ps_ret (by exact (pe_op op_xor (pv 1) pe_int))))))), ?_⟩), gm, F.kp, F.bindsN (fun _ _ _ _ _ _ us hl => match us, hl with | [_], _ => rfl), .nil⟩
  · first | (obtain ⟨rfl, _⟩ := h; rfl) | (obtain ⟨_, rfl, _⟩ := h; rfl) | (obtain ⟨_, _, rfl, _⟩ := h; rfl) | (obtain ⟨_, _, _, rfl, _⟩ := h; rfl) | (obtain ⟨_, _, _, _, rfl, _⟩ := h; rfl) | (obtain ⟨_, _, _, _, _, rfl, _⟩ := h; rfl) | (obtain ⟨_, _, _, _, _, _, rfl, _⟩ := h; rfl) | (obtain ⟨_, _, _, _, _, _, _, rfl, _⟩ := h; rfl) | (obtain ⟨_, _, _, _, _, _, _, _, rfl, _⟩ := h; rfl) | (obtain ⟨_, _, _, _, _, _, _, _, _, rfl, _⟩ := h; rfl) | (obtain ⟨_, _, _, _, _, _, _, _, _, _, rfl, _⟩ := h; rfl) | (obtain ⟨_, _, _, _, _, _, _, _, _, _, _, rfl, _⟩ := h; rfl) | (obtain ⟨_, _, _, _, _, _, _, _, _, _, _, _, rfl, _⟩ := h; rfl) | (obtain ⟨_, _, _, _, _, _, _, _, _, _, _, _, _, rfl, _⟩ := h; rfl) | (obtain ⟨_, _, _, _, _, _, _, _, _, _, _, _, _, _, rfl, _⟩ := h; rfl) | (obtain ⟨_, _, _, _, _, _, _, _, _, _, _, _, _, _, _, rfl, _⟩ := h; rfl) | (obtain ⟨_, _, _, _, _, _, _, _, _, _, _, _, _, _, _, _, rfl, _⟩ := h; rfl) | (obtain ⟨_, _, _, _, _, _, _, _, _, _, _, _, _, _, _, _, _, rfl, _⟩ := h; rfl) | (obtain ⟨_, _, _, _, _, _, _, _, _, _, _, _, _, _, _, _, _, _, rfl, _⟩ := h; rfl) | (obtain ⟨_, _, _, _, _, _, _, _, _, _, _, _, _, _, _, _, _, _, _, rfl, _⟩ := h; rfl) | (obtain ⟨_, _, _, _, _, _, _, _, _, _, _, _, _, _, _, _, _, _, _, _, rfl, _⟩ := h; rfl) | (obtain ⟨_, _, _, _, _, _, _, _, _, _, _, _, _, _, _, _, _, _, _, _, _, rfl, _⟩ := h; rfl)
  · obtain ⟨a, xs, rfl, hS, q⟩ := h
    k_call_by "xo" st__law_crc
    wtm_at "oo"
    refine loop_list (xs := bytesV xs) (fun i σ H' => ∃ y3 y4 y5, σ = [some (.ref a), some (.int (runN (xs.take i) 4294967295 : Nat)), y3, y4, y5] ∧ H' = H) ⟨none, none, none, rfl, rfl⟩ (fun i σ H' _ ⟨_, _, _, _, e⟩ => by rw [e]; exact hS) ?_ ?_
    · rintro i x σ H' hi ⟨y3, y4, y5, rfl, rfl⟩
      obtain ⟨z, hz, rfl⟩ := byte_at hi
      wtm_at "oo"
      rw [xor_nat]
      refine loop_rangeN (m := 8) rfl (fun j σ H2 => ∃ y4 y5, σ = [some (.ref a), some (.int (stepsN j (runN (xs.take i) 4294967295 ^^^ z) : Nat)), some (.int z), y4, y5] ∧ H2 = H') ⟨y4, y5, rfl, rfl⟩ ?_ ?_
      · rintro j σ H2 hj ⟨y4', y5', rfl, rfl⟩
        have e1 : ∀ x, stepsN (j + 1) x = stepN (stepsN j x) := fun x => stepsN_add j 1 x
        rw [e1]
        generalize stepsN j (runN (xs.take i) 4294967295 ^^^ z) = r
        unfold stepN
        wtm_at "oo"
        rw [and_one]
        by_cases c : r % 2 = 1
        · rw [if_pos c, c]
          wtm_at "oo"
          rw [half_is, xor_poly]
        · rw [if_neg c, show r % 2 = 0 by omega, Nat.xor_zero]
          wtm_at "oo"
          exact half_is r
      · rintro σ H2 ⟨y4', y5', rfl, rfl⟩
        rw [runN_take hz]
        wtm_at "oo"
        rfl
    · rintro σ H' ⟨y3, y4, y5, rfl, rfl⟩
      have hl : (bytesV xs).length = xs.length := List.length_map ..
      rw [hl, List.take_length]
      wtm_at "oo"
      have e0 : ∀ r : Nat, Builtin.bitXor (r : Int) 4294967295 = ((r ^^^ 4294967295 : Nat) : Int) := fun r => xor_nat r 4294967295
      rw [e0]
      exact q


end
end K05

namespace K05
open PySem PySem.Spec PyProof.Rows L2 Bel
local macro_rules | `(tactic| wtm_at "xs") => `(tactic| simp only [x_next, x_seq, x_brk, x_cont, x_drop, x_ret, x_retN, x_if, sel_t, sel_f, selE_t, selE_f, selT_t, selT_f, selC_t, selC_f, x_test, x_tB, x_op, x_un, x_var, x_c, x_cb, x_nil, x_cons, x_rI, x_rI0, x_rU, x_rEq, x_rNe, x_rIxL, x_rIxT, x_rSlL, x_rCat, x_rRep, x_rApp, x_bm, x_bm0, x_sl, x_nopart, x_part, x_tup, x_lst, x_call, x_callS, x_asg, x_gname, x_gtup, x_gnil, x_gcons, x_gsub, x_setL, x_aug, x_ipI, x_ipC, x_bits, x_getL, x_augS, x_and, x_or, x_not, x_k, x_andV, x_orV, x_notV, x_ife, x_chain, x_for, x_ilist, x_itup, x_ienum, x_irng1, x_irng2, x_irev, x_lc, x_yes, wipe_nil, wipe_cons, List.map_cons, List.map_nil, x_misc, x_misc2, x_rz, lookup_at, Bool.not_true, Bool.not_false, decide_true, decide_false, not_true, not_false_eq_true, and_assoc, exists_and_left, exists_eq_left', exists_eq_left, exists_eq', exists_eq_right', exists_eq_right, V.int.injEq, V.ref.injEq, V.bl.injEq, V.str.injEq, List.cons.injEq, and_true, true_and, and_self, Option.some.injEq, List.cons_append, List.nil_append, List.append_nil, List.getElem?_cons_zero, List.getElem?_cons_succ, List.set_cons_zero, List.set_cons_succ, reduceCtorEq, false_and, and_false, exists_false, exists_const, or_false, false_or, scal_ii, scal_bb, scal_ss, List.length_cons, List.length_nil, Int.reduceToNat, Int.reducePow])
local macro_rules | `(tactic| k_call_by "xs" $h:term) => `(tactic| simp only [$h:term, x_next, x_seq, x_brk, x_cont, x_drop, x_ret, x_retN, x_if, sel_t, sel_f, selE_t, selE_f, selT_t, selT_f, selC_t, selC_f, x_test, x_tB, x_op, x_un, x_var, x_c, x_cb, x_nil, x_cons, x_rI, x_rI0, x_rU, x_rEq, x_rNe, x_rIxL, x_rIxT, x_rSlL, x_rCat, x_rRep, x_rApp, x_bm, x_bm0, x_sl, x_nopart, x_part, x_tup, x_lst, x_call, x_callS, x_asg, x_gname, x_gtup, x_gnil, x_gcons, x_gsub, x_setL, x_aug, x_ipI, x_ipC, x_bits, x_getL, x_augS, x_and, x_or, x_not, x_k, x_andV, x_orV, x_notV, x_ife, x_chain, x_for, x_ilist, x_itup, x_ienum, x_irng1, x_irng2, x_irev, x_lc, x_yes, wipe_nil, wipe_cons, List.map_cons, List.map_nil, x_misc, x_misc2, x_rz, lookup_at, Bool.not_true, Bool.not_false, decide_true, decide_false, not_true, not_false_eq_true, and_assoc, exists_and_left, exists_eq_left', exists_eq_left, exists_eq', exists_eq_right', exists_eq_right, V.int.injEq, V.ref.injEq, V.bl.injEq, V.str.injEq, List.cons.injEq, and_true, true_and, and_self, Option.some.injEq, List.cons_append, List.nil_append, List.append_nil, List.getElem?_cons_zero, List.getElem?_cons_succ, List.set_cons_zero, List.set_cons_succ, reduceCtorEq, false_and, and_false, exists_false, exists_const, or_false, false_or, scal_ii, scal_bb, scal_ss, List.length_cons, List.length_nil, Int.reduceToNat, Int.reducePow])
local macro_rules | `(tactic| wtm_at "hp") => `(tactic| first | (with_reducible assumption) | exact upd_same | (refine upd_keep (by with_reducible assumption) ?_; wtm_at "hp") | (refine Same.get (by with_reducible assumption) ?_; wtm_at "hp") | (refine upd_other (by first | (with_reducible assumption) | exact Ne.symm (by with_reducible assumption)) ?_; wtm_at "hp"))
local macro_rules | `(tactic| wtm_at "sq") => `(tactic| first | (with_reducible assumption) | exact SqL.of (by wtm_at "hp") | exact SqT.of (by wtm_at "hp") | (refine Same.seq (same_upd (by with_reducible assumption)) ?_; wtm_at "sq") | (refine Same.seq (by with_reducible assumption) ?_; wtm_at "sq") | (refine Same.seqT (same_upd (by with_reducible assumption)) ?_; wtm_at "sq") | (refine Same.seqT (by with_reducible assumption) ?_; wtm_at "sq"))
local macro_rules | `(tactic| wtm_at "cl") => `(tactic| first | (with_reducible assumption) | omega | (exact cmul_r (by omega) (by omega)) | (exact cmul_l (by omega) (by omega)) | (exact cdiv_ok (by omega) (by omega)) | (exact cpow_ok (by decide)) | (exact ⟨by omega, by omega, by omega⟩) | decide | (exact ⟨by omega, by omega⟩) | (simp only [List.length_append, List.length_map, List.length_cons, List.length_nil, rngL_len, sizeLine_eq]; omega) | wtm_at "hp" | wtm_at "sq")
local macro_rules | `(tactic| wtm_at "pf") => `(tactic| first | (with_reducible assumption) | omega | (simp only [List.length_append, List.length_map, List.length_cons, List.length_nil, rngL_len]; omega) | (with_reducible rfl) | (with_reducible trivial) | (with_reducible decide))
local macro_rules | `(tactic| wtm_at "st") => `(tactic| first | ((with_reducible refine g_at ?_); refine at_call (by wtm_at "sq") (by omega) (by omega) (fun _ _ => ?_)) | ((with_reducible refine g_row ?_); refine row_call (by wtm_at "hp") ?_) | ((with_reducible refine g_int ?_); refine int_call ?_) | ((with_reducible refine g_isi ?_); first | (refine isi_int rfl ?_) | (refine isi_lst rfl (by wtm_at "hp") ?_) | (refine isi_tup rfl (by wtm_at "hp") ?_)) | ((with_reducible refine g_ned ?_); refine ned_f (dq_lst (by wtm_at "sq")) (dq_lst (by wtm_at "sq")) ?_) | ((with_reducible refine g_eqd ?_); refine eqd_t (dq_lst (by wtm_at "sq")) (dq_lst (by wtm_at "sq")) ?_) | ((with_reducible refine g_tyv ?_); refine and_tyv (by wtm_at "sq") ?_) | ((with_reducible refine g_asq ?_); refine and_sq (by wtm_at "sq") ?_) | ((with_reducible refine g_lst ?_); refine ex_lst (by wtm_at "hp") ?_) | ((with_reducible refine g_or ?_); first | (refine ex_or (by wtm_at "sq") ?_) | (refine ex_ort (by wtm_at "sq") ?_)) | ((with_reducible refine g_sq ?_); refine ex_sq (by wtm_at "sq") ?_) | ((with_reducible refine g_sqt ?_); refine ex_sqt (by wtm_at "sq") ?_) | ((with_reducible refine gd_sel ?_); first | (refine sel_p (by wtm_at "pf") ?_) | (refine sel_n (by wtm_at "pf") ?_)) | ((with_reducible refine gn_sel ?_); first | (refine selN_p (by wtm_at "pf") ?_) | (refine selN_n (by wtm_at "pf") ?_)) | ((with_reducible refine gd_selT ?_); first | (refine selT_p (by wtm_at "pf") ?_) | (refine selT_n (by wtm_at "pf") ?_)) | ((with_reducible refine gn_selT ?_); first | (refine selTN_p (by wtm_at "pf") ?_) | (refine selTN_n (by wtm_at "pf") ?_)) | ((with_reducible refine gd_selE ?_); first | (refine selE_p (by wtm_at "pf") ?_) | (refine selE_n (by wtm_at "pf") ?_)) | ((with_reducible refine gn_selE ?_); first | (refine selEN_p (by wtm_at "pf") ?_) | (refine selEN_n (by wtm_at "pf") ?_)) | ((with_reducible refine g_xf ?_); refine xf_at rfl (by wtm_at "hp") ?_) | ((with_reducible refine g_atI ?_); refine ex_at (by first | exact rfl | exact atI_int (by omega) (by wtm_at "pf")) ?_) | ((with_reducible refine g_and ?_); refine And.intro (by wtm_at "cl") ?_) | ((with_reducible refine g_new ?_); intro _ _))
local macro_rules | `(tactic| wtm_at "go") => `(tactic| repeat (first | wtm_at "xs" | wtm_at "st"))
local macro_rules | `(tactic| wtm_at "xo") => `(tactic| simp only [x_next, x_seq, x_brk, x_cont, x_drop, x_ret, x_retN, x_if, sel_t, sel_f, selE_t, selE_f, selT_t, selT_f, selC_t, selC_f, x_test, x_tB, x_op, x_un, x_var, x_c, x_cb, x_nil, x_cons, x_rI, x_rI0, x_rU, x_rEq, x_rNe, x_rIxL, x_rIxT, n_rSlL, n_rCat, n_rRep, n_rApp, x_bm, x_bm0, x_sl, x_nopart, x_part, n_tup, n_lst, x_call, x_callS, x_asg, x_gname, x_gtup, x_gnil, x_gcons, x_gsub, n_setL, x_aug, x_ipI, x_ipC, x_bits, x_getL, x_augS, x_and, x_or, x_not, x_k, x_andV, x_orV, x_notV, x_ife, x_chain, x_for, x_ilist, x_itup, x_ienum, x_irng1, x_irng2, x_irev, x_lc, x_yes, wipe_nil, wipe_cons, List.map_cons, List.map_nil, x_misc, x_misc2, x_rz, lookup_at, Bool.not_true, Bool.not_false, decide_true, decide_false, not_true, not_false_eq_true, and_assoc, exists_and_left, exists_eq_left', exists_eq_left, exists_eq', exists_eq_right', exists_eq_right, V.int.injEq, V.ref.injEq, V.bl.injEq, V.str.injEq, List.cons.injEq, and_true, true_and, and_self, Option.some.injEq, List.cons_append, List.nil_append, List.append_nil, List.getElem?_cons_zero, List.getElem?_cons_succ, List.set_cons_zero, List.set_cons_succ, reduceCtorEq, false_and, and_false, exists_false, exists_const, or_false, false_or, scal_ii, scal_bb, scal_ss, List.length_cons, List.length_nil, Int.reduceToNat, Int.reducePow, n_rLs, t_s1, t_i1, t_i2, t_i3, t_i4, t_i5, x_chain3, x_irng3, x_irevR, x_rg1, x_rg2, ints_cat, ints_app1, ints_len, ints_take, ints_drop, rep_one])
local macro_rules | `(tactic| k_call_by "xo" $h:term) => `(tactic| simp only [$h:term, x_next, x_seq, x_brk, x_cont, x_drop, x_ret, x_retN, x_if, sel_t, sel_f, selE_t, selE_f, selT_t, selT_f, selC_t, selC_f, x_test, x_tB, x_op, x_un, x_var, x_c, x_cb, x_nil, x_cons, x_rI, x_rI0, x_rU, x_rEq, x_rNe, x_rIxL, x_rIxT, n_rSlL, n_rCat, n_rRep, n_rApp, x_bm, x_bm0, x_sl, x_nopart, x_part, n_tup, n_lst, x_call, x_callS, x_asg, x_gname, x_gtup, x_gnil, x_gcons, x_gsub, n_setL, x_aug, x_ipI, x_ipC, x_bits, x_getL, x_augS, x_and, x_or, x_not, x_k, x_andV, x_orV, x_notV, x_ife, x_chain, x_for, x_ilist, x_itup, x_ienum, x_irng1, x_irng2, x_irev, x_lc, x_yes, wipe_nil, wipe_cons, List.map_cons, List.map_nil, x_misc, x_misc2, x_rz, lookup_at, Bool.not_true, Bool.not_false, decide_true, decide_false, not_true, not_false_eq_true, and_assoc, exists_and_left, exists_eq_left', exists_eq_left, exists_eq', exists_eq_right', exists_eq_right, V.int.injEq, V.ref.injEq, V.bl.injEq, V.str.injEq, List.cons.injEq, and_true, true_and, and_self, Option.some.injEq, List.cons_append, List.nil_append, List.append_nil, List.getElem?_cons_zero, List.getElem?_cons_succ, List.set_cons_zero, List.set_cons_succ, reduceCtorEq, false_and, and_false, exists_false, exists_const, or_false, false_or, scal_ii, scal_bb, scal_ss, List.length_cons, List.length_nil, Int.reduceToNat, Int.reducePow, n_rLs, t_s1, t_i1, t_i2, t_i3, t_i4, t_i5, x_chain3, x_irng3, x_irevR, x_rg1, x_rg2, ints_cat, ints_app1, ints_len, ints_take, ints_drop, rep_one])
local macro_rules | `(tactic| wtm_at "mem") => `(tactic| first | (with_reducible exact mem_here) | (with_reducible refine mem_there ?_; wtm_at "mem"))
local macro_rules | `(tactic| wtm_at "pp") => `(tactic| first | (with_reducible exact Put.here) | (with_reducible apply Put.there; wtm_at "pp"))
local macro_rules | `(tactic| wtm_at "ho") => `(tactic| first | (with_reducible assumption) | exact Own.get (by with_reducible assumption) (by wtm_at "mem") | exact Own.base (by with_reducible assumption) (by with_reducible assumption))
local macro_rules | `(tactic| wtm_at "qo") => `(tactic| first | (with_reducible assumption) | exact SqL.of (by wtm_at "ho") | exact sqT_tupI (by wtm_at "ho") | exact sqT_tupS (by wtm_at "ho") | exact SqT.of (by wtm_at "ho") | exact Own.imT (by with_reducible assumption) (by wtm_at "mem") | exact Own.sq (by with_reducible assumption) (by with_reducible assumption) | exact Own.sqT (by with_reducible assumption) (by with_reducible assumption))
local macro_rules | `(tactic| wtm_at "sub") => `(tactic| first | exact List.nil_sublist _ | (with_reducible refine List.Sublist.cons_cons _ ?_; wtm_at "sub") | (refine List.Sublist.cons _ ?_; wtm_at "sub"))
local macro_rules | `(tactic| wtm_at "co") => `(tactic| first | (with_reducible assumption) | omega | (exact cmul_r (by omega) (by omega)) | (exact cmul_l (by omega) (by omega)) | (exact cdiv_ok (by omega) (by omega)) | (exact cpow_ok (by decide)) | (exact ⟨by omega, by omega, by omega⟩) | decide | (exact ⟨by omega, by omega⟩) | (simp only [List.length_append, List.length_map, List.length_cons, List.length_nil, rngL_len, sizeLine_eq]; omega) | wtm_at "ho" | wtm_at "qo")
local macro_rules | `(tactic| wtm_at "so") => `(tactic| first | ((with_reducible refine g_sum ?_); refine sum_call (by wtm_at "qo") ?_) | ((with_reducible refine g_cq ?_); exact cq (by with_reducible assumption) (by simp only [rngL_len, List.length_map, List.length_take]; omega)) | ((with_reducible refine g_newO ?_); refine newO (by with_reducible assumption) (fun _ _ _ => ?_)) | ((with_reducible refine g_appO ?_); refine appI (by with_reducible assumption) (by wtm_at "pp") (by wtm_at "co") (fun _ _ => ?_)) | ((with_reducible refine g_setO ?_); refine setI (by with_reducible assumption) (by wtm_at "pp") (by omega) (by wtm_at "co") (fun _ _ => ?_)) | ((with_reducible refine g_appO ?_); refine appO (by with_reducible assumption) (by wtm_at "pp") (by wtm_at "co") (fun _ _ => ?_)) | ((with_reducible refine g_setO ?_); refine setO (by with_reducible assumption) (by wtm_at "pp") (by omega) (by wtm_at "co") (fun _ _ => ?_)) | ((with_reducible refine g_at ?_); refine at_call (by wtm_at "qo") (by omega) (by omega) (fun _ _ => ?_)) | ((with_reducible refine g_row ?_); refine row_call (by wtm_at "ho") ?_) | ((with_reducible refine g_int ?_); refine int_call ?_) | ((with_reducible refine g_isi ?_); first | (refine isi_int rfl ?_) | (refine isi_sqL rfl (by wtm_at "qo") ?_) | (refine isi_sqT rfl (by wtm_at "qo") ?_) | (refine isi_bl rfl ?_) | (refine isi_non rfl ?_) | (refine isi_str rfl ?_)) | ((with_reducible refine g_ned ?_); first | (refine ned_f (dq_lst (by wtm_at "qo")) (dq_lst (by wtm_at "qo")) ?_) | (refine ned_ints (by wtm_at "qo") (by wtm_at "qo") ?_) | (refine nedT_ints (by wtm_at "qo") (by wtm_at "qo") ?_)) | ((with_reducible refine g_eqd ?_); first | (refine eqd_t (dq_lst (by wtm_at "qo")) (dq_lst (by wtm_at "qo")) ?_) | (refine eqd_ints (by wtm_at "qo") (by wtm_at "qo") ?_) | (refine eqdT_ints (by wtm_at "qo") (by wtm_at "qo") ?_)) | ((with_reducible refine g_tyv ?_); refine and_tyv (by wtm_at "qo") ?_) | ((with_reducible refine g_asq ?_); refine and_sq (by wtm_at "qo") ?_) | ((with_reducible refine g_lst ?_); refine ex_lst (by wtm_at "ho") ?_) | ((with_reducible refine g_or ?_); first | (refine ex_or (by wtm_at "qo") ?_) | (refine ex_ort (by wtm_at "qo") ?_)) | ((with_reducible refine g_sq ?_); refine ex_sq (by wtm_at "qo") ?_) | ((with_reducible refine g_sqt ?_); refine ex_sqt (by wtm_at "qo") ?_) | ((with_reducible refine gd_sel ?_); first | (refine sel_p (by wtm_at "pf") ?_) | (refine sel_n (by wtm_at "pf") ?_)) | ((with_reducible refine gn_sel ?_); first | (refine selN_p (by wtm_at "pf") ?_) | (refine selN_n (by wtm_at "pf") ?_)) | ((with_reducible refine gd_selT ?_); first | (refine selT_p (by wtm_at "pf") ?_) | (refine selT_n (by wtm_at "pf") ?_)) | ((with_reducible refine gn_selT ?_); first | (refine selTN_p (by wtm_at "pf") ?_) | (refine selTN_n (by wtm_at "pf") ?_)) | ((with_reducible refine gd_selE ?_); first | (refine selE_p (by wtm_at "pf") ?_) | (refine selE_n (by wtm_at "pf") ?_)) | ((with_reducible refine gn_selE ?_); first | (refine selEN_p (by wtm_at "pf") ?_) | (refine selEN_n (by wtm_at "pf") ?_)) | ((with_reducible refine g_xf ?_); refine xf_at rfl (by wtm_at "ho") ?_) | ((with_reducible refine g_atI ?_); refine ex_at (by first | exact rfl | exact atI_int (by omega) (by wtm_at "pf")) ?_) | ((with_reducible refine g_and ?_); refine And.intro (by wtm_at "co") ?_))
local macro_rules | `(tactic| wtm_at "oo") => `(tactic| repeat (first | wtm_at "xo" | wtm_at "so"))
local macro_rules | `(tactic| wtm_at "cR") => `(tactic| (refine' compRi _ (by with_reducible assumption) (by omega) (fun _ _ _ _ _ => ?_) (fun _ _ _ => ?_); rotate_left; focus (wtm_at "oo")))
section
variable {P : Program} {w : World} {K : PySem.W.Frag} {mg : Str → Option Value} {base : Heap}
theorem adj_call {K : PySem.W.Frag} {H : Hp} {x y z : Int} {Q : VK} {E : XK} (hx : isAd x) (hy : isAd y) (h0 : 0 ≤ z) (h1 : z ≤ 2 ^ 40) (q : Q (.int (adJ x y z)) H) : sp_adler32_joined K [.int x, .int y, .int z] H Q E :=
  ⟨x, y, z, rfl, fun _ => q, fun n => absurd (by unfold bad3; rw [if_pos hx, if_pos hy, if_pos ⟨h0, h1⟩]) n⟩
theorem adf_call {K : PySem.W.Frag} {H : Hp} {x y z : Int} {Q : VK} {E : XK} (hx : isAd x) (hy : isAd y) (h0 : 0 ≤ z) (h1 : z ≤ 2 ^ 40) (q : Q (.int (adF x y z)) H) : sp_adler32_front K [.int x, .int y, .int z] H Q E :=
  ⟨x, y, z, rfl, fun _ => q, fun n => absurd (by unfold bad3; rw [if_pos hx, if_pos hy, if_pos ⟨h0, h1⟩]) n⟩
theorem crj_call {K : PySem.W.Frag} {H : Hp} {x y z : Nat} {Q : VK} {E : XK} (hx : x < 2 ^ 32) (hy : y < 2 ^ 32) (h1 : z ≤ 2 ^ 40) (q : Q (.int (joinN x y z : Nat)) H) : sp_crc32_joined K [.int (x : Int), .int (y : Int), .int (z : Int)] H Q E :=
  ⟨x, y, z, rfl, fun _ => q, fun n => absurd (by unfold bad3; rw [if_pos (show okC x from ⟨by omega, by omega⟩), if_pos (show okC y from ⟨by omega, by omega⟩), if_pos ⟨by omega, by omega⟩]) n⟩
theorem crf_call {K : PySem.W.Frag} {H : Hp} {x y z : Nat} {Q : VK} {E : XK} (hx : x < 2 ^ 32) (hy : y < 2 ^ 32) (h1 : z ≤ 2 ^ 40) (q : Q (.int (movN (x ^^^ y) 1701301141 z : Nat)) H) : sp_crc32_front K [.int (x : Int), .int (y : Int), .int (z : Int)] H Q E :=
  ⟨x, y, z, rfl, fun _ => q, fun n => absurd (by unfold bad3; rw [if_pos (show okC x from ⟨by omega, by omega⟩), if_pos (show okC y from ⟨by omega, by omega⟩), if_pos ⟨by omega, by omega⟩]) n⟩
/-- what the law is told of a call: the place of its error, -1 if there is none -/
def plc (w x y z : Int) : Int := if w = 0 ∨ w = 2 then bad3 (isAd x) (isAd y) z else bad3 (okC x) (okC y) z
def gd (w n : Int) : Prop := if w = 0 ∨ w = 2 then isAd n else okC n
theorem gd_ok {w n : Int} (h : gd w n) : okC n := by
  unfold gd at h
  split at h
  · exact ⟨h.1, h.2.1⟩
  · exact h
theorem plc_0 {w x y z : Int} (h : ¬ gd w x) : plc w x y z = 0 := by
  unfold gd at h
  unfold plc bad3
  split at h
  · rw [if_pos (by assumption), if_neg h]
  · rw [if_neg (by assumption), if_neg h]
theorem plc_1 {w x y z : Int} (h0 : gd w x) (h : ¬ gd w y) : plc w x y z = 1 := by
  unfold gd at h h0
  unfold plc bad3
  split at h
  · rename_i c
    rw [if_pos c] at h0
    rw [if_pos c, if_pos h0, if_neg h]
  · rename_i c
    rw [if_neg c] at h0
    rw [if_neg c, if_pos h0, if_neg h]
theorem plc_2 {w x y z : Int} (h0 : gd w x) (h1 : gd w y) (h : ¬ (0 ≤ z ∧ z ≤ 2 ^ 40)) : plc w x y z = 2 := by
  unfold gd at h1 h0
  unfold plc bad3
  split at h1
  · rename_i c
    rw [if_pos c] at h0
    rw [if_pos c, if_pos h0, if_pos h1, if_neg h]
  · rename_i c
    rw [if_neg c] at h0
    rw [if_neg c, if_pos h0, if_pos h1, if_neg h]
theorem plc_m {w x y z : Int} (h0 : gd w x) (h1 : gd w y) (h : 0 ≤ z ∧ z ≤ 2 ^ 40) : plc w x y z = -1 := by
  unfold gd at h1 h0
  unfold plc bad3
  split at h1
  · rename_i c
    rw [if_pos c] at h0
    rw [if_pos c, if_pos h0, if_pos h1, if_pos h]
  · rename_i c
    rw [if_neg c] at h0
    rw [if_neg c, if_pos h0, if_pos h1, if_pos h]
def sp__law_place (K : PySem.W.Frag) : Sp := fun vs H Q _ => ∃ (w x y z : Int), vs = [.int w, .int x, .int y, .int z] ∧ (w = 0 ∨ w = 1 ∨ w = 2 ∨ w = 3) ∧ ∀ H', Own K H H' [] → Q (.int (plc w x y z)) H'
theorem ok__law_place (T : Tx K mg) : Cl P w K mg base 5 "_law_place" ["_law_which", "_law_first", "_law_second", "_law_size"] (sp__law_place K) [] := by
  obtain ⟨gm, fd, F⟩ := T.d__law_place
  refine ⟨_, fd, [], F.ok sc__law_place (fun vs H Q E h => ?_) (fun cdv A outer s H vs Q E hr h => ⟨_, (PSs.nox (pss_cons (ps_try_as (i := 4) rfl rfl sc__law_place.nd rfl rfl ⟨rfl, by decide, .inl T.x_OutOfRange.g⟩ takes0
 (fun W pn xe tk hp => (pss_one (ps_if (pt_cmpR op_eq (pv 0) pe_int (nomark _))
 (pss_one (ps_expr (pe_clS (ok_adler32_joined T) (hr.mono (by decide)) rfl tk (pa_cons (pv 1) (pa_cons (pv 2) (pa_cons (pv 3) pa_nil))))))
 (pss_one (ps_if (pt_cmpR op_eq (pv 0) pe_int (nomark _))
 (pss_one (ps_expr (pe_clS (ok_crc32_joined T) (hr.mono (by decide)) rfl tk (pa_cons (pv 1) (pa_cons (pv 2) (pa_cons (pv 3) pa_nil))))))
 (pss_one (ps_if (pt_cmpR op_eq (pv 0) pe_int (nomark _))
 (pss_one (ps_expr (pe_clS (ok_adler32_front T) (hr.mono (by decide)) rfl tk (pa_cons (pv 1) (pa_cons (pv 2) (pa_cons (pv 3) pa_nil))))))
 (pss_one (ps_expr (pe_clS (ok_crc32_front T) (hr.mono (by decide)) rfl tk (pa_cons (pv 1) (pa_cons (pv 2) (pa_cons (pv 3) pa_nil)))))))))))))
 (fun a oe cls d pn hz hf => (pss_one (ps_ret (by exact (pe_xfB T.x_OutOfRange hz hf (pv 4)))))))
 (pss_one (ps_ret (by exact (pe_un un_neg pe_int)))))), ?_⟩), gm, F.kp, F.bindsN (fun _ _ _ _ _ _ us hl => match us, hl with | [_, _, _, _], _ => rfl), .nil⟩
  · first | (obtain ⟨rfl, _⟩ := h; rfl) | (obtain ⟨_, rfl, _⟩ := h; rfl) | (obtain ⟨_, _, rfl, _⟩ := h; rfl) | (obtain ⟨_, _, _, rfl, _⟩ := h; rfl) | (obtain ⟨_, _, _, _, rfl, _⟩ := h; rfl) | (obtain ⟨_, _, _, _, _, rfl, _⟩ := h; rfl) | (obtain ⟨_, _, _, _, _, _, rfl, _⟩ := h; rfl) | (obtain ⟨_, _, _, _, _, _, _, rfl, _⟩ := h; rfl) | (obtain ⟨_, _, _, _, _, _, _, _, rfl, _⟩ := h; rfl) | (obtain ⟨_, _, _, _, _, _, _, _, _, rfl, _⟩ := h; rfl) | (obtain ⟨_, _, _, _, _, _, _, _, _, _, rfl, _⟩ := h; rfl) | (obtain ⟨_, _, _, _, _, _, _, _, _, _, _, rfl, _⟩ := h; rfl) | (obtain ⟨_, _, _, _, _, _, _, _, _, _, _, _, rfl, _⟩ := h; rfl) | (obtain ⟨_, _, _, _, _, _, _, _, _, _, _, _, _, rfl, _⟩ := h; rfl) | (obtain ⟨_, _, _, _, _, _, _, _, _, _, _, _, _, _, rfl, _⟩ := h; rfl) | (obtain ⟨_, _, _, _, _, _, _, _, _, _, _, _, _, _, _, rfl, _⟩ := h; rfl) | (obtain ⟨_, _, _, _, _, _, _, _, _, _, _, _, _, _, _, _, rfl, _⟩ := h; rfl) | (obtain ⟨_, _, _, _, _, _, _, _, _, _, _, _, _, _, _, _, _, rfl, _⟩ := h; rfl) | (obtain ⟨_, _, _, _, _, _, _, _, _, _, _, _, _, _, _, _, _, _, rfl, _⟩ := h; rfl) | (obtain ⟨_, _, _, _, _, _, _, _, _, _, _, _, _, _, _, _, _, _, _, rfl, _⟩ := h; rfl) | (obtain ⟨_, _, _, _, _, _, _, _, _, _, _, _, _, _, _, _, _, _, _, _, rfl, _⟩ := h; rfl) | (obtain ⟨_, _, _, _, _, _, _, _, _, _, _, _, _, _, _, _, _, _, _, _, _, rfl, _⟩ := h; rfl)
  · obtain ⟨w, x, y, z, rfl, hw, qq⟩ := h
    k_call_by "xo" st__law_place
    unfold plc at qq
    have L := Own.start (K := K) (H := H)
    rcases hw with rfl | rfl | rfl | rfl
    · rw [if_pos (by decide)] at qq
      wtm_at "oo"
      refine ⟨x, y, z, rfl, fun g => ?_, fun g d hd => as_yes T.x_OutOfRange fun u hu => ?_⟩
      · rw [g] at qq
        wtm_at "oo"
        exact qq _ L
      · have L := L.new hd (.xd [("at", .int (bad3 (isAd x) (isAd y) z))])
        wtm_at "oo"
        exact qq _ (L.sub (by wtm_at "sub"))
    · rw [if_neg (by decide)] at qq
      wtm_at "oo"
      refine ⟨x, y, z, rfl, fun g => ?_, fun g d hd => as_yes T.x_OutOfRange fun u hu => ?_⟩
      · rw [g] at qq
        wtm_at "oo"
        exact qq _ L
      · have L := L.new hd (.xd [("at", .int (bad3 (okC x) (okC y) z))])
        wtm_at "oo"
        exact qq _ (L.sub (by wtm_at "sub"))
    · rw [if_pos (by decide)] at qq
      wtm_at "oo"
      refine ⟨x, y, z, rfl, fun g => ?_, fun g d hd => as_yes T.x_OutOfRange fun u hu => ?_⟩
      · rw [g] at qq
        wtm_at "oo"
        exact qq _ L
      · have L := L.new hd (.xd [("at", .int (bad3 (isAd x) (isAd y) z))])
        wtm_at "oo"
        exact qq _ (L.sub (by wtm_at "sub"))
    · rw [if_neg (by decide)] at qq
      wtm_at "oo"
      refine ⟨x, y, z, rfl, fun g => ?_, fun g d hd => as_yes T.x_OutOfRange fun u hu => ?_⟩
      · rw [g] at qq
        wtm_at "oo"
        exact qq _ L
      · have L := L.new hd (.xd [("at", .int (bad3 (okC x) (okC y) z))])
        wtm_at "oo"
        exact qq _ (L.sub (by wtm_at "sub"))
theorem pl_call {K : PySem.W.Frag} {B H : Hp} {l : List As} {w x y z : Int} {Q : VK} {E : XK} (r : Int) (hw : w = 0 ∨ w = 1 ∨ w = 2 ∨ w = 3) (e : plc w x y z = r) (L : Own K B H l) (h : ∀ H', Own K B H' l → Q (.int r) H') : sp__law_place K [.int w, .int x, .int y, .int z] H Q E :=
  ⟨w, x, y, z, rfl, hw, fun H' M => by rw [e]; exact h _ (L.c0 M)⟩
def sp__law_large (K : PySem.W.Frag) : Sp := fun vs H Q _ => ∃ (d : Addr) (ds : List Int) (w : Int), vs = [.ref d, .int w] ∧ SqL K H d (ds.map V.int) ∧ (w = 0 ∨ w = 1) ∧ ∀ H', Own K H H' [] → Q (.bl true) H'
theorem ok__law_large (T : Tx K mg) : Cl P w K mg base 5 "_law_large" ["_law_draws_here", "_law_which"] (sp__law_large K) [] := by
  obtain ⟨gm, fd, F⟩ := T.d__law_large
  refine ⟨_, fd, [], F.ok sc__law_large (fun vs H Q E h => ?_) (fun cdv A outer s H vs Q E hr h => ⟨_, (PSs.nox (pss_cons (ps_setLc (i := 2) (own := [("_law_k", 3)]) (g := (gName 3)) (tt := tYes) rfl sc__law_large.nd rfl rfl (sw_true rfl rfl rfl (by decide +kernel)) (pi_range1 rfl T.b_range (pa_cons pe_int pa_nil)) (blkOk_by (own := [("_law_k", 3)]) (N := N__law_large) (sc := defScope s__law_large) (by decide +kernel)) (fun _ _ _ _ _ => pg_name (i := 3) sc__law_large.nd rfl (Or.inl rfl)) (fun _ _ _ _ _ => pts_nil) (fun _ _ _ _ _ => (pe_op op_add (pe_op op_mul pe_int (pe_cl (ok__law_at T) (hr.mono (by decide)) rfl (pa_cons (pv 0) (pa_cons (pe_op op_add pe_int (pe_op op_mul pe_int (pv 3))) (pa_cons pe_int pa_nil))))) (pe_cl (ok__law_at T) (hr.mono (by decide)) rfl (pa_cons (pv 0) (pa_cons (pe_op op_add pe_int (pe_op op_mul pe_int (pv 3))) (pa_cons pe_int pa_nil)))))))
 (pss_cons (ps_set (i := 4) sc__law_large.nd rfl (Or.inl rfl) (by exact (pe_op op_add (pe_op op_add (pe_op op_pow pe_int pe_int) (pe_op op_mul pe_int (pe_cl (ok__law_at T) (hr.mono (by decide)) rfl (pa_cons (pv 0) (pa_cons pe_int (pa_cons pe_int pa_nil)))))) (pe_cl (ok__law_at T) (hr.mono (by decide)) rfl (pa_cons (pv 0) (pa_cons pe_int (pa_cons pe_int pa_nil)))))))
 (pss_cons (ps_set (i := 5) sc__law_large.nd rfl (Or.inl rfl) (by exact (pe_op op_add (pe_op op_add (pe_op op_pow pe_int pe_int) (pe_op op_mul pe_int (pe_cl (ok__law_at T) (hr.mono (by decide)) rfl (pa_cons (pv 0) (pa_cons pe_int (pa_cons pe_int pa_nil)))))) (pe_cl (ok__law_at T) (hr.mono (by decide)) rfl (pa_cons (pv 0) (pa_cons pe_int (pa_cons pe_int pa_nil)))))))
 (pss_cons (ps_if (pt_cmpR op_eq (pv 1) pe_int (nomark _))
 (pss_cons (ps_set (i := 6) sc__law_large.nd rfl (Or.inl rfl) (by exact (pe_cl (ok_adler32_joined T) (hr.mono (by decide)) rfl (pa_cons (pe_ix (ixl K) (pv 2) pe_int (fun _ _ => rfl)) (pa_cons (pe_ix (ixl K) (pv 2) pe_int (fun _ _ => rfl)) (pa_cons (pv 4) pa_nil))))))
 (pss_cons (ps_set (i := 7) sc__law_large.nd rfl (Or.inl rfl) (by exact (pe_cl (ok_adler32_joined T) (hr.mono (by decide)) rfl (pa_cons (pe_ix (ixl K) (pv 2) pe_int (fun _ _ => rfl)) (pa_cons (pe_cl (ok_adler32_joined T) (hr.mono (by decide)) rfl (pa_cons (pe_ix (ixl K) (pv 2) pe_int (fun _ _ => rfl)) (pa_cons (pe_ix (ixl K) (pv 2) pe_int (fun _ _ => rfl)) (pa_cons (pv 5) pa_nil)))) (pa_cons (pe_op op_add (pv 4) (pv 5)) pa_nil))))))
 (pss_one (ps_ret (by exact (pe_and (pe_cmpR op_eq (pe_cl (ok_adler32_joined T) (hr.mono (by decide)) rfl (pa_cons (pv 6) (pa_cons (pe_ix (ixl K) (pv 2) pe_int (fun _ _ => rfl)) (pa_cons (pv 5) pa_nil)))) (pv 7) (nomark _)) (pe_one (pe_cmpR op_eq (pe_cl (ok_adler32_front T) (hr.mono (by decide)) rfl (pa_cons (pv 6) (pa_cons (pe_ix (ixl K) (pv 2) pe_int (fun _ _ => rfl)) (pa_cons (pv 4) pa_nil)))) (pe_ix (ixl K) (pv 2) pe_int (fun _ _ => rfl)) (nomark _)))))))))
 pss_nil)
 (pss_cons (ps_set (i := 6) sc__law_large.nd rfl (Or.inl rfl) (by exact (pe_cl (ok_crc32_joined T) (hr.mono (by decide)) rfl (pa_cons (pe_ix (ixl K) (pv 2) pe_int (fun _ _ => rfl)) (pa_cons (pe_ix (ixl K) (pv 2) pe_int (fun _ _ => rfl)) (pa_cons (pv 4) pa_nil))))))
 (pss_cons (ps_set (i := 7) sc__law_large.nd rfl (Or.inl rfl) (by exact (pe_cl (ok_crc32_joined T) (hr.mono (by decide)) rfl (pa_cons (pe_ix (ixl K) (pv 2) pe_int (fun _ _ => rfl)) (pa_cons (pe_cl (ok_crc32_joined T) (hr.mono (by decide)) rfl (pa_cons (pe_ix (ixl K) (pv 2) pe_int (fun _ _ => rfl)) (pa_cons (pe_ix (ixl K) (pv 2) pe_int (fun _ _ => rfl)) (pa_cons (pv 5) pa_nil)))) (pa_cons (pe_op op_add (pv 4) (pv 5)) pa_nil))))))
 (pss_one (ps_ret (by exact (pe_and (pe_cmpR op_eq (pe_cl (ok_crc32_joined T) (hr.mono (by decide)) rfl (pa_cons (pv 6) (pa_cons (pe_ix (ixl K) (pv 2) pe_int (fun _ _ => rfl)) (pa_cons (pv 5) pa_nil)))) (pv 7) (nomark _)) (pe_one (pe_cmpR op_eq (pe_cl (ok_crc32_front T) (hr.mono (by decide)) rfl (pa_cons (pv 6) (pa_cons (pe_ix (ixl K) (pv 2) pe_int (fun _ _ => rfl)) (pa_cons (pv 4) pa_nil)))) (pe_ix (ixl K) (pv 2) pe_int (fun _ _ => rfl)) (nomark _)))))))))))))), ?_⟩), gm, F.kp, F.bindsN (fun _ _ _ _ _ _ us hl => match us, hl with | [_, _], _ => rfl), .nil⟩
  · first | (obtain ⟨rfl, _⟩ := h; rfl) | (obtain ⟨_, rfl, _⟩ := h; rfl) | (obtain ⟨_, _, rfl, _⟩ := h; rfl) | (obtain ⟨_, _, _, rfl, _⟩ := h; rfl) | (obtain ⟨_, _, _, _, rfl, _⟩ := h; rfl) | (obtain ⟨_, _, _, _, _, rfl, _⟩ := h; rfl) | (obtain ⟨_, _, _, _, _, _, rfl, _⟩ := h; rfl) | (obtain ⟨_, _, _, _, _, _, _, rfl, _⟩ := h; rfl) | (obtain ⟨_, _, _, _, _, _, _, _, rfl, _⟩ := h; rfl) | (obtain ⟨_, _, _, _, _, _, _, _, _, rfl, _⟩ := h; rfl) | (obtain ⟨_, _, _, _, _, _, _, _, _, _, rfl, _⟩ := h; rfl) | (obtain ⟨_, _, _, _, _, _, _, _, _, _, _, rfl, _⟩ := h; rfl) | (obtain ⟨_, _, _, _, _, _, _, _, _, _, _, _, rfl, _⟩ := h; rfl) | (obtain ⟨_, _, _, _, _, _, _, _, _, _, _, _, _, rfl, _⟩ := h; rfl) | (obtain ⟨_, _, _, _, _, _, _, _, _, _, _, _, _, _, rfl, _⟩ := h; rfl) | (obtain ⟨_, _, _, _, _, _, _, _, _, _, _, _, _, _, _, rfl, _⟩ := h; rfl) | (obtain ⟨_, _, _, _, _, _, _, _, _, _, _, _, _, _, _, _, rfl, _⟩ := h; rfl) | (obtain ⟨_, _, _, _, _, _, _, _, _, _, _, _, _, _, _, _, _, rfl, _⟩ := h; rfl) | (obtain ⟨_, _, _, _, _, _, _, _, _, _, _, _, _, _, _, _, _, _, rfl, _⟩ := h; rfl) | (obtain ⟨_, _, _, _, _, _, _, _, _, _, _, _, _, _, _, _, _, _, _, rfl, _⟩ := h; rfl) | (obtain ⟨_, _, _, _, _, _, _, _, _, _, _, _, _, _, _, _, _, _, _, _, rfl, _⟩ := h; rfl) | (obtain ⟨_, _, _, _, _, _, _, _, _, _, _, _, _, _, _, _, _, _, _, _, _, rfl, _⟩ := h; rfl)
  · obtain ⟨d, ds, w, rfl, hd, hw, qq⟩ := h
    k_call_by "xo" st__law_large
    have L := Own.start (K := K) (H := H)
    wtm_at "oo"
    wtm_at "cR"
    rename_i D H2 L2
    have hs : ∀ k, isAd (65536 * atD ds (64 + 2 * (0 + (k : Nat) : Int)) 65521 + atD ds (65 + 2 * (0 + (k : Nat) : Int)) 65521) := fun k => (two_parts (atD_lo (by decide)) (atD_hi (by decide)) (atD_lo (by decide)) (atD_hi (by decide))).1
    generalize eS : rngL _ 3 = S at L2
    obtain ⟨s0, s1, s2, rfl, i0, i1, i2⟩ : ∃ s0 s1 s2 : Int, S = [s0, s1, s2] ∧ isAd s0 ∧ isAd s1 ∧ isAd s2 := by
      subst eS
      exact ⟨_, _, _, rfl, hs 0, hs 1, hs 2⟩
    clear eS hs
    have hd2 := L2.sq hd
    wtm_at "oo"
    rename_i a0 a1 b0 b1 c0 c1 d0 d1
    have n0 : ∃ n : Nat, 1048576 + 65536 * atD ds 70 60000 + atD ds 71 65536 = (n : Int) ∧ n < 2 ^ 33 := ⟨(1048576 + 65536 * atD ds 70 60000 + atD ds 71 65536).toNat, by omega, by omega⟩
    have m0 : ∃ n : Nat, 1048576 + 65536 * atD ds 72 60000 + atD ds 73 65536 = (n : Int) ∧ n < 2 ^ 33 := ⟨(1048576 + 65536 * atD ds 72 60000 + atD ds 73 65536).toNat, by omega, by omega⟩
    obtain ⟨n, en, n1⟩ := n0
    obtain ⟨m, em, m1⟩ := m0
    rw [en, em]
    clear en em a0 a1 b0 b1 c0 c1 d0 d1
    rcases hw with rfl | rfl
    · wtm_at "oo"
      refine adj_call i0 i1 (by omega) (by omega) ?_
      wtm_at "oo"
      refine adj_call i1 i2 (by omega) (by omega) ?_
      wtm_at "oo"
      refine adj_call i0 (adJ_is _ _ _).1 (by omega) (by omega) ?_
      wtm_at "oo"
      refine adj_call (adJ_is _ _ _).1 i2 (by omega) (by omega) ?_
      wtm_at "oo"
      rw [adJ_assoc, decide_eq_true rfl]
      wtm_at "oo"
      refine adf_call (adJ_is _ _ _).1 i1 (by omega) (by omega) ?_
      wtm_at "oo"
      rw [ad_front i0 i1, decide_eq_true rfl]
      wtm_at "oo"
      exact qq _ (L2.sub (by wtm_at "sub"))
    · obtain ⟨z0, z1, _, _⟩ := i0
      obtain ⟨y0, y1, _, _⟩ := i1
      obtain ⟨x0, x1, _, _⟩ := i2
      obtain ⟨s0, rfl⟩ := Int.eq_ofNat_of_zero_le z0
      obtain ⟨s1, rfl⟩ := Int.eq_ofNat_of_zero_le y0
      obtain ⟨s2, rfl⟩ := Int.eq_ofNat_of_zero_le x0
      have z2 : s0 < 2 ^ 32 := by omega
      have y2 : s1 < 2 ^ 32 := by omega
      have x2 : s2 < 2 ^ 32 := by omega
      wtm_at "oo"
      refine crj_call z2 y2 (by omega) ?_
      wtm_at "oo"
      refine crj_call y2 x2 (by omega) ?_
      wtm_at "oo"
      rw [show (n : Int) + (m : Int) = ((n + m : Nat) : Int) by omega]
      refine crj_call z2 (joinN_lt y2 x2) (by omega) ?_
      wtm_at "oo"
      refine crj_call (joinN_lt z2 y2) x2 (by omega) ?_
      wtm_at "oo"
      rw [joinN_assoc, decide_eq_true rfl]
      wtm_at "oo"
      refine crf_call (joinN_lt z2 y2) y2 (by omega) ?_
      wtm_at "oo"
      rw [frontN z2 y2, decide_eq_true rfl]
      wtm_at "oo"
      exact qq _ (L2.sub (by wtm_at "sub"))


end
end K05

namespace K05
open PySem PySem.Spec PyProof.Rows L2 Bel
local macro_rules | `(tactic| wtm_at "xs") => `(tactic| simp only [x_next, x_seq, x_brk, x_cont, x_drop, x_ret, x_retN, x_if, sel_t, sel_f, selE_t, selE_f, selT_t, selT_f, selC_t, selC_f, x_test, x_tB, x_op, x_un, x_var, x_c, x_cb, x_nil, x_cons, x_rI, x_rI0, x_rU, x_rEq, x_rNe, x_rIxL, x_rIxT, x_rSlL, x_rCat, x_rRep, x_rApp, x_bm, x_bm0, x_sl, x_nopart, x_part, x_tup, x_lst, x_call, x_callS, x_asg, x_gname, x_gtup, x_gnil, x_gcons, x_gsub, x_setL, x_aug, x_ipI, x_ipC, x_bits, x_getL, x_augS, x_and, x_or, x_not, x_k, x_andV, x_orV, x_notV, x_ife, x_chain, x_for, x_ilist, x_itup, x_ienum, x_irng1, x_irng2, x_irev, x_lc, x_yes, wipe_nil, wipe_cons, List.map_cons, List.map_nil, x_misc, x_misc2, x_rz, lookup_at, Bool.not_true, Bool.not_false, decide_true, decide_false, not_true, not_false_eq_true, and_assoc, exists_and_left, exists_eq_left', exists_eq_left, exists_eq', exists_eq_right', exists_eq_right, V.int.injEq, V.ref.injEq, V.bl.injEq, V.str.injEq, List.cons.injEq, and_true, true_and, and_self, Option.some.injEq, List.cons_append, List.nil_append, List.append_nil, List.getElem?_cons_zero, List.getElem?_cons_succ, List.set_cons_zero, List.set_cons_succ, reduceCtorEq, false_and, and_false, exists_false, exists_const, or_false, false_or, scal_ii, scal_bb, scal_ss, List.length_cons, List.length_nil, Int.reduceToNat, Int.reducePow])
local macro_rules | `(tactic| k_call_by "xs" $h:term) => `(tactic| simp only [$h:term, x_next, x_seq, x_brk, x_cont, x_drop, x_ret, x_retN, x_if, sel_t, sel_f, selE_t, selE_f, selT_t, selT_f, selC_t, selC_f, x_test, x_tB, x_op, x_un, x_var, x_c, x_cb, x_nil, x_cons, x_rI, x_rI0, x_rU, x_rEq, x_rNe, x_rIxL, x_rIxT, x_rSlL, x_rCat, x_rRep, x_rApp, x_bm, x_bm0, x_sl, x_nopart, x_part, x_tup, x_lst, x_call, x_callS, x_asg, x_gname, x_gtup, x_gnil, x_gcons, x_gsub, x_setL, x_aug, x_ipI, x_ipC, x_bits, x_getL, x_augS, x_and, x_or, x_not, x_k, x_andV, x_orV, x_notV, x_ife, x_chain, x_for, x_ilist, x_itup, x_ienum, x_irng1, x_irng2, x_irev, x_lc, x_yes, wipe_nil, wipe_cons, List.map_cons, List.map_nil, x_misc, x_misc2, x_rz, lookup_at, Bool.not_true, Bool.not_false, decide_true, decide_false, not_true, not_false_eq_true, and_assoc, exists_and_left, exists_eq_left', exists_eq_left, exists_eq', exists_eq_right', exists_eq_right, V.int.injEq, V.ref.injEq, V.bl.injEq, V.str.injEq, List.cons.injEq, and_true, true_and, and_self, Option.some.injEq, List.cons_append, List.nil_append, List.append_nil, List.getElem?_cons_zero, List.getElem?_cons_succ, List.set_cons_zero, List.set_cons_succ, reduceCtorEq, false_and, and_false, exists_false, exists_const, or_false, false_or, scal_ii, scal_bb, scal_ss, List.length_cons, List.length_nil, Int.reduceToNat, Int.reducePow])
local macro_rules | `(tactic| wtm_at "hp") => `(tactic| first | (with_reducible assumption) | exact upd_same | (refine upd_keep (by with_reducible assumption) ?_; wtm_at "hp") | (refine Same.get (by with_reducible assumption) ?_; wtm_at "hp") | (refine upd_other (by first | (with_reducible assumption) | exact Ne.symm (by with_reducible assumption)) ?_; wtm_at "hp"))
local macro_rules | `(tactic| wtm_at "sq") => `(tactic| first | (with_reducible assumption) | exact SqL.of (by wtm_at "hp") | exact SqT.of (by wtm_at "hp") | (refine Same.seq (same_upd (by with_reducible assumption)) ?_; wtm_at "sq") | (refine Same.seq (by with_reducible assumption) ?_; wtm_at "sq") | (refine Same.seqT (same_upd (by with_reducible assumption)) ?_; wtm_at "sq") | (refine Same.seqT (by with_reducible assumption) ?_; wtm_at "sq"))
local macro_rules | `(tactic| wtm_at "cl") => `(tactic| first | (with_reducible assumption) | omega | (exact cmul_r (by omega) (by omega)) | (exact cmul_l (by omega) (by omega)) | (exact cdiv_ok (by omega) (by omega)) | (exact cpow_ok (by decide)) | (exact ⟨by omega, by omega, by omega⟩) | decide | (exact ⟨by omega, by omega⟩) | (simp only [List.length_append, List.length_map, List.length_cons, List.length_nil, rngL_len, sizeLine_eq]; omega) | wtm_at "hp" | wtm_at "sq")
local macro_rules | `(tactic| wtm_at "pf") => `(tactic| first | (with_reducible assumption) | omega | (simp only [List.length_append, List.length_map, List.length_cons, List.length_nil, rngL_len]; omega) | (with_reducible rfl) | (with_reducible trivial) | (with_reducible decide))
local macro_rules | `(tactic| wtm_at "st") => `(tactic| first | ((with_reducible refine g_at ?_); refine at_call (by wtm_at "sq") (by omega) (by omega) (fun _ _ => ?_)) | ((with_reducible refine g_row ?_); refine row_call (by wtm_at "hp") ?_) | ((with_reducible refine g_int ?_); refine int_call ?_) | ((with_reducible refine g_isi ?_); first | (refine isi_int rfl ?_) | (refine isi_lst rfl (by wtm_at "hp") ?_) | (refine isi_tup rfl (by wtm_at "hp") ?_)) | ((with_reducible refine g_ned ?_); refine ned_f (dq_lst (by wtm_at "sq")) (dq_lst (by wtm_at "sq")) ?_) | ((with_reducible refine g_eqd ?_); refine eqd_t (dq_lst (by wtm_at "sq")) (dq_lst (by wtm_at "sq")) ?_) | ((with_reducible refine g_tyv ?_); refine and_tyv (by wtm_at "sq") ?_) | ((with_reducible refine g_asq ?_); refine and_sq (by wtm_at "sq") ?_) | ((with_reducible refine g_lst ?_); refine ex_lst (by wtm_at "hp") ?_) | ((with_reducible refine g_or ?_); first | (refine ex_or (by wtm_at "sq") ?_) | (refine ex_ort (by wtm_at "sq") ?_)) | ((with_reducible refine g_sq ?_); refine ex_sq (by wtm_at "sq") ?_) | ((with_reducible refine g_sqt ?_); refine ex_sqt (by wtm_at "sq") ?_) | ((with_reducible refine gd_sel ?_); first | (refine sel_p (by wtm_at "pf") ?_) | (refine sel_n (by wtm_at "pf") ?_)) | ((with_reducible refine gn_sel ?_); first | (refine selN_p (by wtm_at "pf") ?_) | (refine selN_n (by wtm_at "pf") ?_)) | ((with_reducible refine gd_selT ?_); first | (refine selT_p (by wtm_at "pf") ?_) | (refine selT_n (by wtm_at "pf") ?_)) | ((with_reducible refine gn_selT ?_); first | (refine selTN_p (by wtm_at "pf") ?_) | (refine selTN_n (by wtm_at "pf") ?_)) | ((with_reducible refine gd_selE ?_); first | (refine selE_p (by wtm_at "pf") ?_) | (refine selE_n (by wtm_at "pf") ?_)) | ((with_reducible refine gn_selE ?_); first | (refine selEN_p (by wtm_at "pf") ?_) | (refine selEN_n (by wtm_at "pf") ?_)) | ((with_reducible refine g_xf ?_); refine xf_at rfl (by wtm_at "hp") ?_) | ((with_reducible refine g_atI ?_); refine ex_at (by first | exact rfl | exact atI_int (by omega) (by wtm_at "pf")) ?_) | ((with_reducible refine g_and ?_); refine And.intro (by wtm_at "cl") ?_) | ((with_reducible refine g_new ?_); intro _ _))
local macro_rules | `(tactic| wtm_at "go") => `(tactic| repeat (first | wtm_at "xs" | wtm_at "st"))
local macro_rules | `(tactic| wtm_at "xo") => `(tactic| simp only [x_next, x_seq, x_brk, x_cont, x_drop, x_ret, x_retN, x_if, sel_t, sel_f, selE_t, selE_f, selT_t, selT_f, selC_t, selC_f, x_test, x_tB, x_op, x_un, x_var, x_c, x_cb, x_nil, x_cons, x_rI, x_rI0, x_rU, x_rEq, x_rNe, x_rIxL, x_rIxT, n_rSlL, n_rCat, n_rRep, n_rApp, x_bm, x_bm0, x_sl, x_nopart, x_part, n_tup, n_lst, x_call, x_callS, x_asg, x_gname, x_gtup, x_gnil, x_gcons, x_gsub, n_setL, x_aug, x_ipI, x_ipC, x_bits, x_getL, x_augS, x_and, x_or, x_not, x_k, x_andV, x_orV, x_notV, x_ife, x_chain, x_for, x_ilist, x_itup, x_ienum, x_irng1, x_irng2, x_irev, x_lc, x_yes, wipe_nil, wipe_cons, List.map_cons, List.map_nil, x_misc, x_misc2, x_rz, lookup_at, Bool.not_true, Bool.not_false, decide_true, decide_false, not_true, not_false_eq_true, and_assoc, exists_and_left, exists_eq_left', exists_eq_left, exists_eq', exists_eq_right', exists_eq_right, V.int.injEq, V.ref.injEq, V.bl.injEq, V.str.injEq, List.cons.injEq, and_true, true_and, and_self, Option.some.injEq, List.cons_append, List.nil_append, List.append_nil, List.getElem?_cons_zero, List.getElem?_cons_succ, List.set_cons_zero, List.set_cons_succ, reduceCtorEq, false_and, and_false, exists_false, exists_const, or_false, false_or, scal_ii, scal_bb, scal_ss, List.length_cons, List.length_nil, Int.reduceToNat, Int.reducePow, n_rLs, t_s1, t_i1, t_i2, t_i3, t_i4, t_i5, x_chain3, x_irng3, x_irevR, x_rg1, x_rg2, ints_cat, ints_app1, ints_len, ints_take, ints_drop, rep_one])
local macro_rules | `(tactic| k_call_by "xo" $h:term) => `(tactic| simp only [$h:term, x_next, x_seq, x_brk, x_cont, x_drop, x_ret, x_retN, x_if, sel_t, sel_f, selE_t, selE_f, selT_t, selT_f, selC_t, selC_f, x_test, x_tB, x_op, x_un, x_var, x_c, x_cb, x_nil, x_cons, x_rI, x_rI0, x_rU, x_rEq, x_rNe, x_rIxL, x_rIxT, n_rSlL, n_rCat, n_rRep, n_rApp, x_bm, x_bm0, x_sl, x_nopart, x_part, n_tup, n_lst, x_call, x_callS, x_asg, x_gname, x_gtup, x_gnil, x_gcons, x_gsub, n_setL, x_aug, x_ipI, x_ipC, x_bits, x_getL, x_augS, x_and, x_or, x_not, x_k, x_andV, x_orV, x_notV, x_ife, x_chain, x_for, x_ilist, x_itup, x_ienum, x_irng1, x_irng2, x_irev, x_lc, x_yes, wipe_nil, wipe_cons, List.map_cons, List.map_nil, x_misc, x_misc2, x_rz, lookup_at, Bool.not_true, Bool.not_false, decide_true, decide_false, not_true, not_false_eq_true, and_assoc, exists_and_left, exists_eq_left', exists_eq_left, exists_eq', exists_eq_right', exists_eq_right, V.int.injEq, V.ref.injEq, V.bl.injEq, V.str.injEq, List.cons.injEq, and_true, true_and, and_self, Option.some.injEq, List.cons_append, List.nil_append, List.append_nil, List.getElem?_cons_zero, List.getElem?_cons_succ, List.set_cons_zero, List.set_cons_succ, reduceCtorEq, false_and, and_false, exists_false, exists_const, or_false, false_or, scal_ii, scal_bb, scal_ss, List.length_cons, List.length_nil, Int.reduceToNat, Int.reducePow, n_rLs, t_s1, t_i1, t_i2, t_i3, t_i4, t_i5, x_chain3, x_irng3, x_irevR, x_rg1, x_rg2, ints_cat, ints_app1, ints_len, ints_take, ints_drop, rep_one])
local macro_rules | `(tactic| wtm_at "mem") => `(tactic| first | (with_reducible exact mem_here) | (with_reducible refine mem_there ?_; wtm_at "mem"))
local macro_rules | `(tactic| wtm_at "pp") => `(tactic| first | (with_reducible exact Put.here) | (with_reducible apply Put.there; wtm_at "pp"))
local macro_rules | `(tactic| wtm_at "ho") => `(tactic| first | (with_reducible assumption) | exact Own.get (by with_reducible assumption) (by wtm_at "mem") | exact Own.base (by with_reducible assumption) (by with_reducible assumption))
local macro_rules | `(tactic| wtm_at "qo") => `(tactic| first | (with_reducible assumption) | exact SqL.of (by wtm_at "ho") | exact sqT_tupI (by wtm_at "ho") | exact sqT_tupS (by wtm_at "ho") | exact SqT.of (by wtm_at "ho") | exact Own.imT (by with_reducible assumption) (by wtm_at "mem") | exact Own.sq (by with_reducible assumption) (by with_reducible assumption) | exact Own.sqT (by with_reducible assumption) (by with_reducible assumption))
local macro_rules | `(tactic| wtm_at "sub") => `(tactic| first | exact List.nil_sublist _ | (with_reducible refine List.Sublist.cons_cons _ ?_; wtm_at "sub") | (refine List.Sublist.cons _ ?_; wtm_at "sub"))
local macro_rules | `(tactic| wtm_at "co") => `(tactic| first | (with_reducible assumption) | omega | (exact cmul_r (by omega) (by omega)) | (exact cmul_l (by omega) (by omega)) | (exact cdiv_ok (by omega) (by omega)) | (exact cpow_ok (by decide)) | (exact ⟨by omega, by omega, by omega⟩) | decide | (exact ⟨by omega, by omega⟩) | (simp only [List.length_append, List.length_map, List.length_cons, List.length_nil, rngL_len, sizeLine_eq]; omega) | wtm_at "ho" | wtm_at "qo")
local macro_rules | `(tactic| wtm_at "so") => `(tactic| first | ((with_reducible refine g_sum ?_); refine sum_call (by wtm_at "qo") ?_) | ((with_reducible refine g_cq ?_); exact cq (by with_reducible assumption) (by simp only [rngL_len, List.length_map, List.length_take]; omega)) | ((with_reducible refine g_newO ?_); refine newO (by with_reducible assumption) (fun _ _ _ => ?_)) | ((with_reducible refine g_appO ?_); refine appI (by with_reducible assumption) (by wtm_at "pp") (by wtm_at "co") (fun _ _ => ?_)) | ((with_reducible refine g_setO ?_); refine setI (by with_reducible assumption) (by wtm_at "pp") (by omega) (by wtm_at "co") (fun _ _ => ?_)) | ((with_reducible refine g_appO ?_); refine appO (by with_reducible assumption) (by wtm_at "pp") (by wtm_at "co") (fun _ _ => ?_)) | ((with_reducible refine g_setO ?_); refine setO (by with_reducible assumption) (by wtm_at "pp") (by omega) (by wtm_at "co") (fun _ _ => ?_)) | ((with_reducible refine g_at ?_); refine at_call (by wtm_at "qo") (by omega) (by omega) (fun _ _ => ?_)) | ((with_reducible refine g_row ?_); refine row_call (by wtm_at "ho") ?_) | ((with_reducible refine g_int ?_); refine int_call ?_) | ((with_reducible refine g_isi ?_); first | (refine isi_int rfl ?_) | (refine isi_sqL rfl (by wtm_at "qo") ?_) | (refine isi_sqT rfl (by wtm_at "qo") ?_) | (refine isi_bl rfl ?_) | (refine isi_non rfl ?_) | (refine isi_str rfl ?_)) | ((with_reducible refine g_ned ?_); first | (refine ned_f (dq_lst (by wtm_at "qo")) (dq_lst (by wtm_at "qo")) ?_) | (refine ned_ints (by wtm_at "qo") (by wtm_at "qo") ?_) | (refine nedT_ints (by wtm_at "qo") (by wtm_at "qo") ?_)) | ((with_reducible refine g_eqd ?_); first | (refine eqd_t (dq_lst (by wtm_at "qo")) (dq_lst (by wtm_at "qo")) ?_) | (refine eqd_ints (by wtm_at "qo") (by wtm_at "qo") ?_) | (refine eqdT_ints (by wtm_at "qo") (by wtm_at "qo") ?_)) | ((with_reducible refine g_tyv ?_); refine and_tyv (by wtm_at "qo") ?_) | ((with_reducible refine g_asq ?_); refine and_sq (by wtm_at "qo") ?_) | ((with_reducible refine g_lst ?_); refine ex_lst (by wtm_at "ho") ?_) | ((with_reducible refine g_or ?_); first | (refine ex_or (by wtm_at "qo") ?_) | (refine ex_ort (by wtm_at "qo") ?_)) | ((with_reducible refine g_sq ?_); refine ex_sq (by wtm_at "qo") ?_) | ((with_reducible refine g_sqt ?_); refine ex_sqt (by wtm_at "qo") ?_) | ((with_reducible refine gd_sel ?_); first | (refine sel_p (by wtm_at "pf") ?_) | (refine sel_n (by wtm_at "pf") ?_)) | ((with_reducible refine gn_sel ?_); first | (refine selN_p (by wtm_at "pf") ?_) | (refine selN_n (by wtm_at "pf") ?_)) | ((with_reducible refine gd_selT ?_); first | (refine selT_p (by wtm_at "pf") ?_) | (refine selT_n (by wtm_at "pf") ?_)) | ((with_reducible refine gn_selT ?_); first | (refine selTN_p (by wtm_at "pf") ?_) | (refine selTN_n (by wtm_at "pf") ?_)) | ((with_reducible refine gd_selE ?_); first | (refine selE_p (by wtm_at "pf") ?_) | (refine selE_n (by wtm_at "pf") ?_)) | ((with_reducible refine gn_selE ?_); first | (refine selEN_p (by wtm_at "pf") ?_) | (refine selEN_n (by wtm_at "pf") ?_)) | ((with_reducible refine g_xf ?_); refine xf_at rfl (by wtm_at "ho") ?_) | ((with_reducible refine g_atI ?_); refine ex_at (by first | exact rfl | exact atI_int (by omega) (by wtm_at "pf")) ?_) | ((with_reducible refine g_and ?_); refine And.intro (by wtm_at "co") ?_))
local macro_rules | `(tactic| wtm_at "oo") => `(tactic| repeat (first | wtm_at "xo" | wtm_at "so"))
local macro_rules | `(tactic| wtm_at "cR") => `(tactic| (refine' compRi _ (by with_reducible assumption) (by omega) (fun _ _ _ _ _ => ?_) (fun _ _ _ => ?_); rotate_left; focus (wtm_at "oo")))
section
variable {P : Program} {w : World} {K : PySem.W.Frag} {mg : Str → Option Value} {base : Heap}
def sp_law (K : PySem.W.Frag) : Sp := fun vs H Q _ => ∃ (a : Addr) (ns : List Int), vs = [.ref a] ∧ SqL K H a (ns.map V.int) ∧ ns.length ≤ 63 ∧ ∀ H', Q (.bl true) H'
theorem okf_law (T : Tx K mg) {fd : FuncData} (F : FunD K "law" "law" (defArgs s_law) (defBody s_law) (defScope s_law) [] [] (He.ga K "law") fd) : FnOk P w K mg base (L2.CX P w) 6 (He.ga K "law") fd ["_law_script"] (sp_law K) := by
  refine F.ok sc_law (fun vs H Q E h => ?_) (fun cdv A outer s H vs Q E hr h => ⟨_, (PSs.nox (pss_cons (ps_set (i := 1) sc_law.nd rfl (Or.inr rfl) (by exact (pe_cl (ok__law_draws T) (hr.mono (by decide)) rfl (pa_cons (pv 0) pa_nil))))
 (pss_cons (ps_setLc (i := 2) (own := [("_law_k", 3)]) (g := (gName 3)) (tt := tYes) rfl sc_law.nd rfl rfl (sw_true rfl rfl rfl (by decide +kernel)) (pi_range1 rfl T.b_range (pa_cons (pe_cl (ok__law_at T) (hr.mono (by decide)) rfl (pa_cons (pv 1) (pa_cons pe_int (pa_cons pe_int pa_nil)))) pa_nil)) (blkOk_by (own := [("_law_k", 3)]) (N := N_law) (sc := defScope s_law) (by decide +kernel)) (fun _ _ _ _ _ => pg_name (i := 3) sc_law.nd rfl (Or.inl rfl)) (fun _ _ _ _ _ => pts_nil) (fun _ _ _ _ _ => (pe_cl (ok__law_at T) (hr.mono (by decide)) rfl (pa_cons (pv 1) (pa_cons (pe_op op_add pe_int (pv 3)) (pa_cons pe_int pa_nil))))))
 (pss_cons (ps_setLc (i := 4) (own := [("_law_k", 3)]) (g := (gName 3)) (tt := tYes) rfl sc_law.nd rfl rfl (sw_true rfl rfl rfl (by decide +kernel)) (pi_range1 rfl T.b_range (pa_cons (pe_cl (ok__law_at T) (hr.mono (by decide)) rfl (pa_cons (pv 1) (pa_cons pe_int (pa_cons pe_int pa_nil)))) pa_nil)) (blkOk_by (own := [("_law_k", 3)]) (N := N_law) (sc := defScope s_law) (by decide +kernel)) (fun _ _ _ _ _ => pg_name (i := 3) sc_law.nd rfl (Or.inl rfl)) (fun _ _ _ _ _ => pts_nil) (fun _ _ _ _ _ => (pe_cl (ok__law_at T) (hr.mono (by decide)) rfl (pa_cons (pv 1) (pa_cons (pe_op op_add pe_int (pv 3)) (pa_cons pe_int pa_nil))))))
 (pss_cons (ps_if (pt_cmpR op_eq (pe_cl (ok__law_at T) (hr.mono (by decide)) rfl (pa_cons (pv 1) (pa_cons pe_int (pa_cons pe_int pa_nil)))) pe_int (nomark _))
 (pss_one (ps_setLc (i := 4) (own := [("_law_k", 3)]) (g := (gName 3)) (tt := tYes) rfl sc_law.nd rfl rfl (sw_true rfl rfl rfl (by decide +kernel)) (pi_range1 rfl T.b_range (pa_cons (pe_cl (ok__law_at T) (hr.mono (by decide)) rfl (pa_cons (pv 1) (pa_cons pe_int (pa_cons pe_int pa_nil)))) pa_nil)) (blkOk_by (own := [("_law_k", 3)]) (N := N_law) (sc := defScope s_law) (by decide +kernel)) (fun _ _ _ _ _ => pg_name (i := 3) sc_law.nd rfl (Or.inl rfl)) (fun _ _ _ _ _ => pts_nil) (fun _ _ _ _ _ => (pe_cl (ok__law_at T) (hr.mono (by decide)) rfl (pa_cons (pv 1) (pa_cons pe_int (pa_cons pe_int pa_nil)))))))
 pss_nil)
 (pss_cons (ps_set (i := 5) sc_law.nd rfl (Or.inl rfl) (by exact (pe_cl (ok__law_adler T) (hr.mono (by decide)) rfl (pa_cons (pv 2) pa_nil))))
 (pss_cons (ps_set (i := 6) sc_law.nd rfl (Or.inl rfl) (by exact (pe_cl (ok__law_adler T) (hr.mono (by decide)) rfl (pa_cons (pv 4) pa_nil))))
 (pss_cons (ps_set (i := 7) sc_law.nd rfl (Or.inl rfl) (by exact (pe_cl (ok__law_adler T) (hr.mono (by decide)) rfl (pa_cons (pe_op op_cat (pv 2) (pv 4)) pa_nil))))
 (pss_cons (ps_set (i := 8) sc_law.nd rfl (Or.inl rfl) (by exact (pe_cl (ok__law_crc T) (hr.mono (by decide)) rfl (pa_cons (pv 2) pa_nil))))
 (pss_cons (ps_set (i := 9) sc_law.nd rfl (Or.inl rfl) (by exact (pe_cl (ok__law_crc T) (hr.mono (by decide)) rfl (pa_cons (pv 4) pa_nil))))
 (pss_cons (ps_set (i := 10) sc_law.nd rfl (Or.inl rfl) (by exact (pe_cl (ok__law_crc T) (hr.mono (by decide)) rfl (pa_cons (pe_op op_cat (pv 2) (pv 4)) pa_nil))))
 (pss_cons (ps_set (i := 11) sc_law.nd rfl (Or.inl rfl) (by exact (pe_callB (lenK K) rfl T.b_len (by decide +kernel) (pa_cons (pv 4) pa_nil))))
 (pss_cons (ps_set (i := 12) sc_law.nd rfl (Or.inl rfl) (by exact (pe_lst (pa_cons (pe_cl (ok_adler32_joined T) (hr.mono (by decide)) rfl (pa_cons (pv 5) (pa_cons (pv 6) (pa_cons (pv 11) pa_nil)))) (pa_cons (pe_cl (ok_crc32_joined T) (hr.mono (by decide)) rfl (pa_cons (pv 8) (pa_cons (pv 9) (pa_cons (pv 11) pa_nil)))) (pa_cons (pe_cl (ok_adler32_front T) (hr.mono (by decide)) rfl (pa_cons (pv 7) (pa_cons (pv 6) (pa_cons (pv 11) pa_nil)))) (pa_cons (pe_cl (ok_crc32_front T) (hr.mono (by decide)) rfl (pa_cons (pv 10) (pa_cons (pv 9) (pa_cons (pv 11) pa_nil)))) pa_nil)))))))
 (pss_cons (ps_if (PW.pt (pw_or (pt_not (pt_val (pe_cl (ok__law_is_row T) (hr.mono (by decide)) rfl (pa_cons (pv 12) pa_nil)))) (pw_or1 (pt_cmpR (neK K hr.units) (pv 12) (pe_lst (pa_cons (pv 7) (pa_cons (pv 10) (pa_cons (pv 5) (pa_cons (pv 8) pa_nil))))) (nomark _)))))
 (pss_one (ps_ret (by exact pe_bl)))
 pss_nil)
 (pss_cons (ps_if (pt_cmpR op_eq (pe_cl (ok__law_at T) (hr.mono (by decide)) rfl (pa_cons (pv 1) (pa_cons pe_int (pa_cons pe_int pa_nil)))) pe_int (nomark _))
 (pss_cons (ps_if (PW.pt (pw_or (pt_not (pt_val (pe_cl (ok__law_large T) (hr.mono (by decide)) rfl (pa_cons (pv 1) (pa_cons pe_int pa_nil))))) (pw_or1 (pt_not (pt_val (pe_cl (ok__law_large T) (hr.mono (by decide)) rfl (pa_cons (pv 1) (pa_cons pe_int pa_nil))))))))
 (pss_one (ps_ret (by exact pe_bl)))
 pss_nil)
 (pss_one (ps_if (PW.pt (pw_or (pt_cmpR op_ne (pe_cl (ok__law_place T) (hr.mono (by decide)) rfl (pa_cons pe_int (pa_cons (pv 10) (pa_cons (pv 9) (pa_cons (pe_op op_pow pe_int pe_int) pa_nil))))) (pe_un un_neg pe_int) (nomark _)) (pw_or1 (pt_cmpR op_ne (pe_cl (ok__law_place T) (hr.mono (by decide)) rfl (pa_cons pe_int (pa_cons (pv 5) (pa_cons (pv 6) (pa_cons (pe_op op_pow pe_int pe_int) pa_nil))))) (pe_un un_neg pe_int) (nomark _)))))
 (pss_one (ps_ret (by exact pe_bl)))
 pss_nil)))
 pss_nil)
 (pss_cons (ps_set (i := 13) sc_law.nd rfl (Or.inl rfl) (by exact (pe_op op_add pe_int (pe_cl (ok__law_at T) (hr.mono (by decide)) rfl (pa_cons (pv 1) (pa_cons pe_int (pa_cons pe_int pa_nil)))))))
 (pss_cons (ps_for PassesOwn.never rfl (pi_list (pe_lst (pa_cons pe_int (pa_cons pe_int pa_nil)))) (pg_name (i := 14) sc_law.nd rfl (Or.inl rfl))
 (pss_one (ps_if (PW.pt (pw_or (pt_cmpR op_ne (pe_cl (ok__law_place T) (hr.mono (by decide)) rfl (pa_cons (pv 14) (pa_cons (pv 13) (pa_cons (pe_op op_mul pe_int (pv 13)) (pa_cons (pv 11) pa_nil))))) pe_int (nomark _)) (pw_or1 (pt_cmpR op_ne (pe_cl (ok__law_place T) (hr.mono (by decide)) rfl (pa_cons (pv 14) (pa_cons pe_int (pa_cons (pe_op op_mul pe_int (pv 13)) (pa_cons (pv 11) pa_nil))))) pe_int (nomark _)))))
 (pss_one (ps_ret (by exact pe_bl)))
 pss_nil)))
 (pss_cons (ps_for PassesOwn.never rfl (pi_range1 rfl T.b_range (pa_cons pe_int pa_nil)) (pg_name (i := 14) sc_law.nd rfl (Or.inl rfl))
 (pss_cons (ps_set (i := 15) sc_law.nd rfl (Or.inl rfl) (by exact (pe_ix (ixl K) (pe_lst (pa_cons (pv 5) (pa_cons (pv 8) (pa_cons (pv 7) (pa_cons (pv 10) pa_nil))))) (pv 14) (fun _ _ => rfl))))
 (pss_cons (ps_set (i := 16) sc_law.nd rfl (Or.inl rfl) (by exact (pe_ix (ixl K) (pe_lst (pa_cons (pv 6) (pa_cons (pv 9) (pa_cons (pv 6) (pa_cons (pv 9) pa_nil))))) (pv 14) (fun _ _ => rfl))))
 (pss_cons (ps_if (pt_cmpR op_ne (pe_cl (ok__law_place T) (hr.mono (by decide)) rfl (pa_cons (pv 14) (pa_cons (pe_op op_sub (pe_un un_neg pe_int) (pv 15)) (pa_cons (pv 16) (pa_cons (pv 11) pa_nil))))) pe_int (nomark _))
 (pss_one (ps_ret (by exact pe_bl)))
 pss_nil)
 (pss_cons (ps_if (pt_cmpR op_ne (pe_cl (ok__law_place T) (hr.mono (by decide)) rfl (pa_cons (pv 14) (pa_cons (pe_op op_add (pv 15) (pe_op op_pow pe_int pe_int)) (pa_cons (pe_un un_neg pe_int) (pa_cons (pe_un un_neg pe_int) pa_nil))))) pe_int (nomark _))
 (pss_one (ps_ret (by exact pe_bl)))
 pss_nil)
 (pss_cons (ps_if (pt_cmpR op_ne (pe_cl (ok__law_place T) (hr.mono (by decide)) rfl (pa_cons (pv 14) (pa_cons (pv 15) (pa_cons (pe_op op_add (pv 16) (pe_op op_pow pe_int pe_int)) (pa_cons (pe_op op_sub (pe_un un_neg pe_int) (pv 11)) pa_nil))))) pe_int (nomark _))
 (pss_one (ps_ret (by exact pe_bl)))
 pss_nil)
 (pss_cons (ps_if (pt_cmpR op_ne (pe_cl (ok__law_place T) (hr.mono (by decide)) rfl (pa_cons (pv 14) (pa_cons (pv 15) (pa_cons (pv 16) (pa_cons (pe_op op_sub (pe_un un_neg pe_int) (pv 11)) pa_nil))))) pe_int (nomark _))
 (pss_one (ps_ret (by exact pe_bl)))
 pss_nil)
 (pss_one (ps_if (pt_cmpR op_ne (pe_cl (ok__law_place T) (hr.mono (by decide)) rfl (pa_cons (pv 14) (pa_cons (pv 15) (pa_cons (pv 16) (pa_cons (pe_op op_add (pe_op op_add (pe_op op_pow pe_int pe_int) pe_int) (pv 11)) pa_nil))))) pe_int (nomark _))
 (pss_one (ps_ret (by exact pe_bl)))
 pss_nil)))))))))
 (pss_one (ps_ret (by exact pe_bl))))))))))))))))))))), ?_⟩)
  · first | (obtain ⟨rfl, _⟩ := h; rfl) | (obtain ⟨_, rfl, _⟩ := h; rfl) | (obtain ⟨_, _, rfl, _⟩ := h; rfl) | (obtain ⟨_, _, _, rfl, _⟩ := h; rfl) | (obtain ⟨_, _, _, _, rfl, _⟩ := h; rfl) | (obtain ⟨_, _, _, _, _, rfl, _⟩ := h; rfl) | (obtain ⟨_, _, _, _, _, _, rfl, _⟩ := h; rfl) | (obtain ⟨_, _, _, _, _, _, _, rfl, _⟩ := h; rfl) | (obtain ⟨_, _, _, _, _, _, _, _, rfl, _⟩ := h; rfl) | (obtain ⟨_, _, _, _, _, _, _, _, _, rfl, _⟩ := h; rfl) | (obtain ⟨_, _, _, _, _, _, _, _, _, _, rfl, _⟩ := h; rfl) | (obtain ⟨_, _, _, _, _, _, _, _, _, _, _, rfl, _⟩ := h; rfl) | (obtain ⟨_, _, _, _, _, _, _, _, _, _, _, _, rfl, _⟩ := h; rfl) | (obtain ⟨_, _, _, _, _, _, _, _, _, _, _, _, _, rfl, _⟩ := h; rfl) | (obtain ⟨_, _, _, _, _, _, _, _, _, _, _, _, _, _, rfl, _⟩ := h; rfl) | (obtain ⟨_, _, _, _, _, _, _, _, _, _, _, _, _, _, _, rfl, _⟩ := h; rfl) | (obtain ⟨_, _, _, _, _, _, _, _, _, _, _, _, _, _, _, _, rfl, _⟩ := h; rfl) | (obtain ⟨_, _, _, _, _, _, _, _, _, _, _, _, _, _, _, _, _, rfl, _⟩ := h; rfl) | (obtain ⟨_, _, _, _, _, _, _, _, _, _, _, _, _, _, _, _, _, _, rfl, _⟩ := h; rfl) | (obtain ⟨_, _, _, _, _, _, _, _, _, _, _, _, _, _, _, _, _, _, _, rfl, _⟩ := h; rfl) | (obtain ⟨_, _, _, _, _, _, _, _, _, _, _, _, _, _, _, _, _, _, _, _, rfl, _⟩ := h; rfl) | (obtain ⟨_, _, _, _, _, _, _, _, _, _, _, _, _, _, _, _, _, _, _, _, _, rfl, _⟩ := h; rfl)
  · obtain ⟨a, ns, rfl, hS, hlen, q⟩ := h
    k_call_by "xo" st_law
    have L := Own.start (K := K) (H := H)
    refine ⟨a, ns, rfl, hS, hlen, fun ds p H1 hd hs hp hl => ?_⟩
    have L := L.add0 hs hp hl
    clear hs hp hl hS
    have key : ∀ (f : Nat → Int) (c : Int) (n : Nat), n ≤ 600 → (∀ k, f k = atD ds (c + (k : Int)) 256 ∨ f k = atD ds 34 256) → ∃ xs : List Nat, rngL f n = xs.map (fun x : Nat => (x : Int)) ∧ (∀ x ∈ xs, x < 256) ∧ xs.length ≤ 600 := by
      intro f c n hn hf
      obtain ⟨xs, e, hx⟩ := nats_of (ns := rngL f n) fun x m => by
        obtain ⟨k, _, rfl⟩ := List.mem_map.mp m
        rcases hf k with e | e <;> rw [e] <;> exact ⟨atD_lo (by decide), atD_hi (by decide)⟩
      refine ⟨xs, e, hx, ?_⟩
      have := congrArg List.length e
      rw [rngL_len, List.length_map] at this
      omega
    wtm_at "oo"
    rename_i n0 n1
    wtm_at "cR"
    rename_i D1 H2 L2
    obtain ⟨xs, e, hx, hxl⟩ := key (fun k => atD ds (4 + (0 + (k : Int))) 256) 4 (atD ds 0 31).toNat (by omega) fun k => .inl (by show atD ds (4 + (0 + (k : Int))) 256 = _; rw [Int.zero_add])
    rw [e] at L2
    clear e
    wtm_at "oo"
    rename_i m0 m1
    wtm_at "cR"
    rename_i D2 H3 L3
    obtain ⟨ys, e, hy, hyl⟩ := key (fun k => atD ds (34 + (0 + (k : Int))) 256) 34 (atD ds 1 31).toNat (by omega) fun k => .inl (by show atD ds (34 + (0 + (k : Int))) 256 = _; rw [Int.zero_add])
    rw [e] at L3
    clear e n0 n1 m0 m1
    generalize hk : tSeq _ _ _ = kont
    have fin : ∀ (D2 : Addr) (y3 : Option V) (ys : List Nat) (H3 : Hp), (∀ x ∈ ys, x < 256) → ys.length ≤ 600 → Own K H H3 [pI D2 (ys.map fun x : Nat => (x : Int)), pI D1 (xs.map fun x : Nat => (x : Int)), pI p ds] →
        kont [some (.ref a), some (.ref p), some (.ref D1), y3, some (.ref D2), none, none, none, none, none, none, none, none, none, none, none, none] H3 := by
      clear L3 hy hyl ys L2 L
      intro D2 y3 ys H3 hy hyl L3
      subst hk
      wtm_at "oo"
      refine ⟨D1, xs.map fun x : Nat => (x : Int), rfl, by wtm_at "qo", ?_⟩
      wtm_at "oo"
      refine ⟨D2, ys.map fun x : Nat => (x : Int), rfl, by wtm_at "qo", ?_⟩
      wtm_at "oo"
      rename_i D3 H4 L4
      refine ⟨D3, xs.map (fun x : Nat => (x : Int)) ++ ys.map (fun x : Nat => (x : Int)), rfl, by wtm_at "qo", ?_⟩
      wtm_at "oo"
      refine ⟨D1, xs, rfl, by rw [bytesV_eq]; wtm_at "qo", ?_⟩
      wtm_at "oo"
      refine ⟨D2, ys, rfl, by rw [bytesV_eq]; wtm_at "qo", ?_⟩
      wtm_at "oo"
      rename_i D4 H5 L5
      refine ⟨D4, xs ++ ys, rfl, by rw [bytesV_eq, List.map_append]; wtm_at "qo", ?_⟩
      wtm_at "oo"
      have ea : ad1 (xs.map (fun x : Nat => (x : Int)) ++ ys.map (fun x : Nat => (x : Int))) = adJ (ad1 (xs.map fun x : Nat => (x : Int))) (ad1 (ys.map fun x : Nat => (x : Int))) ys.length := by
        rw [ad_join, List.length_map]
      have ec := crc_join xs ys
      have ia := (ad1_is (xs.map fun x : Nat => (x : Int))).1
      have ib := (ad1_is (ys.map fun x : Nat => (x : Int))).1
      have ic : crcN xs 0 < 2 ^ 32 := crcN_lt (by decide) hx
      have id_ : crcN ys 0 < 2 ^ 32 := crcN_lt (by decide) hy
      have el : (ys.map fun x : Nat => (x : Int)).length = ys.length := List.length_map ..
      rw [ea, ec, el]
      clear ea ec el
      generalize ad1 (xs.map fun x : Nat => (x : Int)) = av at *
      generalize ad1 (ys.map fun x : Nat => (x : Int)) = bv at *
      generalize crcN xs 0 = cv at *
      generalize crcN ys 0 = dv at *
      generalize eq_n : ys.length = n at *
      refine adj_call ia ib (by omega) (by omega) ?_
      wtm_at "oo"
      refine crj_call ic id_ (by omega) ?_
      wtm_at "oo"
      refine adf_call (adJ_is _ _ _).1 ib (by omega) (by omega) ?_
      wtm_at "oo"
      refine crf_call (joinN_lt ic id_) id_ (by omega) ?_
      rw [ad_front ia ib, frontN ic id_]
      have L5 := L5.sub (l' := [pI p ds]) (by wtm_at "sub")
      clear L4 L3
      have l4 : ∀ {x y z u : Int}, HO.lst [.int x, .int y, .int z, .int u] = .lst ([x, y, z, u].map V.int) := rfl
      refine And.intro (by rw [sizeLine_eq]; decide) ?_
      rw [l4]
      refine newO L5 (fun D5 H6 L6 => ?_)
      refine row_call (by wtm_at "ho") ?_
      wtm_at "xo"
      refine And.intro (by rw [sizeLine_eq]; decide) ?_
      rw [l4]
      refine newO L6 (fun D6 H7 L7 => ?_)
      refine ned_f (dq_lst (by wtm_at "qo")) (dq_lst (by wtm_at "qo")) ?_
      have L7 := L7.sub (l' := [pI p ds]) (by wtm_at "sub")
      clear L6 L5
      wtm_at "xo"
      generalize hk : tSeq _ _ _ = kont
      have fin : ∀ u (H7 : Hp), Own K H H7 [pI p ds] → kont [some (.ref a), some (.ref p), some (.ref D1), y3, some (.ref D2), some (.int av), some (.int bv), some (.int (adJ av bv n)), some (.int (cv : Nat)), some (.int (dv : Nat)), some (.int (joinN cv dv n : Nat)), some (.int (n : Nat)), u, none, none, none, none] H7 := by
        clear L7
        intro u H7 L7
        subst hk
        wtm_at "oo"
        rename_i h0 h1 D8 H8 L8
        have hi0 : 65521 ≤ 65521 + atD ds 3 15 ∧ 65521 + atD ds 3 15 < 65536 := by omega
        clear h0 h1
        generalize 65521 + atD ds 3 15 = hi at *
        refine loop_list (xs := [V.int 0, V.int 2]) (fun i σ H' => ∃ y14, σ = [some (.ref a), some (.ref p), some (.ref D1), y3, some (.ref D2), some (.int av), some (.int bv), some (.int (adJ av bv n)), some (.int (cv : Nat)), some (.int (dv : Nat)), some (.int (joinN cv dv n : Nat)), some (.int (n : Nat)), u, some (.int hi), y14, none, none] ∧ Own K H H' [.pt D8 (.lst [V.int 0, V.int 2]), pI p ds]) ⟨none, rfl, L8⟩ (fun i σ H' _ ⟨_, _, L⟩ => SqL.of (L.get (.head _))) ?_ ?_
        · rintro i x σ H9 hx ⟨y14, rfl, L⟩
          obtain ⟨w, rfl, hw⟩ : ∃ w : Int, x = .int w ∧ (w = 0 ∨ w = 2) := by
            match i, hx with
            | 0, hx => exact ⟨0, (Option.some.inj hx).symm, .inl rfl⟩
            | 1, hx => exact ⟨2, (Option.some.inj hx).symm, .inr rfl⟩
            | n + 2, hx => cases hx
          have hg : ∀ z, gd w z ↔ isAd z := fun z => by
            unfold gd
            rw [if_pos hw]
          have n1 : ¬ gd w hi := fun z => by
            have := (hg _).mp z
            unfold isAd at this
            omega
          have n2 : ¬ gd w (65536 * hi) := fun z => by
            have := (hg _).mp z
            unfold isAd at this
            omega
          have n3 : gd w 1 := (hg _).mpr (by decide)
          have hw4 : w = 0 ∨ w = 1 ∨ w = 2 ∨ w = 3 := by omega
          wtm_at "oo"
          refine pl_call 0 hw4 (plc_0 n1) L (fun H10 L10 => ?_)
          wtm_at "oo"
          refine pl_call 1 hw4 (plc_1 n3 n2) L10 (fun H11 L11 => ?_)
          wtm_at "oo"
          exact L11
        · rintro σ H9 ⟨y14, rfl, L⟩
          have L := L.sub (l' := [pI p ds]) (by wtm_at "sub")
          wtm_at "oo"
          refine loop_rangeN (m := 4) rfl (fun i σ H' => ∃ y14 y15 y16, σ = [some (.ref a), some (.ref p), some (.ref D1), y3, some (.ref D2), some (.int av), some (.int bv), some (.int (adJ av bv n)), some (.int (cv : Nat)), some (.int (dv : Nat)), some (.int (joinN cv dv n : Nat)), some (.int (n : Nat)), u, some (.int hi), y14, y15, y16] ∧ Own K H H' [pI p ds]) ⟨y14, none, none, rfl, L⟩ ?_ ?_
          · rintro i σ H10 hi4 ⟨y14, y15, y16, rfl, L⟩
            have gA : ∀ {w z}, w = 0 ∨ w = 2 → isAd z → gd w z := fun h k => by
              unfold gd
              rw [if_pos h]
              exact k
            have gC : ∀ {w : Int} {z : Nat}, ¬ (w = 0 ∨ w = 2) → z < 2 ^ 32 → gd w z := fun h k => by
              unfold gd
              rw [if_neg h]
              exact ⟨by omega, by omega⟩
            wtm_at "oo"
            rename_i D9 H11 L11
            obtain ⟨g, eg, hg⟩ : ∃ g : Int, atI [V.int av, .int (cv : Nat), .int (adJ av bv n), .int (joinN cv dv n : Nat)] (0 + (i : Int)) = some (.int g) ∧ gd (0 + (i : Int)) g := by
              match i, hi4 with
              | 0, _ => exact ⟨_, rfl, gA (.inl rfl) ia⟩
              | 1, _ => exact ⟨_, rfl, gC (by decide) ic⟩
              | 2, _ => exact ⟨_, rfl, gA (.inr rfl) (adJ_is _ _ _).1⟩
              | 3, _ => exact ⟨_, rfl, gC (by decide) (joinN_lt ic id_)⟩
            refine ⟨_, eg, ?_⟩
            wtm_at "oo"
            rename_i D10 H12 L12
            obtain ⟨g2, eg2, hg2⟩ : ∃ g : Int, atI [V.int bv, .int (dv : Nat), .int bv, .int (dv : Nat)] (0 + (i : Int)) = some (.int g) ∧ gd (0 + (i : Int)) g := by
              match i, hi4 with
              | 0, _ => exact ⟨_, rfl, gA (.inl rfl) ib⟩
              | 1, _ => exact ⟨_, rfl, gC (by decide) id_⟩
              | 2, _ => exact ⟨_, rfl, gA (.inr rfl) ib⟩
              | 3, _ => exact ⟨_, rfl, gC (by decide) id_⟩
            refine ⟨_, eg2, ?_⟩
            have L12 := L12.sub (l' := [pI p ds]) (by wtm_at "sub")
            have hw4 : 0 + (i : Int) = 0 ∨ 0 + (i : Int) = 1 ∨ 0 + (i : Int) = 2 ∨ 0 + (i : Int) = 3 := by omega
            clear L11 L gA gC eg eg2
            have o1 := gd_ok hg
            have o2 := gd_ok hg2
            unfold okC at o1 o2
            generalize 0 + (i : Int) = w at *
            have no : ∀ z : Int, z < 0 ∨ 2 ^ 32 ≤ z → ¬ gd w z := fun z h k => by
              have := gd_ok k
              unfold okC at this
              omega
            wtm_at "oo"
            refine pl_call 0 hw4 (plc_0 (no _ (by omega))) L12 (fun H13 L13 => ?_)
            wtm_at "oo"
            refine pl_call 0 hw4 (plc_0 (no _ (by omega))) L13 (fun H14 L14 => ?_)
            wtm_at "oo"
            refine pl_call 1 hw4 (plc_1 hg (no _ (by omega))) L14 (fun H15 L15 => ?_)
            wtm_at "oo"
            refine pl_call 2 hw4 (plc_2 hg hg2 (by omega)) L15 (fun H16 L16 => ?_)
            wtm_at "oo"
            refine pl_call 2 hw4 (plc_2 hg hg2 (by omega)) L16 (fun H17 L17 => ?_)
            wtm_at "oo"
            exact L17
          · rintro σ H10 ⟨y14, y15, y16, rfl, L⟩
            wtm_at "oo"
            exact q _
      wtm_at "oo"
      refine sel_d (fun c => ?_) (fun c => ?_)
      · wtm_at "oo"
        refine ⟨p, ds, 0, rfl, by wtm_at "qo", .inl rfl, fun H8 M => ?_⟩
        have L8 := L7.c0 M
        clear M
        wtm_at "oo"
        refine ⟨p, ds, 1, rfl, by wtm_at "qo", .inr rfl, fun H9 M => ?_⟩
        have L9 := L8.c0 M
        clear M L8
        wtm_at "oo"
        refine pl_call (-1) (.inr (.inr (.inr rfl))) (plc_m (by unfold gd; rw [if_neg (by decide)]; exact ⟨by omega, by have := joinN_lt (n := n) ic id_; omega⟩) (by unfold gd; rw [if_neg (by decide)]; exact ⟨by omega, by omega⟩) (by decide)) L9 (fun H10 L10 => ?_)
        wtm_at "oo"
        refine pl_call (-1) (.inl rfl) (plc_m (by unfold gd; rw [if_pos (by decide)]; exact ia) (by unfold gd; rw [if_pos (by decide)]; exact ib) (by decide)) L10 (fun H11 L11 => ?_)
        wtm_at "oo"
        exact fin _ H11 L11
      · wtm_at "oo"
        exact fin _ H7 L7
    wtm_at "oo"
    refine sel_d (fun c => ?_) (fun c => ?_)
    · wtm_at "oo"
      rename_i w0 w1
      wtm_at "cR"
      rename_i D4 H4 L4
      obtain ⟨zs, e, hz, hzl⟩ := key (fun k => atD ds 34 256) 0 (atD ds 3 601).toNat (by omega) fun k => .inr rfl
      rw [e] at L4
      clear e w0 w1
      wtm_at "oo"
      exact fin D4 _ zs H4 hz hzl (L4.sub (by wtm_at "sub"))
    · wtm_at "oo"
      exact fin D2 _ ys H3 hy hyl L3


end
end K05

namespace K05
open PySem PySem.Spec PyProof.Rows L2 Bel
def fa : List He.Fa := [.glo "_law_draws", .glo "_law_at", .glo "_law_is_integer", .glo "_law_is_row", .glo "_is_crc", .glo "_is_adler", .glo "_check_three", .glo "_product", .glo "_moved", .glo "adler32_joined", .glo "crc32_joined", .glo "adler32_front", .glo "crc32_front", .glo "_law_adler", .glo "_law_crc", .glo "_law_place", .glo "_law_large", .glo "law", .free "abs", .free "bool", .free "int", .free "isinstance", .free "len", .free "list", .free "min", .free "range"]
def fn : List He.DefD := [⟨("_law_draws", none), "_law_draws", "_law_draws", defArgs s__law_draws, defBody s__law_draws, defScope s__law_draws, [], []⟩, ⟨("_law_at", none), "_law_at", "_law_at", defArgs s__law_at, defBody s__law_at, defScope s__law_at, [], []⟩, ⟨("_law_is_integer", none), "_law_is_integer", "_law_is_integer", defArgs s__law_is_integer, defBody s__law_is_integer, defScope s__law_is_integer, [], []⟩, ⟨("_law_is_row", none), "_law_is_row", "_law_is_row", defArgs s__law_is_row, defBody s__law_is_row, defScope s__law_is_row, [], []⟩, ⟨("_is_crc", none), "_is_crc", "_is_crc", defArgs s__is_crc, defBody s__is_crc, defScope s__is_crc, [], []⟩, ⟨("_is_adler", none), "_is_adler", "_is_adler", defArgs s__is_adler, defBody s__is_adler, defScope s__is_adler, [], []⟩, ⟨("_check_three", none), "_check_three", "_check_three", defArgs s__check_three, defBody s__check_three, defScope s__check_three, [], []⟩, ⟨("_product", none), "_product", "_product", defArgs s__product, defBody s__product, defScope s__product, [], []⟩, ⟨("_moved", none), "_moved", "_moved", defArgs s__moved, defBody s__moved, defScope s__moved, [], []⟩, ⟨("adler32_joined", none), "adler32_joined", "adler32_joined", defArgs s_adler32_joined, defBody s_adler32_joined, defScope s_adler32_joined, [], []⟩, ⟨("crc32_joined", none), "crc32_joined", "crc32_joined", defArgs s_crc32_joined, defBody s_crc32_joined, defScope s_crc32_joined, [], []⟩, ⟨("adler32_front", none), "adler32_front", "adler32_front", defArgs s_adler32_front, defBody s_adler32_front, defScope s_adler32_front, [], []⟩, ⟨("crc32_front", none), "crc32_front", "crc32_front", defArgs s_crc32_front, defBody s_crc32_front, defScope s_crc32_front, [], []⟩, ⟨("_law_adler", none), "_law_adler", "_law_adler", defArgs s__law_adler, defBody s__law_adler, defScope s__law_adler, [], []⟩, ⟨("_law_crc", none), "_law_crc", "_law_crc", defArgs s__law_crc, defBody s__law_crc, defScope s__law_crc, [], []⟩, ⟨("_law_place", none), "_law_place", "_law_place", defArgs s__law_place, defBody s__law_place, defScope s__law_place, [], []⟩, ⟨("_law_large", none), "_law_large", "_law_large", defArgs s__law_large, defBody s__law_large, defScope s__law_large, [], []⟩, ⟨("law", none), "law", "law", defArgs s_law, defBody s_law, defScope s_law, [], []⟩, ⟨("BellowsError", some "__init__"), "__init__", "BellowsError.__init__", defArgs s_BellowsError___init__, defBody s_BellowsError___init__, defScope s_BellowsError___init__, [], []⟩]
def ck (K : PySem.W.Frag) : List Bool := [exFB K "OutOfRange", decide (PySem.W.typeIn K (.ref (He.ma K (He.ga K "BellowsError") "__init__")) = some (.type "function")), cvB K "_ALL_BITS" (.int (4294967295)), cvB K "_ADLER_MODULUS" (.int (65521)), cvB K "_CRC_POLYNOMIAL" (.int (3988292384)), cvB K "_POWER_8" (.int (8388608)), cvB K "_POWER_MINUS_8" (.int (1701301141))]
def ex (K : PySem.W.Frag) : Bool := (ck K).all id
abbrev R : PySem.W.OpenRow := PySem.W.OpenLaw.row PySem.Challenge.rw_bellows_k05_joined_sums
abbrev hk : PySem.W.Hook := He.hookX 4 fa fn [] [] ex
def ob (s : PySem.W.SharedT) : He.AlX := He.obsX 4 fa fn [] [] ex (HandSHeadRun.getT s)
theorem ob_eq (s : PySem.W.SharedT) : ob s = hk.obs s.abs := He.obsX_eq (HandSHeadRun.getT_eq s)
def loose : List Str := (["BellowsError", "OutOfRange", "_ADLER_MODULUS", "_ALL_BITS", "_CRC_POLYNOMIAL", "_POWER_8", "_POWER_MINUS_8", "_check_three", "_is_adler", "_is_crc", "_law_adler", "_law_at", "_law_crc", "_law_draws", "_law_is_integer", "_law_is_row", "_law_large", "_law_place", "_moved", "_product", "adler32_front", "adler32_joined", "crc32_front", "crc32_joined"] : List Str)
theorem run (w : World) : HandSHeadRun.RunEq R (PySem.W.view R.prog [27]) hk ob 2000 loose w := by
  intro os
  kernel_rfl
theorem tx_of {w : World} {K : PySem.W.Frag} {h : Heap} {mg : Str → Option Value} (X : K.In h) (G : h.Ns mainGlobals mg) (c : He.SaysX fa fn [] [] ex w h K) : Tx K mg := by
  have hf : ∀ {f : He.Fa}, f ∈ fa → f.ok K = true := fun m => He.SaysD.facts c.t.d m
  have hx : ∀ (i : Nat) {b : Bool}, (ck K)[i]? = some b → b = true := fun i b e => List.all_eq_true.mp c.more b (List.mem_of_getElem? e)
  exact ⟨He.free_ok X G (hf (List.mem_of_getElem? (i := 18) rfl)),
    He.free_ok X G (hf (List.mem_of_getElem? (i := 19) rfl)),
    He.free_ok X G (hf (List.mem_of_getElem? (i := 20) rfl)),
    He.free_ok X G (hf (List.mem_of_getElem? (i := 21) rfl)),
    He.free_ok X G (hf (List.mem_of_getElem? (i := 22) rfl)),
    He.free_ok X G (hf (List.mem_of_getElem? (i := 23) rfl)),
    He.free_ok X G (hf (List.mem_of_getElem? (i := 24) rfl)),
    He.free_ok X G (hf (List.mem_of_getElem? (i := 25) rfl)),
    cvB_ok X G (hx 2 rfl),
    cvB_ok X G (hx 3 rfl),
    cvB_ok X G (hx 4 rfl),
    cvB_ok X G (hx 5 rfl),
    cvB_ok X G (hx 6 rfl),
    exFB_ok X G (hx 0 rfl),
    ⟨He.glo_ok X G (hf (List.mem_of_getElem? (i := 0) rfl)), He.SaysD.defs c.t.d (d := fn[0]) (List.mem_of_getElem? (i := 0) rfl)⟩,
    ⟨He.glo_ok X G (hf (List.mem_of_getElem? (i := 1) rfl)), He.SaysD.defs c.t.d (d := fn[1]) (List.mem_of_getElem? (i := 1) rfl)⟩,
    ⟨He.glo_ok X G (hf (List.mem_of_getElem? (i := 2) rfl)), He.SaysD.defs c.t.d (d := fn[2]) (List.mem_of_getElem? (i := 2) rfl)⟩,
    ⟨He.glo_ok X G (hf (List.mem_of_getElem? (i := 3) rfl)), He.SaysD.defs c.t.d (d := fn[3]) (List.mem_of_getElem? (i := 3) rfl)⟩,
    ⟨He.glo_ok X G (hf (List.mem_of_getElem? (i := 4) rfl)), He.SaysD.defs c.t.d (d := fn[4]) (List.mem_of_getElem? (i := 4) rfl)⟩,
    ⟨He.glo_ok X G (hf (List.mem_of_getElem? (i := 5) rfl)), He.SaysD.defs c.t.d (d := fn[5]) (List.mem_of_getElem? (i := 5) rfl)⟩,
    ⟨He.glo_ok X G (hf (List.mem_of_getElem? (i := 6) rfl)), He.SaysD.defs c.t.d (d := fn[6]) (List.mem_of_getElem? (i := 6) rfl)⟩,
    ⟨He.glo_ok X G (hf (List.mem_of_getElem? (i := 7) rfl)), He.SaysD.defs c.t.d (d := fn[7]) (List.mem_of_getElem? (i := 7) rfl)⟩,
    ⟨He.glo_ok X G (hf (List.mem_of_getElem? (i := 8) rfl)), He.SaysD.defs c.t.d (d := fn[8]) (List.mem_of_getElem? (i := 8) rfl)⟩,
    ⟨He.glo_ok X G (hf (List.mem_of_getElem? (i := 9) rfl)), He.SaysD.defs c.t.d (d := fn[9]) (List.mem_of_getElem? (i := 9) rfl)⟩,
    ⟨He.glo_ok X G (hf (List.mem_of_getElem? (i := 10) rfl)), He.SaysD.defs c.t.d (d := fn[10]) (List.mem_of_getElem? (i := 10) rfl)⟩,
    ⟨He.glo_ok X G (hf (List.mem_of_getElem? (i := 11) rfl)), He.SaysD.defs c.t.d (d := fn[11]) (List.mem_of_getElem? (i := 11) rfl)⟩,
    ⟨He.glo_ok X G (hf (List.mem_of_getElem? (i := 12) rfl)), He.SaysD.defs c.t.d (d := fn[12]) (List.mem_of_getElem? (i := 12) rfl)⟩,
    ⟨He.glo_ok X G (hf (List.mem_of_getElem? (i := 13) rfl)), He.SaysD.defs c.t.d (d := fn[13]) (List.mem_of_getElem? (i := 13) rfl)⟩,
    ⟨He.glo_ok X G (hf (List.mem_of_getElem? (i := 14) rfl)), He.SaysD.defs c.t.d (d := fn[14]) (List.mem_of_getElem? (i := 14) rfl)⟩,
    ⟨He.glo_ok X G (hf (List.mem_of_getElem? (i := 15) rfl)), He.SaysD.defs c.t.d (d := fn[15]) (List.mem_of_getElem? (i := 15) rfl)⟩,
    ⟨He.glo_ok X G (hf (List.mem_of_getElem? (i := 16) rfl)), He.SaysD.defs c.t.d (d := fn[16]) (List.mem_of_getElem? (i := 16) rfl)⟩,
    ⟨He.glo_ok X G (hf (List.mem_of_getElem? (i := 17) rfl)), He.SaysD.defs c.t.d (d := fn[17]) (List.mem_of_getElem? (i := 17) rfl)⟩,
    ⟨of_decide_eq_true (hx 1 rfl), He.SaysD.defs c.t.d (d := fn[18]) (List.mem_of_getElem? (i := 18) rfl)⟩⟩
theorem last {l : PySem.W.OpenLaw} {w : World} {K : PySem.W.Frag} {h : Heap} {mg : Str → Option Value} {fa : Addr} (T : Tx K mg) (KX : K.In h) (hmg : mg "law" = some (.ref fa)) :
    ∃ (K : PySem.W.Frag) (fd : FuncData) (sp : Sp), K.In h ∧ (∀ (s : Shared) (u : Value), BindsTo s fd ⟨[u], []⟩ [("_law_script", u)]) ∧
        (∀ (H : Hp) (a : Addr) (ns : List Int), ns.length ≤ 63 → Only H → SqL K H a (ns.map V.int) → sp [.ref a] H (fun v _ => v = .bl true) fun _ _ _ => False) ∧
        ∀ base : Heap, K.In base → base.Ns mainGlobals mg → FnOk l.prog w K mg base CX0 6 fa fd ["_law_script"] sp := by
  obtain ⟨gm, fd, F⟩ := T.d_law
  have e := hmg.symm.trans gm
  cases e
  have b := FunD.bindsA (ps := ["_law_script"]) F fun _ _ _ _ _ _ us hl => match us, hl with | [_], _ => rfl
  exact ⟨K, fd, sp_law K, KX, fun s u => b s [u] rfl, fun H a ns hl _ hS => ⟨a, ns, rfl, hS, hl, fun _ => rfl⟩, fun base _ _ => toCX0 (okf_law T F) fun _ _ _ _ z => z⟩
end K05

open PySem PySem.W PySem.Calls PyProof.Rows
set_option maxHeartbeats 0 in
theorem PySem.Challenge.cw_bellows_k05_joined_sums_holds : PySem.Challenge.rw_bellows_k05_joined_sums.Holds := by
  w_on; o_law
  refine HandSHeadRun.head_any (r := OpenLaw.row PySem.Challenge.rw_bellows_k05_joined_sums) (q := view (OpenLaw.row PySem.Challenge.rw_bellows_k05_joined_sums).prog [27]) (H := K05.hk) (ob := K05.ob) (M := 2000) (loose := K05.loose) (d := HandSHeadRun.topDef (OpenLaw.row PySem.Challenge.rw_bellows_k05_joined_sums).prog 27) (kwd := []) K05.ob_eq
    (by kernel_rfl) (fun s => by kernel_rfl) K05.run (by kernel_rfl) (by kernel_rfl) (by kernel_rfl) (by rfl) (by first | assumption | decide +kernel) (by decide +kernel) ⟨rfl, rfl, rfl, rfl, rfl, by decide +kernel⟩ ?hw ?hc
  case hw => w_witness2
  case hc =>
    refine L2.walk_ofE (l := PySem.Challenge.rw_bellows_k05_joined_sums) (n := 63) (k := 6) (x := "_law_script") (CX := L2.CX0) rfl (by decide) (by kernel_rfl) ⟨rfl, by decide, by decide⟩ ?F (fun _ _ _ _ z => z)
    intro w mg fa h Y G hmg0
    obtain ⟨K, KX, c⟩ := Y
    have hmg : mg ("law" : PySem.Str) = some (.ref fa) := by
      have e : (HandSHeadRun.topDef (OpenLaw.row PySem.Challenge.rw_bellows_k05_joined_sums).prog 27).name = ("law" : PySem.Str) := by kernel_rfl
      rw [← e]
      exact hmg0
    have T := K05.tx_of KX G c
    exact K05.last T KX hmg
