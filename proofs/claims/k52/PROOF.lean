import PyProof.Rows.All
import Wide.All
import OpenK.AllK
import Wide.FinOn
import HandS.ForMost
import HandS.ForExc
import HandS.ExcInit
import HandS.ExcField
import HandS.IsInst
import HandS.Defaults
import HandS.Head0
import HandS.Head1
import HandS.Head2
import HandS.HeadEnd
import HandS.HeadHook4
import HandS.WideBits
import HandS.SetFor
import HandS.ExcCtx
import HandS.HotCalls
import HandS.ExcInitHot
import HandS.RevRange
import HandS.TryOnly
import HandS.ExcIs
import HandS.Style
import HandS.More
import PySem.Challenge.RW_bellows_k52_parser_covers_the_history
set_option Elab.async false
set_option linter.all false
set_option maxRecDepth 100000
set_option maxHeartbeats 4000000
namespace Bel
open PySem PySem.Spec PyProof.Rows L2
theorem passN {X : Cx} : Passes (L2N.CX X.prog X.w) X E0 := fun _ _ _ _ _ _ _ z => by
  obtain ⟨_, _, _, _, _, _, _, _, _, _, _, _, no⟩ := z
  cases no
theorem takes0N {X : Cx} : L2N.Takes X (fun _ _ _ _ => False) := fun _ _ z => by
  obtain ⟨_, _, _, _, _, _, _, _, _, _, _, _, _, _, _, _, no⟩ := z
  cases no
section
variable {X : Cx} {es : List Expr} {e : Expr} {ta : TA} {p pos : Pos}
/-- an own exception made by its __init__: its context is None -/
theorem made_n {CX : CXT} {x : Str} {C fI : Addr} {k : Nat} {fd : FuncData} {ps : List Str} {sp : Sp} {ds : List Value} {dvs : List V}
    (T : OexC X.K C)
    (ini : PySem.W.findIn X.K (.ref C) "__init__" = some (some (.ref fI)))
    (isf : PySem.W.typeIn X.K (.ref fI) = some (.type "function"))
    (pr : FnOk X.prog X.w X.K X.mg X.base CX k fI fd ps sp)
    (room : Room (k + 1) X.A) (bnd : Binds X.K fd ps ds) (dv : Vals dvs ds)
    (out : Passes CX X (fun _ _ _ => False)) (hg : Gl X x) (hm : X.mg x = some (.ref C)) (ha : PA X (e :: es) ta)
    (hdb : (x == ("__debug__" : Str)) = false)
    (h1 : starEach (e :: es) X.env = (false, eval e X.env) :: starEach es X.env)
    (h2 : (backTo pos (starEach es X.env)).any (·.1) = false) :
    L2N.PMk X (.Call (.Name x p) (e :: es) [] pos) (tMkO C sp dvs ta) := by
  intro pn st σ H Q hin want
  obtain ⟨_, _, _, _, m, _, _, _, _, _, _, _, _, _, _, cl, mref⟩ := T.cls
  refine wpAny_Call_Name_kw (ld_glob hin hg hm ?_ hdb)
  refine PySem.W.callWith_K (h₀ := X.base)
    hin.ok.mod.kin T.kC (thn (ha.run pos pn st σ H _ hin want) fun us s1 got => ?_) h1 h2
  obtain ⟨vs, G, in1, rel, small, start⟩ := got
  refine ⟨in1.kIn, ?_⟩
  show wpAny _ _ (call (.ref C) us) _ _ _
  obtain ⟨hp, g, dr, tk, os⟩ := s1
  let N := hp.objs.size
  have up : N ≤ N + 1 := Nat.le_succ _
  have go := start (N + 1) (in1.hok.fresh up)
  let h' := (hp.push (PySem.W.kdv_tup us)).push (PySem.HandSPX.excO C N)
  have keep : ∀ b o, hp.get? b = some o → h'.get? b = some o := fun b o z =>
    Heap.get?_push_of_some _ (Heap.get?_push_of_some _ z)
  have there : h'.get? (N + 1) = some (PySem.HandSPX.excO C N) := by
    show ((hp.push (PySem.W.kdv_tup us)).push (PySem.HandSPX.excO C hp.objs.size)).get? (hp.objs.size + 1) = _
    heap_get
  have in2 : Inv X pn σ (upd G (N + 1) (exo (N + 1) C none)) ⟨h', g, dr, tk, os⟩ :=
    in1.laid (t' := tk) (a := N + 1) (o := exo (N + 1) C none) (h' := h') keep up (exo_ok there)
  have all : Vals (V.ref (N + 1) :: (vs ++ dvs)) (Value.ref (N + 1) :: (us ++ ds)) :=
    .cons rfl (rel.append dv)
  have size : (Value.ref (N + 1) :: us ++ ds).length = ps.length :=
    all.length.symm.trans (pr.len _ _ _ _ go)
  have few : us.length ≤ sizeLine := by
    rw [← Paired.length rel, sizeLine_eq]
    omega
  have body := pr.run _ X.stack _ _ ⟨Value.ref (N + 1) :: us, []⟩
    (Value.ref (N + 1) :: (us ++ ds)) _ _ (fun _ _ _ => False)
    (room.make C us []) (in2.env0.make C us [])
    (bnd _ (Value.ref (N + 1) :: us) in2.kIn size) all go
  refine wpAny_call (PySem.HandSPX.call_own PySem.F.excBase_ValueError
    (fun Y => PySem.HandSPX.refsVE_contains Y m mref) (in1.kIn _ _ cl)
    (PySem.W.looks_findIn in1.kIn ini) (fun self => PySem.W.bind_fn in1.kIn self isf) few
    (codeAny_mono body fun r s' fin => ?_))
  rcases r with er | fl
  · exact out pn σ _ _ er s' in2 fin
  · cases fl with
    | ret u =>
      obtain ⟨v, H2, os2, bare2, un2, hok2, rv, ev, d, fs, ea, ed, fresh, q2⟩ := fin
      subst ev
      obtain ⟨w2, g2, d2, t2, os'⟩ := s'
      obtain ⟨t0, B, J, kB, gone, obj, na⟩ :=
        mk_end0 (d2 := d2) (t2 := t2) in1 up keep un2 hok2 os2 bare2 ea ed fresh
      have ctx : PySem.PXN.CtxN ({ cls := .ref C, dict := some d, data := .fields #[.ref t0, .none, .none, .none, .bool false, .none] } : Obj) := fun vs z => by
        cases z
        rfl
      exact ⟨rv, N + 1, _, _, ⟨B, g2, d2, t2, os'⟩, _, .ref C, some d, rfl, J, kB, gone, obj,
        ⟨rfl, rfl, ctx⟩, rfl, rfl, na, rfl, bare2, raises_own T.exC T.tyC, q2⟩
    | next => exact fin.elim
    | brk => exact fin.elim
    | cont => exact fin.elim
end
/-! ### defs by name -/
structure Cl (P : Program) (w : World) (K : PySem.W.Frag) (mg : Str → Option Value) (base : Heap) (k : Nat) (x : Str) (ps : List Str) (sp : Sp) (dvs : List V) : Prop where
  ex : ∃ (f : Addr) (fd : FuncData) (ds : List Value), FnOk P w K mg base (L2N.CX P w) k f fd ps sp ∧ mg x = some (.ref f) ∧ PySem.W.keepIn K (.ref f) = true ∧ Binds K fd ps ds ∧ Vals dvs ds
section
variable {X : Cx} {k : Nat} {x : Str} {ps : List Str} {sp : Sp} {dvs : List V} {p pos : Pos} {e : Expr} {es : List Expr} {t : TA} {W : WX}
theorem pe_cl (c : Cl X.prog X.w X.K X.mg X.base k x ps sp dvs) (hr : Room k X.A) (hg : Gl X x) (ha : PA X (e :: es) t)
    (hdb : (x == ("__debug__" : Str)) = false := by decide) (he : starEach (e :: es) X.env = (false, eval e X.env) :: starEach es X.env := by rfl) (hpl : (backTo pos (starEach es X.env)).any (·.1) = false := by rfl) :
    PE X (.Call (.Name x p) (e :: es) [] pos) (tCall sp dvs E0 t) := by
  obtain ⟨f, fd, ds, F, hm, hk, hb, hd⟩ := c.ex
  exact pe_call F hr hg hm hk hb hd passN ha hdb he hpl
theorem pe_cl0 (c : Cl X.prog X.w X.K X.mg X.base k x ps sp dvs) (hr : Room k X.A) (hg : Gl X x)
    (hdb : (x == ("__debug__" : Str)) = false := by decide) :
    PE X (.Call (.Name x p) [] [] pos) (tCall sp dvs E0 tNil) := by
  obtain ⟨f, fd, ds, F, hm, hk, hb, hd⟩ := c.ex
  exact pe_call0 F hr hg hm hk hb hd passN hdb
theorem run_fnD {f : Addr} {fd : FuncData} {dl : List Value} {Ex : XK} {pn : List (Addr × Obj)} {st : L2.St} {Hs : Hp} {sh : Shared} {Qv : VK} {args : List Value} {av : List V} (hr : Room k X.A) (hin : Inv X pn st Hs sh) (rel : Vals av args) (hd : Vals dvs dl)
    (ok : FnOk X.prog X.w X.K X.mg X.base (L2N.CX X.prog X.w) k f fd ps sp) (bnd : Binds X.K fd ps dl) (out : PassesAt (L2N.CX X.prog X.w) X st Ex)
    (pr : sp (av ++ dvs) Hs Qv Ex) : wpAny (model X.prog X.w) X.A (call (.ref f) args) (EP X pn st Qv) X.xe sh := by
  have all := rel.append hd
  have size : (args ++ dl).length = ps.length := by
    rw [← all.length]
    exact ok.len _ _ _ _ pr
  refine wpAny_call (codeAny_mono (ok.run X.A X.stack sh Hs ⟨args, []⟩ (args ++ dl) (av ++ dvs) Qv Ex hr hin.env0 (bnd sh args hin.kIn size) all pr) fun res sh2 fin => ?_)
  rcases res with er | fl
  · exact out pn Hs sh er sh2 hin fin
  · cases fl with
    | ret u => exact hin.after fin
    | next => exact fin.elim
    | brk => exact fin.elim
    | cont => exact fin.elim
/-- a call whose exceptions the body takes by W -/
def tClS (sp : Sp) (dvs : List V) (W : WX) (t : TA) : TE := fun σ H Q => t σ H fun vs H1 => sp (vs ++ dvs) H1 Q (WE W σ)
theorem pe_clS
    (c : Cl X.prog X.w X.K X.mg X.base k x ps sp dvs) (hr : Room k X.A) (hg : Gl X x) (tk : L2N.Takes X W) (ha : PA X (e :: es) t)
    (hdb : (x == ("__debug__" : Str)) = false := by decide) (he : starEach (e :: es) X.env = (false, eval e X.env) :: starEach es X.env := by rfl) (hpl : (backTo pos (starEach es X.env)).any (·.1) = false := by rfl) :
    PE X (.Call (.Name x p) (e :: es) [] pos) (tClS sp dvs W t) := by
  obtain ⟨f, fd, dl, ok, gm, kept, bnd, hd⟩ := c.ex
  refine ⟨fun pn sh st Hs Qv hin hq => wpAny_Call_Name_kw (ld_glob hin hg gm ?_ hdb)⟩
  refine PySem.W.callWith_K (h₀ := X.base) hin.ok.mod.kin kept (thn (ha.run pos pn sh st Hs _ hin hq) fun args sh1 ⟨av, H1, in1, rel, pr⟩ => ⟨in1.kIn, ?_⟩) he hpl
  exact run_fnD hr in1 rel hd ok bnd (L2N.passAt tk st) pr
end
theorem pe_gc {X : Cx} {x : Str} {pos : Pos} {v : V} (hg : Gl X x) (h : ∃ u, X.mg x = some u ∧ RelV v u) (hd : (x == ("__debug__" : Str)) = false := by decide) : PE X (.Name x pos) (tC v) := by
  obtain ⟨u, hm, r⟩ := h
  exact pe_glob hg hm r hd
theorem toCX0 {P : Program} {w : World} {K : PySem.W.Frag} {mg : Str → Option Value} {base : Heap} {k : Nat} {f : Addr} {fd : FuncData} {ps : List Str} {sp : Sp} (F : FnOk P w K mg base (L2N.CX P w) k f fd ps sp) (h : ∀ vs H Q E, sp vs H Q E → sp vs H Q E0) : FnOk P w K mg base CX0 k f fd ps sp := by
  refine ⟨F.len, fun A outer s H args us vs Q E hr e0 hb r hs => codeAny_mono (F.run A outer s H args us vs Q E0 hr e0 hb r (h _ _ _ _ hs)) fun r s' hq => ?_⟩
  cases r with
  | error e =>
    obtain ⟨_, _, _, _, _, _, _, _, _, _, _, _, z⟩ := hq
    exact z
  | ok fl => cases fl <;> exact hq
/-! ### own exceptions with the one attribute at -/
open He in
structure ExF (K : PySem.W.Frag) (mg : Str → Option Value) (x : Str) : Prop where
  g : mg x = some (.ref (ga K x))
  oex : OexC K (ga K x)
  iC : PySem.W.findIn K (.ref (ga K x)) "__init__" = some (some (.ref (ma K (ga K "BellowsError") "__init__")))
  noat : PySem.W.findIn K (.ref (ga K x)) "at" = some none
  xf : XfC K (ga K x)
  te : PySem.W.exmOne K (.ref (ga K x)) (.ref (ga K x)) = some true
open He in
def oexB (K : PySem.W.Frag) (C : Addr) : Bool := (match K.lookup C with
  | some ⟨.type "type", _, .cls data, slots⟩ => (match data.mro, slots.toList with
    | .ref C' :: line, [_, _, _, _, some (.builtin n), _] => decide (C' = C) && (decide (n = "ValueError.__new__") && (!data.hasDel && (data.hasDict && PySem.HandSPX.refsVE line)))
    | _, _ => false)
  | _ => false) && (decide (PySem.W.findIn K (.ref C) "__setattr__" = some (some (.builtin "object.__setattr__"))) && (decide (PySem.W.subIn K (.ref C) (.type "BaseException") = some true) && (decide (PySem.W.typeIn K (.ref C) = some (.type "type")) && PySem.W.keepIn K (.ref C))))
theorem ba {x y : Bool} (e : (x && y) = true) : x = true ∧ y = true := by
  cases x <;> cases y <;> first | exact ⟨rfl, rfl⟩ | cases e
theorem oexB_ok {K : PySem.W.Frag} {C : Addr} (h : oexB K C = true) : OexC K C := by
  obtain ⟨q, h⟩ := ba h
  obtain ⟨h2, h⟩ := ba h
  obtain ⟨h3, h⟩ := ba h
  obtain ⟨h4, h5⟩ := ba h
  refine ⟨?_, of_decide_eq_true h2, of_decide_eq_true h3, of_decide_eq_true h4, h5⟩
  split at q
  · rename_i own data slots there
    split at q
    · rename_i C2 line z0 z1 z2 z3 n z5 em es
      simp only [Bool.and_eq_true, decide_eq_true_eq, Bool.not_eq_true'] at q
      obtain ⟨rfl, rfl, nodel, dict, tail⟩ := q
      obtain ⟨nm, bases, mro, ns, qn, hdict, sn, subs, abs, coll, del⟩ := data
      dsimp only at em nodel dict
      subst em nodel dict
      have e6 : slots = #[z0, z1, z2, z3, some (.builtin "ValueError.__new__"), z5] := by
        cases slots with
        | mk l =>
          simp only at es
          rw [es]
      subst e6
      exact ⟨_, _, _, _, _, _, _, _, _, _, _, _, _, _, _, there, tail⟩
    · cases q
  · cases q
open He in
def exFB (K : PySem.W.Frag) (x : Str) : Bool := decide (PySem.W.nsIn K mainGlobals x = some (some (.ref (ga K x)))) && (oexB K (ga K x) && (decide (PySem.W.findIn K (.ref (ga K x)) "__init__" = some (some (.ref (ma K (ga K "BellowsError") "__init__")))) && (decide (PySem.W.findIn K (.ref (ga K x)) "at" = some none) && (xfB K (ga K x) && decide (PySem.W.exmOne K (.ref (ga K x)) (.ref (ga K x)) = some true)))))
theorem exFB_ok {K : PySem.W.Frag} {h : Heap} {mg : Str → Option Value} {x : Str} (X : K.In h) (G : h.Ns mainGlobals mg) (c : exFB K x = true) : ExF K mg x := by
  obtain ⟨h1, c⟩ := ba c
  obtain ⟨h2, c⟩ := ba c
  obtain ⟨h3, c⟩ := ba c
  obtain ⟨h4, c⟩ := ba c
  obtain ⟨h5, h6⟩ := ba c
  exact ⟨PySem.W.mg_of X G (of_decide_eq_true h1), oexB_ok h2, of_decide_eq_true h3, of_decide_eq_true h4, xfB_ok h5, of_decide_eq_true h6⟩
def cvB (K : PySem.W.Frag) (x : Str) (v : V) : Bool := match PySem.W.nsIn K mainGlobals x with
  | some (some u) => He.relB v u
  | _ => false
theorem cvB_ok {K : PySem.W.Frag} {h : Heap} {mg : Str → Option Value} {x : Str} {v : V} (X : K.In h) (G : h.Ns mainGlobals mg) (c : cvB K x v = true) : ∃ u, mg x = some u ∧ RelV v u := by
  unfold cvB at c
  split at c
  · rename_i u e
    exact ⟨u, PySem.W.mg_of X G e, He.relB_ok c⟩
  · cases c
/-- BellowsError.__init__ -/
def spInit (K : PySem.W.Frag) : Sp := fun vs H Q _ => ∃ (a C : Addr) (v : V), vs = [.ref a, v] ∧ OexC K C ∧ PySem.W.findIn K (.ref C) "at" = some none ∧ H a = some (exo a C none) ∧
  ∀ dx, H dx = none → dx ≠ a → Q .non (upd (upd H dx (exd dx [("at", v)])) a (exo a C (some dx)))
structure InitOk (P : Program) (w : World) (K : PySem.W.Frag) (mg : Str → Option Value) (base : Heap) : Prop where
  ex : ∃ fd, FnOk P w K mg base (L2N.CX P w) 1 (He.ma K (He.ga K "BellowsError") "__init__") fd ["self", "at"] (spInit K) ∧ Binds K fd ["self", "at"] [] ∧ PySem.W.typeIn K (.ref (He.ma K (He.ga K "BellowsError") "__init__")) = some (.type "function")
/-- raise X(e) -/
def Bz (K : PySem.W.Frag) (C : Addr) (W : WX) (σ : L2.St) (vs : List V) (H1 : Hp) : Prop := vs.length ≤ 1000 ∧ ∀ a, H1 a = none → spInit K (.ref a :: (vs ++ [])) (upd H1 a (exo a C none))
  (fun v H2 => v = .non ∧ ∃ (d : Addr) (fs : List (Str × V)), H2 a = some (exo a C (some d)) ∧ H2 d = some (exd d fs) ∧ H1 d = none ∧ W (.ref C) (some d) σ (upd (del H2 a) d (.xd fs))) (fun _ _ _ => False)
def tRz (K : PySem.W.Frag) (C : Addr) (W : WX) (ta : TA) : TS := fun _ σ H => ta σ H fun vs H1 => Bz K C W σ vs H1
theorem bz {K : PySem.W.Frag} {mg : Str → Option Value} {x : Str} {W : WX} {σ : L2.St} {v : V} {H : Hp} (T : ExF K mg x) (h : ∀ d, H d = none → W (.ref (He.ga K x)) (some d) σ (upd H d (.xd [("at", v)]))) : Bz K (He.ga K x) W σ [v] H := by
  refine ⟨(by show 1 ≤ 1000; decide), fun a ha => ⟨a, He.ga K x, v, rfl, T.oex, T.noat, upd_same, fun dx hdx hne => ⟨rfl, dx, [("at", v)], upd_same, ?_, ?_, ?_⟩⟩⟩
  · rw [upd_ne hne, upd_same]
  · rw [upd_ne hne] at hdx
    exact hdx
  · rw [upd_ne hne] at hdx
    have e : upd (del (upd (upd (upd H a (exo a (He.ga K x) none)) dx (exd dx [("at", v)])) a (exo a (He.ga K x) (some dx))) a) dx (.xd [("at", v)]) = upd H dx (.xd [("at", v)]) := by
      funext b
      by_cases hb : b = dx
      · rw [hb, upd_same, upd_same]
      · rw [upd_ne hb, upd_ne hb]
        by_cases hc : b = a
        · rw [hc, del_same, ha]
        · rw [del_ne hc, upd_ne hc, upd_ne hb, upd_ne hc]
    rw [e]
    exact h dx hdx
theorem ps_raiseB {X : Cx} {x : Str} {p pos pos2 : Pos} {e : Expr} {te : TA} {W : WX} (T : ExF X.K X.mg x) (I : InitOk X.prog X.w X.K X.mg X.base) (hr : Room 2 X.A) (tk : L2N.Takes X W) (he : PA X [e] te) (hc : X.calm = true := by rfl) (hg : Gl X x := by rfl)
    (hdb : (x == ("__debug__" : Str)) = false := by decide) (hst : starEach (e :: []) X.env = (false, eval e X.env) :: starEach [] X.env := by rfl) (hpl : (backTo pos (starEach [] X.env)).any (·.1) = false := by rfl) :
    PS X (.Raise (some (.Call (.Name x p) [e] [] pos)) none pos2) (tRz X.K (He.ga X.K x) W te) := by
  obtain ⟨fd, F, b, ti⟩ := I.ex
  exact L2N.ps_raise hc tk (made_n (dvs := []) (ds := []) (CX := L2N.CX X.prog X.w) T.oex T.iC ti F hr b .nil passN hg T.g he hdb hst hpl)
/-- e.at in a suite -/
theorem pe_xfB {X : Cx} {a : Addr} {oe : Obj} {cls : Value} {d : Option Addr} {pn : List (Addr × Obj)} {e : Expr} {te : TE} {pos : Pos} {x : Str} (T : ExF X.K X.mg x)
    (hz : L2N.Zn cls d oe) (hf : ∃ vs, oe.data = .fields vs) (he : PE (X.suite a ((a, oe) :: pn)) e te) (hb : attributeBase e "at" X.env (eval e X.env) = eval e X.env := by rfl) :
    PE (X.suite a ((a, oe) :: pn)) (.Attribute e "at" pos) (tXf a cls d (He.ga X.K x) "at" te) := pe_xf T.xf T.noat hz.zc hf he hb
/-! ### try with several clauses, each with a name -/
abbrev Cls3 := Value × Nat × (Addr → Value → Option Addr → TS)
abbrev freed (D : Ends) (i : Nat) : Ends := ⟨fun s h => D.nx (s.set i none) h, D.rt, fun s h => D.bk (s.set i none) h, fun s h => D.ct (s.set i none) h⟩
def wManyB (K : PySem.W.Frag) (Wout : WX) (D : Ends) : List Cls3 → WX
  | [] => Wout
  | (c, i, ts) :: more => fun cls d st Hs => ∃ yes, PySem.W.exmOne K cls c = some yes ∧
      (yes = true → ∀ a, Hs a = none → ts a cls d (freed D i) (st.set i (some (.ref a))) Hs) ∧ (yes = false → wManyB K Wout D more cls d st Hs)
inductive HdsB (X : Cx) : List ExceptHandler → List Cls3 → Prop
  | nil : HdsB X [] []
  | cons {x n : Str} {c : Value} {i : Nat} {ts : Addr → Value → Option Addr → TS} {s0 : Stmt} {suite : List Stmt} {p1 p2 : Pos} {hds : List ExceptHandler} {l : List Cls3}
      (at_ : X.N[i]? = some n) (own : X.env.kindOf n = some .local) (nm : Names X x c)
      (run : ∀ (a : Addr) (oe : Obj) (cls : Value) (d : Option Addr) (pn : List (Addr × Obj)), L2N.Zn cls d oe → (∃ vs, oe.data = .fields vs) → PSs (X.suite a ((a, oe) :: pn)) (s0 :: suite) (ts a cls d))
      (more : HdsB X hds l) : HdsB X (.ExceptHandler (some (.Name x p1)) (some n) (s0 :: suite) p2 :: hds) ((c, i, ts) :: l)
theorem ps_try_manyB {X : Cx} {body : List Stmt} {h0 : ExceptHandler} {hds : List ExceptHandler} {l : List Cls3} {pos : Pos} {tb : WX → TS} {Wout : WX}
    (stk : X.stack = X.env :: X.outer) (frm : X.env.frame = some X.env.locals) (nodup : X.N.Nodup) (tk : L2N.Takes X Wout)
    (hb : ∀ (W : WX) (pn : List (Addr × Obj)) (xe : Value → Shared → Prop), L2N.Takes (X.tr pn xe) W → PassesOwn (model X.prog X.w) X.A X.env xe → PSs (X.tr pn xe) body (tb W))
    (hh : HdsB X (h0 :: hds) l) : PS X (.Try body (h0 :: hds) [] [] pos) (fun D st Hs => tb (wManyB X.K Wout D l) D st Hs) := by
  refine ⟨fun pn sh st Hs D hin hq => ?_⟩
  have good := hin.ok
  have frames : X.A.frames = some (X.env :: X.outer) := by
    rw [good.frames, stk]
  refine wpAny_Try_except (wpAny_mono ((hb (wManyB X.K Wout D l) (X.pn ++ pn) (fun e t1 => wpAny (model X.prog X.w) X.A (noteFrame e X.env) (fun _ t2 => wpAny (model X.prog X.w) X.A (setFlight e none) (fun _ t3 =>
    wpAny (model X.prog X.w) X.A (handleBy e X.env (h0 :: hds)) (SP X pn D) X.xe t3) X.xe t2) X.xe t1) (fun u t xx => ?_) PassesOwn.looking).run [] sh st Hs D (hin.toTry _) hq) (fun fl t1 fin => ?_) (fun e t1 z => z))
  · obtain ⟨a, ground, sI, pn2, st2, H2, cls, d, rfl, inT, nb, up, sky, free, os, bare, wish⟩ := xx
    have in2 : Inv X pn st2 H2 sI := inT.ofTry good
    rw [show (X.tr (X.pn ++ pn) _).stack = X.env :: X.outer from stk] at sky
    show wpAny (model X.prog X.w) X.A (noteFrame (.ref a) X.env) _ _ _
    refine L2N.Sky.land L2N.Zn.steady frames frm sky fun g3 fly3 up3 => ?_
    have in3 : Inv X pn st2 H2 { t with heap := g3 } := in2.landed nb fly3.1 (up.trans up3) os bare
    obtain ⟨ob3, fs3, get3, zc3, dat3⟩ := fly3.there
    have notIn : a ∉ frs (X.env :: X.outer) := fun hm => by
      obtain ⟨_, o2, e2, nf⟩ := fly3.2.2.1.mem hm
      rw [get3] at e2
      cases e2
      exact nf _ dat3
    have nL : a ≠ X.env.locals := fun z => notIn (List.mem_filterMap.mpr ⟨X.env, List.mem_cons_self, by rw [frm, z]⟩)
    have nF : a ∉ X.fs := fun hm => by
      obtain ⟨en, men, q⟩ := List.mem_filterMap.mp hm
      exact notIn (List.mem_filterMap.mpr ⟨en, List.mem_cons_of_mem _ men, q⟩)
    have su3 := in3.suite get3 dat3 free nL nF
    have go : ∀ {hs' : List ExceptHandler} {l' : List Cls3}, HdsB X hs' l' → wManyB X.K Wout D l' cls d st2 H2 → wpAny (model X.prog X.w) X.A (handleBy (.ref a) X.env hs') (SP X pn D) X.xe { t with heap := g3 } := by
      intro hs' l' hk
      induction hk with
      | nil =>
        intro wish
        refine wpAny_handleBy_nil ?_
        obtain ⟨_, _, _, ob, fs, T, oT, _, get, _, dat, f1, _⟩ := id fly3
        unfold PySem.passOn
        refine wpAny_bind (wpAny_field get dat f1 ?_)
        rw [if_neg (show ¬ ((Value.ref T == Value.none) = true) by simp)]
        have last : wpAny (model X.prog X.w) X.A (setFlight (.ref a) X.env.frame) (fun _ t4 => wpAny (model X.prog X.w) X.A (throw (.ref a) : Sem Flow) (SP X pn D) X.xe t4) X.xe { t with heap := g3 } := by
          rw [frm]
          refine HandSPX.setFlight_upZ fly3 fun g4 held up4 => wpAny_throw (tk _ _ ⟨a, ground, sI, pn, st2, H2, cls, d, rfl, in2, nb, (up.trans up3).trans up4, .inr (.inr ?_), free, os, bare, wish⟩)
          rw [stk]
          exact held
        first | exact wpAny_bind last | exact wpAny_bind (wpAny_pure (wpAny_bind last))
      | @cons x n c i ts s0 suite p1 p2 hds2 l2 at_ own nm run more ih =>
        rintro ⟨yes, he, hy, hn⟩
        refine wpAny_handleBy_cons (codeAny_handlers_test ?_) (by intro q; cases q)
        have isCls : PySem.W.Looks (model X.prog X.w) g3 (typeOf (.ref a)) cls := fun _ _ _ _ kp q => wpAny_typeOf_ref (kp _ _ get3) (by rw [zc3.1]; exact q)
        have named : ∀ {Qv : Value → Shared → Prop} {Ev : Value → Shared → Prop}, Qv c { t with heap := g3 } → wpAny (model X.prog X.w) (X.A.mark (some (.ref a))) (eval (.Name x p1) X.env) Qv Ev { t with heap := g3 } := fun q => by
          obtain ⟨hg, hdb, hm | ⟨hm, hv, hne⟩⟩ := nm
          · exact ld_glob (X := X.suite a ((a, ob3) :: (X.pn ++ pn))) su3 hg hm q hdb
          · exact ld_blt (X := X.suite a ((a, ob3) :: (X.pn ++ pn))) su3 hg hm hv q hne hdb
        refine named ((PySem.W.exm_one (M := model X.prog X.w) in3.kIn isCls he).here ?_)
        cases yes with
        | false => exact ih (hn rfl)
        | true =>
          refine codeAny_handlers_suite_as (HandSPX.lands_againZ fly3 fun g4 fly4 up4 => ?_)
          have in4 : Inv X pn st2 H2 { t with heap := g4 } := in2.landed nb fly4.1 ((up.trans up3).trans up4) os bare
          obtain ⟨ob4, fs4, get4, zc4, dat4⟩ := fly4.there
          refine store_ok (X := X.suite a ((a, ob4) :: (X.pn ++ pn))) (v := .ref a) (in4.suite get4 dat4 free nL nF) nodup at_ (.inl own) rfl (fun t5 in5 => ?_) (.inr own)
          refine wpAny_mono ((run a ob4 cls d (X.pn ++ pn) zc4 ⟨_, dat4⟩).run [] t5 _ H2 _ in5 (hy rfl a free)) (fun fl t6 fin => ?_) (fun _ _ z => z.elim)
          cases fl with
          | next =>
            obtain ⟨_, _, in6, q⟩ := fin
            exact gone_ok (in6.unsuite good) nodup at_ own fun _ in7 => ⟨_, _, in7, q⟩
          | brk =>
            obtain ⟨_, _, in6, q⟩ := fin
            exact gone_ok (in6.unsuite good) nodup at_ own fun _ in7 => ⟨_, _, in7, q⟩
          | cont =>
            obtain ⟨_, _, in6, q⟩ := fin
            exact gone_ok (in6.unsuite good) nodup at_ own fun _ in7 => ⟨_, _, in7, q⟩
          | ret u =>
            obtain ⟨_, _, _, in6, r6, q⟩ := fin
            exact gone_ok (in6.unsuite good) nodup at_ own fun _ in7 => ⟨_, _, _, in7, r6, q⟩
    exact go hh wish
  · cases fl with
    | next =>
      obtain ⟨_, _, inE, q⟩ := fin
      exact wpAny_execs_nil ⟨_, _, inE.ofTry good, q⟩
    | brk =>
      obtain ⟨_, _, inE, q⟩ := fin
      exact ⟨_, _, inE.ofTry good, q⟩
    | cont =>
      obtain ⟨_, _, inE, q⟩ := fin
      exact ⟨_, _, inE.ofTry good, q⟩
    | ret u =>
      obtain ⟨_, _, _, inE, r, q⟩ := fin
      exact ⟨_, _, _, inE.ofTry good, r, q⟩
theorem many_yes {K : PySem.W.Frag} {mg : Str → Option Value} {x : Str} {i : Nat} {ts : Addr → Value → Option Addr → TS} {l : List Cls3} {Wout : WX} {D : Ends} {st : L2.St} {Hs : Hp} {d : Option Addr} (T : ExF K mg x)
    (h : ∀ a, Hs a = none → ts a (.ref (He.ga K x)) d (freed D i) (st.set i (some (.ref a))) Hs) : wManyB K Wout D ((.ref (He.ga K x), i, ts) :: l) (.ref (He.ga K x)) d st Hs := ⟨true, T.te, fun _ => h, fun z => nomatch z⟩
theorem many_no {K : PySem.W.Frag} {c cls : Value} {i : Nat} {ts : Addr → Value → Option Addr → TS} {l : List Cls3} {Wout : WX} {D : Ends} {st : L2.St} {Hs : Hp} {d : Option Addr} (T : PySem.W.exmOne K cls c = some false)
    (h : wManyB K Wout D l cls d st Hs) : wManyB K Wout D ((c, i, ts) :: l) cls d st Hs := ⟨false, T, (fun z => nomatch z), fun _ => h⟩
/-! ### rules whose reading names the written part itself (for comprehensions) -/
section
variable {X : Cx} (K : PySem.W.Frag)
theorem ixl (h : X.K = K := by rfl) : IxR X (rIxL K) := h ▸ ix_list
theorem ixt (h : X.K = K := by rfl) : IxR X (rIxT K) := h ▸ ix_tup
theorem slK (h : X.K = K := by rfl) : SlR X (rSlL K) := h ▸ sl_list
theorem lenK (h : X.K = K := by rfl) : CallR X (.builtin "len") (fun xs H Q => ∃ p ys, xs = [.ref p] ∧ (SqL K H p ys ∨ SqT K H p ys) ∧ Q (.int ys.length) H) := h ▸ call_len_seq
theorem isiK (h : X.K = K := by rfl) : CallR X (.builtin "isinstance") (rIsi K) := h ▸ call_isi
theorem lstK (h : X.K = K := by rfl) : CallR X (.type "list") (fun xs H Q => ∃ p ys, xs = [.ref p] ∧ (SqL K H p ys ∨ SqT K H p ys) ∧ ∀ l, H l = none → Q (.ref l) (upd H l (.lst ys))) := h ▸ call_list_of
theorem eqK (hu : X.A.units + 64 < cLine) (h : X.K = K := by rfl) : OpR X (compareOp .Eq) (rEqD K) := h ▸ op_eqD hu
theorem neK (hu : X.A.units + 64 < cLine) (h : X.K = K := by rfl) : OpR X (compareOp .NotEq) (rNeD K) := h ▸ op_neD hu
theorem sumK (hc : X.calm = true) (h : X.K = K := by rfl) : CallR X (.builtin "sum") (rSum K) := h ▸ cr_sum hc
theorem cntK (h : X.K = K := by rfl) : MtR X "list.count" (rCntI K) := h ▸ mt_lcount
end
end Bel

namespace Bel
open PySem PySem.Spec PyProof.Rows L2
/-! ### readings opened step by step (each an equation) -/
def Sel (b : Bool) (t u : TS) : TS := if b = true then t else u
def SelE (b : Bool) (t u : TE) : TE := if b = true then t else u
def SelT (b : Bool) (t u : TT) : TT := if b = true then t else u
def SelC (b : Bool) (A B : Prop) : Prop := if b = true then A else B
def tK (b : Bool) : TT := fun _ H Q => Q b H
section
variable {t u : TS} {ta tb tc te : TE} {tA tB' : TT} {D : Ends} {σ : L2.St} {H : Hp} {Q : VK} {QT : Bool → Hp → Prop} {QA : List V → Hp → Prop} {K : PySem.W.Frag} {r : R2} {l : TA} {v : V} {i : Nat}
theorem x_next : tNext D σ H = D.nx σ H := rfl
theorem x_seq : tSeq t u D σ H = t { D with nx := u D } σ H := rfl
theorem x_brk : tBreak D σ H = D.bk σ H := rfl
theorem x_cont : tCont D σ H = D.ct σ H := rfl
theorem x_drop : tDrop te D σ H = te σ H (fun _ H1 => D.nx σ H1) := rfl
theorem x_ret : tRet te D σ H = te σ H D.rt := rfl
theorem x_retN : tRetN D σ H = D.rt .non H := rfl
theorem x_if : tIfS tA t u D σ H = tA σ H (fun b H1 => Sel b t u D σ H1) := by
  show tA σ H _ = tA σ H _
  congr 1
  funext b H1
  cases b <;> rfl
theorem sel_t : Sel true t u = t := rfl
theorem sel_f : Sel false t u = u := rfl
theorem selE_t : SelE true ta tb = ta := rfl
theorem selE_f : SelE false ta tb = tb := rfl
theorem selT_t : SelT true tA tB' = tA := rfl
theorem selT_f : SelT false tA tB' = tB' := rfl
theorem selC_t {A B : Prop} : SelC true A B = A := rfl
theorem selC_f {A B : Prop} : SelC false A B = B := rfl
theorem sel {b : Bool} (h1 : b = true → t D σ H) (h2 : b = false → u D σ H) : Sel b t u D σ H := by
  cases b
  · exact h2 rfl
  · exact h1 rfl
theorem selE {b : Bool} (h1 : b = true → ta σ H Q) (h2 : b = false → tb σ H Q) : SelE b ta tb σ H Q := by
  cases b
  · exact h2 rfl
  · exact h1 rfl
theorem selT {b : Bool} (h1 : b = true → tA σ H QT) (h2 : b = false → tB' σ H QT) : SelT b tA tB' σ H QT := by
  cases b
  · exact h2 rfl
  · exact h1 rfl
theorem sel_d {p : Prop} {_ : Decidable p} (h1 : p → t D σ H) (h2 : ¬ p → u D σ H) : Sel (decide p) t u D σ H := sel (fun e => h1 (of_decide_eq_true e)) (fun e => h2 (of_decide_eq_false e))
theorem selE_d {p : Prop} {_ : Decidable p} (h1 : p → ta σ H Q) (h2 : ¬ p → tb σ H Q) : SelE (decide p) ta tb σ H Q := selE (fun e => h1 (of_decide_eq_true e)) (fun e => h2 (of_decide_eq_false e))
theorem selT_d {p : Prop} {_ : Decidable p} (h1 : p → tA σ H QT) (h2 : ¬ p → tB' σ H QT) : SelT (decide p) tA tB' σ H QT := selT (fun e => h1 (of_decide_eq_true e)) (fun e => h2 (of_decide_eq_false e))
theorem x_test : tTest te σ H QT = te σ H (fun x H' => ∃ k, x = .bl k ∧ QT k H') := rfl
theorem x_tB : L2.tB te σ H QT = te σ H (fun x H' => ∃ k, x = .bl k ∧ QT k H') := rfl
theorem x_op : tOp r ta tb σ H Q = ta σ H (fun x H1 => tb σ H1 (fun y H2 => r x y H2 Q)) := rfl
theorem x_un {ru : V → Hp → VK → Prop} : tUn ru ta σ H Q = ta σ H (fun x H1 => ru x H1 Q) := rfl
theorem x_var : tVar i σ H Q = ∃ v, σ[i]? = some (some v) ∧ Q v H := rfl
theorem x_c : tC v σ H Q = Q v H := rfl
theorem x_cb {rl : List V → Hp → VK → Prop} : tCB rl l σ H Q = l σ H (fun vs H1 => rl vs H1 Q) := rfl
theorem x_nil : tNil σ H QA = QA [] H := rfl
theorem x_cons : tCons ta l σ H QA = ta σ H (fun x H1 => l σ H1 (fun xs H2 => QA (x :: xs) H2)) := rfl
theorem x_rI {C : Int → Int → Prop} {g : Int → Int → V} {a b : V} : rI C g a b H Q = ∃ i j, a = .int i ∧ b = .int j ∧ C i j ∧ Q (g i j) H := rfl
theorem x_rI0 {g : Int → Int → V} {a b : V} : rI0 g a b H Q = ∃ i j, a = .int i ∧ b = .int j ∧ Q (g i j) H := rfl
theorem x_rU {g : Int → V} {a : V} : rU g a H Q = ∃ i, a = .int i ∧ Q (g i) H := rfl
theorem x_rEq {a b : V} : rEq a b H Q = (scal a b = true ∧ Q (.bl (decide (a = b))) H) := rfl
theorem x_rNe {a b : V} : rNe a b H Q = (scal a b = true ∧ Q (.bl (!decide (a = b))) H) := rfl
theorem x_rIxL {a b : V} : rIxL K a b H Q = ∃ p xs i v, a = .ref p ∧ b = .int i ∧ SqL K H p xs ∧ atI xs i = some v ∧ Q v H := rfl
theorem x_rIxT {a b : V} : rIxT K a b H Q = ∃ p xs i v, a = .ref p ∧ b = .int i ∧ SqT K H p xs ∧ atI xs i = some v ∧ Q v H := rfl
theorem x_rSlL {a : V} {lo hi : Option Int} : rSlL K a lo hi H Q = ∃ p xs, a = .ref p ∧ SqL K H p xs ∧ ∀ q, H q = none → Q (.ref q) (upd H q (.lst (cutV xs lo hi))) := rfl
theorem x_rCat {a b : V} : rCat a b H Q = ∃ l m xs zs, a = .ref l ∧ b = .ref m ∧ H l = some (.lst xs) ∧ H m = some (.lst zs) ∧ xs.length + zs.length ≤ sizeLine ∧ ∀ p, H p = none → Q (.ref p) (upd H p (.lst (xs ++ zs))) := rfl
theorem x_rRep {a b : V} : rRep a b H Q = ∃ l k xs, a = .ref l ∧ b = .int k ∧ H l = some (.lst xs) ∧ -(2 ^ 63) ≤ k ∧ k < 2 ^ 63 ∧ xs.length * k.toNat ≤ sizeLine ∧ ∀ p, H p = none → Q (.ref p) (upd H p (.lst (List.replicate k.toNat xs).flatten)) := by first | rfl | (unfold rRep; rfl)
theorem x_rApp {a : V} {vs : List V} : rAppend a vs H Q = ∃ l xs y, a = .ref l ∧ vs = [y] ∧ H l = some (.lst xs) ∧ xs.length < sizeLine ∧ Q .non (upd H l (.lst (xs ++ [y]))) := rfl
theorem x_bm {T : String} {rm : V → List V → Hp → VK → Prop} : tBM K T rm ta l σ H Q = ta σ H (fun x H1 => tyV K T x H1 ∧ l σ H1 (fun xs H2 => rm x xs H2 Q)) := rfl
theorem x_bm0 {T : String} {rm : V → List V → Hp → VK → Prop} : tBM0 K T rm ta σ H Q = ta σ H (fun x H1 => tyV K T x H1 ∧ rm x [] H1 Q) := rfl
theorem x_sl {rs : V → Option Int → Option Int → Hp → VK → Prop} {tl th : TO} : tSl rs te tl th σ H Q = te σ H (fun x H1 => tl σ H1 (fun l H2 => th σ H2 (fun u H3 => rs x l u H3 Q))) := rfl
theorem x_nopart {QO : Option Int → Hp → Prop} : tNoPart σ H QO = QO none H := rfl
theorem x_part {QO : Option Int → Hp → Prop} : tPart te σ H QO = te σ H (fun x H1 => ∃ i, x = .int i ∧ QO (some i) H1) := rfl
theorem x_tup : tTup l σ H Q = l σ H (fun xs H1 => xs.length ≤ sizeLine ∧ ∀ p, H1 p = none → Q (.ref p) (upd H1 p (.tup xs))) := rfl
theorem x_lst : tLst l σ H Q = l σ H (fun xs H1 => xs.length ≤ sizeLine ∧ ∀ p, H1 p = none → Q (.ref p) (upd H1 p (.lst xs))) := rfl
theorem x_call {sp : Sp} {dvs : List V} {E : XK} : tCall sp dvs E l σ H Q = l σ H (fun vs H1 => sp (vs ++ dvs) H1 Q E) := rfl
theorem x_callS {sp : Sp} {dvs : List V} {W : WX} : tClS sp dvs W l σ H Q = l σ H (fun vs H1 => sp (vs ++ dvs) H1 Q (WE W σ)) := rfl
theorem x_asg {g : TG} : tAsg te g D σ H = te σ H (fun x H1 => g x σ H1 D.nx) := rfl
theorem x_gname {QG : L2.St → Hp → Prop} : gName i v σ H QG = QG (σ.set i (some v)) H := rfl
theorem x_gtup {n : Nat} {gs : TGs} {QG : L2.St → Hp → Prop} : gTup K n gs v σ H QG = ∃ a xs, v = .ref a ∧ SqT K H a xs ∧ xs.length = n ∧ gs xs σ H QG := rfl
theorem x_gnil {vs : List V} {QG : L2.St → Hp → Prop} : gNil vs σ H QG = (vs = [] ∧ QG σ H) := rfl
theorem x_gcons {vs : List V} {g : TG} {gs : TGs} {QG : L2.St → Hp → Prop} : gCons g gs vs σ H QG = ∃ v r, vs = v :: r ∧ g v σ H (fun σ' H' => gs r σ' H' QG) := rfl
theorem x_gsub {to ti : TE} {ts : TSet} {QG : L2.St → Hp → Prop} : gSub to ti ts v σ H QG = to σ H (fun o H1 => ti σ H1 (fun i H2 => ts o i v H2 (fun H3 => QG σ H3))) := rfl
theorem x_setL {o i' : V} {QH : Hp → Prop} : rSetL o i' v H QH = ∃ p xs k j, o = .ref p ∧ i' = .int k ∧ H p = some (.lst xs) ∧ ixN xs.length k = some j ∧ QH (upd H p (.lst (xs.set j v))) := rfl
theorem x_aug {ti : TIp} : tAug i te ti D σ H = ∃ x, σ[i]? = some (some x) ∧ te σ H (fun y H1 => ti x y H1 (fun z H2 => D.nx (σ.set i (some z)) H2)) := rfl
theorem x_ipI {f : Int → Int → Int} {a b : V} : ipI f a b H Q = ∃ i j, a = .int i ∧ b = .int j ∧ Q (.int (f i j)) H := rfl
theorem x_and : tAnd tA tB' σ H QT = tA σ H (fun c H1 => SelT c tB' (tK false) σ H1 QT) := by
  show tA σ H _ = tA σ H _
  congr 1
  funext c H1
  cases c <;> rfl
theorem x_or : tOr tA tB' σ H QT = tA σ H (fun c H1 => SelT c (tK true) tB' σ H1 QT) := by
  show tA σ H _ = tA σ H _
  congr 1
  funext c H1
  cases c <;> rfl
theorem x_not : tNot tA σ H QT = tA σ H (fun c H1 => QT (!c) H1) := rfl
theorem x_k {b : Bool} : tK b σ H QT = QT b H := rfl
theorem x_andV : tAndV ta tb σ H Q = ta σ H (fun x H1 => ∃ c, x = .bl c ∧ SelE c tb (tC (.bl false)) σ H1 Q) := by
  show ta σ H _ = ta σ H _
  congr 1
  funext x H1
  congr 1
  funext c
  cases c <;> rfl
theorem x_orV : tOrV ta tb σ H Q = ta σ H (fun x H1 => ∃ c, x = .bl c ∧ SelE c (tC (.bl true)) tb σ H1 Q) := by
  show ta σ H _ = ta σ H _
  congr 1
  funext x H1
  congr 1
  funext c
  cases c <;> rfl
theorem x_notV : tNotV ta σ H Q = ta σ H (fun x H1 => ∃ c, x = .bl c ∧ Q (.bl (!c)) H1) := rfl
theorem x_ife : tIf tA ta tb σ H Q = tA σ H (fun c H1 => SelE c ta tb σ H1 Q) := by
  show tA σ H _ = tA σ H _
  congr 1
  funext c H1
  cases c <;> rfl
theorem x_chain {r' : R2} : tChain r r' ta tb tc σ H Q = ta σ H (fun x H1 => tb σ H1 (fun y H2 => r x y H2 (fun z H3 => ∃ k, z = .bl k ∧ SelE k (fun σ' H' Q' => tc σ' H' (fun w' H4 => r' y w' H4 Q')) (tC (.bl false)) σ H3 Q))) := by
  show ta σ H _ = ta σ H _
  congr 1
  funext x H1
  congr 1
  funext y H2
  congr 1
  funext z H3
  congr 1
  funext k
  cases k <;> rfl
/-! loops -/
def LoopI (J : It) (g : TG) (tb : TS) (D : Ends) (σ : L2.St) (H1 : Hp) : Prop := ∃ W : Nat → Nat → L2.St → Hp → Prop, (∃ m, W 0 m σ H1) ∧ ∀ i m σ H, W i m σ H →
  (J.stop i H ∧ D.nx σ H) ∨ (J.go i H ∧ ∃ N : L2.St → Hp → Prop, (∀ σ' H', N σ' H' → ∃ m', m' < m ∧ W (i + 1) m' σ' H') ∧ ∀ x H', J.yld i H x H' → g x σ H' fun σ2 H2 => tb { D with nx := N, ct := N, bk := D.nx } σ2 H2)
theorem x_for {wi : TI} {g : TG} : tFor wi g t D σ H = wi σ H (fun J H1 => LoopI J g t D σ H1) := rfl
theorem x_ilist {R : It → Hp → Prop} : iList K te σ H R = te σ H (fun x H1 => ∃ a, x = .ref a ∧ (∃ xs, SqL K H1 a xs) ∧ R (Itl K a) H1) := rfl
theorem x_itup {R : It → Hp → Prop} : iTup K te σ H R = te σ H (fun x H1 => ∃ a, x = .ref a ∧ (∃ xs, SqT K H1 a xs) ∧ R (Itt K a) H1) := rfl
theorem x_irng1 {R : It → Hp → Prop} : iRng1 l σ H R = l σ H (fun vs H1 => ∃ j : Int, vs = [.int j] ∧ -(2 ^ 62) ≤ j ∧ j < 2 ^ 62 ∧ R (Itr 0 j.toNat) H1) := rfl
theorem x_irng2 {R : It → Hp → Prop} : iRng2 l σ H R = l σ H (fun vs H1 => ∃ i j : Int, vs = [.int i, .int j] ∧ (-(2 ^ 62) ≤ i ∧ i < 2 ^ 62 ∧ -(2 ^ 62) ≤ j ∧ j < 2 ^ 62) ∧ R (Itr i (j - i).toNat) H1) := rfl
theorem x_irev {R : It → Hp → Prop} : iRev K l σ H R = l σ H (fun vs H1 => ∃ (a : Addr) (xs : List V), vs = [.ref a] ∧ SqL K H1 a xs ∧ R (Itv K a xs.length) H1) := rfl
theorem loop_list {a : Addr} {xs : List V} {g : TG} (Pv : Nat → L2.St → Hp → Prop) (h0 : Pv 0 σ H) (hl : ∀ i σ H, i ≤ xs.length → Pv i σ H → SqL K H a xs)
    (hs : ∀ i x σ H, xs[i]? = some x → Pv i σ H → g x σ H fun σ2 H2 => t { D with nx := Pv (i + 1), ct := Pv (i + 1), bk := D.nx } σ2 H2) (hd : ∀ σ H, Pv xs.length σ H → D.nx σ H) : LoopI (Itl K a) g t D σ H := for_list Pv h0 hl hs hd
theorem loop_range {lo : Int} {n : Nat} {g : TG} (Pv : Nat → L2.St → Hp → Prop) (h0 : Pv 0 σ H)
    (hs : ∀ i σ H, i < n → Pv i σ H → g (.int (lo + i)) σ H fun σ2 H2 => t { D with nx := Pv (i + 1), ct := Pv (i + 1), bk := D.nx } σ2 H2) (hd : ∀ σ H, Pv n σ H → D.nx σ H) : LoopI (Itr lo n) g t D σ H := for_range Pv h0 hs hd
/-! comprehensions -/
def CompI (J : It) (g : TG) (tt : TT) (te : TE) (vs : List Nat) (st : L2.St) (Hs : Hp) (D : Addr) (Qd : Hp → Prop) : Prop :=
  ∃ W : Nat → Nat → Hp → Prop, (∃ m, W 0 m (upd Hs D (.lst []))) ∧ ∀ i m H, W i m H →
    (J.stop i H ∧ Qd H) ∨ (J.go i H ∧ ∃ Nx : Hp → Prop, (∀ G, Nx G → ∃ m2, m2 < m ∧ W (i + 1) m2 G) ∧
      ∀ x G, J.yld i H x G → g x (wipe st vs) G fun s2 G2 => wipe s2 vs = wipe st vs ∧ tt s2 G2 fun b G3 =>
        if b = true then te s2 G3 fun y G4 => ∃ acc, G4 D = some (.lst acc) ∧ acc.length < sizeLine ∧ Nx (upd G4 D (.lst (acc ++ [y]))) else Nx G3)
theorem x_lc {wi : TI} {g : TG} {vs : List Nat} : tLc wi g tA te vs σ H Q = wi σ H (fun J H1 => ∀ D, H1 D = none → CompI J g tA te vs σ H1 D (fun H => Q (.ref D) H)) := rfl
theorem x_yes : tYes σ H QT = QT true H := rfl
theorem comp_range {lo : Int} {n : Nat} {g : TG} {vs : List Nat} {D : Addr} {Qd : Hp → Prop} (Pv : Nat → Hp → Prop) (h0 : Pv 0 (upd H D (.lst [])))
    (hs : ∀ i H, i < n → Pv i H → g (.int (lo + i)) (wipe σ vs) H fun σ2 H2 => wipe σ2 vs = wipe σ vs ∧ tA σ2 H2 fun b H3 =>
      if b = true then te σ2 H3 fun y H4 => ∃ acc, H4 D = some (.lst acc) ∧ acc.length < sizeLine ∧ Pv (i + 1) (upd H4 D (.lst (acc ++ [y]))) else Pv (i + 1) H3) (hd : ∀ H, Pv n H → Qd H) : CompI (Itr lo n) g tA te vs σ H D Qd := lc_range Pv h0 hs hd
theorem comp_list {a : Addr} {xs : List V} {g : TG} {vs : List Nat} {D : Addr} {Qd : Hp → Prop} (Pv : Nat → Hp → Prop) (h0 : Pv 0 (upd H D (.lst []))) (hl : ∀ i H, i ≤ xs.length → Pv i H → SqL K H a xs)
    (hs : ∀ i x H, xs[i]? = some x → Pv i H → g x (wipe σ vs) H fun σ2 H2 => wipe σ2 vs = wipe σ vs ∧ tA σ2 H2 fun b H3 =>
      if b = true then te σ2 H3 fun y H4 => ∃ acc, H4 D = some (.lst acc) ∧ acc.length < sizeLine ∧ Pv (i + 1) (upd H4 D (.lst (acc ++ [y]))) else Pv (i + 1) H3) (hd : ∀ H, Pv xs.length H → Qd H) : CompI (Itl K a) g tA te vs σ H D Qd := lc_list Pv h0 hl hs hd
theorem scal_ii {a b : Int} : scal (.int a) (.int b) = true := rfl
theorem scal_bb {a b : Bool} : scal (.bl a) (.bl b) = true := rfl
theorem scal_ss {a b : Str} : scal (.str a) (.str b) = true := by first | rfl | (unfold scal; rfl)
theorem x_misc {CX : CXT} {P : Program} {w : World} {mg : Str → Option Value} {base : Heap} {N : List Str} {qual : Str} {scope : Scope} {f : Addr} {cd : Value} {A : Around} {outer : List Env} {s : Shared} {E : XK} : (cxOf CX P w K mg base N qual scope f cd A outer s H E).K = K := rfl
theorem x_misc2 {X : Cx} : X.nox.K = X.K := rfl
theorem tyv {a : Addr} {xs : List V} (h : SqL K H a xs) : tyV K "list" (.ref a) H := .inl ⟨rfl, _, h⟩
/-- isinstance -/
theorem isi_int {c : String} {b : Bool} {j : Int} (h : kitB "int" c = some b) (q : Q (.bl b) H) : rIsi K [.int j, .ty c] H Q := ⟨_, _, _, _, b, rfl, .ty c, .base (.int _), kit_ty h, q⟩
theorem isi_lst {c : String} {b : Bool} {a : Addr} {xs : List V} (h : kitB "list" c = some b) (hl : H a = some (.lst xs)) (q : Q (.bl b) H) : rIsi K [.ref a, .ty c] H Q := ⟨_, _, _, _, b, rfl, .ty c, .base (.lst hl), kit_ty h, q⟩
theorem isi_tup {c : String} {b : Bool} {a : Addr} {xs : List V} (h : kitB "tuple" c = some b) (hl : H a = some (.tup xs)) (q : Q (.bl b) H) : rIsi K [.ref a, .ty c] H Q := ⟨_, _, _, _, b, rfl, .ty c, .base (.tup hl), kit_ty h, q⟩
end
/-! ### heaps -/
theorem same_upd {H : Hp} {p : Addr} {o : HO} (h : H p = none) : Same H (upd H p o) := fun b x e => by
  rw [upd_ne (ne_of_none e h)]
  exact e
theorem Same.free' {H H' : Hp} {p : Addr} (s : Same H H') (h : H' p = none) : H p = none := s.free h
theorem Same.seqT {K : PySem.W.Frag} {H H' : Hp} {a : Addr} {xs : List V} (e : Same H H') (h : SqT K H a xs) : SqT K H' a xs := by
  rcases h with (h | ⟨o, h⟩) | h
  · exact .inl (.inl (e _ _ h))
  · exact .inl (.inr ⟨o, e _ _ h⟩)
  · exact .inr h
theorem upd_upd {H : Hp} {p : Addr} {o u : HO} : upd (upd H p o) p u = upd H p u := by
  funext b
  by_cases h : b = p
  · rw [h, upd_same, upd_same]
  · rw [upd_ne h, upd_ne h, upd_ne h]
theorem atI_int {xs : List Int} {k : Int} (h0 : 0 ≤ k) (h1 : k < xs.length) : atI (xs.map V.int) k = some (.int (xs.getD k.toNat 0)) := by
  obtain ⟨n, rfl⟩ := Int.eq_ofNat_of_zero_le h0
  refine atI_nat ?_
  have h2 : n < xs.length := by omega
  rw [List.getElem?_map, List.getElem?_eq_getElem h2, Int.toNat_natCast, List.getD_eq_getElem?_getD, List.getElem?_eq_getElem h2]
  rfl
/-! ### == of data -/
mutual
def plain : PyData → Bool
  | .none => true
  | .bool _ => false
  | .int _ => true
  | .str x => (PyData.str x).canLay0
  | .list xs => plainAl xs
  | .tuple xs => plainAl xs
  | .dict _ => false
def plainAl : List PyData → Bool
  | [] => true
  | x :: xs => (plainAl xs && plain x)
end
mutual
theorem plain_lay : ∀ d : PyData, plain d = true → d.canLay0 = true
  | .none, _ => by simp [PyData.canLay0]
  | .bool _, h => by simp [plain] at h
  | .int _, _ => by simp [PyData.canLay0]
  | .str x, h => by simpa [plain] using h
  | .list xs, h => by
    simp only [plain] at h
    simp only [PyData.canLay0]
    exact plainAl_lay xs h
  | .tuple xs, h => by
    simp only [plain] at h
    simp only [PyData.canLay0]
    exact plainAl_lay xs h
  | .dict _, h => by simp [plain] at h
theorem plainAl_lay : ∀ ds : List PyData, plainAl ds = true → PyData.canLayAll0 ds = true
  | [], _ => by simp [PyData.canLayAll0]
  | x :: xs, h => by
    simp only [plainAl, Bool.and_eq_true] at h
    simp only [PyData.canLayAll0, Bool.and_eq_true]
    exact ⟨plain_lay x h.2, plainAl_lay xs h.1⟩
end
mutual
theorem eqv_iff : ∀ d e : PyData, plain d = true → plain e = true → (PyData.eqv d e = true ↔ d = e)
  | .none, .none, _, _ => by simp [PyData.eqv]
  | .int i, .int j, _, _ => by simp [PyData.eqv]
  | .str i, .str j, _, _ => by simp [PyData.eqv]
  | .list xs, .list ys, h1, h2 => by
    simp only [plain] at h1 h2
    simp only [PyData.eqv, PyData.list.injEq]
    exact eqvAll_iff xs ys h1 h2
  | .tuple xs, .tuple ys, h1, h2 => by
    simp only [plain] at h1 h2
    simp only [PyData.eqv, PyData.tuple.injEq]
    exact eqvAll_iff xs ys h1 h2
  | .bool _, _, h1, _ => by simp [plain] at h1
  | .dict _, _, h1, _ => by simp [plain] at h1
  | _, .bool _, _, h2 => by simp [plain] at h2
  | _, .dict _, _, h2 => by simp [plain] at h2
  | .none, .int _, _, _ => by simp [PyData.eqv]
  | .none, .str _, _, _ => by simp [PyData.eqv]
  | .none, .list _, _, _ => by simp [PyData.eqv]
  | .none, .tuple _, _, _ => by simp [PyData.eqv]
  | .int _, .none, _, _ => by simp [PyData.eqv]
  | .int _, .str _, _, _ => by simp [PyData.eqv]
  | .int _, .list _, _, _ => by simp [PyData.eqv]
  | .int _, .tuple _, _, _ => by simp [PyData.eqv]
  | .str _, .none, _, _ => by simp [PyData.eqv]
  | .str _, .int _, _, _ => by simp [PyData.eqv]
  | .str _, .list _, _, _ => by simp [PyData.eqv]
  | .str _, .tuple _, _, _ => by simp [PyData.eqv]
  | .list _, .none, _, _ => by simp [PyData.eqv]
  | .list _, .int _, _, _ => by simp [PyData.eqv]
  | .list _, .str _, _, _ => by simp [PyData.eqv]
  | .list _, .tuple _, _, _ => by simp [PyData.eqv]
  | .tuple _, .none, _, _ => by simp [PyData.eqv]
  | .tuple _, .int _, _, _ => by simp [PyData.eqv]
  | .tuple _, .str _, _, _ => by simp [PyData.eqv]
  | .tuple _, .list _, _, _ => by simp [PyData.eqv]
theorem eqvAll_iff : ∀ ds es : List PyData, plainAl ds = true → plainAl es = true → (PyData.eqvAll ds es = true ↔ ds = es)
  | [], [], _, _ => by simp [PyData.eqvAll]
  | [], _ :: _, _, _ => by simp [PyData.eqvAll]
  | _ :: _, [], _, _ => by simp [PyData.eqvAll]
  | x :: xs, y :: ys, h1, h2 => by
    simp only [plainAl, Bool.and_eq_true] at h1 h2
    simp only [PyData.eqvAll, Bool.and_eq_true, List.cons.injEq]
    rw [eqv_iff x y h1.2 h2.2, eqvAll_iff xs ys h1.1 h2.1]
end
/-- data as it is compared: its value, and that it is plain and not deep -/
structure Dq (K : PySem.W.Frag) (H : Hp) (v : V) (d : PyData) : Prop where
  dp : Dp K H v d
  pl : plain d = true
  de : d.depth ≤ 64
theorem Dq.sh {K : PySem.W.Frag} {H : Hp} {v : V} {d : PyData} (h : Dq K H v d) : SeqAt.shaped d = true := by
  show (d.canLay0 && decide (d.depth ≤ 64)) = true
  rw [plain_lay d h.pl, decide_eq_true h.de]
  rfl
theorem eqd {K : PySem.W.Frag} {H : Hp} {x y : V} {d e : PyData} {Q : VK} (h1 : Dq K H x d) (h2 : Dq K H y e) (q : ∀ b : Bool, (b = true ↔ d = e) → Q (.bl b) H) : rEqD K x y H Q := ⟨d, e, h1.dp, h2.dp, h1.sh, h2.sh, q _ (eqv_iff d e h1.pl h2.pl)⟩
theorem ned {K : PySem.W.Frag} {H : Hp} {x y : V} {d e : PyData} {Q : VK} (h1 : Dq K H x d) (h2 : Dq K H y e) (q : ∀ b : Bool, (b = true ↔ d = e) → Q (.bl (!b)) H) : rNeD K x y H Q := ⟨d, e, h1.dp, h2.dp, h1.sh, h2.sh, q _ (eqv_iff d e h1.pl h2.pl)⟩
/-- equal data: the answer is known -/
theorem eqd_t {K : PySem.W.Frag} {H : Hp} {x y : V} {d : PyData} {Q : VK} (h1 : Dq K H x d) (h2 : Dq K H y d) (q : Q (.bl true) H) : rEqD K x y H Q := eqd h1 h2 fun b e => by
  rw [e.mpr rfl]
  exact q
theorem ned_f {K : PySem.W.Frag} {H : Hp} {x y : V} {d : PyData} {Q : VK} (h1 : Dq K H x d) (h2 : Dq K H y d) (q : Q (.bl false) H) : rNeD K x y H Q := ned h1 h2 fun b e => by
  rw [e.mpr rfl]
  exact q
theorem dpAll_ints {K : PySem.W.Frag} {H : Hp} : ∀ ns : List Int, DpAll K H (ns.map V.int) (ns.map PyData.int)
  | [] => .nil
  | n :: r => .cons (.int n) (dpAll_ints r)
theorem plainAl_ints : ∀ ns : List Int, plainAl (ns.map PyData.int) = true
  | [] => by simp [plainAl]
  | n :: r => by simp [plainAl, plain, plainAl_ints r]
theorem depthAll_ints' : ∀ ns : List Int, PyData.depthAll (ns.map PyData.int) ≤ 1
  | [] => by simp [PyData.depthAll]
  | n :: r => by
    have := depthAll_ints' r
    simp only [List.map_cons, PyData.depthAll, PyData.depth]
    omega
section
variable {K : PySem.W.Frag} {H : Hp}
theorem dq_int {i : Int} : Dq K H (.int i) (.int i) := ⟨.int i, by simp [plain], by simp [PyData.depth]⟩
theorem dq_lst {a : Addr} {ns : List Int} (h : SqL K H a (ns.map V.int)) : Dq K H (.ref a) (.list (ns.map PyData.int)) := ⟨.lst h (dpAll_ints ns), by simp only [plain]; exact plainAl_ints ns, by
  have := depthAll_ints' ns
  simp only [PyData.depth]
  omega⟩
theorem dq_tup {a : Addr} {ns : List Int} (h : SqT K H a (ns.map V.int)) : Dq K H (.ref a) (.tuple (ns.map PyData.int)) := ⟨.tup h (dpAll_ints ns), by simp only [plain]; exact plainAl_ints ns, by
  have := depthAll_ints' ns
  simp only [PyData.depth]
  omega⟩
theorem map_int_inj {ns ms : List Int} : ns.map PyData.int = ms.map PyData.int ↔ ns = ms := by
  refine ⟨fun h => ?_, fun h => by rw [h]⟩
  have e : ∀ l : List Int, (l.map PyData.int).map (fun d => match d with | .int i => i | _ => 0) = l := fun l => by
    rw [List.map_map]
    exact List.map_id'' (fun _ => rfl) l
  rw [← e ns, ← e ms, h]
end
theorem x_eqd {K : PySem.W.Frag} {H : Hp} {x y : V} {Q : VK} : rEqD K x y H Q = rEqD K x y H Q := rfl
/-! ### reversed lists, slices -/
theorem loop_rev {K : PySem.W.Frag} {t : TS} {D : Ends} {σ : L2.St} {H : Hp} {a : Addr} {xs : List V} {g : TG} (Pv : Nat → L2.St → Hp → Prop) (h0 : Pv 0 σ H) (hl : ∀ i σ H, i ≤ xs.length → Pv i σ H → SqL K H a xs)
    (hs : ∀ i x σ H, xs[xs.length - 1 - i]? = some x → i < xs.length → Pv i σ H → g x σ H fun σ2 H2 => t { D with nx := Pv (i + 1), ct := Pv (i + 1), bk := D.nx } σ2 H2) (hd : ∀ σ H, Pv xs.length σ H → D.nx σ H) : LoopI (Itv K a xs.length) g t D σ H := by
  refine ⟨fun i left σ H => left = xs.length - i ∧ i ≤ xs.length ∧ Pv i σ H, ⟨xs.length, by omega, by omega, h0⟩, ?_⟩
  rintro i left σ H ⟨rfl, hi, p⟩
  have q := hl i σ H hi p
  by_cases hlt : i < xs.length
  · have hk : xs.length - 1 - i < xs.length := by omega
    refine .inr ⟨⟨hlt, xs, xs[xs.length - 1 - i], q, by simp [hk]⟩, Pv (i + 1), fun σ' H' p' => ⟨xs.length - (i + 1), by omega, rfl, hlt, p'⟩, fun x H' y => ?_⟩
    obtain ⟨e, y⟩ := y
    subst e
    exact hs i x σ _ (y xs q) hlt p
  · obtain rfl : i = xs.length := Nat.le_antisymm hi (by omega)
    exact .inl ⟨Nat.le_refl xs.length, hd σ H p⟩
theorem cutV_nn {xs : List V} {i j : Nat} (h : i ≤ j) (hj : j ≤ xs.length) : cutV xs (some (i : Int)) (some (j : Int)) = (xs.drop i).take (j - i) := by
  unfold cutV
  rw [HT.sIx_nat, HT.sIx_nat, Nat.min_eq_left hj, Nat.min_eq_left (Nat.le_trans h hj)]
theorem cutV_from {xs : List V} {i : Nat} (h : i ≤ xs.length) : cutV xs (some (i : Int)) none = xs.drop i := by
  unfold cutV
  rw [HT.sIx_nat, HT.sIx_none, Nat.min_eq_left h]
  exact List.take_of_length_le (by rw [List.length_drop]; exact Nat.le_refl _)
theorem cutV_upto {xs : List V} {j : Nat} (hj : j ≤ xs.length) : cutV xs none (some (j : Int)) = xs.take j := by
  unfold cutV
  rw [HT.sIx_nat, HT.sIx_none, Nat.min_eq_left hj, List.drop_zero, Nat.sub_zero]
/-! ### exceptions caught -/
theorem x_xf {a : Addr} {cls : Value} {d : Option Addr} {C : Addr} {f : Str} {te : TE} {σ : L2.St} {H : Hp} {Q : VK} : tXf a cls d C f te σ H Q = te σ H (fun x H1 => x = .ref a ∧ cls = .ref C ∧ ∃ (dd : Addr) (fs : List (Str × V)) (v : V), d = some dd ∧ H1 dd = some (.xd fs) ∧ fs.lookup f = some v ∧ Q v H1) := rfl
theorem x_rz {K : PySem.W.Frag} {C : Addr} {W : WX} {ta : TA} {D : Ends} {σ : L2.St} {H : Hp} : tRz K C W ta D σ H = ta σ H (fun vs H1 => Bz K C W σ vs H1) := rfl
theorem lookup_at {v : V} : List.lookup ("at" : Str) [(("at" : Str), v)] = some v := rfl
theorem as_yes {K : PySem.W.Frag} {mg : Str → Option Value} {x : Str} {i : Nat} {ts : Addr → Value → Option Addr → TS} {Wout : WX} {D : Ends} {σ : L2.St} {H : Hp} {d : Option Addr} (T : ExF K mg x)
    (h : ∀ a, H a = none → ts a (.ref (He.ga K x)) d { nx := fun σ' H' => D.nx (σ'.set i none) H', rt := D.rt, bk := fun σ' H' => D.bk (σ'.set i none) H', ct := fun σ' H' => D.ct (σ'.set i none) H' } (σ.set i (some (.ref a))) H) :
    wAs K (.ref (He.ga K x)) i ts Wout D (.ref (He.ga K x)) d σ H := ⟨true, T.te, fun _ => h, fun z => nomatch z⟩
theorem int_at {ns : List Int} {i : Nat} {x : V} (h : (ns.map V.int)[i]? = some x) : ∃ z, ns[i]? = some z ∧ x = .int z := by
  rw [List.getElem?_map] at h
  cases e : ns[i]? with
  | none =>
    rw [e] at h
    cases h
  | some z =>
    rw [e] at h
    exact ⟨z, rfl, (Option.some.inj h).symm⟩
theorem upd_keep {H : Hp} {b c : Addr} {o x : HO} (hb : H b = none) (h : H c = some x) : upd H b o c = some x := same_upd hb c x h
theorem upd_other {H : Hp} {b c : Addr} {o x : HO} (hb : c ≠ b) (h : H c = some x) : upd H b o c = some x := (upd_ne hb).trans h
theorem Same.get {H H' : Hp} {a : Addr} {o : HO} (s : Same H H') (h : H a = some o) : H' a = some o := s a o h
theorem same_put {H H' : Hp} {p : Addr} {o : HO} (s : Same H H') (h : H p = none) : Same H (upd H' p o) := fun b x e => by
  rw [upd_ne (ne_of_none e h)]
  exact s b x e
theorem line_map {ds : List Int} {n : Nat} (h : ds.length ≤ n) (hn : n < 16777216) : (ds.map V.int).length < sizeLine := by
  rw [List.length_map, sizeLine_eq]
  omega
theorem line_map' {ds : List Int} {n : Nat} (h : ds.length ≤ n) (hn : n < 16777216) : (ds.map V.int).length ≤ sizeLine := Nat.le_of_lt (line_map h hn)
/-! ### x op= e of ints -/
def ipC (C : Int → Int → Prop) (f : Int → Int → Int) : TIp := fun x y H Q => ∃ i j, x = .int i ∧ y = .int j ∧ C i j ∧ Q (.int (f i j)) H
theorem x_ipC {C : Int → Int → Prop} {f : Int → Int → Int} {x y : V} {H : Hp} {Q : VK} : ipC C f x y H Q = ∃ i j, x = .int i ∧ y = .int j ∧ C i j ∧ Q (.int (f i j)) H := rfl
section
variable {X : Cx}
theorem ip_fdiv : PIp X .FloorDiv (ipC CDiv fun i j => i / j) := by
  intro pins s σ H x y v u Q I r1 r2 h
  obtain ⟨i, j, e1, e2, hc, q⟩ := h
  subst e1; subst e2
  obtain ⟨t, rfl⟩ := r1
  obtain ⟨t', rfl⟩ := r2
  have h1 : (0 : Int) < j := hc.1
  have h2 := hc.2
  exact ifloordiv_int (by omega) (by rw [Int.fdiv_eq_ediv_of_nonneg i (by omega)]; exact ⟨.int _, H, I.tok _, ⟨_, rfl⟩, q⟩) (.inl (PyProof.noPylong_small (by omega)))
theorem ip_mod : PIp X .Mod (ipC (fun _ j => 0 < j) fun i j => i % j) := by
  intro pins s σ H x y v u Q I r1 r2 h
  obtain ⟨i, j, e1, e2, hc, q⟩ := h
  subst e1; subst e2
  obtain ⟨t, rfl⟩ := r1
  obtain ⟨t', rfl⟩ := r2
  exact imod_int (by omega) (by rw [Int.fmod_eq_emod_of_nonneg i (by omega)]; exact ⟨.int _, H, I.tok _, ⟨_, rfl⟩, q⟩)
theorem ip_shr : PIp X .RShift (ipC (fun _ j => 0 ≤ j) fun i j => i / 2 ^ j.toNat) := by
  intro pins s σ H x y v u Q I r1 r2 h
  obtain ⟨i, j, e1, e2, hc, q⟩ := h
  subst e1; subst e2
  obtain ⟨t, rfl⟩ := r1
  obtain ⟨t', rfl⟩ := r2
  exact irshift_int hc (by rw [Int.fdiv_eq_ediv_of_nonneg i (Int.le_of_lt (Int.pow_pos (by decide)))]; exact ⟨.int _, H, I.tok _, ⟨_, rfl⟩, q⟩)
theorem ip_shl : PIp X .LShift (ipC (fun i j => 0 ≤ j ∧ (Builtin.Int.intBits i : Int) + j ≤ 2 ^ 27) fun i j => i * 2 ^ j.toNat) := by
  intro pins s σ H x y v u Q I r1 r2 h
  obtain ⟨i, j, e1, e2, hc, q⟩ := h
  subst e1; subst e2
  obtain ⟨t, rfl⟩ := r1
  obtain ⟨t', rfl⟩ := r2
  exact ilshift_int hc.1 hc.2 ⟨.int _, H, I.tok _, ⟨_, rfl⟩, q⟩
theorem ip_mul : PIp X .Mult (ipC CMul fun i j => i * j) := by
  intro pins s σ H x y v u Q I r1 r2 h
  obtain ⟨i, j, e1, e2, hc, q⟩ := h
  subst e1; subst e2
  obtain ⟨t, rfl⟩ := r1
  obtain ⟨t', rfl⟩ := r2
  exact PyProof.Rows.imul_int ⟨.int _, H, I.tok _, ⟨_, rfl⟩, q⟩ hc.ok
theorem ip_and : PIp X .BitAnd (ipI fun i j => Builtin.bitAnd i j) := by
  intro pins s σ H x y v u Q I r1 r2 h
  obtain ⟨i, j, e1, e2, q⟩ := h
  subst e1; subst e2
  obtain ⟨t, rfl⟩ := r1
  obtain ⟨t', rfl⟩ := r2
  exact iand_int ⟨.int _, H, I.tok _, ⟨_, rfl⟩, q⟩
theorem ip_or : PIp X .BitOr (ipI fun i j => Builtin.bitOr i j) := by
  intro pins s σ H x y v u Q I r1 r2 h
  obtain ⟨i, j, e1, e2, q⟩ := h
  subst e1; subst e2
  obtain ⟨t, rfl⟩ := r1
  obtain ⟨t', rfl⟩ := r2
  exact ior_int ⟨.int _, H, I.tok _, ⟨_, rfl⟩, q⟩
theorem ip_xor : PIp X .BitXor (ipI fun i j => Builtin.bitXor i j) := by
  intro pins s σ H x y v u Q I r1 r2 h
  obtain ⟨i, j, e1, e2, q⟩ := h
  subst e1; subst e2
  obtain ⟨t, rfl⟩ := r1
  obtain ⟨t', rfl⟩ := r2
  exact ixor_int ⟨.int _, H, I.tok _, ⟨_, rfl⟩, q⟩
end
/-! ### while -/
def WhB (Pv : L2.St → Hp → Prop) (μ : L2.St → Hp → Nat) (tb : TS) (D : Ends) (σ : L2.St) (H : Hp) (b : Bool) (H1 : Hp) : Prop :=
  if b = true then ∃ N : L2.St → Hp → Prop, (∀ σ' H', N σ' H' → ∃ m', m' < μ σ H ∧ (m' = μ σ' H' ∧ Pv σ' H')) ∧ tb { D with nx := N, ct := N, bk := D.nx } σ H1 else D.nx σ H1
section
variable {c : TT} {tb : TS} {D : Ends} {σ : L2.St} {H H1 : Hp} {Pv : L2.St → Hp → Prop} {μ : L2.St → Hp → Nat}
theorem loop_while (Pv : L2.St → Hp → Prop) (μ : L2.St → Hp → Nat) (h0 : Pv σ H) (hs : ∀ σ H, Pv σ H → c σ H fun b H1 => WhB Pv μ tb D σ H b H1) : tWhile c tb D σ H := by
  refine ⟨fun left σ H => left = μ σ H ∧ Pv σ H, ⟨μ σ H, rfl, h0⟩, ?_⟩
  rintro left σ H ⟨rfl, p⟩
  exact hs σ H p
theorem wh {b : Bool} (h1 : b = true → tb { D with nx := fun σ' H' => Pv σ' H' ∧ μ σ' H' < μ σ H, ct := fun σ' H' => Pv σ' H' ∧ μ σ' H' < μ σ H, bk := D.nx } σ H1) (h2 : b = false → D.nx σ H1) : WhB Pv μ tb D σ H b H1 := by
  cases b
  · exact h2 rfl
  · exact ⟨_, fun σ' H' ⟨p, l⟩ => ⟨_, l, rfl, p⟩, h1 rfl⟩
theorem wh_d {p : Prop} {_ : Decidable p} (h1 : p → tb { D with nx := fun σ' H' => Pv σ' H' ∧ μ σ' H' < μ σ H, ct := fun σ' H' => Pv σ' H' ∧ μ σ' H' < μ σ H, bk := D.nx } σ H1) (h2 : ¬ p → D.nx σ H1) : WhB Pv μ tb D σ H (decide p) H1 := wh (fun e => h1 (of_decide_eq_true e)) (fun e => h2 (of_decide_eq_false e))
end
theorem cpow_ok {i j : Int} (h : (decide (0 ≤ j) && decide (j ≤ 1000000) && decide (i.natAbs < 2 ^ 64)) = true) : CPow i j := by
  simp only [Bool.and_eq_true, decide_eq_true_eq] at h
  exact ⟨h.1.1, h.1.2, h.2⟩
theorem xf_at {a d : Addr} {C : Addr} {i : Nat} {σ : L2.St} {H : Hp} {Q : VK} {v : V} (hi : σ[i]? = some (some (.ref a))) (h : H d = some (.xd [("at", v)])) (q : Q v H) : tXf a (.ref C) (some d) C "at" (tVar i) σ H Q := ⟨_, hi, rfl, rfl, d, _, v, rfl, h, lookup_at, q⟩
section
variable {K : PySem.W.Frag} {H : Hp} {a : Addr} {xs : List V} {P : List V → Prop}
theorem ex_lst (h : H a = some (.lst xs)) (q : P xs) : ∃ x, H a = some (.lst x) ∧ P x := ⟨xs, h, q⟩
theorem ex_sq (h : SqL K H a xs) (q : P xs) : ∃ x, SqL K H a x ∧ P x := ⟨xs, h, q⟩
theorem ex_sqt (h : SqT K H a xs) (q : P xs) : ∃ x, SqT K H a x ∧ P x := ⟨xs, h, q⟩
theorem ex_or (h : SqL K H a xs) (q : P xs) : ∃ x, (SqL K H a x ∨ SqT K H a x) ∧ P x := ⟨xs, .inl h, q⟩
theorem ex_ort (h : SqT K H a xs) (q : P xs) : ∃ x, (SqL K H a x ∨ SqT K H a x) ∧ P x := ⟨xs, .inr h, q⟩
theorem and_sq {B : Prop} (h : SqL K H a xs) (q : B) : (∃ x, SqL K H a x) ∧ B := ⟨⟨xs, h⟩, q⟩
theorem and_tyv {B : Prop} (h : SqL K H a xs) (q : B) : tyV K "list" (.ref a) H ∧ B := ⟨tyv h, q⟩
end
theorem pow2_le {i j : Nat} (h : i ≤ j) : (2 : Int) ^ i ≤ 2 ^ j := by exact_mod_cast Nat.pow_le_pow_right (by decide) h
theorem pow2_pos {i : Nat} : (0 : Int) < 2 ^ i := Int.pow_pos (by decide)
/-! guards: the goal's shape, nothing else -/
section
variable {K : PySem.W.Frag} {H : Hp} {a : Addr} {P : List V → Prop} {B : Prop}
theorem g_xf {cls : Value} {d : Option Addr} {C : Addr} {f : Str} {te : TE} {σ : L2.St} {Q : VK} (h : tXf a cls d C f te σ H Q) : tXf a cls d C f te σ H Q := h
theorem g_and {A : Prop} (h : A ∧ B) : A ∧ B := h
theorem g_tyv (h : tyV K "list" (.ref a) H ∧ B) : tyV K "list" (.ref a) H ∧ B := h
theorem g_asq (h : (∃ x, SqL K H a x) ∧ B) : (∃ x, SqL K H a x) ∧ B := h
theorem g_lst (h : ∃ x, H a = some (.lst x) ∧ P x) : ∃ x, H a = some (.lst x) ∧ P x := h
theorem g_or (h : ∃ x, (SqL K H a x ∨ SqT K H a x) ∧ P x) : ∃ x, (SqL K H a x ∨ SqT K H a x) ∧ P x := h
theorem g_sq (h : ∃ x, SqL K H a x ∧ P x) : ∃ x, SqL K H a x ∧ P x := h
theorem g_sqt (h : ∃ x, SqT K H a x ∧ P x) : ∃ x, SqT K H a x ∧ P x := h
end
theorem cmul_r {i j : Int} (h1 : -18446744073709551616 < j) (h2 : j < 18446744073709551616) : CMul i j := .inr ⟨h1, h2⟩
theorem cmul_l {i j : Int} (h1 : -18446744073709551616 < i) (h2 : i < 18446744073709551616) : CMul i j := .inl ⟨h1, h2⟩
theorem cdiv_ok {i j : Int} (h1 : 0 < j) (h2 : j < 1073741824) : CDiv i j := ⟨h1, h2⟩
/-! comprehensions of ints over a range, nothing else made -/
def CP (D : Addr) (H1 : Hp) (y : V) (H4 : Hp) : Prop := ∃ acc, H4 D = some (.lst acc) ∧ acc.length < sizeLine ∧ upd H4 D (.lst (acc ++ [y])) = H1
def rngL (f : Nat → Int) (n : Nat) : List Int := (List.range n).map f
theorem rngL_len {f : Nat → Int} {n : Nat} : (rngL f n).length = n := by unfold rngL; rw [List.length_map, List.length_range]
theorem rngL_succ {f : Nat → Int} {n : Nat} : rngL f (n + 1) = rngL f n ++ [f n] := by
  unfold rngL
  rw [List.range_succ, List.map_append]
  rfl
theorem comp_rngY {te : TE} {σ : L2.St} {H : Hp} {lo : Int} {n : Nat} {g : TG} {vs : List Nat} {D : Addr} {Qd : Hp → Prop} (f : Nat → Int)
    (hs : ∀ i, i < n → g (.int (lo + i)) (wipe σ vs) (upd H D (.lst ((rngL f i).map V.int))) fun σ2 H2 => wipe σ2 vs = wipe σ vs ∧ te σ2 H2 (CP D (upd H D (.lst ((rngL f (i + 1)).map V.int)))))
    (hd : Qd (upd H D (.lst ((rngL f n).map V.int)))) : CompI (Itr lo n) g tYes te vs σ H D Qd := by
  refine comp_range (fun i H' => H' = upd H D (.lst ((rngL f i).map V.int))) rfl ?_ ?_
  · rintro i H' hi rfl
    exact hs i hi
  · rintro H' rfl
    exact hd
theorem cp {f : Nat → Int} {i : Nat} {D : Addr} {H : Hp} {y : V} (hn : i < 100000) (hy : y = .int (f i)) : CP D (upd H D (.lst ((rngL f (i + 1)).map V.int))) y (upd H D (.lst ((rngL f i).map V.int))) := by
  refine ⟨_, upd_same, ?_, ?_⟩
  · rw [List.length_map, rngL_len, sizeLine_eq]
    omega
  · rw [Bel.upd_upd, rngL_succ, List.map_append, hy]
    rfl
theorem wipe_nil {σ : L2.St} : wipe σ [] = σ := rfl
theorem wipe_cons {σ : L2.St} {v : Nat} {vs : List Nat} : wipe σ (v :: vs) = (wipe σ vs).set v none := rfl
theorem loop_rangeN {t : TS} {D : Ends} {σ : L2.St} {H : Hp} {lo : Int} {n m : Nat} {g : TG} (hn : n = m) (Pv : Nat → L2.St → Hp → Prop) (h0 : Pv 0 σ H)
    (hs : ∀ i σ H, i < m → Pv i σ H → g (.int (lo + i)) σ H fun σ2 H2 => t { D with nx := Pv (i + 1), ct := Pv (i + 1), bk := D.nx } σ2 H2) (hd : ∀ σ H, Pv m σ H → D.nx σ H) : LoopI (Itr lo n) g t D σ H := by
  subst hn
  exact loop_range Pv h0 hs hd
section
variable {K : PySem.W.Frag} {H : Hp} {x y : V} {Q : VK} {vs : List V}
theorem g_new {Pa : Addr → Prop} (h : ∀ p : Addr, H p = none → Pa p) : ∀ p : Addr, H p = none → Pa p := h
theorem g_ned (h : rNeD K x y H Q) : rNeD K x y H Q := h
theorem g_eqd (h : rEqD K x y H Q) : rEqD K x y H Q := h
theorem g_isi (h : rIsi K vs H Q) : rIsi K vs H Q := h
end
section
variable {t u : TS} {ta tb : TE} {tA tB' : TT} {D : Ends} {σ : L2.St} {H : Hp} {Q : VK} {QT : Bool → Hp → Prop} {p : Prop} {_ : Decidable p} {b : Bool}
theorem g_sel (h : Sel b t u D σ H) : Sel b t u D σ H := h
theorem g_selE (h : SelE b ta tb σ H Q) : SelE b ta tb σ H Q := h
theorem g_selT (h : SelT b tA tB' σ H QT) : SelT b tA tB' σ H QT := h
theorem sel_p (h : p) (q : t D σ H) : Sel (decide p) t u D σ H := by
  rw [decide_eq_true h]
  exact q
theorem sel_n (h : ¬ p) (q : u D σ H) : Sel (decide p) t u D σ H := by
  rw [decide_eq_false h]
  exact q
theorem selN_p (h : p) (q : u D σ H) : Sel (!decide p) t u D σ H := by
  rw [decide_eq_true h]
  exact q
theorem selN_n (h : ¬ p) (q : t D σ H) : Sel (!decide p) t u D σ H := by
  rw [decide_eq_false h]
  exact q
theorem selE_p (h : p) (q : ta σ H Q) : SelE (decide p) ta tb σ H Q := by
  rw [decide_eq_true h]
  exact q
theorem selE_n (h : ¬ p) (q : tb σ H Q) : SelE (decide p) ta tb σ H Q := by
  rw [decide_eq_false h]
  exact q
theorem selEN_p (h : p) (q : tb σ H Q) : SelE (!decide p) ta tb σ H Q := by
  rw [decide_eq_true h]
  exact q
theorem selEN_n (h : ¬ p) (q : ta σ H Q) : SelE (!decide p) ta tb σ H Q := by
  rw [decide_eq_false h]
  exact q
theorem selT_p (h : p) (q : tA σ H QT) : SelT (decide p) tA tB' σ H QT := by
  rw [decide_eq_true h]
  exact q
theorem selT_n (h : ¬ p) (q : tB' σ H QT) : SelT (decide p) tA tB' σ H QT := by
  rw [decide_eq_false h]
  exact q
theorem selTN_p (h : p) (q : tB' σ H QT) : SelT (!decide p) tA tB' σ H QT := by
  rw [decide_eq_true h]
  exact q
theorem selTN_n (h : ¬ p) (q : tA σ H QT) : SelT (!decide p) tA tB' σ H QT := by
  rw [decide_eq_false h]
  exact q
end
section
variable {t u : TS} {ta tb : TE} {tA tB' : TT} {D : Ends} {σ : L2.St} {H : Hp} {Q : VK} {QT : Bool → Hp → Prop} {p : Prop} {_ : Decidable p}
theorem gd_sel (h : Sel (decide p) t u D σ H) : Sel (decide p) t u D σ H := h
theorem gn_sel (h : Sel (!decide p) t u D σ H) : Sel (!decide p) t u D σ H := h
theorem gd_selE (h : SelE (decide p) ta tb σ H Q) : SelE (decide p) ta tb σ H Q := h
theorem gn_selE (h : SelE (!decide p) ta tb σ H Q) : SelE (!decide p) ta tb σ H Q := h
theorem gd_selT (h : SelT (decide p) tA tB' σ H QT) : SelT (decide p) tA tB' σ H QT := h
theorem gn_selT (h : SelT (!decide p) tA tB' σ H QT) : SelT (!decide p) tA tB' σ H QT := h
end
theorem ex_at {xs : List V} {i : Int} {v : V} {P : V → Prop} (h : atI xs i = some v) (q : P v) : ∃ x, atI xs i = some x ∧ P x := ⟨v, h, q⟩
theorem g_atI {xs : List V} {i : Int} {P : V → Prop} (h : ∃ x, atI xs i = some x ∧ P x) : ∃ x, atI xs i = some x ∧ P x := h
theorem ixN_ok {n : Nat} {i : Int} (h0 : 0 ≤ i) (h1 : i < n) : ixN n i = some i.toNat := by
  unfold ixN
  rw [if_pos h0, if_pos h1]
theorem set_ints {xs : List Int} {j : Nat} {v : Int} : (xs.map V.int).set j (.int v) = (xs.set j v).map V.int := (List.map_set ..).symm
theorem x_bits {te : TE} {σ : L2.St} {H : Hp} {Q : VK} : tBits te σ H Q = te σ H (fun x H1 => ∃ i, x = .int i ∧ Q (.int (Builtin.Int.intBits i : Nat)) H1) := rfl
theorem loop_tup {K : PySem.W.Frag} {t : TS} {D : Ends} {σ : L2.St} {H : Hp} {a : Addr} {xs : List V} {g : TG} (Pv : Nat → L2.St → Hp → Prop) (h0 : Pv 0 σ H) (hl : ∀ i σ H, i ≤ xs.length → Pv i σ H → SqT K H a xs)
    (hs : ∀ i x σ H, xs[i]? = some x → Pv i σ H → g x σ H fun σ2 H2 => t { D with nx := Pv (i + 1), ct := Pv (i + 1), bk := D.nx } σ2 H2) (hd : ∀ σ H, Pv xs.length σ H → D.nx σ H) : LoopI (Itt K a) g t D σ H := for_tup Pv h0 hl hs hd
/-! the number of bits -/
theorem bits_is {r k : Nat} (h1 : 2 ^ k ≤ r) (h2 : r < 2 ^ (k + 1)) : Builtin.Int.intBits (r : Int) = k + 1 := by
  have h0 : r ≠ 0 := by
    have := Nat.two_pow_pos k
    omega
  unfold Builtin.Int.intBits
  rw [if_neg (by simpa using h0), Int.natAbs_natCast]
  have a : k ≤ r.log2 := (Nat.le_log2 h0).mpr h1
  have b : r.log2 < k + 1 := (Nat.log2_lt h0).mpr h2
  omega
theorem bits_at {r : Nat} (h0 : r ≠ 0) : ∃ k, Builtin.Int.intBits (r : Int) = k + 1 ∧ 2 ^ k ≤ r ∧ r < 2 ^ (k + 1) := by
  refine ⟨r.log2, ?_, Nat.log2_self_le h0, Nat.lt_log2_self⟩
  exact bits_is (Nat.log2_self_le h0) Nat.lt_log2_self
/-! enumerate of a list: a new pair each turn -/
theorem x_ienum {K : PySem.W.Frag} {l : TA} {σ : L2.St} {H : Hp} {R : It → Hp → Prop} : iEnum K l σ H R = l σ H (fun vs H1 => ∃ (a : Addr) (xs : List V), vs = [.ref a] ∧ SqL K H1 a xs ∧ R (Ite K a) H1) := rfl
theorem loop_enum {K : PySem.W.Frag} {t : TS} {D : Ends} {σ : L2.St} {H : Hp} {a : Addr} {xs : List V} {g : TG} (Pv : Nat → L2.St → Hp → Prop) (h0 : Pv 0 σ H) (hl : ∀ i σ H, i ≤ xs.length → Pv i σ H → SqL K H a xs)
    (hs : ∀ i x σ H T, xs[i]? = some x → Pv i σ H → H T = none → g (.ref T) σ (upd H T (.tup [.int (i : Nat), x])) fun σ2 H2 => t { D with nx := Pv (i + 1), ct := Pv (i + 1), bk := D.nx } σ2 H2) (hd : ∀ σ H, Pv xs.length σ H → D.nx σ H) : LoopI (Ite K a) g t D σ H := by
  refine ⟨fun i left σ H => left = xs.length - i ∧ i ≤ xs.length ∧ Pv i σ H, ⟨xs.length, by omega, by omega, h0⟩, ?_⟩
  rintro i left σ H ⟨rfl, hi, p⟩
  have q := hl i σ H hi p
  by_cases hlt : i < xs.length
  · refine .inr ⟨⟨xs, xs[i], q, List.getElem?_eq_getElem hlt⟩, Pv (i + 1), fun σ' H' p' => ⟨xs.length - (i + 1), by omega, rfl, hlt, p'⟩, fun x H' y => ?_⟩
    obtain ⟨T, x2, e1, hT, e2, y⟩ := y
    subst e1; subst e2
    exact hs i x2 σ H T (y xs q) p hT
  · obtain rfl : i = xs.length := Nat.le_antisymm hi (by omega)
    exact .inl ⟨⟨xs, q, Nat.le_refl _⟩, hd σ H p⟩
/-- an empty tuple of the program -/
def etB (K : PySem.W.Frag) (p : Addr) : Bool := match K.lookup p with
  | some ⟨.type c, _, .seq its _, _⟩ => decide (c = "tuple") && its.isEmpty
  | _ => false
theorem etB_ok {K : PySem.W.Frag} {p : Addr} (h : etB K p = true) (H : Hp) : SqT K H p [] := by
  unfold etB at h
  split at h
  · rename_i c od its n osl q
    simp only [Bool.and_eq_true, decide_eq_true_eq, Array.isEmpty_iff] at h
    obtain ⟨rfl, rfl⟩ := h
    exact .inr ⟨_, _, n, q, rfl, rfl, Nat.zero_le _, .nil⟩
  · cases h
/-! lists of tuples of ints -/
inductive TkAll (H : Hp) : List V → List (List Int) → Prop
  | nil : TkAll H [] []
  | cons {r : Addr} {t : List Int} {vs : List V} {ts : List (List Int)} : H r = some (.tup (t.map V.int)) → TkAll H vs ts → TkAll H (.ref r :: vs) (t :: ts)
namespace TkAll
variable {H G : Hp} {vs us : List V} {ts ws : List (List Int)}
theorem len (h : TkAll H vs ts) : vs.length = ts.length := by
  induction h with
  | nil => rfl
  | cons _ _ ih => exact congrArg (· + 1) ih
theorem same (h : TkAll H vs ts) (s : Same H G) : TkAll G vs ts := by
  induction h with
  | nil => exact .nil
  | cons e _ ih => exact .cons (s _ _ e) ih
theorem put {m : Addr} {l : List V} {o : HO} (h : TkAll H vs ts) (hm : H m = some (.lst l)) : TkAll (upd H m o) vs ts := by
  induction h with
  | nil => exact .nil
  | cons e _ ih =>
    refine .cons ?_ ih
    rw [upd_ne ?_]
    · exact e
    · intro z
      rw [z, hm] at e
      cases e
theorem append (h : TkAll H vs ts) (g : TkAll H us ws) : TkAll H (vs ++ us) (ts ++ ws) := by
  induction h with
  | nil => exact g
  | cons e _ ih => exact .cons e ih
theorem take (h : TkAll H vs ts) (n : Nat) : TkAll H (vs.take n) (ts.take n) := by
  induction h generalizing n with
  | nil =>
    rw [List.take_nil, List.take_nil]
    exact .nil
  | cons e _ ih =>
    cases n with
    | zero => exact .nil
    | succ n => exact .cons e (ih n)
theorem drop (h : TkAll H vs ts) (n : Nat) : TkAll H (vs.drop n) (ts.drop n) := by
  induction h generalizing n with
  | nil =>
    rw [List.drop_nil, List.drop_nil]
    exact .nil
  | cons e g ih =>
    cases n with
    | zero => exact .cons e g
    | succ n => exact ih n
theorem get (h : TkAll H vs ts) {i : Nat} {x : V} (hx : vs[i]? = some x) : ∃ r t, x = .ref r ∧ ts[i]? = some t ∧ H r = some (.tup (t.map V.int)) := by
  induction h generalizing i with
  | nil => cases hx
  | cons e _ ih =>
    cases i with
    | zero =>
      cases hx
      exact ⟨_, _, rfl, rfl, e⟩
    | succ i => exact ih hx
theorem dp {K : PySem.W.Frag} (h : TkAll H vs ts) : DpAll K H vs (ts.map fun t => .tuple (t.map PyData.int)) := by
  induction h with
  | nil => exact .nil
  | cons e _ ih => exact .cons (.tup (SqT.of e) (dpAll_ints _)) ih
end TkAll
theorem plainAl_toks : ∀ ts : List (List Int), plainAl (ts.map fun t => .tuple (t.map PyData.int)) = true
  | [] => by simp [plainAl]
  | t :: r => by simp [plainAl, plain, plainAl_toks r, plainAl_ints t]
theorem depthAll_toks : ∀ ts : List (List Int), PyData.depthAll (ts.map fun t => .tuple (t.map PyData.int)) ≤ 2
  | [] => by simp [PyData.depthAll]
  | t :: r => by
    have := depthAll_toks r
    have := depthAll_ints' t
    simp only [List.map_cons, PyData.depthAll, PyData.depth]
    omega
theorem dq_toks {K : PySem.W.Frag} {H : Hp} {a : Addr} {vs : List V} {ts : List (List Int)} (h : SqL K H a vs) (g : TkAll H vs ts) : Dq K H (.ref a) (.list (ts.map fun t => .tuple (t.map PyData.int))) := ⟨.lst h g.dp, by simp only [plain]; exact plainAl_toks ts, by
  have := depthAll_toks ts
  simp only [PyData.depth]
  omega⟩
/-! xs[i] op= e, i from the front -/
def rGetL (K : PySem.W.Frag) : V → V → Hp → VK → Prop := fun a b H Q => ∃ (p : Addr) (xs : List V) (i : Int) (v : V), a = .ref p ∧ b = .int i ∧ SqL K H p xs ∧ 0 ≤ i ∧ atI xs i = some v ∧ Q v H
theorem x_getL {K : PySem.W.Frag} {a b : V} {H : Hp} {Q : VK} : rGetL K a b H Q = ∃ (p : Addr) (xs : List V) (i : Int) (v : V), a = .ref p ∧ b = .int i ∧ SqL K H p xs ∧ 0 ≤ i ∧ atI xs i = some v ∧ Q v H := rfl
theorem getL {X : Cx} (K : PySem.W.Frag) (e : X.K = K := by rfl) : PGet X (rGetL K) := by
  subst e
  intro pins s σ H o i ov iv Q I ro ri h
  obtain ⟨p, xs, k, z, rfl, rfl, hq, h0, he, q⟩ := h
  cases ro
  obtain ⟨t, rfl⟩ := ri
  obtain ⟨its, r, pl, hz⟩ := I.list hq
  obtain ⟨j, g1, g2, g3, g4, g5⟩ := atI_get he
  obtain ⟨w, ew, rw'⟩ := r.get g2
  have hn := line63
  have hj : k.toNat = j := by
    rw [seqIndex_of h0 g5] at g1
    exact Option.some.inj g1
  exact PySem.wpAny_getItem_list pl.isList h0 (by omega) (by rw [hj]; simpa using ew) ⟨z, H, I, rw', q⟩
theorem x_augS {to ti te : TE} {tget : V → V → Hp → VK → Prop} {tip : TIp} {tset : TSet} {D : Ends} {σ : L2.St} {H : Hp} : tAugS to ti te tget tip tset D σ H = to σ H (fun o H1 => ti σ H1 (fun i H2 => tget o i H2 (fun x H3 => te σ H3 (fun y H4 => tip x y H4 (fun z H5 => tset o i z H5 (fun H6 => D.nx σ H6)))))) := rfl
/-! replicated, pairs of lists -/
theorem rep_one {n : Nat} {x : Int} : (List.replicate n [V.int x]).flatten = (List.replicate n x).map V.int := by
  rw [List.map_replicate]
  induction n with
  | zero => rfl
  | succ n ih =>
    rw [List.replicate_succ, List.replicate_succ, List.flatten_cons, ih]
    rfl
theorem dq_pair {K : PySem.W.Frag} {H : Hp} {q a b : Addr} {xs ys : List Int} (hq : SqT K H q [.ref a, .ref b]) (ha : SqL K H a (xs.map V.int)) (hb : SqL K H b (ys.map V.int)) : Dq K H (.ref q) (.tuple [.list (xs.map PyData.int), .list (ys.map PyData.int)]) :=
  ⟨.tup hq (.cons (.lst ha (dpAll_ints xs)) (.cons (.lst hb (dpAll_ints ys)) .nil)), by simp [plain, plainAl, plainAl_ints], by
    have := depthAll_ints' xs
    have := depthAll_ints' ys
    simp only [PyData.depth, PyData.depthAll]
    omega⟩
/-! comprehensions of ints over a list of ints, nothing else made -/
theorem take_map_snoc {xs : List Int} {f : Int → Int} {i : Nat} {x : Int} (h : xs[i]? = some x) : (xs.take (i + 1)).map f = (xs.take i).map f ++ [f x] := by
  rw [List.take_add_one, h, List.map_append]
  rfl
theorem comp_intY {K : PySem.W.Frag} {te : TE} {σ : L2.St} {H : Hp} {a : Addr} {xs : List Int} {g : TG} {vs : List Nat} {D : Addr} {Qd : Hp → Prop} (f : Int → Int) (hS : SqL K H a (xs.map V.int)) (hD : H D = none)
    (hs : ∀ i x, xs[i]? = some x → g (.int x) (wipe σ vs) (upd H D (.lst (((xs.take i).map f).map V.int))) fun σ2 H2 => wipe σ2 vs = wipe σ vs ∧ te σ2 H2 (CP D (upd H D (.lst (((xs.take (i + 1)).map f).map V.int)))))
    (hd : Qd (upd H D (.lst ((xs.map f).map V.int)))) : CompI (Itl K a) g tYes te vs σ H D Qd := by
  refine comp_list (xs := xs.map V.int) (fun i H' => H' = upd H D (.lst (((xs.take i).map f).map V.int))) rfl ?_ ?_ ?_
  · rintro i H' _ rfl
    exact (same_upd hD).seq hS
  · rintro i x H' hx rfl
    obtain ⟨z, hz, rfl⟩ := int_at hx
    exact hs i z hz
  · rintro H' rfl
    rw [List.length_map, List.take_length]
    exact hd
theorem cpi {xs : List Int} {f : Int → Int} {i : Nat} {x : Int} {D : Addr} {H : Hp} {y : V} (hx : xs[i]? = some x) (hn : xs.length < 100000) (hy : y = .int (f x)) : CP D (upd H D (.lst (((xs.take (i + 1)).map f).map V.int))) y (upd H D (.lst (((xs.take i).map f).map V.int))) := by
  refine ⟨_, upd_same, ?_, ?_⟩
  · rw [List.length_map, List.length_map, List.length_take, sizeLine_eq]
    omega
  · rw [Bel.upd_upd, take_map_snoc hx, List.map_append, hy]
    rfl
end Bel

namespace Bel
open PySem PySem.Spec PyProof.Rows L2
/-! ### data that never changes: ints, texts, tuples of such -/
mutual
inductive Imm (K : PySem.W.Frag) (H : Hp) : V → PyData → Prop
  | non : Imm K H .non .none
  | bl (b : Bool) : Imm K H (.bl b) (.bool b)
  | int (i : Int) : Imm K H (.int i) (.int i)
  | str (x : Str) : Imm K H (.str x) (.str x)
  | tup {a : Addr} {xs : List V} {ds : List PyData} : SqT K H a xs → ImmL K H xs ds → Imm K H (.ref a) (.tuple ds)
inductive ImmL (K : PySem.W.Frag) (H : Hp) : List V → List PyData → Prop
  | nil : ImmL K H [] []
  | cons {v : V} {vs : List V} {d : PyData} {ds : List PyData} : Imm K H v d → ImmL K H vs ds → ImmL K H (v :: vs) (d :: ds)
end
mutual
theorem Imm.mono {K : PySem.W.Frag} {H H' : Hp} (st : ∀ a xs, SqT K H a xs → SqT K H' a xs) : ∀ {v : V} {d : PyData}, Imm K H v d → Imm K H' v d
  | _, _, .non => .non
  | _, _, .bl b => .bl b
  | _, _, .int i => .int i
  | _, _, .str x => .str x
  | _, _, .tup h g => .tup (st _ _ h) (ImmL.mono st g)
theorem ImmL.mono {K : PySem.W.Frag} {H H' : Hp} (st : ∀ a xs, SqT K H a xs → SqT K H' a xs) : ∀ {vs : List V} {ds : List PyData}, ImmL K H vs ds → ImmL K H' vs ds
  | _, _, .nil => .nil
  | _, _, .cons h g => .cons (Imm.mono st h) (ImmL.mono st g)
end
mutual
theorem Imm.dp {K : PySem.W.Frag} {H : Hp} : ∀ {v : V} {d : PyData}, Imm K H v d → Dp K H v d
  | _, _, .non => .non
  | _, _, .bl b => .bl b
  | _, _, .int i => .int i
  | _, _, .str x => .str x
  | _, _, .tup h g => .tup h (ImmL.dp g)
theorem ImmL.dp {K : PySem.W.Frag} {H : Hp} : ∀ {vs : List V} {ds : List PyData}, ImmL K H vs ds → DpAll K H vs ds
  | _, _, .nil => .nil
  | _, _, .cons h g => .cons (Imm.dp h) (ImmL.dp g)
end
namespace ImmL
variable {K : PySem.W.Frag} {H : Hp} {vs us : List V} {ds es : List PyData}
theorem len : ∀ {vs : List V} {ds : List PyData}, ImmL K H vs ds → vs.length = ds.length
  | _, _, .nil => rfl
  | _, _, .cons _ g => congrArg (· + 1) (len g)
theorem append : ∀ {vs : List V} {ds : List PyData}, ImmL K H vs ds → ImmL K H us es → ImmL K H (vs ++ us) (ds ++ es)
  | _, _, .nil, g => g
  | _, _, .cons h k, g => .cons h (append k g)
theorem one {x : V} {d : PyData} (h : Imm K H x d) : ImmL K H [x] [d] := .cons h .nil
theorem snoc {x : V} {d : PyData} (g : ImmL K H vs ds) (h : Imm K H x d) : ImmL K H (vs ++ [x]) (ds ++ [d]) := g.append (.one h)
theorem get : ∀ {vs : List V} {ds : List PyData} {i : Nat} {x : V}, ImmL K H vs ds → vs[i]? = some x → ∃ d, ds[i]? = some d ∧ Imm K H x d
  | _, _, _, _, .nil, e => by cases e
  | _, _, 0, _, .cons h _, e => by
    cases e
    exact ⟨_, rfl, h⟩
  | _, _, i + 1, _, .cons _ g, e => get (i := i) g e
theorem at_ : ∀ {vs : List V} {ds : List PyData} {i : Nat} {d : PyData}, ImmL K H vs ds → ds[i]? = some d → ∃ x, vs[i]? = some x ∧ Imm K H x d
  | _, _, _, _, .nil, e => by cases e
  | _, _, 0, _, .cons h _, e => by
    cases e
    exact ⟨_, rfl, h⟩
  | _, _, i + 1, _, .cons _ g, e => at_ (i := i) g e
theorem take : ∀ {vs : List V} {ds : List PyData} (n : Nat), ImmL K H vs ds → ImmL K H (vs.take n) (ds.take n)
  | _, _, n, .nil => by
    rw [List.take_nil, List.take_nil]
    exact .nil
  | _, _, 0, .cons _ _ => .nil
  | _, _, n + 1, .cons h g => .cons h (take n g)
theorem drop : ∀ {vs : List V} {ds : List PyData} (n : Nat), ImmL K H vs ds → ImmL K H (vs.drop n) (ds.drop n)
  | _, _, n, .nil => by
    rw [List.drop_nil, List.drop_nil]
    exact .nil
  | _, _, 0, .cons h g => .cons h g
  | _, _, n + 1, .cons _ g => drop n g
theorem of_is : ∀ ns : List Int, ImmL K H (ns.map V.int) (ns.map PyData.int)
  | [] => .nil
  | n :: r => .cons (.int n) (of_is r)
theorem of_ints : ∀ {ns : List Int} {vs : List V}, ImmL K H vs (ns.map PyData.int) → vs = ns.map V.int
  | [], _, .nil => rfl
  | _ :: _, _, .cons (.int _) g => by rw [of_ints g]; rfl
theorem rev : ∀ {vs : List V} {ds : List PyData}, ImmL K H vs ds → ImmL K H vs.reverse ds.reverse
  | _, _, .nil => .nil
  | _, _, .cons h g => by
    rw [List.reverse_cons, List.reverse_cons]
    exact (rev g).snoc h
theorem set : ∀ {vs : List V} {ds : List PyData} {x : V} {d : PyData} (i : Nat), Imm K H x d → ImmL K H vs ds → ImmL K H (vs.set i x) (ds.set i d)
  | _, _, _, _, _, _, .nil => .nil
  | _, _, _, _, 0, h, .cons _ g => .cons h g
  | _, _, _, _, i + 1, h, .cons k g => .cons k (set i h g)
end ImmL
theorem Imm.of_int {K : PySem.W.Frag} {H : Hp} {v : V} {i : Int} (h : Imm K H v (.int i)) : v = .int i := by
  cases h
  rfl
theorem Imm.of_str {K : PySem.W.Frag} {H : Hp} {v : V} {x : Str} (h : Imm K H v (.str x)) : v = .str x := by
  cases h
  rfl
theorem Imm.of_tup {K : PySem.W.Frag} {H : Hp} {v : V} {ds : List PyData} (h : Imm K H v (.tuple ds)) : ∃ a xs, v = .ref a ∧ SqT K H a xs ∧ ImmL K H xs ds := by
  cases h with
  | tup h g => exact ⟨_, _, rfl, h, g⟩
theorem Imm.of_ints {K : PySem.W.Frag} {H : Hp} {v : V} {ns : List Int} (h : Imm K H v (.tuple (ns.map PyData.int))) : ∃ a, v = .ref a ∧ SqT K H a (ns.map V.int) := by
  cases h with
  | tup h g => exact ⟨_, rfl, ImmL.of_ints g ▸ h⟩
/-- a tuple of ints -/
abbrev tI (ns : List Int) : PyData := .tuple (ns.map PyData.int)
theorem Imm.of_is {K : PySem.W.Frag} {H : Hp} {a : Addr} {ns : List Int} (h : SqT K H a (ns.map V.int)) : Imm K H (.ref a) (tI ns) := .tup h (ImmL.of_is ns)
/-! ### what is owned -/
inductive As where
  | pt (a : Addr) (o : HO)
  | im (v : V) (d : PyData)
  | ims (vs : List V) (ds : List PyData)
  | objs (ps : List (Addr × HO))
def As.holds (K : PySem.W.Frag) (B H : Hp) : As → Prop
  | .pt a o => H a = some o ∧ B a = none
  | .im v d => Imm K H v d
  | .ims vs ds => ImmL K H vs ds
  | .objs ps => ∀ q ∈ ps, H q.1 = some q.2 ∧ B q.1 = none
/-- addresses -/
def As.ad : As → List Addr
  | .pt a _ => [a]
  | .objs ps => ps.map Prod.fst
  | _ => []
def ads (l : List As) : List Addr := l.flatMap As.ad
structure Own (K : PySem.W.Frag) (B H : Hp) (l : List As) : Prop where
  same : Same B H
  nd : (ads l).Nodup
  all : ∀ x ∈ l, x.holds K B H
/-- may be changed -/
def mutb : HO → Bool
  | .tup _ => false
  | .frz _ _ => false
  | _ => true
theorem sqT_upd {K : PySem.W.Frag} {H : Hp} {a b : Addr} {o o' : HO} {xs : List V} (h : H b = some o) (m : mutb o = true) (g : SqT K H a xs) : SqT K (upd H b o') a xs := by
  rcases g with (g | ⟨u, g⟩) | g
  · refine .inl (.inl ?_)
    rw [upd_ne ?_]
    · exact g
    · rintro rfl
      rw [g] at h
      cases h
      cases m
  · refine .inl (.inr ⟨u, ?_⟩)
    rw [upd_ne ?_]
    · exact g
    · rintro rfl
      rw [g] at h
      cases h
      cases m
  · exact .inr g
inductive Put : List As → Addr → HO → HO → List As → Prop
  | here {l : List As} {a : Addr} {o o' : HO} : Put (.pt a o :: l) a o o' (.pt a o' :: l)
  | there {l l' : List As} {x : As} {a : Addr} {o o' : HO} : Put l a o o' l' → Put (x :: l) a o o' (x :: l')
theorem Put.mem {l l' : List As} {a : Addr} {o o' : HO} (p : Put l a o o' l') : As.pt a o ∈ l := by
  induction p with
  | here => exact .head _
  | there _ ih => exact .tail _ ih
theorem Put.ads {l l' : List As} {a : Addr} {o o' : HO} (p : Put l a o o' l') : ads l' = ads l := by
  induction p with
  | here => rfl
  | there _ ih =>
    unfold Bel.ads at ih ⊢
    rw [List.flatMap_cons, List.flatMap_cons, ih]
theorem mem_ads {l : List As} {a : Addr} {o : HO} (h : As.pt a o ∈ l) : a ∈ ads l := List.mem_flatMap.mpr ⟨_, h, List.mem_singleton.mpr rfl⟩
theorem Put.old {l l' : List As} {a : Addr} {o o' : HO} (p : Put l a o o' l') (nd : (Bel.ads l).Nodup) : ∀ x ∈ l', x = .pt a o' ∨ (x ∈ l ∧ a ∉ x.ad) := by
  induction p with
  | @here l a o o' =>
    intro x hx
    rcases List.mem_cons.mp hx with e | h
    · exact .inl e
    · refine .inr ⟨.tail _ h, fun z => ?_⟩
      unfold Bel.ads at nd
      rw [List.flatMap_cons] at nd
      exact (List.nodup_append.mp nd).2.2 a (List.mem_singleton.mpr rfl) a (List.mem_flatMap.mpr ⟨x, h, z⟩) rfl
  | @there l l' y a o o' q ih =>
    intro x hx
    unfold Bel.ads at nd
    rw [List.flatMap_cons] at nd
    have nd2 := List.nodup_append.mp nd
    rcases List.mem_cons.mp hx with e | h
    · subst e
      refine .inr ⟨.head _, fun z => ?_⟩
      exact nd2.2.2 a z a (mem_ads q.mem) rfl
    · rcases ih nd2.2.1 x h with e | ⟨g, z⟩
      · exact .inl e
      · exact .inr ⟨.tail _ g, z⟩
theorem ads_sub {l l' : List As} (s : l'.Sublist l) : (ads l').Sublist (ads l) := by
  unfold ads
  induction s with
  | slnil => exact List.Sublist.refl _
  | cons y _ ih =>
    rw [List.flatMap_cons]
    exact ih.trans (List.sublist_append_right _ _)
  | cons_cons y _ ih =>
    rw [List.flatMap_cons, List.flatMap_cons]
    exact (List.Sublist.refl _).append ih
namespace Own
variable {K : PySem.W.Frag} {B H H' : Hp} {l l' : List As} {a : Addr} {o o' : HO}
theorem start : Own K H H [] := ⟨Same.refl H, List.nodup_nil, fun _ h => nomatch h⟩
theorem get (L : Own K B H l) (m : As.pt a o ∈ l) : H a = some o := (L.all _ m).1
theorem fresh (L : Own K B H l) (m : As.pt a o ∈ l) : B a = none := (L.all _ m).2
theorem imm (L : Own K B H l) {v : V} {d : PyData} (m : As.im v d ∈ l) : Imm K H v d := L.all _ m
theorem imms (L : Own K B H l) {vs : List V} {ds : List PyData} (m : As.ims vs ds ∈ l) : ImmL K H vs ds := L.all _ m
theorem sq (L : Own K B H l) {xs : List V} (h : SqL K B a xs) : SqL K H a xs := L.same.seq h
theorem sqT (L : Own K B H l) {xs : List V} (h : SqT K B a xs) : SqT K H a xs := Same.seqT L.same h
theorem base (L : Own K B H l) {o : HO} (h : B a = some o) : H a = some o := L.same _ _ h
theorem holds_same {x : As} (s : Same H H') (h : x.holds K B H) : x.holds K B H' := by
  cases x with
  | pt a o => exact ⟨s _ _ h.1, h.2⟩
  | im v d => exact Imm.mono (fun _ _ g => Same.seqT s g) h
  | ims v d => exact ImmL.mono (fun _ _ g => Same.seqT s g) h
  | objs ps => exact fun q m => ⟨s _ _ (h q m).1, (h q m).2⟩
theorem call (L : Own K B H l) (s : Same H H') : Own K B H' l := ⟨L.same.trans s, L.nd, fun x hx => holds_same s (L.all x hx)⟩
theorem add0 (L : Own K B H l) {H1 : Hp} {p : Addr} {o : HO} (s : Same H H1) (hp : H p = none) (hl : H1 p = some o) : Own K B H1 (.pt p o :: l) := by
  refine ⟨L.same.trans s, ?_, fun x hx => ?_⟩
  · refine List.nodup_append.mpr ⟨List.nodup_cons.mpr ⟨List.not_mem_nil, List.nodup_nil⟩, L.nd, fun b hb c hc e => ?_⟩
    obtain rfl := List.mem_singleton.mp hb
    subst e
    obtain ⟨x, hx, hb⟩ := List.mem_flatMap.mp hc
    cases x with
    | pt a o =>
      obtain rfl := List.mem_singleton.mp hb
      have := (L.all _ hx).1
      rw [hp] at this
      cases this
    | im _ _ => cases hb
    | ims _ _ => cases hb
    | objs ps =>
      obtain ⟨q, m, e⟩ := List.mem_map.mp hb
      have := (L.all _ hx q m).1
      rw [e, hp] at this
      cases this
  · rcases List.mem_cons.mp hx with e | h
    · rw [e]
      exact ⟨hl, L.same.free hp⟩
    · exact holds_same s (L.all x h)
theorem add (L : Own K B H l) {y : As} (h : y.holds K B H) (n : ∀ b ∈ y.ad, b ∉ ads l) (nob : ∀ ps, y = .objs ps → (ps.map Prod.fst).Nodup := by intro _ h; cases h) : Own K B H (y :: l) := by
  refine ⟨L.same, ?_, fun x hx => ?_⟩
  · unfold ads
    rw [List.flatMap_cons]
    refine List.nodup_append.mpr ⟨?_, L.nd, fun b hb c hc e => n b hb (e ▸ hc)⟩
    cases y with
    | pt a o => exact List.nodup_cons.mpr ⟨List.not_mem_nil, List.nodup_nil⟩
    | im _ _ => exact List.nodup_nil
    | ims _ _ => exact List.nodup_nil
    | objs ps => exact nob ps rfl
  · rcases List.mem_cons.mp hx with e | h'
    · rw [e]
      exact h
    · exact L.all x h'
theorem addIm (L : Own K B H l) {v : V} {d : PyData} (h : Imm K H v d) : Own K B H (.im v d :: l) := L.add h (fun _ h => nomatch h)
theorem addIms (L : Own K B H l) {vs : List V} {ds : List PyData} (h : ImmL K H vs ds) : Own K B H (.ims vs ds :: l) := L.add h (fun _ h => nomatch h)
theorem ad_some (L : Own K B H l) {b : Addr} (h : b ∈ ads l) : ∃ o, H b = some o := by
  obtain ⟨x, hx, hb⟩ := List.mem_flatMap.mp h
  cases x with
  | pt a o =>
    rw [List.mem_singleton.mp hb]
    exact ⟨o, (L.all _ hx).1⟩
  | im _ _ => cases hb
  | ims _ _ => cases hb
  | objs ps =>
    obtain ⟨q, m, e⟩ := List.mem_map.mp hb
    rw [← e]
    exact ⟨q.2, (L.all _ hx q m).1⟩
theorem ad_fresh (L : Own K B H l) {b : Addr} (h : b ∈ ads l) : B b = none := by
  obtain ⟨x, hx, hb⟩ := List.mem_flatMap.mp h
  cases x with
  | pt a o =>
    rw [List.mem_singleton.mp hb]
    exact (L.all _ hx).2
  | im _ _ => cases hb
  | ims _ _ => cases hb
  | objs ps =>
    obtain ⟨q, m, e⟩ := List.mem_map.mp hb
    rw [← e]
    exact (L.all _ hx q m).2
/-- a call that made what l' says -/
theorem calls (L : Own K B H l) (M : Own K H H' l') : Own K B H' (l' ++ l) := by
  refine ⟨L.same.trans M.same, ?_, fun x hx => ?_⟩
  · unfold ads
    rw [List.flatMap_append]
    refine List.nodup_append.mpr ⟨M.nd, L.nd, fun b hb c hc e => ?_⟩
    obtain ⟨o, h⟩ := L.ad_some (e ▸ hc : b ∈ ads l)
    rw [M.ad_fresh hb] at h
    cases h
  · rcases List.mem_append.mp hx with h | h
    · have := M.all x h
      cases x with
      | pt a o => exact ⟨this.1, L.same.free this.2⟩
      | im _ _ => exact this
      | ims _ _ => exact this
      | objs ps => exact fun q m => ⟨(this q m).1, L.same.free (this q m).2⟩
    · exact holds_same M.same (L.all x h)
theorem c0 (L : Own K B H l) (M : Own K H H' []) : Own K B H' l := L.calls M
theorem c1 {x : As} (L : Own K B H l) (M : Own K H H' [x]) : Own K B H' (x :: l) := L.calls M
theorem c2 {x y : As} (L : Own K B H l) (M : Own K H H' [x, y]) : Own K B H' (x :: y :: l) := L.calls M
theorem c3 {x y z : As} (L : Own K B H l) (M : Own K H H' [x, y, z]) : Own K B H' (x :: y :: z :: l) := L.calls M
theorem new (L : Own K B H l) {p : Addr} (h : H p = none) (o : HO) : Own K B (upd H p o) (.pt p o :: l) := by
  refine (L.call (same_upd h)).add ⟨upd_same, L.same.free h⟩ fun b hb hn => ?_
  obtain rfl := List.mem_singleton.mp hb
  obtain ⟨u, e⟩ := L.ad_some hn
  rw [h] at e
  cases e
theorem put (L : Own K B H l) (m : mutb o = true) (p : Put l a o o' l') : Own K B (upd H a o') l' := by
  have ha := L.get p.mem
  have hB := L.fresh p.mem
  refine ⟨same_put L.same hB, p.ads ▸ L.nd, fun x hx => ?_⟩
  rcases p.old L.nd x hx with e | ⟨h, n⟩
  · subst e
    exact ⟨upd_same, hB⟩
  · have q := L.all x h
    cases x with
    | pt b u =>
      refine ⟨?_, q.2⟩
      rw [upd_ne fun e => n (List.mem_singleton.mpr e.symm)]
      exact q.1
    | im _ _ => exact Imm.mono (fun _ _ g => sqT_upd ha m g) q
    | ims _ _ => exact ImmL.mono (fun _ _ g => sqT_upd ha m g) q
    | objs ps =>
      refine fun r hr => ⟨?_, (q r hr).2⟩
      rw [upd_ne fun e => n (by rw [← e]; exact List.mem_map.mpr ⟨r, hr, rfl⟩)]
      exact (q r hr).1
theorem drop1 {x : As} (L : Own K B H (x :: l)) : Own K B H l := by
  refine ⟨L.same, ?_, fun y hy => L.all y (.tail _ hy)⟩
  have := L.nd
  unfold ads at this
  rw [List.flatMap_cons] at this
  exact (List.nodup_append.mp this).2.1
theorem sub (L : Own K B H l) (s : l'.Sublist l) : Own K B H l' := by
  refine ⟨L.same, ?_, fun y hy => L.all y (s.subset hy)⟩
  exact List.Nodup.sublist (ads_sub s) L.nd
theorem perm (L : Own K B H l) (s : l.Perm l') : Own K B H l' := ⟨L.same, (s.flatMap_right _).nodup_iff.mp L.nd, fun x hx => L.all x (s.mem_iff.mpr hx)⟩
theorem rebase {B' : Hp} (L : Own K B H l) (s : Same B' B) : Own K B' H l := by
  refine ⟨s.trans L.same, L.nd, fun x hx => ?_⟩
  have q := L.all x hx
  cases x with
  | pt a o => exact ⟨q.1, s.free q.2⟩
  | im _ _ => exact q
  | ims _ _ => exact q
  | objs ps => exact fun r hr => ⟨(q r hr).1, s.free (q r hr).2⟩
end Own
/-! ### without some cells: what a call may change -/
def delL (H : Hp) (as : List Addr) : Hp := fun b => if b ∈ as then none else H b
theorem delL_in {H : Hp} {as : List Addr} {b : Addr} (h : b ∈ as) : delL H as b = none := if_pos h
theorem delL_out {H : Hp} {as : List Addr} {b : Addr} (h : b ∉ as) : delL H as b = H b := if_neg h
/-- taken out of l: the cells of l1; what stays: l0 -/
theorem Own.muts {K : PySem.W.Frag} {B H H' : Hp} {l1 l0 l' : List As} (L : Own K B H (l1 ++ l0)) (m : ∀ a o, As.pt a o ∈ l1 → mutb o = true) (M : Own K (delL H (ads l1)) H' l') (mo : ∀ ps, As.objs ps ∈ l1 → ∀ q ∈ ps, mutb q.2 = true := by intro ps h; exact absurd h (by simp)) : Own K B H' (l' ++ l0) := by
  have nd := L.nd
  unfold ads at nd
  rw [List.flatMap_append] at nd
  have nd := List.nodup_append.mp nd
  have key : ∀ b o, H b = some o → b ∉ ads l1 → H' b = some o := fun b o h n => M.same b o ((delL_out n).trans h)
  have hB : Same B H' := fun b o h => by
    refine key b o (L.same b o h) fun z => ?_
    have : B b = none := L.ad_fresh (by unfold ads; rw [List.flatMap_append]; exact List.mem_append_left _ z)
    rw [h] at this
    cases this
  have hT : ∀ a xs, SqT K H a xs → SqT K H' a xs := by
    intro a xs g
    have no : ∀ o, H a = some o → mutb o = false → a ∉ ads l1 := fun o h e z => by
      obtain ⟨x, hx, hb⟩ := List.mem_flatMap.mp z
      cases x with
      | pt b u =>
        obtain rfl := List.mem_singleton.mp hb
        have := L.get (List.mem_append_left _ hx)
        rw [h] at this
        cases this
        rw [m _ _ hx] at e
        cases e
      | im _ _ => cases hb
      | ims _ _ => cases hb
      | objs ps =>
        obtain ⟨q, mq, eq⟩ := List.mem_map.mp hb
        have := (L.all _ (List.mem_append_left _ hx) q mq).1
        rw [eq, h] at this
        cases this
        rw [mo ps hx q mq] at e
        cases e
    rcases g with (g | ⟨u, g⟩) | g
    · exact .inl (.inl (key _ _ g (no _ g rfl)))
    · exact .inl (.inr ⟨u, key _ _ g (no _ g rfl)⟩)
    · exact .inr g
  refine ⟨hB, ?_, fun x hx => ?_⟩
  · unfold ads
    rw [List.flatMap_append]
    refine List.nodup_append.mpr ⟨M.nd, nd.2.1, fun b hb c hc e => ?_⟩
    subst e
    obtain ⟨o, h⟩ := L.ad_some (b := b) (by unfold ads; rw [List.flatMap_append]; exact List.mem_append_right _ hc)
    have f := M.ad_fresh hb
    by_cases z : b ∈ ads l1
    · exact nd.2.2 b z b hc rfl
    · rw [delL_out z, h] at f
      cases f
  · rcases List.mem_append.mp hx with h | h
    · have q := M.all x h
      cases x with
      | pt a o =>
        refine ⟨q.1, ?_⟩
        have f := q.2
        by_cases z : a ∈ ads l1
        · exact L.ad_fresh (by unfold ads; rw [List.flatMap_append]; exact List.mem_append_left _ z)
        · rw [delL_out z] at f
          exact L.same.free f
      | im _ _ => exact q
      | ims _ _ => exact q
      | objs ps =>
        refine fun r hr => ⟨(q r hr).1, ?_⟩
        have f := (q r hr).2
        by_cases z : r.1 ∈ ads l1
        · exact L.ad_fresh (by unfold ads; rw [List.flatMap_append]; exact List.mem_append_left _ z)
        · rw [delL_out z] at f
          exact L.same.free f
    · have q := L.all x (List.mem_append_right _ h)
      cases x with
      | pt a o =>
        refine ⟨key a o q.1 fun z => ?_, q.2⟩
        exact nd.2.2 a z a (mem_ads h) rfl
      | im _ _ => exact Imm.mono hT q
      | ims _ _ => exact ImmL.mono hT q
      | objs ps =>
        refine fun r hr => ⟨key r.1 r.2 (q r hr).1 fun z => ?_, (q r hr).2⟩
        exact nd.2.2 r.1 z r.1 (List.mem_flatMap.mpr ⟨_, h, List.mem_map.mpr ⟨r, hr, rfl⟩⟩) rfl
/-- the cells of l0 alone are changed by the def: its base is without them -/
theorem Own.enter {K : PySem.W.Frag} {B H : Hp} {l0 : List As} (L : Own K B H l0) : Own K (delL H (ads l0)) H l0 := by
  refine ⟨fun b o h => ?_, L.nd, fun x hx => ?_⟩
  · by_cases z : b ∈ ads l0
    · rw [delL_in z] at h
      cases h
    · rw [delL_out z] at h
      exact h
  · have q := L.all x hx
    cases x with
    | pt a o => exact ⟨q.1, delL_in (mem_ads hx)⟩
    | im _ _ => exact q
    | ims _ _ => exact q
    | objs ps => exact fun r hr => ⟨(q r hr).1, delL_in (List.mem_flatMap.mpr ⟨_, hx, List.mem_map.mpr ⟨r, hr, rfl⟩⟩)⟩
/-! ### steps that make and change, the heap told by what is owned -/
def NewO (H : Hp) (o : HO) (Q : VK) : Prop := ∀ p : Addr, H p = none → Q (.ref p) (upd H p o)
def AppO (H : Hp) (p : Addr) (y : V) (Q : VK) : Prop := ∃ xs, H p = some (.lst xs) ∧ xs.length < sizeLine ∧ Q .non (upd H p (.lst (xs ++ [y])))
def SetO (H : Hp) (p : Addr) (k : Int) (v : V) (QH : Hp → Prop) : Prop := ∃ xs j, H p = some (.lst xs) ∧ ixN xs.length k = some j ∧ QH (upd H p (.lst (xs.set j v)))
section
variable {K : PySem.W.Frag} {B H : Hp} {l l' : List As} {o : HO} {Q : VK} {QH : Hp → Prop} {p : Addr} {xs : List V} {y : V} {k : Int} {j : Nat}
theorem newO (L : Own K B H l) (h : ∀ p H', Own K B H' (.pt p o :: l) → Q (.ref p) H') : NewO H o Q := fun p hp => h p _ (L.new hp o)
theorem appO (L : Own K B H l) (pp : Put l p (.lst xs) (.lst (xs ++ [y])) l') (hs : xs.length < sizeLine) (h : ∀ H', Own K B H' l' → Q .non H') : AppO H p y Q := ⟨xs, L.get pp.mem, hs, h _ (L.put rfl pp)⟩
theorem setO (L : Own K B H l) (pp : Put l p (.lst xs) (.lst (xs.set k.toNat y)) l') (h0 : 0 ≤ k) (h1 : k < xs.length) (h : ∀ H', Own K B H' l' → QH H') : SetO H p k y QH := ⟨xs, _, L.get pp.mem, ixN_ok h0 h1, h _ (L.put rfl pp)⟩
theorem g_newO (h : NewO H o Q) : NewO H o Q := h
theorem g_appO (h : AppO H p y Q) : AppO H p y Q := h
theorem g_setO (h : SetO H p k y QH) : SetO H p k y QH := h
end
section
variable {K : PySem.W.Frag} {H : Hp} {Q : VK} {a b v : V} {vs : List V} {l : TA} {σ : L2.St} {lo hi : Option Int} {QH : Hp → Prop}
theorem n_tup : tTup l σ H Q = l σ H (fun xs H1 => xs.length ≤ sizeLine ∧ NewO H1 (.tup xs) Q) := rfl
theorem n_lst : tLst l σ H Q = l σ H (fun xs H1 => xs.length ≤ sizeLine ∧ NewO H1 (.lst xs) Q) := rfl
theorem n_rSlL : rSlL K a lo hi H Q = ∃ p xs, a = .ref p ∧ SqL K H p xs ∧ NewO H (.lst (cutV xs lo hi)) Q := rfl
theorem n_rCat : rCat a b H Q = ∃ l m xs zs, a = .ref l ∧ b = .ref m ∧ H l = some (.lst xs) ∧ H m = some (.lst zs) ∧ xs.length + zs.length ≤ sizeLine ∧ NewO H (.lst (xs ++ zs)) Q := rfl
theorem n_rRep : rRep a b H Q = ∃ l k xs, a = .ref l ∧ b = .int k ∧ H l = some (.lst xs) ∧ -(2 ^ 63) ≤ k ∧ k < 2 ^ 63 ∧ xs.length * k.toNat ≤ sizeLine ∧ NewO H (.lst (List.replicate k.toNat xs).flatten) Q := by first | rfl | (unfold rRep; rfl)
theorem n_rApp : rAppend a vs H Q = ∃ l y, a = .ref l ∧ vs = [y] ∧ AppO H l y Q := propext ⟨fun ⟨l, xs, y, e1, e2, h⟩ => ⟨l, y, e1, e2, xs, h⟩, fun ⟨l, y, e1, e2, xs, h⟩ => ⟨l, xs, y, e1, e2, h⟩⟩
theorem n_setL {o i' : V} : rSetL o i' v H QH = ∃ p k, o = .ref p ∧ i' = .int k ∧ SetO H p k v QH := propext ⟨fun ⟨p, xs, k, j, e1, e2, h⟩ => ⟨p, k, e1, e2, xs, j, h⟩, fun ⟨p, k, e1, e2, xs, j, h⟩ => ⟨p, xs, k, j, e1, e2, h⟩⟩
/-- list(..) -/
def rLs (K : PySem.W.Frag) (xs : List V) (H : Hp) (Q : VK) : Prop := ∃ p ys, xs = [.ref p] ∧ (SqL K H p ys ∨ SqT K H p ys) ∧ NewO H (.lst ys) Q
theorem n_rLs {xs : List V} : rLs K xs H Q = ∃ p ys, xs = [.ref p] ∧ (SqL K H p ys ∨ SqT K H p ys) ∧ NewO H (.lst ys) Q := rfl
end
theorem lsK {X : Cx} (K : PySem.W.Frag) (h : X.K = K := by rfl) : CallR X (.type "list") (rLs K) := h ▸ call_list_of
/-! comprehensions -/
def EndC (D : Addr) (N : Hp → Prop) (y : V) (H4 : Hp) : Prop := ∃ acc, H4 D = some (.lst acc) ∧ acc.length < sizeLine ∧ N (upd H4 D (.lst (acc ++ [y])))
theorem endC {K : PySem.W.Frag} {B H : Hp} {l l' : List As} {D : Addr} {N : Hp → Prop} {y : V} {acc : List V} (L : Own K B H l) (pp : Put l D (.lst acc) (.lst (acc ++ [y])) l') (hs : acc.length < sizeLine) (h : ∀ H', Own K B H' l' → N H') : ∃ acc, H D = some (.lst acc) ∧ acc.length < sizeLine ∧ N (upd H D (.lst (acc ++ [y]))) := ⟨acc, L.get pp.mem, hs, h _ (L.put rfl pp)⟩
theorem mem_here {α : Type} {x : α} {l : List α} : x ∈ x :: l := List.Mem.head _
theorem mem_there {α : Type} {x y : α} {l : List α} (h : x ∈ l) : x ∈ y :: l := List.Mem.tail _ h
/-! lists of ints -/
abbrev pI (a : Addr) (ns : List Int) : As := .pt a (.lst (ns.map V.int))
theorem appI {K : PySem.W.Frag} {B H : Hp} {l l' : List As} {Q : VK} {p : Addr} {ns : List Int} {y : Int} (L : Own K B H l) (pp : Put l p (.lst (ns.map V.int)) (.lst ((ns ++ [y]).map V.int)) l') (hs : ns.length < sizeLine) (h : ∀ H', Own K B H' l' → Q .non H') : AppO H p (.int y) Q :=
  ⟨ns.map V.int, L.get pp.mem, by rw [List.length_map]; exact hs, by
    have e : ns.map V.int ++ [V.int y] = (ns ++ [y]).map V.int := by rw [List.map_append]; rfl
    rw [e]
    exact h _ (L.put rfl pp)⟩
theorem setI {K : PySem.W.Frag} {B H : Hp} {l l' : List As} {QH : Hp → Prop} {p : Addr} {ns : List Int} {k y : Int} (L : Own K B H l) (pp : Put l p (.lst (ns.map V.int)) (.lst ((ns.set k.toNat y).map V.int)) l') (h0 : 0 ≤ k) (h1 : k < ns.length) (h : ∀ H', Own K B H' l' → QH H') : SetO H p k (.int y) QH :=
  ⟨ns.map V.int, k.toNat, L.get pp.mem, ixN_ok h0 (by rw [List.length_map]; exact h1), by
    rw [set_ints]
    exact h _ (L.put rfl pp)⟩
theorem ints_cat {xs ys : List Int} : xs.map V.int ++ ys.map V.int = (xs ++ ys).map V.int := List.map_append.symm
theorem ints_app1 {xs : List Int} {y : Int} : xs.map V.int ++ [V.int y] = (xs ++ [y]).map V.int := by rw [List.map_append]; rfl
theorem ints_len {xs : List Int} : (xs.map V.int).length = xs.length := List.length_map ..
theorem ints_take {xs : List Int} {n : Nat} : (xs.map V.int).take n = (xs.take n).map V.int := List.map_take.symm
theorem ints_drop {xs : List Int} {n : Nat} : (xs.map V.int).drop n = (xs.drop n).map V.int := List.map_drop.symm
/-! comprehensions of ints -/
/-- the end of a turn: the list goes on as ys -/
def CQ (K : PySem.W.Frag) (B : Hp) (D : Addr) (l : List As) (ys : List Int) (y : V) (H4 : Hp) : Prop := ∃ acc, H4 D = some (.lst acc) ∧ acc.length < sizeLine ∧ Own K B (upd H4 D (.lst (acc ++ [y]))) (.pt D (.lst (ys.map V.int)) :: l)
theorem cq {K : PySem.W.Frag} {B H : Hp} {D : Addr} {l : List As} {ys : List Int} {y : Int} (L : Own K B H (.pt D (.lst (ys.map V.int)) :: l)) (hn : ys.length < 100000) : CQ K B D l (ys ++ [y]) (.int y) H := by
  refine ⟨_, L.get (.head _), line_map (Nat.le_of_lt hn) (by decide), ?_⟩
  have := L.put (o' := .lst (ys.map V.int ++ [V.int y])) rfl .here
  rw [List.map_append]
  exact this
theorem g_cq {K : PySem.W.Frag} {B H : Hp} {D : Addr} {l : List As} {ys : List Int} {y : V} (h : CQ K B D l ys y H) : CQ K B D l ys y H := h
section
variable {K : PySem.W.Frag} {B H : Hp} {l : List As} {te : TE} {tA : TT} {σ : L2.St} {lo : Int} {n : Nat} {g : TG} {vs : List Nat} {Q : Addr → Hp → Prop}
/-- over a range -/
theorem compRi (f : Nat → Int) (L : Own K B H l) (hn : n < 100000)
    (hs : ∀ i D H1, i < n → Own K B H1 (.pt D (.lst ((rngL f i).map V.int)) :: l) → g (.int (lo + i)) (wipe σ vs) H1 fun σ2 H2 => wipe σ2 vs = wipe σ vs ∧ te σ2 H2 (CQ K B D l (rngL f i ++ [f i])))
    (hd : ∀ D H', Own K B H' (.pt D (.lst ((rngL f n).map V.int)) :: l) → Q D H') : ∀ D, H D = none → CompI (Itr lo n) g tYes te vs σ H D (Q D) := by
  intro D hD
  refine comp_range (fun i H' => Own K B H' (.pt D (.lst ((rngL f i).map V.int)) :: l)) (L.new hD _) (fun i H' hi h => ?_) (fun H' h => hd D H' h)
  have := hs i D H' hi h
  unfold CQ at this
  rw [← rngL_succ] at this
  exact this
/-- over a range, with a test -/
theorem compRt (f : Nat → Int) (p : Nat → Bool) (L : Own K B H l) (hn : n < 100000)
    (hs : ∀ i D H1, i < n → Own K B H1 (.pt D (.lst ((((List.range i).filter p).map f).map V.int)) :: l) → g (.int (lo + i)) (wipe σ vs) H1 fun σ2 H2 => wipe σ2 vs = wipe σ vs ∧ tA σ2 H2 fun b H3 =>
      if b = true then te σ2 H3 (CQ K B D l (((List.range (i + 1)).filter p).map f)) else Own K B H3 (.pt D (.lst ((((List.range (i + 1)).filter p).map f).map V.int)) :: l))
    (hd : ∀ D H', Own K B H' (.pt D (.lst ((((List.range n).filter p).map f).map V.int)) :: l) → Q D H') : ∀ D, H D = none → CompI (Itr lo n) g tA te vs σ H D (Q D) := by
  intro D hD
  exact comp_range (fun i H' => Own K B H' (.pt D (.lst ((((List.range i).filter p).map f).map V.int)) :: l)) (L.new hD _) (fun i H' hi h => hs i D H' hi h) (fun H' h => hd D H' h)
/-- over a list of ints -/
theorem compLi {a : Addr} {xs : List Int} (f : Int → Int) (L : Own K B H l) (hS : SqL K H a (xs.map V.int)) (hn : xs.length < 100000)
    (hs : ∀ i x D H1, xs[i]? = some x → Own K B H1 (.pt D (.lst (((xs.take i).map f).map V.int)) :: l) → g (.int x) (wipe σ vs) H1 fun σ2 H2 => wipe σ2 vs = wipe σ vs ∧ te σ2 H2 (CQ K B D l ((xs.take i).map f ++ [f x])))
    (hk : ∀ H', Own K B H' l → SqL K H' a (xs.map V.int))
    (hd : ∀ D H', Own K B H' (.pt D (.lst ((xs.map f).map V.int)) :: l) → Q D H') : ∀ D, H D = none → CompI (Itl K a) g tYes te vs σ H D (Q D) := by
  intro D hD
  refine comp_list (xs := xs.map V.int) (fun i H' => Own K B H' (.pt D (.lst (((xs.take i).map f).map V.int)) :: l)) (L.new hD _) (fun i H' _ h => hk H' h.drop1) (fun i x H' hx h => ?_) (fun H' h => ?_)
  · obtain ⟨z, hz, rfl⟩ := int_at hx
    have := hs i z D H' hz h
    unfold CQ at this
    rw [← take_map_snoc hz] at this
    exact this
  · rw [List.length_map, List.take_length] at h
    exact hd D H' h
/-- over a list of ints, with a test -/
theorem compLt {a : Addr} {xs : List Int} (f : Int → Int) (p : Int → Bool) (L : Own K B H l) (hS : SqL K H a (xs.map V.int)) (hn : xs.length < 100000)
    (hs : ∀ i x D H1, xs[i]? = some x → Own K B H1 (.pt D (.lst ((((xs.take i).filter p).map f).map V.int)) :: l) → g (.int x) (wipe σ vs) H1 fun σ2 H2 => wipe σ2 vs = wipe σ vs ∧ tA σ2 H2 fun b H3 =>
      if b = true then te σ2 H3 (CQ K B D l (((xs.take (i + 1)).filter p).map f)) else Own K B H3 (.pt D (.lst ((((xs.take (i + 1)).filter p).map f).map V.int)) :: l))
    (hk : ∀ H', Own K B H' l → SqL K H' a (xs.map V.int))
    (hd : ∀ D H', Own K B H' (.pt D (.lst (((xs.filter p).map f).map V.int)) :: l) → Q D H') : ∀ D, H D = none → CompI (Itl K a) g tA te vs σ H D (Q D) := by
  intro D hD
  refine comp_list (xs := xs.map V.int) (fun i H' => Own K B H' (.pt D (.lst ((((xs.take i).filter p).map f).map V.int)) :: l)) (L.new hD _) (fun i H' _ h => hk H' h.drop1) (fun i x H' hx h => ?_) (fun H' h => ?_)
  · obtain ⟨z, hz, rfl⟩ := int_at hx
    exact hs i z D H' hz h
  · rw [List.length_map, List.take_length] at h
    exact hd D H' h
end
/-! ranges with a step, reversed ranges -/
theorem x_irng3 {l : TA} {σ : L2.St} {H : Hp} {R : It → Hp → Prop} : iRng3 l σ H R = l σ H (fun vs H1 => ∃ (i j c : Int) (n : Nat), vs = [.int i, .int j, .int c] ∧ RgC i j c n ∧ R (Itc i c n) H1) := rfl
theorem x_irevR {tr : L2.St → Hp → (Int → Int → Hp → Prop) → Prop} {σ : L2.St} {H : Hp} {R : It → Hp → Prop} : iRevR tr σ H R = tr σ H (fun a b H1 => (-(2 ^ 62) ≤ a ∧ a < 2 ^ 62 ∧ -(2 ^ 62) ≤ b ∧ b < 2 ^ 62) ∧ R (Itc (a + (((b - a).toNat : Nat) : Int) - 1) (-1) (b - a).toNat) H1) := by
  unfold iRevR
  congr 1
  funext a b H1
  simp only [and_assoc]
theorem x_rg1 {te : TE} {σ : L2.St} {H : Hp} {Q : Int → Int → Hp → Prop} : tRg1 te σ H Q = te σ H (fun x H1 => ∃ n, x = .int n ∧ Q 0 n H1) := rfl
theorem x_rg2 {ta tb : TE} {σ : L2.St} {H : Hp} {Q : Int → Int → Hp → Prop} : tRg2 ta tb σ H Q = ta σ H (fun x H1 => tb σ H1 (fun y H2 => ∃ i j, x = .int i ∧ y = .int j ∧ Q i j H2)) := rfl
theorem rgNeg {i j : Int} {P : Nat → Prop} (h : -(2 ^ 62) ≤ i ∧ i < 2 ^ 62 ∧ -(2 ^ 62) ≤ j ∧ j < 2 ^ 62) (q : P (i - j).toNat) : ∃ n, RgC i j (-1) n ∧ P n := ⟨_, RgC.neg h.1 h.2.1 h.2.2.1 h.2.2.2, q⟩
theorem loop_rangeC {t : TS} {D : Ends} {σ : L2.St} {H : Hp} {lo c : Int} {n : Nat} {g : TG} (Pv : Nat → L2.St → Hp → Prop) (h0 : Pv 0 σ H)
    (hs : ∀ i σ H, i < n → Pv i σ H → g (.int (lo + (i : Nat) * c)) σ H fun σ2 H2 => t { D with nx := Pv (i + 1), ct := Pv (i + 1), bk := D.nx } σ2 H2) (hd : ∀ σ H, Pv n σ H → D.nx σ H) : LoopI (Itc lo c n) g t D σ H := for_rangeC Pv h0 hs hd
theorem comp_rangeC {te : TE} {tA : TT} {σ : L2.St} {H : Hp} {lo c : Int} {n : Nat} {g : TG} {vs : List Nat} {D : Addr} {Qd : Hp → Prop} (Pv : Nat → Hp → Prop) (h0 : Pv 0 (upd H D (.lst [])))
    (hs : ∀ i H, i < n → Pv i H → g (.int (lo + (i : Nat) * c)) (wipe σ vs) H fun σ2 H2 => wipe σ2 vs = wipe σ vs ∧ tA σ2 H2 fun b H3 =>
      if b = true then te σ2 H3 fun y H4 => ∃ acc, H4 D = some (.lst acc) ∧ acc.length < sizeLine ∧ Pv (i + 1) (upd H4 D (.lst (acc ++ [y]))) else Pv (i + 1) H3) (hd : ∀ H, Pv n H → Qd H) : CompI (Itc lo c n) g tA te vs σ H D Qd := by
  refine ⟨fun i left H => left = n - i ∧ i ≤ n ∧ Pv i H, ⟨n, by omega, by omega, h0⟩, ?_⟩
  rintro i left H ⟨rfl, hi, p⟩
  by_cases hlt : i < n
  · refine .inr ⟨hlt, Pv (i + 1), fun H' p' => ⟨n - (i + 1), by omega, rfl, hlt, p'⟩, fun x H' y => ?_⟩
    obtain ⟨e1, e2⟩ := y
    subst e1; subst e2
    exact hs i H' hlt p
  · obtain rfl : i = n := Nat.le_antisymm hi (by omega)
    exact .inl ⟨Nat.le_refl _, hd H p⟩
section
variable {K : PySem.W.Frag} {B H : Hp} {l : List As} {te : TE} {tA : TT} {σ : L2.St} {lo c : Int} {n : Nat} {g : TG} {vs : List Nat} {Q : Addr → Hp → Prop}
/-- over a range with a step, with a test -/
theorem compRtc (f : Nat → Int) (p : Nat → Bool) (L : Own K B H l) (hn : n < 100000)
    (hs : ∀ i D H1, i < n → Own K B H1 (pI D (((List.range i).filter p).map f) :: l) → g (.int (lo + (i : Nat) * c)) (wipe σ vs) H1 fun σ2 H2 => wipe σ2 vs = wipe σ vs ∧ tA σ2 H2 fun b H3 =>
      if b = true then te σ2 H3 (CQ K B D l (((List.range (i + 1)).filter p).map f)) else Own K B H3 (pI D (((List.range (i + 1)).filter p).map f) :: l))
    (hd : ∀ D H', Own K B H' (pI D (((List.range n).filter p).map f) :: l) → Q D H') : ∀ D, H D = none → CompI (Itc lo c n) g tA te vs σ H D (Q D) := by
  intro D hD
  exact comp_rangeC (fun i H' => Own K B H' (pI D (((List.range i).filter p).map f) :: l)) (L.new hD _) (fun i H' hi h => hs i D H' hi h) (fun H' h => hd D H' h)
end
theorem filt_snoc {f : Nat → Int} {p : Nat → Bool} {i : Nat} : ((List.range (i + 1)).filter p).map f = if p i = true then ((List.range i).filter p).map f ++ [f i] else ((List.range i).filter p).map f := by
  rw [List.range_succ, List.filter_append, List.map_append]
  by_cases h : p i = true
  · rw [if_pos h, List.filter_cons_of_pos h]
    rfl
  · rw [if_neg h, List.filter_cons_of_neg h]
    exact List.append_nil _
/-- the turn of a comprehension with a test -/
theorem ct_yes {K : PySem.W.Frag} {B H : Hp} {l : List As} {D : Addr} {f : Nat → Int} {p : Nat → Bool} {i : Nat} {y : Int} (L : Own K B H (pI D (((List.range i).filter p).map f) :: l)) (hn : i < 100000) (hp : p i = true) (hy : y = f i) : CQ K B D l (((List.range (i + 1)).filter p).map f) (.int y) H := by
  rw [filt_snoc, if_pos hp, hy]
  refine cq L ?_
  rw [List.length_map]
  have := List.length_filter_le p (List.range i)
  rw [List.length_range] at this
  omega
theorem ct_no {K : PySem.W.Frag} {B H : Hp} {l : List As} {D : Addr} {f : Nat → Int} {p : Nat → Bool} {i : Nat} (L : Own K B H (pI D (((List.range i).filter p).map f) :: l)) (hp : ¬ p i = true) : Own K B H (pI D (((List.range (i + 1)).filter p).map f) :: l) := by
  rw [filt_snoc, if_neg hp]
  exact L
theorem filtL_snoc {xs : List Int} {f : Int → Int} {p : Int → Bool} {i : Nat} {x : Int} (h : xs[i]? = some x) : ((xs.take (i + 1)).filter p).map f = if p x = true then ((xs.take i).filter p).map f ++ [f x] else ((xs.take i).filter p).map f := by
  rw [List.take_add_one, h, List.filter_append, List.map_append]
  by_cases h : p x = true
  · rw [if_pos h]
    show _ ++ (List.filter p [x]).map f = _
    rw [List.filter_cons_of_pos h]
    rfl
  · rw [if_neg h]
    show _ ++ (List.filter p [x]).map f = _
    rw [List.filter_cons_of_neg h]
    exact List.append_nil _
theorem cl_yes {K : PySem.W.Frag} {B H : Hp} {l : List As} {D : Addr} {xs : List Int} {f : Int → Int} {p : Int → Bool} {i : Nat} {x y : Int} (L : Own K B H (pI D (((xs.take i).filter p).map f) :: l)) (hx : xs[i]? = some x) (hn : xs.length < 100000) (hp : p x = true) (hy : y = f x) : CQ K B D l (((xs.take (i + 1)).filter p).map f) (.int y) H := by
  rw [filtL_snoc hx, if_pos hp, hy]
  refine cq L ?_
  rw [List.length_map]
  have := List.length_filter_le p (xs.take i)
  rw [List.length_take] at this
  omega
theorem cl_no {K : PySem.W.Frag} {B H : Hp} {l : List As} {D : Addr} {xs : List Int} {f : Int → Int} {p : Int → Bool} {i : Nat} {x : Int} (L : Own K B H (pI D (((xs.take i).filter p).map f) :: l)) (hx : xs[i]? = some x) (hp : ¬ p x = true) : Own K B H (pI D (((xs.take (i + 1)).filter p).map f) :: l) := by
  rw [filtL_snoc hx, if_neg hp]
  exact L
/-! slices -/
theorem cut_ii {xs : List V} {i j : Int} (h0 : 0 ≤ i) (h1 : 0 ≤ j) : cutV xs (some i) (some j) = (xs.drop i.toNat).take (j.toNat - i.toNat) := by
  obtain ⟨i, rfl⟩ := Int.eq_ofNat_of_zero_le h0
  obtain ⟨j, rfl⟩ := Int.eq_ofNat_of_zero_le h1
  unfold cutV
  rw [HT.sIx_nat, HT.sIx_nat, Int.toNat_natCast, Int.toNat_natCast]
  by_cases h : i ≤ xs.length
  · rw [Nat.min_eq_left h]
    by_cases k : j ≤ xs.length
    · rw [Nat.min_eq_left k]
    · rw [Nat.min_eq_right (by omega), List.take_of_length_le (by rw [List.length_drop]; omega), List.take_of_length_le (by rw [List.length_drop]; omega)]
  · rw [show min i xs.length = xs.length by omega, List.drop_of_length_le (Nat.le_refl _), List.drop_of_length_le (show xs.length ≤ i by omega), List.take_nil, List.take_nil]
theorem cut_in {xs : List V} {i : Int} (h0 : 0 ≤ i) : cutV xs (some i) none = xs.drop i.toNat := by
  obtain ⟨i, rfl⟩ := Int.eq_ofNat_of_zero_le h0
  unfold cutV
  rw [HT.sIx_nat, HT.sIx_none, Int.toNat_natCast]
  by_cases h : i ≤ xs.length
  · rw [Nat.min_eq_left h]
    exact List.take_of_length_le (by rw [List.length_drop]; exact Nat.le_refl _)
  · rw [Nat.min_eq_right (by omega), List.drop_of_length_le (Nat.le_refl _), List.drop_of_length_le (show xs.length ≤ i by omega), List.take_nil]
theorem cut_ni {xs : List V} {j : Int} (h1 : 0 ≤ j) : cutV xs none (some j) = xs.take j.toNat := by
  obtain ⟨j, rfl⟩ := Int.eq_ofNat_of_zero_le h1
  unfold cutV
  rw [HT.sIx_nat, HT.sIx_none, Int.toNat_natCast, List.drop_zero, Nat.sub_zero]
  by_cases k : j ≤ xs.length
  · rw [Nat.min_eq_left k]
  · rw [Nat.min_eq_right (by omega), List.take_of_length_le (Nat.le_refl _), List.take_of_length_le (show xs.length ≤ j by omega)]
/-! == of lists of ints -/
theorem eqd_ints {K : PySem.W.Frag} {H : Hp} {a b : Addr} {xs ys : List Int} {Q : VK} (h1 : SqL K H a (xs.map V.int)) (h2 : SqL K H b (ys.map V.int)) (q : Q (.bl (decide (xs = ys))) H) : rEqD K (.ref a) (.ref b) H Q := by
  refine eqd (dq_lst h1) (dq_lst h2) fun r e => ?_
  have : r = decide (xs = ys) := by
    rw [PyData.list.injEq, map_int_inj] at e
    by_cases c : xs = ys
    · rw [decide_eq_true c, e.mpr c]
    · rw [decide_eq_false c]
      cases r with
      | false => rfl
      | true => exact absurd (e.mp rfl) c
  rw [this]
  exact q
theorem ned_ints {K : PySem.W.Frag} {H : Hp} {a b : Addr} {xs ys : List Int} {Q : VK} (h1 : SqL K H a (xs.map V.int)) (h2 : SqL K H b (ys.map V.int)) (q : Q (.bl (!decide (xs = ys))) H) : rNeD K (.ref a) (.ref b) H Q := by
  refine ned (dq_lst h1) (dq_lst h2) fun r e => ?_
  have : r = decide (xs = ys) := by
    rw [PyData.list.injEq, map_int_inj] at e
    by_cases c : xs = ys
    · rw [decide_eq_true c, e.mpr c]
    · rw [decide_eq_false c]
      cases r with
      | false => rfl
      | true => exact absurd (e.mp rfl) c
  rw [this]
  exact q
theorem ite_d {A B p : Prop} {_ : Decidable p} (h1 : p → A) (h2 : ¬ p → B) : if decide p = true then A else B := by
  by_cases c : p
  · rw [if_pos (decide_eq_true c)]
    exact h1 c
  · rw [if_neg (by rw [decide_eq_false c]; decide)]
    exact h2 c
theorem ite_nd {A B p : Prop} {_ : Decidable p} (h1 : ¬ p → A) (h2 : p → B) : if (!decide p) = true then A else B := by
  by_cases c : p
  · rw [if_neg (by rw [decide_eq_true c]; decide)]
    exact h2 c
  · rw [if_pos (by rw [decide_eq_false c]; rfl)]
    exact h1 c
/-! tuples of ints -/
def tupI (ns : List Int) : HO := .tup (ns.map V.int)
theorem t_i1 {x : Int} : HO.tup [.int x] = tupI [x] := rfl
theorem t_i2 {x y : Int} : HO.tup [.int x, .int y] = tupI [x, y] := rfl
theorem t_i3 {x y z : Int} : HO.tup [.int x, .int y, .int z] = tupI [x, y, z] := rfl
theorem t_i4 {x y z u : Int} : HO.tup [.int x, .int y, .int z, .int u] = tupI [x, y, z, u] := rfl
theorem t_i5 {x y z u v : Int} : HO.tup [.int x, .int y, .int z, .int u, .int v] = tupI [x, y, z, u, v] := rfl
abbrev pT (a : Addr) (ns : List Int) : As := .pt a (tupI ns)
theorem sqT_tupI {K : PySem.W.Frag} {H : Hp} {p : Addr} {ns : List Int} (h : H p = some (tupI ns)) : SqT K H p (ns.map V.int) := SqT.of h
theorem Own.imT {K : PySem.W.Frag} {B H : Hp} {l : List As} {p : Addr} {ns : List Int} (L : Own K B H l) (m : As.im (.ref p) (tI ns) ∈ l) : SqT K H p (ns.map V.int) := by
  obtain ⟨a, e, h⟩ := Imm.of_ints (L.imm m)
  cases e
  exact h
theorem Own.imI {K : PySem.W.Frag} {B H : Hp} {l : List As} {p : Addr} {ns : List Int} (L : Own K B H l) (m : As.pt p (tupI ns) ∈ l) : Imm K H (.ref p) (tI ns) := Imm.of_is (SqT.of (L.get m))
section
variable {K : PySem.W.Frag} {H : Hp} {a b : Addr} {xs ys : List Int} {Q : VK}
theorem eqdT_ints (h1 : SqT K H a (xs.map V.int)) (h2 : SqT K H b (ys.map V.int)) (q : Q (.bl (decide (xs = ys))) H) : rEqD K (.ref a) (.ref b) H Q := by
  refine eqd (dq_tup h1) (dq_tup h2) fun r e => ?_
  have : r = decide (xs = ys) := by
    rw [PyData.tuple.injEq, map_int_inj] at e
    by_cases c : xs = ys
    · rw [decide_eq_true c, e.mpr c]
    · rw [decide_eq_false c]
      cases r with
      | false => rfl
      | true => exact absurd (e.mp rfl) c
  rw [this]
  exact q
theorem nedT_ints (h1 : SqT K H a (xs.map V.int)) (h2 : SqT K H b (ys.map V.int)) (q : Q (.bl (!decide (xs = ys))) H) : rNeD K (.ref a) (.ref b) H Q := by
  refine ned (dq_tup h1) (dq_tup h2) fun r e => ?_
  have : r = decide (xs = ys) := by
    rw [PyData.tuple.injEq, map_int_inj] at e
    by_cases c : xs = ys
    · rw [decide_eq_true c, e.mpr c]
    · rw [decide_eq_false c]
      cases r with
      | false => rfl
      | true => exact absurd (e.mp rfl) c
  rw [this]
  exact q
/-! isinstance of what is read -/
theorem isi_sqT {c : String} {r : Bool} {vs : List V} (h : kitB "tuple" c = some r) (hl : SqT K H a vs) (q : Q (.bl r) H) : rIsi K [.ref a, .ty c] H Q := by
  rcases hl with (g | ⟨o, g⟩) | ⟨o, its, n, g, c1, _⟩
  · exact ⟨_, _, _, _, r, rfl, .ty c, .base (.tup g), kit_ty h, q⟩
  · exact ⟨_, _, _, _, r, rfl, .ty c, .fTuple g, kit_ty h, q⟩
  · exact ⟨_, _, _, _, r, rfl, .ty c, .kTuple g c1, kit_ty h, q⟩
theorem isi_sqL {c : String} {r : Bool} {vs : List V} (h : kitB "list" c = some r) (hl : SqL K H a vs) (q : Q (.bl r) H) : rIsi K [.ref a, .ty c] H Q := by
  rcases hl with (g | ⟨o, g⟩) | ⟨o, its, n, g, c1, _⟩
  · exact ⟨_, _, _, _, r, rfl, .ty c, .base (.lst g), kit_ty h, q⟩
  · exact ⟨_, _, _, _, r, rfl, .ty c, .base (.frz g), kit_ty h, q⟩
  · exact ⟨_, _, _, _, r, rfl, .ty c, .kList g c1, kit_ty h, q⟩
theorem isi_non {c : String} {r : Bool} (h : kitB "NoneType" c = some r) (q : Q (.bl r) H) : rIsi K [.non, .ty c] H Q := ⟨_, _, _, _, r, rfl, .ty c, .base .non, kit_ty h, q⟩
theorem isi_bl {c : String} {r x : Bool} (h : kitB "bool" c = some r) (q : Q (.bl r) H) : rIsi K [.bl x, .ty c] H Q := ⟨_, _, _, _, r, rfl, .ty c, .base (.bl x), kit_ty h, q⟩
theorem isi_str {c : String} {r : Bool} {x : Str} (h : kitB "str" c = some r) (q : Q (.bl r) H) : rIsi K [.str x, .ty c] H Q := ⟨_, _, _, _, r, rfl, .ty c, .base (.str x), kit_ty h, q⟩
end
theorem g_sum {K : PySem.W.Frag} {H : Hp} {vs : List V} {Q : VK} (h : rSum K vs H Q) : rSum K vs H Q := h
theorem sum_call {K : PySem.W.Frag} {H : Hp} {a : Addr} {ns : List Int} {Q : VK} (h : SqL K H a (ns.map V.int)) (q : Q (.int ns.sum) H) : rSum K [.ref a] H Q := ⟨a, ns, rfl, h, q⟩
/-! an error caught: its dict is what is new -/
theorem caught {K : PySem.W.Frag} {B H H' : Hp} {l : List As} {d : Addr} {n : Int} {C : Value} {P : Hp → Prop} (L : Own K B H l) (s : Same H H') (hd : H' d = none) (h : ∀ G, Own K B G (.pt d (.xd [("at", .int n)]) :: l) → P G) : P (upd H' d (.xd [("at", .int n)])) := h _ ((L.call s).new hd _)
theorem maxK {X : Cx} (K : PySem.W.Frag) (hc : X.calm = true) (h : X.K = K := by rfl) : CallR X (.builtin "max") (rMax K) := h ▸ cr_max hc
theorem minK {X : Cx} (K : PySem.W.Frag) (hc : X.calm = true) (h : X.K = K := by rfl) : CallR X (.builtin "min") (rMin K) := h ▸ cr_min hc
theorem g_max {K : PySem.W.Frag} {H : Hp} {vs : List V} {Q : VK} (h : rMax K vs H Q) : rMax K vs H Q := h
theorem max_call {K : PySem.W.Frag} {H : Hp} {a : Addr} {ns : List Int} {Q : VK} (h : SqL K H a (ns.map V.int)) (n : 0 < ns.length) (q : ∀ m, m ∈ ns → (∀ y, y ∈ ns → y ≤ m) → Q (.int m) H) : rMax K [.ref a] H Q := ⟨a, ns, rfl, h, n, q⟩
theorem and_low (a k : Nat) : Builtin.bitAnd (a : Int) (2 ^ k - 1) = ((a % 2 ^ k : Nat) : Int) := by
  have e : ((2 : Int) ^ k - 1) = ((2 ^ k - 1 : Nat) : Int) := by
    have := Nat.two_pow_pos k
    rw [Int.natCast_sub (by omega), Int.natCast_pow]
    rfl
  rw [e]
  show ((a &&& (2 ^ k - 1) : Nat) : Int) = _
  rw [Nat.and_two_pow_sub_one_eq_mod]
theorem and255 {x : Int} (h : 0 ≤ x) : Builtin.bitAnd x 255 = x % 256 := by
  obtain ⟨a, rfl⟩ := Int.eq_ofNat_of_zero_le h
  exact and_low a 8
theorem and1 {x : Int} (h : 0 ≤ x) : Builtin.bitAnd x 1 = x % 2 := by
  obtain ⟨a, rfl⟩ := Int.eq_ofNat_of_zero_le h
  exact and_low a 1
theorem andK {x : Int} (h : 0 ≤ x) (k : Nat) : Builtin.bitAnd x (2 ^ k - 1) = x % 2 ^ k := by
  obtain ⟨a, rfl⟩ := Int.eq_ofNat_of_zero_le h
  rw [and_low a k, Int.natCast_emod, Int.natCast_pow]
  rfl
/-! a < b < c < d -/
def tChain3 (r r' r'' : R2) (ta tb tc td : TE) : TT := fun σ H Q => ta σ H fun x H1 => tb σ H1 fun y H2 => r x y H2 fun z H3 => ∃ k, z = .bl k ∧
  (if k = true then tc σ H3 fun u H4 => r' y u H4 fun z' H5 => ∃ k', z' = .bl k' ∧ (if k' = true then td σ H5 fun u' H6 => r'' u u' H6 fun z'' H7 => ∃ k'', z'' = .bl k'' ∧ Q k'' H7 else Q false H5) else Q false H3)
theorem pt_chain3 {X : Cx} {o1 o2 o3 : CmpOp} {r r' r'' : R2} {a b c d : Expr} {ta tb tc td : TE} {pos : Pos} (h1 : OpR X (compareOp o1) r) (h2 : OpR X (compareOp o2) r') (h3 : OpR X (compareOp o3) r'') (ha : PE X a ta) (hb : PE X b tb) (hc : PE X c tc) (hd : PE X d td)
    (marks : lastMarks [o1, o2, o3] [b, c, d] = false := by with_unfolding_all rfl) : PT X (.Compare a [o1, o2, o3] [b, c, d] pos) (tChain3 r r' r'' ta tb tc td) := by
  refine ⟨fun pn sh st Hs Qv hin hq => isTrue_chain (thn (ha.run pn sh st Hs _ hin hq) fun va s1 ha1 => ?_) marks⟩
  obtain ⟨x, G1, in1, r1, q1⟩ := ha1
  refine test_link (thn (hb.run pn s1 st G1 _ in1 q1) fun vb s2 hb1 => ?_)
  obtain ⟨y, G2, in2, r2, q2⟩ := hb1
  refine thn (h1 pn s2 st G2 x y va vb _ in2 r1 r2 q2) fun vt s3 ht => ?_
  obtain ⟨z, G3, in3, r3, k, e, q3⟩ := ht
  subst e
  cases r3
  refine wpAny_truthy_bool ?_
  cases k with
  | false => exact ite_ff ⟨G3, in3, q3⟩
  | true =>
    refine ite_tt (test_link (thn (hc.run pn s3 st G3 _ in3 q3) fun vc s4 hc1 => ?_))
    obtain ⟨u, G4, in4, r4, q4⟩ := hc1
    refine thn (h2 pn s4 st G4 y u vb vc _ in4 r2 r4 q4) fun vt s5 ht => ?_
    obtain ⟨z', G5, in5, r5, k', e, q5⟩ := ht
    subst e
    cases r5
    refine wpAny_truthy_bool ?_
    cases k' with
    | false => exact ite_ff ⟨G5, in5, q5⟩
    | true =>
      refine ite_tt (test_last (thn (hd.run pn s5 st G5 _ in5 q5) fun vd s6 hd1 => ?_))
      obtain ⟨u', G6, in6, r6, q6⟩ := hd1
      refine thn (h3 pn s6 st G6 u u' vc vd _ in6 r4 r6 q6) fun vt s7 ht => ?_
      obtain ⟨z'', G7, in7, r7, k'', e, q7⟩ := ht
      subst e
      cases r7
      exact wpAny_truthy_bool ⟨G7, in7, q7⟩
theorem x_chain3 {r r' r'' : R2} {ta tb tc td : TE} {σ : L2.St} {H : Hp} {Q : Bool → Hp → Prop} : tChain3 r r' r'' ta tb tc td σ H Q = ta σ H (fun x H1 => tb σ H1 (fun y H2 => r x y H2 (fun z H3 => ∃ k, z = .bl k ∧
  SelT k (fun σ' H' Q' => tc σ' H' (fun u H4 => r' y u H4 (fun z' H5 => ∃ k', z' = .bl k' ∧ SelT k' (fun σ'' H'' Q'' => td σ'' H'' (fun u' H6 => r'' u u' H6 (fun z'' H7 => ∃ k'', z'' = .bl k'' ∧ Q'' k'' H7))) (tK false) σ' H5 Q'))) (tK false) σ H3 Q))) := by
  unfold tChain3
  congr 1
  funext x H1
  congr 1
  funext y H2
  congr 1
  funext z H3
  congr 1
  funext k
  cases k with
  | false => rfl
  | true =>
    refine congrArg (z = V.bl true ∧ ·) ?_
    show tc σ H3 _ = tc σ H3 _
    congr 1
    funext u H4
    congr 1
    funext z' H5
    congr 1
    funext k'
    cases k' <;> rfl
theorem sel_nd {t u : TS} {D : Ends} {σ : L2.St} {H : Hp} {p : Prop} {_ : Decidable p} (h1 : ¬ p → t D σ H) (h2 : p → u D σ H) : Sel (!decide p) t u D σ H := by
  by_cases c : p
  · rw [decide_eq_true c]
    exact h2 c
  · rw [decide_eq_false c]
    exact h1 c
/-! a text and an int -/
def tupS (s : Str) (n : Int) : HO := .tup [.str s, .int n]
theorem t_s1 {s : Str} {n : Int} : HO.tup [.str s, .int n] = tupS s n := rfl
theorem sqT_tupS {K : PySem.W.Frag} {H : Hp} {p : Addr} {s : Str} {n : Int} (h : H p = some (tupS s n)) : SqT K H p [.str s, .int n] := SqT.of h
theorem dq_tupS {K : PySem.W.Frag} {H : Hp} {p : Addr} {s : Str} {n : Int} (h : SqT K H p [.str s, .int n]) (l : (PyData.str s).canLay0 = true) : Dq K H (.ref p) (.tuple [.str s, .int n]) :=
  ⟨.tup h (.cons (.str s) (.cons (.int n) .nil)), by simp [plain, plainAl, l], by simp [PyData.depth, PyData.depthAll]⟩
end Bel

namespace Bel
open PySem PySem.Spec PyProof.Rows L2
/-! ### classes: what the text must say of one, and its methods -/
structure ClsF (K : PySem.W.Frag) (C : Str) (fs : List Str) : Prop where
  cl : Cls K (He.ga K C)
  na : ∀ f ∈ fs, NoAttr K (He.ga K C) f
structure Mth (P : Program) (w : World) (K : PySem.W.Frag) (base : Heap) (mg : Str → Option Value) (k : Nat) (C m : Str) (ps : List Str) (sp : Sp) (dvs : List V) : Prop where
  ex : ∃ (fd : FuncData) (ds : List Value), FnOk P w K mg base (L2N.CX P w) k (He.ma K (He.ga K C) m) fd ps sp ∧ Meth K (He.ga K C) m (He.ma K (He.ga K C) m) ∧ Cls K (He.ga K C) ∧ Binds K fd ps ds ∧ Vals dvs ds
structure Mkr (P : Program) (w : World) (K : PySem.W.Frag) (base : Heap) (mg : Str → Option Value) (k : Nat) (C : Str) (ps : List Str) (sp : Sp) (dvs : List V) : Prop where
  ex : ∃ (fd : FuncData) (ds : List Value), FnOk P w K mg base (L2N.CX P w) k (He.ma K (He.ga K C) "__init__") fd ps sp ∧ Mk K (He.ga K C) (He.ma K (He.ga K C) "__init__") ∧ mg C = some (.ref (He.ga K C)) ∧ Binds K fd ps ds ∧ Vals dvs ds
/-- o.m(..), what is raised taken by W -/
def tMW (C : Addr) (m : Str) (sp : Sp) (dvs : List V) (W : WX) (ta : TE) (t : TA) : TE := fun σ H Q => ta σ H fun x H1 => ∃ a dx fs, x = .ref a ∧ H1 a = some (.ins C dx fs) ∧ fs.lookup m = none ∧ t σ H1 fun vs H2 => sp (x :: (vs ++ dvs)) H2 Q (WE W σ)
/-- C(..), what is raised taken by W -/
def tKW (C : Addr) (sp : Sp) (dvs : List V) (W : WX) (t : TA) : TE := fun σ H Q => t σ H fun vs H1 => ∀ x dx, H1 x = none → H1 dx = none → dx ≠ x → sp (.ref x :: (vs ++ dvs)) (upd (upd H1 dx (.own x)) x (.ins C dx [])) (fun v H2 => v = .non ∧ Q (.ref x) H2) (WE W σ)
section
variable {X : Cx} {K : PySem.W.Frag} {k : Nat} {C m : Str} {ps : List Str} {sp : Sp} {dvs : List V} {p apos pos : Pos} {o e : Expr} {es : List Expr} {ta : TE} {t : TA} {W : WX} {pl : Sem Bool}
theorem pe_mt (c : Mth X.prog X.w K X.base X.mg k C m ps sp dvs) (hr : Room k X.A) (ho : PE X o ta) (ha : PA X (e :: es) t)
    (h1 : starEach (e :: es) X.env = (false, eval e X.env) :: starEach es X.env := by rfl) (h2 : (backTo pos (starEach es X.env)).any (·.1) = false := by rfl)
    (h3 : eval (.Call (.Attribute o m apos) (e :: es) [] pos) X.env = (do
      let ov ← eval o X.env
      standAt apos.atName
      let (f, first) ← holding [ov] (getMethod ov m pl)
      callWith pos f first (backTo pos (starEach (e :: es) X.env)) (backToKw pos (keywordEach [] X.env))) := by rfl) (hK : X.K = K := by rfl) :
    PE X (.Call (.Attribute o m apos) (e :: es) [] pos) (tMeth (He.ga K C) m sp dvs E0 ta t) := by
  subst hK
  obtain ⟨fd, ds, F, me, cl, hb, hd⟩ := c.ex
  exact pe_meth ho cl me F hr hb hd passN ha h1 h2 h3
theorem pe_mt0 (c : Mth X.prog X.w K X.base X.mg k C m ps sp dvs) (hr : Room k X.A) (ho : PE X o ta)
    (h3 : eval (.Call (.Attribute o m apos) [] [] pos) X.env = (do
      let ov ← eval o X.env
      standAt apos.atName
      let (f, first) ← holding [ov] (getMethod ov m pl)
      callWith pos f first (backTo pos (starEach [] X.env)) (backToKw pos (keywordEach [] X.env))) := by rfl) (hK : X.K = K := by rfl) :
    PE X (.Call (.Attribute o m apos) [] [] pos) (tMeth (He.ga K C) m sp dvs E0 ta tNil) := by
  subst hK
  obtain ⟨fd, ds, F, me, cl, hb, hd⟩ := c.ex
  exact pe_meth0 ho cl me F hr hb hd passN h3
theorem pe_mtS (c : Mth X.prog X.w K X.base X.mg k C m ps sp dvs) (hr : Room k X.A) (tk : L2N.Takes X W) (ho : PE X o ta) (ha : PA X (e :: es) t)
    (h1 : starEach (e :: es) X.env = (false, eval e X.env) :: starEach es X.env := by rfl) (h2 : (backTo pos (starEach es X.env)).any (·.1) = false := by rfl)
    (h3 : eval (.Call (.Attribute o m apos) (e :: es) [] pos) X.env = (do
      let ov ← eval o X.env
      standAt apos.atName
      let (f, first) ← holding [ov] (getMethod ov m pl)
      callWith pos f first (backTo pos (starEach (e :: es) X.env)) (backToKw pos (keywordEach [] X.env))) := by rfl) (hK : X.K = K := by rfl) :
    PE X (.Call (.Attribute o m apos) (e :: es) [] pos) (tMW (He.ga K C) m sp dvs W ta t) := by
  subst hK
  obtain ⟨fd, dl, ok, me, cl, hb, hd⟩ := c.ex
  refine ⟨fun pn sh st Hs Qv hin hq => PySem.W.methodCall_KW (pl := pl) (thn (ho.run pn sh st Hs _ hin hq) fun ov sh1 hx => ?_) h3⟩
  obtain ⟨x, G, in1, rx, a, dx, fs, ex, at_, no, hq2⟩ := hx
  subst ex
  cases rx
  refine getmeth_ok in1 at_ cl me no (PySem.W.callWith_K (first := [.ref a]) (h₀ := X.base) in1.ok.mod.kin me.kp (thn (ha.run pos pn sh1 st G _ in1 hq2) fun us sh2 hy => ?_) h1 h2)
  obtain ⟨av, G2, in2, rel, pr⟩ := hy
  exact ⟨in2.kIn, run_fnD (args := .ref a :: us) (av := .ref a :: av) hr in2 (.cons rfl rel) hd ok hb (L2N.passAt tk st) pr⟩
theorem pe_mtS0 (c : Mth X.prog X.w K X.base X.mg k C m ps sp dvs) (hr : Room k X.A) (tk : L2N.Takes X W) (ho : PE X o ta)
    (h3 : eval (.Call (.Attribute o m apos) [] [] pos) X.env = (do
      let ov ← eval o X.env
      standAt apos.atName
      let (f, first) ← holding [ov] (getMethod ov m pl)
      callWith pos f first (backTo pos (starEach [] X.env)) (backToKw pos (keywordEach [] X.env))) := by rfl) (hK : X.K = K := by rfl) :
    PE X (.Call (.Attribute o m apos) [] [] pos) (tMW (He.ga K C) m sp dvs W ta tNil) := by
  subst hK
  obtain ⟨fd, dl, ok, me, cl, hb, hd⟩ := c.ex
  refine ⟨fun pn sh st Hs Qv hin hq => PySem.W.methodCall_KW (pl := pl) (thn (ho.run pn sh st Hs _ hin hq) fun ov sh1 hx => ?_) h3⟩
  obtain ⟨x, G, in1, rx, a, dx, fs, ex, at_, no, pr⟩ := hx
  subst ex
  cases rx
  exact getmeth_ok in1 at_ cl me no (PySem.W.callWith_K0 (first := [.ref a]) in1.kIn me.kp (run_fnD (args := [.ref a]) (av := [.ref a]) hr in1 (.cons rfl .nil) hd ok hb (L2N.passAt tk st) pr))
theorem pe_mk (c : Mkr X.prog X.w K X.base X.mg k C ps sp dvs) (hr : Room (k + 1) X.A) (hg : Gl X C) (ha : PA X (e :: es) t)
    (hdb : (C == ("__debug__" : Str)) = false := by decide) (h1 : starEach (e :: es) X.env = (false, eval e X.env) :: starEach es X.env := by rfl) (h2 : (backTo pos (starEach es X.env)).any (·.1) = false := by rfl) (hK : X.K = K := by rfl) :
    PE X (.Call (.Name C p) (e :: es) [] pos) (tMake (He.ga K C) sp dvs E0 t) := by
  subst hK
  obtain ⟨fd, ds, F, mk, hm, hb, hd⟩ := c.ex
  exact pe_make mk F hr hg hm hb hd passN ha hdb h1 h2
theorem pe_mk0 (c : Mkr X.prog X.w K X.base X.mg k C ps sp dvs) (hr : Room (k + 1) X.A) (hg : Gl X C) (hdb : (C == ("__debug__" : Str)) = false := by decide) (hK : X.K = K := by rfl) :
    PE X (.Call (.Name C p) [] [] pos) (tMake (He.ga K C) sp dvs E0 tNil) := by
  subst hK
  obtain ⟨fd, ds, F, mk, hm, hb, hd⟩ := c.ex
  exact pe_make0 mk F hr hg hm hb hd passN hdb
theorem run_mkW {f C : Addr} {fd : FuncData} {dl : List Value} {Ex : XK} {pn : List (Addr × Obj)} {st : L2.St} {Hs : Hp} {sh : Shared} {Qv : VK} {args : List Value} {av : List V} (mk : Mk X.K C f) (hr : Room (k + 1) X.A) (hin : Inv X pn st Hs sh) (rel : Vals av args) (hd : Vals dvs dl)
    (ok : FnOk X.prog X.w X.K X.mg X.base (L2N.CX X.prog X.w) k f fd ps sp) (hb : Binds X.K fd ps dl) (out : PassesAt (L2N.CX X.prog X.w) X st Ex)
    (h : ∀ x dx, Hs x = none → Hs dx = none → dx ≠ x → sp (.ref x :: (av ++ dvs)) (upd (upd Hs dx (.own x)) x (.ins C dx [])) (fun v H2 => v = .non ∧ Qv (.ref x) H2) Ex) :
    wpAny (model X.prog X.w) X.A (call (.ref C) args) (EP X pn st Qv) X.xe sh := by
  have hq := h (sh.heap.objs.size + 1) sh.heap.objs.size (hin.hok.fresh (Nat.le_succ _)) (hin.hok.fresh (Nat.le_refl _)) (Nat.ne_of_lt (Nat.lt_succ_self _))
  have born := Inv.made (C := C) hin
  have rel2 : Vals (V.ref (sh.heap.objs.size + 1) :: (av ++ dvs)) (Value.ref (sh.heap.objs.size + 1) :: (args ++ dl)) := .cons rfl (rel.append hd)
  have size : (Value.ref (sh.heap.objs.size + 1) :: args ++ dl).length = ps.length := rel2.length.symm.trans (ok.len _ _ _ _ hq)
  refine wpAny_call (make_map (f := f) hin.kIn mk.makes mk.init (beq_iff_eq.mp mk.fn) (codeAny_mono (ok.run _ X.stack _ _ ⟨Value.ref (sh.heap.objs.size + 1) :: args, []⟩ (Value.ref (sh.heap.objs.size + 1) :: (args ++ dl)) _ _ Ex (hr.make C args [])
    (born.env0.make C args []) (hb _ (Value.ref (sh.heap.objs.size + 1) :: args) born.kIn size) rel2 hq) fun res sh2 fin => ?_))
  rcases res with er | fl
  · exact out pn _ _ er sh2 born fin
  · cases fl with
    | ret u =>
      obtain ⟨v, H', in3, rv, ev, q3⟩ := born.after fin
      subst ev
      exact ⟨rv, ⟨V.ref (sh.heap.objs.size + 1), H', in3, rfl, q3⟩⟩
    | next => exact fin.elim
    | brk => exact fin.elim
    | cont => exact fin.elim
theorem pe_mkS (c : Mkr X.prog X.w K X.base X.mg k C ps sp dvs) (hr : Room (k + 1) X.A) (tk : L2N.Takes X W) (hg : Gl X C) (ha : PA X (e :: es) t)
    (hdb : (C == ("__debug__" : Str)) = false := by decide) (h1 : starEach (e :: es) X.env = (false, eval e X.env) :: starEach es X.env := by rfl) (h2 : (backTo pos (starEach es X.env)).any (·.1) = false := by rfl) (hK : X.K = K := by rfl) :
    PE X (.Call (.Name C p) (e :: es) [] pos) (tKW (He.ga K C) sp dvs W t) := by
  subst hK
  obtain ⟨fd, dl, ok, mk, hm, hb, hd⟩ := c.ex
  refine ⟨fun pn sh st Hs Qv hin hq => wpAny_Call_Name_kw (ld_glob hin hg hm ?_ hdb)⟩
  refine PySem.W.callWith_K (h₀ := X.base) hin.ok.mod.kin mk.kp (thn (ha.run pos pn sh st Hs _ hin hq) fun us sh1 hy => ?_) h1 h2
  obtain ⟨av, G, in1, rel, pr⟩ := hy
  exact ⟨in1.kIn, run_mkW mk hr in1 rel hd ok hb (L2N.passAt tk st) pr⟩
end
theorem in_of {X : Cx} {op : Operator} {t : TIp} (h : PIp X op t) : InOp X op t := fun pn s σ H x y u v Q I r1 r2 z => h pn s σ H x y u v Q I r1 r2 z
/-! ### readings -/
def FldO (K : PySem.W.Frag) (H : Hp) (a : Addr) (f : Str) (Q : VK) : Prop := ∃ C dx fs v, H a = some (.ins C dx fs) ∧ Cls K C ∧ NoAttr K C f ∧ fs.lookup f = some v ∧ Q v H
def FldC (K : PySem.W.Frag) (H : Hp) (a : Addr) (f : Str) (R : Addr → V → Prop) : Prop := ∃ C dx fs v, H a = some (.ins C dx fs) ∧ Cls K C ∧ NoAttr K C f ∧ fs.lookup f = some v ∧ R C v
def PutC (H : Hp) (a C : Addr) (f : Str) (y : V) (QH : Hp → Prop) : Prop := ∃ dx fs, H a = some (.ins C dx fs) ∧ fs.length < 1000 ∧ QH (upd H a (.ins C dx (putF f y fs)))
def StoO (K : PySem.W.Frag) (H : Hp) (a : Addr) (f : Str) (y : V) (QH : Hp → Prop) : Prop := ∃ C dx fs, H a = some (.ins C dx fs) ∧ Cls K C ∧ NoAttr K C f ∧ fs.length < 1000 ∧ QH (upd H a (.ins C dx (putF f y fs)))
def MetO (H : Hp) (a C : Addr) (m : Str) (P : Prop) : Prop := ∃ dx fs, H a = some (.ins C dx fs) ∧ fs.lookup m = none ∧ P
def MakO (H : Hp) (C : Addr) (P : Addr → Hp → Prop) : Prop := ∀ x dx, H x = none → H dx = none → dx ≠ x → P x (upd (upd H dx (.own x)) x (.ins C dx []))
section
variable {K : PySem.W.Frag} {ta tv : TE} {t : TA} {f m : Str} {σ : L2.St} {H : Hp} {Q : VK} {D : Ends} {C : Addr} {sp : Sp} {dvs : List V} {E : XK} {W : WX} {rd : V → V → Hp → VK → Prop}
theorem n_fld : tFld K ta f σ H Q = ta σ H (fun x H1 => ∃ a, x = .ref a ∧ FldO K H1 a f Q) := by
  unfold tFld FldO
  congr 1
  funext x H1
  refine propext ⟨fun ⟨a, C, dx, fs, v, e1, h⟩ => ⟨a, e1, C, dx, fs, v, h⟩, fun ⟨a, e1, C, dx, fs, v, h⟩ => ⟨a, C, dx, fs, v, e1, h⟩⟩
theorem n_sfld : sFld K ta tv f D σ H = tv σ H (fun y H1 => ta σ H1 (fun x H2 => ∃ a, x = .ref a ∧ StoO K H2 a f y (fun H' => D.nx σ H'))) := by
  unfold sFld StoO
  congr 1
  funext y H1
  congr 1
  funext x H2
  refine propext ⟨fun ⟨a, C, dx, fs, e1, h⟩ => ⟨a, e1, C, dx, fs, h⟩, fun ⟨a, e1, C, dx, fs, h⟩ => ⟨a, C, dx, fs, e1, h⟩⟩
theorem n_aug : sFldAug K ta tv rd f D σ H = ta σ H (fun x H1 => ∃ a, x = .ref a ∧ FldC K H1 a f (fun C v => tv σ H1 (fun y H2 => rd v y H2 (fun z H3 => PutC H3 a C f z (fun H' => D.nx σ H'))))) := by
  unfold sFldAug FldC PutC
  congr 1
  funext x H1
  refine propext ⟨fun ⟨a, C, dx, fs, v, e1, h⟩ => ⟨a, e1, C, dx, fs, v, h⟩, fun ⟨a, e1, C, dx, fs, v, h⟩ => ⟨a, C, dx, fs, v, e1, h⟩⟩
theorem n_meth : tMeth C m sp dvs E ta t σ H Q = ta σ H (fun x H1 => ∃ a, x = .ref a ∧ MetO H1 a C m (t σ H1 (fun vs H2 => sp (x :: (vs ++ dvs)) H2 Q E))) := by
  unfold tMeth MetO
  congr 1
  funext x H1
  refine propext ⟨fun ⟨a, dx, fs, e1, e2, e3, h⟩ => ⟨a, e1, dx, fs, e2, e3, h⟩, fun ⟨a, e1, dx, fs, e2, e3, h⟩ => ⟨a, dx, fs, e1, e2, e3, h⟩⟩
theorem n_mw : tMW C m sp dvs W ta t σ H Q = ta σ H (fun x H1 => ∃ a, x = .ref a ∧ MetO H1 a C m (t σ H1 (fun vs H2 => sp (x :: (vs ++ dvs)) H2 Q (WE W σ)))) := by
  unfold tMW MetO
  congr 1
  funext x H1
  refine propext ⟨fun ⟨a, dx, fs, e1, e2, e3, h⟩ => ⟨a, e1, dx, fs, e2, e3, h⟩, fun ⟨a, e1, dx, fs, e2, e3, h⟩ => ⟨a, dx, fs, e1, e2, e3, h⟩⟩
theorem n_make : tMake C sp dvs E t σ H Q = t σ H (fun vs H1 => MakO H1 C (fun x H2 => sp (.ref x :: (vs ++ dvs)) H2 (fun v H3 => v = .non ∧ Q (.ref x) H3) E)) := rfl
theorem n_kw : tKW C sp dvs W t σ H Q = t σ H (fun vs H1 => MakO H1 C (fun x H2 => sp (.ref x :: (vs ++ dvs)) H2 (fun v H3 => v = .non ∧ Q (.ref x) H3) (WE W σ))) := rfl
end
section
variable {K : PySem.W.Frag} {B H : Hp} {l l' : List As} {a C dx : Addr} {f m : Str} {fs fs' : List (Str × V)} {v y : V} {Q : VK} {QH : Hp → Prop} {P : Prop}
theorem g_fldO (h : FldO K H a f Q) : FldO K H a f Q := h
theorem g_fldC {R : Addr → V → Prop} (h : FldC K H a f R) : FldC K H a f R := h
theorem g_putC (h : PutC H a C f y QH) : PutC H a C f y QH := h
theorem fldC {R : Addr → V → Prop} {Cn : Str} {ns : List Str} (ha : H a = some (.ins (He.ga K Cn) dx fs)) (tc : ClsF K Cn ns) (hf : f ∈ ns) (lk : fs.lookup f = some v) (q : R (He.ga K Cn) v) : FldC K H a f R := ⟨_, _, _, _, ha, tc.cl, tc.na f hf, lk, q⟩
theorem putC (L : Own K B H l) (pp : Put l a (.ins C dx fs) (.ins C dx fs') l') (e : putF f y fs = fs') (hn : fs.length < 1000) (h : ∀ H', Own K B H' l' → QH H') : PutC H a C f y QH := by
  subst e
  exact ⟨_, _, L.get pp.mem, hn, h _ (L.put rfl pp)⟩
theorem g_stoO (h : StoO K H a f y QH) : StoO K H a f y QH := h
theorem g_metO (h : MetO H a C m P) : MetO H a C m P := h
theorem g_makO {P : Addr → Hp → Prop} (h : MakO H C P) : MakO H C P := h
theorem fldO {Cn : Str} {ns : List Str} (ha : H a = some (.ins (He.ga K Cn) dx fs)) (tc : ClsF K Cn ns) (hf : f ∈ ns) (lk : fs.lookup f = some v) (q : Q v H) : FldO K H a f Q := ⟨_, _, _, _, ha, tc.cl, tc.na f hf, lk, q⟩
theorem stoO {Cn : Str} {ns : List Str} (L : Own K B H l) (pp : Put l a (.ins (He.ga K Cn) dx fs) (.ins (He.ga K Cn) dx fs') l') (e : putF f y fs = fs') (tc : ClsF K Cn ns) (hf : f ∈ ns) (hn : fs.length < 1000) (h : ∀ H', Own K B H' l' → QH H') : StoO K H a f y QH := by
  subst e
  exact ⟨_, _, _, L.get pp.mem, tc.cl, tc.na f hf, hn, h _ (L.put rfl pp)⟩
theorem metO (ha : H a = some (.ins C dx fs)) (lk : fs.lookup m = none) (q : P) : MetO H a C m P := ⟨_, _, ha, lk, q⟩
theorem makO {P : Addr → Hp → Prop} (L : Own K B H l) (h : ∀ x dx H', Own K B H' (.pt x (.ins C dx []) :: .pt dx (.own x) :: l) → P x H') : MakO H C P := by
  intro x dx hx hd hn
  refine h x dx _ ((L.new hd _).new ?_ _)
  rw [upd_ne (Ne.symm hn)]
  exact hx
end
/-! lookups in written lists of fields -/
theorem lk_here {k : Str} {v : V} {l : List (Str × V)} : List.lookup k ((k, v) :: l) = some v := by
  show (match k == k with | true => some v | false => List.lookup k l) = some v
  rw [beq_self_eq_true]
theorem lk_skip {k g : Str} {v : V} {l : List (Str × V)} (h : (k == g) = false) : List.lookup k ((g, v) :: l) = List.lookup k l := by
  show (match k == g with | true => some v | false => List.lookup k l) = _
  rw [h]
theorem lk_nil {k : Str} : List.lookup k ([] : List (Str × V)) = none := rfl
theorem pf_nil {k : Str} {v : V} : putF k v [] = [(k, v)] := rfl
theorem pf_here {k : Str} {u v : V} {l : List (Str × V)} : putF k v ((k, u) :: l) = (k, v) :: l := if_pos rfl
theorem pf_skip {k g : Str} {u v : V} {l : List (Str × V)} (h : (k == g) = false) : putF k v ((g, u) :: l) = (g, u) :: putF k v l := if_neg fun e => by
  rw [e, beq_self_eq_true] at h
  cases h
/-! ### calls that change cells -/
inductive Take : List As → Addr → HO → List As → Prop
  | here {l : List As} {a : Addr} {o : HO} : Take (.pt a o :: l) a o l
  | there {l l' : List As} {x : As} {a : Addr} {o : HO} : Take l a o l' → Take (x :: l) a o (x :: l')
theorem Take.perm {l l' : List As} {a : Addr} {o : HO} (t : Take l a o l') : l.Perm (.pt a o :: l') := by
  induction t with
  | here => exact List.Perm.refl _
  | there _ ih => exact (List.Perm.cons _ ih).trans (List.Perm.swap _ _ _)
theorem Own.mut1 {K : PySem.W.Frag} {B H H' : Hp} {l l0 l' : List As} {a : Addr} {o : HO} (L : Own K B H l) (t : Take l a o l0) (M : Own K (delL H [a]) H' l') (m : mutb o = true := by rfl) : Own K B H' (l' ++ l0) := by
  refine Own.muts (l1 := [.pt a o]) (L.perm t.perm) (fun b u h => ?_) M
  cases List.mem_singleton.mp h
  exact m
theorem Own.mut2 {K : PySem.W.Frag} {B H H' : Hp} {l l1 l0 l' : List As} {a b : Addr} {o u : HO} (L : Own K B H l) (t : Take l a o l1) (t2 : Take l1 b u l0) (M : Own K (delL H [a, b]) H' l') (m : mutb o = true := by rfl) (m2 : mutb u = true := by rfl) : Own K B H' (l' ++ l0) := by
  refine Own.muts (l1 := [.pt a o, .pt b u]) (L.perm (t.perm.trans (List.Perm.cons _ t2.perm))) (fun c w h => ?_) M
  rcases List.mem_cons.mp h with e | h
  · cases e
    exact m
  · cases List.mem_singleton.mp h
    exact m2
/-- inside a def that changes the cells of l alone -/
theorem Own.in1 {K : PySem.W.Frag} {H : Hp} {a : Addr} {o : HO} (h : H a = some o) : Own K (delL H [a]) H [.pt a o] := by
  refine ⟨fun b u e => ?_, ?_, fun x hx => ?_⟩
  · by_cases z : b ∈ [a]
    · rw [delL_in z] at e
      cases e
    · rw [delL_out z] at e
      exact e
  · exact List.nodup_cons.mpr ⟨List.not_mem_nil, List.nodup_nil⟩
  · rw [List.mem_singleton.mp hx]
    exact ⟨h, delL_in (.head _)⟩
theorem Own.in2 {K : PySem.W.Frag} {H : Hp} {a b : Addr} {o u : HO} (h : H a = some o) (h2 : H b = some u) (n : a ≠ b) : Own K (delL H [a, b]) H [.pt a o, .pt b u] := by
  refine ⟨fun c w e => ?_, ?_, fun x hx => ?_⟩
  · by_cases z : c ∈ [a, b]
    · rw [delL_in z] at e
      cases e
    · rw [delL_out z] at e
      exact e
  · exact List.nodup_cons.mpr ⟨fun z => n (List.mem_singleton.mp z), List.nodup_cons.mpr ⟨List.not_mem_nil, List.nodup_nil⟩⟩
  · rcases List.mem_cons.mp hx with e | hx
    · rw [e]
      exact ⟨h, delL_in (.head _)⟩
    · rw [List.mem_singleton.mp hx]
      exact ⟨h2, delL_in (.tail _ (.head _))⟩
theorem delL_sq {K : PySem.W.Frag} {H : Hp} {a b : Addr} {o : HO} {xs : List V} (h : SqL K H b xs) (e : H a = some o) (n : ∀ ys, o ≠ .lst ys) (n2 : ∀ w u, o ≠ .frz w u) : SqL K (delL H [a]) b xs := by
  rcases h with (g | ⟨w, g⟩) | g
  · refine .inl (.inl ?_)
    rw [delL_out]
    · exact g
    · intro z
      rw [List.mem_singleton.mp z, e] at g
      cases g
      exact n _ rfl
  · refine .inl (.inr ⟨w, ?_⟩)
    rw [delL_out]
    · exact g
    · intro z
      rw [List.mem_singleton.mp z, e] at g
      cases g
      exact n2 _ _ rfl
  · exact .inr g
/-! what is needed, in another order -/
inductive Pick : List As → List As → Prop
  | nil {l : List As} : Pick l []
  | cons {l l1 l' : List As} {a : Addr} {o : HO} : Take l a o l1 → Pick l1 l' → Pick l (.pt a o :: l')
  | im {l l' : List As} {v : V} {d : PyData} : As.im v d ∈ l → Pick l l' → Pick l (.im v d :: l')
  | ims {l l' : List As} {vs : List V} {ds : List PyData} : As.ims vs ds ∈ l → Pick l l' → Pick l (.ims vs ds :: l')
theorem Own.pick0 {K : PySem.W.Frag} {B H : Hp} {l l' : List As} (p : Pick l l') : Own K B H l → Own K B H l' := by
  induction p with
  | nil => exact fun L => L.sub (List.nil_sublist _)
  | @cons l l1 l' a o t q ih =>
    intro L
    have L1 := L.perm t.perm
    have L2 := ih L1.drop1
    refine L2.add (L1.all _ (.head _)) fun b hb hn => ?_
    obtain rfl := List.mem_singleton.mp hb
    have nd := L1.nd
    unfold ads at nd
    rw [List.flatMap_cons] at nd
    have dis := (List.nodup_append.mp nd).2.2 b hb
    have sub : ∀ {l l' : List As}, Pick l l' → ∀ x ∈ ads l', x ∈ ads l := by
      intro l l' p
      induction p with
      | nil => exact fun x m => nomatch m
      | @cons l l1 l' a o t q ih2 =>
        intro x m
        have e : ads (As.pt a o :: l') = a :: ads l' := rfl
        rw [e] at m
        have pe : (ads l).Perm (a :: ads l1) := t.perm.flatMap_right _
        rcases List.mem_cons.mp m with h | h
        · exact pe.mem_iff.mpr (h ▸ .head _)
        · exact pe.mem_iff.mpr (.tail _ (ih2 x h))
      | im _ _ ih2 => exact fun x m => ih2 x m
      | ims _ _ ih2 => exact fun x m => ih2 x m
    exact dis b (sub q b hn) rfl
  | im h _ ih => exact fun L => (ih L).addIm (L.imm h)
  | ims h _ ih => exact fun L => (ih L).addIms (L.imms h)
theorem Own.pick {K : PySem.W.Frag} {B H : Hp} {l l' : List As} (L : Own K B H l) (p : Pick l l') : Own K B H l' := Own.pick0 p L
end Bel
namespace Bel
open PySem PySem.Spec PyProof.Rows L2
/-! ### methods called where an exception is handled -/
structure MthH (P : Program) (w : World) (K : PySem.W.Frag) (base : Heap) (mg : Str → Option Value) (k : Nat) (C m : Str) (ps : List Str) (sp : Sp) : Prop where
  ex : ∃ fd : FuncData, L2H.FnH P w K mg base (L2N.CX P w) k (He.ma K (He.ga K C) m) fd ps sp ∧ Meth K (He.ga K C) m (He.ma K (He.ga K C) m) ∧ Cls K (He.ga K C) ∧ Binds K fd ps []
theorem okN {P : Program} {w : World} {K : PySem.W.Frag} {mg : Str → Option Value} {base : Heap} {x qual : Str} {params : Arguments} {body : List Stmt} {scope : Scope} {f : Addr} {fd : FuncData} {N ps : List Str} {k : Nat} {sp : Sp}
    (F : FunD K x qual params body scope [] [] f fd) (S : FnScope N ps scope) (len : ∀ vs H Q E, sp vs H Q E → vs.length = ps.length)
    (go : ∀ (cd : Value) (A : Around) (outer : List Env) (s : Shared) (H : Hp) (vs : List V) (Q : VK) (E : XK) (p : Addr × Obj), L2H.RoomH k (A.deeper (envOfC qual scope s.heap.objs.size f cd)) → sp vs H Q E →
      ∃ t, PSs (L2H.cxH (L2N.CX P w) P w K mg base N qual scope f cd A outer s H E p) body t ∧ t { nx := fun _ H' => Q .non H', rt := Q } (L2.start N vs) H) :
    L2H.FnH P w K mg base (L2N.CX P w) (k + 1) f fd ps sp := by
  obtain ⟨_, _, _, _, _, _, _, cd, _, _, rfl, at_, code, _, _⟩ := F.ex
  exact L2H.fn_ofH at_ code S len fun A outer s H vs Q E p _ room want => go cd A outer s H vs Q E p room want
theorem hotC_of {X : Cx} {a : Addr} {oe : Obj} {cls : Value} {d : Option Addr} {pn : List (Addr × Obj)} (hz : L2N.Zn cls d oe) (hf : ∃ vs, oe.data = .fields vs) : L2H.HotC (X.suite a ((a, oe) :: pn)) := by
  obtain ⟨vs, e⟩ := hf
  exact ⟨(a, oe), ⟨rfl, vs, e, hz.2.2 vs e⟩, .head _⟩
theorem pe_mtH0 {X : Cx} {K : PySem.W.Frag} {k : Nat} {C m : Str} {ps : List Str} {sp : Sp} {o : Expr} {ta : TE} {apos pos : Pos} {pl : Sem Bool} (c : MthH X.prog X.w K X.base X.mg k C m ps sp) (hr : L2H.RoomH k X.A) (hot : L2H.HotC X) (ho : PE X o ta)
    (h3 : eval (.Call (.Attribute o m apos) [] [] pos) X.env = (do
      let ov ← eval o X.env
      standAt apos.atName
      let (f, first) ← holding [ov] (getMethod ov m pl)
      callWith pos f first (backTo pos (starEach [] X.env)) (backToKw pos (keywordEach [] X.env))) := by rfl) (hK : X.K = K := by rfl) :
    PE X (.Call (.Attribute o m apos) [] [] pos) (tMeth (He.ga K C) m sp [] E0 ta tNil) := by
  subst hK
  obtain ⟨fd, F, me, cl, hb⟩ := c.ex
  refine ⟨fun pn sh st Hs Qv hin hq => PySem.W.methodCall_KW (pl := pl) (thn (ho.run pn sh st Hs _ hin hq) fun ov sh1 hx => ?_) h3⟩
  obtain ⟨x, G, in1, rx, a, dx, fs, ex, at_, no, pr⟩ := hx
  subst ex
  cases rx
  have out : ∀ σ, PassesAt (L2N.CX X.prog X.w) X σ E0 := fun σ pins H s e s' _ z => by
    obtain ⟨_, _, _, _, _, _, _, _, _, _, _, _, f⟩ := z
    cases f
  exact getmeth_ok in1 at_ cl me no (PySem.W.callWith_K0 (first := [.ref a]) in1.kIn me.kp (L2H.run_fnH (E := fun _ => E0) (us := [.ref a]) (vs := [.ref a]) F hr hot hb (out st) in1 (.cons rfl .nil) pr))
end Bel

namespace Bel
open PySem PySem.Spec PyProof.Rows L2
/-! ### dicts: made, filled, asked -/
def DPO (H : Hp) (a : Addr) (y v : V) (QH : Hp → Prop) : Prop := ∃ H4, DPut H a y v H4 ∧ QH H4
def DGO (H : Hp) (a : Addr) (y : V) (Q : VK) : Prop := ∃ v, DGet H a y (some v) ∧ Q v H
def DIO (H : Hp) (a : Addr) (y : V) (Q : VK) : Prop := ∃ o, DGet H a y o ∧ Q (.bl o.isSome) H
section
variable {K : PySem.W.Frag} {td ty tv : TE} {σ : L2.St} {H : Hp} {Q : VK} {D : Ends}
theorem n_dput : sDPut td ty tv D σ H = tv σ H (fun v H1 => td σ H1 (fun x H2 => ty σ H2 (fun y H3 => ∃ a, x = .ref a ∧ DPO H3 a y v (fun H4 => D.nx σ H4)))) := by
  unfold sDPut DPO
  congr 1
  funext v H1
  congr 1
  funext x H2
  congr 1
  funext y H3
  refine propext ⟨fun ⟨a, H4, e, h⟩ => ⟨a, e, H4, h⟩, fun ⟨a, e, H4, h⟩ => ⟨a, H4, e, h⟩⟩
theorem n_dget : tDGet td ty σ H Q = td σ H (fun x H1 => ty σ H1 (fun y H2 => ∃ a, x = .ref a ∧ DGO H2 a y Q)) := by
  unfold tDGet DGO
  congr 1
  funext x H1
  congr 1
  funext y H2
  refine propext ⟨fun ⟨a, v, e, h⟩ => ⟨a, e, v, h⟩, fun ⟨a, e, v, h⟩ => ⟨a, v, e, h⟩⟩
theorem n_din : tDIn ty td σ H Q = ty σ H (fun y H1 => td σ H1 (fun x H2 => ∃ a, x = .ref a ∧ DIO H2 a y Q)) := by
  unfold tDIn DIO
  congr 1
  funext y H1
  congr 1
  funext x H2
  refine propext ⟨fun ⟨a, v, e, h⟩ => ⟨a, e, v, h⟩, fun ⟨a, e, v, h⟩ => ⟨a, v, e, h⟩⟩
def IsDO (H : Hp) (a : Addr) (P : Prop) : Prop := IsD H a ∧ P
def DG2 (H : Hp) (a : Addr) (y z : V) (Q : VK) : Prop := ∃ o, DGet H a y o ∧ Q (o.getD z) H
theorem n_dget2 {tx : TE} : tDGet2 td ty tx σ H Q = td σ H (fun x H1 => ∃ a, x = .ref a ∧ IsDO H1 a (ty σ H1 (fun y H2 => tx σ H2 (fun z H3 => DG2 H3 a y z Q)))) := rfl
theorem n_glst {n : Nat} {gs : TGs} {v : V} {QG : L2.St → Hp → Prop} : gLst K n gs v σ H QG = ∃ a xs, v = .ref a ∧ SqL K H a xs ∧ xs.length = n ∧ gs xs σ H QG := rfl
theorem n_dnew : tDNewK σ H Q = NewO H (.dK []) Q := rfl
end
section
variable {K : PySem.W.Frag} {B H : Hp} {l l' : List As} {a : Addr} {kvs : List (Key × V)} {i : Int} {v y : V} {Q : VK} {QH : Hp → Prop}
theorem g_dputO (h : DPO H a y v QH) : DPO H a y v QH := h
theorem g_dgetO (h : DGO H a y Q) : DGO H a y Q := h
theorem g_dinO (h : DIO H a y Q) : DIO H a y Q := h
theorem dputI (L : Own K B H l) (pp : Put l a (.dK kvs) (.dK (putK kvs (.inl i) v)) l') (hl : kvs.length < sizeLine) (h : ∀ H', Own K B H' l' → QH H') : DPO H a (.int i) v QH := ⟨_, DPut.k (k := .inl i) (L.get pp.mem) hl, h _ (L.put rfl pp)⟩
theorem dgetI (e : H a = some (.dK kvs)) (h : valV kvs (.inl i) = some v) (q : Q v H) : DGO H a (.int i) Q := ⟨v, h ▸ DGet.k (k := .inl i) e, q⟩
theorem g_isDO {P : Prop} (h : IsDO H a P) : IsDO H a P := h
theorem g_dg2 {z : V} (h : DG2 H a y z Q) : DG2 H a y z Q := h
theorem isDO {P : Prop} (e : H a = some (.dK kvs)) (p : P) : IsDO H a P := ⟨.inl ⟨kvs, .inl e⟩, p⟩
theorem dg2I {z : V} (e : H a = some (.dK kvs)) (q : Q ((valV kvs (.inl i)).getD z) H) : DG2 H a (.int i) z Q := ⟨_, DGet.k (k := .inl i) e, q⟩
theorem dinI (e : H a = some (.dK kvs)) (q : Q (.bl (valV kvs (.inl i)).isSome) H) : DIO H a (.int i) Q := ⟨_, DGet.k (k := .inl i) e, q⟩
end
end Bel

/-! ### isinstance of a caught error whose object has a dict -/
namespace PySem.W
open PySem PySem.Spec PySem.Calls PyProof.Rows
section
variable {prog : Program} {w : World} {A : Around} {E : Value → Shared → Prop} {s : Shared} {K : Frag} {x D : Addr} {ox : Obj} {od : Option Obj}
theorem bel_find {C : Addr} {name : Str} {a g : Value} (hc : (clsIn K C).isSome = true) (ha : findIn K (.ref C) name = some (some a))
    (hg : specialIn K a "__get__" = some (some g)) (ht : takesIn K a = some true) : findObj K C od name = some (.bind g a) := by
  cases e : clsIn K C with
  | none =>
    rw [e] at hc
    cases hc
  | some cd =>
    simp [findObj, e, ha, hg, ht]
theorem bel_class {Q : Option Value → Shared → Prop} (F : L2.ExcC K D) (X : K.In s.heap) (I : InstAt s.heap x ox D od)
    (h : Q (some (.ref D)) { s with toks := s.toks + 1 }) :
    wpAny (model prog w) A (getAttr? (.ref x) "__class__") Q E s := by
  obtain ⟨own, kept, sub0, dic, cla, get0, tak, mro⟩ := F
  have some_ : (clsIn K D).isSome = true := by
    obtain ⟨_, e, _⟩ := any_some dic
    rw [e]
    rfl
  obtain ⟨hp, g, d, t, os⟩ := s
  have l0 := I.type (M := model prog w)
  have l1 := looks_findIn (M := model prog w) X own
  have l2 := looks_findIn (M := model prog w) X kept
  have l3 := looks_find (M := model prog w) X I (bel_find some_ cla get0 tak)
  have isB : Looks (model prog w) hp (isInstance (.ref x) (.type "BaseException")) true :=
    l0.andThen (looks_subIn X sub0)
  have no : (Value.builtin "BaseException.__getattribute__" == Value.builtin "object.__getattribute__") = false := by
    decide +kernel
  have no2 : (onTheHeap (Value.ref D) && (Value.builtin "BaseException.__getattribute__" == Value.builtin "object.__getattribute__")) = false := by
    rw [no]
    rfl
  unfold getAttr? getAttrBy? getAttrBy
  refine wpAny_bind (wpAny_mkText (wpAny_bind (wpAny_attempt (wpAny_holding
    (wpAny_bind (l0.at (wpAny_bind (l1.at ?_))))))))
  show wpAny _ _ (if (onTheHeap (Value.ref D) && _) = true then _ else _) _ _ _
  rw [no2]
  rw [if_neg Bool.false_ne_true]
  unfold getAttrByItsOwn hookBefore
  refine wpAny_bind ?_
  rw [if_pos (show onTheHeap (.ref D) = true from rfl)]
  refine l2.at (wpAny_bind (wpAny_attempt (wpAny_holding ?_)))
  unfold callGetattribute
  rw [show (false && onTheHeap (.builtin "BaseException.__getattribute__")) = false from rfl]
  rw [if_neg Bool.false_ne_true]
  unfold boundAndCalled
  rw [F.excAttr_ValueError.ga.bind (.ref x)]
  refine wpAny_bind (wpAny_pure ?_)
  show wpAny _ _ (call (.builtin "BaseException.__getattribute__") [_, _]) _ _ _
  refine wpAny_call (codeAny_call_builtin
    F.excAttr_ValueError.ga.plain F.entry_bexc_ga ?_)
  refine @check_slot (model prog w) _ _ ⟨hp, g, d, t + 1, os⟩ "BaseException.__getattribute__"
    "BaseException" "__getattribute__" (.ref x) [.str "__class__" t] [] _
    (by decide +kernel) (by decide +kernel) isB (F.args_bexc_ga _ _) ?_
  unfold Builtin.«object.__getattribute__»
  refine wpAny_bind (wpAny_of_eq (a := ((Value.ref x : Value), [Value.str "__class__" t]))
    (by first | rfl | (simp only [slotArgs]; rfl)) ?_)
  refine wpAny_bind (wpAny_pure (wpAny_bind (l0.at (wpAny_bind (l3.at ?_)))))
  show wpAny _ _ (holding [_] (call (.builtin "getset_descriptor.__get__") [_, _, _]) >>= ret) _ _ _
  refine wpAny_bind (wpAny_holding (wpAny_call
    (class_get (s := ⟨hp, g, d, t + 1, os⟩) (ox := ox) (od := od) X I mro ?_)))
  refine wpAny_pure ?_
  show wpAny _ _ (handedOut (.ref D)) _ _ _
  rw [handedOut_of (v := .ref D) rfl]
  first
    | exact wpAny_pure (wpAny_pure h)
    | exact wpAny_pure h
    | exact wpAny_pure (wpAny_bind (wpAny_pure (wpAny_pure h)))
end
end PySem.W
namespace PySem.W
open PySem PySem.Spec PySem.Calls PyProof.Rows
theorem bel_kit {K : Frag} {x D : Addr} {ox : Obj} {od : Option Obj} (F : L2.ExcC K D) : KitX K (.ref x) (.ref D) (fun h => InstAt h x ox D od) := by
  have cls : ∃ c d cd sl, K.lookup D = some ⟨c, d, .cls cd, sl⟩ := by
    obtain ⟨cd, e, _⟩ := any_some F.hd
    unfold clsIn at e
    split at e
    · rename_i c d cd sl there
      exact ⟨c, d, cd, sl, there⟩
    · cases e
  obtain ⟨c, d, cd, sl, there⟩ := cls
  refine ⟨fun _ _ _ I => I.type, fun _ _ X _ => ?_, fun h tp dd its n sl' X at_ => ?_, fun X I k => bel_class F X I k⟩
  · intro A Q E s k q
    unfold isType loadHead
    exact wpAny_bind (wpAny_loadPart (k _ _ (X _ _ there)) (wpAny_pure q))
  · apply Bool.eq_false_iff.mpr
    intro q
    cases Value.ref.inj (beq_iff_eq.mp q)
    cases (X _ _ there).symm.trans at_
end PySem.W
namespace Bel
open PySem PySem.Spec PyProof.Rows L2
/-- isinstance(e, c) of the error that the suite holds -/
def rIsX (K : PySem.W.Frag) (a : Addr) (cls : Value) (d : Option Addr) : List V → Hp → VK → Prop := fun xs H Q => ∃ (c : V) (cv : Value) (b : Bool) (D dd : Addr) (fs : List (Str × V)), xs = [.ref a, c] ∧ cls = .ref D ∧ d = some dd ∧ H dd = some (.xd fs) ∧ ExcC K D ∧
  (∀ u, RelV c u → u = cv) ∧ PySem.W.kitOne K (.ref D) cv = some b ∧ Q (.bl b) H
theorem call_isX {X : Cx} {a : Addr} {oe : Obj} {cls : Value} {d : Option Addr} {pn : List (Addr × Obj)} (hz : L2N.Zn cls d oe) (hf : ∃ vs, oe.data = .fields vs) : CallR (X.suite a ((a, oe) :: pn)) (.builtin "isinstance") (rIsX X.K a cls d) := by
  intro pins s σ H xs us Q I r h
  obtain ⟨c, cv, b, D, dd, fs, rfl, rfl, rfl, hx, F, same, e, q⟩ := h
  obtain ⟨u1, u2, rfl, r1, r2⟩ := vals2 r
  cases r1
  cases same _ r2
  obtain ⟨here, _⟩ := I.pin (a, oe) (List.mem_append_left _ (.head _))
  obtain ⟨vs, hv⟩ := hf
  obtain ⟨_, ⟨od, _, _, ho, _⟩, _⟩ := (show ObjOk X.prog X.w H s.heap dd (.xd fs) from I.hok dd _ hx)
  have J : PySem.W.InstAt s.heap a oe D (some od) :=
    ⟨here, hz.1, by unfold PySem.W.notCls; rw [hv], by rw [hz.2.1]; exact ho⟩
  exact PySem.W.kia_one (PySem.W.bel_kit F) I.kIn J e (fun z => nomatch z) fun tk => ⟨.bl b, H, I.tok tk, rfl, q⟩
end Bel
namespace Bel
open PySem PySem.Spec PyProof.Rows L2
/-! ### tuples in a constant tuple -/
def elA (x : Str) (i : Nat) (K : PySem.W.Frag) : Addr := match K.lookup (He.ga K x) with
  | some ⟨_, _, .seq its _, _⟩ => (match its.toList[i]? with
    | some (.ref a) => a
    | _ => 0)
  | _ => 0
def tpB (K : PySem.W.Frag) (a : Addr) (vs : List He.Dv) : Bool := match K.lookup a with
  | some ⟨.type c, _, .seq its _, _⟩ => decide (c = "tuple") && (decide (its.size ≤ sizeLine) && He.relAll (vs.map (He.Dv.v K)) its.toList)
  | _ => false
theorem tpB_ok {K : PySem.W.Frag} {a : Addr} {vs : List He.Dv} (h : tpB K a vs = true) (H : Hp) : SqT K H a (vs.map (He.Dv.v K)) := by
  unfold tpB at h
  split at h
  · rename_i c d its n sl at_
    obtain ⟨e1, h⟩ := ba h
    obtain ⟨e2, e3⟩ := ba h
    exact .inr ⟨_, its, n, at_, by rw [of_decide_eq_true e1], rfl, of_decide_eq_true e2, He.relAll_ok e3⟩
  · cases h
/-! ### what isinstance of an error asks of its class -/
def exCB (K : PySem.W.Frag) (x : Str) : Bool :=
  decide (PySem.W.findIn K (.ref (He.ga K x)) "__getattribute__" = some (some (.builtin "BaseException.__getattribute__"))) &&
  (decide (PySem.W.findIn K (.ref (He.ga K x)) "__getattr__" = some none) &&
  (decide (PySem.W.subIn K (.ref (He.ga K x)) (.type "BaseException") = some true) &&
  (PySem.W.hasDictIn K (He.ga K x) &&
  (decide (PySem.W.findIn K (.ref (He.ga K x)) "__class__" = some (some (.builtin "object.__class__"))) &&
  (decide (PySem.W.specialIn K (.builtin "object.__class__") "__get__" = some (some (.builtin "getset_descriptor.__get__"))) &&
  (decide (PySem.W.takesIn K (.builtin "object.__class__") = some true) &&
  decide (PySem.W.mroIn K (He.ga K x) (.type "object") = some true)))))))
theorem exCB_ok {K : PySem.W.Frag} {x : Str} (c : exCB K x = true) : ExcC K (He.ga K x) := by
  obtain ⟨a1, c⟩ := ba c
  obtain ⟨a2, c⟩ := ba c
  obtain ⟨a3, c⟩ := ba c
  obtain ⟨a4, c⟩ := ba c
  obtain ⟨a5, c⟩ := ba c
  obtain ⟨a6, c⟩ := ba c
  obtain ⟨a7, a8⟩ := ba c
  exact ⟨of_decide_eq_true a1, of_decide_eq_true a2, of_decide_eq_true a3, a4, of_decide_eq_true a5, of_decide_eq_true a6, of_decide_eq_true a7, of_decide_eq_true a8⟩
theorem isX {X : Cx} (K : PySem.W.Frag) {a : Addr} {oe : Obj} {cls : Value} {d : Option Addr} {pn : List (Addr × Obj)} (hz : L2N.Zn cls d oe) (hf : ∃ vs, oe.data = .fields vs) (h : X.K = K := by rfl) : CallR (X.suite a ((a, oe) :: pn)) (.builtin "isinstance") (rIsX K a cls d) := h ▸ call_isX hz hf
end Bel

namespace Bel
open PySem PySem.Spec PyProof.Rows L2
theorem g_asl {n : Nat} {es : List Expr} {env : Env} {B : Prop} (h : n = (assignEach es env).length ∧ B) : n = (assignEach es env).length ∧ B := h
/-! where the error's class lies below the clause's -/
theorem as_base {K : PySem.W.Frag} {x b : Str} {i : Nat} {ts : Addr → Value → Option Addr → TS} {Wout : WX} {D : Ends} {σ : L2.St} {H : Hp} {d : Option Addr} (e : PySem.W.exmOne K (.ref (He.ga K x)) (.ref (He.ga K b)) = some true)
    (h : ∀ a, H a = none → ts a (.ref (He.ga K x)) d { nx := fun σ' H' => D.nx (σ'.set i none) H', rt := D.rt, bk := fun σ' H' => D.bk (σ'.set i none) H', ct := fun σ' H' => D.ct (σ'.set i none) H' } (σ.set i (some (.ref a))) H) :
    wAs K (.ref (He.ga K b)) i ts Wout D (.ref (He.ga K x)) d σ H := ⟨true, e, fun _ => h, fun z => nomatch z⟩
/-! lists of ints from behind -/
theorem atI_end {xs : List Int} (h : 0 < xs.length) : atI (xs.map V.int) (-1) = some (.int (xs.getD (xs.length - 1) 0)) := by
  obtain ⟨ys, y, rfl⟩ : ∃ ys y, xs = ys ++ [y] := ⟨xs.dropLast, xs.getLast (List.length_pos_iff.mp h), (List.dropLast_concat_getLast _).symm⟩
  rw [List.map_append]
  have e : (ys ++ [y]).getD ((ys ++ [y]).length - 1) 0 = y := by
    rw [List.getD_eq_getElem?_getD, List.length_append, List.length_singleton, Nat.add_sub_cancel, List.getElem?_append_right (Nat.le_refl _), Nat.sub_self]
    rfl
  rw [e]
  exact atI_last _ _
theorem isi_ii {K : PySem.W.Frag} {H : Hp} {Q : VK} {j : Int} (q : Q (.bl true) H) : rIsi K [.int j, .ty "int"] H Q := isi_int (b := true) rfl q
theorem isi_ib {K : PySem.W.Frag} {H : Hp} {Q : VK} {j : Int} (q : Q (.bl false) H) : rIsi K [.int j, .ty "bool"] H Q := isi_int (b := false) rfl q
/-! x += list, xs[::-1], tuple(list) -/
def ExtO (H : Hp) (p : Addr) (zs : List V) (Q : VK) : Prop := ∃ xs, H p = some (.lst xs) ∧ xs.length + zs.length ≤ sizeLine ∧ Q (.ref p) (upd H p (.lst (xs ++ zs)))
section
variable {K : PySem.W.Frag} {B H : Hp} {l l' : List As} {Q : VK} {p : Addr} {x y : V}
theorem ip_ext {X : Cx} : PIp X .Add rExt2 := iop_ext
theorem n_ext : rExt2 x y H Q = ∃ l b, x = .ref l ∧ y = .ref b ∧ ∃ zs, H b = some (.lst zs) ∧ ExtO H l zs Q := propext ⟨fun ⟨l, b, xs, zs, e1, e2, h1, h2, h3, h4⟩ => ⟨l, b, e1, e2, zs, h2, xs, h1, h3, h4⟩, fun ⟨l, b, e1, e2, zs, h2, xs, h1, h3, h4⟩ => ⟨l, b, xs, zs, e1, e2, h1, h2, h3, h4⟩⟩
theorem g_extO {zs : List V} (h : ExtO H p zs Q) : ExtO H p zs Q := h
theorem extO {xs zs : List V} (L : Own K B H l) (pp : Put l p (.lst xs) (.lst (xs ++ zs)) l') (hs : xs.length + zs.length ≤ sizeLine) (h : ∀ H', Own K B H' l' → Q (.ref p) H') : ExtO H p zs Q := ⟨xs, L.get pp.mem, hs, h _ (L.put rfl pp)⟩
theorem extI {xs zs : List Int} (L : Own K B H l) (pp : Put l p (.lst (xs.map V.int)) (.lst ((xs ++ zs).map V.int)) l') (hs : xs.length + zs.length ≤ sizeLine) (h : ∀ H', Own K B H' l' → Q (.ref p) H') : ExtO H p (zs.map V.int) Q :=
  ⟨xs.map V.int, L.get pp.mem, by rw [List.length_map, List.length_map]; exact hs, by
    have e : xs.map V.int ++ zs.map V.int = (xs ++ zs).map V.int := List.map_append.symm
    rw [e]
    exact h _ (L.put rfl pp)⟩
theorem n_revL {te : TE} {σ : L2.St} : tRevL K te σ H Q = te σ H (fun x H1 => ∃ a xs, x = .ref a ∧ SqL K H1 a xs ∧ NewO H1 (.lst xs.reverse) Q) := rfl
theorem ints_rev {xs : List Int} : (xs.map V.int).reverse = xs.reverse.map V.int := List.map_reverse.symm
def rTp (K : PySem.W.Frag) (xs : List V) (H : Hp) (Q : VK) : Prop := ∃ p ys, xs = [.ref p] ∧ ((SqL K H p ys ∧ NewO H (.tup ys) Q) ∨ (SqT K H p ys ∧ Q (.ref p) H))
theorem n_rTp {xs : List V} : rTp K xs H Q = ∃ p, xs = [.ref p] ∧ ∃ ys, ((SqL K H p ys ∧ NewO H (.tup ys) Q) ∨ (SqT K H p ys ∧ Q (.ref p) H)) := propext ⟨fun ⟨p, ys, e, h⟩ => ⟨p, e, ys, h⟩, fun ⟨p, e, ys, h⟩ => ⟨p, ys, e, h⟩⟩
theorem g_tp {P : List V → Prop} {R : Prop} (h : ∃ ys, ((SqL K H p ys ∧ P ys) ∨ (SqT K H p ys ∧ R))) : ∃ ys, ((SqL K H p ys ∧ P ys) ∨ (SqT K H p ys ∧ R)) := h
theorem tp_l {P : List V → Prop} {R : Prop} {ys : List V} (h : SqL K H p ys) (q : P ys) : ∃ ys, ((SqL K H p ys ∧ P ys) ∨ (SqT K H p ys ∧ R)) := ⟨ys, .inl ⟨h, q⟩⟩
theorem tp_t {P : List V → Prop} {R : Prop} {ys : List V} (h : SqT K H p ys) (q : R) : ∃ ys, ((SqL K H p ys ∧ P ys) ∨ (SqT K H p ys ∧ R)) := ⟨ys, .inr ⟨h, q⟩⟩
theorem t_im {ns : List Int} : HO.tup (ns.map V.int) = tupI ns := rfl
end
theorem tpK {X : Cx} (K : PySem.W.Frag) (h : X.K = K := by rfl) : CallR X (.type "tuple") (rTp K) := h ▸ call_tuple_of
/-! ranges with a step upwards -/
theorem rgSize_pos {i j c : Int} (hc : 0 < c) : Builtin.Range.rangeSize i j c = (((j - i + c - 1) / c).toNat : Int) := by
  unfold Builtin.Range.rangeSize
  rw [if_pos hc]
  by_cases h : i < j
  · rw [if_pos h]
    have e : (j - i + c - 1) / c = (j - i - 1) / c + 1 := by
      rw [show j - i + c - 1 = (j - i - 1) + 1 * c by omega, Int.add_mul_ediv_right _ _ (by omega)]
    have p : 0 ≤ (j - i - 1) / c := Int.ediv_nonneg (by omega) (by omega)
    rw [e]
    omega
  · rw [if_neg h]
    have e : (j - i + c - 1) / c ≤ 0 := by
      have : (j - i + c - 1) / c ≤ (c - 1) / c := Int.ediv_le_ediv hc (by omega)
      have z : (c - 1) / c = 0 := Int.ediv_eq_zero_of_lt (by omega) (by omega)
      omega
    omega
theorem RgC.pos {i j c : Int} (hc : 0 < c) (hc' : c < 1073741824) (h1 : -(2 ^ 30) ≤ i) (h2 : i < 2 ^ 30) (h3 : -(2 ^ 30) ≤ j) (h4 : j < 2 ^ 30) : RgC i j c ((j - i + c - 1) / c).toNat := by
  refine ⟨by omega, by omega, ?_, rgSize_pos hc⟩
  unfold Builtin.Range.small
  rw [rgSize_pos hc]
  have b1 : (j - i + c - 1) / c ≤ 2 ^ 32 := by
    by_cases z : 0 ≤ j - i + c - 1
    · exact Int.le_trans (Int.ediv_le_self _ z) (by omega)
    · exact Int.le_trans (Int.ediv_le_of_le_mul hc (b := 0) (by omega)) (by decide)
  simp only [Builtin.Range.rangeFitsLong, Bool.and_eq_true, Bool.or_eq_true, decide_eq_true_eq, beq_iff_eq]
  rw [if_pos (show c > 0 from hc)]
  simp only [Bool.and_eq_true, decide_eq_true_eq]
  repeat' apply And.intro
  all_goals omega
/-- a comprehension of ints over a range with a step -/
theorem compCi {K : PySem.W.Frag} {B H : Hp} {l : List As} {te : TE} {σ : L2.St} {lo c : Int} {n : Nat} {g : TG} {vs : List Nat} {Q : Addr → Hp → Prop} (f : Nat → Int) (L : Own K B H l) (hn : n < 100000)
    (hs : ∀ i D H1, i < n → Own K B H1 (pI D (rngL f i) :: l) → g (.int (lo + (i : Nat) * c)) (wipe σ vs) H1 fun σ2 H2 => wipe σ2 vs = wipe σ vs ∧ te σ2 H2 (CQ K B D l (rngL f i ++ [f i])))
    (hd : ∀ D H', Own K B H' (pI D (rngL f n) :: l) → Q D H') : ∀ D, H D = none → CompI (Itc lo c n) g tYes te vs σ H D (Q D) := by
  intro D hD
  refine comp_rangeC (fun i H' => Own K B H' (pI D (rngL f i) :: l)) (L.new hD _) (fun i H' hi h => ?_) (fun H' h => hd D H' h)
  have := hs i D H' hi h
  unfold CQ at this
  rw [← rngL_succ] at this
  exact this
theorem rgPos {i j c : Int} {P : Nat → Prop} (hc : 0 < c) (hc' : c < 1073741824) (h1 : -(2 ^ 30) ≤ i) (h2 : i < 2 ^ 30) (h3 : -(2 ^ 30) ≤ j) (h4 : j < 2 ^ 30) (q : P ((j - i + c - 1) / c).toNat) : ∃ n, RgC i j c n ∧ P n := ⟨_, RgC.pos hc hc' h1 h2 h3 h4, q⟩
theorem g_asqT {K : PySem.W.Frag} {H : Hp} {a : Addr} {B : Prop} (h : (∃ x, SqT K H a x) ∧ B) : (∃ x, SqT K H a x) ∧ B := h
theorem and_sqT {K : PySem.W.Frag} {H : Hp} {a : Addr} {xs : List V} {B : Prop} (h : SqT K H a xs) (q : B) : (∃ x, SqT K H a x) ∧ B := ⟨⟨xs, h⟩, q⟩
theorem pg_tupK {X : Cx} {pos : Pos} {es : List Expr} {k : Nat} {t : TGs} (K : PySem.W.Frag) (n : Nat) (hc : X.calm = true) (h : PGs X es t) (hK : X.K = K := by rfl)
    (hn : (assignEach es X.env).length = n := by rfl) (hst : (assignEach es X.env).findIdx? (·.1) = none := by rfl) : PG X (.Tuple es k pos) (gTup K n t) := by
  subst hK
  exact pg_tup hc h hn hst
theorem inV_ints {c : Int} {xs : List Int} : inV (.int c) (xs.map V.int) = decide (c ∈ xs) := by
  unfold inV
  rw [Bool.eq_iff_iff, decide_eq_true_iff, List.any_eq_true]
  constructor
  · rintro ⟨y, m, e⟩
    obtain ⟨z, mz, rfl⟩ := List.mem_map.mp m
    have : z = c := by simpa [eqV] using e
    exact this ▸ mz
  · intro m
    exact ⟨.int c, List.mem_map.mpr ⟨c, m, rfl⟩, by simp [eqV]⟩
theorem flat_ints {xs : List Int} : (xs.map V.int).all flatV = true := by
  rw [List.all_eq_true]
  intro y m
  obtain ⟨z, _, rfl⟩ := List.mem_map.mp m
  rfl
theorem in_ints {K : PySem.W.Frag} {H : Hp} {Q : VK} {p : Addr} {c : Int} {xs : List Int} (h : SqL K H p (xs.map V.int)) (q : Q (.bl (decide (c ∈ xs))) H) : rIn K false (.int c) (.ref p) H Q := ⟨p, _, rfl, .inl h, rfl, flat_ints, by
  rw [inV_ints]
  exact q⟩
theorem notIn_ints {K : PySem.W.Frag} {H : Hp} {Q : VK} {p : Addr} {c : Int} {xs : List Int} (h : SqL K H p (xs.map V.int)) (q : Q (.bl (!decide (c ∈ xs))) H) : rIn K true (.int c) (.ref p) H Q := ⟨p, _, rfl, .inl h, rfl, flat_ints, by
  rw [inV_ints]
  exact q⟩
end Bel

namespace Bel
open PySem PySem.Spec PyProof.Rows L2
/-! ### many owned cells -/
theorem Own.conv {K : PySem.W.Frag} {B H : Hp} {l l' : List As} (L : Own K B H l) (e : (ads l').Perm (ads l)) (h : ∀ x ∈ l', x.holds K B H) : Own K B H l' := ⟨L.same, e.nodup_iff.mpr L.nd, h⟩
theorem ads_cons {x : As} {l : List As} : ads (x :: l) = x.ad ++ ads l := by
  unfold ads
  rw [List.flatMap_cons]
section
variable {K : PySem.W.Frag} {B H : Hp} {l l' : List As} {p : Addr} {o o' : HO} {ps qs : List (Addr × HO)}
theorem Own.objs0 (L : Own K B H l) : Own K B H (.objs [] :: l) := L.conv (by rw [ads_cons]; exact List.Perm.refl _) fun x m => by
  rcases List.mem_cons.mp m with rfl | m
  · exact fun q h => nomatch h
  · exact L.all x m
theorem Own.obj (L : Own K B H l) (m : As.objs ps ∈ l) (h : (p, o) ∈ ps) : H p = some o := (L.all _ m _ h).1
/-- one more, behind -/
theorem Own.objIn (L : Own K B H (.pt p o :: .objs ps :: l)) : Own K B H (.objs (ps ++ [(p, o)]) :: l) := by
  refine L.conv ?_ fun x m => ?_
  · rw [ads_cons, ads_cons, ads_cons]
    show ((ps ++ [(p, o)]).map Prod.fst ++ ads l).Perm ([p] ++ (ps.map Prod.fst ++ ads l))
    rw [List.map_append, List.append_assoc]
    exact List.perm_append_comm_assoc _ _ _
  · rcases List.mem_cons.mp m with rfl | m
    · intro q hq
      rcases List.mem_append.mp hq with hq | hq
      · exact L.all (.objs ps) (.tail _ (.head _)) q hq
      · rw [List.mem_singleton.mp hq]
        exact L.all (.pt p o) (.head _)
    · exact L.all x (.tail _ (.tail _ m))
/-- one of them alone -/
theorem Own.objOut (L : Own K B H (.objs (ps ++ (p, o) :: qs) :: l)) : Own K B H (.pt p o :: .objs (ps ++ qs) :: l) := by
  refine L.conv ?_ fun x m => ?_
  · rw [ads_cons, ads_cons, ads_cons]
    show ([p] ++ ((ps ++ qs).map Prod.fst ++ ads l)).Perm ((ps ++ (p, o) :: qs).map Prod.fst ++ ads l)
    rw [List.map_append, List.map_append, List.map_cons]
    refine List.Perm.symm ?_
    rw [← List.append_assoc [p]]
    exact List.Perm.append_right _ List.perm_middle
  · rcases List.mem_cons.mp m with rfl | m
    · exact L.all (.objs _) (.head _) (p, o) (List.mem_append_right _ (.head _))
    · rcases List.mem_cons.mp m with rfl | m
      · intro q hq
        refine L.all (.objs _) (.head _) q ?_
        rcases List.mem_append.mp hq with hq | hq
        · exact List.mem_append_left _ hq
        · exact List.mem_append_right _ (.tail _ hq)
      · exact L.all x (.tail _ m)
theorem Own.objBack (L : Own K B H (.pt p o :: .objs (ps ++ qs) :: l)) : Own K B H (.objs (ps ++ (p, o) :: qs) :: l) := by
  refine L.conv ?_ fun x m => ?_
  · rw [ads_cons, ads_cons, ads_cons]
    show ((ps ++ (p, o) :: qs).map Prod.fst ++ ads l).Perm ([p] ++ ((ps ++ qs).map Prod.fst ++ ads l))
    rw [List.map_append, List.map_append, List.map_cons, ← List.append_assoc [p]]
    exact List.Perm.append_right _ List.perm_middle
  · rcases List.mem_cons.mp m with rfl | m
    · intro q hq
      rcases List.mem_append.mp hq with hq | hq
      · exact L.all (.objs _) (.tail _ (.head _)) q (List.mem_append_left _ hq)
      · rcases List.mem_cons.mp hq with rfl | hq
        · exact L.all (.pt p o) (.head _)
        · exact L.all (.objs _) (.tail _ (.head _)) q (List.mem_append_right _ hq)
    · exact L.all x (.tail _ (.tail _ m))
end
/-- taken to the front -/
inductive TakeA : List As → As → List As → Prop
  | here {l : List As} {x : As} : TakeA (x :: l) x l
  | there {l l' : List As} {x y : As} : TakeA l x l' → TakeA (y :: l) x (y :: l')
theorem TakeA.perm {l l' : List As} {x : As} (t : TakeA l x l') : l.Perm (x :: l') := by
  induction t with
  | here => exact List.Perm.refl _
  | there _ ih => exact (List.Perm.cons _ ih).trans (List.Perm.swap _ _ _)
theorem Own.front {K : PySem.W.Frag} {B H : Hp} {l l' : List As} {x : As} (L : Own K B H l) (t : TakeA l x l') : Own K B H (x :: l') := L.perm t.perm
/-! lists of lists of ints: places and contents -/
abbrev PL := List (Addr × List Int)
def oI (pl : PL) : List (Addr × HO) := pl.map fun q => (q.1, .lst (q.2.map V.int))
def rfs (pl : PL) : List V := pl.map fun q => V.ref q.1
def cts (pl : PL) : List (List Int) := pl.map Prod.snd
theorem oI_snoc {pl : PL} {p : Addr} {xs : List Int} : oI (pl ++ [(p, xs)]) = oI pl ++ [(p, .lst (xs.map V.int))] := by
  unfold oI
  rw [List.map_append]
  rfl
theorem rfs_snoc {pl : PL} {p : Addr} {xs : List Int} : rfs pl ++ [V.ref p] = rfs (pl ++ [(p, xs)]) := by
  unfold rfs
  rw [List.map_append]
  rfl
theorem cts_snoc {pl : PL} {p : Addr} {xs : List Int} : cts (pl ++ [(p, xs)]) = cts pl ++ [xs] := by
  unfold cts
  rw [List.map_append]
  rfl
theorem rfs_len {pl : PL} : (rfs pl).length = pl.length := List.length_map ..
theorem cts_len {pl : PL} : (cts pl).length = pl.length := List.length_map ..
theorem rfs_at {pl : PL} {i : Nat} {x : V} (h : (rfs pl)[i]? = some x) : ∃ p xs, pl[i]? = some (p, xs) ∧ x = .ref p := by
  unfold rfs at h
  rw [List.getElem?_map] at h
  cases e : pl[i]? with
  | none =>
    rw [e] at h
    cases h
  | some q =>
    rw [e] at h
    exact ⟨q.1, q.2, rfl, (Option.some.inj h).symm⟩
theorem cts_at {pl : PL} {i : Nat} {p : Addr} {xs : List Int} (h : pl[i]? = some (p, xs)) : (cts pl)[i]? = some xs := by
  unfold cts
  rw [List.getElem?_map, h]
  rfl
theorem oI_at {pl : PL} {i : Nat} {p : Addr} {xs : List Int} (h : pl[i]? = some (p, xs)) : (p, HO.lst (xs.map V.int)) ∈ oI pl := List.mem_map.mpr ⟨(p, xs), List.mem_of_getElem? h, rfl⟩
abbrev pO (pl : PL) : As := .objs (oI pl)
theorem Own.lls {K : PySem.W.Frag} {B H : Hp} {l : List As} {pl : PL} {i : Nat} {p : Addr} {xs : List Int} (L : Own K B H l) (m : pO pl ∈ l) (h : pl[i]? = some (p, xs)) : H p = some (.lst (xs.map V.int)) := L.obj m (oI_at h)
theorem Own.llsIn {K : PySem.W.Frag} {B H : Hp} {l : List As} {pl : PL} {p : Addr} {xs : List Int} (L : Own K B H (pI p xs :: pO pl :: l)) : Own K B H (pO (pl ++ [(p, xs)]) :: l) := by
  have := L.objIn
  rw [← oI_snoc] at this
  exact this
theorem Own.llsOut {K : PySem.W.Frag} {B H : Hp} {l : List As} {pl ql : PL} {p : Addr} {xs : List Int} (L : Own K B H (pO (pl ++ (p, xs) :: ql) :: l)) : Own K B H (pI p xs :: pO (pl ++ ql) :: l) := by
  have e : oI (pl ++ (p, xs) :: ql) = oI pl ++ (p, .lst (xs.map V.int)) :: oI ql := by
    unfold oI
    rw [List.map_append]
    rfl
  have e2 : oI (pl ++ ql) = oI pl ++ oI ql := List.map_append
  unfold pO at *
  rw [e] at L
  rw [e2]
  exact L.objOut
theorem Own.llsBack {K : PySem.W.Frag} {B H : Hp} {l : List As} {pl ql : PL} {p : Addr} {xs : List Int} (L : Own K B H (pI p xs :: pO (pl ++ ql) :: l)) : Own K B H (pO (pl ++ (p, xs) :: ql) :: l) := by
  have e : oI (pl ++ (p, xs) :: ql) = oI pl ++ (p, .lst (xs.map V.int)) :: oI ql := by
    unfold oI
    rw [List.map_append]
    rfl
  have e2 : oI (pl ++ ql) = oI pl ++ oI ql := List.map_append
  unfold pO at *
  rw [e]
  rw [e2] at L
  exact L.objBack
/-- a list of them is equal to a list of them -/
def dLL (xss : List (List Int)) : PyData := .list (xss.map fun xs => .list (xs.map PyData.int))
theorem dLL_inj {a b : List (List Int)} : dLL a = dLL b ↔ a = b := by
  refine ⟨fun h => ?_, fun h => by rw [h]⟩
  unfold dLL at h
  rw [PyData.list.injEq] at h
  induction a generalizing b with
  | nil =>
    cases b with
    | nil => rfl
    | cons _ _ => cases h
  | cons x r ih =>
    cases b with
    | nil => cases h
    | cons y s =>
      rw [List.map_cons, List.map_cons, List.cons.injEq, PyData.list.injEq, map_int_inj] at h
      rw [h.1, ih h.2]
theorem plain_dLL : ∀ xss : List (List Int), plainAl (xss.map fun xs => PyData.list (xs.map PyData.int)) = true
  | [] => by simp [plainAl]
  | x :: r => by simp [plainAl, plain, plain_dLL r, plainAl_ints]
theorem depth_dLL : ∀ xss : List (List Int), PyData.depthAll (xss.map fun xs => PyData.list (xs.map PyData.int)) ≤ 2
  | [] => by simp [PyData.depthAll]
  | x :: r => by
    have := depth_dLL r
    have := depthAll_ints' x
    simp only [List.map_cons, PyData.depthAll, PyData.depth]
    omega
theorem dq_lls {K : PySem.W.Frag} {B H : Hp} {l : List As} {D : Addr} {pl : PL} (L : Own K B H l) (m : pO pl ∈ l) (h : SqL K H D (rfs pl)) : Dq K H (.ref D) (dLL (cts pl)) := by
  have key : ∀ ql : PL, (∀ q ∈ ql, H q.1 = some (.lst (q.2.map V.int))) → DpAll K H (rfs ql) ((cts ql).map fun xs => PyData.list (xs.map PyData.int)) := by
    intro ql
    induction ql with
    | nil => exact fun _ => .nil
    | cons q r ih => exact fun hq => .cons (.lst (SqL.of (hq q (.head _))) (dpAll_ints _)) (ih fun x hx => hq x (.tail _ hx))
  refine ⟨.lst h (key pl fun q hq => ?_), ?_, ?_⟩
  · exact L.obj m (List.mem_map.mpr ⟨q, hq, rfl⟩)
  · show plain (.list _) = true
    simp only [plain]
    exact plain_dLL _
  · have := depth_dLL (cts pl)
    show (PyData.list _).depth ≤ 64
    simp only [PyData.depth]
    omega
theorem dq_nils {K : PySem.W.Frag} {H : Hp} {D : Addr} (h : SqL K H D []) : Dq K H (.ref D) (dLL []) := ⟨.lst h .nil, by show plain (.list []) = true; simp [plain, plainAl], by show (PyData.list []).depth ≤ 64; simp [PyData.depth, PyData.depthAll]⟩
section
variable {K : PySem.W.Frag} {H : Hp} {a b : V} {xs ys : List (List Int)} {Q : VK}
theorem eqd_lls (h1 : Dq K H a (dLL xs)) (h2 : Dq K H b (dLL ys)) (q : Q (.bl (decide (xs = ys))) H) : rEqD K a b H Q := by
  refine eqd h1 h2 fun r e => ?_
  have : r = decide (xs = ys) := by
    rw [dLL_inj] at e
    by_cases c : xs = ys
    · rw [decide_eq_true c, e.mpr c]
    · rw [decide_eq_false c]
      cases r with
      | false => rfl
      | true => exact absurd (e.mp rfl) c
  rw [this]
  exact q
theorem ned_lls (h1 : Dq K H a (dLL xs)) (h2 : Dq K H b (dLL ys)) (q : Q (.bl (!decide (xs = ys))) H) : rNeD K a b H Q := by
  refine ned h1 h2 fun r e => ?_
  have : r = decide (xs = ys) := by
    rw [dLL_inj] at e
    by_cases c : xs = ys
    · rw [decide_eq_true c, e.mpr c]
    · rw [decide_eq_false c]
      cases r with
      | false => rfl
      | true => exact absurd (e.mp rfl) c
  rw [this]
  exact q
end
/-- one clause without a name, for a class above -/
theorem many_base {K : PySem.W.Frag} {x b : Str} {ts : Addr → Value → Option Addr → TS} {Wout : WX} {D : Ends} {σ : L2.St} {H : Hp} {d : Option Addr} (e : PySem.W.exmOne K (.ref (He.ga K x)) (.ref (He.ga K b)) = some true)
    (h : ∀ a, H a = none → ts a (.ref (He.ga K x)) d D σ H) : wMany K Wout D [(.ref (He.ga K b), ts)] (.ref (He.ga K x)) d σ H := ⟨true, e, fun _ => h, fun z => nomatch z⟩
/-! comprehensions that make lists of ints -/
/-- the end of a turn: one list more -/
def CLe (K : PySem.W.Frag) (B : Hp) (D : Addr) (l : List As) (R : PL → Prop) (y : V) (H4 : Hp) : Prop :=
  ∃ acc, H4 D = some (.lst acc) ∧ acc.length < sizeLine ∧ ∃ ql, Own K B (upd H4 D (.lst (acc ++ [y]))) (.pt D (.lst (rfs ql)) :: pO ql :: l) ∧ R ql
theorem cle {K : PySem.W.Frag} {B : Hp} {D : Addr} {l : List As} {R : PL → Prop} {ql : PL} {p : Addr} {ys : List Int} {H4 : Hp} (L : Own K B H4 (pI p ys :: .pt D (.lst (rfs ql)) :: pO ql :: l)) (hn : ql.length < 100000) (r : R (ql ++ [(p, ys)])) : CLe K B D l R (.ref p) H4 := by
  refine ⟨rfs ql, L.get (mem_there mem_here), by rw [rfs_len, sizeLine_eq]; omega, ql ++ [(p, ys)], ?_, r⟩
  have L2 := L.put (o' := .lst (rfs ql ++ [V.ref p])) rfl (.there .here)
  rw [rfs_snoc (xs := ys)] at L2 ⊢
  exact ((L2.perm (List.Perm.cons _ (List.Perm.swap _ _ _))).llsIn).perm (List.Perm.swap _ _ _)
theorem compLL {K : PySem.W.Frag} {B H : Hp} {l : List As} {te : TE} {σ : L2.St} {a : Addr} {xs : List V} {g : TG} {vs : List Nat} {Q : Addr → Hp → Prop} (R : Nat → PL → Prop) (L : Own K B H l) (h0 : R 0 [])
    (hk : ∀ H', Own K B H' l → SqL K H' a xs)
    (hs : ∀ i x D ql H1, xs[i]? = some x → R i ql → Own K B H1 (.pt D (.lst (rfs ql)) :: pO ql :: l) → g x (wipe σ vs) H1 fun σ2 H2 => wipe σ2 vs = wipe σ vs ∧ te σ2 H2 (CLe K B D l (R (i + 1))))
    (hd : ∀ D ql H', R xs.length ql → Own K B H' (.pt D (.lst (rfs ql)) :: pO ql :: l) → Q D H') : ∀ D, H D = none → CompI (Itl K a) g tYes te vs σ H D (Q D) := by
  intro D hD
  refine comp_list (xs := xs) (fun i H' => ∃ ql, Own K B H' (.pt D (.lst (rfs ql)) :: pO ql :: l) ∧ R i ql) ⟨[], (((L.new hD (.lst [])).objs0).perm (List.Perm.swap _ _ _)), h0⟩ (fun i H' _ ⟨_, h, _⟩ => hk H' h.drop1.drop1) (fun i x H' hx ⟨ql, h, r⟩ => ?_) (fun H' ⟨ql, h, r⟩ => hd D ql H' r h)
  exact hs i x D ql H' hx r h
theorem dq_llsS {K : PySem.W.Frag} {B H : Hp} {l : List As} {D : Addr} {pl ql : PL} (L : Own K B H l) (m : pO pl ∈ l) (h : SqL K H D (rfs ql)) (sub : ∀ q ∈ ql, q ∈ pl) : Dq K H (.ref D) (dLL (cts ql)) := by
  have key : ∀ ql : PL, (∀ q ∈ ql, H q.1 = some (.lst (q.2.map V.int))) → DpAll K H (rfs ql) ((cts ql).map fun xs => PyData.list (xs.map PyData.int)) := by
    intro ql
    induction ql with
    | nil => exact fun _ => .nil
    | cons q r ih => exact fun hq => .cons (.lst (SqL.of (hq q (.head _))) (dpAll_ints _)) (ih fun x hx => hq x (.tail _ hx))
  refine ⟨.lst h (key ql fun q hq => ?_), ?_, ?_⟩
  · exact L.obj m (List.mem_map.mpr ⟨q, sub q hq, rfl⟩)
  · show plain (.list _) = true
    simp only [plain]
    exact plain_dLL _
  · have := depth_dLL (cts ql)
    show (PyData.list _).depth ≤ 64
    simp only [PyData.depth]
    omega
theorem rfs_take {pl : PL} {n : Nat} : (rfs pl).take n = rfs (pl.take n) := List.map_take.symm
theorem rfs_drop {pl : PL} {n : Nat} : (rfs pl).drop n = rfs (pl.drop n) := List.map_drop.symm
theorem cts_takeN {pl : PL} {n : Nat} : cts (pl.take n) = (cts pl).take n := List.map_take
end Bel

namespace Bel
open PySem PySem.Spec PyProof.Rows L2
/-! ### dict(d): a copy -/
def rDcp : List V → Hp → VK → Prop := fun xs H Q => ∃ (a : Addr) (kvs : List (Key × V)), xs = [.ref a] ∧ Rd H a (.dK kvs) ∧ ∀ p, H p = none → Q (.ref p) (upd H p (.dK kvs))
theorem dcK {X : Cx} : CallR X (.type "dict") rDcp := call_dictD
def DCp (H : Hp) (a : Addr) (Q : VK) : Prop := ∃ kvs, Rd H a (.dK kvs) ∧ NewO H (.dK kvs) Q
theorem n_dcp {xs : List V} {H : Hp} {Q : VK} : rDcp xs H Q = ∃ a, xs = [.ref a] ∧ DCp H a Q := propext ⟨fun ⟨a, kvs, e, h, q⟩ => ⟨a, e, kvs, h, q⟩, fun ⟨a, e, kvs, h, q⟩ => ⟨a, kvs, e, h, q⟩⟩
theorem g_dcp {H : Hp} {a : Addr} {Q : VK} (h : DCp H a Q) : DCp H a Q := h
theorem dcpI {H : Hp} {a : Addr} {Q : VK} {kvs : List (Key × V)} (e : H a = some (.dK kvs)) (q : NewO H (.dK kvs) Q) : DCp H a Q := ⟨kvs, .inl e, q⟩
/-! ### x in (a, b) for tuples of ints -/
theorem inT_ints {K : PySem.W.Frag} {H : Hp} {Q : VK} {p : Addr} {c : Int} {xs : List Int} (h : SqT K H p (xs.map V.int)) (q : Q (.bl (decide (c ∈ xs))) H) : rIn K false (.int c) (.ref p) H Q := ⟨p, _, rfl, .inr h, rfl, flat_ints, by
  rw [inV_ints]
  exact q⟩
theorem notInT_ints {K : PySem.W.Frag} {H : Hp} {Q : VK} {p : Addr} {c : Int} {xs : List Int} (h : SqT K H p (xs.map V.int)) (q : Q (.bl (!decide (c ∈ xs))) H) : rIn K true (.int c) (.ref p) H Q := ⟨p, _, rfl, .inr h, rfl, flat_ints, by
  rw [inV_ints]
  exact q⟩
theorem selE_gen {c : Bool} {t u : TE} {σ : L2.St} {H : Hp} {Q : VK} (h : ∀ kont, Q = kont → SelE c t u σ H kont) : SelE c t u σ H Q := h Q rfl
/-! ### lists of tuples of ints -/
theorem oneT {K : PySem.W.Frag} {B H : Hp} {l : List As} (L : Own K B H l) {v : V} {t : List Int} (m : As.im v (tI t) ∈ l) : Own K B H (.ims [v] ([t].map tI) :: l) := L.addIms (ImmL.one (L.imm m))
theorem twoT {K : PySem.W.Frag} {B H : Hp} {l : List As} (L : Own K B H l) {v u : V} {t r : List Int} (m : As.im v (tI t) ∈ l) (m2 : As.im u (tI r) ∈ l) : Own K B H (.ims [v, u] ([t, r].map tI) :: l) := L.addIms (.cons (L.imm m) (ImmL.one (L.imm m2)))
theorem nilT {K : PySem.W.Frag} {B H : Hp} {l : List As} (L : Own K B H l) : Own K B H (.ims [] (([] : List (List Int)).map tI) :: l) := L.addIms .nil
theorem newT {K : PySem.W.Frag} {B H : Hp} {l : List As} {p : Addr} {ns : List Int} (L : Own K B H l) (m : As.pt p (tupI ns) ∈ l) : Own K B H (.im (.ref p) (tI ns) :: l) := L.addIm (L.imI m)
theorem catT {K : PySem.W.Frag} {B H : Hp} {l : List As} {vs us : List V} {ts rs : List (List Int)} (L : Own K B H l) (m : As.ims vs (ts.map tI) ∈ l) (m2 : As.ims us (rs.map tI) ∈ l) : Own K B H (.ims (vs ++ us) ((ts ++ rs).map tI) :: l) := L.addIms (by
  rw [List.map_append]
  exact ImmL.append (L.imms m) (L.imms m2))
theorem lenT {K : PySem.W.Frag} {B H : Hp} {l : List As} {vs : List V} {ts : List (List Int)} (L : Own K B H l) (m : As.ims vs (ts.map tI) ∈ l) : vs.length = ts.length := by
  have := (L.imms m).len
  rw [List.length_map] at this
  exact this
theorem dq_tks {K : PySem.W.Frag} {H : Hp} {a : Addr} {vs : List V} {ts : List (List Int)} (h : SqL K H a vs) (g : ImmL K H vs (ts.map tI)) : Dq K H (.ref a) (.list (ts.map fun t => .tuple (t.map PyData.int))) := ⟨.lst h g.dp, by simp only [Bel.plain]; exact plainAl_toks ts, by
  have := depthAll_toks ts
  simp only [PyData.depth]
  omega⟩
/-- an item of a list of tuples -/
theorem itemT {K : PySem.W.Frag} {B H : Hp} {l : List As} {vs : List V} {ts : List (List Int)} (L : Own K B H l) (m : As.ims vs (ts.map tI) ∈ l) {k : Nat} {v : V} (hx : vs[k]? = some v) : ∃ t r, ts[k]? = some t ∧ v = .ref r ∧ SqT K H r (t.map V.int) := by
  obtain ⟨dd, hdd, im⟩ := ImmL.get (L.imms m) hx
  rw [List.getElem?_map] at hdd
  obtain ⟨tt, htt, rfl⟩ := Option.map_eq_some_iff.mp hdd
  obtain ⟨r, rfl, hr⟩ := Imm.of_ints im
  exact ⟨tt, r, htt, rfl, hr⟩
end Bel

namespace K52
open PySem PySem.Spec PyProof.Rows L2 Bel
abbrev topS (i : Nat) : Stmt := PySem.Challenge.pw_bellows_k52_parser_covers_the_history.main.body.getD i (.Pass ⟨0, 0, 0, 0⟩)
abbrev s__law_draws : Stmt := topS 27
abbrev N__law_draws : List Str := ["script", "draws", "k", "rest", "turn", "mixed"]
theorem sc__law_draws : FnScope N__law_draws ["script"] (defScope s__law_draws) := ⟨rfl, rfl, rfl, by decide +kernel, rfl, by decide +kernel, by decide +kernel⟩
abbrev s__law_at : Stmt := topS 28
abbrev N__law_at : List Str := ["draws", "k", "many"]
theorem sc__law_at : FnScope N__law_at ["draws", "k", "many"] (defScope s__law_at) := ⟨rfl, rfl, rfl, by decide +kernel, rfl, by decide +kernel, by decide +kernel⟩
abbrev s_common_length : Stmt := topS 10
abbrev N_common_length : List Str := ["history", "first", "second", "most", "length"]
theorem sc_common_length : FnScope N_common_length ["history", "first", "second", "most"] (defScope s_common_length) := ⟨rfl, rfl, rfl, by decide +kernel, rfl, by decide +kernel, by decide +kernel⟩
abbrev s_search : Stmt := topS 11
abbrev N_search : List Str := ["history", "at", "end", "places", "nice", "longer_than", "limit", "kept", "distance", "place", "length"]
theorem sc_search : FnScope N_search ["history", "at", "end", "places", "nice", "longer_than"] (defScope s_search) := ⟨rfl, rfl, rfl, by decide +kernel, rfl, by decide +kernel, by decide +kernel⟩
abbrev s__are_same : Stmt := topS 13
abbrev N__are_same : List Str := ["history", "first", "second"]
theorem sc__are_same : FnScope N__are_same ["history", "first", "second"] (defScope s__are_same) := ⟨rfl, rfl, rfl, by decide +kernel, rfl, by decide +kernel, by decide +kernel⟩
abbrev s__bucket : Stmt := topS 14
abbrev N__bucket : List Str := ["history", "place", "first", "second", "third"]
theorem sc__bucket : FnScope N__bucket ["history", "place"] (defScope s__bucket) := ⟨rfl, rfl, rfl, by decide +kernel, rfl, by decide +kernel, by decide +kernel⟩
abbrev s_Chains___init__ : Stmt := inClass (topS 12) 0
abbrev N_Chains___init__ : List Str := ["self", "window"]
theorem sc_Chains___init__ : FnScope N_Chains___init__ ["self", "window"] (defScope s_Chains___init__) := ⟨rfl, rfl, rfl, by decide +kernel, rfl, by decide +kernel, by decide +kernel⟩
abbrev s_Chains_enter : Stmt := inClass (topS 12) 1
abbrev N_Chains_enter : List Str := ["self", "history", "until", "first", "after", "place", "bucket"]
theorem sc_Chains_enter : FnScope N_Chains_enter ["self", "history", "until"] (defScope s_Chains_enter) := ⟨rfl, rfl, rfl, by decide +kernel, rfl, by decide +kernel, by decide +kernel⟩
abbrev s_Chains_nearest : Stmt := inClass (topS 12) 2
abbrev N_Chains_nearest : List Str := ["self", "history", "at", "count", "entered", "place", "lowest", "found"]
theorem sc_Chains_nearest : FnScope N_Chains_nearest ["self", "history", "at", "count"] (defScope s_Chains_nearest) := ⟨rfl, rfl, rfl, by decide +kernel, rfl, by decide +kernel, by decide +kernel⟩
abbrev s_Chains_forget : Stmt := inClass (topS 12) 3
abbrev N_Chains_forget : List Str := ["self", "floor"]
theorem sc_Chains_forget : FnScope N_Chains_forget ["self", "floor"] (defScope s_Chains_forget) := ⟨rfl, rfl, rfl, by decide +kernel, rfl, by decide +kernel, by decide +kernel⟩
abbrev s_Chains_floor : Stmt := inClass (topS 12) 4
abbrev N_Chains_floor : List Str := ["self"]
theorem sc_Chains_floor : FnScope N_Chains_floor ["self"] (defScope s_Chains_floor) := ⟨rfl, rfl, rfl, by decide +kernel, rfl, by decide +kernel, by decide +kernel⟩
abbrev s_usable : Stmt := topS 23
abbrev N_usable : List Str := ["copy", "strategy", "length", "distance"]
theorem sc_usable : FnScope N_usable ["copy", "strategy"] (defScope s_usable) := ⟨rfl, rfl, rfl, by decide +kernel, rfl, by decide +kernel, by decide +kernel⟩
abbrev s_run_at : Stmt := topS 24
abbrev N_run_at : List Str := ["history", "at", "end", "floor", "length"]
theorem sc_run_at : FnScope N_run_at ["history", "at", "end", "floor"] (defScope s_run_at) := ⟨rfl, rfl, rfl, by decide +kernel, rfl, by decide +kernel, by decide +kernel⟩
abbrev s_Parser___init__ : Stmt := inClass (topS 25) 0
abbrev N_Parser___init__ : List Str := ["self", "history", "at", "floor", "window"]
theorem sc_Parser___init__ : FnScope N_Parser___init__ ["self", "history", "at", "floor", "window"] (defScope s_Parser___init__) := ⟨rfl, rfl, rfl, by decide +kernel, rfl, by decide +kernel, by decide +kernel⟩
abbrev s_Parser_extend : Stmt := inClass (topS 25) 1
abbrev N_Parser_extend : List Str := ["self", "values"]
theorem sc_Parser_extend : FnScope N_Parser_extend ["self", "values"] (defScope s_Parser_extend) := ⟨rfl, rfl, rfl, by decide +kernel, rfl, by decide +kernel, by decide +kernel⟩
abbrev s_Parser_at : Stmt := inClass (topS 25) 3
abbrev N_Parser_at : List Str := ["self"]
theorem sc_Parser_at : FnScope N_Parser_at ["self"] (defScope s_Parser_at) := ⟨rfl, rfl, rfl, by decide +kernel, rfl, by decide +kernel, by decide +kernel⟩
abbrev s_Parser_front : Stmt := inClass (topS 25) 4
abbrev N_Parser_front : List Str := ["self"]
theorem sc_Parser_front : FnScope N_Parser_front ["self"] (defScope s_Parser_front) := ⟨rfl, rfl, rfl, by decide +kernel, rfl, by decide +kernel, by decide +kernel⟩
abbrev s_Parser_end : Stmt := inClass (topS 25) 5
abbrev N_Parser_end : List Str := ["self"]
theorem sc_Parser_end : FnScope N_Parser_end ["self"] (defScope s_Parser_end) := ⟨rfl, rfl, rfl, by decide +kernel, rfl, by decide +kernel, by decide +kernel⟩
abbrev s_Parser_floor : Stmt := inClass (topS 25) 6
abbrev N_Parser_floor : List Str := ["self"]
theorem sc_Parser_floor : FnScope N_Parser_floor ["self"] (defScope s_Parser_floor) := ⟨rfl, rfl, rfl, by decide +kernel, rfl, by decide +kernel, by decide +kernel⟩
abbrev s_Parser__emit : Stmt := inClass (topS 25) 11
abbrev N_Parser__emit : List Str := ["self", "copy", "token"]
theorem sc_Parser__emit : FnScope N_Parser__emit ["self", "copy"] (defScope s_Parser__emit) := ⟨rfl, rfl, rfl, by decide +kernel, rfl, by decide +kernel, by decide +kernel⟩
abbrev s_Parser__found : Stmt := inClass (topS 25) 12
abbrev N_Parser__found : List Str := ["self", "numbers", "chain", "longer_than", "strategy", "places", "found"]
theorem sc_Parser__found : FnScope N_Parser__found ["self", "numbers", "chain", "longer_than", "strategy"] (defScope s_Parser__found) := ⟨rfl, rfl, rfl, by decide +kernel, rfl, by decide +kernel, by decide +kernel⟩
abbrev s_Parser__reaches_end : Stmt := inClass (topS 25) 16
abbrev N_Parser__reaches_end : List Str := ["self", "copy", "bounded"]
theorem sc_Parser__reaches_end : FnScope N_Parser__reaches_end ["self", "copy", "bounded"] (defScope s_Parser__reaches_end) := ⟨rfl, rfl, rfl, by decide +kernel, rfl, by decide +kernel, by decide +kernel⟩
abbrev s_Parser__better : Stmt := inClass (topS 25) 15
abbrev N_Parser__better : List Str := ["self", "numbers", "strategy", "_", "chain", "patience", "good", "length"]
theorem sc_Parser__better : FnScope N_Parser__better ["self", "numbers", "strategy"] (defScope s_Parser__better) := ⟨rfl, rfl, rfl, by decide +kernel, rfl, by decide +kernel, by decide +kernel⟩
abbrev s_Parser__begin_to_wait : Stmt := inClass (topS 25) 13
abbrev N_Parser__begin_to_wait : List Str := ["self", "numbers", "strategy", "bounded", "copy"]
theorem sc_Parser__begin_to_wait : FnScope N_Parser__begin_to_wait ["self", "numbers", "strategy", "bounded"] (defScope s_Parser__begin_to_wait) := ⟨rfl, rfl, rfl, by decide +kernel, rfl, by decide +kernel, by decide +kernel⟩
abbrev s_Parser__go_on_waiting : Stmt := inClass (topS 25) 14
abbrev N_Parser__go_on_waiting : List Str := ["self", "numbers", "strategy", "bounded", "held", "copy", "tokens"]
theorem sc_Parser__go_on_waiting : FnScope N_Parser__go_on_waiting ["self", "numbers", "strategy", "bounded"] (defScope s_Parser__go_on_waiting) := ⟨rfl, rfl, rfl, by decide +kernel, rfl, by decide +kernel, by decide +kernel⟩
abbrev s_Parser_step : Stmt := inClass (topS 25) 2
abbrev N_Parser_step : List Str := ["self", "numbers", "strategy", "bounded", "left", "way"]
theorem sc_Parser_step : FnScope N_Parser_step ["self", "numbers", "strategy", "bounded"] (defScope s_Parser_step) := ⟨rfl, rfl, rfl, by decide +kernel, rfl, by decide +kernel, by decide +kernel⟩
abbrev s_Chains_twin : Stmt := inClass (topS 12) 5
abbrev N_Chains_twin : List Str := ["self", "other"]
theorem sc_Chains_twin : FnScope N_Chains_twin ["self"] (defScope s_Chains_twin) := ⟨rfl, rfl, rfl, by decide +kernel, rfl, by decide +kernel, by decide +kernel⟩
abbrev s_Parser_held : Stmt := inClass (topS 25) 7
abbrev N_Parser_held : List Str := ["self"]
theorem sc_Parser_held : FnScope N_Parser_held ["self"] (defScope s_Parser_held) := ⟨rfl, rfl, rfl, by decide +kernel, rfl, by decide +kernel, by decide +kernel⟩
abbrev s_Parser_forget : Stmt := inClass (topS 25) 8
abbrev N_Parser_forget : List Str := ["self"]
theorem sc_Parser_forget : FnScope N_Parser_forget ["self"] (defScope s_Parser_forget) := ⟨rfl, rfl, rfl, by decide +kernel, rfl, by decide +kernel, by decide +kernel⟩
abbrev s_Parser_part : Stmt := inClass (topS 25) 9
abbrev N_Parser_part : List Str := ["self", "first", "last"]
theorem sc_Parser_part : FnScope N_Parser_part ["self", "first", "last"] (defScope s_Parser_part) := ⟨rfl, rfl, rfl, by decide +kernel, rfl, by decide +kernel, by decide +kernel⟩
abbrev s_Parser_twin : Stmt := inClass (topS 25) 10
abbrev N_Parser_twin : List Str := ["self", "other"]
theorem sc_Parser_twin : FnScope N_Parser_twin ["self"] (defScope s_Parser_twin) := ⟨rfl, rfl, rfl, by decide +kernel, rfl, by decide +kernel, by decide +kernel⟩
abbrev s__law_is_integer : Stmt := topS 29
abbrev N__law_is_integer : List Str := ["actual"]
theorem sc__law_is_integer : FnScope N__law_is_integer ["actual"] (defScope s__law_is_integer) := ⟨rfl, rfl, rfl, by decide +kernel, rfl, by decide +kernel, by decide +kernel⟩
abbrev s__law_numbers : Stmt := topS 30
abbrev N__law_numbers : List Str := ["draws", "first", "way", "chain", "nice", "patience", "good"]
theorem sc__law_numbers : FnScope N__law_numbers ["draws", "first"] (defScope s__law_numbers) := ⟨rfl, rfl, rfl, by decide +kernel, rfl, by decide +kernel, by decide +kernel⟩
abbrev s__law_size : Stmt := topS 31
abbrev N__law_size : List Str := ["token"]
theorem sc__law_size : FnScope N__law_size ["token"] (defScope s__law_size) := ⟨rfl, rfl, rfl, by decide +kernel, rfl, by decide +kernel, by decide +kernel⟩
abbrev s__law_good : Stmt := topS 32
abbrev N__law_good : List Str := ["token", "history", "at", "floor", "window", "part", "k"]
theorem sc__law_good : FnScope N__law_good ["token", "history", "at", "floor", "window"] (defScope s__law_good) := ⟨rfl, rfl, rfl, by decide +kernel, rfl, by decide +kernel, by decide +kernel⟩
abbrev s__law_forgets : Stmt := topS 33
abbrev N__law_forgets : List Str := ["parser", "e"]
theorem sc__law_forgets : FnScope N__law_forgets ["parser"] (defScope s__law_forgets) := ⟨rfl, rfl, rfl, by decide +kernel, rfl, by decide +kernel, by decide +kernel⟩
abbrev s__law_grown : Stmt := topS 34
abbrev N__law_grown : List Str := ["draws", "k", "letters", "cell", "size", "n"]
theorem sc__law_grown : FnScope N__law_grown ["draws", "k", "letters"] (defScope s__law_grown) := ⟨rfl, rfl, rfl, by decide +kernel, rfl, by decide +kernel, by decide +kernel⟩
abbrev s_law : Stmt := topS 35
abbrev N_law : List Str := ["script", "draws", "letters", "history", "at", "floor", "window", "numbers", "strategy", "parser", "place", "turns", "turn", "deed", "more", "told", "bounded", "stands", "possible", "token"]
theorem sc_law : FnScope N_law ["script"] (defScope s_law) := ⟨rfl, rfl, rfl, by decide +kernel, rfl, by decide +kernel, by decide +kernel⟩
abbrev s_BellowsError___init__ : Stmt := inClass (topS 1) 0
abbrev N_BellowsError___init__ : List Str := ["self", "at"]
theorem sc_BellowsError___init__ : FnScope N_BellowsError___init__ ["self", "at"] (defScope s_BellowsError___init__) := ⟨rfl, rfl, rfl, by decide +kernel, rfl, by decide +kernel, by decide +kernel⟩
theorem st__law_draws {v0 : V} : L2.start N__law_draws [v0] = [some v0, none, none, none, none, none] := rfl
theorem st__law_at {v0 v1 v2 : V} : L2.start N__law_at [v0, v1, v2] = [some v0, some v1, some v2] := rfl
theorem st_common_length {v0 v1 v2 v3 : V} : L2.start N_common_length [v0, v1, v2, v3] = [some v0, some v1, some v2, some v3, none] := rfl
theorem st_search {v0 v1 v2 v3 v4 v5 : V} : L2.start N_search [v0, v1, v2, v3, v4, v5] = [some v0, some v1, some v2, some v3, some v4, some v5, none, none, none, none, none] := rfl
theorem st__are_same {v0 v1 v2 : V} : L2.start N__are_same [v0, v1, v2] = [some v0, some v1, some v2] := rfl
theorem st__bucket {v0 v1 : V} : L2.start N__bucket [v0, v1] = [some v0, some v1, none, none, none] := rfl
theorem st_Chains___init__ {v0 v1 : V} : L2.start N_Chains___init__ [v0, v1] = [some v0, some v1] := rfl
theorem st_Chains_enter {v0 v1 v2 : V} : L2.start N_Chains_enter [v0, v1, v2] = [some v0, some v1, some v2, none, none, none, none] := rfl
theorem st_Chains_nearest {v0 v1 v2 v3 : V} : L2.start N_Chains_nearest [v0, v1, v2, v3] = [some v0, some v1, some v2, some v3, none, none, none, none] := rfl
theorem st_Chains_forget {v0 v1 : V} : L2.start N_Chains_forget [v0, v1] = [some v0, some v1] := rfl
theorem st_Chains_floor {v0 : V} : L2.start N_Chains_floor [v0] = [some v0] := rfl
theorem st_usable {v0 v1 : V} : L2.start N_usable [v0, v1] = [some v0, some v1, none, none] := rfl
theorem st_run_at {v0 v1 v2 v3 : V} : L2.start N_run_at [v0, v1, v2, v3] = [some v0, some v1, some v2, some v3, none] := rfl
theorem st_Parser___init__ {v0 v1 v2 v3 v4 : V} : L2.start N_Parser___init__ [v0, v1, v2, v3, v4] = [some v0, some v1, some v2, some v3, some v4] := rfl
theorem st_Parser_extend {v0 v1 : V} : L2.start N_Parser_extend [v0, v1] = [some v0, some v1] := rfl
theorem st_Parser_at {v0 : V} : L2.start N_Parser_at [v0] = [some v0] := rfl
theorem st_Parser_front {v0 : V} : L2.start N_Parser_front [v0] = [some v0] := rfl
theorem st_Parser_end {v0 : V} : L2.start N_Parser_end [v0] = [some v0] := rfl
theorem st_Parser_floor {v0 : V} : L2.start N_Parser_floor [v0] = [some v0] := rfl
theorem st_Parser__emit {v0 v1 : V} : L2.start N_Parser__emit [v0, v1] = [some v0, some v1, none] := rfl
theorem st_Parser__found {v0 v1 v2 v3 v4 : V} : L2.start N_Parser__found [v0, v1, v2, v3, v4] = [some v0, some v1, some v2, some v3, some v4, none, none] := rfl
theorem st_Parser__reaches_end {v0 v1 v2 : V} : L2.start N_Parser__reaches_end [v0, v1, v2] = [some v0, some v1, some v2] := rfl
theorem st_Parser__better {v0 v1 v2 : V} : L2.start N_Parser__better [v0, v1, v2] = [some v0, some v1, some v2, none, none, none, none, none] := rfl
theorem st_Parser__begin_to_wait {v0 v1 v2 v3 : V} : L2.start N_Parser__begin_to_wait [v0, v1, v2, v3] = [some v0, some v1, some v2, some v3, none] := rfl
theorem st_Parser__go_on_waiting {v0 v1 v2 v3 : V} : L2.start N_Parser__go_on_waiting [v0, v1, v2, v3] = [some v0, some v1, some v2, some v3, none, none, none] := rfl
theorem st_Parser_step {v0 v1 v2 v3 : V} : L2.start N_Parser_step [v0, v1, v2, v3] = [some v0, some v1, some v2, some v3, none, none] := rfl
theorem st_Chains_twin {v0 : V} : L2.start N_Chains_twin [v0] = [some v0, none] := rfl
theorem st_Parser_held {v0 : V} : L2.start N_Parser_held [v0] = [some v0] := rfl
theorem st_Parser_forget {v0 : V} : L2.start N_Parser_forget [v0] = [some v0] := rfl
theorem st_Parser_part {v0 v1 v2 : V} : L2.start N_Parser_part [v0, v1, v2] = [some v0, some v1, some v2] := rfl
theorem st_Parser_twin {v0 : V} : L2.start N_Parser_twin [v0] = [some v0, none] := rfl
theorem st__law_is_integer {v0 : V} : L2.start N__law_is_integer [v0] = [some v0] := rfl
theorem st__law_numbers {v0 v1 : V} : L2.start N__law_numbers [v0, v1] = [some v0, some v1, none, none, none, none, none] := rfl
theorem st__law_size {v0 : V} : L2.start N__law_size [v0] = [some v0] := rfl
theorem st__law_good {v0 v1 v2 v3 v4 : V} : L2.start N__law_good [v0, v1, v2, v3, v4] = [some v0, some v1, some v2, some v3, some v4, none, none] := rfl
theorem st__law_forgets {v0 : V} : L2.start N__law_forgets [v0] = [some v0, none] := rfl
theorem st__law_grown {v0 v1 v2 : V} : L2.start N__law_grown [v0, v1, v2] = [some v0, some v1, some v2, none, none, none] := rfl
theorem st_law {v0 : V} : L2.start N_law [v0] = [some v0, none, none, none, none, none, none, none, none, none, none, none, none, none, none, none, none, none, none, none] := rfl
theorem nb_0_0 : (("__init__" : Str) == "_at") = false := by decide +kernel
theorem nb_0_1 : (("__init__" : Str) == "_before") = false := by decide +kernel
theorem nb_0_2 : (("__init__" : Str) == "_chains") = false := by decide +kernel
theorem nb_0_3 : (("__init__" : Str) == "_floor") = false := by decide +kernel
theorem nb_0_4 : (("__init__" : Str) == "_held") = false := by decide +kernel
theorem nb_0_5 : (("__init__" : Str) == "_history") = false := by decide +kernel
theorem nb_0_6 : (("__init__" : Str) == "_latest") = false := by decide +kernel
theorem nb_0_7 : (("__init__" : Str) == "_window") = false := by decide +kernel
theorem nb_1_1 : (("_at" : Str) == "_before") = false := by decide +kernel
theorem nb_1_2 : (("_at" : Str) == "_chains") = false := by decide +kernel
theorem nb_1_3 : (("_at" : Str) == "_floor") = false := by decide +kernel
theorem nb_1_4 : (("_at" : Str) == "_held") = false := by decide +kernel
theorem nb_1_5 : (("_at" : Str) == "_history") = false := by decide +kernel
theorem nb_1_6 : (("_at" : Str) == "_latest") = false := by decide +kernel
theorem nb_1_7 : (("_at" : Str) == "_window") = false := by decide +kernel
theorem nb_2_0 : (("_before" : Str) == "_at") = false := by decide +kernel
theorem nb_2_2 : (("_before" : Str) == "_chains") = false := by decide +kernel
theorem nb_2_3 : (("_before" : Str) == "_floor") = false := by decide +kernel
theorem nb_2_4 : (("_before" : Str) == "_held") = false := by decide +kernel
theorem nb_2_5 : (("_before" : Str) == "_history") = false := by decide +kernel
theorem nb_2_6 : (("_before" : Str) == "_latest") = false := by decide +kernel
theorem nb_2_7 : (("_before" : Str) == "_window") = false := by decide +kernel
theorem nb_3_0 : (("_begin_to_wait" : Str) == "_at") = false := by decide +kernel
theorem nb_3_1 : (("_begin_to_wait" : Str) == "_before") = false := by decide +kernel
theorem nb_3_2 : (("_begin_to_wait" : Str) == "_chains") = false := by decide +kernel
theorem nb_3_3 : (("_begin_to_wait" : Str) == "_floor") = false := by decide +kernel
theorem nb_3_4 : (("_begin_to_wait" : Str) == "_held") = false := by decide +kernel
theorem nb_3_5 : (("_begin_to_wait" : Str) == "_history") = false := by decide +kernel
theorem nb_3_6 : (("_begin_to_wait" : Str) == "_latest") = false := by decide +kernel
theorem nb_3_7 : (("_begin_to_wait" : Str) == "_window") = false := by decide +kernel
theorem nb_4_0 : (("_better" : Str) == "_at") = false := by decide +kernel
theorem nb_4_1 : (("_better" : Str) == "_before") = false := by decide +kernel
theorem nb_4_2 : (("_better" : Str) == "_chains") = false := by decide +kernel
theorem nb_4_3 : (("_better" : Str) == "_floor") = false := by decide +kernel
theorem nb_4_4 : (("_better" : Str) == "_held") = false := by decide +kernel
theorem nb_4_5 : (("_better" : Str) == "_history") = false := by decide +kernel
theorem nb_4_6 : (("_better" : Str) == "_latest") = false := by decide +kernel
theorem nb_4_7 : (("_better" : Str) == "_window") = false := by decide +kernel
theorem nb_5_0 : (("_chains" : Str) == "_at") = false := by decide +kernel
theorem nb_5_1 : (("_chains" : Str) == "_before") = false := by decide +kernel
theorem nb_5_3 : (("_chains" : Str) == "_floor") = false := by decide +kernel
theorem nb_5_4 : (("_chains" : Str) == "_held") = false := by decide +kernel
theorem nb_5_5 : (("_chains" : Str) == "_history") = false := by decide +kernel
theorem nb_5_6 : (("_chains" : Str) == "_latest") = false := by decide +kernel
theorem nb_5_7 : (("_chains" : Str) == "_window") = false := by decide +kernel
theorem nb_6_0 : (("_emit" : Str) == "_at") = false := by decide +kernel
theorem nb_6_1 : (("_emit" : Str) == "_before") = false := by decide +kernel
theorem nb_6_2 : (("_emit" : Str) == "_chains") = false := by decide +kernel
theorem nb_6_3 : (("_emit" : Str) == "_floor") = false := by decide +kernel
theorem nb_6_4 : (("_emit" : Str) == "_held") = false := by decide +kernel
theorem nb_6_5 : (("_emit" : Str) == "_history") = false := by decide +kernel
theorem nb_6_6 : (("_emit" : Str) == "_latest") = false := by decide +kernel
theorem nb_6_7 : (("_emit" : Str) == "_window") = false := by decide +kernel
theorem nb_7_0 : (("_floor" : Str) == "_at") = false := by decide +kernel
theorem nb_7_1 : (("_floor" : Str) == "_before") = false := by decide +kernel
theorem nb_7_2 : (("_floor" : Str) == "_chains") = false := by decide +kernel
theorem nb_7_4 : (("_floor" : Str) == "_held") = false := by decide +kernel
theorem nb_7_5 : (("_floor" : Str) == "_history") = false := by decide +kernel
theorem nb_7_6 : (("_floor" : Str) == "_latest") = false := by decide +kernel
theorem nb_7_7 : (("_floor" : Str) == "_window") = false := by decide +kernel
theorem nb_8_0 : (("_found" : Str) == "_at") = false := by decide +kernel
theorem nb_8_1 : (("_found" : Str) == "_before") = false := by decide +kernel
theorem nb_8_2 : (("_found" : Str) == "_chains") = false := by decide +kernel
theorem nb_8_3 : (("_found" : Str) == "_floor") = false := by decide +kernel
theorem nb_8_4 : (("_found" : Str) == "_held") = false := by decide +kernel
theorem nb_8_5 : (("_found" : Str) == "_history") = false := by decide +kernel
theorem nb_8_6 : (("_found" : Str) == "_latest") = false := by decide +kernel
theorem nb_8_7 : (("_found" : Str) == "_window") = false := by decide +kernel
theorem nb_9_0 : (("_go_on_waiting" : Str) == "_at") = false := by decide +kernel
theorem nb_9_1 : (("_go_on_waiting" : Str) == "_before") = false := by decide +kernel
theorem nb_9_2 : (("_go_on_waiting" : Str) == "_chains") = false := by decide +kernel
theorem nb_9_3 : (("_go_on_waiting" : Str) == "_floor") = false := by decide +kernel
theorem nb_9_4 : (("_go_on_waiting" : Str) == "_held") = false := by decide +kernel
theorem nb_9_5 : (("_go_on_waiting" : Str) == "_history") = false := by decide +kernel
theorem nb_9_6 : (("_go_on_waiting" : Str) == "_latest") = false := by decide +kernel
theorem nb_9_7 : (("_go_on_waiting" : Str) == "_window") = false := by decide +kernel
theorem nb_10_0 : (("_held" : Str) == "_at") = false := by decide +kernel
theorem nb_10_1 : (("_held" : Str) == "_before") = false := by decide +kernel
theorem nb_10_2 : (("_held" : Str) == "_chains") = false := by decide +kernel
theorem nb_10_3 : (("_held" : Str) == "_floor") = false := by decide +kernel
theorem nb_10_5 : (("_held" : Str) == "_history") = false := by decide +kernel
theorem nb_10_6 : (("_held" : Str) == "_latest") = false := by decide +kernel
theorem nb_10_7 : (("_held" : Str) == "_window") = false := by decide +kernel
theorem nb_11_0 : (("_history" : Str) == "_at") = false := by decide +kernel
theorem nb_11_1 : (("_history" : Str) == "_before") = false := by decide +kernel
theorem nb_11_2 : (("_history" : Str) == "_chains") = false := by decide +kernel
theorem nb_11_3 : (("_history" : Str) == "_floor") = false := by decide +kernel
theorem nb_11_4 : (("_history" : Str) == "_held") = false := by decide +kernel
theorem nb_11_6 : (("_history" : Str) == "_latest") = false := by decide +kernel
theorem nb_11_7 : (("_history" : Str) == "_window") = false := by decide +kernel
theorem nb_12_0 : (("_latest" : Str) == "_at") = false := by decide +kernel
theorem nb_12_1 : (("_latest" : Str) == "_before") = false := by decide +kernel
theorem nb_12_2 : (("_latest" : Str) == "_chains") = false := by decide +kernel
theorem nb_12_3 : (("_latest" : Str) == "_floor") = false := by decide +kernel
theorem nb_12_4 : (("_latest" : Str) == "_held") = false := by decide +kernel
theorem nb_12_5 : (("_latest" : Str) == "_history") = false := by decide +kernel
theorem nb_12_7 : (("_latest" : Str) == "_window") = false := by decide +kernel
theorem nb_13_0 : (("_reaches_end" : Str) == "_at") = false := by decide +kernel
theorem nb_13_1 : (("_reaches_end" : Str) == "_before") = false := by decide +kernel
theorem nb_13_2 : (("_reaches_end" : Str) == "_chains") = false := by decide +kernel
theorem nb_13_3 : (("_reaches_end" : Str) == "_floor") = false := by decide +kernel
theorem nb_13_4 : (("_reaches_end" : Str) == "_held") = false := by decide +kernel
theorem nb_13_5 : (("_reaches_end" : Str) == "_history") = false := by decide +kernel
theorem nb_13_6 : (("_reaches_end" : Str) == "_latest") = false := by decide +kernel
theorem nb_13_7 : (("_reaches_end" : Str) == "_window") = false := by decide +kernel
theorem nb_14_0 : (("_window" : Str) == "_at") = false := by decide +kernel
theorem nb_14_1 : (("_window" : Str) == "_before") = false := by decide +kernel
theorem nb_14_2 : (("_window" : Str) == "_chains") = false := by decide +kernel
theorem nb_14_3 : (("_window" : Str) == "_floor") = false := by decide +kernel
theorem nb_14_4 : (("_window" : Str) == "_held") = false := by decide +kernel
theorem nb_14_5 : (("_window" : Str) == "_history") = false := by decide +kernel
theorem nb_14_6 : (("_window" : Str) == "_latest") = false := by decide +kernel
theorem nb_15_0 : (("at" : Str) == "_at") = false := by decide +kernel
theorem nb_15_1 : (("at" : Str) == "_before") = false := by decide +kernel
theorem nb_15_2 : (("at" : Str) == "_chains") = false := by decide +kernel
theorem nb_15_3 : (("at" : Str) == "_floor") = false := by decide +kernel
theorem nb_15_4 : (("at" : Str) == "_held") = false := by decide +kernel
theorem nb_15_5 : (("at" : Str) == "_history") = false := by decide +kernel
theorem nb_15_6 : (("at" : Str) == "_latest") = false := by decide +kernel
theorem nb_15_7 : (("at" : Str) == "_window") = false := by decide +kernel
theorem nb_16_0 : (("end" : Str) == "_at") = false := by decide +kernel
theorem nb_16_1 : (("end" : Str) == "_before") = false := by decide +kernel
theorem nb_16_2 : (("end" : Str) == "_chains") = false := by decide +kernel
theorem nb_16_3 : (("end" : Str) == "_floor") = false := by decide +kernel
theorem nb_16_4 : (("end" : Str) == "_held") = false := by decide +kernel
theorem nb_16_5 : (("end" : Str) == "_history") = false := by decide +kernel
theorem nb_16_6 : (("end" : Str) == "_latest") = false := by decide +kernel
theorem nb_16_7 : (("end" : Str) == "_window") = false := by decide +kernel
theorem nb_17_0 : (("enter" : Str) == "_at") = false := by decide +kernel
theorem nb_17_1 : (("enter" : Str) == "_before") = false := by decide +kernel
theorem nb_17_2 : (("enter" : Str) == "_chains") = false := by decide +kernel
theorem nb_17_3 : (("enter" : Str) == "_floor") = false := by decide +kernel
theorem nb_17_4 : (("enter" : Str) == "_held") = false := by decide +kernel
theorem nb_17_5 : (("enter" : Str) == "_history") = false := by decide +kernel
theorem nb_17_6 : (("enter" : Str) == "_latest") = false := by decide +kernel
theorem nb_17_7 : (("enter" : Str) == "_window") = false := by decide +kernel
theorem nb_18_0 : (("extend" : Str) == "_at") = false := by decide +kernel
theorem nb_18_1 : (("extend" : Str) == "_before") = false := by decide +kernel
theorem nb_18_2 : (("extend" : Str) == "_chains") = false := by decide +kernel
theorem nb_18_3 : (("extend" : Str) == "_floor") = false := by decide +kernel
theorem nb_18_4 : (("extend" : Str) == "_held") = false := by decide +kernel
theorem nb_18_5 : (("extend" : Str) == "_history") = false := by decide +kernel
theorem nb_18_6 : (("extend" : Str) == "_latest") = false := by decide +kernel
theorem nb_18_7 : (("extend" : Str) == "_window") = false := by decide +kernel
theorem nb_19_0 : (("floor" : Str) == "_at") = false := by decide +kernel
theorem nb_19_1 : (("floor" : Str) == "_before") = false := by decide +kernel
theorem nb_19_2 : (("floor" : Str) == "_chains") = false := by decide +kernel
theorem nb_19_3 : (("floor" : Str) == "_floor") = false := by decide +kernel
theorem nb_19_4 : (("floor" : Str) == "_held") = false := by decide +kernel
theorem nb_19_5 : (("floor" : Str) == "_history") = false := by decide +kernel
theorem nb_19_6 : (("floor" : Str) == "_latest") = false := by decide +kernel
theorem nb_19_7 : (("floor" : Str) == "_window") = false := by decide +kernel
theorem nb_20_0 : (("forget" : Str) == "_at") = false := by decide +kernel
theorem nb_20_1 : (("forget" : Str) == "_before") = false := by decide +kernel
theorem nb_20_2 : (("forget" : Str) == "_chains") = false := by decide +kernel
theorem nb_20_3 : (("forget" : Str) == "_floor") = false := by decide +kernel
theorem nb_20_4 : (("forget" : Str) == "_held") = false := by decide +kernel
theorem nb_20_5 : (("forget" : Str) == "_history") = false := by decide +kernel
theorem nb_20_6 : (("forget" : Str) == "_latest") = false := by decide +kernel
theorem nb_20_7 : (("forget" : Str) == "_window") = false := by decide +kernel
theorem nb_21_0 : (("front" : Str) == "_at") = false := by decide +kernel
theorem nb_21_1 : (("front" : Str) == "_before") = false := by decide +kernel
theorem nb_21_2 : (("front" : Str) == "_chains") = false := by decide +kernel
theorem nb_21_3 : (("front" : Str) == "_floor") = false := by decide +kernel
theorem nb_21_4 : (("front" : Str) == "_held") = false := by decide +kernel
theorem nb_21_5 : (("front" : Str) == "_history") = false := by decide +kernel
theorem nb_21_6 : (("front" : Str) == "_latest") = false := by decide +kernel
theorem nb_21_7 : (("front" : Str) == "_window") = false := by decide +kernel
theorem nb_22_0 : (("held" : Str) == "_at") = false := by decide +kernel
theorem nb_22_1 : (("held" : Str) == "_before") = false := by decide +kernel
theorem nb_22_2 : (("held" : Str) == "_chains") = false := by decide +kernel
theorem nb_22_3 : (("held" : Str) == "_floor") = false := by decide +kernel
theorem nb_22_4 : (("held" : Str) == "_held") = false := by decide +kernel
theorem nb_22_5 : (("held" : Str) == "_history") = false := by decide +kernel
theorem nb_22_6 : (("held" : Str) == "_latest") = false := by decide +kernel
theorem nb_22_7 : (("held" : Str) == "_window") = false := by decide +kernel
theorem nb_23_0 : (("nearest" : Str) == "_at") = false := by decide +kernel
theorem nb_23_1 : (("nearest" : Str) == "_before") = false := by decide +kernel
theorem nb_23_2 : (("nearest" : Str) == "_chains") = false := by decide +kernel
theorem nb_23_3 : (("nearest" : Str) == "_floor") = false := by decide +kernel
theorem nb_23_4 : (("nearest" : Str) == "_held") = false := by decide +kernel
theorem nb_23_5 : (("nearest" : Str) == "_history") = false := by decide +kernel
theorem nb_23_6 : (("nearest" : Str) == "_latest") = false := by decide +kernel
theorem nb_23_7 : (("nearest" : Str) == "_window") = false := by decide +kernel
theorem nb_24_0 : (("part" : Str) == "_at") = false := by decide +kernel
theorem nb_24_1 : (("part" : Str) == "_before") = false := by decide +kernel
theorem nb_24_2 : (("part" : Str) == "_chains") = false := by decide +kernel
theorem nb_24_3 : (("part" : Str) == "_floor") = false := by decide +kernel
theorem nb_24_4 : (("part" : Str) == "_held") = false := by decide +kernel
theorem nb_24_5 : (("part" : Str) == "_history") = false := by decide +kernel
theorem nb_24_6 : (("part" : Str) == "_latest") = false := by decide +kernel
theorem nb_24_7 : (("part" : Str) == "_window") = false := by decide +kernel
theorem nb_25_0 : (("step" : Str) == "_at") = false := by decide +kernel
theorem nb_25_1 : (("step" : Str) == "_before") = false := by decide +kernel
theorem nb_25_2 : (("step" : Str) == "_chains") = false := by decide +kernel
theorem nb_25_3 : (("step" : Str) == "_floor") = false := by decide +kernel
theorem nb_25_4 : (("step" : Str) == "_held") = false := by decide +kernel
theorem nb_25_5 : (("step" : Str) == "_history") = false := by decide +kernel
theorem nb_25_6 : (("step" : Str) == "_latest") = false := by decide +kernel
theorem nb_25_7 : (("step" : Str) == "_window") = false := by decide +kernel
theorem nb_26_0 : (("twin" : Str) == "_at") = false := by decide +kernel
theorem nb_26_1 : (("twin" : Str) == "_before") = false := by decide +kernel
theorem nb_26_2 : (("twin" : Str) == "_chains") = false := by decide +kernel
theorem nb_26_3 : (("twin" : Str) == "_floor") = false := by decide +kernel
theorem nb_26_4 : (("twin" : Str) == "_held") = false := by decide +kernel
theorem nb_26_5 : (("twin" : Str) == "_history") = false := by decide +kernel
theorem nb_26_6 : (("twin" : Str) == "_latest") = false := by decide +kernel
theorem nb_26_7 : (("twin" : Str) == "_window") = false := by decide +kernel
structure Tx (K : PySem.W.Frag) (mg : Str → Option Value) : Prop where
  b_abs : mg "abs" = none
  b_bool : mg "bool" = none
  b_dict : mg "dict" = none
  b_int : mg "int" = none
  b_isinstance : mg "isinstance" = none
  b_len : mg "len" = none
  b_list : mg "list" = none
  b_max : mg "max" = none
  b_min : mg "min" = none
  b_range : mg "range" = none
  b_tuple : mg "tuple" = none
  c_LEAST_LENGTH : ∃ u, mg "LEAST_LENGTH" = some u ∧ RelV (.int (3)) u
  c_MOST_LENGTH : ∃ u, mg "MOST_LENGTH" = some u ∧ RelV (.int (258)) u
  c_NO_COPY_finder : ∃ u, mg "NO_COPY_finder" = some u ∧ RelV (.ref (He.ga K "NO_COPY_finder")) u
  q_NO_COPY_finder : ∀ H, SqT K H (He.ga K "NO_COPY_finder") (([.int (0), .int (0)] : List He.Dv).map (He.Dv.v K))
  c__NO_PLACE : ∃ u, mg "_NO_PLACE" = some u ∧ RelV (.int (-1)) u
  c__BUCKETS : ∃ u, mg "_BUCKETS" = some u ∧ RelV (.int (4096)) u
  c_FILTERED : ∃ u, mg "FILTERED" = some u ∧ RelV (.int (1)) u
  c_HUFFMAN : ∃ u, mg "HUFFMAN" = some u ∧ RelV (.int (2)) u
  c_RUNS : ∃ u, mg "RUNS" = some u ∧ RelV (.int (3)) u
  c_NO_COPY_levels : ∃ u, mg "NO_COPY_levels" = some u ∧ RelV (.ref (He.ga K "NO_COPY_levels")) u
  q_NO_COPY_levels : ∀ H, SqT K H (He.ga K "NO_COPY_levels") (([.int (0), .int (0)] : List He.Dv).map (He.Dv.v K))
  c__FARTHEST_OF_THREE : ∃ u, mg "_FARTHEST_OF_THREE" = some u ∧ RelV (.int (4096)) u
  c__LEAST_FILTERED : ∃ u, mg "_LEAST_FILTERED" = some u ∧ RelV (.int (6)) u
  c__LOOK_AHEAD : ∃ u, mg "_LOOK_AHEAD" = some u ∧ RelV (.int (320)) u
  x_NotEntered : ExF K mg "NotEntered"
  x_Busy : ExF K mg "Busy"
  g_Chains : mg "Chains" = some (.ref (He.ga K "Chains"))
  c_Chains : ClsF K "Chains" ["_window", "_floor", "_latest", "_before"]
  g_Parser : mg "Parser" = some (.ref (He.ga K "Parser"))
  c_Parser : ClsF K "Parser" ["_history", "_at", "_held", "_chains"]
  d__law_draws : mg "_law_draws" = some (.ref (He.ga K "_law_draws")) ∧ ∃ fd, FunD K "_law_draws" "_law_draws" (defArgs s__law_draws) (defBody s__law_draws) (defScope s__law_draws) [] [] (He.ga K "_law_draws") fd
  d__law_at : mg "_law_at" = some (.ref (He.ga K "_law_at")) ∧ ∃ fd, FunD K "_law_at" "_law_at" (defArgs s__law_at) (defBody s__law_at) (defScope s__law_at) [] [] (He.ga K "_law_at") fd
  d_common_length : mg "common_length" = some (.ref (He.ga K "common_length")) ∧ ∃ fd, FunD K "common_length" "common_length" (defArgs s_common_length) (defBody s_common_length) (defScope s_common_length) [] [] (He.ga K "common_length") fd
  d_search : mg "search" = some (.ref (He.ga K "search")) ∧ ∃ fd, FunD K "search" "search" (defArgs s_search) (defBody s_search) (defScope s_search) [] [] (He.ga K "search") fd
  d__are_same : mg "_are_same" = some (.ref (He.ga K "_are_same")) ∧ ∃ fd, FunD K "_are_same" "_are_same" (defArgs s__are_same) (defBody s__are_same) (defScope s__are_same) [] [] (He.ga K "_are_same") fd
  d__bucket : mg "_bucket" = some (.ref (He.ga K "_bucket")) ∧ ∃ fd, FunD K "_bucket" "_bucket" (defArgs s__bucket) (defBody s__bucket) (defScope s__bucket) [] [] (He.ga K "_bucket") fd
  d_Chains___init__ : ∃ fd, FunD K "__init__" "Chains.__init__" (defArgs s_Chains___init__) (defBody s_Chains___init__) (defScope s_Chains___init__) [] [] (He.ma K (He.ga K "Chains") "__init__") fd
  m_Chains___init__ : Mk K (He.ga K "Chains") (He.ma K (He.ga K "Chains") "__init__")
  d_Chains_enter : ∃ fd, FunD K "enter" "Chains.enter" (defArgs s_Chains_enter) (defBody s_Chains_enter) (defScope s_Chains_enter) [] [] (He.ma K (He.ga K "Chains") "enter") fd
  m_Chains_enter : Meth K (He.ga K "Chains") "enter" (He.ma K (He.ga K "Chains") "enter")
  d_Chains_nearest : ∃ fd, FunD K "nearest" "Chains.nearest" (defArgs s_Chains_nearest) (defBody s_Chains_nearest) (defScope s_Chains_nearest) [] [] (He.ma K (He.ga K "Chains") "nearest") fd
  m_Chains_nearest : Meth K (He.ga K "Chains") "nearest" (He.ma K (He.ga K "Chains") "nearest")
  d_Chains_forget : ∃ fd, FunD K "forget" "Chains.forget" (defArgs s_Chains_forget) (defBody s_Chains_forget) (defScope s_Chains_forget) [] [] (He.ma K (He.ga K "Chains") "forget") fd
  m_Chains_forget : Meth K (He.ga K "Chains") "forget" (He.ma K (He.ga K "Chains") "forget")
  d_Chains_floor : ∃ fd, FunD K "floor" "Chains.floor" (defArgs s_Chains_floor) (defBody s_Chains_floor) (defScope s_Chains_floor) [] [] (He.ma K (He.ga K "Chains") "floor") fd
  m_Chains_floor : Meth K (He.ga K "Chains") "floor" (He.ma K (He.ga K "Chains") "floor")
  d_usable : mg "usable" = some (.ref (He.ga K "usable")) ∧ ∃ fd, FunD K "usable" "usable" (defArgs s_usable) (defBody s_usable) (defScope s_usable) [] [] (He.ga K "usable") fd
  d_run_at : mg "run_at" = some (.ref (He.ga K "run_at")) ∧ ∃ fd, FunD K "run_at" "run_at" (defArgs s_run_at) (defBody s_run_at) (defScope s_run_at) [] [] (He.ga K "run_at") fd
  d_Parser___init__ : ∃ fd, FunD K "__init__" "Parser.__init__" (defArgs s_Parser___init__) (defBody s_Parser___init__) (defScope s_Parser___init__) [] [] (He.ma K (He.ga K "Parser") "__init__") fd
  m_Parser___init__ : Mk K (He.ga K "Parser") (He.ma K (He.ga K "Parser") "__init__")
  d_Parser_extend : ∃ fd, FunD K "extend" "Parser.extend" (defArgs s_Parser_extend) (defBody s_Parser_extend) (defScope s_Parser_extend) [] [] (He.ma K (He.ga K "Parser") "extend") fd
  m_Parser_extend : Meth K (He.ga K "Parser") "extend" (He.ma K (He.ga K "Parser") "extend")
  d_Parser_at : ∃ fd, FunD K "at" "Parser.at" (defArgs s_Parser_at) (defBody s_Parser_at) (defScope s_Parser_at) [] [] (He.ma K (He.ga K "Parser") "at") fd
  m_Parser_at : Meth K (He.ga K "Parser") "at" (He.ma K (He.ga K "Parser") "at")
  d_Parser_front : ∃ fd, FunD K "front" "Parser.front" (defArgs s_Parser_front) (defBody s_Parser_front) (defScope s_Parser_front) [] [] (He.ma K (He.ga K "Parser") "front") fd
  m_Parser_front : Meth K (He.ga K "Parser") "front" (He.ma K (He.ga K "Parser") "front")
  d_Parser_end : ∃ fd, FunD K "end" "Parser.end" (defArgs s_Parser_end) (defBody s_Parser_end) (defScope s_Parser_end) [] [] (He.ma K (He.ga K "Parser") "end") fd
  m_Parser_end : Meth K (He.ga K "Parser") "end" (He.ma K (He.ga K "Parser") "end")
  d_Parser_floor : ∃ fd, FunD K "floor" "Parser.floor" (defArgs s_Parser_floor) (defBody s_Parser_floor) (defScope s_Parser_floor) [] [] (He.ma K (He.ga K "Parser") "floor") fd
  m_Parser_floor : Meth K (He.ga K "Parser") "floor" (He.ma K (He.ga K "Parser") "floor")
  d_Parser__emit : ∃ fd, FunD K "_emit" "Parser._emit" (defArgs s_Parser__emit) (defBody s_Parser__emit) (defScope s_Parser__emit) [] [] (He.ma K (He.ga K "Parser") "_emit") fd
  m_Parser__emit : Meth K (He.ga K "Parser") "_emit" (He.ma K (He.ga K "Parser") "_emit")
  d_Parser__found : ∃ fd, FunD K "_found" "Parser._found" (defArgs s_Parser__found) (defBody s_Parser__found) (defScope s_Parser__found) [] [] (He.ma K (He.ga K "Parser") "_found") fd
  m_Parser__found : Meth K (He.ga K "Parser") "_found" (He.ma K (He.ga K "Parser") "_found")
  d_Parser__reaches_end : ∃ fd, FunD K "_reaches_end" "Parser._reaches_end" (defArgs s_Parser__reaches_end) (defBody s_Parser__reaches_end) (defScope s_Parser__reaches_end) [] [] (He.ma K (He.ga K "Parser") "_reaches_end") fd
  m_Parser__reaches_end : Meth K (He.ga K "Parser") "_reaches_end" (He.ma K (He.ga K "Parser") "_reaches_end")
  d_Parser__better : ∃ fd, FunD K "_better" "Parser._better" (defArgs s_Parser__better) (defBody s_Parser__better) (defScope s_Parser__better) [] [] (He.ma K (He.ga K "Parser") "_better") fd
  m_Parser__better : Meth K (He.ga K "Parser") "_better" (He.ma K (He.ga K "Parser") "_better")
  d_Parser__begin_to_wait : ∃ fd, FunD K "_begin_to_wait" "Parser._begin_to_wait" (defArgs s_Parser__begin_to_wait) (defBody s_Parser__begin_to_wait) (defScope s_Parser__begin_to_wait) [] [] (He.ma K (He.ga K "Parser") "_begin_to_wait") fd
  m_Parser__begin_to_wait : Meth K (He.ga K "Parser") "_begin_to_wait" (He.ma K (He.ga K "Parser") "_begin_to_wait")
  d_Parser__go_on_waiting : ∃ fd, FunD K "_go_on_waiting" "Parser._go_on_waiting" (defArgs s_Parser__go_on_waiting) (defBody s_Parser__go_on_waiting) (defScope s_Parser__go_on_waiting) [] [] (He.ma K (He.ga K "Parser") "_go_on_waiting") fd
  m_Parser__go_on_waiting : Meth K (He.ga K "Parser") "_go_on_waiting" (He.ma K (He.ga K "Parser") "_go_on_waiting")
  d_Parser_step : ∃ fd, FunD K "step" "Parser.step" (defArgs s_Parser_step) (defBody s_Parser_step) (defScope s_Parser_step) [] [] (He.ma K (He.ga K "Parser") "step") fd
  m_Parser_step : Meth K (He.ga K "Parser") "step" (He.ma K (He.ga K "Parser") "step")
  d_Chains_twin : ∃ fd, FunD K "twin" "Chains.twin" (defArgs s_Chains_twin) (defBody s_Chains_twin) (defScope s_Chains_twin) [] [] (He.ma K (He.ga K "Chains") "twin") fd
  m_Chains_twin : Meth K (He.ga K "Chains") "twin" (He.ma K (He.ga K "Chains") "twin")
  d_Parser_held : ∃ fd, FunD K "held" "Parser.held" (defArgs s_Parser_held) (defBody s_Parser_held) (defScope s_Parser_held) [] [] (He.ma K (He.ga K "Parser") "held") fd
  m_Parser_held : Meth K (He.ga K "Parser") "held" (He.ma K (He.ga K "Parser") "held")
  d_Parser_forget : ∃ fd, FunD K "forget" "Parser.forget" (defArgs s_Parser_forget) (defBody s_Parser_forget) (defScope s_Parser_forget) [] [] (He.ma K (He.ga K "Parser") "forget") fd
  m_Parser_forget : Meth K (He.ga K "Parser") "forget" (He.ma K (He.ga K "Parser") "forget")
  d_Parser_part : ∃ fd, FunD K "part" "Parser.part" (defArgs s_Parser_part) (defBody s_Parser_part) (defScope s_Parser_part) [] [] (He.ma K (He.ga K "Parser") "part") fd
  m_Parser_part : Meth K (He.ga K "Parser") "part" (He.ma K (He.ga K "Parser") "part")
  d_Parser_twin : ∃ fd, FunD K "twin" "Parser.twin" (defArgs s_Parser_twin) (defBody s_Parser_twin) (defScope s_Parser_twin) [] [] (He.ma K (He.ga K "Parser") "twin") fd
  m_Parser_twin : Meth K (He.ga K "Parser") "twin" (He.ma K (He.ga K "Parser") "twin")
  d__law_is_integer : mg "_law_is_integer" = some (.ref (He.ga K "_law_is_integer")) ∧ ∃ fd, FunD K "_law_is_integer" "_law_is_integer" (defArgs s__law_is_integer) (defBody s__law_is_integer) (defScope s__law_is_integer) [] [] (He.ga K "_law_is_integer") fd
  d__law_numbers : mg "_law_numbers" = some (.ref (He.ga K "_law_numbers")) ∧ ∃ fd, FunD K "_law_numbers" "_law_numbers" (defArgs s__law_numbers) (defBody s__law_numbers) (defScope s__law_numbers) [] [] (He.ga K "_law_numbers") fd
  d__law_size : mg "_law_size" = some (.ref (He.ga K "_law_size")) ∧ ∃ fd, FunD K "_law_size" "_law_size" (defArgs s__law_size) (defBody s__law_size) (defScope s__law_size) [] [] (He.ga K "_law_size") fd
  d__law_good : mg "_law_good" = some (.ref (He.ga K "_law_good")) ∧ ∃ fd, FunD K "_law_good" "_law_good" (defArgs s__law_good) (defBody s__law_good) (defScope s__law_good) [] [] (He.ga K "_law_good") fd
  d__law_forgets : mg "_law_forgets" = some (.ref (He.ga K "_law_forgets")) ∧ ∃ fd, FunD K "_law_forgets" "_law_forgets" (defArgs s__law_forgets) (defBody s__law_forgets) (defScope s__law_forgets) [] [] (He.ga K "_law_forgets") fd
  d__law_grown : mg "_law_grown" = some (.ref (He.ga K "_law_grown")) ∧ ∃ fd, FunD K "_law_grown" "_law_grown" (defArgs s__law_grown) (defBody s__law_grown) (defScope s__law_grown) [] [] (He.ga K "_law_grown") fd
  d_law : mg "law" = some (.ref (He.ga K "law")) ∧ ∃ fd, FunD K "law" "law" (defArgs s_law) (defBody s_law) (defScope s_law) [] [] (He.ga K "law") fd
  i_init : PySem.W.typeIn K (.ref (He.ma K (He.ga K "BellowsError") "__init__")) = some (.type "function") ∧ ∃ fd, FunD K "__init__" "BellowsError.__init__" (defArgs s_BellowsError___init__) (defBody s_BellowsError___init__) (defScope s_BellowsError___init__) [] [] (He.ma K (He.ga K "BellowsError") "__init__") fd
section
variable {P : Program} {w : World} {K : PySem.W.Frag} {mg : Str → Option Value} {base : Heap}
theorem ok_init (T : Tx K mg) : InitOk P w K mg base := by
  obtain ⟨ti, fd, F⟩ := T.i_init
  refine ⟨fd, F.ok sc_BellowsError___init__ (fun vs H Q E h => ?_) (fun cdv A outer s H vs Q E hr h => ⟨_, PSs.nox (pss_one (ps_ost (pv 0) (pv 1))), ?_⟩), F.bindsN (fun _ _ _ _ _ _ us hl => match us, hl with | [_, _], _ => rfl), ti⟩
  · obtain ⟨_, _, _, rfl, _⟩ := h
    rfl
  · obtain ⟨a, C, v, rfl, h1, h2, h3, q⟩ := h
    exact ⟨_, rfl, _, rfl, a, C, rfl, h1, h2, .inl ⟨h3, q⟩⟩
end
end K52

namespace K52
open PySem PySem.Spec PyProof.Rows L2 Bel
local macro_rules | `(tactic| wtm_at "xs") => `(tactic| simp only [x_next, x_seq, x_brk, x_cont, x_drop, x_ret, x_retN, x_if, sel_t, sel_f, selE_t, selE_f, selT_t, selT_f, selC_t, selC_f, x_test, x_tB, x_op, x_un, x_var, x_c, x_cb, x_nil, x_cons, x_rI, x_rI0, x_rU, x_rEq, x_rNe, x_rIxL, x_rIxT, x_rSlL, x_rCat, x_rRep, x_rApp, x_bm, x_bm0, x_sl, x_nopart, x_part, x_tup, x_lst, x_call, x_callS, x_asg, x_gname, x_gtup, x_gnil, x_gcons, x_gsub, x_setL, x_aug, x_ipI, x_ipC, x_bits, x_getL, x_augS, x_and, x_or, x_not, x_k, x_andV, x_orV, x_notV, x_ife, x_chain, x_for, x_ilist, x_itup, x_ienum, x_irng1, x_irng2, x_irev, x_lc, x_yes, wipe_nil, wipe_cons, List.map_cons, List.map_nil, x_misc, x_misc2, x_rz, lookup_at, Bool.not_true, Bool.not_false, decide_true, decide_false, not_true, not_false_eq_true, and_assoc, exists_and_left, exists_eq_left', exists_eq_left, exists_eq', exists_eq_right', exists_eq_right, V.int.injEq, V.ref.injEq, V.bl.injEq, V.str.injEq, List.cons.injEq, and_true, true_and, and_self, Option.some.injEq, List.cons_append, List.nil_append, List.append_nil, List.getElem?_cons_zero, List.getElem?_cons_succ, List.set_cons_zero, List.set_cons_succ, reduceCtorEq, false_and, and_false, exists_false, exists_const, or_false, false_or, scal_ii, scal_bb, scal_ss, List.length_cons, List.length_nil, Int.reduceToNat, Int.reducePow])
local macro_rules | `(tactic| k_call_by "xs" $h:term) => `(tactic| simp only [$h:term, x_next, x_seq, x_brk, x_cont, x_drop, x_ret, x_retN, x_if, sel_t, sel_f, selE_t, selE_f, selT_t, selT_f, selC_t, selC_f, x_test, x_tB, x_op, x_un, x_var, x_c, x_cb, x_nil, x_cons, x_rI, x_rI0, x_rU, x_rEq, x_rNe, x_rIxL, x_rIxT, x_rSlL, x_rCat, x_rRep, x_rApp, x_bm, x_bm0, x_sl, x_nopart, x_part, x_tup, x_lst, x_call, x_callS, x_asg, x_gname, x_gtup, x_gnil, x_gcons, x_gsub, x_setL, x_aug, x_ipI, x_ipC, x_bits, x_getL, x_augS, x_and, x_or, x_not, x_k, x_andV, x_orV, x_notV, x_ife, x_chain, x_for, x_ilist, x_itup, x_ienum, x_irng1, x_irng2, x_irev, x_lc, x_yes, wipe_nil, wipe_cons, List.map_cons, List.map_nil, x_misc, x_misc2, x_rz, lookup_at, Bool.not_true, Bool.not_false, decide_true, decide_false, not_true, not_false_eq_true, and_assoc, exists_and_left, exists_eq_left', exists_eq_left, exists_eq', exists_eq_right', exists_eq_right, V.int.injEq, V.ref.injEq, V.bl.injEq, V.str.injEq, List.cons.injEq, and_true, true_and, and_self, Option.some.injEq, List.cons_append, List.nil_append, List.append_nil, List.getElem?_cons_zero, List.getElem?_cons_succ, List.set_cons_zero, List.set_cons_succ, reduceCtorEq, false_and, and_false, exists_false, exists_const, or_false, false_or, scal_ii, scal_bb, scal_ss, List.length_cons, List.length_nil, Int.reduceToNat, Int.reducePow])
local macro_rules | `(tactic| wtm_at "hp") => `(tactic| first | (with_reducible assumption) | exact upd_same | (refine upd_keep (by with_reducible assumption) ?_; wtm_at "hp") | (refine Same.get (by with_reducible assumption) ?_; wtm_at "hp") | (refine upd_other (by first | (with_reducible assumption) | exact Ne.symm (by with_reducible assumption)) ?_; wtm_at "hp"))
local macro_rules | `(tactic| wtm_at "sq") => `(tactic| first | (with_reducible assumption) | exact SqL.of (by wtm_at "hp") | exact SqT.of (by wtm_at "hp") | (refine Same.seq (same_upd (by with_reducible assumption)) ?_; wtm_at "sq") | (refine Same.seq (by with_reducible assumption) ?_; wtm_at "sq") | (refine Same.seqT (same_upd (by with_reducible assumption)) ?_; wtm_at "sq") | (refine Same.seqT (by with_reducible assumption) ?_; wtm_at "sq"))
local macro_rules | `(tactic| wtm_at "cl") => `(tactic| first | (with_reducible assumption) | omega | (exact cmul_r (by omega) (by omega)) | (exact cmul_l (by omega) (by omega)) | (exact cdiv_ok (by omega) (by omega)) | (exact cpow_ok (by decide)) | (exact ⟨by omega, by omega, by omega⟩) | decide | (exact ⟨by omega, by omega⟩) | (simp only [List.length_append, List.length_map, List.length_set, List.length_cons, List.length_nil, rngL_len, sizeLine_eq]; omega) | wtm_at "hp" | wtm_at "sq")
local macro_rules | `(tactic| wtm_at "pf") => `(tactic| first | (with_reducible assumption) | omega | (simp only [List.length_append, List.length_map, List.length_set, List.length_cons, List.length_nil, rngL_len]; omega) | (with_reducible rfl) | (with_reducible trivial) | (with_reducible decide))
local macro_rules | `(tactic| wtm_at "st") => `(tactic| first | ((with_reducible refine g_isi ?_); first | (with_reducible refine isi_ii ?_) | (with_reducible refine isi_ib ?_) | (refine isi_int rfl ?_) | (refine isi_lst rfl (by wtm_at "hp") ?_) | (refine isi_tup rfl (by wtm_at "hp") ?_)) | ((with_reducible refine g_ned ?_); refine ned_f (dq_lst (by wtm_at "sq")) (dq_lst (by wtm_at "sq")) ?_) | ((with_reducible refine g_eqd ?_); refine eqd_t (dq_lst (by wtm_at "sq")) (dq_lst (by wtm_at "sq")) ?_) | ((with_reducible refine g_tyv ?_); refine and_tyv (by wtm_at "sq") ?_) | ((with_reducible refine g_asq ?_); refine and_sq (by wtm_at "sq") ?_) | ((with_reducible refine g_lst ?_); refine ex_lst (by wtm_at "hp") ?_) | ((with_reducible refine g_or ?_); first | (refine ex_or (by wtm_at "sq") ?_) | (refine ex_ort (by wtm_at "sq") ?_)) | ((with_reducible refine g_sq ?_); refine ex_sq (by wtm_at "sq") ?_) | ((with_reducible refine g_sqt ?_); refine ex_sqt (by wtm_at "sq") ?_) | ((with_reducible refine gd_sel ?_); first | (refine sel_p (by wtm_at "pf") ?_) | (refine sel_n (by wtm_at "pf") ?_)) | ((with_reducible refine gn_sel ?_); first | (refine selN_p (by wtm_at "pf") ?_) | (refine selN_n (by wtm_at "pf") ?_)) | ((with_reducible refine gd_selT ?_); first | (refine selT_p (by wtm_at "pf") ?_) | (refine selT_n (by wtm_at "pf") ?_)) | ((with_reducible refine gn_selT ?_); first | (refine selTN_p (by wtm_at "pf") ?_) | (refine selTN_n (by wtm_at "pf") ?_)) | ((with_reducible refine gd_selE ?_); first | (refine selE_p (by wtm_at "pf") ?_) | (refine selE_n (by wtm_at "pf") ?_)) | ((with_reducible refine gn_selE ?_); first | (refine selEN_p (by wtm_at "pf") ?_) | (refine selEN_n (by wtm_at "pf") ?_)) | ((with_reducible refine g_xf ?_); refine xf_at rfl (by wtm_at "hp") ?_) | ((with_reducible refine g_atI ?_); refine ex_at (by first | exact rfl | exact atI_int (by omega) (by wtm_at "pf") | exact atI_end (by wtm_at "pf")) ?_) | ((with_reducible refine g_and ?_); refine And.intro (by wtm_at "cl") ?_) | ((with_reducible refine g_new ?_); intro _ _))
local macro_rules | `(tactic| wtm_at "go") => `(tactic| repeat (first | wtm_at "xs" | wtm_at "st"))
local macro_rules | `(tactic| wtm_at "xo") => `(tactic| simp only [x_next, x_seq, x_brk, x_cont, x_drop, x_ret, x_retN, x_if, sel_t, sel_f, selE_t, selE_f, selT_t, selT_f, selC_t, selC_f, x_test, x_tB, x_op, x_un, x_var, x_c, x_cb, x_nil, x_cons, x_rI, x_rI0, x_rU, x_rEq, x_rNe, x_rIxL, x_rIxT, n_rSlL, n_rCat, n_rRep, n_rApp, x_bm, x_bm0, x_sl, x_nopart, x_part, n_tup, n_lst, x_call, x_callS, x_asg, x_gname, x_gtup, x_gnil, x_gcons, x_gsub, n_setL, x_aug, x_ipI, x_ipC, x_bits, x_getL, x_augS, x_and, x_or, x_not, x_k, x_andV, x_orV, x_notV, x_ife, x_chain, x_for, x_ilist, x_itup, x_ienum, x_irng1, x_irng2, x_irev, x_lc, x_yes, wipe_nil, wipe_cons, List.map_cons, List.map_nil, x_misc, x_misc2, x_rz, lookup_at, Bool.not_true, Bool.not_false, decide_true, decide_false, not_true, not_false_eq_true, and_assoc, exists_and_left, exists_eq_left', exists_eq_left, exists_eq', exists_eq_right', exists_eq_right, V.int.injEq, V.ref.injEq, V.bl.injEq, V.str.injEq, List.cons.injEq, and_true, true_and, and_self, Option.some.injEq, List.cons_append, List.nil_append, List.append_nil, List.getElem?_cons_zero, List.getElem?_cons_succ, List.set_cons_zero, List.set_cons_succ, reduceCtorEq, false_and, and_false, exists_false, exists_const, or_false, false_or, scal_ii, scal_bb, scal_ss, List.length_cons, List.length_nil, Int.reduceToNat, Int.reducePow, n_fld, n_dnew, n_dput, n_din, n_dget, n_dget2, n_glst, n_sfld, n_aug, n_meth, n_mw, n_make, n_kw, n_rLs, n_dcp, n_ext, n_revL, n_rTp, t_im, ints_rev, t_s1, t_i1, t_i2, t_i3, t_i4, t_i5, x_chain3, x_irng3, x_irevR, x_rg1, x_rg2, ints_cat, ints_app1, ints_len, ints_take, ints_drop, rep_one])
local macro_rules | `(tactic| k_call_by "xo" $h:term) => `(tactic| simp only [$h:term, x_next, x_seq, x_brk, x_cont, x_drop, x_ret, x_retN, x_if, sel_t, sel_f, selE_t, selE_f, selT_t, selT_f, selC_t, selC_f, x_test, x_tB, x_op, x_un, x_var, x_c, x_cb, x_nil, x_cons, x_rI, x_rI0, x_rU, x_rEq, x_rNe, x_rIxL, x_rIxT, n_rSlL, n_rCat, n_rRep, n_rApp, x_bm, x_bm0, x_sl, x_nopart, x_part, n_tup, n_lst, x_call, x_callS, x_asg, x_gname, x_gtup, x_gnil, x_gcons, x_gsub, n_setL, x_aug, x_ipI, x_ipC, x_bits, x_getL, x_augS, x_and, x_or, x_not, x_k, x_andV, x_orV, x_notV, x_ife, x_chain, x_for, x_ilist, x_itup, x_ienum, x_irng1, x_irng2, x_irev, x_lc, x_yes, wipe_nil, wipe_cons, List.map_cons, List.map_nil, x_misc, x_misc2, x_rz, lookup_at, Bool.not_true, Bool.not_false, decide_true, decide_false, not_true, not_false_eq_true, and_assoc, exists_and_left, exists_eq_left', exists_eq_left, exists_eq', exists_eq_right', exists_eq_right, V.int.injEq, V.ref.injEq, V.bl.injEq, V.str.injEq, List.cons.injEq, and_true, true_and, and_self, Option.some.injEq, List.cons_append, List.nil_append, List.append_nil, List.getElem?_cons_zero, List.getElem?_cons_succ, List.set_cons_zero, List.set_cons_succ, reduceCtorEq, false_and, and_false, exists_false, exists_const, or_false, false_or, scal_ii, scal_bb, scal_ss, List.length_cons, List.length_nil, Int.reduceToNat, Int.reducePow, n_fld, n_dnew, n_dput, n_din, n_dget, n_dget2, n_glst, n_sfld, n_aug, n_meth, n_mw, n_make, n_kw, n_rLs, n_dcp, n_ext, n_revL, n_rTp, t_im, ints_rev, t_s1, t_i1, t_i2, t_i3, t_i4, t_i5, x_chain3, x_irng3, x_irevR, x_rg1, x_rg2, ints_cat, ints_app1, ints_len, ints_take, ints_drop, rep_one])
local macro_rules | `(tactic| wtm_at "mem") => `(tactic| first | (with_reducible exact mem_here) | (with_reducible refine mem_there ?_; wtm_at "mem"))
local macro_rules | `(tactic| wtm_at "pp") => `(tactic| first | (with_reducible exact Put.here) | (with_reducible apply Put.there; wtm_at "pp"))
local macro_rules | `(tactic| wtm_at "ho") => `(tactic| first | (with_reducible assumption) | exact Own.get (by with_reducible assumption) (by wtm_at "mem") | exact Own.base (by with_reducible assumption) (by with_reducible assumption))
local macro_rules | `(tactic| wtm_at "qo") => `(tactic| first | (with_reducible assumption) | exact SqL.of (by wtm_at "ho") | exact sqT_tupI (by wtm_at "ho") | exact sqT_tupS (by wtm_at "ho") | exact SqT.of (by wtm_at "ho") | exact Own.imT (by with_reducible assumption) (by wtm_at "mem") | exact Own.sq (by with_reducible assumption) (by with_reducible assumption) | exact Own.sqT (by with_reducible assumption) (by with_reducible assumption))
local macro_rules | `(tactic| wtm_at "sub") => `(tactic| first | exact List.nil_sublist _ | (with_reducible refine List.Sublist.cons_cons _ ?_; wtm_at "sub") | (refine List.Sublist.cons _ ?_; wtm_at "sub"))
local macro_rules | `(tactic| wtm_at "co") => `(tactic| first | (with_reducible assumption) | omega | (exact cmul_r (by omega) (by omega)) | (exact cmul_l (by omega) (by omega)) | (exact cdiv_ok (by omega) (by omega)) | (exact cpow_ok (by decide)) | (exact ⟨by omega, by omega, by omega⟩) | decide | (exact ⟨by omega, by omega⟩) | (simp only [List.length_append, List.length_map, List.length_set, List.length_cons, List.length_nil, rngL_len, sizeLine_eq]; omega) | wtm_at "ho" | wtm_at "qo")
local macro_rules | `(tactic| wtm_at "so") => `(tactic| first | ((with_reducible refine g_dcp ?_); refine dcpI (by wtm_at "ho") ?_) | ((with_reducible refine g_asl ?_); refine And.intro (by rfl) ?_) | ((with_reducible refine g_asqT ?_); refine and_sqT (by wtm_at "qo") ?_) | ((with_reducible refine g_extO ?_); first | (refine extI (by with_reducible assumption) (by wtm_at "pp") (by wtm_at "co") (fun _ _ => ?_)) | (refine extO (by with_reducible assumption) (by wtm_at "pp") (by wtm_at "co") (fun _ _ => ?_))) | ((with_reducible refine g_tp ?_); first | (refine tp_l (by wtm_at "qo") ?_) | (refine tp_t (by wtm_at "qo") ?_)) | ((with_reducible refine g_dputO ?_); refine dputI (by with_reducible assumption) (by wtm_at "pp") (by wtm_at "co") (fun _ _ => ?_)) | ((with_reducible refine g_dinO ?_); refine dinI (by wtm_at "ho") ?_) | ((with_reducible refine g_isDO ?_); refine isDO (by wtm_at "ho") ?_) | ((with_reducible refine g_dg2 ?_); refine dg2I (by wtm_at "ho") ?_) | ((with_reducible refine g_fldO ?_); refine fldO (by wtm_at "ho") (by with_reducible assumption) (by wtm_at "mem") (by wtm_at "lk") ?_) | ((with_reducible refine g_fldC ?_); refine fldC (by wtm_at "ho") (by with_reducible assumption) (by wtm_at "mem") (by wtm_at "lk") ?_) | ((with_reducible refine g_putC ?_); refine putC (by with_reducible assumption) (by wtm_at "pp") (by wtm_at "pu") (by wtm_at "co") (fun _ _ => ?_)) | ((with_reducible refine g_stoO ?_); refine stoO (by with_reducible assumption) (by wtm_at "pp") (by wtm_at "pu") (by with_reducible assumption) (by wtm_at "mem") (by wtm_at "co") (fun _ _ => ?_)) | ((with_reducible refine g_metO ?_); refine metO (by wtm_at "ho") (by wtm_at "ln") ?_) | ((with_reducible refine g_makO ?_); refine makO (by with_reducible assumption) (fun _ _ _ _ => ?_)) | ((with_reducible refine g_sum ?_); refine sum_call (by wtm_at "qo") ?_) | ((with_reducible refine g_cq ?_); exact cq (by with_reducible assumption) (by simp only [rngL_len, List.length_map, List.length_take]; omega)) | ((with_reducible refine g_newO ?_); refine newO (by with_reducible assumption) (fun _ _ _ => ?_)) | ((with_reducible refine g_appO ?_); refine appI (by with_reducible assumption) (by wtm_at "pp") (by wtm_at "co") (fun _ _ => ?_)) | ((with_reducible refine g_setO ?_); refine setI (by with_reducible assumption) (by wtm_at "pp") (by omega) (by wtm_at "co") (fun _ _ => ?_)) | ((with_reducible refine g_appO ?_); refine appO (by with_reducible assumption) (by wtm_at "pp") (by wtm_at "co") (fun _ _ => ?_)) | ((with_reducible refine g_setO ?_); refine setO (by with_reducible assumption) (by wtm_at "pp") (by omega) (by wtm_at "co") (fun _ _ => ?_)) | ((with_reducible refine g_isi ?_); first | (with_reducible refine isi_ii ?_) | (with_reducible refine isi_ib ?_) | (refine isi_int rfl ?_) | (refine isi_sqL rfl (by wtm_at "qo") ?_) | (refine isi_sqT rfl (by wtm_at "qo") ?_) | (refine isi_bl rfl ?_) | (refine isi_non rfl ?_) | (refine isi_str rfl ?_)) | ((with_reducible refine g_ned ?_); first | (refine ned_f (dq_lst (by wtm_at "qo")) (dq_lst (by wtm_at "qo")) ?_) | (refine ned_ints (by wtm_at "qo") (by wtm_at "qo") ?_) | (refine nedT_ints (by wtm_at "qo") (by wtm_at "qo") ?_)) | ((with_reducible refine g_eqd ?_); first | (refine eqd_t (dq_lst (by wtm_at "qo")) (dq_lst (by wtm_at "qo")) ?_) | (refine eqd_ints (by wtm_at "qo") (by wtm_at "qo") ?_) | (refine eqdT_ints (by wtm_at "qo") (by wtm_at "qo") ?_)) | ((with_reducible refine g_tyv ?_); refine and_tyv (by wtm_at "qo") ?_) | ((with_reducible refine g_asq ?_); refine and_sq (by wtm_at "qo") ?_) | ((with_reducible refine g_lst ?_); refine ex_lst (by wtm_at "ho") ?_) | ((with_reducible refine g_or ?_); first | (refine ex_or (by wtm_at "qo") ?_) | (refine ex_ort (by wtm_at "qo") ?_)) | ((with_reducible refine g_sq ?_); refine ex_sq (by wtm_at "qo") ?_) | ((with_reducible refine g_sqt ?_); refine ex_sqt (by wtm_at "qo") ?_) | ((with_reducible refine gd_sel ?_); first | (refine sel_p (by wtm_at "pf") ?_) | (refine sel_n (by wtm_at "pf") ?_)) | ((with_reducible refine gn_sel ?_); first | (refine selN_p (by wtm_at "pf") ?_) | (refine selN_n (by wtm_at "pf") ?_)) | ((with_reducible refine gd_selT ?_); first | (refine selT_p (by wtm_at "pf") ?_) | (refine selT_n (by wtm_at "pf") ?_)) | ((with_reducible refine gn_selT ?_); first | (refine selTN_p (by wtm_at "pf") ?_) | (refine selTN_n (by wtm_at "pf") ?_)) | ((with_reducible refine gd_selE ?_); first | (refine selE_p (by wtm_at "pf") ?_) | (refine selE_n (by wtm_at "pf") ?_)) | ((with_reducible refine gn_selE ?_); first | (refine selEN_p (by wtm_at "pf") ?_) | (refine selEN_n (by wtm_at "pf") ?_)) | ((with_reducible refine g_xf ?_); refine xf_at rfl (by wtm_at "ho") ?_) | ((with_reducible refine g_atI ?_); refine ex_at (by first | exact rfl | exact atI_int (by omega) (by wtm_at "pf") | exact atI_end (by wtm_at "pf")) ?_) | ((with_reducible refine g_and ?_); refine And.intro (by wtm_at "co") ?_))
local macro_rules | `(tactic| wtm_at "oo") => `(tactic| repeat (first | wtm_at "xo" | wtm_at "so"))
local macro_rules | `(tactic| wtm_at "cR") => `(tactic| (refine' compRi _ (by with_reducible assumption) (by omega) (fun _ _ _ _ _ => ?_) (fun _ _ _ => ?_); rotate_left; focus (wtm_at "oo")))

local macro_rules | `(tactic| wtm_at "lk") => `(tactic| first | (with_reducible exact lk_here) | (simp only [lk_here, lk_skip, lk_nil, nb_0_0, nb_0_1, nb_0_2, nb_0_3, nb_0_4, nb_0_5, nb_0_6, nb_0_7, nb_1_1, nb_1_2, nb_1_3, nb_1_4, nb_1_5, nb_1_6, nb_1_7, nb_2_0, nb_2_2, nb_2_3, nb_2_4, nb_2_5, nb_2_6, nb_2_7, nb_3_0, nb_3_1, nb_3_2, nb_3_3, nb_3_4, nb_3_5, nb_3_6, nb_3_7, nb_4_0, nb_4_1, nb_4_2, nb_4_3, nb_4_4, nb_4_5, nb_4_6, nb_4_7, nb_5_0, nb_5_1, nb_5_3, nb_5_4, nb_5_5, nb_5_6, nb_5_7, nb_6_0, nb_6_1, nb_6_2, nb_6_3, nb_6_4, nb_6_5, nb_6_6, nb_6_7, nb_7_0, nb_7_1, nb_7_2, nb_7_4, nb_7_5, nb_7_6, nb_7_7, nb_8_0, nb_8_1, nb_8_2, nb_8_3, nb_8_4, nb_8_5, nb_8_6, nb_8_7, nb_9_0, nb_9_1, nb_9_2, nb_9_3, nb_9_4, nb_9_5, nb_9_6, nb_9_7, nb_10_0, nb_10_1, nb_10_2, nb_10_3, nb_10_5, nb_10_6, nb_10_7, nb_11_0, nb_11_1, nb_11_2, nb_11_3, nb_11_4, nb_11_6, nb_11_7, nb_12_0, nb_12_1, nb_12_2, nb_12_3, nb_12_4, nb_12_5, nb_12_7, nb_13_0, nb_13_1, nb_13_2, nb_13_3, nb_13_4, nb_13_5, nb_13_6, nb_13_7, nb_14_0, nb_14_1, nb_14_2, nb_14_3, nb_14_4, nb_14_5, nb_14_6, nb_15_0, nb_15_1, nb_15_2, nb_15_3, nb_15_4, nb_15_5, nb_15_6, nb_15_7, nb_16_0, nb_16_1, nb_16_2, nb_16_3, nb_16_4, nb_16_5, nb_16_6, nb_16_7, nb_17_0, nb_17_1, nb_17_2, nb_17_3, nb_17_4, nb_17_5, nb_17_6, nb_17_7, nb_18_0, nb_18_1, nb_18_2, nb_18_3, nb_18_4, nb_18_5, nb_18_6, nb_18_7, nb_19_0, nb_19_1, nb_19_2, nb_19_3, nb_19_4, nb_19_5, nb_19_6, nb_19_7, nb_20_0, nb_20_1, nb_20_2, nb_20_3, nb_20_4, nb_20_5, nb_20_6, nb_20_7, nb_21_0, nb_21_1, nb_21_2, nb_21_3, nb_21_4, nb_21_5, nb_21_6, nb_21_7, nb_22_0, nb_22_1, nb_22_2, nb_22_3, nb_22_4, nb_22_5, nb_22_6, nb_22_7, nb_23_0, nb_23_1, nb_23_2, nb_23_3, nb_23_4, nb_23_5, nb_23_6, nb_23_7, nb_24_0, nb_24_1, nb_24_2, nb_24_3, nb_24_4, nb_24_5, nb_24_6, nb_24_7, nb_25_0, nb_25_1, nb_25_2, nb_25_3, nb_25_4, nb_25_5, nb_25_6, nb_25_7, nb_26_0, nb_26_1, nb_26_2, nb_26_3, nb_26_4, nb_26_5, nb_26_6, nb_26_7]; first | done | exact rfl))
local macro_rules | `(tactic| wtm_at "ln") => `(tactic| first | (with_reducible exact lk_nil) | (simp only [lk_skip, lk_nil, nb_0_0, nb_0_1, nb_0_2, nb_0_3, nb_0_4, nb_0_5, nb_0_6, nb_0_7, nb_1_1, nb_1_2, nb_1_3, nb_1_4, nb_1_5, nb_1_6, nb_1_7, nb_2_0, nb_2_2, nb_2_3, nb_2_4, nb_2_5, nb_2_6, nb_2_7, nb_3_0, nb_3_1, nb_3_2, nb_3_3, nb_3_4, nb_3_5, nb_3_6, nb_3_7, nb_4_0, nb_4_1, nb_4_2, nb_4_3, nb_4_4, nb_4_5, nb_4_6, nb_4_7, nb_5_0, nb_5_1, nb_5_3, nb_5_4, nb_5_5, nb_5_6, nb_5_7, nb_6_0, nb_6_1, nb_6_2, nb_6_3, nb_6_4, nb_6_5, nb_6_6, nb_6_7, nb_7_0, nb_7_1, nb_7_2, nb_7_4, nb_7_5, nb_7_6, nb_7_7, nb_8_0, nb_8_1, nb_8_2, nb_8_3, nb_8_4, nb_8_5, nb_8_6, nb_8_7, nb_9_0, nb_9_1, nb_9_2, nb_9_3, nb_9_4, nb_9_5, nb_9_6, nb_9_7, nb_10_0, nb_10_1, nb_10_2, nb_10_3, nb_10_5, nb_10_6, nb_10_7, nb_11_0, nb_11_1, nb_11_2, nb_11_3, nb_11_4, nb_11_6, nb_11_7, nb_12_0, nb_12_1, nb_12_2, nb_12_3, nb_12_4, nb_12_5, nb_12_7, nb_13_0, nb_13_1, nb_13_2, nb_13_3, nb_13_4, nb_13_5, nb_13_6, nb_13_7, nb_14_0, nb_14_1, nb_14_2, nb_14_3, nb_14_4, nb_14_5, nb_14_6, nb_15_0, nb_15_1, nb_15_2, nb_15_3, nb_15_4, nb_15_5, nb_15_6, nb_15_7, nb_16_0, nb_16_1, nb_16_2, nb_16_3, nb_16_4, nb_16_5, nb_16_6, nb_16_7, nb_17_0, nb_17_1, nb_17_2, nb_17_3, nb_17_4, nb_17_5, nb_17_6, nb_17_7, nb_18_0, nb_18_1, nb_18_2, nb_18_3, nb_18_4, nb_18_5, nb_18_6, nb_18_7, nb_19_0, nb_19_1, nb_19_2, nb_19_3, nb_19_4, nb_19_5, nb_19_6, nb_19_7, nb_20_0, nb_20_1, nb_20_2, nb_20_3, nb_20_4, nb_20_5, nb_20_6, nb_20_7, nb_21_0, nb_21_1, nb_21_2, nb_21_3, nb_21_4, nb_21_5, nb_21_6, nb_21_7, nb_22_0, nb_22_1, nb_22_2, nb_22_3, nb_22_4, nb_22_5, nb_22_6, nb_22_7, nb_23_0, nb_23_1, nb_23_2, nb_23_3, nb_23_4, nb_23_5, nb_23_6, nb_23_7, nb_24_0, nb_24_1, nb_24_2, nb_24_3, nb_24_4, nb_24_5, nb_24_6, nb_24_7, nb_25_0, nb_25_1, nb_25_2, nb_25_3, nb_25_4, nb_25_5, nb_25_6, nb_25_7, nb_26_0, nb_26_1, nb_26_2, nb_26_3, nb_26_4, nb_26_5, nb_26_6, nb_26_7]; done))
local macro_rules | `(tactic| wtm_at "pu") => `(tactic| first | (with_reducible exact pf_nil) | (simp only [pf_nil, pf_here, pf_skip, nb_0_0, nb_0_1, nb_0_2, nb_0_3, nb_0_4, nb_0_5, nb_0_6, nb_0_7, nb_1_1, nb_1_2, nb_1_3, nb_1_4, nb_1_5, nb_1_6, nb_1_7, nb_2_0, nb_2_2, nb_2_3, nb_2_4, nb_2_5, nb_2_6, nb_2_7, nb_3_0, nb_3_1, nb_3_2, nb_3_3, nb_3_4, nb_3_5, nb_3_6, nb_3_7, nb_4_0, nb_4_1, nb_4_2, nb_4_3, nb_4_4, nb_4_5, nb_4_6, nb_4_7, nb_5_0, nb_5_1, nb_5_3, nb_5_4, nb_5_5, nb_5_6, nb_5_7, nb_6_0, nb_6_1, nb_6_2, nb_6_3, nb_6_4, nb_6_5, nb_6_6, nb_6_7, nb_7_0, nb_7_1, nb_7_2, nb_7_4, nb_7_5, nb_7_6, nb_7_7, nb_8_0, nb_8_1, nb_8_2, nb_8_3, nb_8_4, nb_8_5, nb_8_6, nb_8_7, nb_9_0, nb_9_1, nb_9_2, nb_9_3, nb_9_4, nb_9_5, nb_9_6, nb_9_7, nb_10_0, nb_10_1, nb_10_2, nb_10_3, nb_10_5, nb_10_6, nb_10_7, nb_11_0, nb_11_1, nb_11_2, nb_11_3, nb_11_4, nb_11_6, nb_11_7, nb_12_0, nb_12_1, nb_12_2, nb_12_3, nb_12_4, nb_12_5, nb_12_7, nb_13_0, nb_13_1, nb_13_2, nb_13_3, nb_13_4, nb_13_5, nb_13_6, nb_13_7, nb_14_0, nb_14_1, nb_14_2, nb_14_3, nb_14_4, nb_14_5, nb_14_6, nb_15_0, nb_15_1, nb_15_2, nb_15_3, nb_15_4, nb_15_5, nb_15_6, nb_15_7, nb_16_0, nb_16_1, nb_16_2, nb_16_3, nb_16_4, nb_16_5, nb_16_6, nb_16_7, nb_17_0, nb_17_1, nb_17_2, nb_17_3, nb_17_4, nb_17_5, nb_17_6, nb_17_7, nb_18_0, nb_18_1, nb_18_2, nb_18_3, nb_18_4, nb_18_5, nb_18_6, nb_18_7, nb_19_0, nb_19_1, nb_19_2, nb_19_3, nb_19_4, nb_19_5, nb_19_6, nb_19_7, nb_20_0, nb_20_1, nb_20_2, nb_20_3, nb_20_4, nb_20_5, nb_20_6, nb_20_7, nb_21_0, nb_21_1, nb_21_2, nb_21_3, nb_21_4, nb_21_5, nb_21_6, nb_21_7, nb_22_0, nb_22_1, nb_22_2, nb_22_3, nb_22_4, nb_22_5, nb_22_6, nb_22_7, nb_23_0, nb_23_1, nb_23_2, nb_23_3, nb_23_4, nb_23_5, nb_23_6, nb_23_7, nb_24_0, nb_24_1, nb_24_2, nb_24_3, nb_24_4, nb_24_5, nb_24_6, nb_24_7, nb_25_0, nb_25_1, nb_25_2, nb_25_3, nb_25_4, nb_25_5, nb_25_6, nb_25_7, nb_26_0, nb_26_1, nb_26_2, nb_26_3, nb_26_4, nb_26_5, nb_26_6, nb_26_7]; first | done | exact rfl))
local macro_rules | `(tactic| wtm_at "tk") => `(tactic| first | (with_reducible exact Take.here) | (exact Take.here) | ((with_reducible apply Take.there); wtm_at "tk"))
local macro_rules | `(tactic| wtm_at "pk") => `(tactic| first | exact Pick.nil | ((with_reducible refine' Pick.cons ?tk1 ?pk1); (case tk1 => wtm_at "tk"); (case pk1 => wtm_at "pk")) | ((with_reducible refine Pick.im (by wtm_at "mem") ?_); wtm_at "pk") | ((with_reducible refine Pick.ims (by wtm_at "mem") ?_); wtm_at "pk"))
section
variable {P : Program} {w : World} {K : PySem.W.Frag} {mg : Str → Option Value} {base : Heap}
def atD (ds : List Int) (k many : Int) : Int := if k < ds.length then ds.getD k.toNat 0 % many else 0
theorem atD_lo {ds : List Int} {k many : Int} (hm : 0 < many) : 0 ≤ atD ds k many := by
  unfold atD
  split
  · exact Int.emod_nonneg _ (by omega)
  · exact Int.le_refl 0
theorem atD_hi {ds : List Int} {k many : Int} (hm : 0 < many) : atD ds k many < many := by
  unfold atD
  split
  · exact Int.emod_lt_of_pos _ hm
  · exact hm
def sp__law_at (K : PySem.W.Frag) : Sp := fun vs H Q _ => ∃ (a : Addr) (ds : List Int) (k many : Int), vs = [.ref a, .int k, .int many] ∧ SqL K H a (ds.map V.int) ∧ 0 ≤ k ∧ 0 < many ∧ Q (.int (atD ds k many)) H
theorem ok__law_at (T : Tx K mg) : Cl P w K mg base 1 "_law_at" ["draws", "k", "many"] (sp__law_at K) [] := by
  obtain ⟨gm, fd, F⟩ := T.d__law_at
  refine ⟨_, fd, [], F.ok sc__law_at (fun vs H Q E h => ?_) (fun cdv A outer s H vs Q E hr h => ⟨_, (PSs.nox (pss_cons (ps_if (pt_cmpR op_lt (pv 1) (pe_callB (lenK K) rfl T.b_len (by decide +kernel) (pa_cons (pv 0) pa_nil)) (nomark _))
 (pss_one (ps_ret (by exact (pe_op op_mod (pe_callTy call_int1 rfl T.b_int (by decide +kernel) (pa_cons (pe_ix (ixl K) (pv 0) (pv 1) (fun _ _ => rfl)) pa_nil)) (pv 2)))))
 pss_nil)
 (pss_one (ps_ret (by exact pe_int))))), ?_⟩), gm, F.kp, F.bindsN (fun _ _ _ _ _ _ us hl => match us, hl with | [_, _, _], _ => rfl), .nil⟩
  · first | (obtain ⟨rfl, _⟩ := h; rfl) | (obtain ⟨_, rfl, _⟩ := h; rfl) | (obtain ⟨_, _, rfl, _⟩ := h; rfl) | (obtain ⟨_, _, _, rfl, _⟩ := h; rfl) | (obtain ⟨_, _, _, _, rfl, _⟩ := h; rfl) | (obtain ⟨_, _, _, _, _, rfl, _⟩ := h; rfl) | (obtain ⟨_, _, _, _, _, _, rfl, _⟩ := h; rfl) | (obtain ⟨_, _, _, _, _, _, _, rfl, _⟩ := h; rfl) | (obtain ⟨_, _, _, _, _, _, _, _, rfl, _⟩ := h; rfl) | (obtain ⟨_, _, _, _, _, _, _, _, _, rfl, _⟩ := h; rfl) | (obtain ⟨_, _, _, _, _, _, _, _, _, _, rfl, _⟩ := h; rfl) | (obtain ⟨_, _, _, _, _, _, _, _, _, _, _, rfl, _⟩ := h; rfl) | (obtain ⟨_, _, _, _, _, _, _, _, _, _, _, _, rfl, _⟩ := h; rfl) | (obtain ⟨_, _, _, _, _, _, _, _, _, _, _, _, _, rfl, _⟩ := h; rfl) | (obtain ⟨_, _, _, _, _, _, _, _, _, _, _, _, _, _, rfl, _⟩ := h; rfl) | (obtain ⟨_, _, _, _, _, _, _, _, _, _, _, _, _, _, _, rfl, _⟩ := h; rfl) | (obtain ⟨_, _, _, _, _, _, _, _, _, _, _, _, _, _, _, _, rfl, _⟩ := h; rfl) | (obtain ⟨_, _, _, _, _, _, _, _, _, _, _, _, _, _, _, _, _, rfl, _⟩ := h; rfl) | (obtain ⟨_, _, _, _, _, _, _, _, _, _, _, _, _, _, _, _, _, _, rfl, _⟩ := h; rfl) | (obtain ⟨_, _, _, _, _, _, _, _, _, _, _, _, _, _, _, _, _, _, _, rfl, _⟩ := h; rfl) | (obtain ⟨_, _, _, _, _, _, _, _, _, _, _, _, _, _, _, _, _, _, _, _, rfl, _⟩ := h; rfl) | (obtain ⟨_, _, _, _, _, _, _, _, _, _, _, _, _, _, _, _, _, _, _, _, _, rfl, _⟩ := h; rfl)
  · obtain ⟨a, ds, k, many, rfl, hS, h0, hm, q⟩ := h
    k_call_by "xs" st__law_at
    refine ⟨_, .inl hS, sel_d (fun h1 => ?_) (fun h1 => ?_)⟩
    · wtm_at "xs"
      rw [List.length_map] at h1
      refine ⟨_, hS, _, atI_int h0 h1, ?_⟩
      wtm_at "xs"
      unfold atD at q
      rw [if_pos h1] at q
      exact ⟨hm, q⟩
    · wtm_at "xs"
      rw [List.length_map] at h1
      unfold atD at q
      rw [if_neg h1] at q
      exact q
theorem g_at {K : PySem.W.Frag} {H : Hp} {vs : List V} {Q : VK} {E : XK} (h : sp__law_at K vs H Q E) : sp__law_at K vs H Q E := h
theorem at_call {K : PySem.W.Frag} {H : Hp} {a : Addr} {ds : List Int} {k many : Int} {Q : VK} {E : XK} (hS : SqL K H a (ds.map V.int)) (h0 : 0 ≤ k) (hm : 0 < many) (q : 0 ≤ atD ds k many → atD ds k many < many → Q (.int (atD ds k many)) H) : sp__law_at K [.ref a, .int k, .int many] H Q E := ⟨a, ds, k, many, rfl, hS, h0, hm, q (atD_lo hm) (atD_hi hm)⟩
/-- the draws: all that is asked of them -/
structure Drawn (ds : List Int) : Prop where
  lo : ∀ d ∈ ds, 0 ≤ d
  hi : ∀ d ∈ ds, d < 65536
  len : ds.length ≤ 3780
def sp__law_draws (K : PySem.W.Frag) : Sp := fun vs H Q _ => ∃ (a : Addr) (ns : List Int), vs = [.ref a] ∧ SqL K H a (ns.map V.int) ∧ ns.length ≤ 63 ∧ ∀ ds p H', Drawn ds → Same H H' → H p = none → H' p = some (.lst (ds.map V.int)) → Q (.ref p) H'
structure DrI (a p : Addr) (H : Hp) (most : Nat) (H' : Hp) (ds : List Int) : Prop where
  same : Same H H'
  at_ : H' p = some (.lst (ds.map V.int))
  lo : ∀ d ∈ ds, 0 ≤ d
  hi : ∀ d ∈ ds, d < 65536
  len : ds.length ≤ most
theorem DrI.put {a p : Addr} {H : Hp} {most : Nat} {H' : Hp} {ds : List Int} (I : DrI a p H most H' ds) (hp : H p = none) {x : Int} (h0 : 0 ≤ x) (h1 : x < 65536) {m2 : Nat} (hm : most + 1 ≤ m2) : DrI a p H m2 (upd H' p (.lst (ds.map V.int ++ [.int x]))) (ds ++ [x]) := by
  refine ⟨same_put I.same hp, ?_, ?_, ?_, ?_⟩
  · rw [upd_same, List.map_append]
    rfl
  · intro d hd
    rcases List.mem_append.mp hd with h | h
    · exact I.lo d h
    · rw [List.mem_singleton.mp h]
      exact h0
  · intro d hd
    rcases List.mem_append.mp hd with h | h
    · exact I.hi d h
    · rw [List.mem_singleton.mp h]
      exact h1
  · rw [List.length_append, List.length_singleton]
    have := I.len
    omega
theorem DrI.mono {a p : Addr} {H : Hp} {most m2 : Nat} {H' : Hp} {ds : List Int} (I : DrI a p H most H' ds) (h : most ≤ m2) : DrI a p H m2 H' ds := ⟨I.same, I.at_, I.lo, I.hi, Nat.le_trans I.len h⟩
theorem ok__law_draws (T : Tx K mg) : Cl P w K mg base 1 "_law_draws" ["script"] (sp__law_draws K) [] := by
  obtain ⟨gm, fd, F⟩ := T.d__law_draws
  refine ⟨_, fd, [], F.ok sc__law_draws (fun vs H Q E h => ?_) (fun cdv A outer s H vs Q E hr h => ⟨_, (PSs.nox (pss_cons (ps_set (i := 1) sc__law_draws.nd rfl (Or.inl rfl) (by exact (pe_lst pa_nil)))
 (pss_cons (ps_for PassesOwn.never rfl (pi_range1 rfl T.b_range (pa_cons (pe_callB (call_min2 rfl) rfl T.b_min (by decide +kernel) (pa_cons pe_int (pa_cons (pe_callB (lenK K) rfl T.b_len (by decide +kernel) (pa_cons (pv 0) pa_nil)) pa_nil))) pa_nil)) (pg_name (i := 2) sc__law_draws.nd rfl (Or.inl rfl))
 (pss_cons (ps_set (i := 3) sc__law_draws.nd rfl (Or.inl rfl) (by exact (pe_callB call_abs rfl T.b_abs (by decide +kernel) (pa_cons (pe_ix (ixl K) (pv 0) (pv 2) (fun _ _ => rfl)) pa_nil))))
 (pss_one (ps_if (pt_cmpR op_ge (pv 3) (pe_op op_pow pe_int pe_int) (nomark _))
 (pss_one (ps_for PassesOwn.never rfl (pi_range1 rfl T.b_range (pa_cons pe_int pa_nil)) (pg_name (i := 4) sc__law_draws.nd rfl (Or.inl rfl))
 (pss_one (ps_if (pt_cmpR op_gt (pv 3) pe_int (nomark _))
 (pss_cons (ps_expr (pe_bm PySem.F.plainAttrs_list PySem.F.slot_list_append PySem.F.type_list_append mt_append (pv 1) (pa_cons (pe_op op_mod (pe_callTy call_int1 rfl T.b_int (by decide +kernel) (pa_cons (pv 3) pa_nil)) pe_int) pa_nil)))
 (pss_one (ps_set (i := 3) sc__law_draws.nd rfl (Or.inl rfl) (by exact (pe_op op_fdiv (pv 3) pe_int)))))
 pss_nil))))
 (pss_cons (ps_set (i := 5) sc__law_draws.nd rfl (Or.inl rfl) (by exact (pe_op op_mod (pe_callTy call_int1 rfl T.b_int (by decide +kernel) (pa_cons (pe_op op_add (pe_op op_mul (pv 3) pe_int) (pe_op op_mul (pe_op op_add (pv 2) pe_int) pe_int)) pa_nil)) pe_int)))
 (pss_cons (ps_set (i := 5) sc__law_draws.nd rfl (Or.inl rfl) (by exact (pe_op op_mod (pe_callTy call_int1 rfl T.b_int (by decide +kernel) (pa_cons (pe_op op_add (pe_op op_add (pe_op op_mul (pv 5) pe_int) (pe_op op_mul pe_int (pv 2))) pe_int) pa_nil)) pe_int)))
 (pss_cons (ps_expr (pe_bm PySem.F.plainAttrs_list PySem.F.slot_list_append PySem.F.type_list_append mt_append (pv 1) (pa_cons (pe_op op_mod (pe_callTy call_int1 rfl T.b_int (by decide +kernel) (pa_cons (pv 5) pa_nil)) pe_int) pa_nil)))
 (pss_one (ps_expr (pe_bm PySem.F.plainAttrs_list PySem.F.slot_list_append PySem.F.type_list_append mt_append (pv 1) (pa_cons (pe_op op_mod (pe_callTy call_int1 rfl T.b_int (by decide +kernel) (pa_cons (pe_op op_fdiv (pv 5) pe_int) pa_nil)) pe_int) pa_nil)))))))))))
 (pss_one (ps_ret (by exact (pv 1))))))), ?_⟩), gm, F.kp, F.bindsN (fun _ _ _ _ _ _ us hl => match us, hl with | [_], _ => rfl), .nil⟩
  · first | (obtain ⟨rfl, _⟩ := h; rfl) | (obtain ⟨_, rfl, _⟩ := h; rfl) | (obtain ⟨_, _, rfl, _⟩ := h; rfl) | (obtain ⟨_, _, _, rfl, _⟩ := h; rfl) | (obtain ⟨_, _, _, _, rfl, _⟩ := h; rfl) | (obtain ⟨_, _, _, _, _, rfl, _⟩ := h; rfl) | (obtain ⟨_, _, _, _, _, _, rfl, _⟩ := h; rfl) | (obtain ⟨_, _, _, _, _, _, _, rfl, _⟩ := h; rfl) | (obtain ⟨_, _, _, _, _, _, _, _, rfl, _⟩ := h; rfl) | (obtain ⟨_, _, _, _, _, _, _, _, _, rfl, _⟩ := h; rfl) | (obtain ⟨_, _, _, _, _, _, _, _, _, _, rfl, _⟩ := h; rfl) | (obtain ⟨_, _, _, _, _, _, _, _, _, _, _, rfl, _⟩ := h; rfl) | (obtain ⟨_, _, _, _, _, _, _, _, _, _, _, _, rfl, _⟩ := h; rfl) | (obtain ⟨_, _, _, _, _, _, _, _, _, _, _, _, _, rfl, _⟩ := h; rfl) | (obtain ⟨_, _, _, _, _, _, _, _, _, _, _, _, _, _, rfl, _⟩ := h; rfl) | (obtain ⟨_, _, _, _, _, _, _, _, _, _, _, _, _, _, _, rfl, _⟩ := h; rfl) | (obtain ⟨_, _, _, _, _, _, _, _, _, _, _, _, _, _, _, _, rfl, _⟩ := h; rfl) | (obtain ⟨_, _, _, _, _, _, _, _, _, _, _, _, _, _, _, _, _, rfl, _⟩ := h; rfl) | (obtain ⟨_, _, _, _, _, _, _, _, _, _, _, _, _, _, _, _, _, _, rfl, _⟩ := h; rfl) | (obtain ⟨_, _, _, _, _, _, _, _, _, _, _, _, _, _, _, _, _, _, _, rfl, _⟩ := h; rfl) | (obtain ⟨_, _, _, _, _, _, _, _, _, _, _, _, _, _, _, _, _, _, _, _, rfl, _⟩ := h; rfl) | (obtain ⟨_, _, _, _, _, _, _, _, _, _, _, _, _, _, _, _, _, _, _, _, _, rfl, _⟩ := h; rfl)
  · obtain ⟨a, ns, rfl, hS, hlen, q⟩ := h
    k_call_by "xs" st__law_draws
    refine ⟨Nat.zero_le _, fun p hp => ⟨_, .inl ((same_upd hp).seq hS), ?_⟩⟩
    have hj : (if (((ns.map V.int).length : Nat) : Int) < 63 then (((ns.map V.int).length : Nat) : Int) else 63) = (ns.length : Int) := by
      rw [List.length_map]
      split <;> omega
    rw [hj]
    refine ⟨by omega, by omega, loop_range (fun i σ H' => ∃ ds y2 y3 y4 y5, σ = [some (.ref a), some (.ref p), y2, y3, y4, y5] ∧ DrI a p H (60 * i) H' ds) ⟨[], none, none, none, none, rfl, same_upd hp, upd_same, by simp, by simp, Nat.zero_le _⟩ ?_ ?_⟩
    · rintro i σ H' hi ⟨ds, y2, y3, y4, y5, rfl, I⟩
      rw [Int.toNat_natCast] at hi
      wtm_at "xs"
      have hi2 : (0 : Int) + (i : Nat) < (ns.length : Nat) := by omega
      refine ⟨_, I.same.seq hS, _, atI_int (by omega) hi2, ?_⟩
      wtm_at "xs"
      refine ⟨⟨by decide, by decide, by decide⟩, sel_d (fun h1 => ?_) (fun h1 => ?_)⟩
      · wtm_at "xs"
        refine ⟨by decide, by decide, loop_range (fun j σ H2 => ∃ ds y3 y4, σ = [some (.ref a), some (.ref p), some (.int (0 + (i : Nat))), some (.int y3), y4, y5] ∧ DrI a p H (60 * i + j) H2 ds) ⟨_, _, _, rfl, I⟩ ?_ ?_⟩
        · rintro j σ H2 hj2 ⟨ds2, z3, z4, rfl, J⟩
          wtm_at "xs"
          refine sel_d (fun h2 => ?_) (fun h2 => ?_)
          · wtm_at "xs"
            have hj3 : j < 60 := hj2
            refine ⟨tyv (SqL.of J.at_), by decide, _, J.at_, line_map J.len (by omega), ⟨by decide, by decide⟩, ?_⟩
            exact ⟨_, J.put hp (Int.emod_nonneg _ (by decide)) (Int.emod_lt_of_pos _ (by decide)) (Nat.le_refl _)⟩
          · wtm_at "xs"
            exact ⟨_, J.mono (Nat.le_succ _)⟩
        · rintro σ H2 ⟨ds2, z3, z4, rfl, J⟩
          wtm_at "xs"
          exact ⟨_, J.mono (by show 60 * i + (60 : Int).toNat ≤ 60 * (i + 1); omega)⟩
      · wtm_at "xs"
        refine ⟨.inr ⟨by decide, by decide⟩, .inr ⟨by decide, by decide⟩, by decide, .inr ⟨by decide, by decide⟩, .inl ⟨by decide, by decide⟩, by decide, tyv (SqL.of I.at_), by decide, _, I.at_, line_map I.len (by omega), ?_⟩
        generalize (_ : Int) % 2147483629 = M
        have J := I.put hp (x := M % 65536) (Int.emod_nonneg _ (by decide)) (Int.emod_lt_of_pos _ (by decide)) (Nat.le_refl _)
        have L := J.put hp (x := M / 65536 % 32768) (Int.emod_nonneg _ (by decide)) (Int.lt_trans (Int.emod_lt_of_pos _ (by decide)) (by decide : (32768 : Int) < 65536)) (m2 := 60 * (i + 1)) (by omega)
        rw [List.map_append] at L
        refine ⟨tyv (SqL.of upd_same), ⟨by decide, by decide⟩, by decide, _, upd_same, ?_, _, L⟩
        have := line_map J.len (by omega)
        rw [List.map_append] at this
        exact this
    · rintro σ H' ⟨ds, y2, y3, y4, y5, rfl, I⟩
      rw [Int.toNat_natCast] at I
      wtm_at "xs"
      exact q ds p H' ⟨I.lo, I.hi, Nat.le_trans I.len (by omega)⟩ I.same hp I.at_


end
end K52

namespace K52
open PySem PySem.Spec PyProof.Rows L2 Bel
local macro_rules | `(tactic| wtm_at "xs") => `(tactic| simp only [x_next, x_seq, x_brk, x_cont, x_drop, x_ret, x_retN, x_if, sel_t, sel_f, selE_t, selE_f, selT_t, selT_f, selC_t, selC_f, x_test, x_tB, x_op, x_un, x_var, x_c, x_cb, x_nil, x_cons, x_rI, x_rI0, x_rU, x_rEq, x_rNe, x_rIxL, x_rIxT, x_rSlL, x_rCat, x_rRep, x_rApp, x_bm, x_bm0, x_sl, x_nopart, x_part, x_tup, x_lst, x_call, x_callS, x_asg, x_gname, x_gtup, x_gnil, x_gcons, x_gsub, x_setL, x_aug, x_ipI, x_ipC, x_bits, x_getL, x_augS, x_and, x_or, x_not, x_k, x_andV, x_orV, x_notV, x_ife, x_chain, x_for, x_ilist, x_itup, x_ienum, x_irng1, x_irng2, x_irev, x_lc, x_yes, wipe_nil, wipe_cons, List.map_cons, List.map_nil, x_misc, x_misc2, x_rz, lookup_at, Bool.not_true, Bool.not_false, decide_true, decide_false, not_true, not_false_eq_true, and_assoc, exists_and_left, exists_eq_left', exists_eq_left, exists_eq', exists_eq_right', exists_eq_right, V.int.injEq, V.ref.injEq, V.bl.injEq, V.str.injEq, List.cons.injEq, and_true, true_and, and_self, Option.some.injEq, List.cons_append, List.nil_append, List.append_nil, List.getElem?_cons_zero, List.getElem?_cons_succ, List.set_cons_zero, List.set_cons_succ, reduceCtorEq, false_and, and_false, exists_false, exists_const, or_false, false_or, scal_ii, scal_bb, scal_ss, List.length_cons, List.length_nil, Int.reduceToNat, Int.reducePow])
local macro_rules | `(tactic| k_call_by "xs" $h:term) => `(tactic| simp only [$h:term, x_next, x_seq, x_brk, x_cont, x_drop, x_ret, x_retN, x_if, sel_t, sel_f, selE_t, selE_f, selT_t, selT_f, selC_t, selC_f, x_test, x_tB, x_op, x_un, x_var, x_c, x_cb, x_nil, x_cons, x_rI, x_rI0, x_rU, x_rEq, x_rNe, x_rIxL, x_rIxT, x_rSlL, x_rCat, x_rRep, x_rApp, x_bm, x_bm0, x_sl, x_nopart, x_part, x_tup, x_lst, x_call, x_callS, x_asg, x_gname, x_gtup, x_gnil, x_gcons, x_gsub, x_setL, x_aug, x_ipI, x_ipC, x_bits, x_getL, x_augS, x_and, x_or, x_not, x_k, x_andV, x_orV, x_notV, x_ife, x_chain, x_for, x_ilist, x_itup, x_ienum, x_irng1, x_irng2, x_irev, x_lc, x_yes, wipe_nil, wipe_cons, List.map_cons, List.map_nil, x_misc, x_misc2, x_rz, lookup_at, Bool.not_true, Bool.not_false, decide_true, decide_false, not_true, not_false_eq_true, and_assoc, exists_and_left, exists_eq_left', exists_eq_left, exists_eq', exists_eq_right', exists_eq_right, V.int.injEq, V.ref.injEq, V.bl.injEq, V.str.injEq, List.cons.injEq, and_true, true_and, and_self, Option.some.injEq, List.cons_append, List.nil_append, List.append_nil, List.getElem?_cons_zero, List.getElem?_cons_succ, List.set_cons_zero, List.set_cons_succ, reduceCtorEq, false_and, and_false, exists_false, exists_const, or_false, false_or, scal_ii, scal_bb, scal_ss, List.length_cons, List.length_nil, Int.reduceToNat, Int.reducePow])
local macro_rules | `(tactic| wtm_at "hp") => `(tactic| first | (with_reducible assumption) | exact upd_same | (refine upd_keep (by with_reducible assumption) ?_; wtm_at "hp") | (refine Same.get (by with_reducible assumption) ?_; wtm_at "hp") | (refine upd_other (by first | (with_reducible assumption) | exact Ne.symm (by with_reducible assumption)) ?_; wtm_at "hp"))
local macro_rules | `(tactic| wtm_at "sq") => `(tactic| first | (with_reducible assumption) | exact SqL.of (by wtm_at "hp") | exact SqT.of (by wtm_at "hp") | (refine Same.seq (same_upd (by with_reducible assumption)) ?_; wtm_at "sq") | (refine Same.seq (by with_reducible assumption) ?_; wtm_at "sq") | (refine Same.seqT (same_upd (by with_reducible assumption)) ?_; wtm_at "sq") | (refine Same.seqT (by with_reducible assumption) ?_; wtm_at "sq"))
local macro_rules | `(tactic| wtm_at "cl") => `(tactic| first | (with_reducible assumption) | omega | (exact cmul_r (by omega) (by omega)) | (exact cmul_l (by omega) (by omega)) | (exact cdiv_ok (by omega) (by omega)) | (exact cpow_ok (by decide)) | (exact ⟨by omega, by omega, by omega⟩) | decide | (exact ⟨by omega, by omega⟩) | (simp only [List.length_append, List.length_map, List.length_set, List.length_cons, List.length_nil, rngL_len, sizeLine_eq]; omega) | wtm_at "hp" | wtm_at "sq")
local macro_rules | `(tactic| wtm_at "pf") => `(tactic| first | (with_reducible assumption) | omega | (simp only [List.length_append, List.length_map, List.length_set, List.length_cons, List.length_nil, rngL_len]; omega) | (with_reducible rfl) | (with_reducible trivial) | (with_reducible decide))
local macro_rules | `(tactic| wtm_at "st") => `(tactic| first | ((with_reducible refine g_at ?_); refine at_call (by wtm_at "sq") (by omega) (by omega) (fun _ _ => ?_)) | ((with_reducible refine g_isi ?_); first | (with_reducible refine isi_ii ?_) | (with_reducible refine isi_ib ?_) | (refine isi_int rfl ?_) | (refine isi_lst rfl (by wtm_at "hp") ?_) | (refine isi_tup rfl (by wtm_at "hp") ?_)) | ((with_reducible refine g_ned ?_); refine ned_f (dq_lst (by wtm_at "sq")) (dq_lst (by wtm_at "sq")) ?_) | ((with_reducible refine g_eqd ?_); refine eqd_t (dq_lst (by wtm_at "sq")) (dq_lst (by wtm_at "sq")) ?_) | ((with_reducible refine g_tyv ?_); refine and_tyv (by wtm_at "sq") ?_) | ((with_reducible refine g_asq ?_); refine and_sq (by wtm_at "sq") ?_) | ((with_reducible refine g_lst ?_); refine ex_lst (by wtm_at "hp") ?_) | ((with_reducible refine g_or ?_); first | (refine ex_or (by wtm_at "sq") ?_) | (refine ex_ort (by wtm_at "sq") ?_)) | ((with_reducible refine g_sq ?_); refine ex_sq (by wtm_at "sq") ?_) | ((with_reducible refine g_sqt ?_); refine ex_sqt (by wtm_at "sq") ?_) | ((with_reducible refine gd_sel ?_); first | (refine sel_p (by wtm_at "pf") ?_) | (refine sel_n (by wtm_at "pf") ?_)) | ((with_reducible refine gn_sel ?_); first | (refine selN_p (by wtm_at "pf") ?_) | (refine selN_n (by wtm_at "pf") ?_)) | ((with_reducible refine gd_selT ?_); first | (refine selT_p (by wtm_at "pf") ?_) | (refine selT_n (by wtm_at "pf") ?_)) | ((with_reducible refine gn_selT ?_); first | (refine selTN_p (by wtm_at "pf") ?_) | (refine selTN_n (by wtm_at "pf") ?_)) | ((with_reducible refine gd_selE ?_); first | (refine selE_p (by wtm_at "pf") ?_) | (refine selE_n (by wtm_at "pf") ?_)) | ((with_reducible refine gn_selE ?_); first | (refine selEN_p (by wtm_at "pf") ?_) | (refine selEN_n (by wtm_at "pf") ?_)) | ((with_reducible refine g_xf ?_); refine xf_at rfl (by wtm_at "hp") ?_) | ((with_reducible refine g_atI ?_); refine ex_at (by first | exact rfl | exact atI_int (by omega) (by wtm_at "pf") | exact atI_end (by wtm_at "pf")) ?_) | ((with_reducible refine g_and ?_); refine And.intro (by wtm_at "cl") ?_) | ((with_reducible refine g_new ?_); intro _ _))
local macro_rules | `(tactic| wtm_at "go") => `(tactic| repeat (first | wtm_at "xs" | wtm_at "st"))
local macro_rules | `(tactic| wtm_at "xo") => `(tactic| simp only [x_next, x_seq, x_brk, x_cont, x_drop, x_ret, x_retN, x_if, sel_t, sel_f, selE_t, selE_f, selT_t, selT_f, selC_t, selC_f, x_test, x_tB, x_op, x_un, x_var, x_c, x_cb, x_nil, x_cons, x_rI, x_rI0, x_rU, x_rEq, x_rNe, x_rIxL, x_rIxT, n_rSlL, n_rCat, n_rRep, n_rApp, x_bm, x_bm0, x_sl, x_nopart, x_part, n_tup, n_lst, x_call, x_callS, x_asg, x_gname, x_gtup, x_gnil, x_gcons, x_gsub, n_setL, x_aug, x_ipI, x_ipC, x_bits, x_getL, x_augS, x_and, x_or, x_not, x_k, x_andV, x_orV, x_notV, x_ife, x_chain, x_for, x_ilist, x_itup, x_ienum, x_irng1, x_irng2, x_irev, x_lc, x_yes, wipe_nil, wipe_cons, List.map_cons, List.map_nil, x_misc, x_misc2, x_rz, lookup_at, Bool.not_true, Bool.not_false, decide_true, decide_false, not_true, not_false_eq_true, and_assoc, exists_and_left, exists_eq_left', exists_eq_left, exists_eq', exists_eq_right', exists_eq_right, V.int.injEq, V.ref.injEq, V.bl.injEq, V.str.injEq, List.cons.injEq, and_true, true_and, and_self, Option.some.injEq, List.cons_append, List.nil_append, List.append_nil, List.getElem?_cons_zero, List.getElem?_cons_succ, List.set_cons_zero, List.set_cons_succ, reduceCtorEq, false_and, and_false, exists_false, exists_const, or_false, false_or, scal_ii, scal_bb, scal_ss, List.length_cons, List.length_nil, Int.reduceToNat, Int.reducePow, n_fld, n_dnew, n_dput, n_din, n_dget, n_dget2, n_glst, n_sfld, n_aug, n_meth, n_mw, n_make, n_kw, n_rLs, n_dcp, n_ext, n_revL, n_rTp, t_im, ints_rev, t_s1, t_i1, t_i2, t_i3, t_i4, t_i5, x_chain3, x_irng3, x_irevR, x_rg1, x_rg2, ints_cat, ints_app1, ints_len, ints_take, ints_drop, rep_one])
local macro_rules | `(tactic| k_call_by "xo" $h:term) => `(tactic| simp only [$h:term, x_next, x_seq, x_brk, x_cont, x_drop, x_ret, x_retN, x_if, sel_t, sel_f, selE_t, selE_f, selT_t, selT_f, selC_t, selC_f, x_test, x_tB, x_op, x_un, x_var, x_c, x_cb, x_nil, x_cons, x_rI, x_rI0, x_rU, x_rEq, x_rNe, x_rIxL, x_rIxT, n_rSlL, n_rCat, n_rRep, n_rApp, x_bm, x_bm0, x_sl, x_nopart, x_part, n_tup, n_lst, x_call, x_callS, x_asg, x_gname, x_gtup, x_gnil, x_gcons, x_gsub, n_setL, x_aug, x_ipI, x_ipC, x_bits, x_getL, x_augS, x_and, x_or, x_not, x_k, x_andV, x_orV, x_notV, x_ife, x_chain, x_for, x_ilist, x_itup, x_ienum, x_irng1, x_irng2, x_irev, x_lc, x_yes, wipe_nil, wipe_cons, List.map_cons, List.map_nil, x_misc, x_misc2, x_rz, lookup_at, Bool.not_true, Bool.not_false, decide_true, decide_false, not_true, not_false_eq_true, and_assoc, exists_and_left, exists_eq_left', exists_eq_left, exists_eq', exists_eq_right', exists_eq_right, V.int.injEq, V.ref.injEq, V.bl.injEq, V.str.injEq, List.cons.injEq, and_true, true_and, and_self, Option.some.injEq, List.cons_append, List.nil_append, List.append_nil, List.getElem?_cons_zero, List.getElem?_cons_succ, List.set_cons_zero, List.set_cons_succ, reduceCtorEq, false_and, and_false, exists_false, exists_const, or_false, false_or, scal_ii, scal_bb, scal_ss, List.length_cons, List.length_nil, Int.reduceToNat, Int.reducePow, n_fld, n_dnew, n_dput, n_din, n_dget, n_dget2, n_glst, n_sfld, n_aug, n_meth, n_mw, n_make, n_kw, n_rLs, n_dcp, n_ext, n_revL, n_rTp, t_im, ints_rev, t_s1, t_i1, t_i2, t_i3, t_i4, t_i5, x_chain3, x_irng3, x_irevR, x_rg1, x_rg2, ints_cat, ints_app1, ints_len, ints_take, ints_drop, rep_one])
local macro_rules | `(tactic| wtm_at "mem") => `(tactic| first | (with_reducible exact mem_here) | (with_reducible refine mem_there ?_; wtm_at "mem"))
local macro_rules | `(tactic| wtm_at "pp") => `(tactic| first | (with_reducible exact Put.here) | (with_reducible apply Put.there; wtm_at "pp"))
local macro_rules | `(tactic| wtm_at "ho") => `(tactic| first | (with_reducible assumption) | exact Own.get (by with_reducible assumption) (by wtm_at "mem") | exact Own.base (by with_reducible assumption) (by with_reducible assumption))
local macro_rules | `(tactic| wtm_at "qo") => `(tactic| first | (with_reducible assumption) | exact SqL.of (by wtm_at "ho") | exact sqT_tupI (by wtm_at "ho") | exact sqT_tupS (by wtm_at "ho") | exact SqT.of (by wtm_at "ho") | exact Own.imT (by with_reducible assumption) (by wtm_at "mem") | exact Own.sq (by with_reducible assumption) (by with_reducible assumption) | exact Own.sqT (by with_reducible assumption) (by with_reducible assumption))
local macro_rules | `(tactic| wtm_at "sub") => `(tactic| first | exact List.nil_sublist _ | (with_reducible refine List.Sublist.cons_cons _ ?_; wtm_at "sub") | (refine List.Sublist.cons _ ?_; wtm_at "sub"))
local macro_rules | `(tactic| wtm_at "co") => `(tactic| first | (with_reducible assumption) | omega | (exact cmul_r (by omega) (by omega)) | (exact cmul_l (by omega) (by omega)) | (exact cdiv_ok (by omega) (by omega)) | (exact cpow_ok (by decide)) | (exact ⟨by omega, by omega, by omega⟩) | decide | (exact ⟨by omega, by omega⟩) | (simp only [List.length_append, List.length_map, List.length_set, List.length_cons, List.length_nil, rngL_len, sizeLine_eq]; omega) | wtm_at "ho" | wtm_at "qo")
local macro_rules | `(tactic| wtm_at "so") => `(tactic| first | ((with_reducible refine g_dcp ?_); refine dcpI (by wtm_at "ho") ?_) | ((with_reducible refine g_asl ?_); refine And.intro (by rfl) ?_) | ((with_reducible refine g_asqT ?_); refine and_sqT (by wtm_at "qo") ?_) | ((with_reducible refine g_extO ?_); first | (refine extI (by with_reducible assumption) (by wtm_at "pp") (by wtm_at "co") (fun _ _ => ?_)) | (refine extO (by with_reducible assumption) (by wtm_at "pp") (by wtm_at "co") (fun _ _ => ?_))) | ((with_reducible refine g_tp ?_); first | (refine tp_l (by wtm_at "qo") ?_) | (refine tp_t (by wtm_at "qo") ?_)) | ((with_reducible refine g_dputO ?_); refine dputI (by with_reducible assumption) (by wtm_at "pp") (by wtm_at "co") (fun _ _ => ?_)) | ((with_reducible refine g_dinO ?_); refine dinI (by wtm_at "ho") ?_) | ((with_reducible refine g_isDO ?_); refine isDO (by wtm_at "ho") ?_) | ((with_reducible refine g_dg2 ?_); refine dg2I (by wtm_at "ho") ?_) | ((with_reducible refine g_fldO ?_); refine fldO (by wtm_at "ho") (by with_reducible assumption) (by wtm_at "mem") (by wtm_at "lk") ?_) | ((with_reducible refine g_fldC ?_); refine fldC (by wtm_at "ho") (by with_reducible assumption) (by wtm_at "mem") (by wtm_at "lk") ?_) | ((with_reducible refine g_putC ?_); refine putC (by with_reducible assumption) (by wtm_at "pp") (by wtm_at "pu") (by wtm_at "co") (fun _ _ => ?_)) | ((with_reducible refine g_stoO ?_); refine stoO (by with_reducible assumption) (by wtm_at "pp") (by wtm_at "pu") (by with_reducible assumption) (by wtm_at "mem") (by wtm_at "co") (fun _ _ => ?_)) | ((with_reducible refine g_metO ?_); refine metO (by wtm_at "ho") (by wtm_at "ln") ?_) | ((with_reducible refine g_makO ?_); refine makO (by with_reducible assumption) (fun _ _ _ _ => ?_)) | ((with_reducible refine g_sum ?_); refine sum_call (by wtm_at "qo") ?_) | ((with_reducible refine g_cq ?_); exact cq (by with_reducible assumption) (by simp only [rngL_len, List.length_map, List.length_take]; omega)) | ((with_reducible refine g_newO ?_); refine newO (by with_reducible assumption) (fun _ _ _ => ?_)) | ((with_reducible refine g_appO ?_); refine appI (by with_reducible assumption) (by wtm_at "pp") (by wtm_at "co") (fun _ _ => ?_)) | ((with_reducible refine g_setO ?_); refine setI (by with_reducible assumption) (by wtm_at "pp") (by omega) (by wtm_at "co") (fun _ _ => ?_)) | ((with_reducible refine g_appO ?_); refine appO (by with_reducible assumption) (by wtm_at "pp") (by wtm_at "co") (fun _ _ => ?_)) | ((with_reducible refine g_setO ?_); refine setO (by with_reducible assumption) (by wtm_at "pp") (by omega) (by wtm_at "co") (fun _ _ => ?_)) | ((with_reducible refine g_at ?_); refine at_call (by wtm_at "qo") (by omega) (by omega) (fun _ _ => ?_)) | ((with_reducible refine g_isi ?_); first | (with_reducible refine isi_ii ?_) | (with_reducible refine isi_ib ?_) | (refine isi_int rfl ?_) | (refine isi_sqL rfl (by wtm_at "qo") ?_) | (refine isi_sqT rfl (by wtm_at "qo") ?_) | (refine isi_bl rfl ?_) | (refine isi_non rfl ?_) | (refine isi_str rfl ?_)) | ((with_reducible refine g_ned ?_); first | (refine ned_f (dq_lst (by wtm_at "qo")) (dq_lst (by wtm_at "qo")) ?_) | (refine ned_ints (by wtm_at "qo") (by wtm_at "qo") ?_) | (refine nedT_ints (by wtm_at "qo") (by wtm_at "qo") ?_)) | ((with_reducible refine g_eqd ?_); first | (refine eqd_t (dq_lst (by wtm_at "qo")) (dq_lst (by wtm_at "qo")) ?_) | (refine eqd_ints (by wtm_at "qo") (by wtm_at "qo") ?_) | (refine eqdT_ints (by wtm_at "qo") (by wtm_at "qo") ?_)) | ((with_reducible refine g_tyv ?_); refine and_tyv (by wtm_at "qo") ?_) | ((with_reducible refine g_asq ?_); refine and_sq (by wtm_at "qo") ?_) | ((with_reducible refine g_lst ?_); refine ex_lst (by wtm_at "ho") ?_) | ((with_reducible refine g_or ?_); first | (refine ex_or (by wtm_at "qo") ?_) | (refine ex_ort (by wtm_at "qo") ?_)) | ((with_reducible refine g_sq ?_); refine ex_sq (by wtm_at "qo") ?_) | ((with_reducible refine g_sqt ?_); refine ex_sqt (by wtm_at "qo") ?_) | ((with_reducible refine gd_sel ?_); first | (refine sel_p (by wtm_at "pf") ?_) | (refine sel_n (by wtm_at "pf") ?_)) | ((with_reducible refine gn_sel ?_); first | (refine selN_p (by wtm_at "pf") ?_) | (refine selN_n (by wtm_at "pf") ?_)) | ((with_reducible refine gd_selT ?_); first | (refine selT_p (by wtm_at "pf") ?_) | (refine selT_n (by wtm_at "pf") ?_)) | ((with_reducible refine gn_selT ?_); first | (refine selTN_p (by wtm_at "pf") ?_) | (refine selTN_n (by wtm_at "pf") ?_)) | ((with_reducible refine gd_selE ?_); first | (refine selE_p (by wtm_at "pf") ?_) | (refine selE_n (by wtm_at "pf") ?_)) | ((with_reducible refine gn_selE ?_); first | (refine selEN_p (by wtm_at "pf") ?_) | (refine selEN_n (by wtm_at "pf") ?_)) | ((with_reducible refine g_xf ?_); refine xf_at rfl (by wtm_at "ho") ?_) | ((with_reducible refine g_atI ?_); refine ex_at (by first | exact rfl | exact atI_int (by omega) (by wtm_at "pf") | exact atI_end (by wtm_at "pf")) ?_) | ((with_reducible refine g_and ?_); refine And.intro (by wtm_at "co") ?_))
local macro_rules | `(tactic| wtm_at "oo") => `(tactic| repeat (first | wtm_at "xo" | wtm_at "so"))
local macro_rules | `(tactic| wtm_at "cR") => `(tactic| (refine' compRi _ (by with_reducible assumption) (by omega) (fun _ _ _ _ _ => ?_) (fun _ _ _ => ?_); rotate_left; focus (wtm_at "oo")))

local macro_rules | `(tactic| wtm_at "lk") => `(tactic| first | (with_reducible exact lk_here) | (simp only [lk_here, lk_skip, lk_nil, nb_0_0, nb_0_1, nb_0_2, nb_0_3, nb_0_4, nb_0_5, nb_0_6, nb_0_7, nb_1_1, nb_1_2, nb_1_3, nb_1_4, nb_1_5, nb_1_6, nb_1_7, nb_2_0, nb_2_2, nb_2_3, nb_2_4, nb_2_5, nb_2_6, nb_2_7, nb_3_0, nb_3_1, nb_3_2, nb_3_3, nb_3_4, nb_3_5, nb_3_6, nb_3_7, nb_4_0, nb_4_1, nb_4_2, nb_4_3, nb_4_4, nb_4_5, nb_4_6, nb_4_7, nb_5_0, nb_5_1, nb_5_3, nb_5_4, nb_5_5, nb_5_6, nb_5_7, nb_6_0, nb_6_1, nb_6_2, nb_6_3, nb_6_4, nb_6_5, nb_6_6, nb_6_7, nb_7_0, nb_7_1, nb_7_2, nb_7_4, nb_7_5, nb_7_6, nb_7_7, nb_8_0, nb_8_1, nb_8_2, nb_8_3, nb_8_4, nb_8_5, nb_8_6, nb_8_7, nb_9_0, nb_9_1, nb_9_2, nb_9_3, nb_9_4, nb_9_5, nb_9_6, nb_9_7, nb_10_0, nb_10_1, nb_10_2, nb_10_3, nb_10_5, nb_10_6, nb_10_7, nb_11_0, nb_11_1, nb_11_2, nb_11_3, nb_11_4, nb_11_6, nb_11_7, nb_12_0, nb_12_1, nb_12_2, nb_12_3, nb_12_4, nb_12_5, nb_12_7, nb_13_0, nb_13_1, nb_13_2, nb_13_3, nb_13_4, nb_13_5, nb_13_6, nb_13_7, nb_14_0, nb_14_1, nb_14_2, nb_14_3, nb_14_4, nb_14_5, nb_14_6, nb_15_0, nb_15_1, nb_15_2, nb_15_3, nb_15_4, nb_15_5, nb_15_6, nb_15_7, nb_16_0, nb_16_1, nb_16_2, nb_16_3, nb_16_4, nb_16_5, nb_16_6, nb_16_7, nb_17_0, nb_17_1, nb_17_2, nb_17_3, nb_17_4, nb_17_5, nb_17_6, nb_17_7, nb_18_0, nb_18_1, nb_18_2, nb_18_3, nb_18_4, nb_18_5, nb_18_6, nb_18_7, nb_19_0, nb_19_1, nb_19_2, nb_19_3, nb_19_4, nb_19_5, nb_19_6, nb_19_7, nb_20_0, nb_20_1, nb_20_2, nb_20_3, nb_20_4, nb_20_5, nb_20_6, nb_20_7, nb_21_0, nb_21_1, nb_21_2, nb_21_3, nb_21_4, nb_21_5, nb_21_6, nb_21_7, nb_22_0, nb_22_1, nb_22_2, nb_22_3, nb_22_4, nb_22_5, nb_22_6, nb_22_7, nb_23_0, nb_23_1, nb_23_2, nb_23_3, nb_23_4, nb_23_5, nb_23_6, nb_23_7, nb_24_0, nb_24_1, nb_24_2, nb_24_3, nb_24_4, nb_24_5, nb_24_6, nb_24_7, nb_25_0, nb_25_1, nb_25_2, nb_25_3, nb_25_4, nb_25_5, nb_25_6, nb_25_7, nb_26_0, nb_26_1, nb_26_2, nb_26_3, nb_26_4, nb_26_5, nb_26_6, nb_26_7]; first | done | exact rfl))
local macro_rules | `(tactic| wtm_at "ln") => `(tactic| first | (with_reducible exact lk_nil) | (simp only [lk_skip, lk_nil, nb_0_0, nb_0_1, nb_0_2, nb_0_3, nb_0_4, nb_0_5, nb_0_6, nb_0_7, nb_1_1, nb_1_2, nb_1_3, nb_1_4, nb_1_5, nb_1_6, nb_1_7, nb_2_0, nb_2_2, nb_2_3, nb_2_4, nb_2_5, nb_2_6, nb_2_7, nb_3_0, nb_3_1, nb_3_2, nb_3_3, nb_3_4, nb_3_5, nb_3_6, nb_3_7, nb_4_0, nb_4_1, nb_4_2, nb_4_3, nb_4_4, nb_4_5, nb_4_6, nb_4_7, nb_5_0, nb_5_1, nb_5_3, nb_5_4, nb_5_5, nb_5_6, nb_5_7, nb_6_0, nb_6_1, nb_6_2, nb_6_3, nb_6_4, nb_6_5, nb_6_6, nb_6_7, nb_7_0, nb_7_1, nb_7_2, nb_7_4, nb_7_5, nb_7_6, nb_7_7, nb_8_0, nb_8_1, nb_8_2, nb_8_3, nb_8_4, nb_8_5, nb_8_6, nb_8_7, nb_9_0, nb_9_1, nb_9_2, nb_9_3, nb_9_4, nb_9_5, nb_9_6, nb_9_7, nb_10_0, nb_10_1, nb_10_2, nb_10_3, nb_10_5, nb_10_6, nb_10_7, nb_11_0, nb_11_1, nb_11_2, nb_11_3, nb_11_4, nb_11_6, nb_11_7, nb_12_0, nb_12_1, nb_12_2, nb_12_3, nb_12_4, nb_12_5, nb_12_7, nb_13_0, nb_13_1, nb_13_2, nb_13_3, nb_13_4, nb_13_5, nb_13_6, nb_13_7, nb_14_0, nb_14_1, nb_14_2, nb_14_3, nb_14_4, nb_14_5, nb_14_6, nb_15_0, nb_15_1, nb_15_2, nb_15_3, nb_15_4, nb_15_5, nb_15_6, nb_15_7, nb_16_0, nb_16_1, nb_16_2, nb_16_3, nb_16_4, nb_16_5, nb_16_6, nb_16_7, nb_17_0, nb_17_1, nb_17_2, nb_17_3, nb_17_4, nb_17_5, nb_17_6, nb_17_7, nb_18_0, nb_18_1, nb_18_2, nb_18_3, nb_18_4, nb_18_5, nb_18_6, nb_18_7, nb_19_0, nb_19_1, nb_19_2, nb_19_3, nb_19_4, nb_19_5, nb_19_6, nb_19_7, nb_20_0, nb_20_1, nb_20_2, nb_20_3, nb_20_4, nb_20_5, nb_20_6, nb_20_7, nb_21_0, nb_21_1, nb_21_2, nb_21_3, nb_21_4, nb_21_5, nb_21_6, nb_21_7, nb_22_0, nb_22_1, nb_22_2, nb_22_3, nb_22_4, nb_22_5, nb_22_6, nb_22_7, nb_23_0, nb_23_1, nb_23_2, nb_23_3, nb_23_4, nb_23_5, nb_23_6, nb_23_7, nb_24_0, nb_24_1, nb_24_2, nb_24_3, nb_24_4, nb_24_5, nb_24_6, nb_24_7, nb_25_0, nb_25_1, nb_25_2, nb_25_3, nb_25_4, nb_25_5, nb_25_6, nb_25_7, nb_26_0, nb_26_1, nb_26_2, nb_26_3, nb_26_4, nb_26_5, nb_26_6, nb_26_7]; done))
local macro_rules | `(tactic| wtm_at "pu") => `(tactic| first | (with_reducible exact pf_nil) | (simp only [pf_nil, pf_here, pf_skip, nb_0_0, nb_0_1, nb_0_2, nb_0_3, nb_0_4, nb_0_5, nb_0_6, nb_0_7, nb_1_1, nb_1_2, nb_1_3, nb_1_4, nb_1_5, nb_1_6, nb_1_7, nb_2_0, nb_2_2, nb_2_3, nb_2_4, nb_2_5, nb_2_6, nb_2_7, nb_3_0, nb_3_1, nb_3_2, nb_3_3, nb_3_4, nb_3_5, nb_3_6, nb_3_7, nb_4_0, nb_4_1, nb_4_2, nb_4_3, nb_4_4, nb_4_5, nb_4_6, nb_4_7, nb_5_0, nb_5_1, nb_5_3, nb_5_4, nb_5_5, nb_5_6, nb_5_7, nb_6_0, nb_6_1, nb_6_2, nb_6_3, nb_6_4, nb_6_5, nb_6_6, nb_6_7, nb_7_0, nb_7_1, nb_7_2, nb_7_4, nb_7_5, nb_7_6, nb_7_7, nb_8_0, nb_8_1, nb_8_2, nb_8_3, nb_8_4, nb_8_5, nb_8_6, nb_8_7, nb_9_0, nb_9_1, nb_9_2, nb_9_3, nb_9_4, nb_9_5, nb_9_6, nb_9_7, nb_10_0, nb_10_1, nb_10_2, nb_10_3, nb_10_5, nb_10_6, nb_10_7, nb_11_0, nb_11_1, nb_11_2, nb_11_3, nb_11_4, nb_11_6, nb_11_7, nb_12_0, nb_12_1, nb_12_2, nb_12_3, nb_12_4, nb_12_5, nb_12_7, nb_13_0, nb_13_1, nb_13_2, nb_13_3, nb_13_4, nb_13_5, nb_13_6, nb_13_7, nb_14_0, nb_14_1, nb_14_2, nb_14_3, nb_14_4, nb_14_5, nb_14_6, nb_15_0, nb_15_1, nb_15_2, nb_15_3, nb_15_4, nb_15_5, nb_15_6, nb_15_7, nb_16_0, nb_16_1, nb_16_2, nb_16_3, nb_16_4, nb_16_5, nb_16_6, nb_16_7, nb_17_0, nb_17_1, nb_17_2, nb_17_3, nb_17_4, nb_17_5, nb_17_6, nb_17_7, nb_18_0, nb_18_1, nb_18_2, nb_18_3, nb_18_4, nb_18_5, nb_18_6, nb_18_7, nb_19_0, nb_19_1, nb_19_2, nb_19_3, nb_19_4, nb_19_5, nb_19_6, nb_19_7, nb_20_0, nb_20_1, nb_20_2, nb_20_3, nb_20_4, nb_20_5, nb_20_6, nb_20_7, nb_21_0, nb_21_1, nb_21_2, nb_21_3, nb_21_4, nb_21_5, nb_21_6, nb_21_7, nb_22_0, nb_22_1, nb_22_2, nb_22_3, nb_22_4, nb_22_5, nb_22_6, nb_22_7, nb_23_0, nb_23_1, nb_23_2, nb_23_3, nb_23_4, nb_23_5, nb_23_6, nb_23_7, nb_24_0, nb_24_1, nb_24_2, nb_24_3, nb_24_4, nb_24_5, nb_24_6, nb_24_7, nb_25_0, nb_25_1, nb_25_2, nb_25_3, nb_25_4, nb_25_5, nb_25_6, nb_25_7, nb_26_0, nb_26_1, nb_26_2, nb_26_3, nb_26_4, nb_26_5, nb_26_6, nb_26_7]; first | done | exact rfl))
local macro_rules | `(tactic| wtm_at "tk") => `(tactic| first | (with_reducible exact Take.here) | (exact Take.here) | ((with_reducible apply Take.there); wtm_at "tk"))
local macro_rules | `(tactic| wtm_at "pk") => `(tactic| first | exact Pick.nil | ((with_reducible refine' Pick.cons ?tk1 ?pk1); (case tk1 => wtm_at "tk"); (case pk1 => wtm_at "pk")) | ((with_reducible refine Pick.im (by wtm_at "mem") ?_); wtm_at "pk") | ((with_reducible refine Pick.ims (by wtm_at "mem") ?_); wtm_at "pk"))
section
variable {P : Program} {w : World} {K : PySem.W.Frag} {mg : Str → Option Value} {base : Heap}
def sp__law_is_integer (K : PySem.W.Frag) : Sp := fun vs H Q _ => ∃ (i : Int), vs = [.int i] ∧ Q (.bl true) H
theorem ok__law_is_integer (T : Tx K mg) : Cl P w K mg base 1 "_law_is_integer" ["actual"] (sp__law_is_integer K) [] := by
  obtain ⟨gm, fd, F⟩ := T.d__law_is_integer
  refine ⟨_, fd, [], F.ok sc__law_is_integer (fun vs H Q E h => ?_) (fun cdv A outer s H vs Q E hr h => ⟨_, (PSs.nox (pss_one (ps_ret (by exact (pe_and (pe_callB (isiK K) rfl T.b_isinstance (by decide +kernel) (pa_cons (pv 0) (pa_cons (pe_bltn (v := .ty "int") rfl T.b_int (by decide +kernel) rfl) pa_nil))) (pe_one (pe_not (pe_callB (isiK K) rfl T.b_isinstance (by decide +kernel) (pa_cons (pv 0) (pa_cons (pe_bltn (v := .ty "bool") rfl T.b_bool (by decide +kernel) rfl) pa_nil)))))))))), ?_⟩), gm, F.kp, F.bindsN (fun _ _ _ _ _ _ us hl => match us, hl with | [_], _ => rfl), .nil⟩
  · first | (obtain ⟨rfl, _⟩ := h; rfl) | (obtain ⟨_, rfl, _⟩ := h; rfl) | (obtain ⟨_, _, rfl, _⟩ := h; rfl) | (obtain ⟨_, _, _, rfl, _⟩ := h; rfl) | (obtain ⟨_, _, _, _, rfl, _⟩ := h; rfl) | (obtain ⟨_, _, _, _, _, rfl, _⟩ := h; rfl) | (obtain ⟨_, _, _, _, _, _, rfl, _⟩ := h; rfl) | (obtain ⟨_, _, _, _, _, _, _, rfl, _⟩ := h; rfl) | (obtain ⟨_, _, _, _, _, _, _, _, rfl, _⟩ := h; rfl) | (obtain ⟨_, _, _, _, _, _, _, _, _, rfl, _⟩ := h; rfl) | (obtain ⟨_, _, _, _, _, _, _, _, _, _, rfl, _⟩ := h; rfl) | (obtain ⟨_, _, _, _, _, _, _, _, _, _, _, rfl, _⟩ := h; rfl) | (obtain ⟨_, _, _, _, _, _, _, _, _, _, _, _, rfl, _⟩ := h; rfl) | (obtain ⟨_, _, _, _, _, _, _, _, _, _, _, _, _, rfl, _⟩ := h; rfl) | (obtain ⟨_, _, _, _, _, _, _, _, _, _, _, _, _, _, rfl, _⟩ := h; rfl) | (obtain ⟨_, _, _, _, _, _, _, _, _, _, _, _, _, _, _, rfl, _⟩ := h; rfl) | (obtain ⟨_, _, _, _, _, _, _, _, _, _, _, _, _, _, _, _, rfl, _⟩ := h; rfl) | (obtain ⟨_, _, _, _, _, _, _, _, _, _, _, _, _, _, _, _, _, rfl, _⟩ := h; rfl) | (obtain ⟨_, _, _, _, _, _, _, _, _, _, _, _, _, _, _, _, _, _, rfl, _⟩ := h; rfl) | (obtain ⟨_, _, _, _, _, _, _, _, _, _, _, _, _, _, _, _, _, _, _, rfl, _⟩ := h; rfl) | (obtain ⟨_, _, _, _, _, _, _, _, _, _, _, _, _, _, _, _, _, _, _, _, rfl, _⟩ := h; rfl) | (obtain ⟨_, _, _, _, _, _, _, _, _, _, _, _, _, _, _, _, _, _, _, _, _, rfl, _⟩ := h; rfl)
  · obtain ⟨i, rfl, q⟩ := h
    k_call_by "xs" st__law_is_integer
    refine isi_int rfl ?_
    wtm_at "xs"
    refine isi_int rfl ?_
    wtm_at "xs"
    exact q
theorem g_int {K : PySem.W.Frag} {H : Hp} {vs : List V} {Q : VK} {E : XK} (h : sp__law_is_integer K vs H Q E) : sp__law_is_integer K vs H Q E := h
theorem int_call {K : PySem.W.Frag} {H : Hp} {i : Int} {Q : VK} {E : XK} (q : Q (.bl true) H) : sp__law_is_integer K [.int i] H Q E := ⟨i, rfl, q⟩


end
end K52

namespace K52
open PySem PySem.Spec PyProof.Rows L2 Bel
local macro_rules | `(tactic| wtm_at "xs") => `(tactic| simp only [x_next, x_seq, x_brk, x_cont, x_drop, x_ret, x_retN, x_if, sel_t, sel_f, selE_t, selE_f, selT_t, selT_f, selC_t, selC_f, x_test, x_tB, x_op, x_un, x_var, x_c, x_cb, x_nil, x_cons, x_rI, x_rI0, x_rU, x_rEq, x_rNe, x_rIxL, x_rIxT, x_rSlL, x_rCat, x_rRep, x_rApp, x_bm, x_bm0, x_sl, x_nopart, x_part, x_tup, x_lst, x_call, x_callS, x_asg, x_gname, x_gtup, x_gnil, x_gcons, x_gsub, x_setL, x_aug, x_ipI, x_ipC, x_bits, x_getL, x_augS, x_and, x_or, x_not, x_k, x_andV, x_orV, x_notV, x_ife, x_chain, x_for, x_ilist, x_itup, x_ienum, x_irng1, x_irng2, x_irev, x_lc, x_yes, wipe_nil, wipe_cons, List.map_cons, List.map_nil, x_misc, x_misc2, x_rz, lookup_at, Bool.not_true, Bool.not_false, decide_true, decide_false, not_true, not_false_eq_true, and_assoc, exists_and_left, exists_eq_left', exists_eq_left, exists_eq', exists_eq_right', exists_eq_right, V.int.injEq, V.ref.injEq, V.bl.injEq, V.str.injEq, List.cons.injEq, and_true, true_and, and_self, Option.some.injEq, List.cons_append, List.nil_append, List.append_nil, List.getElem?_cons_zero, List.getElem?_cons_succ, List.set_cons_zero, List.set_cons_succ, reduceCtorEq, false_and, and_false, exists_false, exists_const, or_false, false_or, scal_ii, scal_bb, scal_ss, List.length_cons, List.length_nil, Int.reduceToNat, Int.reducePow])
local macro_rules | `(tactic| k_call_by "xs" $h:term) => `(tactic| simp only [$h:term, x_next, x_seq, x_brk, x_cont, x_drop, x_ret, x_retN, x_if, sel_t, sel_f, selE_t, selE_f, selT_t, selT_f, selC_t, selC_f, x_test, x_tB, x_op, x_un, x_var, x_c, x_cb, x_nil, x_cons, x_rI, x_rI0, x_rU, x_rEq, x_rNe, x_rIxL, x_rIxT, x_rSlL, x_rCat, x_rRep, x_rApp, x_bm, x_bm0, x_sl, x_nopart, x_part, x_tup, x_lst, x_call, x_callS, x_asg, x_gname, x_gtup, x_gnil, x_gcons, x_gsub, x_setL, x_aug, x_ipI, x_ipC, x_bits, x_getL, x_augS, x_and, x_or, x_not, x_k, x_andV, x_orV, x_notV, x_ife, x_chain, x_for, x_ilist, x_itup, x_ienum, x_irng1, x_irng2, x_irev, x_lc, x_yes, wipe_nil, wipe_cons, List.map_cons, List.map_nil, x_misc, x_misc2, x_rz, lookup_at, Bool.not_true, Bool.not_false, decide_true, decide_false, not_true, not_false_eq_true, and_assoc, exists_and_left, exists_eq_left', exists_eq_left, exists_eq', exists_eq_right', exists_eq_right, V.int.injEq, V.ref.injEq, V.bl.injEq, V.str.injEq, List.cons.injEq, and_true, true_and, and_self, Option.some.injEq, List.cons_append, List.nil_append, List.append_nil, List.getElem?_cons_zero, List.getElem?_cons_succ, List.set_cons_zero, List.set_cons_succ, reduceCtorEq, false_and, and_false, exists_false, exists_const, or_false, false_or, scal_ii, scal_bb, scal_ss, List.length_cons, List.length_nil, Int.reduceToNat, Int.reducePow])
local macro_rules | `(tactic| wtm_at "hp") => `(tactic| first | (with_reducible assumption) | exact upd_same | (refine upd_keep (by with_reducible assumption) ?_; wtm_at "hp") | (refine Same.get (by with_reducible assumption) ?_; wtm_at "hp") | (refine upd_other (by first | (with_reducible assumption) | exact Ne.symm (by with_reducible assumption)) ?_; wtm_at "hp"))
local macro_rules | `(tactic| wtm_at "sq") => `(tactic| first | (with_reducible assumption) | exact SqL.of (by wtm_at "hp") | exact SqT.of (by wtm_at "hp") | (refine Same.seq (same_upd (by with_reducible assumption)) ?_; wtm_at "sq") | (refine Same.seq (by with_reducible assumption) ?_; wtm_at "sq") | (refine Same.seqT (same_upd (by with_reducible assumption)) ?_; wtm_at "sq") | (refine Same.seqT (by with_reducible assumption) ?_; wtm_at "sq"))
local macro_rules | `(tactic| wtm_at "cl") => `(tactic| first | (with_reducible assumption) | omega | (exact cmul_r (by omega) (by omega)) | (exact cmul_l (by omega) (by omega)) | (exact cdiv_ok (by omega) (by omega)) | (exact cpow_ok (by decide)) | (exact ⟨by omega, by omega, by omega⟩) | decide | (exact ⟨by omega, by omega⟩) | (simp only [List.length_append, List.length_map, List.length_set, List.length_cons, List.length_nil, rngL_len, sizeLine_eq]; omega) | wtm_at "hp" | wtm_at "sq")
local macro_rules | `(tactic| wtm_at "pf") => `(tactic| first | (with_reducible assumption) | omega | (simp only [List.length_append, List.length_map, List.length_set, List.length_cons, List.length_nil, rngL_len]; omega) | (with_reducible rfl) | (with_reducible trivial) | (with_reducible decide))
local macro_rules | `(tactic| wtm_at "st") => `(tactic| first | ((with_reducible refine g_at ?_); refine at_call (by wtm_at "sq") (by omega) (by omega) (fun _ _ => ?_)) | ((with_reducible refine g_int ?_); refine int_call ?_) | ((with_reducible refine g_isi ?_); first | (with_reducible refine isi_ii ?_) | (with_reducible refine isi_ib ?_) | (refine isi_int rfl ?_) | (refine isi_lst rfl (by wtm_at "hp") ?_) | (refine isi_tup rfl (by wtm_at "hp") ?_)) | ((with_reducible refine g_ned ?_); refine ned_f (dq_lst (by wtm_at "sq")) (dq_lst (by wtm_at "sq")) ?_) | ((with_reducible refine g_eqd ?_); refine eqd_t (dq_lst (by wtm_at "sq")) (dq_lst (by wtm_at "sq")) ?_) | ((with_reducible refine g_tyv ?_); refine and_tyv (by wtm_at "sq") ?_) | ((with_reducible refine g_asq ?_); refine and_sq (by wtm_at "sq") ?_) | ((with_reducible refine g_lst ?_); refine ex_lst (by wtm_at "hp") ?_) | ((with_reducible refine g_or ?_); first | (refine ex_or (by wtm_at "sq") ?_) | (refine ex_ort (by wtm_at "sq") ?_)) | ((with_reducible refine g_sq ?_); refine ex_sq (by wtm_at "sq") ?_) | ((with_reducible refine g_sqt ?_); refine ex_sqt (by wtm_at "sq") ?_) | ((with_reducible refine gd_sel ?_); first | (refine sel_p (by wtm_at "pf") ?_) | (refine sel_n (by wtm_at "pf") ?_)) | ((with_reducible refine gn_sel ?_); first | (refine selN_p (by wtm_at "pf") ?_) | (refine selN_n (by wtm_at "pf") ?_)) | ((with_reducible refine gd_selT ?_); first | (refine selT_p (by wtm_at "pf") ?_) | (refine selT_n (by wtm_at "pf") ?_)) | ((with_reducible refine gn_selT ?_); first | (refine selTN_p (by wtm_at "pf") ?_) | (refine selTN_n (by wtm_at "pf") ?_)) | ((with_reducible refine gd_selE ?_); first | (refine selE_p (by wtm_at "pf") ?_) | (refine selE_n (by wtm_at "pf") ?_)) | ((with_reducible refine gn_selE ?_); first | (refine selEN_p (by wtm_at "pf") ?_) | (refine selEN_n (by wtm_at "pf") ?_)) | ((with_reducible refine g_xf ?_); refine xf_at rfl (by wtm_at "hp") ?_) | ((with_reducible refine g_atI ?_); refine ex_at (by first | exact rfl | exact atI_int (by omega) (by wtm_at "pf") | exact atI_end (by wtm_at "pf")) ?_) | ((with_reducible refine g_and ?_); refine And.intro (by wtm_at "cl") ?_) | ((with_reducible refine g_new ?_); intro _ _))
local macro_rules | `(tactic| wtm_at "go") => `(tactic| repeat (first | wtm_at "xs" | wtm_at "st"))
local macro_rules | `(tactic| wtm_at "xo") => `(tactic| simp only [x_next, x_seq, x_brk, x_cont, x_drop, x_ret, x_retN, x_if, sel_t, sel_f, selE_t, selE_f, selT_t, selT_f, selC_t, selC_f, x_test, x_tB, x_op, x_un, x_var, x_c, x_cb, x_nil, x_cons, x_rI, x_rI0, x_rU, x_rEq, x_rNe, x_rIxL, x_rIxT, n_rSlL, n_rCat, n_rRep, n_rApp, x_bm, x_bm0, x_sl, x_nopart, x_part, n_tup, n_lst, x_call, x_callS, x_asg, x_gname, x_gtup, x_gnil, x_gcons, x_gsub, n_setL, x_aug, x_ipI, x_ipC, x_bits, x_getL, x_augS, x_and, x_or, x_not, x_k, x_andV, x_orV, x_notV, x_ife, x_chain, x_for, x_ilist, x_itup, x_ienum, x_irng1, x_irng2, x_irev, x_lc, x_yes, wipe_nil, wipe_cons, List.map_cons, List.map_nil, x_misc, x_misc2, x_rz, lookup_at, Bool.not_true, Bool.not_false, decide_true, decide_false, not_true, not_false_eq_true, and_assoc, exists_and_left, exists_eq_left', exists_eq_left, exists_eq', exists_eq_right', exists_eq_right, V.int.injEq, V.ref.injEq, V.bl.injEq, V.str.injEq, List.cons.injEq, and_true, true_and, and_self, Option.some.injEq, List.cons_append, List.nil_append, List.append_nil, List.getElem?_cons_zero, List.getElem?_cons_succ, List.set_cons_zero, List.set_cons_succ, reduceCtorEq, false_and, and_false, exists_false, exists_const, or_false, false_or, scal_ii, scal_bb, scal_ss, List.length_cons, List.length_nil, Int.reduceToNat, Int.reducePow, n_fld, n_dnew, n_dput, n_din, n_dget, n_dget2, n_glst, n_sfld, n_aug, n_meth, n_mw, n_make, n_kw, n_rLs, n_dcp, n_ext, n_revL, n_rTp, t_im, ints_rev, t_s1, t_i1, t_i2, t_i3, t_i4, t_i5, x_chain3, x_irng3, x_irevR, x_rg1, x_rg2, ints_cat, ints_app1, ints_len, ints_take, ints_drop, rep_one])
local macro_rules | `(tactic| k_call_by "xo" $h:term) => `(tactic| simp only [$h:term, x_next, x_seq, x_brk, x_cont, x_drop, x_ret, x_retN, x_if, sel_t, sel_f, selE_t, selE_f, selT_t, selT_f, selC_t, selC_f, x_test, x_tB, x_op, x_un, x_var, x_c, x_cb, x_nil, x_cons, x_rI, x_rI0, x_rU, x_rEq, x_rNe, x_rIxL, x_rIxT, n_rSlL, n_rCat, n_rRep, n_rApp, x_bm, x_bm0, x_sl, x_nopart, x_part, n_tup, n_lst, x_call, x_callS, x_asg, x_gname, x_gtup, x_gnil, x_gcons, x_gsub, n_setL, x_aug, x_ipI, x_ipC, x_bits, x_getL, x_augS, x_and, x_or, x_not, x_k, x_andV, x_orV, x_notV, x_ife, x_chain, x_for, x_ilist, x_itup, x_ienum, x_irng1, x_irng2, x_irev, x_lc, x_yes, wipe_nil, wipe_cons, List.map_cons, List.map_nil, x_misc, x_misc2, x_rz, lookup_at, Bool.not_true, Bool.not_false, decide_true, decide_false, not_true, not_false_eq_true, and_assoc, exists_and_left, exists_eq_left', exists_eq_left, exists_eq', exists_eq_right', exists_eq_right, V.int.injEq, V.ref.injEq, V.bl.injEq, V.str.injEq, List.cons.injEq, and_true, true_and, and_self, Option.some.injEq, List.cons_append, List.nil_append, List.append_nil, List.getElem?_cons_zero, List.getElem?_cons_succ, List.set_cons_zero, List.set_cons_succ, reduceCtorEq, false_and, and_false, exists_false, exists_const, or_false, false_or, scal_ii, scal_bb, scal_ss, List.length_cons, List.length_nil, Int.reduceToNat, Int.reducePow, n_fld, n_dnew, n_dput, n_din, n_dget, n_dget2, n_glst, n_sfld, n_aug, n_meth, n_mw, n_make, n_kw, n_rLs, n_dcp, n_ext, n_revL, n_rTp, t_im, ints_rev, t_s1, t_i1, t_i2, t_i3, t_i4, t_i5, x_chain3, x_irng3, x_irevR, x_rg1, x_rg2, ints_cat, ints_app1, ints_len, ints_take, ints_drop, rep_one])
local macro_rules | `(tactic| wtm_at "mem") => `(tactic| first | (with_reducible exact mem_here) | (with_reducible refine mem_there ?_; wtm_at "mem"))
local macro_rules | `(tactic| wtm_at "pp") => `(tactic| first | (with_reducible exact Put.here) | (with_reducible apply Put.there; wtm_at "pp"))
local macro_rules | `(tactic| wtm_at "ho") => `(tactic| first | (with_reducible assumption) | exact Own.get (by with_reducible assumption) (by wtm_at "mem") | exact Own.base (by with_reducible assumption) (by with_reducible assumption))
local macro_rules | `(tactic| wtm_at "qo") => `(tactic| first | (with_reducible assumption) | exact SqL.of (by wtm_at "ho") | exact sqT_tupI (by wtm_at "ho") | exact sqT_tupS (by wtm_at "ho") | exact SqT.of (by wtm_at "ho") | exact Own.imT (by with_reducible assumption) (by wtm_at "mem") | exact Own.sq (by with_reducible assumption) (by with_reducible assumption) | exact Own.sqT (by with_reducible assumption) (by with_reducible assumption))
local macro_rules | `(tactic| wtm_at "sub") => `(tactic| first | exact List.nil_sublist _ | (with_reducible refine List.Sublist.cons_cons _ ?_; wtm_at "sub") | (refine List.Sublist.cons _ ?_; wtm_at "sub"))
local macro_rules | `(tactic| wtm_at "co") => `(tactic| first | (with_reducible assumption) | omega | (exact cmul_r (by omega) (by omega)) | (exact cmul_l (by omega) (by omega)) | (exact cdiv_ok (by omega) (by omega)) | (exact cpow_ok (by decide)) | (exact ⟨by omega, by omega, by omega⟩) | decide | (exact ⟨by omega, by omega⟩) | (simp only [List.length_append, List.length_map, List.length_set, List.length_cons, List.length_nil, rngL_len, sizeLine_eq]; omega) | wtm_at "ho" | wtm_at "qo")
local macro_rules | `(tactic| wtm_at "so") => `(tactic| first | ((with_reducible refine g_dcp ?_); refine dcpI (by wtm_at "ho") ?_) | ((with_reducible refine g_asl ?_); refine And.intro (by rfl) ?_) | ((with_reducible refine g_asqT ?_); refine and_sqT (by wtm_at "qo") ?_) | ((with_reducible refine g_extO ?_); first | (refine extI (by with_reducible assumption) (by wtm_at "pp") (by wtm_at "co") (fun _ _ => ?_)) | (refine extO (by with_reducible assumption) (by wtm_at "pp") (by wtm_at "co") (fun _ _ => ?_))) | ((with_reducible refine g_tp ?_); first | (refine tp_l (by wtm_at "qo") ?_) | (refine tp_t (by wtm_at "qo") ?_)) | ((with_reducible refine g_dputO ?_); refine dputI (by with_reducible assumption) (by wtm_at "pp") (by wtm_at "co") (fun _ _ => ?_)) | ((with_reducible refine g_dinO ?_); refine dinI (by wtm_at "ho") ?_) | ((with_reducible refine g_isDO ?_); refine isDO (by wtm_at "ho") ?_) | ((with_reducible refine g_dg2 ?_); refine dg2I (by wtm_at "ho") ?_) | ((with_reducible refine g_fldO ?_); refine fldO (by wtm_at "ho") (by with_reducible assumption) (by wtm_at "mem") (by wtm_at "lk") ?_) | ((with_reducible refine g_fldC ?_); refine fldC (by wtm_at "ho") (by with_reducible assumption) (by wtm_at "mem") (by wtm_at "lk") ?_) | ((with_reducible refine g_putC ?_); refine putC (by with_reducible assumption) (by wtm_at "pp") (by wtm_at "pu") (by wtm_at "co") (fun _ _ => ?_)) | ((with_reducible refine g_stoO ?_); refine stoO (by with_reducible assumption) (by wtm_at "pp") (by wtm_at "pu") (by with_reducible assumption) (by wtm_at "mem") (by wtm_at "co") (fun _ _ => ?_)) | ((with_reducible refine g_metO ?_); refine metO (by wtm_at "ho") (by wtm_at "ln") ?_) | ((with_reducible refine g_makO ?_); refine makO (by with_reducible assumption) (fun _ _ _ _ => ?_)) | ((with_reducible refine g_sum ?_); refine sum_call (by wtm_at "qo") ?_) | ((with_reducible refine g_cq ?_); exact cq (by with_reducible assumption) (by simp only [rngL_len, List.length_map, List.length_take]; omega)) | ((with_reducible refine g_newO ?_); refine newO (by with_reducible assumption) (fun _ _ _ => ?_)) | ((with_reducible refine g_appO ?_); refine appI (by with_reducible assumption) (by wtm_at "pp") (by wtm_at "co") (fun _ _ => ?_)) | ((with_reducible refine g_setO ?_); refine setI (by with_reducible assumption) (by wtm_at "pp") (by omega) (by wtm_at "co") (fun _ _ => ?_)) | ((with_reducible refine g_appO ?_); refine appO (by with_reducible assumption) (by wtm_at "pp") (by wtm_at "co") (fun _ _ => ?_)) | ((with_reducible refine g_setO ?_); refine setO (by with_reducible assumption) (by wtm_at "pp") (by omega) (by wtm_at "co") (fun _ _ => ?_)) | ((with_reducible refine g_at ?_); refine at_call (by wtm_at "qo") (by omega) (by omega) (fun _ _ => ?_)) | ((with_reducible refine g_int ?_); refine int_call ?_) | ((with_reducible refine g_isi ?_); first | (with_reducible refine isi_ii ?_) | (with_reducible refine isi_ib ?_) | (refine isi_int rfl ?_) | (refine isi_sqL rfl (by wtm_at "qo") ?_) | (refine isi_sqT rfl (by wtm_at "qo") ?_) | (refine isi_bl rfl ?_) | (refine isi_non rfl ?_) | (refine isi_str rfl ?_)) | ((with_reducible refine g_ned ?_); first | (refine ned_f (dq_lst (by wtm_at "qo")) (dq_lst (by wtm_at "qo")) ?_) | (refine ned_ints (by wtm_at "qo") (by wtm_at "qo") ?_) | (refine nedT_ints (by wtm_at "qo") (by wtm_at "qo") ?_)) | ((with_reducible refine g_eqd ?_); first | (refine eqd_t (dq_lst (by wtm_at "qo")) (dq_lst (by wtm_at "qo")) ?_) | (refine eqd_ints (by wtm_at "qo") (by wtm_at "qo") ?_) | (refine eqdT_ints (by wtm_at "qo") (by wtm_at "qo") ?_)) | ((with_reducible refine g_tyv ?_); refine and_tyv (by wtm_at "qo") ?_) | ((with_reducible refine g_asq ?_); refine and_sq (by wtm_at "qo") ?_) | ((with_reducible refine g_lst ?_); refine ex_lst (by wtm_at "ho") ?_) | ((with_reducible refine g_or ?_); first | (refine ex_or (by wtm_at "qo") ?_) | (refine ex_ort (by wtm_at "qo") ?_)) | ((with_reducible refine g_sq ?_); refine ex_sq (by wtm_at "qo") ?_) | ((with_reducible refine g_sqt ?_); refine ex_sqt (by wtm_at "qo") ?_) | ((with_reducible refine gd_sel ?_); first | (refine sel_p (by wtm_at "pf") ?_) | (refine sel_n (by wtm_at "pf") ?_)) | ((with_reducible refine gn_sel ?_); first | (refine selN_p (by wtm_at "pf") ?_) | (refine selN_n (by wtm_at "pf") ?_)) | ((with_reducible refine gd_selT ?_); first | (refine selT_p (by wtm_at "pf") ?_) | (refine selT_n (by wtm_at "pf") ?_)) | ((with_reducible refine gn_selT ?_); first | (refine selTN_p (by wtm_at "pf") ?_) | (refine selTN_n (by wtm_at "pf") ?_)) | ((with_reducible refine gd_selE ?_); first | (refine selE_p (by wtm_at "pf") ?_) | (refine selE_n (by wtm_at "pf") ?_)) | ((with_reducible refine gn_selE ?_); first | (refine selEN_p (by wtm_at "pf") ?_) | (refine selEN_n (by wtm_at "pf") ?_)) | ((with_reducible refine g_xf ?_); refine xf_at rfl (by wtm_at "ho") ?_) | ((with_reducible refine g_atI ?_); refine ex_at (by first | exact rfl | exact atI_int (by omega) (by wtm_at "pf") | exact atI_end (by wtm_at "pf")) ?_) | ((with_reducible refine g_and ?_); refine And.intro (by wtm_at "co") ?_))
local macro_rules | `(tactic| wtm_at "oo") => `(tactic| repeat (first | wtm_at "xo" | wtm_at "so"))
local macro_rules | `(tactic| wtm_at "cR") => `(tactic| (refine' compRi _ (by with_reducible assumption) (by omega) (fun _ _ _ _ _ => ?_) (fun _ _ _ => ?_); rotate_left; focus (wtm_at "oo")))

local macro_rules | `(tactic| wtm_at "lk") => `(tactic| first | (with_reducible exact lk_here) | (simp only [lk_here, lk_skip, lk_nil, nb_0_0, nb_0_1, nb_0_2, nb_0_3, nb_0_4, nb_0_5, nb_0_6, nb_0_7, nb_1_1, nb_1_2, nb_1_3, nb_1_4, nb_1_5, nb_1_6, nb_1_7, nb_2_0, nb_2_2, nb_2_3, nb_2_4, nb_2_5, nb_2_6, nb_2_7, nb_3_0, nb_3_1, nb_3_2, nb_3_3, nb_3_4, nb_3_5, nb_3_6, nb_3_7, nb_4_0, nb_4_1, nb_4_2, nb_4_3, nb_4_4, nb_4_5, nb_4_6, nb_4_7, nb_5_0, nb_5_1, nb_5_3, nb_5_4, nb_5_5, nb_5_6, nb_5_7, nb_6_0, nb_6_1, nb_6_2, nb_6_3, nb_6_4, nb_6_5, nb_6_6, nb_6_7, nb_7_0, nb_7_1, nb_7_2, nb_7_4, nb_7_5, nb_7_6, nb_7_7, nb_8_0, nb_8_1, nb_8_2, nb_8_3, nb_8_4, nb_8_5, nb_8_6, nb_8_7, nb_9_0, nb_9_1, nb_9_2, nb_9_3, nb_9_4, nb_9_5, nb_9_6, nb_9_7, nb_10_0, nb_10_1, nb_10_2, nb_10_3, nb_10_5, nb_10_6, nb_10_7, nb_11_0, nb_11_1, nb_11_2, nb_11_3, nb_11_4, nb_11_6, nb_11_7, nb_12_0, nb_12_1, nb_12_2, nb_12_3, nb_12_4, nb_12_5, nb_12_7, nb_13_0, nb_13_1, nb_13_2, nb_13_3, nb_13_4, nb_13_5, nb_13_6, nb_13_7, nb_14_0, nb_14_1, nb_14_2, nb_14_3, nb_14_4, nb_14_5, nb_14_6, nb_15_0, nb_15_1, nb_15_2, nb_15_3, nb_15_4, nb_15_5, nb_15_6, nb_15_7, nb_16_0, nb_16_1, nb_16_2, nb_16_3, nb_16_4, nb_16_5, nb_16_6, nb_16_7, nb_17_0, nb_17_1, nb_17_2, nb_17_3, nb_17_4, nb_17_5, nb_17_6, nb_17_7, nb_18_0, nb_18_1, nb_18_2, nb_18_3, nb_18_4, nb_18_5, nb_18_6, nb_18_7, nb_19_0, nb_19_1, nb_19_2, nb_19_3, nb_19_4, nb_19_5, nb_19_6, nb_19_7, nb_20_0, nb_20_1, nb_20_2, nb_20_3, nb_20_4, nb_20_5, nb_20_6, nb_20_7, nb_21_0, nb_21_1, nb_21_2, nb_21_3, nb_21_4, nb_21_5, nb_21_6, nb_21_7, nb_22_0, nb_22_1, nb_22_2, nb_22_3, nb_22_4, nb_22_5, nb_22_6, nb_22_7, nb_23_0, nb_23_1, nb_23_2, nb_23_3, nb_23_4, nb_23_5, nb_23_6, nb_23_7, nb_24_0, nb_24_1, nb_24_2, nb_24_3, nb_24_4, nb_24_5, nb_24_6, nb_24_7, nb_25_0, nb_25_1, nb_25_2, nb_25_3, nb_25_4, nb_25_5, nb_25_6, nb_25_7, nb_26_0, nb_26_1, nb_26_2, nb_26_3, nb_26_4, nb_26_5, nb_26_6, nb_26_7]; first | done | exact rfl))
local macro_rules | `(tactic| wtm_at "ln") => `(tactic| first | (with_reducible exact lk_nil) | (simp only [lk_skip, lk_nil, nb_0_0, nb_0_1, nb_0_2, nb_0_3, nb_0_4, nb_0_5, nb_0_6, nb_0_7, nb_1_1, nb_1_2, nb_1_3, nb_1_4, nb_1_5, nb_1_6, nb_1_7, nb_2_0, nb_2_2, nb_2_3, nb_2_4, nb_2_5, nb_2_6, nb_2_7, nb_3_0, nb_3_1, nb_3_2, nb_3_3, nb_3_4, nb_3_5, nb_3_6, nb_3_7, nb_4_0, nb_4_1, nb_4_2, nb_4_3, nb_4_4, nb_4_5, nb_4_6, nb_4_7, nb_5_0, nb_5_1, nb_5_3, nb_5_4, nb_5_5, nb_5_6, nb_5_7, nb_6_0, nb_6_1, nb_6_2, nb_6_3, nb_6_4, nb_6_5, nb_6_6, nb_6_7, nb_7_0, nb_7_1, nb_7_2, nb_7_4, nb_7_5, nb_7_6, nb_7_7, nb_8_0, nb_8_1, nb_8_2, nb_8_3, nb_8_4, nb_8_5, nb_8_6, nb_8_7, nb_9_0, nb_9_1, nb_9_2, nb_9_3, nb_9_4, nb_9_5, nb_9_6, nb_9_7, nb_10_0, nb_10_1, nb_10_2, nb_10_3, nb_10_5, nb_10_6, nb_10_7, nb_11_0, nb_11_1, nb_11_2, nb_11_3, nb_11_4, nb_11_6, nb_11_7, nb_12_0, nb_12_1, nb_12_2, nb_12_3, nb_12_4, nb_12_5, nb_12_7, nb_13_0, nb_13_1, nb_13_2, nb_13_3, nb_13_4, nb_13_5, nb_13_6, nb_13_7, nb_14_0, nb_14_1, nb_14_2, nb_14_3, nb_14_4, nb_14_5, nb_14_6, nb_15_0, nb_15_1, nb_15_2, nb_15_3, nb_15_4, nb_15_5, nb_15_6, nb_15_7, nb_16_0, nb_16_1, nb_16_2, nb_16_3, nb_16_4, nb_16_5, nb_16_6, nb_16_7, nb_17_0, nb_17_1, nb_17_2, nb_17_3, nb_17_4, nb_17_5, nb_17_6, nb_17_7, nb_18_0, nb_18_1, nb_18_2, nb_18_3, nb_18_4, nb_18_5, nb_18_6, nb_18_7, nb_19_0, nb_19_1, nb_19_2, nb_19_3, nb_19_4, nb_19_5, nb_19_6, nb_19_7, nb_20_0, nb_20_1, nb_20_2, nb_20_3, nb_20_4, nb_20_5, nb_20_6, nb_20_7, nb_21_0, nb_21_1, nb_21_2, nb_21_3, nb_21_4, nb_21_5, nb_21_6, nb_21_7, nb_22_0, nb_22_1, nb_22_2, nb_22_3, nb_22_4, nb_22_5, nb_22_6, nb_22_7, nb_23_0, nb_23_1, nb_23_2, nb_23_3, nb_23_4, nb_23_5, nb_23_6, nb_23_7, nb_24_0, nb_24_1, nb_24_2, nb_24_3, nb_24_4, nb_24_5, nb_24_6, nb_24_7, nb_25_0, nb_25_1, nb_25_2, nb_25_3, nb_25_4, nb_25_5, nb_25_6, nb_25_7, nb_26_0, nb_26_1, nb_26_2, nb_26_3, nb_26_4, nb_26_5, nb_26_6, nb_26_7]; done))
local macro_rules | `(tactic| wtm_at "pu") => `(tactic| first | (with_reducible exact pf_nil) | (simp only [pf_nil, pf_here, pf_skip, nb_0_0, nb_0_1, nb_0_2, nb_0_3, nb_0_4, nb_0_5, nb_0_6, nb_0_7, nb_1_1, nb_1_2, nb_1_3, nb_1_4, nb_1_5, nb_1_6, nb_1_7, nb_2_0, nb_2_2, nb_2_3, nb_2_4, nb_2_5, nb_2_6, nb_2_7, nb_3_0, nb_3_1, nb_3_2, nb_3_3, nb_3_4, nb_3_5, nb_3_6, nb_3_7, nb_4_0, nb_4_1, nb_4_2, nb_4_3, nb_4_4, nb_4_5, nb_4_6, nb_4_7, nb_5_0, nb_5_1, nb_5_3, nb_5_4, nb_5_5, nb_5_6, nb_5_7, nb_6_0, nb_6_1, nb_6_2, nb_6_3, nb_6_4, nb_6_5, nb_6_6, nb_6_7, nb_7_0, nb_7_1, nb_7_2, nb_7_4, nb_7_5, nb_7_6, nb_7_7, nb_8_0, nb_8_1, nb_8_2, nb_8_3, nb_8_4, nb_8_5, nb_8_6, nb_8_7, nb_9_0, nb_9_1, nb_9_2, nb_9_3, nb_9_4, nb_9_5, nb_9_6, nb_9_7, nb_10_0, nb_10_1, nb_10_2, nb_10_3, nb_10_5, nb_10_6, nb_10_7, nb_11_0, nb_11_1, nb_11_2, nb_11_3, nb_11_4, nb_11_6, nb_11_7, nb_12_0, nb_12_1, nb_12_2, nb_12_3, nb_12_4, nb_12_5, nb_12_7, nb_13_0, nb_13_1, nb_13_2, nb_13_3, nb_13_4, nb_13_5, nb_13_6, nb_13_7, nb_14_0, nb_14_1, nb_14_2, nb_14_3, nb_14_4, nb_14_5, nb_14_6, nb_15_0, nb_15_1, nb_15_2, nb_15_3, nb_15_4, nb_15_5, nb_15_6, nb_15_7, nb_16_0, nb_16_1, nb_16_2, nb_16_3, nb_16_4, nb_16_5, nb_16_6, nb_16_7, nb_17_0, nb_17_1, nb_17_2, nb_17_3, nb_17_4, nb_17_5, nb_17_6, nb_17_7, nb_18_0, nb_18_1, nb_18_2, nb_18_3, nb_18_4, nb_18_5, nb_18_6, nb_18_7, nb_19_0, nb_19_1, nb_19_2, nb_19_3, nb_19_4, nb_19_5, nb_19_6, nb_19_7, nb_20_0, nb_20_1, nb_20_2, nb_20_3, nb_20_4, nb_20_5, nb_20_6, nb_20_7, nb_21_0, nb_21_1, nb_21_2, nb_21_3, nb_21_4, nb_21_5, nb_21_6, nb_21_7, nb_22_0, nb_22_1, nb_22_2, nb_22_3, nb_22_4, nb_22_5, nb_22_6, nb_22_7, nb_23_0, nb_23_1, nb_23_2, nb_23_3, nb_23_4, nb_23_5, nb_23_6, nb_23_7, nb_24_0, nb_24_1, nb_24_2, nb_24_3, nb_24_4, nb_24_5, nb_24_6, nb_24_7, nb_25_0, nb_25_1, nb_25_2, nb_25_3, nb_25_4, nb_25_5, nb_25_6, nb_25_7, nb_26_0, nb_26_1, nb_26_2, nb_26_3, nb_26_4, nb_26_5, nb_26_6, nb_26_7]; first | done | exact rfl))
local macro_rules | `(tactic| wtm_at "tk") => `(tactic| first | (with_reducible exact Take.here) | (exact Take.here) | ((with_reducible apply Take.there); wtm_at "tk"))
local macro_rules | `(tactic| wtm_at "pk") => `(tactic| first | exact Pick.nil | ((with_reducible refine' Pick.cons ?tk1 ?pk1); (case tk1 => wtm_at "tk"); (case pk1 => wtm_at "pk")) | ((with_reducible refine Pick.im (by wtm_at "mem") ?_); wtm_at "pk") | ((with_reducible refine Pick.ims (by wtm_at "mem") ?_); wtm_at "pk"))
section
variable {P : Program} {w : World} {K : PySem.W.Frag} {mg : Str → Option Value} {base : Heap}
/-- a drawn history: a list of bytes -/
structure Hist (hs : List Int) : Prop where
  lo : ∀ x ∈ hs, 0 ≤ x
  hi : ∀ x ∈ hs, x < 256
theorem Hist.snoc {hs : List Int} (h : Hist hs) {x : Int} (h0 : 0 ≤ x) (h1 : x < 256) : Hist (hs ++ [x]) :=
  ⟨fun y m => by
    rcases List.mem_append.mp m with m | m
    · exact h.lo y m
    · rw [List.mem_singleton.mp m]
      exact h0, fun y m => by
    rcases List.mem_append.mp m with m | m
    · exact h.hi y m
    · rw [List.mem_singleton.mp m]
      exact h1⟩
theorem Hist.get {hs : List Int} (h : Hist hs) (i : Nat) : 0 ≤ hs.getD i 0 ∧ hs.getD i 0 < 256 := by
  rw [List.getD_eq_getElem?_getD]
  cases e : hs[i]? with
  | none => exact ⟨by decide, by decide⟩
  | some z => exact ⟨h.lo z (List.mem_of_getElem? e), h.hi z (List.mem_of_getElem? e)⟩
theorem Hist.rng {f : Nat → Int} {n : Nat} (h : ∀ i, i < n → 0 ≤ f i ∧ f i < 256) : Hist (rngL f n) := by
  have key : ∀ x ∈ rngL f n, 0 ≤ x ∧ x < 256 := fun x m => by
    obtain ⟨i, hi, rfl⟩ := List.mem_map.mp m
    exact h i (List.mem_range.mp hi)
  exact ⟨fun x m => (key x m).1, fun x m => (key x m).2⟩


end
end K52

namespace K52
open PySem PySem.Spec PyProof.Rows L2 Bel
local macro_rules | `(tactic| wtm_at "xs") => `(tactic| simp only [x_next, x_seq, x_brk, x_cont, x_drop, x_ret, x_retN, x_if, sel_t, sel_f, selE_t, selE_f, selT_t, selT_f, selC_t, selC_f, x_test, x_tB, x_op, x_un, x_var, x_c, x_cb, x_nil, x_cons, x_rI, x_rI0, x_rU, x_rEq, x_rNe, x_rIxL, x_rIxT, x_rSlL, x_rCat, x_rRep, x_rApp, x_bm, x_bm0, x_sl, x_nopart, x_part, x_tup, x_lst, x_call, x_callS, x_asg, x_gname, x_gtup, x_gnil, x_gcons, x_gsub, x_setL, x_aug, x_ipI, x_ipC, x_bits, x_getL, x_augS, x_and, x_or, x_not, x_k, x_andV, x_orV, x_notV, x_ife, x_chain, x_for, x_ilist, x_itup, x_ienum, x_irng1, x_irng2, x_irev, x_lc, x_yes, wipe_nil, wipe_cons, List.map_cons, List.map_nil, x_misc, x_misc2, x_rz, lookup_at, Bool.not_true, Bool.not_false, decide_true, decide_false, not_true, not_false_eq_true, and_assoc, exists_and_left, exists_eq_left', exists_eq_left, exists_eq', exists_eq_right', exists_eq_right, V.int.injEq, V.ref.injEq, V.bl.injEq, V.str.injEq, List.cons.injEq, and_true, true_and, and_self, Option.some.injEq, List.cons_append, List.nil_append, List.append_nil, List.getElem?_cons_zero, List.getElem?_cons_succ, List.set_cons_zero, List.set_cons_succ, reduceCtorEq, false_and, and_false, exists_false, exists_const, or_false, false_or, scal_ii, scal_bb, scal_ss, List.length_cons, List.length_nil, Int.reduceToNat, Int.reducePow])
local macro_rules | `(tactic| k_call_by "xs" $h:term) => `(tactic| simp only [$h:term, x_next, x_seq, x_brk, x_cont, x_drop, x_ret, x_retN, x_if, sel_t, sel_f, selE_t, selE_f, selT_t, selT_f, selC_t, selC_f, x_test, x_tB, x_op, x_un, x_var, x_c, x_cb, x_nil, x_cons, x_rI, x_rI0, x_rU, x_rEq, x_rNe, x_rIxL, x_rIxT, x_rSlL, x_rCat, x_rRep, x_rApp, x_bm, x_bm0, x_sl, x_nopart, x_part, x_tup, x_lst, x_call, x_callS, x_asg, x_gname, x_gtup, x_gnil, x_gcons, x_gsub, x_setL, x_aug, x_ipI, x_ipC, x_bits, x_getL, x_augS, x_and, x_or, x_not, x_k, x_andV, x_orV, x_notV, x_ife, x_chain, x_for, x_ilist, x_itup, x_ienum, x_irng1, x_irng2, x_irev, x_lc, x_yes, wipe_nil, wipe_cons, List.map_cons, List.map_nil, x_misc, x_misc2, x_rz, lookup_at, Bool.not_true, Bool.not_false, decide_true, decide_false, not_true, not_false_eq_true, and_assoc, exists_and_left, exists_eq_left', exists_eq_left, exists_eq', exists_eq_right', exists_eq_right, V.int.injEq, V.ref.injEq, V.bl.injEq, V.str.injEq, List.cons.injEq, and_true, true_and, and_self, Option.some.injEq, List.cons_append, List.nil_append, List.append_nil, List.getElem?_cons_zero, List.getElem?_cons_succ, List.set_cons_zero, List.set_cons_succ, reduceCtorEq, false_and, and_false, exists_false, exists_const, or_false, false_or, scal_ii, scal_bb, scal_ss, List.length_cons, List.length_nil, Int.reduceToNat, Int.reducePow])
local macro_rules | `(tactic| wtm_at "hp") => `(tactic| first | (with_reducible assumption) | exact upd_same | (refine upd_keep (by with_reducible assumption) ?_; wtm_at "hp") | (refine Same.get (by with_reducible assumption) ?_; wtm_at "hp") | (refine upd_other (by first | (with_reducible assumption) | exact Ne.symm (by with_reducible assumption)) ?_; wtm_at "hp"))
local macro_rules | `(tactic| wtm_at "sq") => `(tactic| first | (with_reducible assumption) | exact SqL.of (by wtm_at "hp") | exact SqT.of (by wtm_at "hp") | (refine Same.seq (same_upd (by with_reducible assumption)) ?_; wtm_at "sq") | (refine Same.seq (by with_reducible assumption) ?_; wtm_at "sq") | (refine Same.seqT (same_upd (by with_reducible assumption)) ?_; wtm_at "sq") | (refine Same.seqT (by with_reducible assumption) ?_; wtm_at "sq"))
local macro_rules | `(tactic| wtm_at "cl") => `(tactic| first | (with_reducible assumption) | omega | (exact cmul_r (by omega) (by omega)) | (exact cmul_l (by omega) (by omega)) | (exact cdiv_ok (by omega) (by omega)) | (exact cpow_ok (by decide)) | (exact ⟨by omega, by omega, by omega⟩) | decide | (exact ⟨by omega, by omega⟩) | (simp only [List.length_append, List.length_map, List.length_set, List.length_cons, List.length_nil, rngL_len, sizeLine_eq]; omega) | wtm_at "hp" | wtm_at "sq")
local macro_rules | `(tactic| wtm_at "pf") => `(tactic| first | (with_reducible assumption) | omega | (simp only [List.length_append, List.length_map, List.length_set, List.length_cons, List.length_nil, rngL_len]; omega) | (with_reducible rfl) | (with_reducible trivial) | (with_reducible decide))
local macro_rules | `(tactic| wtm_at "st") => `(tactic| first | ((with_reducible refine g_at ?_); refine at_call (by wtm_at "sq") (by omega) (by omega) (fun _ _ => ?_)) | ((with_reducible refine g_int ?_); refine int_call ?_) | ((with_reducible refine g_isi ?_); first | (with_reducible refine isi_ii ?_) | (with_reducible refine isi_ib ?_) | (refine isi_int rfl ?_) | (refine isi_lst rfl (by wtm_at "hp") ?_) | (refine isi_tup rfl (by wtm_at "hp") ?_)) | ((with_reducible refine g_ned ?_); refine ned_f (dq_lst (by wtm_at "sq")) (dq_lst (by wtm_at "sq")) ?_) | ((with_reducible refine g_eqd ?_); refine eqd_t (dq_lst (by wtm_at "sq")) (dq_lst (by wtm_at "sq")) ?_) | ((with_reducible refine g_tyv ?_); refine and_tyv (by wtm_at "sq") ?_) | ((with_reducible refine g_asq ?_); refine and_sq (by wtm_at "sq") ?_) | ((with_reducible refine g_lst ?_); refine ex_lst (by wtm_at "hp") ?_) | ((with_reducible refine g_or ?_); first | (refine ex_or (by wtm_at "sq") ?_) | (refine ex_ort (by wtm_at "sq") ?_)) | ((with_reducible refine g_sq ?_); refine ex_sq (by wtm_at "sq") ?_) | ((with_reducible refine g_sqt ?_); refine ex_sqt (by wtm_at "sq") ?_) | ((with_reducible refine gd_sel ?_); first | (refine sel_p (by wtm_at "pf") ?_) | (refine sel_n (by wtm_at "pf") ?_)) | ((with_reducible refine gn_sel ?_); first | (refine selN_p (by wtm_at "pf") ?_) | (refine selN_n (by wtm_at "pf") ?_)) | ((with_reducible refine gd_selT ?_); first | (refine selT_p (by wtm_at "pf") ?_) | (refine selT_n (by wtm_at "pf") ?_)) | ((with_reducible refine gn_selT ?_); first | (refine selTN_p (by wtm_at "pf") ?_) | (refine selTN_n (by wtm_at "pf") ?_)) | ((with_reducible refine gd_selE ?_); first | (refine selE_p (by wtm_at "pf") ?_) | (refine selE_n (by wtm_at "pf") ?_)) | ((with_reducible refine gn_selE ?_); first | (refine selEN_p (by wtm_at "pf") ?_) | (refine selEN_n (by wtm_at "pf") ?_)) | ((with_reducible refine g_xf ?_); refine xf_at rfl (by wtm_at "hp") ?_) | ((with_reducible refine g_atI ?_); refine ex_at (by first | exact rfl | exact atI_int (by omega) (by wtm_at "pf") | exact atI_end (by wtm_at "pf")) ?_) | ((with_reducible refine g_and ?_); refine And.intro (by wtm_at "cl") ?_) | ((with_reducible refine g_new ?_); intro _ _))
local macro_rules | `(tactic| wtm_at "go") => `(tactic| repeat (first | wtm_at "xs" | wtm_at "st"))
local macro_rules | `(tactic| wtm_at "xo") => `(tactic| simp only [x_next, x_seq, x_brk, x_cont, x_drop, x_ret, x_retN, x_if, sel_t, sel_f, selE_t, selE_f, selT_t, selT_f, selC_t, selC_f, x_test, x_tB, x_op, x_un, x_var, x_c, x_cb, x_nil, x_cons, x_rI, x_rI0, x_rU, x_rEq, x_rNe, x_rIxL, x_rIxT, n_rSlL, n_rCat, n_rRep, n_rApp, x_bm, x_bm0, x_sl, x_nopart, x_part, n_tup, n_lst, x_call, x_callS, x_asg, x_gname, x_gtup, x_gnil, x_gcons, x_gsub, n_setL, x_aug, x_ipI, x_ipC, x_bits, x_getL, x_augS, x_and, x_or, x_not, x_k, x_andV, x_orV, x_notV, x_ife, x_chain, x_for, x_ilist, x_itup, x_ienum, x_irng1, x_irng2, x_irev, x_lc, x_yes, wipe_nil, wipe_cons, List.map_cons, List.map_nil, x_misc, x_misc2, x_rz, lookup_at, Bool.not_true, Bool.not_false, decide_true, decide_false, not_true, not_false_eq_true, and_assoc, exists_and_left, exists_eq_left', exists_eq_left, exists_eq', exists_eq_right', exists_eq_right, V.int.injEq, V.ref.injEq, V.bl.injEq, V.str.injEq, List.cons.injEq, and_true, true_and, and_self, Option.some.injEq, List.cons_append, List.nil_append, List.append_nil, List.getElem?_cons_zero, List.getElem?_cons_succ, List.set_cons_zero, List.set_cons_succ, reduceCtorEq, false_and, and_false, exists_false, exists_const, or_false, false_or, scal_ii, scal_bb, scal_ss, List.length_cons, List.length_nil, Int.reduceToNat, Int.reducePow, n_fld, n_dnew, n_dput, n_din, n_dget, n_dget2, n_glst, n_sfld, n_aug, n_meth, n_mw, n_make, n_kw, n_rLs, n_dcp, n_ext, n_revL, n_rTp, t_im, ints_rev, t_s1, t_i1, t_i2, t_i3, t_i4, t_i5, x_chain3, x_irng3, x_irevR, x_rg1, x_rg2, ints_cat, ints_app1, ints_len, ints_take, ints_drop, rep_one])
local macro_rules | `(tactic| k_call_by "xo" $h:term) => `(tactic| simp only [$h:term, x_next, x_seq, x_brk, x_cont, x_drop, x_ret, x_retN, x_if, sel_t, sel_f, selE_t, selE_f, selT_t, selT_f, selC_t, selC_f, x_test, x_tB, x_op, x_un, x_var, x_c, x_cb, x_nil, x_cons, x_rI, x_rI0, x_rU, x_rEq, x_rNe, x_rIxL, x_rIxT, n_rSlL, n_rCat, n_rRep, n_rApp, x_bm, x_bm0, x_sl, x_nopart, x_part, n_tup, n_lst, x_call, x_callS, x_asg, x_gname, x_gtup, x_gnil, x_gcons, x_gsub, n_setL, x_aug, x_ipI, x_ipC, x_bits, x_getL, x_augS, x_and, x_or, x_not, x_k, x_andV, x_orV, x_notV, x_ife, x_chain, x_for, x_ilist, x_itup, x_ienum, x_irng1, x_irng2, x_irev, x_lc, x_yes, wipe_nil, wipe_cons, List.map_cons, List.map_nil, x_misc, x_misc2, x_rz, lookup_at, Bool.not_true, Bool.not_false, decide_true, decide_false, not_true, not_false_eq_true, and_assoc, exists_and_left, exists_eq_left', exists_eq_left, exists_eq', exists_eq_right', exists_eq_right, V.int.injEq, V.ref.injEq, V.bl.injEq, V.str.injEq, List.cons.injEq, and_true, true_and, and_self, Option.some.injEq, List.cons_append, List.nil_append, List.append_nil, List.getElem?_cons_zero, List.getElem?_cons_succ, List.set_cons_zero, List.set_cons_succ, reduceCtorEq, false_and, and_false, exists_false, exists_const, or_false, false_or, scal_ii, scal_bb, scal_ss, List.length_cons, List.length_nil, Int.reduceToNat, Int.reducePow, n_fld, n_dnew, n_dput, n_din, n_dget, n_dget2, n_glst, n_sfld, n_aug, n_meth, n_mw, n_make, n_kw, n_rLs, n_dcp, n_ext, n_revL, n_rTp, t_im, ints_rev, t_s1, t_i1, t_i2, t_i3, t_i4, t_i5, x_chain3, x_irng3, x_irevR, x_rg1, x_rg2, ints_cat, ints_app1, ints_len, ints_take, ints_drop, rep_one])
local macro_rules | `(tactic| wtm_at "mem") => `(tactic| first | (with_reducible exact mem_here) | (with_reducible refine mem_there ?_; wtm_at "mem"))
local macro_rules | `(tactic| wtm_at "pp") => `(tactic| first | (with_reducible exact Put.here) | (with_reducible apply Put.there; wtm_at "pp"))
local macro_rules | `(tactic| wtm_at "ho") => `(tactic| first | (with_reducible assumption) | exact Own.get (by with_reducible assumption) (by wtm_at "mem") | exact Own.base (by with_reducible assumption) (by with_reducible assumption))
local macro_rules | `(tactic| wtm_at "qo") => `(tactic| first | (with_reducible assumption) | exact SqL.of (by wtm_at "ho") | exact sqT_tupI (by wtm_at "ho") | exact sqT_tupS (by wtm_at "ho") | exact SqT.of (by wtm_at "ho") | exact Own.imT (by with_reducible assumption) (by wtm_at "mem") | exact Own.sq (by with_reducible assumption) (by with_reducible assumption) | exact Own.sqT (by with_reducible assumption) (by with_reducible assumption))
local macro_rules | `(tactic| wtm_at "sub") => `(tactic| first | exact List.nil_sublist _ | (with_reducible refine List.Sublist.cons_cons _ ?_; wtm_at "sub") | (refine List.Sublist.cons _ ?_; wtm_at "sub"))
local macro_rules | `(tactic| wtm_at "co") => `(tactic| first | (with_reducible assumption) | omega | (exact cmul_r (by omega) (by omega)) | (exact cmul_l (by omega) (by omega)) | (exact cdiv_ok (by omega) (by omega)) | (exact cpow_ok (by decide)) | (exact ⟨by omega, by omega, by omega⟩) | decide | (exact ⟨by omega, by omega⟩) | (simp only [List.length_append, List.length_map, List.length_set, List.length_cons, List.length_nil, rngL_len, sizeLine_eq]; omega) | wtm_at "ho" | wtm_at "qo")
local macro_rules | `(tactic| wtm_at "so") => `(tactic| first | ((with_reducible refine g_dcp ?_); refine dcpI (by wtm_at "ho") ?_) | ((with_reducible refine g_asl ?_); refine And.intro (by rfl) ?_) | ((with_reducible refine g_asqT ?_); refine and_sqT (by wtm_at "qo") ?_) | ((with_reducible refine g_extO ?_); first | (refine extI (by with_reducible assumption) (by wtm_at "pp") (by wtm_at "co") (fun _ _ => ?_)) | (refine extO (by with_reducible assumption) (by wtm_at "pp") (by wtm_at "co") (fun _ _ => ?_))) | ((with_reducible refine g_tp ?_); first | (refine tp_l (by wtm_at "qo") ?_) | (refine tp_t (by wtm_at "qo") ?_)) | ((with_reducible refine g_dputO ?_); refine dputI (by with_reducible assumption) (by wtm_at "pp") (by wtm_at "co") (fun _ _ => ?_)) | ((with_reducible refine g_dinO ?_); refine dinI (by wtm_at "ho") ?_) | ((with_reducible refine g_isDO ?_); refine isDO (by wtm_at "ho") ?_) | ((with_reducible refine g_dg2 ?_); refine dg2I (by wtm_at "ho") ?_) | ((with_reducible refine g_fldO ?_); refine fldO (by wtm_at "ho") (by with_reducible assumption) (by wtm_at "mem") (by wtm_at "lk") ?_) | ((with_reducible refine g_fldC ?_); refine fldC (by wtm_at "ho") (by with_reducible assumption) (by wtm_at "mem") (by wtm_at "lk") ?_) | ((with_reducible refine g_putC ?_); refine putC (by with_reducible assumption) (by wtm_at "pp") (by wtm_at "pu") (by wtm_at "co") (fun _ _ => ?_)) | ((with_reducible refine g_stoO ?_); refine stoO (by with_reducible assumption) (by wtm_at "pp") (by wtm_at "pu") (by with_reducible assumption) (by wtm_at "mem") (by wtm_at "co") (fun _ _ => ?_)) | ((with_reducible refine g_metO ?_); refine metO (by wtm_at "ho") (by wtm_at "ln") ?_) | ((with_reducible refine g_makO ?_); refine makO (by with_reducible assumption) (fun _ _ _ _ => ?_)) | ((with_reducible refine g_sum ?_); refine sum_call (by wtm_at "qo") ?_) | ((with_reducible refine g_cq ?_); exact cq (by with_reducible assumption) (by simp only [rngL_len, List.length_map, List.length_take]; omega)) | ((with_reducible refine g_newO ?_); refine newO (by with_reducible assumption) (fun _ _ _ => ?_)) | ((with_reducible refine g_appO ?_); refine appI (by with_reducible assumption) (by wtm_at "pp") (by wtm_at "co") (fun _ _ => ?_)) | ((with_reducible refine g_setO ?_); refine setI (by with_reducible assumption) (by wtm_at "pp") (by omega) (by wtm_at "co") (fun _ _ => ?_)) | ((with_reducible refine g_appO ?_); refine appO (by with_reducible assumption) (by wtm_at "pp") (by wtm_at "co") (fun _ _ => ?_)) | ((with_reducible refine g_setO ?_); refine setO (by with_reducible assumption) (by wtm_at "pp") (by omega) (by wtm_at "co") (fun _ _ => ?_)) | ((with_reducible refine g_at ?_); refine at_call (by wtm_at "qo") (by omega) (by omega) (fun _ _ => ?_)) | ((with_reducible refine g_int ?_); refine int_call ?_) | ((with_reducible refine g_isi ?_); first | (with_reducible refine isi_ii ?_) | (with_reducible refine isi_ib ?_) | (refine isi_int rfl ?_) | (refine isi_sqL rfl (by wtm_at "qo") ?_) | (refine isi_sqT rfl (by wtm_at "qo") ?_) | (refine isi_bl rfl ?_) | (refine isi_non rfl ?_) | (refine isi_str rfl ?_)) | ((with_reducible refine g_ned ?_); first | (refine ned_f (dq_lst (by wtm_at "qo")) (dq_lst (by wtm_at "qo")) ?_) | (refine ned_ints (by wtm_at "qo") (by wtm_at "qo") ?_) | (refine nedT_ints (by wtm_at "qo") (by wtm_at "qo") ?_)) | ((with_reducible refine g_eqd ?_); first | (refine eqd_t (dq_lst (by wtm_at "qo")) (dq_lst (by wtm_at "qo")) ?_) | (refine eqd_ints (by wtm_at "qo") (by wtm_at "qo") ?_) | (refine eqdT_ints (by wtm_at "qo") (by wtm_at "qo") ?_)) | ((with_reducible refine g_tyv ?_); refine and_tyv (by wtm_at "qo") ?_) | ((with_reducible refine g_asq ?_); refine and_sq (by wtm_at "qo") ?_) | ((with_reducible refine g_lst ?_); refine ex_lst (by wtm_at "ho") ?_) | ((with_reducible refine g_or ?_); first | (refine ex_or (by wtm_at "qo") ?_) | (refine ex_ort (by wtm_at "qo") ?_)) | ((with_reducible refine g_sq ?_); refine ex_sq (by wtm_at "qo") ?_) | ((with_reducible refine g_sqt ?_); refine ex_sqt (by wtm_at "qo") ?_) | ((with_reducible refine gd_sel ?_); first | (refine sel_p (by wtm_at "pf") ?_) | (refine sel_n (by wtm_at "pf") ?_)) | ((with_reducible refine gn_sel ?_); first | (refine selN_p (by wtm_at "pf") ?_) | (refine selN_n (by wtm_at "pf") ?_)) | ((with_reducible refine gd_selT ?_); first | (refine selT_p (by wtm_at "pf") ?_) | (refine selT_n (by wtm_at "pf") ?_)) | ((with_reducible refine gn_selT ?_); first | (refine selTN_p (by wtm_at "pf") ?_) | (refine selTN_n (by wtm_at "pf") ?_)) | ((with_reducible refine gd_selE ?_); first | (refine selE_p (by wtm_at "pf") ?_) | (refine selE_n (by wtm_at "pf") ?_)) | ((with_reducible refine gn_selE ?_); first | (refine selEN_p (by wtm_at "pf") ?_) | (refine selEN_n (by wtm_at "pf") ?_)) | ((with_reducible refine g_xf ?_); refine xf_at rfl (by wtm_at "ho") ?_) | ((with_reducible refine g_atI ?_); refine ex_at (by first | exact rfl | exact atI_int (by omega) (by wtm_at "pf") | exact atI_end (by wtm_at "pf")) ?_) | ((with_reducible refine g_and ?_); refine And.intro (by wtm_at "co") ?_))
local macro_rules | `(tactic| wtm_at "oo") => `(tactic| repeat (first | wtm_at "xo" | wtm_at "so"))
local macro_rules | `(tactic| wtm_at "cR") => `(tactic| (refine' compRi _ (by with_reducible assumption) (by omega) (fun _ _ _ _ _ => ?_) (fun _ _ _ => ?_); rotate_left; focus (wtm_at "oo")))

local macro_rules | `(tactic| wtm_at "lk") => `(tactic| first | (with_reducible exact lk_here) | (simp only [lk_here, lk_skip, lk_nil, nb_0_0, nb_0_1, nb_0_2, nb_0_3, nb_0_4, nb_0_5, nb_0_6, nb_0_7, nb_1_1, nb_1_2, nb_1_3, nb_1_4, nb_1_5, nb_1_6, nb_1_7, nb_2_0, nb_2_2, nb_2_3, nb_2_4, nb_2_5, nb_2_6, nb_2_7, nb_3_0, nb_3_1, nb_3_2, nb_3_3, nb_3_4, nb_3_5, nb_3_6, nb_3_7, nb_4_0, nb_4_1, nb_4_2, nb_4_3, nb_4_4, nb_4_5, nb_4_6, nb_4_7, nb_5_0, nb_5_1, nb_5_3, nb_5_4, nb_5_5, nb_5_6, nb_5_7, nb_6_0, nb_6_1, nb_6_2, nb_6_3, nb_6_4, nb_6_5, nb_6_6, nb_6_7, nb_7_0, nb_7_1, nb_7_2, nb_7_4, nb_7_5, nb_7_6, nb_7_7, nb_8_0, nb_8_1, nb_8_2, nb_8_3, nb_8_4, nb_8_5, nb_8_6, nb_8_7, nb_9_0, nb_9_1, nb_9_2, nb_9_3, nb_9_4, nb_9_5, nb_9_6, nb_9_7, nb_10_0, nb_10_1, nb_10_2, nb_10_3, nb_10_5, nb_10_6, nb_10_7, nb_11_0, nb_11_1, nb_11_2, nb_11_3, nb_11_4, nb_11_6, nb_11_7, nb_12_0, nb_12_1, nb_12_2, nb_12_3, nb_12_4, nb_12_5, nb_12_7, nb_13_0, nb_13_1, nb_13_2, nb_13_3, nb_13_4, nb_13_5, nb_13_6, nb_13_7, nb_14_0, nb_14_1, nb_14_2, nb_14_3, nb_14_4, nb_14_5, nb_14_6, nb_15_0, nb_15_1, nb_15_2, nb_15_3, nb_15_4, nb_15_5, nb_15_6, nb_15_7, nb_16_0, nb_16_1, nb_16_2, nb_16_3, nb_16_4, nb_16_5, nb_16_6, nb_16_7, nb_17_0, nb_17_1, nb_17_2, nb_17_3, nb_17_4, nb_17_5, nb_17_6, nb_17_7, nb_18_0, nb_18_1, nb_18_2, nb_18_3, nb_18_4, nb_18_5, nb_18_6, nb_18_7, nb_19_0, nb_19_1, nb_19_2, nb_19_3, nb_19_4, nb_19_5, nb_19_6, nb_19_7, nb_20_0, nb_20_1, nb_20_2, nb_20_3, nb_20_4, nb_20_5, nb_20_6, nb_20_7, nb_21_0, nb_21_1, nb_21_2, nb_21_3, nb_21_4, nb_21_5, nb_21_6, nb_21_7, nb_22_0, nb_22_1, nb_22_2, nb_22_3, nb_22_4, nb_22_5, nb_22_6, nb_22_7, nb_23_0, nb_23_1, nb_23_2, nb_23_3, nb_23_4, nb_23_5, nb_23_6, nb_23_7, nb_24_0, nb_24_1, nb_24_2, nb_24_3, nb_24_4, nb_24_5, nb_24_6, nb_24_7, nb_25_0, nb_25_1, nb_25_2, nb_25_3, nb_25_4, nb_25_5, nb_25_6, nb_25_7, nb_26_0, nb_26_1, nb_26_2, nb_26_3, nb_26_4, nb_26_5, nb_26_6, nb_26_7]; first | done | exact rfl))
local macro_rules | `(tactic| wtm_at "ln") => `(tactic| first | (with_reducible exact lk_nil) | (simp only [lk_skip, lk_nil, nb_0_0, nb_0_1, nb_0_2, nb_0_3, nb_0_4, nb_0_5, nb_0_6, nb_0_7, nb_1_1, nb_1_2, nb_1_3, nb_1_4, nb_1_5, nb_1_6, nb_1_7, nb_2_0, nb_2_2, nb_2_3, nb_2_4, nb_2_5, nb_2_6, nb_2_7, nb_3_0, nb_3_1, nb_3_2, nb_3_3, nb_3_4, nb_3_5, nb_3_6, nb_3_7, nb_4_0, nb_4_1, nb_4_2, nb_4_3, nb_4_4, nb_4_5, nb_4_6, nb_4_7, nb_5_0, nb_5_1, nb_5_3, nb_5_4, nb_5_5, nb_5_6, nb_5_7, nb_6_0, nb_6_1, nb_6_2, nb_6_3, nb_6_4, nb_6_5, nb_6_6, nb_6_7, nb_7_0, nb_7_1, nb_7_2, nb_7_4, nb_7_5, nb_7_6, nb_7_7, nb_8_0, nb_8_1, nb_8_2, nb_8_3, nb_8_4, nb_8_5, nb_8_6, nb_8_7, nb_9_0, nb_9_1, nb_9_2, nb_9_3, nb_9_4, nb_9_5, nb_9_6, nb_9_7, nb_10_0, nb_10_1, nb_10_2, nb_10_3, nb_10_5, nb_10_6, nb_10_7, nb_11_0, nb_11_1, nb_11_2, nb_11_3, nb_11_4, nb_11_6, nb_11_7, nb_12_0, nb_12_1, nb_12_2, nb_12_3, nb_12_4, nb_12_5, nb_12_7, nb_13_0, nb_13_1, nb_13_2, nb_13_3, nb_13_4, nb_13_5, nb_13_6, nb_13_7, nb_14_0, nb_14_1, nb_14_2, nb_14_3, nb_14_4, nb_14_5, nb_14_6, nb_15_0, nb_15_1, nb_15_2, nb_15_3, nb_15_4, nb_15_5, nb_15_6, nb_15_7, nb_16_0, nb_16_1, nb_16_2, nb_16_3, nb_16_4, nb_16_5, nb_16_6, nb_16_7, nb_17_0, nb_17_1, nb_17_2, nb_17_3, nb_17_4, nb_17_5, nb_17_6, nb_17_7, nb_18_0, nb_18_1, nb_18_2, nb_18_3, nb_18_4, nb_18_5, nb_18_6, nb_18_7, nb_19_0, nb_19_1, nb_19_2, nb_19_3, nb_19_4, nb_19_5, nb_19_6, nb_19_7, nb_20_0, nb_20_1, nb_20_2, nb_20_3, nb_20_4, nb_20_5, nb_20_6, nb_20_7, nb_21_0, nb_21_1, nb_21_2, nb_21_3, nb_21_4, nb_21_5, nb_21_6, nb_21_7, nb_22_0, nb_22_1, nb_22_2, nb_22_3, nb_22_4, nb_22_5, nb_22_6, nb_22_7, nb_23_0, nb_23_1, nb_23_2, nb_23_3, nb_23_4, nb_23_5, nb_23_6, nb_23_7, nb_24_0, nb_24_1, nb_24_2, nb_24_3, nb_24_4, nb_24_5, nb_24_6, nb_24_7, nb_25_0, nb_25_1, nb_25_2, nb_25_3, nb_25_4, nb_25_5, nb_25_6, nb_25_7, nb_26_0, nb_26_1, nb_26_2, nb_26_3, nb_26_4, nb_26_5, nb_26_6, nb_26_7]; done))
local macro_rules | `(tactic| wtm_at "pu") => `(tactic| first | (with_reducible exact pf_nil) | (simp only [pf_nil, pf_here, pf_skip, nb_0_0, nb_0_1, nb_0_2, nb_0_3, nb_0_4, nb_0_5, nb_0_6, nb_0_7, nb_1_1, nb_1_2, nb_1_3, nb_1_4, nb_1_5, nb_1_6, nb_1_7, nb_2_0, nb_2_2, nb_2_3, nb_2_4, nb_2_5, nb_2_6, nb_2_7, nb_3_0, nb_3_1, nb_3_2, nb_3_3, nb_3_4, nb_3_5, nb_3_6, nb_3_7, nb_4_0, nb_4_1, nb_4_2, nb_4_3, nb_4_4, nb_4_5, nb_4_6, nb_4_7, nb_5_0, nb_5_1, nb_5_3, nb_5_4, nb_5_5, nb_5_6, nb_5_7, nb_6_0, nb_6_1, nb_6_2, nb_6_3, nb_6_4, nb_6_5, nb_6_6, nb_6_7, nb_7_0, nb_7_1, nb_7_2, nb_7_4, nb_7_5, nb_7_6, nb_7_7, nb_8_0, nb_8_1, nb_8_2, nb_8_3, nb_8_4, nb_8_5, nb_8_6, nb_8_7, nb_9_0, nb_9_1, nb_9_2, nb_9_3, nb_9_4, nb_9_5, nb_9_6, nb_9_7, nb_10_0, nb_10_1, nb_10_2, nb_10_3, nb_10_5, nb_10_6, nb_10_7, nb_11_0, nb_11_1, nb_11_2, nb_11_3, nb_11_4, nb_11_6, nb_11_7, nb_12_0, nb_12_1, nb_12_2, nb_12_3, nb_12_4, nb_12_5, nb_12_7, nb_13_0, nb_13_1, nb_13_2, nb_13_3, nb_13_4, nb_13_5, nb_13_6, nb_13_7, nb_14_0, nb_14_1, nb_14_2, nb_14_3, nb_14_4, nb_14_5, nb_14_6, nb_15_0, nb_15_1, nb_15_2, nb_15_3, nb_15_4, nb_15_5, nb_15_6, nb_15_7, nb_16_0, nb_16_1, nb_16_2, nb_16_3, nb_16_4, nb_16_5, nb_16_6, nb_16_7, nb_17_0, nb_17_1, nb_17_2, nb_17_3, nb_17_4, nb_17_5, nb_17_6, nb_17_7, nb_18_0, nb_18_1, nb_18_2, nb_18_3, nb_18_4, nb_18_5, nb_18_6, nb_18_7, nb_19_0, nb_19_1, nb_19_2, nb_19_3, nb_19_4, nb_19_5, nb_19_6, nb_19_7, nb_20_0, nb_20_1, nb_20_2, nb_20_3, nb_20_4, nb_20_5, nb_20_6, nb_20_7, nb_21_0, nb_21_1, nb_21_2, nb_21_3, nb_21_4, nb_21_5, nb_21_6, nb_21_7, nb_22_0, nb_22_1, nb_22_2, nb_22_3, nb_22_4, nb_22_5, nb_22_6, nb_22_7, nb_23_0, nb_23_1, nb_23_2, nb_23_3, nb_23_4, nb_23_5, nb_23_6, nb_23_7, nb_24_0, nb_24_1, nb_24_2, nb_24_3, nb_24_4, nb_24_5, nb_24_6, nb_24_7, nb_25_0, nb_25_1, nb_25_2, nb_25_3, nb_25_4, nb_25_5, nb_25_6, nb_25_7, nb_26_0, nb_26_1, nb_26_2, nb_26_3, nb_26_4, nb_26_5, nb_26_6, nb_26_7]; first | done | exact rfl))
local macro_rules | `(tactic| wtm_at "tk") => `(tactic| first | (with_reducible exact Take.here) | (exact Take.here) | ((with_reducible apply Take.there); wtm_at "tk"))
local macro_rules | `(tactic| wtm_at "pk") => `(tactic| first | exact Pick.nil | ((with_reducible refine' Pick.cons ?tk1 ?pk1); (case tk1 => wtm_at "tk"); (case pk1 => wtm_at "pk")) | ((with_reducible refine Pick.im (by wtm_at "mem") ?_); wtm_at "pk") | ((with_reducible refine Pick.ims (by wtm_at "mem") ?_); wtm_at "pk"))
section
variable {P : Program} {w : World} {K : PySem.W.Frag} {mg : Str → Option Value} {base : Heap}
/-- three values from i on -/
def sl3 (hs : List Int) (i : Int) : List Int := (hs.drop i.toNat).take 3
theorem sl3_is {hs : List Int} {i : Int} (h : 0 ≤ i) : cutV (hs.map V.int) (some i) (some (i + 3)) = (sl3 hs i).map V.int := by
  rw [cut_ii h (by omega), ints_drop, ints_take, show (i + 3).toNat - i.toNat = 3 by omega]
  rfl


end
end K52

namespace K52
open PySem PySem.Spec PyProof.Rows L2 Bel
local macro_rules | `(tactic| wtm_at "xs") => `(tactic| simp only [x_next, x_seq, x_brk, x_cont, x_drop, x_ret, x_retN, x_if, sel_t, sel_f, selE_t, selE_f, selT_t, selT_f, selC_t, selC_f, x_test, x_tB, x_op, x_un, x_var, x_c, x_cb, x_nil, x_cons, x_rI, x_rI0, x_rU, x_rEq, x_rNe, x_rIxL, x_rIxT, x_rSlL, x_rCat, x_rRep, x_rApp, x_bm, x_bm0, x_sl, x_nopart, x_part, x_tup, x_lst, x_call, x_callS, x_asg, x_gname, x_gtup, x_gnil, x_gcons, x_gsub, x_setL, x_aug, x_ipI, x_ipC, x_bits, x_getL, x_augS, x_and, x_or, x_not, x_k, x_andV, x_orV, x_notV, x_ife, x_chain, x_for, x_ilist, x_itup, x_ienum, x_irng1, x_irng2, x_irev, x_lc, x_yes, wipe_nil, wipe_cons, List.map_cons, List.map_nil, x_misc, x_misc2, x_rz, lookup_at, Bool.not_true, Bool.not_false, decide_true, decide_false, not_true, not_false_eq_true, and_assoc, exists_and_left, exists_eq_left', exists_eq_left, exists_eq', exists_eq_right', exists_eq_right, V.int.injEq, V.ref.injEq, V.bl.injEq, V.str.injEq, List.cons.injEq, and_true, true_and, and_self, Option.some.injEq, List.cons_append, List.nil_append, List.append_nil, List.getElem?_cons_zero, List.getElem?_cons_succ, List.set_cons_zero, List.set_cons_succ, reduceCtorEq, false_and, and_false, exists_false, exists_const, or_false, false_or, scal_ii, scal_bb, scal_ss, List.length_cons, List.length_nil, Int.reduceToNat, Int.reducePow])
local macro_rules | `(tactic| k_call_by "xs" $h:term) => `(tactic| simp only [$h:term, x_next, x_seq, x_brk, x_cont, x_drop, x_ret, x_retN, x_if, sel_t, sel_f, selE_t, selE_f, selT_t, selT_f, selC_t, selC_f, x_test, x_tB, x_op, x_un, x_var, x_c, x_cb, x_nil, x_cons, x_rI, x_rI0, x_rU, x_rEq, x_rNe, x_rIxL, x_rIxT, x_rSlL, x_rCat, x_rRep, x_rApp, x_bm, x_bm0, x_sl, x_nopart, x_part, x_tup, x_lst, x_call, x_callS, x_asg, x_gname, x_gtup, x_gnil, x_gcons, x_gsub, x_setL, x_aug, x_ipI, x_ipC, x_bits, x_getL, x_augS, x_and, x_or, x_not, x_k, x_andV, x_orV, x_notV, x_ife, x_chain, x_for, x_ilist, x_itup, x_ienum, x_irng1, x_irng2, x_irev, x_lc, x_yes, wipe_nil, wipe_cons, List.map_cons, List.map_nil, x_misc, x_misc2, x_rz, lookup_at, Bool.not_true, Bool.not_false, decide_true, decide_false, not_true, not_false_eq_true, and_assoc, exists_and_left, exists_eq_left', exists_eq_left, exists_eq', exists_eq_right', exists_eq_right, V.int.injEq, V.ref.injEq, V.bl.injEq, V.str.injEq, List.cons.injEq, and_true, true_and, and_self, Option.some.injEq, List.cons_append, List.nil_append, List.append_nil, List.getElem?_cons_zero, List.getElem?_cons_succ, List.set_cons_zero, List.set_cons_succ, reduceCtorEq, false_and, and_false, exists_false, exists_const, or_false, false_or, scal_ii, scal_bb, scal_ss, List.length_cons, List.length_nil, Int.reduceToNat, Int.reducePow])
local macro_rules | `(tactic| wtm_at "hp") => `(tactic| first | (with_reducible assumption) | exact upd_same | (refine upd_keep (by with_reducible assumption) ?_; wtm_at "hp") | (refine Same.get (by with_reducible assumption) ?_; wtm_at "hp") | (refine upd_other (by first | (with_reducible assumption) | exact Ne.symm (by with_reducible assumption)) ?_; wtm_at "hp"))
local macro_rules | `(tactic| wtm_at "sq") => `(tactic| first | (with_reducible assumption) | exact SqL.of (by wtm_at "hp") | exact SqT.of (by wtm_at "hp") | (refine Same.seq (same_upd (by with_reducible assumption)) ?_; wtm_at "sq") | (refine Same.seq (by with_reducible assumption) ?_; wtm_at "sq") | (refine Same.seqT (same_upd (by with_reducible assumption)) ?_; wtm_at "sq") | (refine Same.seqT (by with_reducible assumption) ?_; wtm_at "sq"))
local macro_rules | `(tactic| wtm_at "cl") => `(tactic| first | (with_reducible assumption) | omega | (exact cmul_r (by omega) (by omega)) | (exact cmul_l (by omega) (by omega)) | (exact cdiv_ok (by omega) (by omega)) | (exact cpow_ok (by decide)) | (exact ⟨by omega, by omega, by omega⟩) | decide | (exact ⟨by omega, by omega⟩) | (simp only [List.length_append, List.length_map, List.length_set, List.length_cons, List.length_nil, rngL_len, sizeLine_eq]; omega) | wtm_at "hp" | wtm_at "sq")
local macro_rules | `(tactic| wtm_at "pf") => `(tactic| first | (with_reducible assumption) | omega | (simp only [List.length_append, List.length_map, List.length_set, List.length_cons, List.length_nil, rngL_len]; omega) | (with_reducible rfl) | (with_reducible trivial) | (with_reducible decide))
local macro_rules | `(tactic| wtm_at "st") => `(tactic| first | ((with_reducible refine g_at ?_); refine at_call (by wtm_at "sq") (by omega) (by omega) (fun _ _ => ?_)) | ((with_reducible refine g_int ?_); refine int_call ?_) | ((with_reducible refine g_isi ?_); first | (with_reducible refine isi_ii ?_) | (with_reducible refine isi_ib ?_) | (refine isi_int rfl ?_) | (refine isi_lst rfl (by wtm_at "hp") ?_) | (refine isi_tup rfl (by wtm_at "hp") ?_)) | ((with_reducible refine g_ned ?_); refine ned_f (dq_lst (by wtm_at "sq")) (dq_lst (by wtm_at "sq")) ?_) | ((with_reducible refine g_eqd ?_); refine eqd_t (dq_lst (by wtm_at "sq")) (dq_lst (by wtm_at "sq")) ?_) | ((with_reducible refine g_tyv ?_); refine and_tyv (by wtm_at "sq") ?_) | ((with_reducible refine g_asq ?_); refine and_sq (by wtm_at "sq") ?_) | ((with_reducible refine g_lst ?_); refine ex_lst (by wtm_at "hp") ?_) | ((with_reducible refine g_or ?_); first | (refine ex_or (by wtm_at "sq") ?_) | (refine ex_ort (by wtm_at "sq") ?_)) | ((with_reducible refine g_sq ?_); refine ex_sq (by wtm_at "sq") ?_) | ((with_reducible refine g_sqt ?_); refine ex_sqt (by wtm_at "sq") ?_) | ((with_reducible refine gd_sel ?_); first | (refine sel_p (by wtm_at "pf") ?_) | (refine sel_n (by wtm_at "pf") ?_)) | ((with_reducible refine gn_sel ?_); first | (refine selN_p (by wtm_at "pf") ?_) | (refine selN_n (by wtm_at "pf") ?_)) | ((with_reducible refine gd_selT ?_); first | (refine selT_p (by wtm_at "pf") ?_) | (refine selT_n (by wtm_at "pf") ?_)) | ((with_reducible refine gn_selT ?_); first | (refine selTN_p (by wtm_at "pf") ?_) | (refine selTN_n (by wtm_at "pf") ?_)) | ((with_reducible refine gd_selE ?_); first | (refine selE_p (by wtm_at "pf") ?_) | (refine selE_n (by wtm_at "pf") ?_)) | ((with_reducible refine gn_selE ?_); first | (refine selEN_p (by wtm_at "pf") ?_) | (refine selEN_n (by wtm_at "pf") ?_)) | ((with_reducible refine g_xf ?_); refine xf_at rfl (by wtm_at "hp") ?_) | ((with_reducible refine g_atI ?_); refine ex_at (by first | exact rfl | exact atI_int (by omega) (by wtm_at "pf") | exact atI_end (by wtm_at "pf")) ?_) | ((with_reducible refine g_and ?_); refine And.intro (by wtm_at "cl") ?_) | ((with_reducible refine g_new ?_); intro _ _))
local macro_rules | `(tactic| wtm_at "go") => `(tactic| repeat (first | wtm_at "xs" | wtm_at "st"))
local macro_rules | `(tactic| wtm_at "xo") => `(tactic| simp only [x_next, x_seq, x_brk, x_cont, x_drop, x_ret, x_retN, x_if, sel_t, sel_f, selE_t, selE_f, selT_t, selT_f, selC_t, selC_f, x_test, x_tB, x_op, x_un, x_var, x_c, x_cb, x_nil, x_cons, x_rI, x_rI0, x_rU, x_rEq, x_rNe, x_rIxL, x_rIxT, n_rSlL, n_rCat, n_rRep, n_rApp, x_bm, x_bm0, x_sl, x_nopart, x_part, n_tup, n_lst, x_call, x_callS, x_asg, x_gname, x_gtup, x_gnil, x_gcons, x_gsub, n_setL, x_aug, x_ipI, x_ipC, x_bits, x_getL, x_augS, x_and, x_or, x_not, x_k, x_andV, x_orV, x_notV, x_ife, x_chain, x_for, x_ilist, x_itup, x_ienum, x_irng1, x_irng2, x_irev, x_lc, x_yes, wipe_nil, wipe_cons, List.map_cons, List.map_nil, x_misc, x_misc2, x_rz, lookup_at, Bool.not_true, Bool.not_false, decide_true, decide_false, not_true, not_false_eq_true, and_assoc, exists_and_left, exists_eq_left', exists_eq_left, exists_eq', exists_eq_right', exists_eq_right, V.int.injEq, V.ref.injEq, V.bl.injEq, V.str.injEq, List.cons.injEq, and_true, true_and, and_self, Option.some.injEq, List.cons_append, List.nil_append, List.append_nil, List.getElem?_cons_zero, List.getElem?_cons_succ, List.set_cons_zero, List.set_cons_succ, reduceCtorEq, false_and, and_false, exists_false, exists_const, or_false, false_or, scal_ii, scal_bb, scal_ss, List.length_cons, List.length_nil, Int.reduceToNat, Int.reducePow, n_fld, n_dnew, n_dput, n_din, n_dget, n_dget2, n_glst, n_sfld, n_aug, n_meth, n_mw, n_make, n_kw, n_rLs, n_dcp, n_ext, n_revL, n_rTp, t_im, ints_rev, t_s1, t_i1, t_i2, t_i3, t_i4, t_i5, x_chain3, x_irng3, x_irevR, x_rg1, x_rg2, ints_cat, ints_app1, ints_len, ints_take, ints_drop, rep_one])
local macro_rules | `(tactic| k_call_by "xo" $h:term) => `(tactic| simp only [$h:term, x_next, x_seq, x_brk, x_cont, x_drop, x_ret, x_retN, x_if, sel_t, sel_f, selE_t, selE_f, selT_t, selT_f, selC_t, selC_f, x_test, x_tB, x_op, x_un, x_var, x_c, x_cb, x_nil, x_cons, x_rI, x_rI0, x_rU, x_rEq, x_rNe, x_rIxL, x_rIxT, n_rSlL, n_rCat, n_rRep, n_rApp, x_bm, x_bm0, x_sl, x_nopart, x_part, n_tup, n_lst, x_call, x_callS, x_asg, x_gname, x_gtup, x_gnil, x_gcons, x_gsub, n_setL, x_aug, x_ipI, x_ipC, x_bits, x_getL, x_augS, x_and, x_or, x_not, x_k, x_andV, x_orV, x_notV, x_ife, x_chain, x_for, x_ilist, x_itup, x_ienum, x_irng1, x_irng2, x_irev, x_lc, x_yes, wipe_nil, wipe_cons, List.map_cons, List.map_nil, x_misc, x_misc2, x_rz, lookup_at, Bool.not_true, Bool.not_false, decide_true, decide_false, not_true, not_false_eq_true, and_assoc, exists_and_left, exists_eq_left', exists_eq_left, exists_eq', exists_eq_right', exists_eq_right, V.int.injEq, V.ref.injEq, V.bl.injEq, V.str.injEq, List.cons.injEq, and_true, true_and, and_self, Option.some.injEq, List.cons_append, List.nil_append, List.append_nil, List.getElem?_cons_zero, List.getElem?_cons_succ, List.set_cons_zero, List.set_cons_succ, reduceCtorEq, false_and, and_false, exists_false, exists_const, or_false, false_or, scal_ii, scal_bb, scal_ss, List.length_cons, List.length_nil, Int.reduceToNat, Int.reducePow, n_fld, n_dnew, n_dput, n_din, n_dget, n_dget2, n_glst, n_sfld, n_aug, n_meth, n_mw, n_make, n_kw, n_rLs, n_dcp, n_ext, n_revL, n_rTp, t_im, ints_rev, t_s1, t_i1, t_i2, t_i3, t_i4, t_i5, x_chain3, x_irng3, x_irevR, x_rg1, x_rg2, ints_cat, ints_app1, ints_len, ints_take, ints_drop, rep_one])
local macro_rules | `(tactic| wtm_at "mem") => `(tactic| first | (with_reducible exact mem_here) | (with_reducible refine mem_there ?_; wtm_at "mem"))
local macro_rules | `(tactic| wtm_at "pp") => `(tactic| first | (with_reducible exact Put.here) | (with_reducible apply Put.there; wtm_at "pp"))
local macro_rules | `(tactic| wtm_at "ho") => `(tactic| first | (with_reducible assumption) | exact Own.get (by with_reducible assumption) (by wtm_at "mem") | exact Own.base (by with_reducible assumption) (by with_reducible assumption))
local macro_rules | `(tactic| wtm_at "qo") => `(tactic| first | (with_reducible assumption) | exact SqL.of (by wtm_at "ho") | exact sqT_tupI (by wtm_at "ho") | exact sqT_tupS (by wtm_at "ho") | exact SqT.of (by wtm_at "ho") | exact Own.imT (by with_reducible assumption) (by wtm_at "mem") | exact Own.sq (by with_reducible assumption) (by with_reducible assumption) | exact Own.sqT (by with_reducible assumption) (by with_reducible assumption))
local macro_rules | `(tactic| wtm_at "sub") => `(tactic| first | exact List.nil_sublist _ | (with_reducible refine List.Sublist.cons_cons _ ?_; wtm_at "sub") | (refine List.Sublist.cons _ ?_; wtm_at "sub"))
local macro_rules | `(tactic| wtm_at "co") => `(tactic| first | (with_reducible assumption) | omega | (exact cmul_r (by omega) (by omega)) | (exact cmul_l (by omega) (by omega)) | (exact cdiv_ok (by omega) (by omega)) | (exact cpow_ok (by decide)) | (exact ⟨by omega, by omega, by omega⟩) | decide | (exact ⟨by omega, by omega⟩) | (simp only [List.length_append, List.length_map, List.length_set, List.length_cons, List.length_nil, rngL_len, sizeLine_eq]; omega) | wtm_at "ho" | wtm_at "qo")
local macro_rules | `(tactic| wtm_at "so") => `(tactic| first | ((with_reducible refine g_dcp ?_); refine dcpI (by wtm_at "ho") ?_) | ((with_reducible refine g_asl ?_); refine And.intro (by rfl) ?_) | ((with_reducible refine g_asqT ?_); refine and_sqT (by wtm_at "qo") ?_) | ((with_reducible refine g_extO ?_); first | (refine extI (by with_reducible assumption) (by wtm_at "pp") (by wtm_at "co") (fun _ _ => ?_)) | (refine extO (by with_reducible assumption) (by wtm_at "pp") (by wtm_at "co") (fun _ _ => ?_))) | ((with_reducible refine g_tp ?_); first | (refine tp_l (by wtm_at "qo") ?_) | (refine tp_t (by wtm_at "qo") ?_)) | ((with_reducible refine g_dputO ?_); refine dputI (by with_reducible assumption) (by wtm_at "pp") (by wtm_at "co") (fun _ _ => ?_)) | ((with_reducible refine g_dinO ?_); refine dinI (by wtm_at "ho") ?_) | ((with_reducible refine g_isDO ?_); refine isDO (by wtm_at "ho") ?_) | ((with_reducible refine g_dg2 ?_); refine dg2I (by wtm_at "ho") ?_) | ((with_reducible refine g_fldO ?_); refine fldO (by wtm_at "ho") (by with_reducible assumption) (by wtm_at "mem") (by wtm_at "lk") ?_) | ((with_reducible refine g_fldC ?_); refine fldC (by wtm_at "ho") (by with_reducible assumption) (by wtm_at "mem") (by wtm_at "lk") ?_) | ((with_reducible refine g_putC ?_); refine putC (by with_reducible assumption) (by wtm_at "pp") (by wtm_at "pu") (by wtm_at "co") (fun _ _ => ?_)) | ((with_reducible refine g_stoO ?_); refine stoO (by with_reducible assumption) (by wtm_at "pp") (by wtm_at "pu") (by with_reducible assumption) (by wtm_at "mem") (by wtm_at "co") (fun _ _ => ?_)) | ((with_reducible refine g_metO ?_); refine metO (by wtm_at "ho") (by wtm_at "ln") ?_) | ((with_reducible refine g_makO ?_); refine makO (by with_reducible assumption) (fun _ _ _ _ => ?_)) | ((with_reducible refine g_sum ?_); refine sum_call (by wtm_at "qo") ?_) | ((with_reducible refine g_cq ?_); exact cq (by with_reducible assumption) (by simp only [rngL_len, List.length_map, List.length_take]; omega)) | ((with_reducible refine g_newO ?_); refine newO (by with_reducible assumption) (fun _ _ _ => ?_)) | ((with_reducible refine g_appO ?_); refine appI (by with_reducible assumption) (by wtm_at "pp") (by wtm_at "co") (fun _ _ => ?_)) | ((with_reducible refine g_setO ?_); refine setI (by with_reducible assumption) (by wtm_at "pp") (by omega) (by wtm_at "co") (fun _ _ => ?_)) | ((with_reducible refine g_appO ?_); refine appO (by with_reducible assumption) (by wtm_at "pp") (by wtm_at "co") (fun _ _ => ?_)) | ((with_reducible refine g_setO ?_); refine setO (by with_reducible assumption) (by wtm_at "pp") (by omega) (by wtm_at "co") (fun _ _ => ?_)) | ((with_reducible refine g_at ?_); refine at_call (by wtm_at "qo") (by omega) (by omega) (fun _ _ => ?_)) | ((with_reducible refine g_int ?_); refine int_call ?_) | ((with_reducible refine g_isi ?_); first | (with_reducible refine isi_ii ?_) | (with_reducible refine isi_ib ?_) | (refine isi_int rfl ?_) | (refine isi_sqL rfl (by wtm_at "qo") ?_) | (refine isi_sqT rfl (by wtm_at "qo") ?_) | (refine isi_bl rfl ?_) | (refine isi_non rfl ?_) | (refine isi_str rfl ?_)) | ((with_reducible refine g_ned ?_); first | (refine ned_f (dq_lst (by wtm_at "qo")) (dq_lst (by wtm_at "qo")) ?_) | (refine ned_ints (by wtm_at "qo") (by wtm_at "qo") ?_) | (refine nedT_ints (by wtm_at "qo") (by wtm_at "qo") ?_)) | ((with_reducible refine g_eqd ?_); first | (refine eqd_t (dq_lst (by wtm_at "qo")) (dq_lst (by wtm_at "qo")) ?_) | (refine eqd_ints (by wtm_at "qo") (by wtm_at "qo") ?_) | (refine eqdT_ints (by wtm_at "qo") (by wtm_at "qo") ?_)) | ((with_reducible refine g_tyv ?_); refine and_tyv (by wtm_at "qo") ?_) | ((with_reducible refine g_asq ?_); refine and_sq (by wtm_at "qo") ?_) | ((with_reducible refine g_lst ?_); refine ex_lst (by wtm_at "ho") ?_) | ((with_reducible refine g_or ?_); first | (refine ex_or (by wtm_at "qo") ?_) | (refine ex_ort (by wtm_at "qo") ?_)) | ((with_reducible refine g_sq ?_); refine ex_sq (by wtm_at "qo") ?_) | ((with_reducible refine g_sqt ?_); refine ex_sqt (by wtm_at "qo") ?_) | ((with_reducible refine gd_sel ?_); first | (refine sel_p (by wtm_at "pf") ?_) | (refine sel_n (by wtm_at "pf") ?_)) | ((with_reducible refine gn_sel ?_); first | (refine selN_p (by wtm_at "pf") ?_) | (refine selN_n (by wtm_at "pf") ?_)) | ((with_reducible refine gd_selT ?_); first | (refine selT_p (by wtm_at "pf") ?_) | (refine selT_n (by wtm_at "pf") ?_)) | ((with_reducible refine gn_selT ?_); first | (refine selTN_p (by wtm_at "pf") ?_) | (refine selTN_n (by wtm_at "pf") ?_)) | ((with_reducible refine gd_selE ?_); first | (refine selE_p (by wtm_at "pf") ?_) | (refine selE_n (by wtm_at "pf") ?_)) | ((with_reducible refine gn_selE ?_); first | (refine selEN_p (by wtm_at "pf") ?_) | (refine selEN_n (by wtm_at "pf") ?_)) | ((with_reducible refine g_xf ?_); refine xf_at rfl (by wtm_at "ho") ?_) | ((with_reducible refine g_atI ?_); refine ex_at (by first | exact rfl | exact atI_int (by omega) (by wtm_at "pf") | exact atI_end (by wtm_at "pf")) ?_) | ((with_reducible refine g_and ?_); refine And.intro (by wtm_at "co") ?_))
local macro_rules | `(tactic| wtm_at "oo") => `(tactic| repeat (first | wtm_at "xo" | wtm_at "so"))
local macro_rules | `(tactic| wtm_at "cR") => `(tactic| (refine' compRi _ (by with_reducible assumption) (by omega) (fun _ _ _ _ _ => ?_) (fun _ _ _ => ?_); rotate_left; focus (wtm_at "oo")))

local macro_rules | `(tactic| wtm_at "lk") => `(tactic| first | (with_reducible exact lk_here) | (simp only [lk_here, lk_skip, lk_nil, nb_0_0, nb_0_1, nb_0_2, nb_0_3, nb_0_4, nb_0_5, nb_0_6, nb_0_7, nb_1_1, nb_1_2, nb_1_3, nb_1_4, nb_1_5, nb_1_6, nb_1_7, nb_2_0, nb_2_2, nb_2_3, nb_2_4, nb_2_5, nb_2_6, nb_2_7, nb_3_0, nb_3_1, nb_3_2, nb_3_3, nb_3_4, nb_3_5, nb_3_6, nb_3_7, nb_4_0, nb_4_1, nb_4_2, nb_4_3, nb_4_4, nb_4_5, nb_4_6, nb_4_7, nb_5_0, nb_5_1, nb_5_3, nb_5_4, nb_5_5, nb_5_6, nb_5_7, nb_6_0, nb_6_1, nb_6_2, nb_6_3, nb_6_4, nb_6_5, nb_6_6, nb_6_7, nb_7_0, nb_7_1, nb_7_2, nb_7_4, nb_7_5, nb_7_6, nb_7_7, nb_8_0, nb_8_1, nb_8_2, nb_8_3, nb_8_4, nb_8_5, nb_8_6, nb_8_7, nb_9_0, nb_9_1, nb_9_2, nb_9_3, nb_9_4, nb_9_5, nb_9_6, nb_9_7, nb_10_0, nb_10_1, nb_10_2, nb_10_3, nb_10_5, nb_10_6, nb_10_7, nb_11_0, nb_11_1, nb_11_2, nb_11_3, nb_11_4, nb_11_6, nb_11_7, nb_12_0, nb_12_1, nb_12_2, nb_12_3, nb_12_4, nb_12_5, nb_12_7, nb_13_0, nb_13_1, nb_13_2, nb_13_3, nb_13_4, nb_13_5, nb_13_6, nb_13_7, nb_14_0, nb_14_1, nb_14_2, nb_14_3, nb_14_4, nb_14_5, nb_14_6, nb_15_0, nb_15_1, nb_15_2, nb_15_3, nb_15_4, nb_15_5, nb_15_6, nb_15_7, nb_16_0, nb_16_1, nb_16_2, nb_16_3, nb_16_4, nb_16_5, nb_16_6, nb_16_7, nb_17_0, nb_17_1, nb_17_2, nb_17_3, nb_17_4, nb_17_5, nb_17_6, nb_17_7, nb_18_0, nb_18_1, nb_18_2, nb_18_3, nb_18_4, nb_18_5, nb_18_6, nb_18_7, nb_19_0, nb_19_1, nb_19_2, nb_19_3, nb_19_4, nb_19_5, nb_19_6, nb_19_7, nb_20_0, nb_20_1, nb_20_2, nb_20_3, nb_20_4, nb_20_5, nb_20_6, nb_20_7, nb_21_0, nb_21_1, nb_21_2, nb_21_3, nb_21_4, nb_21_5, nb_21_6, nb_21_7, nb_22_0, nb_22_1, nb_22_2, nb_22_3, nb_22_4, nb_22_5, nb_22_6, nb_22_7, nb_23_0, nb_23_1, nb_23_2, nb_23_3, nb_23_4, nb_23_5, nb_23_6, nb_23_7, nb_24_0, nb_24_1, nb_24_2, nb_24_3, nb_24_4, nb_24_5, nb_24_6, nb_24_7, nb_25_0, nb_25_1, nb_25_2, nb_25_3, nb_25_4, nb_25_5, nb_25_6, nb_25_7, nb_26_0, nb_26_1, nb_26_2, nb_26_3, nb_26_4, nb_26_5, nb_26_6, nb_26_7]; first | done | exact rfl))
local macro_rules | `(tactic| wtm_at "ln") => `(tactic| first | (with_reducible exact lk_nil) | (simp only [lk_skip, lk_nil, nb_0_0, nb_0_1, nb_0_2, nb_0_3, nb_0_4, nb_0_5, nb_0_6, nb_0_7, nb_1_1, nb_1_2, nb_1_3, nb_1_4, nb_1_5, nb_1_6, nb_1_7, nb_2_0, nb_2_2, nb_2_3, nb_2_4, nb_2_5, nb_2_6, nb_2_7, nb_3_0, nb_3_1, nb_3_2, nb_3_3, nb_3_4, nb_3_5, nb_3_6, nb_3_7, nb_4_0, nb_4_1, nb_4_2, nb_4_3, nb_4_4, nb_4_5, nb_4_6, nb_4_7, nb_5_0, nb_5_1, nb_5_3, nb_5_4, nb_5_5, nb_5_6, nb_5_7, nb_6_0, nb_6_1, nb_6_2, nb_6_3, nb_6_4, nb_6_5, nb_6_6, nb_6_7, nb_7_0, nb_7_1, nb_7_2, nb_7_4, nb_7_5, nb_7_6, nb_7_7, nb_8_0, nb_8_1, nb_8_2, nb_8_3, nb_8_4, nb_8_5, nb_8_6, nb_8_7, nb_9_0, nb_9_1, nb_9_2, nb_9_3, nb_9_4, nb_9_5, nb_9_6, nb_9_7, nb_10_0, nb_10_1, nb_10_2, nb_10_3, nb_10_5, nb_10_6, nb_10_7, nb_11_0, nb_11_1, nb_11_2, nb_11_3, nb_11_4, nb_11_6, nb_11_7, nb_12_0, nb_12_1, nb_12_2, nb_12_3, nb_12_4, nb_12_5, nb_12_7, nb_13_0, nb_13_1, nb_13_2, nb_13_3, nb_13_4, nb_13_5, nb_13_6, nb_13_7, nb_14_0, nb_14_1, nb_14_2, nb_14_3, nb_14_4, nb_14_5, nb_14_6, nb_15_0, nb_15_1, nb_15_2, nb_15_3, nb_15_4, nb_15_5, nb_15_6, nb_15_7, nb_16_0, nb_16_1, nb_16_2, nb_16_3, nb_16_4, nb_16_5, nb_16_6, nb_16_7, nb_17_0, nb_17_1, nb_17_2, nb_17_3, nb_17_4, nb_17_5, nb_17_6, nb_17_7, nb_18_0, nb_18_1, nb_18_2, nb_18_3, nb_18_4, nb_18_5, nb_18_6, nb_18_7, nb_19_0, nb_19_1, nb_19_2, nb_19_3, nb_19_4, nb_19_5, nb_19_6, nb_19_7, nb_20_0, nb_20_1, nb_20_2, nb_20_3, nb_20_4, nb_20_5, nb_20_6, nb_20_7, nb_21_0, nb_21_1, nb_21_2, nb_21_3, nb_21_4, nb_21_5, nb_21_6, nb_21_7, nb_22_0, nb_22_1, nb_22_2, nb_22_3, nb_22_4, nb_22_5, nb_22_6, nb_22_7, nb_23_0, nb_23_1, nb_23_2, nb_23_3, nb_23_4, nb_23_5, nb_23_6, nb_23_7, nb_24_0, nb_24_1, nb_24_2, nb_24_3, nb_24_4, nb_24_5, nb_24_6, nb_24_7, nb_25_0, nb_25_1, nb_25_2, nb_25_3, nb_25_4, nb_25_5, nb_25_6, nb_25_7, nb_26_0, nb_26_1, nb_26_2, nb_26_3, nb_26_4, nb_26_5, nb_26_6, nb_26_7]; done))
local macro_rules | `(tactic| wtm_at "pu") => `(tactic| first | (with_reducible exact pf_nil) | (simp only [pf_nil, pf_here, pf_skip, nb_0_0, nb_0_1, nb_0_2, nb_0_3, nb_0_4, nb_0_5, nb_0_6, nb_0_7, nb_1_1, nb_1_2, nb_1_3, nb_1_4, nb_1_5, nb_1_6, nb_1_7, nb_2_0, nb_2_2, nb_2_3, nb_2_4, nb_2_5, nb_2_6, nb_2_7, nb_3_0, nb_3_1, nb_3_2, nb_3_3, nb_3_4, nb_3_5, nb_3_6, nb_3_7, nb_4_0, nb_4_1, nb_4_2, nb_4_3, nb_4_4, nb_4_5, nb_4_6, nb_4_7, nb_5_0, nb_5_1, nb_5_3, nb_5_4, nb_5_5, nb_5_6, nb_5_7, nb_6_0, nb_6_1, nb_6_2, nb_6_3, nb_6_4, nb_6_5, nb_6_6, nb_6_7, nb_7_0, nb_7_1, nb_7_2, nb_7_4, nb_7_5, nb_7_6, nb_7_7, nb_8_0, nb_8_1, nb_8_2, nb_8_3, nb_8_4, nb_8_5, nb_8_6, nb_8_7, nb_9_0, nb_9_1, nb_9_2, nb_9_3, nb_9_4, nb_9_5, nb_9_6, nb_9_7, nb_10_0, nb_10_1, nb_10_2, nb_10_3, nb_10_5, nb_10_6, nb_10_7, nb_11_0, nb_11_1, nb_11_2, nb_11_3, nb_11_4, nb_11_6, nb_11_7, nb_12_0, nb_12_1, nb_12_2, nb_12_3, nb_12_4, nb_12_5, nb_12_7, nb_13_0, nb_13_1, nb_13_2, nb_13_3, nb_13_4, nb_13_5, nb_13_6, nb_13_7, nb_14_0, nb_14_1, nb_14_2, nb_14_3, nb_14_4, nb_14_5, nb_14_6, nb_15_0, nb_15_1, nb_15_2, nb_15_3, nb_15_4, nb_15_5, nb_15_6, nb_15_7, nb_16_0, nb_16_1, nb_16_2, nb_16_3, nb_16_4, nb_16_5, nb_16_6, nb_16_7, nb_17_0, nb_17_1, nb_17_2, nb_17_3, nb_17_4, nb_17_5, nb_17_6, nb_17_7, nb_18_0, nb_18_1, nb_18_2, nb_18_3, nb_18_4, nb_18_5, nb_18_6, nb_18_7, nb_19_0, nb_19_1, nb_19_2, nb_19_3, nb_19_4, nb_19_5, nb_19_6, nb_19_7, nb_20_0, nb_20_1, nb_20_2, nb_20_3, nb_20_4, nb_20_5, nb_20_6, nb_20_7, nb_21_0, nb_21_1, nb_21_2, nb_21_3, nb_21_4, nb_21_5, nb_21_6, nb_21_7, nb_22_0, nb_22_1, nb_22_2, nb_22_3, nb_22_4, nb_22_5, nb_22_6, nb_22_7, nb_23_0, nb_23_1, nb_23_2, nb_23_3, nb_23_4, nb_23_5, nb_23_6, nb_23_7, nb_24_0, nb_24_1, nb_24_2, nb_24_3, nb_24_4, nb_24_5, nb_24_6, nb_24_7, nb_25_0, nb_25_1, nb_25_2, nb_25_3, nb_25_4, nb_25_5, nb_25_6, nb_25_7, nb_26_0, nb_26_1, nb_26_2, nb_26_3, nb_26_4, nb_26_5, nb_26_6, nb_26_7]; first | done | exact rfl))
local macro_rules | `(tactic| wtm_at "tk") => `(tactic| first | (with_reducible exact Take.here) | (exact Take.here) | ((with_reducible apply Take.there); wtm_at "tk"))
local macro_rules | `(tactic| wtm_at "pk") => `(tactic| first | exact Pick.nil | ((with_reducible refine' Pick.cons ?tk1 ?pk1); (case tk1 => wtm_at "tk"); (case pk1 => wtm_at "pk")) | ((with_reducible refine Pick.im (by wtm_at "mem") ?_); wtm_at "pk") | ((with_reducible refine Pick.ims (by wtm_at "mem") ?_); wtm_at "pk"))
section
variable {P : Program} {w : World} {K : PySem.W.Frag} {mg : Str → Option Value} {base : Heap}
def sp__are_same (K : PySem.W.Frag) : Sp := fun vs H Q _ => ∃ (a : Addr) (hs : List Int) (i j : Int), vs = [.ref a, .int i, .int j] ∧ SqL K H a (hs.map V.int) ∧ 0 ≤ i ∧ 0 ≤ j ∧
  ∀ H', Own K H H' [] → Q (.bl (decide (sl3 hs i = sl3 hs j))) H'
theorem ok__are_same (T : Tx K mg) : Cl P w K mg base 1 "_are_same" ["history", "first", "second"] (sp__are_same K) [] := by
  obtain ⟨gm, fd, F⟩ := T.d__are_same
  refine ⟨_, fd, [], F.ok sc__are_same (fun vs H Q E h => ?_) (fun cdv A outer s H vs Q E hr h => ⟨_, (PSs.nox (pss_one (ps_ret (by exact (pe_cmpR (eqK K hr.units) (pe_slice (slK K) (pv 0) (po_some (pv 1)) (po_some (pe_op op_add (pv 1) (pe_gc rfl T.c_LEAST_LENGTH)))) (pe_slice (slK K) (pv 0) (po_some (pv 2)) (po_some (pe_op op_add (pv 2) (pe_gc rfl T.c_LEAST_LENGTH)))) (nomark _)))))), ?_⟩), gm, F.kp, F.bindsN (fun _ _ _ _ _ _ us hl => match us, hl with | [_, _, _], _ => rfl), .nil⟩
  · first | (obtain ⟨rfl, _⟩ := h; rfl) | (obtain ⟨_, rfl, _⟩ := h; rfl) | (obtain ⟨_, _, rfl, _⟩ := h; rfl) | (obtain ⟨_, _, _, rfl, _⟩ := h; rfl) | (obtain ⟨_, _, _, _, rfl, _⟩ := h; rfl) | (obtain ⟨_, _, _, _, _, rfl, _⟩ := h; rfl) | (obtain ⟨_, _, _, _, _, _, rfl, _⟩ := h; rfl) | (obtain ⟨_, _, _, _, _, _, _, rfl, _⟩ := h; rfl) | (obtain ⟨_, _, _, _, _, _, _, _, rfl, _⟩ := h; rfl) | (obtain ⟨_, _, _, _, _, _, _, _, _, rfl, _⟩ := h; rfl) | (obtain ⟨_, _, _, _, _, _, _, _, _, _, rfl, _⟩ := h; rfl) | (obtain ⟨_, _, _, _, _, _, _, _, _, _, _, rfl, _⟩ := h; rfl) | (obtain ⟨_, _, _, _, _, _, _, _, _, _, _, _, rfl, _⟩ := h; rfl) | (obtain ⟨_, _, _, _, _, _, _, _, _, _, _, _, _, rfl, _⟩ := h; rfl) | (obtain ⟨_, _, _, _, _, _, _, _, _, _, _, _, _, _, rfl, _⟩ := h; rfl) | (obtain ⟨_, _, _, _, _, _, _, _, _, _, _, _, _, _, _, rfl, _⟩ := h; rfl) | (obtain ⟨_, _, _, _, _, _, _, _, _, _, _, _, _, _, _, _, rfl, _⟩ := h; rfl) | (obtain ⟨_, _, _, _, _, _, _, _, _, _, _, _, _, _, _, _, _, rfl, _⟩ := h; rfl) | (obtain ⟨_, _, _, _, _, _, _, _, _, _, _, _, _, _, _, _, _, _, rfl, _⟩ := h; rfl) | (obtain ⟨_, _, _, _, _, _, _, _, _, _, _, _, _, _, _, _, _, _, _, rfl, _⟩ := h; rfl) | (obtain ⟨_, _, _, _, _, _, _, _, _, _, _, _, _, _, _, _, _, _, _, _, rfl, _⟩ := h; rfl) | (obtain ⟨_, _, _, _, _, _, _, _, _, _, _, _, _, _, _, _, _, _, _, _, _, rfl, _⟩ := h; rfl)
  · obtain ⟨a, hs, i, j, rfl, hS, hi, hj, q⟩ := h
    k_call_by "xo" st__are_same
    have L := Own.start (K := K) (H := H)
    wtm_at "oo"
    rename_i p1 H1 L1 p2 H2 L2
    rw [sl3_is hi] at L2
    rw [sl3_is hj] at L2
    refine eqd_ints (by wtm_at "qo") (by wtm_at "qo") ?_
    exact q _ (L2.sub (by wtm_at "sub"))


end
end K52

namespace K52
open PySem PySem.Spec PyProof.Rows L2 Bel
local macro_rules | `(tactic| wtm_at "xs") => `(tactic| simp only [x_next, x_seq, x_brk, x_cont, x_drop, x_ret, x_retN, x_if, sel_t, sel_f, selE_t, selE_f, selT_t, selT_f, selC_t, selC_f, x_test, x_tB, x_op, x_un, x_var, x_c, x_cb, x_nil, x_cons, x_rI, x_rI0, x_rU, x_rEq, x_rNe, x_rIxL, x_rIxT, x_rSlL, x_rCat, x_rRep, x_rApp, x_bm, x_bm0, x_sl, x_nopart, x_part, x_tup, x_lst, x_call, x_callS, x_asg, x_gname, x_gtup, x_gnil, x_gcons, x_gsub, x_setL, x_aug, x_ipI, x_ipC, x_bits, x_getL, x_augS, x_and, x_or, x_not, x_k, x_andV, x_orV, x_notV, x_ife, x_chain, x_for, x_ilist, x_itup, x_ienum, x_irng1, x_irng2, x_irev, x_lc, x_yes, wipe_nil, wipe_cons, List.map_cons, List.map_nil, x_misc, x_misc2, x_rz, lookup_at, Bool.not_true, Bool.not_false, decide_true, decide_false, not_true, not_false_eq_true, and_assoc, exists_and_left, exists_eq_left', exists_eq_left, exists_eq', exists_eq_right', exists_eq_right, V.int.injEq, V.ref.injEq, V.bl.injEq, V.str.injEq, List.cons.injEq, and_true, true_and, and_self, Option.some.injEq, List.cons_append, List.nil_append, List.append_nil, List.getElem?_cons_zero, List.getElem?_cons_succ, List.set_cons_zero, List.set_cons_succ, reduceCtorEq, false_and, and_false, exists_false, exists_const, or_false, false_or, scal_ii, scal_bb, scal_ss, List.length_cons, List.length_nil, Int.reduceToNat, Int.reducePow])
local macro_rules | `(tactic| k_call_by "xs" $h:term) => `(tactic| simp only [$h:term, x_next, x_seq, x_brk, x_cont, x_drop, x_ret, x_retN, x_if, sel_t, sel_f, selE_t, selE_f, selT_t, selT_f, selC_t, selC_f, x_test, x_tB, x_op, x_un, x_var, x_c, x_cb, x_nil, x_cons, x_rI, x_rI0, x_rU, x_rEq, x_rNe, x_rIxL, x_rIxT, x_rSlL, x_rCat, x_rRep, x_rApp, x_bm, x_bm0, x_sl, x_nopart, x_part, x_tup, x_lst, x_call, x_callS, x_asg, x_gname, x_gtup, x_gnil, x_gcons, x_gsub, x_setL, x_aug, x_ipI, x_ipC, x_bits, x_getL, x_augS, x_and, x_or, x_not, x_k, x_andV, x_orV, x_notV, x_ife, x_chain, x_for, x_ilist, x_itup, x_ienum, x_irng1, x_irng2, x_irev, x_lc, x_yes, wipe_nil, wipe_cons, List.map_cons, List.map_nil, x_misc, x_misc2, x_rz, lookup_at, Bool.not_true, Bool.not_false, decide_true, decide_false, not_true, not_false_eq_true, and_assoc, exists_and_left, exists_eq_left', exists_eq_left, exists_eq', exists_eq_right', exists_eq_right, V.int.injEq, V.ref.injEq, V.bl.injEq, V.str.injEq, List.cons.injEq, and_true, true_and, and_self, Option.some.injEq, List.cons_append, List.nil_append, List.append_nil, List.getElem?_cons_zero, List.getElem?_cons_succ, List.set_cons_zero, List.set_cons_succ, reduceCtorEq, false_and, and_false, exists_false, exists_const, or_false, false_or, scal_ii, scal_bb, scal_ss, List.length_cons, List.length_nil, Int.reduceToNat, Int.reducePow])
local macro_rules | `(tactic| wtm_at "hp") => `(tactic| first | (with_reducible assumption) | exact upd_same | (refine upd_keep (by with_reducible assumption) ?_; wtm_at "hp") | (refine Same.get (by with_reducible assumption) ?_; wtm_at "hp") | (refine upd_other (by first | (with_reducible assumption) | exact Ne.symm (by with_reducible assumption)) ?_; wtm_at "hp"))
local macro_rules | `(tactic| wtm_at "sq") => `(tactic| first | (with_reducible assumption) | exact SqL.of (by wtm_at "hp") | exact SqT.of (by wtm_at "hp") | (refine Same.seq (same_upd (by with_reducible assumption)) ?_; wtm_at "sq") | (refine Same.seq (by with_reducible assumption) ?_; wtm_at "sq") | (refine Same.seqT (same_upd (by with_reducible assumption)) ?_; wtm_at "sq") | (refine Same.seqT (by with_reducible assumption) ?_; wtm_at "sq"))
local macro_rules | `(tactic| wtm_at "cl") => `(tactic| first | (with_reducible assumption) | omega | (exact cmul_r (by omega) (by omega)) | (exact cmul_l (by omega) (by omega)) | (exact cdiv_ok (by omega) (by omega)) | (exact cpow_ok (by decide)) | (exact ⟨by omega, by omega, by omega⟩) | decide | (exact ⟨by omega, by omega⟩) | (simp only [List.length_append, List.length_map, List.length_set, List.length_cons, List.length_nil, rngL_len, sizeLine_eq]; omega) | wtm_at "hp" | wtm_at "sq")
local macro_rules | `(tactic| wtm_at "pf") => `(tactic| first | (with_reducible assumption) | omega | (simp only [List.length_append, List.length_map, List.length_set, List.length_cons, List.length_nil, rngL_len]; omega) | (with_reducible rfl) | (with_reducible trivial) | (with_reducible decide))
local macro_rules | `(tactic| wtm_at "st") => `(tactic| first | ((with_reducible refine g_at ?_); refine at_call (by wtm_at "sq") (by omega) (by omega) (fun _ _ => ?_)) | ((with_reducible refine g_int ?_); refine int_call ?_) | ((with_reducible refine g_isi ?_); first | (with_reducible refine isi_ii ?_) | (with_reducible refine isi_ib ?_) | (refine isi_int rfl ?_) | (refine isi_lst rfl (by wtm_at "hp") ?_) | (refine isi_tup rfl (by wtm_at "hp") ?_)) | ((with_reducible refine g_ned ?_); refine ned_f (dq_lst (by wtm_at "sq")) (dq_lst (by wtm_at "sq")) ?_) | ((with_reducible refine g_eqd ?_); refine eqd_t (dq_lst (by wtm_at "sq")) (dq_lst (by wtm_at "sq")) ?_) | ((with_reducible refine g_tyv ?_); refine and_tyv (by wtm_at "sq") ?_) | ((with_reducible refine g_asq ?_); refine and_sq (by wtm_at "sq") ?_) | ((with_reducible refine g_lst ?_); refine ex_lst (by wtm_at "hp") ?_) | ((with_reducible refine g_or ?_); first | (refine ex_or (by wtm_at "sq") ?_) | (refine ex_ort (by wtm_at "sq") ?_)) | ((with_reducible refine g_sq ?_); refine ex_sq (by wtm_at "sq") ?_) | ((with_reducible refine g_sqt ?_); refine ex_sqt (by wtm_at "sq") ?_) | ((with_reducible refine gd_sel ?_); first | (refine sel_p (by wtm_at "pf") ?_) | (refine sel_n (by wtm_at "pf") ?_)) | ((with_reducible refine gn_sel ?_); first | (refine selN_p (by wtm_at "pf") ?_) | (refine selN_n (by wtm_at "pf") ?_)) | ((with_reducible refine gd_selT ?_); first | (refine selT_p (by wtm_at "pf") ?_) | (refine selT_n (by wtm_at "pf") ?_)) | ((with_reducible refine gn_selT ?_); first | (refine selTN_p (by wtm_at "pf") ?_) | (refine selTN_n (by wtm_at "pf") ?_)) | ((with_reducible refine gd_selE ?_); first | (refine selE_p (by wtm_at "pf") ?_) | (refine selE_n (by wtm_at "pf") ?_)) | ((with_reducible refine gn_selE ?_); first | (refine selEN_p (by wtm_at "pf") ?_) | (refine selEN_n (by wtm_at "pf") ?_)) | ((with_reducible refine g_xf ?_); refine xf_at rfl (by wtm_at "hp") ?_) | ((with_reducible refine g_atI ?_); refine ex_at (by first | exact rfl | exact atI_int (by omega) (by wtm_at "pf") | exact atI_end (by wtm_at "pf")) ?_) | ((with_reducible refine g_and ?_); refine And.intro (by wtm_at "cl") ?_) | ((with_reducible refine g_new ?_); intro _ _))
local macro_rules | `(tactic| wtm_at "go") => `(tactic| repeat (first | wtm_at "xs" | wtm_at "st"))
local macro_rules | `(tactic| wtm_at "xo") => `(tactic| simp only [x_next, x_seq, x_brk, x_cont, x_drop, x_ret, x_retN, x_if, sel_t, sel_f, selE_t, selE_f, selT_t, selT_f, selC_t, selC_f, x_test, x_tB, x_op, x_un, x_var, x_c, x_cb, x_nil, x_cons, x_rI, x_rI0, x_rU, x_rEq, x_rNe, x_rIxL, x_rIxT, n_rSlL, n_rCat, n_rRep, n_rApp, x_bm, x_bm0, x_sl, x_nopart, x_part, n_tup, n_lst, x_call, x_callS, x_asg, x_gname, x_gtup, x_gnil, x_gcons, x_gsub, n_setL, x_aug, x_ipI, x_ipC, x_bits, x_getL, x_augS, x_and, x_or, x_not, x_k, x_andV, x_orV, x_notV, x_ife, x_chain, x_for, x_ilist, x_itup, x_ienum, x_irng1, x_irng2, x_irev, x_lc, x_yes, wipe_nil, wipe_cons, List.map_cons, List.map_nil, x_misc, x_misc2, x_rz, lookup_at, Bool.not_true, Bool.not_false, decide_true, decide_false, not_true, not_false_eq_true, and_assoc, exists_and_left, exists_eq_left', exists_eq_left, exists_eq', exists_eq_right', exists_eq_right, V.int.injEq, V.ref.injEq, V.bl.injEq, V.str.injEq, List.cons.injEq, and_true, true_and, and_self, Option.some.injEq, List.cons_append, List.nil_append, List.append_nil, List.getElem?_cons_zero, List.getElem?_cons_succ, List.set_cons_zero, List.set_cons_succ, reduceCtorEq, false_and, and_false, exists_false, exists_const, or_false, false_or, scal_ii, scal_bb, scal_ss, List.length_cons, List.length_nil, Int.reduceToNat, Int.reducePow, n_fld, n_dnew, n_dput, n_din, n_dget, n_dget2, n_glst, n_sfld, n_aug, n_meth, n_mw, n_make, n_kw, n_rLs, n_dcp, n_ext, n_revL, n_rTp, t_im, ints_rev, t_s1, t_i1, t_i2, t_i3, t_i4, t_i5, x_chain3, x_irng3, x_irevR, x_rg1, x_rg2, ints_cat, ints_app1, ints_len, ints_take, ints_drop, rep_one])
local macro_rules | `(tactic| k_call_by "xo" $h:term) => `(tactic| simp only [$h:term, x_next, x_seq, x_brk, x_cont, x_drop, x_ret, x_retN, x_if, sel_t, sel_f, selE_t, selE_f, selT_t, selT_f, selC_t, selC_f, x_test, x_tB, x_op, x_un, x_var, x_c, x_cb, x_nil, x_cons, x_rI, x_rI0, x_rU, x_rEq, x_rNe, x_rIxL, x_rIxT, n_rSlL, n_rCat, n_rRep, n_rApp, x_bm, x_bm0, x_sl, x_nopart, x_part, n_tup, n_lst, x_call, x_callS, x_asg, x_gname, x_gtup, x_gnil, x_gcons, x_gsub, n_setL, x_aug, x_ipI, x_ipC, x_bits, x_getL, x_augS, x_and, x_or, x_not, x_k, x_andV, x_orV, x_notV, x_ife, x_chain, x_for, x_ilist, x_itup, x_ienum, x_irng1, x_irng2, x_irev, x_lc, x_yes, wipe_nil, wipe_cons, List.map_cons, List.map_nil, x_misc, x_misc2, x_rz, lookup_at, Bool.not_true, Bool.not_false, decide_true, decide_false, not_true, not_false_eq_true, and_assoc, exists_and_left, exists_eq_left', exists_eq_left, exists_eq', exists_eq_right', exists_eq_right, V.int.injEq, V.ref.injEq, V.bl.injEq, V.str.injEq, List.cons.injEq, and_true, true_and, and_self, Option.some.injEq, List.cons_append, List.nil_append, List.append_nil, List.getElem?_cons_zero, List.getElem?_cons_succ, List.set_cons_zero, List.set_cons_succ, reduceCtorEq, false_and, and_false, exists_false, exists_const, or_false, false_or, scal_ii, scal_bb, scal_ss, List.length_cons, List.length_nil, Int.reduceToNat, Int.reducePow, n_fld, n_dnew, n_dput, n_din, n_dget, n_dget2, n_glst, n_sfld, n_aug, n_meth, n_mw, n_make, n_kw, n_rLs, n_dcp, n_ext, n_revL, n_rTp, t_im, ints_rev, t_s1, t_i1, t_i2, t_i3, t_i4, t_i5, x_chain3, x_irng3, x_irevR, x_rg1, x_rg2, ints_cat, ints_app1, ints_len, ints_take, ints_drop, rep_one])
local macro_rules | `(tactic| wtm_at "mem") => `(tactic| first | (with_reducible exact mem_here) | (with_reducible refine mem_there ?_; wtm_at "mem"))
local macro_rules | `(tactic| wtm_at "pp") => `(tactic| first | (with_reducible exact Put.here) | (with_reducible apply Put.there; wtm_at "pp"))
local macro_rules | `(tactic| wtm_at "ho") => `(tactic| first | (with_reducible assumption) | exact Own.get (by with_reducible assumption) (by wtm_at "mem") | exact Own.base (by with_reducible assumption) (by with_reducible assumption))
local macro_rules | `(tactic| wtm_at "qo") => `(tactic| first | (with_reducible assumption) | exact SqL.of (by wtm_at "ho") | exact sqT_tupI (by wtm_at "ho") | exact sqT_tupS (by wtm_at "ho") | exact SqT.of (by wtm_at "ho") | exact Own.imT (by with_reducible assumption) (by wtm_at "mem") | exact Own.sq (by with_reducible assumption) (by with_reducible assumption) | exact Own.sqT (by with_reducible assumption) (by with_reducible assumption))
local macro_rules | `(tactic| wtm_at "sub") => `(tactic| first | exact List.nil_sublist _ | (with_reducible refine List.Sublist.cons_cons _ ?_; wtm_at "sub") | (refine List.Sublist.cons _ ?_; wtm_at "sub"))
local macro_rules | `(tactic| wtm_at "co") => `(tactic| first | (with_reducible assumption) | omega | (exact cmul_r (by omega) (by omega)) | (exact cmul_l (by omega) (by omega)) | (exact cdiv_ok (by omega) (by omega)) | (exact cpow_ok (by decide)) | (exact ⟨by omega, by omega, by omega⟩) | decide | (exact ⟨by omega, by omega⟩) | (simp only [List.length_append, List.length_map, List.length_set, List.length_cons, List.length_nil, rngL_len, sizeLine_eq]; omega) | wtm_at "ho" | wtm_at "qo")
local macro_rules | `(tactic| wtm_at "so") => `(tactic| first | ((with_reducible refine g_dcp ?_); refine dcpI (by wtm_at "ho") ?_) | ((with_reducible refine g_asl ?_); refine And.intro (by rfl) ?_) | ((with_reducible refine g_asqT ?_); refine and_sqT (by wtm_at "qo") ?_) | ((with_reducible refine g_extO ?_); first | (refine extI (by with_reducible assumption) (by wtm_at "pp") (by wtm_at "co") (fun _ _ => ?_)) | (refine extO (by with_reducible assumption) (by wtm_at "pp") (by wtm_at "co") (fun _ _ => ?_))) | ((with_reducible refine g_tp ?_); first | (refine tp_l (by wtm_at "qo") ?_) | (refine tp_t (by wtm_at "qo") ?_)) | ((with_reducible refine g_dputO ?_); refine dputI (by with_reducible assumption) (by wtm_at "pp") (by wtm_at "co") (fun _ _ => ?_)) | ((with_reducible refine g_dinO ?_); refine dinI (by wtm_at "ho") ?_) | ((with_reducible refine g_isDO ?_); refine isDO (by wtm_at "ho") ?_) | ((with_reducible refine g_dg2 ?_); refine dg2I (by wtm_at "ho") ?_) | ((with_reducible refine g_fldO ?_); refine fldO (by wtm_at "ho") (by with_reducible assumption) (by wtm_at "mem") (by wtm_at "lk") ?_) | ((with_reducible refine g_fldC ?_); refine fldC (by wtm_at "ho") (by with_reducible assumption) (by wtm_at "mem") (by wtm_at "lk") ?_) | ((with_reducible refine g_putC ?_); refine putC (by with_reducible assumption) (by wtm_at "pp") (by wtm_at "pu") (by wtm_at "co") (fun _ _ => ?_)) | ((with_reducible refine g_stoO ?_); refine stoO (by with_reducible assumption) (by wtm_at "pp") (by wtm_at "pu") (by with_reducible assumption) (by wtm_at "mem") (by wtm_at "co") (fun _ _ => ?_)) | ((with_reducible refine g_metO ?_); refine metO (by wtm_at "ho") (by wtm_at "ln") ?_) | ((with_reducible refine g_makO ?_); refine makO (by with_reducible assumption) (fun _ _ _ _ => ?_)) | ((with_reducible refine g_sum ?_); refine sum_call (by wtm_at "qo") ?_) | ((with_reducible refine g_cq ?_); exact cq (by with_reducible assumption) (by simp only [rngL_len, List.length_map, List.length_take]; omega)) | ((with_reducible refine g_newO ?_); refine newO (by with_reducible assumption) (fun _ _ _ => ?_)) | ((with_reducible refine g_appO ?_); refine appI (by with_reducible assumption) (by wtm_at "pp") (by wtm_at "co") (fun _ _ => ?_)) | ((with_reducible refine g_setO ?_); refine setI (by with_reducible assumption) (by wtm_at "pp") (by omega) (by wtm_at "co") (fun _ _ => ?_)) | ((with_reducible refine g_appO ?_); refine appO (by with_reducible assumption) (by wtm_at "pp") (by wtm_at "co") (fun _ _ => ?_)) | ((with_reducible refine g_setO ?_); refine setO (by with_reducible assumption) (by wtm_at "pp") (by omega) (by wtm_at "co") (fun _ _ => ?_)) | ((with_reducible refine g_at ?_); refine at_call (by wtm_at "qo") (by omega) (by omega) (fun _ _ => ?_)) | ((with_reducible refine g_int ?_); refine int_call ?_) | ((with_reducible refine g_isi ?_); first | (with_reducible refine isi_ii ?_) | (with_reducible refine isi_ib ?_) | (refine isi_int rfl ?_) | (refine isi_sqL rfl (by wtm_at "qo") ?_) | (refine isi_sqT rfl (by wtm_at "qo") ?_) | (refine isi_bl rfl ?_) | (refine isi_non rfl ?_) | (refine isi_str rfl ?_)) | ((with_reducible refine g_ned ?_); first | (refine ned_f (dq_lst (by wtm_at "qo")) (dq_lst (by wtm_at "qo")) ?_) | (refine ned_ints (by wtm_at "qo") (by wtm_at "qo") ?_) | (refine nedT_ints (by wtm_at "qo") (by wtm_at "qo") ?_)) | ((with_reducible refine g_eqd ?_); first | (refine eqd_t (dq_lst (by wtm_at "qo")) (dq_lst (by wtm_at "qo")) ?_) | (refine eqd_ints (by wtm_at "qo") (by wtm_at "qo") ?_) | (refine eqdT_ints (by wtm_at "qo") (by wtm_at "qo") ?_)) | ((with_reducible refine g_tyv ?_); refine and_tyv (by wtm_at "qo") ?_) | ((with_reducible refine g_asq ?_); refine and_sq (by wtm_at "qo") ?_) | ((with_reducible refine g_lst ?_); refine ex_lst (by wtm_at "ho") ?_) | ((with_reducible refine g_or ?_); first | (refine ex_or (by wtm_at "qo") ?_) | (refine ex_ort (by wtm_at "qo") ?_)) | ((with_reducible refine g_sq ?_); refine ex_sq (by wtm_at "qo") ?_) | ((with_reducible refine g_sqt ?_); refine ex_sqt (by wtm_at "qo") ?_) | ((with_reducible refine gd_sel ?_); first | (refine sel_p (by wtm_at "pf") ?_) | (refine sel_n (by wtm_at "pf") ?_)) | ((with_reducible refine gn_sel ?_); first | (refine selN_p (by wtm_at "pf") ?_) | (refine selN_n (by wtm_at "pf") ?_)) | ((with_reducible refine gd_selT ?_); first | (refine selT_p (by wtm_at "pf") ?_) | (refine selT_n (by wtm_at "pf") ?_)) | ((with_reducible refine gn_selT ?_); first | (refine selTN_p (by wtm_at "pf") ?_) | (refine selTN_n (by wtm_at "pf") ?_)) | ((with_reducible refine gd_selE ?_); first | (refine selE_p (by wtm_at "pf") ?_) | (refine selE_n (by wtm_at "pf") ?_)) | ((with_reducible refine gn_selE ?_); first | (refine selEN_p (by wtm_at "pf") ?_) | (refine selEN_n (by wtm_at "pf") ?_)) | ((with_reducible refine g_xf ?_); refine xf_at rfl (by wtm_at "ho") ?_) | ((with_reducible refine g_atI ?_); refine ex_at (by first | exact rfl | exact atI_int (by omega) (by wtm_at "pf") | exact atI_end (by wtm_at "pf")) ?_) | ((with_reducible refine g_and ?_); refine And.intro (by wtm_at "co") ?_))
local macro_rules | `(tactic| wtm_at "oo") => `(tactic| repeat (first | wtm_at "xo" | wtm_at "so"))
local macro_rules | `(tactic| wtm_at "cR") => `(tactic| (refine' compRi _ (by with_reducible assumption) (by omega) (fun _ _ _ _ _ => ?_) (fun _ _ _ => ?_); rotate_left; focus (wtm_at "oo")))

local macro_rules | `(tactic| wtm_at "lk") => `(tactic| first | (with_reducible exact lk_here) | (simp only [lk_here, lk_skip, lk_nil, nb_0_0, nb_0_1, nb_0_2, nb_0_3, nb_0_4, nb_0_5, nb_0_6, nb_0_7, nb_1_1, nb_1_2, nb_1_3, nb_1_4, nb_1_5, nb_1_6, nb_1_7, nb_2_0, nb_2_2, nb_2_3, nb_2_4, nb_2_5, nb_2_6, nb_2_7, nb_3_0, nb_3_1, nb_3_2, nb_3_3, nb_3_4, nb_3_5, nb_3_6, nb_3_7, nb_4_0, nb_4_1, nb_4_2, nb_4_3, nb_4_4, nb_4_5, nb_4_6, nb_4_7, nb_5_0, nb_5_1, nb_5_3, nb_5_4, nb_5_5, nb_5_6, nb_5_7, nb_6_0, nb_6_1, nb_6_2, nb_6_3, nb_6_4, nb_6_5, nb_6_6, nb_6_7, nb_7_0, nb_7_1, nb_7_2, nb_7_4, nb_7_5, nb_7_6, nb_7_7, nb_8_0, nb_8_1, nb_8_2, nb_8_3, nb_8_4, nb_8_5, nb_8_6, nb_8_7, nb_9_0, nb_9_1, nb_9_2, nb_9_3, nb_9_4, nb_9_5, nb_9_6, nb_9_7, nb_10_0, nb_10_1, nb_10_2, nb_10_3, nb_10_5, nb_10_6, nb_10_7, nb_11_0, nb_11_1, nb_11_2, nb_11_3, nb_11_4, nb_11_6, nb_11_7, nb_12_0, nb_12_1, nb_12_2, nb_12_3, nb_12_4, nb_12_5, nb_12_7, nb_13_0, nb_13_1, nb_13_2, nb_13_3, nb_13_4, nb_13_5, nb_13_6, nb_13_7, nb_14_0, nb_14_1, nb_14_2, nb_14_3, nb_14_4, nb_14_5, nb_14_6, nb_15_0, nb_15_1, nb_15_2, nb_15_3, nb_15_4, nb_15_5, nb_15_6, nb_15_7, nb_16_0, nb_16_1, nb_16_2, nb_16_3, nb_16_4, nb_16_5, nb_16_6, nb_16_7, nb_17_0, nb_17_1, nb_17_2, nb_17_3, nb_17_4, nb_17_5, nb_17_6, nb_17_7, nb_18_0, nb_18_1, nb_18_2, nb_18_3, nb_18_4, nb_18_5, nb_18_6, nb_18_7, nb_19_0, nb_19_1, nb_19_2, nb_19_3, nb_19_4, nb_19_5, nb_19_6, nb_19_7, nb_20_0, nb_20_1, nb_20_2, nb_20_3, nb_20_4, nb_20_5, nb_20_6, nb_20_7, nb_21_0, nb_21_1, nb_21_2, nb_21_3, nb_21_4, nb_21_5, nb_21_6, nb_21_7, nb_22_0, nb_22_1, nb_22_2, nb_22_3, nb_22_4, nb_22_5, nb_22_6, nb_22_7, nb_23_0, nb_23_1, nb_23_2, nb_23_3, nb_23_4, nb_23_5, nb_23_6, nb_23_7, nb_24_0, nb_24_1, nb_24_2, nb_24_3, nb_24_4, nb_24_5, nb_24_6, nb_24_7, nb_25_0, nb_25_1, nb_25_2, nb_25_3, nb_25_4, nb_25_5, nb_25_6, nb_25_7, nb_26_0, nb_26_1, nb_26_2, nb_26_3, nb_26_4, nb_26_5, nb_26_6, nb_26_7]; first | done | exact rfl))
local macro_rules | `(tactic| wtm_at "ln") => `(tactic| first | (with_reducible exact lk_nil) | (simp only [lk_skip, lk_nil, nb_0_0, nb_0_1, nb_0_2, nb_0_3, nb_0_4, nb_0_5, nb_0_6, nb_0_7, nb_1_1, nb_1_2, nb_1_3, nb_1_4, nb_1_5, nb_1_6, nb_1_7, nb_2_0, nb_2_2, nb_2_3, nb_2_4, nb_2_5, nb_2_6, nb_2_7, nb_3_0, nb_3_1, nb_3_2, nb_3_3, nb_3_4, nb_3_5, nb_3_6, nb_3_7, nb_4_0, nb_4_1, nb_4_2, nb_4_3, nb_4_4, nb_4_5, nb_4_6, nb_4_7, nb_5_0, nb_5_1, nb_5_3, nb_5_4, nb_5_5, nb_5_6, nb_5_7, nb_6_0, nb_6_1, nb_6_2, nb_6_3, nb_6_4, nb_6_5, nb_6_6, nb_6_7, nb_7_0, nb_7_1, nb_7_2, nb_7_4, nb_7_5, nb_7_6, nb_7_7, nb_8_0, nb_8_1, nb_8_2, nb_8_3, nb_8_4, nb_8_5, nb_8_6, nb_8_7, nb_9_0, nb_9_1, nb_9_2, nb_9_3, nb_9_4, nb_9_5, nb_9_6, nb_9_7, nb_10_0, nb_10_1, nb_10_2, nb_10_3, nb_10_5, nb_10_6, nb_10_7, nb_11_0, nb_11_1, nb_11_2, nb_11_3, nb_11_4, nb_11_6, nb_11_7, nb_12_0, nb_12_1, nb_12_2, nb_12_3, nb_12_4, nb_12_5, nb_12_7, nb_13_0, nb_13_1, nb_13_2, nb_13_3, nb_13_4, nb_13_5, nb_13_6, nb_13_7, nb_14_0, nb_14_1, nb_14_2, nb_14_3, nb_14_4, nb_14_5, nb_14_6, nb_15_0, nb_15_1, nb_15_2, nb_15_3, nb_15_4, nb_15_5, nb_15_6, nb_15_7, nb_16_0, nb_16_1, nb_16_2, nb_16_3, nb_16_4, nb_16_5, nb_16_6, nb_16_7, nb_17_0, nb_17_1, nb_17_2, nb_17_3, nb_17_4, nb_17_5, nb_17_6, nb_17_7, nb_18_0, nb_18_1, nb_18_2, nb_18_3, nb_18_4, nb_18_5, nb_18_6, nb_18_7, nb_19_0, nb_19_1, nb_19_2, nb_19_3, nb_19_4, nb_19_5, nb_19_6, nb_19_7, nb_20_0, nb_20_1, nb_20_2, nb_20_3, nb_20_4, nb_20_5, nb_20_6, nb_20_7, nb_21_0, nb_21_1, nb_21_2, nb_21_3, nb_21_4, nb_21_5, nb_21_6, nb_21_7, nb_22_0, nb_22_1, nb_22_2, nb_22_3, nb_22_4, nb_22_5, nb_22_6, nb_22_7, nb_23_0, nb_23_1, nb_23_2, nb_23_3, nb_23_4, nb_23_5, nb_23_6, nb_23_7, nb_24_0, nb_24_1, nb_24_2, nb_24_3, nb_24_4, nb_24_5, nb_24_6, nb_24_7, nb_25_0, nb_25_1, nb_25_2, nb_25_3, nb_25_4, nb_25_5, nb_25_6, nb_25_7, nb_26_0, nb_26_1, nb_26_2, nb_26_3, nb_26_4, nb_26_5, nb_26_6, nb_26_7]; done))
local macro_rules | `(tactic| wtm_at "pu") => `(tactic| first | (with_reducible exact pf_nil) | (simp only [pf_nil, pf_here, pf_skip, nb_0_0, nb_0_1, nb_0_2, nb_0_3, nb_0_4, nb_0_5, nb_0_6, nb_0_7, nb_1_1, nb_1_2, nb_1_3, nb_1_4, nb_1_5, nb_1_6, nb_1_7, nb_2_0, nb_2_2, nb_2_3, nb_2_4, nb_2_5, nb_2_6, nb_2_7, nb_3_0, nb_3_1, nb_3_2, nb_3_3, nb_3_4, nb_3_5, nb_3_6, nb_3_7, nb_4_0, nb_4_1, nb_4_2, nb_4_3, nb_4_4, nb_4_5, nb_4_6, nb_4_7, nb_5_0, nb_5_1, nb_5_3, nb_5_4, nb_5_5, nb_5_6, nb_5_7, nb_6_0, nb_6_1, nb_6_2, nb_6_3, nb_6_4, nb_6_5, nb_6_6, nb_6_7, nb_7_0, nb_7_1, nb_7_2, nb_7_4, nb_7_5, nb_7_6, nb_7_7, nb_8_0, nb_8_1, nb_8_2, nb_8_3, nb_8_4, nb_8_5, nb_8_6, nb_8_7, nb_9_0, nb_9_1, nb_9_2, nb_9_3, nb_9_4, nb_9_5, nb_9_6, nb_9_7, nb_10_0, nb_10_1, nb_10_2, nb_10_3, nb_10_5, nb_10_6, nb_10_7, nb_11_0, nb_11_1, nb_11_2, nb_11_3, nb_11_4, nb_11_6, nb_11_7, nb_12_0, nb_12_1, nb_12_2, nb_12_3, nb_12_4, nb_12_5, nb_12_7, nb_13_0, nb_13_1, nb_13_2, nb_13_3, nb_13_4, nb_13_5, nb_13_6, nb_13_7, nb_14_0, nb_14_1, nb_14_2, nb_14_3, nb_14_4, nb_14_5, nb_14_6, nb_15_0, nb_15_1, nb_15_2, nb_15_3, nb_15_4, nb_15_5, nb_15_6, nb_15_7, nb_16_0, nb_16_1, nb_16_2, nb_16_3, nb_16_4, nb_16_5, nb_16_6, nb_16_7, nb_17_0, nb_17_1, nb_17_2, nb_17_3, nb_17_4, nb_17_5, nb_17_6, nb_17_7, nb_18_0, nb_18_1, nb_18_2, nb_18_3, nb_18_4, nb_18_5, nb_18_6, nb_18_7, nb_19_0, nb_19_1, nb_19_2, nb_19_3, nb_19_4, nb_19_5, nb_19_6, nb_19_7, nb_20_0, nb_20_1, nb_20_2, nb_20_3, nb_20_4, nb_20_5, nb_20_6, nb_20_7, nb_21_0, nb_21_1, nb_21_2, nb_21_3, nb_21_4, nb_21_5, nb_21_6, nb_21_7, nb_22_0, nb_22_1, nb_22_2, nb_22_3, nb_22_4, nb_22_5, nb_22_6, nb_22_7, nb_23_0, nb_23_1, nb_23_2, nb_23_3, nb_23_4, nb_23_5, nb_23_6, nb_23_7, nb_24_0, nb_24_1, nb_24_2, nb_24_3, nb_24_4, nb_24_5, nb_24_6, nb_24_7, nb_25_0, nb_25_1, nb_25_2, nb_25_3, nb_25_4, nb_25_5, nb_25_6, nb_25_7, nb_26_0, nb_26_1, nb_26_2, nb_26_3, nb_26_4, nb_26_5, nb_26_6, nb_26_7]; first | done | exact rfl))
local macro_rules | `(tactic| wtm_at "tk") => `(tactic| first | (with_reducible exact Take.here) | (exact Take.here) | ((with_reducible apply Take.there); wtm_at "tk"))
local macro_rules | `(tactic| wtm_at "pk") => `(tactic| first | exact Pick.nil | ((with_reducible refine' Pick.cons ?tk1 ?pk1); (case tk1 => wtm_at "tk"); (case pk1 => wtm_at "pk")) | ((with_reducible refine Pick.im (by wtm_at "mem") ?_); wtm_at "pk") | ((with_reducible refine Pick.ims (by wtm_at "mem") ?_); wtm_at "pk"))
section
variable {P : Program} {w : World} {K : PySem.W.Frag} {mg : Str → Option Value} {base : Heap}
/-- the positions before i from f on, within w, at which the same three values stand, the nearest first -/
def candI (hs : List Int) (i f w : Int) (k : Nat) : Bool := decide (f ≤ i - 1 - k ∧ (k : Int) + 1 ≤ w ∧ sl3 hs (i - 1 - k) = sl3 hs i)
def cand (hs : List Int) (i f w : Int) : List Int := if i + 3 ≤ hs.length then ((List.range i.toNat).filter (candI hs i f w)).map (fun k : Nat => i - 1 - (k : Int)) else []
theorem filter_pre {p q : Nat → Bool} {m : Nat} : ∀ {n : Nat}, m ≤ n → (∀ i, i < n → p i = (decide (i < m) && q i)) → (List.range n).filter p = (List.range m).filter q := by
  intro n
  induction n with
  | zero =>
    intro h _
    obtain rfl : m = 0 := by omega
    rfl
  | succ n ih =>
    intro h hp
    rw [List.range_succ, List.filter_append]
    by_cases e : m = n + 1
    · subst e
      rw [List.range_succ, List.filter_append]
      congr 1
      · refine List.filter_congr fun i hi => ?_
        have hi := List.mem_range.mp hi
        rw [hp i (by omega), decide_eq_true (by omega), Bool.true_and]
      · refine List.filter_congr fun i hi => ?_
        obtain rfl := List.mem_singleton.mp hi
        rw [hp i (by omega), decide_eq_true (by omega), Bool.true_and]
    · have hz : List.filter p [n] = [] := by
        rw [List.filter_cons_of_neg]
        · rfl
        · rw [hp n (by omega), decide_eq_false (by omega)]
          simp
      rw [hz, List.append_nil]
      exact ih (by omega) fun i hi => hp i (by omega)
theorem cand_prog {hs : List Int} {i f w low : Int} (hi : i + 3 ≤ hs.length) (h0 : 0 ≤ f) (hf : f ≤ i) (hw : 1 ≤ w) (hl : f ≤ low) (hl2 : i - w ≤ low) (hl3 : low = f ∨ low = i - w) :
    ((List.range (i - low).toNat).filter (fun k : Nat => decide (sl3 hs (low + (((i - low).toNat : Nat) : Int) - 1 + (k : Int) * (-1)) = sl3 hs i))).map (fun k : Nat => low + (((i - low).toNat : Nat) : Int) - 1 + (k : Int) * (-1)) = cand hs i f w := by
  unfold cand
  rw [if_pos hi]
  have ef : (fun k : Nat => low + (((i - low).toNat : Nat) : Int) - 1 + (k : Int) * (-1)) = fun k : Nat => i - 1 - (k : Int) := by
    funext k
    omega
  rw [ef]
  congr 1
  refine (filter_pre (by omega) fun k hk => ?_).symm
  unfold candI
  have e : low + (((i - low).toNat : Nat) : Int) - 1 + (k : Int) * (-1) = i - 1 - (k : Int) := by omega
  rw [e, ← Bool.decide_and]
  refine decide_eq_decide.mpr ⟨fun h => ⟨?_, h.2.2⟩, fun h => ⟨?_, ?_, h.2⟩⟩ <;> omega
theorem cand_law {hs : List Int} {i f w : Int} (hi : i + 3 ≤ hs.length) (h0 : 0 ≤ i) :
    ((((List.range i.toNat).filter (fun k : Nat => decide (f ≤ i - 1 + (k : Int) * (-1)) && decide (i - (i - 1 + (k : Int) * (-1)) ≤ w))).map (fun k : Nat => i - 1 + (k : Int) * (-1))).filter (fun p : Int => decide (sl3 hs p = sl3 hs i))).map (fun p : Int => p) = cand hs i f w := by
  unfold cand
  rw [if_pos hi, List.map_id', List.filter_map, List.filter_filter]
  have ef : (fun k : Nat => i - 1 + (k : Int) * (-1)) = fun k : Nat => i - 1 - (k : Int) := by
    funext k
    omega
  rw [ef]
  congr 1
  refine List.filter_congr fun k _ => ?_
  unfold candI
  show (decide (sl3 hs (i - 1 - (k : Int)) = sl3 hs i) && _) = _
  rw [← Bool.decide_and, ← Bool.decide_and]
  refine decide_eq_decide.mpr ⟨fun h => ⟨?_, ?_, h.1⟩, fun h => ⟨h.2.2, ?_, ?_⟩⟩ <;> omega
theorem cand_mem {hs : List Int} {i f w x : Int} (h : x ∈ cand hs i f w) : f ≤ x ∧ x < i ∧ 0 ≤ x ∧ i - x ≤ w := by
  unfold cand at h
  split at h
  · obtain ⟨k, hk, rfl⟩ := List.mem_map.mp h
    have h2 := List.mem_filter.mp hk
    have h3 := List.mem_range.mp h2.1
    have h4 : candI hs i f w k = true := h2.2
    unfold candI at h4
    have h5 := of_decide_eq_true h4
    omega
  · cases h
theorem cand_len {hs : List Int} {i f w : Int} : (cand hs i f w).length ≤ i.toNat := by
  unfold cand
  split
  · rw [List.length_map]
    have := List.length_filter_le (candI hs i f w) (List.range i.toNat)
    rw [List.length_range] at this
    exact this
  · exact Nat.zero_le _


end
end K52

namespace K52
open PySem PySem.Spec PyProof.Rows L2 Bel
local macro_rules | `(tactic| wtm_at "xs") => `(tactic| simp only [x_next, x_seq, x_brk, x_cont, x_drop, x_ret, x_retN, x_if, sel_t, sel_f, selE_t, selE_f, selT_t, selT_f, selC_t, selC_f, x_test, x_tB, x_op, x_un, x_var, x_c, x_cb, x_nil, x_cons, x_rI, x_rI0, x_rU, x_rEq, x_rNe, x_rIxL, x_rIxT, x_rSlL, x_rCat, x_rRep, x_rApp, x_bm, x_bm0, x_sl, x_nopart, x_part, x_tup, x_lst, x_call, x_callS, x_asg, x_gname, x_gtup, x_gnil, x_gcons, x_gsub, x_setL, x_aug, x_ipI, x_ipC, x_bits, x_getL, x_augS, x_and, x_or, x_not, x_k, x_andV, x_orV, x_notV, x_ife, x_chain, x_for, x_ilist, x_itup, x_ienum, x_irng1, x_irng2, x_irev, x_lc, x_yes, wipe_nil, wipe_cons, List.map_cons, List.map_nil, x_misc, x_misc2, x_rz, lookup_at, Bool.not_true, Bool.not_false, decide_true, decide_false, not_true, not_false_eq_true, and_assoc, exists_and_left, exists_eq_left', exists_eq_left, exists_eq', exists_eq_right', exists_eq_right, V.int.injEq, V.ref.injEq, V.bl.injEq, V.str.injEq, List.cons.injEq, and_true, true_and, and_self, Option.some.injEq, List.cons_append, List.nil_append, List.append_nil, List.getElem?_cons_zero, List.getElem?_cons_succ, List.set_cons_zero, List.set_cons_succ, reduceCtorEq, false_and, and_false, exists_false, exists_const, or_false, false_or, scal_ii, scal_bb, scal_ss, List.length_cons, List.length_nil, Int.reduceToNat, Int.reducePow])
local macro_rules | `(tactic| k_call_by "xs" $h:term) => `(tactic| simp only [$h:term, x_next, x_seq, x_brk, x_cont, x_drop, x_ret, x_retN, x_if, sel_t, sel_f, selE_t, selE_f, selT_t, selT_f, selC_t, selC_f, x_test, x_tB, x_op, x_un, x_var, x_c, x_cb, x_nil, x_cons, x_rI, x_rI0, x_rU, x_rEq, x_rNe, x_rIxL, x_rIxT, x_rSlL, x_rCat, x_rRep, x_rApp, x_bm, x_bm0, x_sl, x_nopart, x_part, x_tup, x_lst, x_call, x_callS, x_asg, x_gname, x_gtup, x_gnil, x_gcons, x_gsub, x_setL, x_aug, x_ipI, x_ipC, x_bits, x_getL, x_augS, x_and, x_or, x_not, x_k, x_andV, x_orV, x_notV, x_ife, x_chain, x_for, x_ilist, x_itup, x_ienum, x_irng1, x_irng2, x_irev, x_lc, x_yes, wipe_nil, wipe_cons, List.map_cons, List.map_nil, x_misc, x_misc2, x_rz, lookup_at, Bool.not_true, Bool.not_false, decide_true, decide_false, not_true, not_false_eq_true, and_assoc, exists_and_left, exists_eq_left', exists_eq_left, exists_eq', exists_eq_right', exists_eq_right, V.int.injEq, V.ref.injEq, V.bl.injEq, V.str.injEq, List.cons.injEq, and_true, true_and, and_self, Option.some.injEq, List.cons_append, List.nil_append, List.append_nil, List.getElem?_cons_zero, List.getElem?_cons_succ, List.set_cons_zero, List.set_cons_succ, reduceCtorEq, false_and, and_false, exists_false, exists_const, or_false, false_or, scal_ii, scal_bb, scal_ss, List.length_cons, List.length_nil, Int.reduceToNat, Int.reducePow])
local macro_rules | `(tactic| wtm_at "hp") => `(tactic| first | (with_reducible assumption) | exact upd_same | (refine upd_keep (by with_reducible assumption) ?_; wtm_at "hp") | (refine Same.get (by with_reducible assumption) ?_; wtm_at "hp") | (refine upd_other (by first | (with_reducible assumption) | exact Ne.symm (by with_reducible assumption)) ?_; wtm_at "hp"))
local macro_rules | `(tactic| wtm_at "sq") => `(tactic| first | (with_reducible assumption) | exact SqL.of (by wtm_at "hp") | exact SqT.of (by wtm_at "hp") | (refine Same.seq (same_upd (by with_reducible assumption)) ?_; wtm_at "sq") | (refine Same.seq (by with_reducible assumption) ?_; wtm_at "sq") | (refine Same.seqT (same_upd (by with_reducible assumption)) ?_; wtm_at "sq") | (refine Same.seqT (by with_reducible assumption) ?_; wtm_at "sq"))
local macro_rules | `(tactic| wtm_at "cl") => `(tactic| first | (with_reducible assumption) | omega | (exact cmul_r (by omega) (by omega)) | (exact cmul_l (by omega) (by omega)) | (exact cdiv_ok (by omega) (by omega)) | (exact cpow_ok (by decide)) | (exact ⟨by omega, by omega, by omega⟩) | decide | (exact ⟨by omega, by omega⟩) | (simp only [List.length_append, List.length_map, List.length_set, List.length_cons, List.length_nil, rngL_len, sizeLine_eq]; omega) | wtm_at "hp" | wtm_at "sq")
local macro_rules | `(tactic| wtm_at "pf") => `(tactic| first | (with_reducible assumption) | omega | (simp only [List.length_append, List.length_map, List.length_set, List.length_cons, List.length_nil, rngL_len]; omega) | (with_reducible rfl) | (with_reducible trivial) | (with_reducible decide))
local macro_rules | `(tactic| wtm_at "st") => `(tactic| first | ((with_reducible refine g_at ?_); refine at_call (by wtm_at "sq") (by omega) (by omega) (fun _ _ => ?_)) | ((with_reducible refine g_int ?_); refine int_call ?_) | ((with_reducible refine g_isi ?_); first | (with_reducible refine isi_ii ?_) | (with_reducible refine isi_ib ?_) | (refine isi_int rfl ?_) | (refine isi_lst rfl (by wtm_at "hp") ?_) | (refine isi_tup rfl (by wtm_at "hp") ?_)) | ((with_reducible refine g_ned ?_); refine ned_f (dq_lst (by wtm_at "sq")) (dq_lst (by wtm_at "sq")) ?_) | ((with_reducible refine g_eqd ?_); refine eqd_t (dq_lst (by wtm_at "sq")) (dq_lst (by wtm_at "sq")) ?_) | ((with_reducible refine g_tyv ?_); refine and_tyv (by wtm_at "sq") ?_) | ((with_reducible refine g_asq ?_); refine and_sq (by wtm_at "sq") ?_) | ((with_reducible refine g_lst ?_); refine ex_lst (by wtm_at "hp") ?_) | ((with_reducible refine g_or ?_); first | (refine ex_or (by wtm_at "sq") ?_) | (refine ex_ort (by wtm_at "sq") ?_)) | ((with_reducible refine g_sq ?_); refine ex_sq (by wtm_at "sq") ?_) | ((with_reducible refine g_sqt ?_); refine ex_sqt (by wtm_at "sq") ?_) | ((with_reducible refine gd_sel ?_); first | (refine sel_p (by wtm_at "pf") ?_) | (refine sel_n (by wtm_at "pf") ?_)) | ((with_reducible refine gn_sel ?_); first | (refine selN_p (by wtm_at "pf") ?_) | (refine selN_n (by wtm_at "pf") ?_)) | ((with_reducible refine gd_selT ?_); first | (refine selT_p (by wtm_at "pf") ?_) | (refine selT_n (by wtm_at "pf") ?_)) | ((with_reducible refine gn_selT ?_); first | (refine selTN_p (by wtm_at "pf") ?_) | (refine selTN_n (by wtm_at "pf") ?_)) | ((with_reducible refine gd_selE ?_); first | (refine selE_p (by wtm_at "pf") ?_) | (refine selE_n (by wtm_at "pf") ?_)) | ((with_reducible refine gn_selE ?_); first | (refine selEN_p (by wtm_at "pf") ?_) | (refine selEN_n (by wtm_at "pf") ?_)) | ((with_reducible refine g_xf ?_); refine xf_at rfl (by wtm_at "hp") ?_) | ((with_reducible refine g_atI ?_); refine ex_at (by first | exact rfl | exact atI_int (by omega) (by wtm_at "pf") | exact atI_end (by wtm_at "pf")) ?_) | ((with_reducible refine g_and ?_); refine And.intro (by wtm_at "cl") ?_) | ((with_reducible refine g_new ?_); intro _ _))
local macro_rules | `(tactic| wtm_at "go") => `(tactic| repeat (first | wtm_at "xs" | wtm_at "st"))
local macro_rules | `(tactic| wtm_at "xo") => `(tactic| simp only [x_next, x_seq, x_brk, x_cont, x_drop, x_ret, x_retN, x_if, sel_t, sel_f, selE_t, selE_f, selT_t, selT_f, selC_t, selC_f, x_test, x_tB, x_op, x_un, x_var, x_c, x_cb, x_nil, x_cons, x_rI, x_rI0, x_rU, x_rEq, x_rNe, x_rIxL, x_rIxT, n_rSlL, n_rCat, n_rRep, n_rApp, x_bm, x_bm0, x_sl, x_nopart, x_part, n_tup, n_lst, x_call, x_callS, x_asg, x_gname, x_gtup, x_gnil, x_gcons, x_gsub, n_setL, x_aug, x_ipI, x_ipC, x_bits, x_getL, x_augS, x_and, x_or, x_not, x_k, x_andV, x_orV, x_notV, x_ife, x_chain, x_for, x_ilist, x_itup, x_ienum, x_irng1, x_irng2, x_irev, x_lc, x_yes, wipe_nil, wipe_cons, List.map_cons, List.map_nil, x_misc, x_misc2, x_rz, lookup_at, Bool.not_true, Bool.not_false, decide_true, decide_false, not_true, not_false_eq_true, and_assoc, exists_and_left, exists_eq_left', exists_eq_left, exists_eq', exists_eq_right', exists_eq_right, V.int.injEq, V.ref.injEq, V.bl.injEq, V.str.injEq, List.cons.injEq, and_true, true_and, and_self, Option.some.injEq, List.cons_append, List.nil_append, List.append_nil, List.getElem?_cons_zero, List.getElem?_cons_succ, List.set_cons_zero, List.set_cons_succ, reduceCtorEq, false_and, and_false, exists_false, exists_const, or_false, false_or, scal_ii, scal_bb, scal_ss, List.length_cons, List.length_nil, Int.reduceToNat, Int.reducePow, n_fld, n_dnew, n_dput, n_din, n_dget, n_dget2, n_glst, n_sfld, n_aug, n_meth, n_mw, n_make, n_kw, n_rLs, n_dcp, n_ext, n_revL, n_rTp, t_im, ints_rev, t_s1, t_i1, t_i2, t_i3, t_i4, t_i5, x_chain3, x_irng3, x_irevR, x_rg1, x_rg2, ints_cat, ints_app1, ints_len, ints_take, ints_drop, rep_one])
local macro_rules | `(tactic| k_call_by "xo" $h:term) => `(tactic| simp only [$h:term, x_next, x_seq, x_brk, x_cont, x_drop, x_ret, x_retN, x_if, sel_t, sel_f, selE_t, selE_f, selT_t, selT_f, selC_t, selC_f, x_test, x_tB, x_op, x_un, x_var, x_c, x_cb, x_nil, x_cons, x_rI, x_rI0, x_rU, x_rEq, x_rNe, x_rIxL, x_rIxT, n_rSlL, n_rCat, n_rRep, n_rApp, x_bm, x_bm0, x_sl, x_nopart, x_part, n_tup, n_lst, x_call, x_callS, x_asg, x_gname, x_gtup, x_gnil, x_gcons, x_gsub, n_setL, x_aug, x_ipI, x_ipC, x_bits, x_getL, x_augS, x_and, x_or, x_not, x_k, x_andV, x_orV, x_notV, x_ife, x_chain, x_for, x_ilist, x_itup, x_ienum, x_irng1, x_irng2, x_irev, x_lc, x_yes, wipe_nil, wipe_cons, List.map_cons, List.map_nil, x_misc, x_misc2, x_rz, lookup_at, Bool.not_true, Bool.not_false, decide_true, decide_false, not_true, not_false_eq_true, and_assoc, exists_and_left, exists_eq_left', exists_eq_left, exists_eq', exists_eq_right', exists_eq_right, V.int.injEq, V.ref.injEq, V.bl.injEq, V.str.injEq, List.cons.injEq, and_true, true_and, and_self, Option.some.injEq, List.cons_append, List.nil_append, List.append_nil, List.getElem?_cons_zero, List.getElem?_cons_succ, List.set_cons_zero, List.set_cons_succ, reduceCtorEq, false_and, and_false, exists_false, exists_const, or_false, false_or, scal_ii, scal_bb, scal_ss, List.length_cons, List.length_nil, Int.reduceToNat, Int.reducePow, n_fld, n_dnew, n_dput, n_din, n_dget, n_dget2, n_glst, n_sfld, n_aug, n_meth, n_mw, n_make, n_kw, n_rLs, n_dcp, n_ext, n_revL, n_rTp, t_im, ints_rev, t_s1, t_i1, t_i2, t_i3, t_i4, t_i5, x_chain3, x_irng3, x_irevR, x_rg1, x_rg2, ints_cat, ints_app1, ints_len, ints_take, ints_drop, rep_one])
local macro_rules | `(tactic| wtm_at "mem") => `(tactic| first | (with_reducible exact mem_here) | (with_reducible refine mem_there ?_; wtm_at "mem"))
local macro_rules | `(tactic| wtm_at "pp") => `(tactic| first | (with_reducible exact Put.here) | (with_reducible apply Put.there; wtm_at "pp"))
local macro_rules | `(tactic| wtm_at "ho") => `(tactic| first | (with_reducible assumption) | exact Own.get (by with_reducible assumption) (by wtm_at "mem") | exact Own.base (by with_reducible assumption) (by with_reducible assumption))
local macro_rules | `(tactic| wtm_at "qo") => `(tactic| first | (with_reducible assumption) | exact SqL.of (by wtm_at "ho") | exact sqT_tupI (by wtm_at "ho") | exact sqT_tupS (by wtm_at "ho") | exact SqT.of (by wtm_at "ho") | exact Own.imT (by with_reducible assumption) (by wtm_at "mem") | exact Own.sq (by with_reducible assumption) (by with_reducible assumption) | exact Own.sqT (by with_reducible assumption) (by with_reducible assumption))
local macro_rules | `(tactic| wtm_at "sub") => `(tactic| first | exact List.nil_sublist _ | (with_reducible refine List.Sublist.cons_cons _ ?_; wtm_at "sub") | (refine List.Sublist.cons _ ?_; wtm_at "sub"))
local macro_rules | `(tactic| wtm_at "co") => `(tactic| first | (with_reducible assumption) | omega | (exact cmul_r (by omega) (by omega)) | (exact cmul_l (by omega) (by omega)) | (exact cdiv_ok (by omega) (by omega)) | (exact cpow_ok (by decide)) | (exact ⟨by omega, by omega, by omega⟩) | decide | (exact ⟨by omega, by omega⟩) | (simp only [List.length_append, List.length_map, List.length_set, List.length_cons, List.length_nil, rngL_len, sizeLine_eq]; omega) | wtm_at "ho" | wtm_at "qo")
local macro_rules | `(tactic| wtm_at "so") => `(tactic| first | ((with_reducible refine g_dcp ?_); refine dcpI (by wtm_at "ho") ?_) | ((with_reducible refine g_asl ?_); refine And.intro (by rfl) ?_) | ((with_reducible refine g_asqT ?_); refine and_sqT (by wtm_at "qo") ?_) | ((with_reducible refine g_extO ?_); first | (refine extI (by with_reducible assumption) (by wtm_at "pp") (by wtm_at "co") (fun _ _ => ?_)) | (refine extO (by with_reducible assumption) (by wtm_at "pp") (by wtm_at "co") (fun _ _ => ?_))) | ((with_reducible refine g_tp ?_); first | (refine tp_l (by wtm_at "qo") ?_) | (refine tp_t (by wtm_at "qo") ?_)) | ((with_reducible refine g_dputO ?_); refine dputI (by with_reducible assumption) (by wtm_at "pp") (by wtm_at "co") (fun _ _ => ?_)) | ((with_reducible refine g_dinO ?_); refine dinI (by wtm_at "ho") ?_) | ((with_reducible refine g_isDO ?_); refine isDO (by wtm_at "ho") ?_) | ((with_reducible refine g_dg2 ?_); refine dg2I (by wtm_at "ho") ?_) | ((with_reducible refine g_fldO ?_); refine fldO (by wtm_at "ho") (by with_reducible assumption) (by wtm_at "mem") (by wtm_at "lk") ?_) | ((with_reducible refine g_fldC ?_); refine fldC (by wtm_at "ho") (by with_reducible assumption) (by wtm_at "mem") (by wtm_at "lk") ?_) | ((with_reducible refine g_putC ?_); refine putC (by with_reducible assumption) (by wtm_at "pp") (by wtm_at "pu") (by wtm_at "co") (fun _ _ => ?_)) | ((with_reducible refine g_stoO ?_); refine stoO (by with_reducible assumption) (by wtm_at "pp") (by wtm_at "pu") (by with_reducible assumption) (by wtm_at "mem") (by wtm_at "co") (fun _ _ => ?_)) | ((with_reducible refine g_metO ?_); refine metO (by wtm_at "ho") (by wtm_at "ln") ?_) | ((with_reducible refine g_makO ?_); refine makO (by with_reducible assumption) (fun _ _ _ _ => ?_)) | ((with_reducible refine g_sum ?_); refine sum_call (by wtm_at "qo") ?_) | ((with_reducible refine g_cq ?_); exact cq (by with_reducible assumption) (by simp only [rngL_len, List.length_map, List.length_take]; omega)) | ((with_reducible refine g_newO ?_); refine newO (by with_reducible assumption) (fun _ _ _ => ?_)) | ((with_reducible refine g_appO ?_); refine appI (by with_reducible assumption) (by wtm_at "pp") (by wtm_at "co") (fun _ _ => ?_)) | ((with_reducible refine g_setO ?_); refine setI (by with_reducible assumption) (by wtm_at "pp") (by omega) (by wtm_at "co") (fun _ _ => ?_)) | ((with_reducible refine g_appO ?_); refine appO (by with_reducible assumption) (by wtm_at "pp") (by wtm_at "co") (fun _ _ => ?_)) | ((with_reducible refine g_setO ?_); refine setO (by with_reducible assumption) (by wtm_at "pp") (by omega) (by wtm_at "co") (fun _ _ => ?_)) | ((with_reducible refine g_at ?_); refine at_call (by wtm_at "qo") (by omega) (by omega) (fun _ _ => ?_)) | ((with_reducible refine g_int ?_); refine int_call ?_) | ((with_reducible refine g_isi ?_); first | (with_reducible refine isi_ii ?_) | (with_reducible refine isi_ib ?_) | (refine isi_int rfl ?_) | (refine isi_sqL rfl (by wtm_at "qo") ?_) | (refine isi_sqT rfl (by wtm_at "qo") ?_) | (refine isi_bl rfl ?_) | (refine isi_non rfl ?_) | (refine isi_str rfl ?_)) | ((with_reducible refine g_ned ?_); first | (refine ned_f (dq_lst (by wtm_at "qo")) (dq_lst (by wtm_at "qo")) ?_) | (refine ned_ints (by wtm_at "qo") (by wtm_at "qo") ?_) | (refine nedT_ints (by wtm_at "qo") (by wtm_at "qo") ?_)) | ((with_reducible refine g_eqd ?_); first | (refine eqd_t (dq_lst (by wtm_at "qo")) (dq_lst (by wtm_at "qo")) ?_) | (refine eqd_ints (by wtm_at "qo") (by wtm_at "qo") ?_) | (refine eqdT_ints (by wtm_at "qo") (by wtm_at "qo") ?_)) | ((with_reducible refine g_tyv ?_); refine and_tyv (by wtm_at "qo") ?_) | ((with_reducible refine g_asq ?_); refine and_sq (by wtm_at "qo") ?_) | ((with_reducible refine g_lst ?_); refine ex_lst (by wtm_at "ho") ?_) | ((with_reducible refine g_or ?_); first | (refine ex_or (by wtm_at "qo") ?_) | (refine ex_ort (by wtm_at "qo") ?_)) | ((with_reducible refine g_sq ?_); refine ex_sq (by wtm_at "qo") ?_) | ((with_reducible refine g_sqt ?_); refine ex_sqt (by wtm_at "qo") ?_) | ((with_reducible refine gd_sel ?_); first | (refine sel_p (by wtm_at "pf") ?_) | (refine sel_n (by wtm_at "pf") ?_)) | ((with_reducible refine gn_sel ?_); first | (refine selN_p (by wtm_at "pf") ?_) | (refine selN_n (by wtm_at "pf") ?_)) | ((with_reducible refine gd_selT ?_); first | (refine selT_p (by wtm_at "pf") ?_) | (refine selT_n (by wtm_at "pf") ?_)) | ((with_reducible refine gn_selT ?_); first | (refine selTN_p (by wtm_at "pf") ?_) | (refine selTN_n (by wtm_at "pf") ?_)) | ((with_reducible refine gd_selE ?_); first | (refine selE_p (by wtm_at "pf") ?_) | (refine selE_n (by wtm_at "pf") ?_)) | ((with_reducible refine gn_selE ?_); first | (refine selEN_p (by wtm_at "pf") ?_) | (refine selEN_n (by wtm_at "pf") ?_)) | ((with_reducible refine g_xf ?_); refine xf_at rfl (by wtm_at "ho") ?_) | ((with_reducible refine g_atI ?_); refine ex_at (by first | exact rfl | exact atI_int (by omega) (by wtm_at "pf") | exact atI_end (by wtm_at "pf")) ?_) | ((with_reducible refine g_and ?_); refine And.intro (by wtm_at "co") ?_))
local macro_rules | `(tactic| wtm_at "oo") => `(tactic| repeat (first | wtm_at "xo" | wtm_at "so"))
local macro_rules | `(tactic| wtm_at "cR") => `(tactic| (refine' compRi _ (by with_reducible assumption) (by omega) (fun _ _ _ _ _ => ?_) (fun _ _ _ => ?_); rotate_left; focus (wtm_at "oo")))

local macro_rules | `(tactic| wtm_at "lk") => `(tactic| first | (with_reducible exact lk_here) | (simp only [lk_here, lk_skip, lk_nil, nb_0_0, nb_0_1, nb_0_2, nb_0_3, nb_0_4, nb_0_5, nb_0_6, nb_0_7, nb_1_1, nb_1_2, nb_1_3, nb_1_4, nb_1_5, nb_1_6, nb_1_7, nb_2_0, nb_2_2, nb_2_3, nb_2_4, nb_2_5, nb_2_6, nb_2_7, nb_3_0, nb_3_1, nb_3_2, nb_3_3, nb_3_4, nb_3_5, nb_3_6, nb_3_7, nb_4_0, nb_4_1, nb_4_2, nb_4_3, nb_4_4, nb_4_5, nb_4_6, nb_4_7, nb_5_0, nb_5_1, nb_5_3, nb_5_4, nb_5_5, nb_5_6, nb_5_7, nb_6_0, nb_6_1, nb_6_2, nb_6_3, nb_6_4, nb_6_5, nb_6_6, nb_6_7, nb_7_0, nb_7_1, nb_7_2, nb_7_4, nb_7_5, nb_7_6, nb_7_7, nb_8_0, nb_8_1, nb_8_2, nb_8_3, nb_8_4, nb_8_5, nb_8_6, nb_8_7, nb_9_0, nb_9_1, nb_9_2, nb_9_3, nb_9_4, nb_9_5, nb_9_6, nb_9_7, nb_10_0, nb_10_1, nb_10_2, nb_10_3, nb_10_5, nb_10_6, nb_10_7, nb_11_0, nb_11_1, nb_11_2, nb_11_3, nb_11_4, nb_11_6, nb_11_7, nb_12_0, nb_12_1, nb_12_2, nb_12_3, nb_12_4, nb_12_5, nb_12_7, nb_13_0, nb_13_1, nb_13_2, nb_13_3, nb_13_4, nb_13_5, nb_13_6, nb_13_7, nb_14_0, nb_14_1, nb_14_2, nb_14_3, nb_14_4, nb_14_5, nb_14_6, nb_15_0, nb_15_1, nb_15_2, nb_15_3, nb_15_4, nb_15_5, nb_15_6, nb_15_7, nb_16_0, nb_16_1, nb_16_2, nb_16_3, nb_16_4, nb_16_5, nb_16_6, nb_16_7, nb_17_0, nb_17_1, nb_17_2, nb_17_3, nb_17_4, nb_17_5, nb_17_6, nb_17_7, nb_18_0, nb_18_1, nb_18_2, nb_18_3, nb_18_4, nb_18_5, nb_18_6, nb_18_7, nb_19_0, nb_19_1, nb_19_2, nb_19_3, nb_19_4, nb_19_5, nb_19_6, nb_19_7, nb_20_0, nb_20_1, nb_20_2, nb_20_3, nb_20_4, nb_20_5, nb_20_6, nb_20_7, nb_21_0, nb_21_1, nb_21_2, nb_21_3, nb_21_4, nb_21_5, nb_21_6, nb_21_7, nb_22_0, nb_22_1, nb_22_2, nb_22_3, nb_22_4, nb_22_5, nb_22_6, nb_22_7, nb_23_0, nb_23_1, nb_23_2, nb_23_3, nb_23_4, nb_23_5, nb_23_6, nb_23_7, nb_24_0, nb_24_1, nb_24_2, nb_24_3, nb_24_4, nb_24_5, nb_24_6, nb_24_7, nb_25_0, nb_25_1, nb_25_2, nb_25_3, nb_25_4, nb_25_5, nb_25_6, nb_25_7, nb_26_0, nb_26_1, nb_26_2, nb_26_3, nb_26_4, nb_26_5, nb_26_6, nb_26_7]; first | done | exact rfl))
local macro_rules | `(tactic| wtm_at "ln") => `(tactic| first | (with_reducible exact lk_nil) | (simp only [lk_skip, lk_nil, nb_0_0, nb_0_1, nb_0_2, nb_0_3, nb_0_4, nb_0_5, nb_0_6, nb_0_7, nb_1_1, nb_1_2, nb_1_3, nb_1_4, nb_1_5, nb_1_6, nb_1_7, nb_2_0, nb_2_2, nb_2_3, nb_2_4, nb_2_5, nb_2_6, nb_2_7, nb_3_0, nb_3_1, nb_3_2, nb_3_3, nb_3_4, nb_3_5, nb_3_6, nb_3_7, nb_4_0, nb_4_1, nb_4_2, nb_4_3, nb_4_4, nb_4_5, nb_4_6, nb_4_7, nb_5_0, nb_5_1, nb_5_3, nb_5_4, nb_5_5, nb_5_6, nb_5_7, nb_6_0, nb_6_1, nb_6_2, nb_6_3, nb_6_4, nb_6_5, nb_6_6, nb_6_7, nb_7_0, nb_7_1, nb_7_2, nb_7_4, nb_7_5, nb_7_6, nb_7_7, nb_8_0, nb_8_1, nb_8_2, nb_8_3, nb_8_4, nb_8_5, nb_8_6, nb_8_7, nb_9_0, nb_9_1, nb_9_2, nb_9_3, nb_9_4, nb_9_5, nb_9_6, nb_9_7, nb_10_0, nb_10_1, nb_10_2, nb_10_3, nb_10_5, nb_10_6, nb_10_7, nb_11_0, nb_11_1, nb_11_2, nb_11_3, nb_11_4, nb_11_6, nb_11_7, nb_12_0, nb_12_1, nb_12_2, nb_12_3, nb_12_4, nb_12_5, nb_12_7, nb_13_0, nb_13_1, nb_13_2, nb_13_3, nb_13_4, nb_13_5, nb_13_6, nb_13_7, nb_14_0, nb_14_1, nb_14_2, nb_14_3, nb_14_4, nb_14_5, nb_14_6, nb_15_0, nb_15_1, nb_15_2, nb_15_3, nb_15_4, nb_15_5, nb_15_6, nb_15_7, nb_16_0, nb_16_1, nb_16_2, nb_16_3, nb_16_4, nb_16_5, nb_16_6, nb_16_7, nb_17_0, nb_17_1, nb_17_2, nb_17_3, nb_17_4, nb_17_5, nb_17_6, nb_17_7, nb_18_0, nb_18_1, nb_18_2, nb_18_3, nb_18_4, nb_18_5, nb_18_6, nb_18_7, nb_19_0, nb_19_1, nb_19_2, nb_19_3, nb_19_4, nb_19_5, nb_19_6, nb_19_7, nb_20_0, nb_20_1, nb_20_2, nb_20_3, nb_20_4, nb_20_5, nb_20_6, nb_20_7, nb_21_0, nb_21_1, nb_21_2, nb_21_3, nb_21_4, nb_21_5, nb_21_6, nb_21_7, nb_22_0, nb_22_1, nb_22_2, nb_22_3, nb_22_4, nb_22_5, nb_22_6, nb_22_7, nb_23_0, nb_23_1, nb_23_2, nb_23_3, nb_23_4, nb_23_5, nb_23_6, nb_23_7, nb_24_0, nb_24_1, nb_24_2, nb_24_3, nb_24_4, nb_24_5, nb_24_6, nb_24_7, nb_25_0, nb_25_1, nb_25_2, nb_25_3, nb_25_4, nb_25_5, nb_25_6, nb_25_7, nb_26_0, nb_26_1, nb_26_2, nb_26_3, nb_26_4, nb_26_5, nb_26_6, nb_26_7]; done))
local macro_rules | `(tactic| wtm_at "pu") => `(tactic| first | (with_reducible exact pf_nil) | (simp only [pf_nil, pf_here, pf_skip, nb_0_0, nb_0_1, nb_0_2, nb_0_3, nb_0_4, nb_0_5, nb_0_6, nb_0_7, nb_1_1, nb_1_2, nb_1_3, nb_1_4, nb_1_5, nb_1_6, nb_1_7, nb_2_0, nb_2_2, nb_2_3, nb_2_4, nb_2_5, nb_2_6, nb_2_7, nb_3_0, nb_3_1, nb_3_2, nb_3_3, nb_3_4, nb_3_5, nb_3_6, nb_3_7, nb_4_0, nb_4_1, nb_4_2, nb_4_3, nb_4_4, nb_4_5, nb_4_6, nb_4_7, nb_5_0, nb_5_1, nb_5_3, nb_5_4, nb_5_5, nb_5_6, nb_5_7, nb_6_0, nb_6_1, nb_6_2, nb_6_3, nb_6_4, nb_6_5, nb_6_6, nb_6_7, nb_7_0, nb_7_1, nb_7_2, nb_7_4, nb_7_5, nb_7_6, nb_7_7, nb_8_0, nb_8_1, nb_8_2, nb_8_3, nb_8_4, nb_8_5, nb_8_6, nb_8_7, nb_9_0, nb_9_1, nb_9_2, nb_9_3, nb_9_4, nb_9_5, nb_9_6, nb_9_7, nb_10_0, nb_10_1, nb_10_2, nb_10_3, nb_10_5, nb_10_6, nb_10_7, nb_11_0, nb_11_1, nb_11_2, nb_11_3, nb_11_4, nb_11_6, nb_11_7, nb_12_0, nb_12_1, nb_12_2, nb_12_3, nb_12_4, nb_12_5, nb_12_7, nb_13_0, nb_13_1, nb_13_2, nb_13_3, nb_13_4, nb_13_5, nb_13_6, nb_13_7, nb_14_0, nb_14_1, nb_14_2, nb_14_3, nb_14_4, nb_14_5, nb_14_6, nb_15_0, nb_15_1, nb_15_2, nb_15_3, nb_15_4, nb_15_5, nb_15_6, nb_15_7, nb_16_0, nb_16_1, nb_16_2, nb_16_3, nb_16_4, nb_16_5, nb_16_6, nb_16_7, nb_17_0, nb_17_1, nb_17_2, nb_17_3, nb_17_4, nb_17_5, nb_17_6, nb_17_7, nb_18_0, nb_18_1, nb_18_2, nb_18_3, nb_18_4, nb_18_5, nb_18_6, nb_18_7, nb_19_0, nb_19_1, nb_19_2, nb_19_3, nb_19_4, nb_19_5, nb_19_6, nb_19_7, nb_20_0, nb_20_1, nb_20_2, nb_20_3, nb_20_4, nb_20_5, nb_20_6, nb_20_7, nb_21_0, nb_21_1, nb_21_2, nb_21_3, nb_21_4, nb_21_5, nb_21_6, nb_21_7, nb_22_0, nb_22_1, nb_22_2, nb_22_3, nb_22_4, nb_22_5, nb_22_6, nb_22_7, nb_23_0, nb_23_1, nb_23_2, nb_23_3, nb_23_4, nb_23_5, nb_23_6, nb_23_7, nb_24_0, nb_24_1, nb_24_2, nb_24_3, nb_24_4, nb_24_5, nb_24_6, nb_24_7, nb_25_0, nb_25_1, nb_25_2, nb_25_3, nb_25_4, nb_25_5, nb_25_6, nb_25_7, nb_26_0, nb_26_1, nb_26_2, nb_26_3, nb_26_4, nb_26_5, nb_26_6, nb_26_7]; first | done | exact rfl))
local macro_rules | `(tactic| wtm_at "tk") => `(tactic| first | (with_reducible exact Take.here) | (exact Take.here) | ((with_reducible apply Take.there); wtm_at "tk"))
local macro_rules | `(tactic| wtm_at "pk") => `(tactic| first | exact Pick.nil | ((with_reducible refine' Pick.cons ?tk1 ?pk1); (case tk1 => wtm_at "tk"); (case pk1 => wtm_at "pk")) | ((with_reducible refine Pick.im (by wtm_at "mem") ?_); wtm_at "pk") | ((with_reducible refine Pick.ims (by wtm_at "mem") ?_); wtm_at "pk"))
section
variable {P : Program} {w : World} {K : PySem.W.Frag} {mg : Str → Option Value} {base : Heap}
/-- equal values from both positions on: as the law counts them -/
def eqAt (hs : List Int) (a b k : Nat) : Prop := b + k < hs.length ∧ hs.getD (a + k) 0 = hs.getD (b + k) 0
instance {hs : List Int} {a b k : Nat} : Decidable (eqAt hs a b k) := inferInstanceAs (Decidable (_ ∧ _))
def cl (hs : List Int) (a b : Nat) : Nat → Nat
  | 0 => 0
  | m + 1 => if cl hs a b m = m ∧ eqAt hs a b m then m + 1 else cl hs a b m
theorem cl_le (hs : List Int) (a b : Nat) : ∀ m, cl hs a b m ≤ m
  | 0 => Nat.le_refl 0
  | m + 1 => by
    have := cl_le hs a b m
    unfold cl
    split <;> omega
theorem cl_stuck {hs : List Int} {a b k : Nat} (h : cl hs a b k = k) (n : ¬ eqAt hs a b k) : ∀ m, k ≤ m → cl hs a b m = k := by
  intro m hm
  induction m with
  | zero =>
    obtain rfl : k = 0 := by omega
    exact h
  | succ m ih =>
    by_cases e : k = m + 1
    · rw [← e]
      exact h
    · have ih := ih (by omega)
      unfold cl
      rw [ih]
      refine if_neg fun c => ?_
      rw [← c.1] at c
      exact n c.2
theorem cl_far {hs : List Int} {a b m : Nat} (h : hs.length ≤ b + m) : ∀ n, m ≤ n → cl hs a b n = cl hs a b m := by
  intro n hn
  induction n with
  | zero =>
    obtain rfl : m = 0 := by omega
    rfl
  | succ n ih =>
    by_cases e : m = n + 1
    · rw [e]
    · have ih := ih (by omega)
      rw [← ih]
      show (if cl hs a b n = n ∧ eqAt hs a b n then n + 1 else cl hs a b n) = cl hs a b n
      refine if_neg fun c => ?_
      have := c.2.1
      omega
theorem cl_min {hs : List Int} {a b : Nat} {m : Nat} (h : b ≤ hs.length) : cl hs a b (min m (hs.length - b)) = cl hs a b m := by
  by_cases e : m ≤ hs.length - b
  · rw [Nat.min_eq_left e]
  · rw [Nat.min_eq_right (by omega)]
    exact (cl_far (by omega) m (by omega)).symm
theorem cl_lt {hs : List Int} {a b k : Nat} : ∀ {m}, k < cl hs a b m → eqAt hs a b k
  | 0, h => absurd h (Nat.not_lt_zero _)
  | m + 1, h => by
    unfold cl at h
    split at h
    · rename_i c
      by_cases e : k = m
      · rw [e]
        exact c.2
      · exact cl_lt (m := m) (by omega)
    · exact cl_lt h
def sp_common_length (K : PySem.W.Frag) : Sp := fun vs H Q _ => ∃ (a : Addr) (hs : List Int) (i j m : Int), vs = [.ref a, .int i, .int j, .int m] ∧ SqL K H a (hs.map V.int) ∧ hs.length ≤ 100000 ∧ 0 ≤ i ∧ i ≤ j ∧ j ≤ hs.length ∧ 0 ≤ m ∧
  Q (.int (cl hs i.toNat j.toNat m.toNat : Nat)) H
theorem ok_common_length (T : Tx K mg) : Cl P w K mg base 1 "common_length" ["history", "first", "second", "most"] (sp_common_length K) [] := by
  obtain ⟨gm, fd, F⟩ := T.d_common_length
  refine ⟨_, fd, [], F.ok sc_common_length (fun vs H Q E h => ?_) (fun cdv A outer s H vs Q E hr h => ⟨_, (PSs.nox (pss_cons (ps_set (i := 3) sc_common_length.nd rfl (Or.inl rfl) (by exact (pe_callB (call_min2 rfl) rfl T.b_min (by decide +kernel) (pa_cons (pv 3) (pa_cons (pe_op op_sub (pe_callB (lenK K) rfl T.b_len (by decide +kernel) (pa_cons (pv 0) pa_nil)) (pv 2)) pa_nil)))))
 (pss_cons (ps_set (i := 4) sc_common_length.nd rfl (Or.inl rfl) (by exact pe_int))
 (pss_cons (ps_while PassesOwn.never (PW.pt (pw_and (pt_cmpR op_lt (pv 4) (pv 3) (nomark _)) (pw_and1 (pt_cmpR op_eq (pe_ix (ixl K) (pv 0) (pe_op op_add (pv 1) (pv 4)) (fun _ _ => rfl)) (pe_ix (ixl K) (pv 0) (pe_op op_add (pv 2) (pv 4)) (fun _ _ => rfl)) (nomark _)))))
 (pss_one (ps_aug (i := 4) sc_common_length.nd rfl (Or.inl rfl) (by exact pe_int) ip_add)))
 (pss_one (ps_ret (by exact (pv 4)))))))), ?_⟩), gm, F.kp, F.bindsN (fun _ _ _ _ _ _ us hl => match us, hl with | [_, _, _, _], _ => rfl), .nil⟩
  · first | (obtain ⟨rfl, _⟩ := h; rfl) | (obtain ⟨_, rfl, _⟩ := h; rfl) | (obtain ⟨_, _, rfl, _⟩ := h; rfl) | (obtain ⟨_, _, _, rfl, _⟩ := h; rfl) | (obtain ⟨_, _, _, _, rfl, _⟩ := h; rfl) | (obtain ⟨_, _, _, _, _, rfl, _⟩ := h; rfl) | (obtain ⟨_, _, _, _, _, _, rfl, _⟩ := h; rfl) | (obtain ⟨_, _, _, _, _, _, _, rfl, _⟩ := h; rfl) | (obtain ⟨_, _, _, _, _, _, _, _, rfl, _⟩ := h; rfl) | (obtain ⟨_, _, _, _, _, _, _, _, _, rfl, _⟩ := h; rfl) | (obtain ⟨_, _, _, _, _, _, _, _, _, _, rfl, _⟩ := h; rfl) | (obtain ⟨_, _, _, _, _, _, _, _, _, _, _, rfl, _⟩ := h; rfl) | (obtain ⟨_, _, _, _, _, _, _, _, _, _, _, _, rfl, _⟩ := h; rfl) | (obtain ⟨_, _, _, _, _, _, _, _, _, _, _, _, _, rfl, _⟩ := h; rfl) | (obtain ⟨_, _, _, _, _, _, _, _, _, _, _, _, _, _, rfl, _⟩ := h; rfl) | (obtain ⟨_, _, _, _, _, _, _, _, _, _, _, _, _, _, _, rfl, _⟩ := h; rfl) | (obtain ⟨_, _, _, _, _, _, _, _, _, _, _, _, _, _, _, _, rfl, _⟩ := h; rfl) | (obtain ⟨_, _, _, _, _, _, _, _, _, _, _, _, _, _, _, _, _, rfl, _⟩ := h; rfl) | (obtain ⟨_, _, _, _, _, _, _, _, _, _, _, _, _, _, _, _, _, _, rfl, _⟩ := h; rfl) | (obtain ⟨_, _, _, _, _, _, _, _, _, _, _, _, _, _, _, _, _, _, _, rfl, _⟩ := h; rfl) | (obtain ⟨_, _, _, _, _, _, _, _, _, _, _, _, _, _, _, _, _, _, _, _, rfl, _⟩ := h; rfl) | (obtain ⟨_, _, _, _, _, _, _, _, _, _, _, _, _, _, _, _, _, _, _, _, _, rfl, _⟩ := h; rfl)
  · obtain ⟨a, hs, i, j, m, rfl, hS, hl, hi, hij, hj, hm, q⟩ := h
    k_call_by "xo" st_common_length
    wtm_at "oo"
    have em : (if (hs.length : Int) - j < m then (hs.length : Int) - j else m) = ((min m.toNat (hs.length - j.toNat) : Nat) : Int) := by
      split <;> omega
    rw [em]
    have fin : ∀ k, cl hs i.toNat j.toNat k = k → k ≤ min m.toNat (hs.length - j.toNat) → (k < min m.toNat (hs.length - j.toNat) → ¬ eqAt hs i.toNat j.toNat k) → cl hs i.toNat j.toNat m.toNat = k := by
      intro k e h1 h2
      rw [← cl_min (by omega)]
      by_cases c : k = min m.toNat (hs.length - j.toNat)
      · rw [← c]
        exact e
      · exact cl_stuck e (h2 (by omega)) _ h1
    have hM : min m.toNat (hs.length - j.toNat) ≤ hs.length - j.toNat := Nat.min_le_right _ _
    generalize min m.toNat (hs.length - j.toNat) = M at *
    refine loop_while (fun σ H' => ∃ k : Nat, σ = [some (.ref a), some (.int i), some (.int j), some (.int (M : Nat)), some (.int (k : Nat))] ∧ H' = H ∧ k ≤ M ∧ cl hs i.toNat j.toNat k = k) (fun σ _ => match σ with
      | [_, _, _, _, some (.int k)] => M - k.toNat
      | _ => 0) ⟨0, rfl, rfl, by omega, rfl⟩ ?_
    rintro σ H' ⟨k, rfl, rfl, hk, e⟩
    wtm_at "oo"
    refine selT_d (fun c => ?_) (fun c => ?_)
    · wtm_at "oo"
      refine wh_d (fun c2 => ?_) (fun c2 => ?_)
      · wtm_at "oo"
        refine ⟨⟨k + 1, by omega, by omega, ?_⟩, by omega⟩
        show (if cl hs i.toNat j.toNat k = k ∧ eqAt hs i.toNat j.toNat k then k + 1 else cl hs i.toNat j.toNat k) = k + 1
        refine if_pos ⟨e, by omega, ?_⟩
        rw [show (i + (k : Int)).toNat = i.toNat + k by omega, show (j + (k : Int)).toNat = j.toNat + k by omega] at c2
        exact c2
      · wtm_at "oo"
        rw [← fin k e hk fun _ z => c2 (by
          rw [show (i + (k : Int)).toNat = i.toNat + k by omega, show (j + (k : Int)).toNat = j.toNat + k by omega]
          exact z.2)]
        exact q
    · wtm_at "oo"
      refine wh (fun z => by cases z) (fun _ => ?_)
      wtm_at "oo"
      rw [← fin k e hk fun z => absurd (by omega) c]
      exact q


end
end K52

namespace K52
open PySem PySem.Spec PyProof.Rows L2 Bel
local macro_rules | `(tactic| wtm_at "xs") => `(tactic| simp only [x_next, x_seq, x_brk, x_cont, x_drop, x_ret, x_retN, x_if, sel_t, sel_f, selE_t, selE_f, selT_t, selT_f, selC_t, selC_f, x_test, x_tB, x_op, x_un, x_var, x_c, x_cb, x_nil, x_cons, x_rI, x_rI0, x_rU, x_rEq, x_rNe, x_rIxL, x_rIxT, x_rSlL, x_rCat, x_rRep, x_rApp, x_bm, x_bm0, x_sl, x_nopart, x_part, x_tup, x_lst, x_call, x_callS, x_asg, x_gname, x_gtup, x_gnil, x_gcons, x_gsub, x_setL, x_aug, x_ipI, x_ipC, x_bits, x_getL, x_augS, x_and, x_or, x_not, x_k, x_andV, x_orV, x_notV, x_ife, x_chain, x_for, x_ilist, x_itup, x_ienum, x_irng1, x_irng2, x_irev, x_lc, x_yes, wipe_nil, wipe_cons, List.map_cons, List.map_nil, x_misc, x_misc2, x_rz, lookup_at, Bool.not_true, Bool.not_false, decide_true, decide_false, not_true, not_false_eq_true, and_assoc, exists_and_left, exists_eq_left', exists_eq_left, exists_eq', exists_eq_right', exists_eq_right, V.int.injEq, V.ref.injEq, V.bl.injEq, V.str.injEq, List.cons.injEq, and_true, true_and, and_self, Option.some.injEq, List.cons_append, List.nil_append, List.append_nil, List.getElem?_cons_zero, List.getElem?_cons_succ, List.set_cons_zero, List.set_cons_succ, reduceCtorEq, false_and, and_false, exists_false, exists_const, or_false, false_or, scal_ii, scal_bb, scal_ss, List.length_cons, List.length_nil, Int.reduceToNat, Int.reducePow])
local macro_rules | `(tactic| k_call_by "xs" $h:term) => `(tactic| simp only [$h:term, x_next, x_seq, x_brk, x_cont, x_drop, x_ret, x_retN, x_if, sel_t, sel_f, selE_t, selE_f, selT_t, selT_f, selC_t, selC_f, x_test, x_tB, x_op, x_un, x_var, x_c, x_cb, x_nil, x_cons, x_rI, x_rI0, x_rU, x_rEq, x_rNe, x_rIxL, x_rIxT, x_rSlL, x_rCat, x_rRep, x_rApp, x_bm, x_bm0, x_sl, x_nopart, x_part, x_tup, x_lst, x_call, x_callS, x_asg, x_gname, x_gtup, x_gnil, x_gcons, x_gsub, x_setL, x_aug, x_ipI, x_ipC, x_bits, x_getL, x_augS, x_and, x_or, x_not, x_k, x_andV, x_orV, x_notV, x_ife, x_chain, x_for, x_ilist, x_itup, x_ienum, x_irng1, x_irng2, x_irev, x_lc, x_yes, wipe_nil, wipe_cons, List.map_cons, List.map_nil, x_misc, x_misc2, x_rz, lookup_at, Bool.not_true, Bool.not_false, decide_true, decide_false, not_true, not_false_eq_true, and_assoc, exists_and_left, exists_eq_left', exists_eq_left, exists_eq', exists_eq_right', exists_eq_right, V.int.injEq, V.ref.injEq, V.bl.injEq, V.str.injEq, List.cons.injEq, and_true, true_and, and_self, Option.some.injEq, List.cons_append, List.nil_append, List.append_nil, List.getElem?_cons_zero, List.getElem?_cons_succ, List.set_cons_zero, List.set_cons_succ, reduceCtorEq, false_and, and_false, exists_false, exists_const, or_false, false_or, scal_ii, scal_bb, scal_ss, List.length_cons, List.length_nil, Int.reduceToNat, Int.reducePow])
local macro_rules | `(tactic| wtm_at "hp") => `(tactic| first | (with_reducible assumption) | exact upd_same | (refine upd_keep (by with_reducible assumption) ?_; wtm_at "hp") | (refine Same.get (by with_reducible assumption) ?_; wtm_at "hp") | (refine upd_other (by first | (with_reducible assumption) | exact Ne.symm (by with_reducible assumption)) ?_; wtm_at "hp"))
local macro_rules | `(tactic| wtm_at "sq") => `(tactic| first | (with_reducible assumption) | exact SqL.of (by wtm_at "hp") | exact SqT.of (by wtm_at "hp") | (refine Same.seq (same_upd (by with_reducible assumption)) ?_; wtm_at "sq") | (refine Same.seq (by with_reducible assumption) ?_; wtm_at "sq") | (refine Same.seqT (same_upd (by with_reducible assumption)) ?_; wtm_at "sq") | (refine Same.seqT (by with_reducible assumption) ?_; wtm_at "sq"))
local macro_rules | `(tactic| wtm_at "cl") => `(tactic| first | (with_reducible assumption) | omega | (exact cmul_r (by omega) (by omega)) | (exact cmul_l (by omega) (by omega)) | (exact cdiv_ok (by omega) (by omega)) | (exact cpow_ok (by decide)) | (exact ⟨by omega, by omega, by omega⟩) | decide | (exact ⟨by omega, by omega⟩) | (simp only [List.length_append, List.length_map, List.length_set, List.length_cons, List.length_nil, rngL_len, sizeLine_eq]; omega) | wtm_at "hp" | wtm_at "sq")
local macro_rules | `(tactic| wtm_at "pf") => `(tactic| first | (with_reducible assumption) | omega | (simp only [List.length_append, List.length_map, List.length_set, List.length_cons, List.length_nil, rngL_len]; omega) | (with_reducible rfl) | (with_reducible trivial) | (with_reducible decide))
local macro_rules | `(tactic| wtm_at "st") => `(tactic| first | ((with_reducible refine g_at ?_); refine at_call (by wtm_at "sq") (by omega) (by omega) (fun _ _ => ?_)) | ((with_reducible refine g_int ?_); refine int_call ?_) | ((with_reducible refine g_isi ?_); first | (with_reducible refine isi_ii ?_) | (with_reducible refine isi_ib ?_) | (refine isi_int rfl ?_) | (refine isi_lst rfl (by wtm_at "hp") ?_) | (refine isi_tup rfl (by wtm_at "hp") ?_)) | ((with_reducible refine g_ned ?_); refine ned_f (dq_lst (by wtm_at "sq")) (dq_lst (by wtm_at "sq")) ?_) | ((with_reducible refine g_eqd ?_); refine eqd_t (dq_lst (by wtm_at "sq")) (dq_lst (by wtm_at "sq")) ?_) | ((with_reducible refine g_tyv ?_); refine and_tyv (by wtm_at "sq") ?_) | ((with_reducible refine g_asq ?_); refine and_sq (by wtm_at "sq") ?_) | ((with_reducible refine g_lst ?_); refine ex_lst (by wtm_at "hp") ?_) | ((with_reducible refine g_or ?_); first | (refine ex_or (by wtm_at "sq") ?_) | (refine ex_ort (by wtm_at "sq") ?_)) | ((with_reducible refine g_sq ?_); refine ex_sq (by wtm_at "sq") ?_) | ((with_reducible refine g_sqt ?_); refine ex_sqt (by wtm_at "sq") ?_) | ((with_reducible refine gd_sel ?_); first | (refine sel_p (by wtm_at "pf") ?_) | (refine sel_n (by wtm_at "pf") ?_)) | ((with_reducible refine gn_sel ?_); first | (refine selN_p (by wtm_at "pf") ?_) | (refine selN_n (by wtm_at "pf") ?_)) | ((with_reducible refine gd_selT ?_); first | (refine selT_p (by wtm_at "pf") ?_) | (refine selT_n (by wtm_at "pf") ?_)) | ((with_reducible refine gn_selT ?_); first | (refine selTN_p (by wtm_at "pf") ?_) | (refine selTN_n (by wtm_at "pf") ?_)) | ((with_reducible refine gd_selE ?_); first | (refine selE_p (by wtm_at "pf") ?_) | (refine selE_n (by wtm_at "pf") ?_)) | ((with_reducible refine gn_selE ?_); first | (refine selEN_p (by wtm_at "pf") ?_) | (refine selEN_n (by wtm_at "pf") ?_)) | ((with_reducible refine g_xf ?_); refine xf_at rfl (by wtm_at "hp") ?_) | ((with_reducible refine g_atI ?_); refine ex_at (by first | exact rfl | exact atI_int (by omega) (by wtm_at "pf") | exact atI_end (by wtm_at "pf")) ?_) | ((with_reducible refine g_and ?_); refine And.intro (by wtm_at "cl") ?_) | ((with_reducible refine g_new ?_); intro _ _))
local macro_rules | `(tactic| wtm_at "go") => `(tactic| repeat (first | wtm_at "xs" | wtm_at "st"))
local macro_rules | `(tactic| wtm_at "xo") => `(tactic| simp only [x_next, x_seq, x_brk, x_cont, x_drop, x_ret, x_retN, x_if, sel_t, sel_f, selE_t, selE_f, selT_t, selT_f, selC_t, selC_f, x_test, x_tB, x_op, x_un, x_var, x_c, x_cb, x_nil, x_cons, x_rI, x_rI0, x_rU, x_rEq, x_rNe, x_rIxL, x_rIxT, n_rSlL, n_rCat, n_rRep, n_rApp, x_bm, x_bm0, x_sl, x_nopart, x_part, n_tup, n_lst, x_call, x_callS, x_asg, x_gname, x_gtup, x_gnil, x_gcons, x_gsub, n_setL, x_aug, x_ipI, x_ipC, x_bits, x_getL, x_augS, x_and, x_or, x_not, x_k, x_andV, x_orV, x_notV, x_ife, x_chain, x_for, x_ilist, x_itup, x_ienum, x_irng1, x_irng2, x_irev, x_lc, x_yes, wipe_nil, wipe_cons, List.map_cons, List.map_nil, x_misc, x_misc2, x_rz, lookup_at, Bool.not_true, Bool.not_false, decide_true, decide_false, not_true, not_false_eq_true, and_assoc, exists_and_left, exists_eq_left', exists_eq_left, exists_eq', exists_eq_right', exists_eq_right, V.int.injEq, V.ref.injEq, V.bl.injEq, V.str.injEq, List.cons.injEq, and_true, true_and, and_self, Option.some.injEq, List.cons_append, List.nil_append, List.append_nil, List.getElem?_cons_zero, List.getElem?_cons_succ, List.set_cons_zero, List.set_cons_succ, reduceCtorEq, false_and, and_false, exists_false, exists_const, or_false, false_or, scal_ii, scal_bb, scal_ss, List.length_cons, List.length_nil, Int.reduceToNat, Int.reducePow, n_fld, n_dnew, n_dput, n_din, n_dget, n_dget2, n_glst, n_sfld, n_aug, n_meth, n_mw, n_make, n_kw, n_rLs, n_dcp, n_ext, n_revL, n_rTp, t_im, ints_rev, t_s1, t_i1, t_i2, t_i3, t_i4, t_i5, x_chain3, x_irng3, x_irevR, x_rg1, x_rg2, ints_cat, ints_app1, ints_len, ints_take, ints_drop, rep_one])
local macro_rules | `(tactic| k_call_by "xo" $h:term) => `(tactic| simp only [$h:term, x_next, x_seq, x_brk, x_cont, x_drop, x_ret, x_retN, x_if, sel_t, sel_f, selE_t, selE_f, selT_t, selT_f, selC_t, selC_f, x_test, x_tB, x_op, x_un, x_var, x_c, x_cb, x_nil, x_cons, x_rI, x_rI0, x_rU, x_rEq, x_rNe, x_rIxL, x_rIxT, n_rSlL, n_rCat, n_rRep, n_rApp, x_bm, x_bm0, x_sl, x_nopart, x_part, n_tup, n_lst, x_call, x_callS, x_asg, x_gname, x_gtup, x_gnil, x_gcons, x_gsub, n_setL, x_aug, x_ipI, x_ipC, x_bits, x_getL, x_augS, x_and, x_or, x_not, x_k, x_andV, x_orV, x_notV, x_ife, x_chain, x_for, x_ilist, x_itup, x_ienum, x_irng1, x_irng2, x_irev, x_lc, x_yes, wipe_nil, wipe_cons, List.map_cons, List.map_nil, x_misc, x_misc2, x_rz, lookup_at, Bool.not_true, Bool.not_false, decide_true, decide_false, not_true, not_false_eq_true, and_assoc, exists_and_left, exists_eq_left', exists_eq_left, exists_eq', exists_eq_right', exists_eq_right, V.int.injEq, V.ref.injEq, V.bl.injEq, V.str.injEq, List.cons.injEq, and_true, true_and, and_self, Option.some.injEq, List.cons_append, List.nil_append, List.append_nil, List.getElem?_cons_zero, List.getElem?_cons_succ, List.set_cons_zero, List.set_cons_succ, reduceCtorEq, false_and, and_false, exists_false, exists_const, or_false, false_or, scal_ii, scal_bb, scal_ss, List.length_cons, List.length_nil, Int.reduceToNat, Int.reducePow, n_fld, n_dnew, n_dput, n_din, n_dget, n_dget2, n_glst, n_sfld, n_aug, n_meth, n_mw, n_make, n_kw, n_rLs, n_dcp, n_ext, n_revL, n_rTp, t_im, ints_rev, t_s1, t_i1, t_i2, t_i3, t_i4, t_i5, x_chain3, x_irng3, x_irevR, x_rg1, x_rg2, ints_cat, ints_app1, ints_len, ints_take, ints_drop, rep_one])
local macro_rules | `(tactic| wtm_at "mem") => `(tactic| first | (with_reducible exact mem_here) | (with_reducible refine mem_there ?_; wtm_at "mem"))
local macro_rules | `(tactic| wtm_at "pp") => `(tactic| first | (with_reducible exact Put.here) | (with_reducible apply Put.there; wtm_at "pp"))
local macro_rules | `(tactic| wtm_at "ho") => `(tactic| first | (with_reducible assumption) | exact Own.get (by with_reducible assumption) (by wtm_at "mem") | exact Own.base (by with_reducible assumption) (by with_reducible assumption))
local macro_rules | `(tactic| wtm_at "qo") => `(tactic| first | (with_reducible assumption) | exact SqL.of (by wtm_at "ho") | exact sqT_tupI (by wtm_at "ho") | exact sqT_tupS (by wtm_at "ho") | exact SqT.of (by wtm_at "ho") | exact Own.imT (by with_reducible assumption) (by wtm_at "mem") | exact Own.sq (by with_reducible assumption) (by with_reducible assumption) | exact Own.sqT (by with_reducible assumption) (by with_reducible assumption))
local macro_rules | `(tactic| wtm_at "sub") => `(tactic| first | exact List.nil_sublist _ | (with_reducible refine List.Sublist.cons_cons _ ?_; wtm_at "sub") | (refine List.Sublist.cons _ ?_; wtm_at "sub"))
local macro_rules | `(tactic| wtm_at "co") => `(tactic| first | (with_reducible assumption) | omega | (exact cmul_r (by omega) (by omega)) | (exact cmul_l (by omega) (by omega)) | (exact cdiv_ok (by omega) (by omega)) | (exact cpow_ok (by decide)) | (exact ⟨by omega, by omega, by omega⟩) | decide | (exact ⟨by omega, by omega⟩) | (simp only [List.length_append, List.length_map, List.length_set, List.length_cons, List.length_nil, rngL_len, sizeLine_eq]; omega) | wtm_at "ho" | wtm_at "qo")
local macro_rules | `(tactic| wtm_at "so") => `(tactic| first | ((with_reducible refine g_dcp ?_); refine dcpI (by wtm_at "ho") ?_) | ((with_reducible refine g_asl ?_); refine And.intro (by rfl) ?_) | ((with_reducible refine g_asqT ?_); refine and_sqT (by wtm_at "qo") ?_) | ((with_reducible refine g_extO ?_); first | (refine extI (by with_reducible assumption) (by wtm_at "pp") (by wtm_at "co") (fun _ _ => ?_)) | (refine extO (by with_reducible assumption) (by wtm_at "pp") (by wtm_at "co") (fun _ _ => ?_))) | ((with_reducible refine g_tp ?_); first | (refine tp_l (by wtm_at "qo") ?_) | (refine tp_t (by wtm_at "qo") ?_)) | ((with_reducible refine g_dputO ?_); refine dputI (by with_reducible assumption) (by wtm_at "pp") (by wtm_at "co") (fun _ _ => ?_)) | ((with_reducible refine g_dinO ?_); refine dinI (by wtm_at "ho") ?_) | ((with_reducible refine g_isDO ?_); refine isDO (by wtm_at "ho") ?_) | ((with_reducible refine g_dg2 ?_); refine dg2I (by wtm_at "ho") ?_) | ((with_reducible refine g_fldO ?_); refine fldO (by wtm_at "ho") (by with_reducible assumption) (by wtm_at "mem") (by wtm_at "lk") ?_) | ((with_reducible refine g_fldC ?_); refine fldC (by wtm_at "ho") (by with_reducible assumption) (by wtm_at "mem") (by wtm_at "lk") ?_) | ((with_reducible refine g_putC ?_); refine putC (by with_reducible assumption) (by wtm_at "pp") (by wtm_at "pu") (by wtm_at "co") (fun _ _ => ?_)) | ((with_reducible refine g_stoO ?_); refine stoO (by with_reducible assumption) (by wtm_at "pp") (by wtm_at "pu") (by with_reducible assumption) (by wtm_at "mem") (by wtm_at "co") (fun _ _ => ?_)) | ((with_reducible refine g_metO ?_); refine metO (by wtm_at "ho") (by wtm_at "ln") ?_) | ((with_reducible refine g_makO ?_); refine makO (by with_reducible assumption) (fun _ _ _ _ => ?_)) | ((with_reducible refine g_sum ?_); refine sum_call (by wtm_at "qo") ?_) | ((with_reducible refine g_cq ?_); exact cq (by with_reducible assumption) (by simp only [rngL_len, List.length_map, List.length_take]; omega)) | ((with_reducible refine g_newO ?_); refine newO (by with_reducible assumption) (fun _ _ _ => ?_)) | ((with_reducible refine g_appO ?_); refine appI (by with_reducible assumption) (by wtm_at "pp") (by wtm_at "co") (fun _ _ => ?_)) | ((with_reducible refine g_setO ?_); refine setI (by with_reducible assumption) (by wtm_at "pp") (by omega) (by wtm_at "co") (fun _ _ => ?_)) | ((with_reducible refine g_appO ?_); refine appO (by with_reducible assumption) (by wtm_at "pp") (by wtm_at "co") (fun _ _ => ?_)) | ((with_reducible refine g_setO ?_); refine setO (by with_reducible assumption) (by wtm_at "pp") (by omega) (by wtm_at "co") (fun _ _ => ?_)) | ((with_reducible refine g_at ?_); refine at_call (by wtm_at "qo") (by omega) (by omega) (fun _ _ => ?_)) | ((with_reducible refine g_int ?_); refine int_call ?_) | ((with_reducible refine g_isi ?_); first | (with_reducible refine isi_ii ?_) | (with_reducible refine isi_ib ?_) | (refine isi_int rfl ?_) | (refine isi_sqL rfl (by wtm_at "qo") ?_) | (refine isi_sqT rfl (by wtm_at "qo") ?_) | (refine isi_bl rfl ?_) | (refine isi_non rfl ?_) | (refine isi_str rfl ?_)) | ((with_reducible refine g_ned ?_); first | (refine ned_f (dq_lst (by wtm_at "qo")) (dq_lst (by wtm_at "qo")) ?_) | (refine ned_ints (by wtm_at "qo") (by wtm_at "qo") ?_) | (refine nedT_ints (by wtm_at "qo") (by wtm_at "qo") ?_)) | ((with_reducible refine g_eqd ?_); first | (refine eqd_t (dq_lst (by wtm_at "qo")) (dq_lst (by wtm_at "qo")) ?_) | (refine eqd_ints (by wtm_at "qo") (by wtm_at "qo") ?_) | (refine eqdT_ints (by wtm_at "qo") (by wtm_at "qo") ?_)) | ((with_reducible refine g_tyv ?_); refine and_tyv (by wtm_at "qo") ?_) | ((with_reducible refine g_asq ?_); refine and_sq (by wtm_at "qo") ?_) | ((with_reducible refine g_lst ?_); refine ex_lst (by wtm_at "ho") ?_) | ((with_reducible refine g_or ?_); first | (refine ex_or (by wtm_at "qo") ?_) | (refine ex_ort (by wtm_at "qo") ?_)) | ((with_reducible refine g_sq ?_); refine ex_sq (by wtm_at "qo") ?_) | ((with_reducible refine g_sqt ?_); refine ex_sqt (by wtm_at "qo") ?_) | ((with_reducible refine gd_sel ?_); first | (refine sel_p (by wtm_at "pf") ?_) | (refine sel_n (by wtm_at "pf") ?_)) | ((with_reducible refine gn_sel ?_); first | (refine selN_p (by wtm_at "pf") ?_) | (refine selN_n (by wtm_at "pf") ?_)) | ((with_reducible refine gd_selT ?_); first | (refine selT_p (by wtm_at "pf") ?_) | (refine selT_n (by wtm_at "pf") ?_)) | ((with_reducible refine gn_selT ?_); first | (refine selTN_p (by wtm_at "pf") ?_) | (refine selTN_n (by wtm_at "pf") ?_)) | ((with_reducible refine gd_selE ?_); first | (refine selE_p (by wtm_at "pf") ?_) | (refine selE_n (by wtm_at "pf") ?_)) | ((with_reducible refine gn_selE ?_); first | (refine selEN_p (by wtm_at "pf") ?_) | (refine selEN_n (by wtm_at "pf") ?_)) | ((with_reducible refine g_xf ?_); refine xf_at rfl (by wtm_at "ho") ?_) | ((with_reducible refine g_atI ?_); refine ex_at (by first | exact rfl | exact atI_int (by omega) (by wtm_at "pf") | exact atI_end (by wtm_at "pf")) ?_) | ((with_reducible refine g_and ?_); refine And.intro (by wtm_at "co") ?_))
local macro_rules | `(tactic| wtm_at "oo") => `(tactic| repeat (first | wtm_at "xo" | wtm_at "so"))
local macro_rules | `(tactic| wtm_at "cR") => `(tactic| (refine' compRi _ (by with_reducible assumption) (by omega) (fun _ _ _ _ _ => ?_) (fun _ _ _ => ?_); rotate_left; focus (wtm_at "oo")))

local macro_rules | `(tactic| wtm_at "lk") => `(tactic| first | (with_reducible exact lk_here) | (simp only [lk_here, lk_skip, lk_nil, nb_0_0, nb_0_1, nb_0_2, nb_0_3, nb_0_4, nb_0_5, nb_0_6, nb_0_7, nb_1_1, nb_1_2, nb_1_3, nb_1_4, nb_1_5, nb_1_6, nb_1_7, nb_2_0, nb_2_2, nb_2_3, nb_2_4, nb_2_5, nb_2_6, nb_2_7, nb_3_0, nb_3_1, nb_3_2, nb_3_3, nb_3_4, nb_3_5, nb_3_6, nb_3_7, nb_4_0, nb_4_1, nb_4_2, nb_4_3, nb_4_4, nb_4_5, nb_4_6, nb_4_7, nb_5_0, nb_5_1, nb_5_3, nb_5_4, nb_5_5, nb_5_6, nb_5_7, nb_6_0, nb_6_1, nb_6_2, nb_6_3, nb_6_4, nb_6_5, nb_6_6, nb_6_7, nb_7_0, nb_7_1, nb_7_2, nb_7_4, nb_7_5, nb_7_6, nb_7_7, nb_8_0, nb_8_1, nb_8_2, nb_8_3, nb_8_4, nb_8_5, nb_8_6, nb_8_7, nb_9_0, nb_9_1, nb_9_2, nb_9_3, nb_9_4, nb_9_5, nb_9_6, nb_9_7, nb_10_0, nb_10_1, nb_10_2, nb_10_3, nb_10_5, nb_10_6, nb_10_7, nb_11_0, nb_11_1, nb_11_2, nb_11_3, nb_11_4, nb_11_6, nb_11_7, nb_12_0, nb_12_1, nb_12_2, nb_12_3, nb_12_4, nb_12_5, nb_12_7, nb_13_0, nb_13_1, nb_13_2, nb_13_3, nb_13_4, nb_13_5, nb_13_6, nb_13_7, nb_14_0, nb_14_1, nb_14_2, nb_14_3, nb_14_4, nb_14_5, nb_14_6, nb_15_0, nb_15_1, nb_15_2, nb_15_3, nb_15_4, nb_15_5, nb_15_6, nb_15_7, nb_16_0, nb_16_1, nb_16_2, nb_16_3, nb_16_4, nb_16_5, nb_16_6, nb_16_7, nb_17_0, nb_17_1, nb_17_2, nb_17_3, nb_17_4, nb_17_5, nb_17_6, nb_17_7, nb_18_0, nb_18_1, nb_18_2, nb_18_3, nb_18_4, nb_18_5, nb_18_6, nb_18_7, nb_19_0, nb_19_1, nb_19_2, nb_19_3, nb_19_4, nb_19_5, nb_19_6, nb_19_7, nb_20_0, nb_20_1, nb_20_2, nb_20_3, nb_20_4, nb_20_5, nb_20_6, nb_20_7, nb_21_0, nb_21_1, nb_21_2, nb_21_3, nb_21_4, nb_21_5, nb_21_6, nb_21_7, nb_22_0, nb_22_1, nb_22_2, nb_22_3, nb_22_4, nb_22_5, nb_22_6, nb_22_7, nb_23_0, nb_23_1, nb_23_2, nb_23_3, nb_23_4, nb_23_5, nb_23_6, nb_23_7, nb_24_0, nb_24_1, nb_24_2, nb_24_3, nb_24_4, nb_24_5, nb_24_6, nb_24_7, nb_25_0, nb_25_1, nb_25_2, nb_25_3, nb_25_4, nb_25_5, nb_25_6, nb_25_7, nb_26_0, nb_26_1, nb_26_2, nb_26_3, nb_26_4, nb_26_5, nb_26_6, nb_26_7]; first | done | exact rfl))
local macro_rules | `(tactic| wtm_at "ln") => `(tactic| first | (with_reducible exact lk_nil) | (simp only [lk_skip, lk_nil, nb_0_0, nb_0_1, nb_0_2, nb_0_3, nb_0_4, nb_0_5, nb_0_6, nb_0_7, nb_1_1, nb_1_2, nb_1_3, nb_1_4, nb_1_5, nb_1_6, nb_1_7, nb_2_0, nb_2_2, nb_2_3, nb_2_4, nb_2_5, nb_2_6, nb_2_7, nb_3_0, nb_3_1, nb_3_2, nb_3_3, nb_3_4, nb_3_5, nb_3_6, nb_3_7, nb_4_0, nb_4_1, nb_4_2, nb_4_3, nb_4_4, nb_4_5, nb_4_6, nb_4_7, nb_5_0, nb_5_1, nb_5_3, nb_5_4, nb_5_5, nb_5_6, nb_5_7, nb_6_0, nb_6_1, nb_6_2, nb_6_3, nb_6_4, nb_6_5, nb_6_6, nb_6_7, nb_7_0, nb_7_1, nb_7_2, nb_7_4, nb_7_5, nb_7_6, nb_7_7, nb_8_0, nb_8_1, nb_8_2, nb_8_3, nb_8_4, nb_8_5, nb_8_6, nb_8_7, nb_9_0, nb_9_1, nb_9_2, nb_9_3, nb_9_4, nb_9_5, nb_9_6, nb_9_7, nb_10_0, nb_10_1, nb_10_2, nb_10_3, nb_10_5, nb_10_6, nb_10_7, nb_11_0, nb_11_1, nb_11_2, nb_11_3, nb_11_4, nb_11_6, nb_11_7, nb_12_0, nb_12_1, nb_12_2, nb_12_3, nb_12_4, nb_12_5, nb_12_7, nb_13_0, nb_13_1, nb_13_2, nb_13_3, nb_13_4, nb_13_5, nb_13_6, nb_13_7, nb_14_0, nb_14_1, nb_14_2, nb_14_3, nb_14_4, nb_14_5, nb_14_6, nb_15_0, nb_15_1, nb_15_2, nb_15_3, nb_15_4, nb_15_5, nb_15_6, nb_15_7, nb_16_0, nb_16_1, nb_16_2, nb_16_3, nb_16_4, nb_16_5, nb_16_6, nb_16_7, nb_17_0, nb_17_1, nb_17_2, nb_17_3, nb_17_4, nb_17_5, nb_17_6, nb_17_7, nb_18_0, nb_18_1, nb_18_2, nb_18_3, nb_18_4, nb_18_5, nb_18_6, nb_18_7, nb_19_0, nb_19_1, nb_19_2, nb_19_3, nb_19_4, nb_19_5, nb_19_6, nb_19_7, nb_20_0, nb_20_1, nb_20_2, nb_20_3, nb_20_4, nb_20_5, nb_20_6, nb_20_7, nb_21_0, nb_21_1, nb_21_2, nb_21_3, nb_21_4, nb_21_5, nb_21_6, nb_21_7, nb_22_0, nb_22_1, nb_22_2, nb_22_3, nb_22_4, nb_22_5, nb_22_6, nb_22_7, nb_23_0, nb_23_1, nb_23_2, nb_23_3, nb_23_4, nb_23_5, nb_23_6, nb_23_7, nb_24_0, nb_24_1, nb_24_2, nb_24_3, nb_24_4, nb_24_5, nb_24_6, nb_24_7, nb_25_0, nb_25_1, nb_25_2, nb_25_3, nb_25_4, nb_25_5, nb_25_6, nb_25_7, nb_26_0, nb_26_1, nb_26_2, nb_26_3, nb_26_4, nb_26_5, nb_26_6, nb_26_7]; done))
local macro_rules | `(tactic| wtm_at "pu") => `(tactic| first | (with_reducible exact pf_nil) | (simp only [pf_nil, pf_here, pf_skip, nb_0_0, nb_0_1, nb_0_2, nb_0_3, nb_0_4, nb_0_5, nb_0_6, nb_0_7, nb_1_1, nb_1_2, nb_1_3, nb_1_4, nb_1_5, nb_1_6, nb_1_7, nb_2_0, nb_2_2, nb_2_3, nb_2_4, nb_2_5, nb_2_6, nb_2_7, nb_3_0, nb_3_1, nb_3_2, nb_3_3, nb_3_4, nb_3_5, nb_3_6, nb_3_7, nb_4_0, nb_4_1, nb_4_2, nb_4_3, nb_4_4, nb_4_5, nb_4_6, nb_4_7, nb_5_0, nb_5_1, nb_5_3, nb_5_4, nb_5_5, nb_5_6, nb_5_7, nb_6_0, nb_6_1, nb_6_2, nb_6_3, nb_6_4, nb_6_5, nb_6_6, nb_6_7, nb_7_0, nb_7_1, nb_7_2, nb_7_4, nb_7_5, nb_7_6, nb_7_7, nb_8_0, nb_8_1, nb_8_2, nb_8_3, nb_8_4, nb_8_5, nb_8_6, nb_8_7, nb_9_0, nb_9_1, nb_9_2, nb_9_3, nb_9_4, nb_9_5, nb_9_6, nb_9_7, nb_10_0, nb_10_1, nb_10_2, nb_10_3, nb_10_5, nb_10_6, nb_10_7, nb_11_0, nb_11_1, nb_11_2, nb_11_3, nb_11_4, nb_11_6, nb_11_7, nb_12_0, nb_12_1, nb_12_2, nb_12_3, nb_12_4, nb_12_5, nb_12_7, nb_13_0, nb_13_1, nb_13_2, nb_13_3, nb_13_4, nb_13_5, nb_13_6, nb_13_7, nb_14_0, nb_14_1, nb_14_2, nb_14_3, nb_14_4, nb_14_5, nb_14_6, nb_15_0, nb_15_1, nb_15_2, nb_15_3, nb_15_4, nb_15_5, nb_15_6, nb_15_7, nb_16_0, nb_16_1, nb_16_2, nb_16_3, nb_16_4, nb_16_5, nb_16_6, nb_16_7, nb_17_0, nb_17_1, nb_17_2, nb_17_3, nb_17_4, nb_17_5, nb_17_6, nb_17_7, nb_18_0, nb_18_1, nb_18_2, nb_18_3, nb_18_4, nb_18_5, nb_18_6, nb_18_7, nb_19_0, nb_19_1, nb_19_2, nb_19_3, nb_19_4, nb_19_5, nb_19_6, nb_19_7, nb_20_0, nb_20_1, nb_20_2, nb_20_3, nb_20_4, nb_20_5, nb_20_6, nb_20_7, nb_21_0, nb_21_1, nb_21_2, nb_21_3, nb_21_4, nb_21_5, nb_21_6, nb_21_7, nb_22_0, nb_22_1, nb_22_2, nb_22_3, nb_22_4, nb_22_5, nb_22_6, nb_22_7, nb_23_0, nb_23_1, nb_23_2, nb_23_3, nb_23_4, nb_23_5, nb_23_6, nb_23_7, nb_24_0, nb_24_1, nb_24_2, nb_24_3, nb_24_4, nb_24_5, nb_24_6, nb_24_7, nb_25_0, nb_25_1, nb_25_2, nb_25_3, nb_25_4, nb_25_5, nb_25_6, nb_25_7, nb_26_0, nb_26_1, nb_26_2, nb_26_3, nb_26_4, nb_26_5, nb_26_6, nb_26_7]; first | done | exact rfl))
local macro_rules | `(tactic| wtm_at "tk") => `(tactic| first | (with_reducible exact Take.here) | (exact Take.here) | ((with_reducible apply Take.there); wtm_at "tk"))
local macro_rules | `(tactic| wtm_at "pk") => `(tactic| first | exact Pick.nil | ((with_reducible refine' Pick.cons ?tk1 ?pk1); (case tk1 => wtm_at "tk"); (case pk1 => wtm_at "pk")) | ((with_reducible refine Pick.im (by wtm_at "mem") ?_); wtm_at "pk") | ((with_reducible refine Pick.ims (by wtm_at "mem") ?_); wtm_at "pk"))
section
variable {P : Program} {w : World} {K : PySem.W.Frag} {mg : Str → Option Value} {base : Heap}
/-- the search: greatest length, distance, whether it has stopped; as the law goes on -/
def srStep (hs : List Int) (i : Int) (lim : Nat) (nice : Int) (s : Nat × Int × Bool) (p : Int) : Nat × Int × Bool :=
  if s.2.2 = true then s else
    let z := cl hs p.toNat i.toNat lim
    (if s.1 < z then z else s.1, if s.1 < z then i - p else s.2.1, decide (nice ≤ z))
def sr (hs : List Int) (i : Int) (lim : Nat) (nice : Int) (ps : List Int) : Nat × Int × Bool := ps.foldl (srStep hs i lim nice) (0, 0, false)
theorem sr_snoc {hs : List Int} {i : Int} {lim : Nat} {nice : Int} {ps : List Int} {p : Int} : sr hs i lim nice (ps ++ [p]) = srStep hs i lim nice (sr hs i lim nice ps) p := by
  unfold sr
  rw [List.foldl_append]
  rfl
theorem sr_le (hs : List Int) (i : Int) (lim : Nat) (nice : Int) (ps : List Int) : (sr hs i lim nice ps).1 ≤ lim := by
  suffices h : ∀ (ps : List Int) (s : Nat × Int × Bool), s.1 ≤ lim → (ps.foldl (srStep hs i lim nice) s).1 ≤ lim from h ps _ (Nat.zero_le _)
  intro ps
  induction ps with
  | nil => exact fun s h => h
  | cons p r ih =>
    intro s h
    refine ih _ ?_
    unfold srStep
    split
    · exact h
    · have := cl_le hs p.toNat i.toNat lim
      dsimp only
      split <;> omega
/-- behind a turn: stopped exactly if the greatest length is nice -/
theorem sr_stop {hs : List Int} {i : Int} {lim : Nat} {nice : Int} : ∀ {ps : List Int}, ps ≠ [] → ((sr hs i lim nice ps).2.2 = true ↔ nice ≤ (sr hs i lim nice ps).1) := by
  suffices h : ∀ (ps : List Int) (s : Nat × Int × Bool), (s.2.2 = true → nice ≤ s.1) → (s.2.2 = false → (s.1 : Int) < nice ∨ s.1 = 0) → ps ≠ [] → ((ps.foldl (srStep hs i lim nice) s).2.2 = true ↔ nice ≤ (ps.foldl (srStep hs i lim nice) s).1) from
    fun {ps} => h ps _ (fun z => by cases z) (fun _ => .inr rfl)
  intro ps
  induction ps with
  | nil => exact fun _ _ _ z => absurd rfl z
  | cons p r ih =>
    intro s h1 h2 _
    have key : (srStep hs i lim nice s p).2.2 = true ↔ nice ≤ (srStep hs i lim nice s p).1 := by
      unfold srStep
      split
      · rename_i c
        exact ⟨h1, fun _ => c⟩
      · rename_i c
        have h2 := h2 (by simpa using c)
        dsimp only
        generalize cl hs p.toNat i.toNat lim = z
        rw [decide_eq_true_iff]
        split <;> omega
    show ((r.foldl (srStep hs i lim nice) (srStep hs i lim nice s p)).2.2 = true ↔ nice ≤ (r.foldl (srStep hs i lim nice) (srStep hs i lim nice s p)).1)
    generalize srStep hs i lim nice s p = s' at *
    by_cases e : r = []
    · subst e
      exact key
    · refine ih s' (fun z => key.mp z) (fun z => .inl ?_) e
      by_cases c : nice ≤ (s'.1 : Int)
      · rw [key.mpr c] at z
        cases z
      · omega
/-- what is great enough stays -/
theorem sr_stay {hs : List Int} {i : Int} {lim : Nat} {nice : Int} {ps qs : List Int} (h : (sr hs i lim nice ps).2.2 = true ∨ lim ≤ (sr hs i lim nice ps).1) : (sr hs i lim nice (ps ++ qs)).1 = (sr hs i lim nice ps).1 ∧ (sr hs i lim nice (ps ++ qs)).2.1 = (sr hs i lim nice ps).2.1 := by
  have e : sr hs i lim nice (ps ++ qs) = qs.foldl (srStep hs i lim nice) (sr hs i lim nice ps) := by
    unfold sr
    rw [List.foldl_append]
  rw [e]
  clear e
  generalize sr hs i lim nice ps = s at h
  induction qs generalizing s with
  | nil => exact ⟨rfl, rfl⟩
  | cons p r ih =>
    have st : (srStep hs i lim nice s p).1 = s.1 ∧ (srStep hs i lim nice s p).2.1 = s.2.1 ∧ ((srStep hs i lim nice s p).2.2 = true ∨ lim ≤ (srStep hs i lim nice s p).1) := by
      unfold srStep
      split
      · exact ⟨rfl, rfl, h⟩
      · rename_i c
        have h : lim ≤ s.1 := h.resolve_left c
        have := cl_le hs p.toNat i.toNat lim
        dsimp only
        rw [if_neg (by omega), if_neg (by omega)]
        exact ⟨rfl, rfl, .inr h⟩
    have := ih (srStep hs i lim nice s p) st.2.2
    exact ⟨this.1.trans st.1, this.2.trans st.2.1⟩
/-- what is found -/
def found (s : Nat × Int × Bool) (longer : Int) : List Int := if 3 ≤ s.1 ∧ longer < s.1 then [(s.1 : Int), s.2.1] else [0, 0]
def sp_search (K : PySem.W.Frag) : Sp := fun vs H Q _ => ∃ (a c : Addr) (hs ps : List Int) (i e nice longer : Int), vs = [.ref a, .int i, .int e, .ref c, .int nice, .int longer] ∧ SqL K H a (hs.map V.int) ∧ SqL K H c (ps.map V.int) ∧
  hs.length ≤ 5000 ∧ 0 ≤ i ∧ i ≤ e ∧ e ≤ hs.length ∧ (∀ x ∈ ps, 0 ≤ x ∧ x < i) ∧ ∀ p H', Own K H H' [.im (.ref p) (tI (found (sr hs i (min 258 (e - i).toNat) nice ps) longer))] → Q (.ref p) H'
theorem ok_search (T : Tx K mg) : Cl P w K mg base 2 "search" ["history", "at", "end", "places", "nice", "longer_than"] (sp_search K) [] := by
  obtain ⟨gm, fd, F⟩ := T.d_search
  refine ⟨_, fd, [], F.ok sc_search (fun vs H Q E h => ?_) (fun cdv A outer s H vs Q E hr h => ⟨_, (PSs.nox (pss_cons (ps_set (i := 6) sc_search.nd rfl (Or.inl rfl) (by exact (pe_callB (call_min2 rfl) rfl T.b_min (by decide +kernel) (pa_cons (pe_gc rfl T.c_MOST_LENGTH) (pa_cons (pe_op op_sub (pv 2) (pv 1)) pa_nil)))))
 (pss_cons (ps_if (pt_cmpR op_lt (pv 6) (pe_gc rfl T.c_LEAST_LENGTH) (nomark _))
 (pss_one (ps_ret (by exact (pe_gc rfl T.c_NO_COPY_finder))))
 pss_nil)
 (pss_cons (ps_set (i := 7) sc_search.nd rfl (Or.inl rfl) (by exact pe_int))
 (pss_cons (ps_set (i := 8) sc_search.nd rfl (Or.inl rfl) (by exact pe_int))
 (pss_cons (ps_for PassesOwn.never rfl (pi_list (pv 3)) (pg_name (i := 9) sc_search.nd rfl (Or.inl rfl))
 (pss_cons (ps_if (pt_cmpR op_eq (pe_ix (ixl K) (pv 0) (pe_op op_add (pv 9) (pv 7)) (fun _ _ => rfl)) (pe_ix (ixl K) (pv 0) (pe_op op_add (pv 1) (pv 7)) (fun _ _ => rfl)) (nomark _))
 (pss_cons (ps_set (i := 10) sc_search.nd rfl (Or.inl rfl) (by exact (pe_cl (ok_common_length T) (hr.mono (by decide)) rfl (pa_cons (pv 0) (pa_cons (pv 9) (pa_cons (pv 1) (pa_cons (pv 6) pa_nil)))))))
 (pss_one (ps_if (pt_cmpR op_gt (pv 10) (pv 7) (nomark _))
 (pss_cons (ps_set (i := 7) sc_search.nd rfl (Or.inl rfl) (by exact (pv 10)))
 (pss_one (ps_set (i := 8) sc_search.nd rfl (Or.inl rfl) (by exact (pe_op op_sub (pv 1) (pv 9))))))
 pss_nil)))
 pss_nil)
 (pss_one (ps_if (pt_cmpR op_ge (pv 7) (pe_callB (call_min2 rfl) rfl T.b_min (by decide +kernel) (pa_cons (pv 4) (pa_cons (pv 6) pa_nil))) (nomark _))
 (pss_one ps_break)
 pss_nil))))
 (pss_cons (ps_if (PW.pt (pw_or (pt_cmpR op_lt (pv 7) (pe_gc rfl T.c_LEAST_LENGTH) (nomark _)) (pw_or1 (pt_cmpR op_le (pv 7) (pv 5) (nomark _)))))
 (pss_one (ps_ret (by exact (pe_gc rfl T.c_NO_COPY_finder))))
 pss_nil)
 (pss_one (ps_ret (by exact (pe_tup (pa_cons (pv 7) (pa_cons (pv 8) pa_nil))))))))))))), ?_⟩), gm, F.kp, F.bindsN (fun _ _ _ _ _ _ us hl => match us, hl with | [_, _, _, _, _, _], _ => rfl), .nil⟩
  · first | (obtain ⟨rfl, _⟩ := h; rfl) | (obtain ⟨_, rfl, _⟩ := h; rfl) | (obtain ⟨_, _, rfl, _⟩ := h; rfl) | (obtain ⟨_, _, _, rfl, _⟩ := h; rfl) | (obtain ⟨_, _, _, _, rfl, _⟩ := h; rfl) | (obtain ⟨_, _, _, _, _, rfl, _⟩ := h; rfl) | (obtain ⟨_, _, _, _, _, _, rfl, _⟩ := h; rfl) | (obtain ⟨_, _, _, _, _, _, _, rfl, _⟩ := h; rfl) | (obtain ⟨_, _, _, _, _, _, _, _, rfl, _⟩ := h; rfl) | (obtain ⟨_, _, _, _, _, _, _, _, _, rfl, _⟩ := h; rfl) | (obtain ⟨_, _, _, _, _, _, _, _, _, _, rfl, _⟩ := h; rfl) | (obtain ⟨_, _, _, _, _, _, _, _, _, _, _, rfl, _⟩ := h; rfl) | (obtain ⟨_, _, _, _, _, _, _, _, _, _, _, _, rfl, _⟩ := h; rfl) | (obtain ⟨_, _, _, _, _, _, _, _, _, _, _, _, _, rfl, _⟩ := h; rfl) | (obtain ⟨_, _, _, _, _, _, _, _, _, _, _, _, _, _, rfl, _⟩ := h; rfl) | (obtain ⟨_, _, _, _, _, _, _, _, _, _, _, _, _, _, _, rfl, _⟩ := h; rfl) | (obtain ⟨_, _, _, _, _, _, _, _, _, _, _, _, _, _, _, _, rfl, _⟩ := h; rfl) | (obtain ⟨_, _, _, _, _, _, _, _, _, _, _, _, _, _, _, _, _, rfl, _⟩ := h; rfl) | (obtain ⟨_, _, _, _, _, _, _, _, _, _, _, _, _, _, _, _, _, _, rfl, _⟩ := h; rfl) | (obtain ⟨_, _, _, _, _, _, _, _, _, _, _, _, _, _, _, _, _, _, _, rfl, _⟩ := h; rfl) | (obtain ⟨_, _, _, _, _, _, _, _, _, _, _, _, _, _, _, _, _, _, _, _, rfl, _⟩ := h; rfl) | (obtain ⟨_, _, _, _, _, _, _, _, _, _, _, _, _, _, _, _, _, _, _, _, _, rfl, _⟩ := h; rfl)
  · obtain ⟨a, c, hs, ps, i, e, nice, longer, rfl, hS, hC, hl, h0, hie, hel, hps, q⟩ := h
    k_call_by "xo" st_search
    have L := Own.start (K := K) (H := H)
    wtm_at "oo"
    have el : (if e - i < 258 then e - i else 258) = ((min 258 (e - i).toNat : Nat) : Int) := by
      split <;> omega
    rw [el]
    have hlim : min 258 (e - i).toNat ≤ hs.length - i.toNat := by omega
    have hlim2 : min 258 (e - i).toNat ≤ 258 := Nat.min_le_left _ _
    generalize min 258 (e - i).toNat = lim at *
    have nocopy : ∀ H1, Own K H H1 [] → (¬ (3 ≤ (sr hs i lim nice ps).1 ∧ longer < (sr hs i lim nice ps).1)) → Q (.ref (He.ga K "NO_COPY_finder")) H1 := by
      intro H1 L1 n
      refine q _ _ (L1.addIm ?_)
      unfold found
      rw [if_neg n]
      exact Imm.of_is (T.q_NO_COPY_finder H1)
    refine sel_d (fun c1 => ?_) (fun c1 => ?_)
    · wtm_at "oo"
      have := sr_le hs i lim nice ps
      exact nocopy H L (by omega)
    wtm_at "oo"
    generalize hk : tSeq _ _ _ = kont
    have fin : ∀ (H1 : Hp) (s9 s10 : Option V), Own K H H1 [] → kont [some (.ref a), some (.int i), some (.int e), some (.ref c), some (.int nice), some (.int longer), some (.int (lim : Nat)), some (.int ((sr hs i lim nice ps).1 : Nat)), some (.int (sr hs i lim nice ps).2.1), s9, s10] H1 := by
      intro H1 s9 s10 L1
      subst hk
      have nocopy := nocopy H1 L1
      have yes : 3 ≤ (sr hs i lim nice ps).1 ∧ longer < (sr hs i lim nice ps).1 → ∀ p H2, Own K H H2 [pT p [((sr hs i lim nice ps).1 : Int), (sr hs i lim nice ps).2.1]] → Q (.ref p) H2 := by
        intro y p H2 L2
        refine q p H2 ((L2.addIm ?_).sub (l' := [_]) (by wtm_at "sub"))
        unfold found
        rw [if_pos y]
        exact L2.imI mem_here
      generalize sr hs i lim nice ps = s at *
      wtm_at "oo"
      refine selT_d (fun c2 => ?_) (fun c2 => ?_)
      · wtm_at "oo"
        exact nocopy (by omega)
      · wtm_at "oo"
        refine sel_d (fun c3 => ?_) (fun c3 => ?_)
        · wtm_at "oo"
          exact nocopy (by omega)
        · wtm_at "oo"
          rename_i p H2 L2
          exact yes (by omega) p H2 L2
    clear hk
    refine loop_list (xs := ps.map V.int) (fun k σ H' => ∃ s9 s10, σ = [some (.ref a), some (.int i), some (.int e), some (.ref c), some (.int nice), some (.int longer), some (.int (lim : Nat)), some (.int ((sr hs i lim nice (ps.take k)).1 : Nat)), some (.int (sr hs i lim nice (ps.take k)).2.1), s9, s10] ∧ Own K H H' [] ∧
      (sr hs i lim nice (ps.take k)).2.2 = false ∧ (sr hs i lim nice (ps.take k)).1 < lim) ⟨none, none, rfl, L, rfl, by show 0 < lim; omega⟩ (fun _ σ H' _ ⟨_, _, _, L, _⟩ => L.sq hC) ?_ ?_
    · rintro k x σ H1 hx ⟨s9, s10, rfl, L, ns, nl⟩
      obtain ⟨x, hz, rfl⟩ := int_at hx
      obtain ⟨x0, x1⟩ := hps x (List.mem_of_getElem? hz)
      have es : ps.take (k + 1) = ps.take k ++ [x] := by rw [List.take_add_one, hz]; rfl
      have est : sr hs i lim nice (ps.take (k + 1)) = srStep hs i lim nice (sr hs i lim nice (ps.take k)) x := by rw [es, sr_snoc]
      have stop := sr_stop (hs := hs) (i := i) (lim := lim) (nice := nice) (ps := ps.take (k + 1)) (by rw [es]; simp)
      have stay := sr_stay (hs := hs) (i := i) (lim := lim) (nice := nice) (ps := ps.take (k + 1)) (qs := ps.drop (k + 1))
      rw [List.take_append_drop] at stay
      unfold srStep at est
      rw [ns, if_neg (by decide)] at est
      have lo := fun z => cl_lt (hs := hs) (a := x.toNat) (b := i.toNat) (k := (sr hs i lim nice (ps.take k)).1) (m := lim) z
      have hle := cl_le hs x.toNat i.toNat lim
      have e1 : (x + ((sr hs i lim nice (ps.take k)).1 : Int)).toNat = x.toNat + (sr hs i lim nice (ps.take k)).1 := by omega
      have e2 : (i + ((sr hs i lim nice (ps.take k)).1 : Int)).toNat = i.toNat + (sr hs i lim nice (ps.take k)).1 := by omega
      generalize sr hs i lim nice (ps.take k) = s at *
      generalize sr hs i lim nice (ps.take (k + 1)) = s' at *
      obtain ⟨b, d, z⟩ := s
      dsimp only at est lo e1 e2 ns nl
      subst ns
      simp only [x_gname, x_seq, List.set_cons_zero, List.set_cons_succ]
      generalize hk2 : tIfS _ tBreak tNext _ = kont2
      have fin2 : ∀ (s10 : Option V) (H2 : Hp), Own K H H2 [] → kont2 [some (.ref a), some (.int i), some (.int e), some (.ref c), some (.int nice), some (.int longer), some (.int (lim : Nat)), some (.int (s'.1 : Nat)), some (.int s'.2.1), some (.int x), s10] H2 := by
        intro s10 H2 L2
        subst hk2
        wtm_at "oo"
        refine sel_d (fun c2 => ?_) (fun c2 => ?_)
        · wtm_at "oo"
          have := stay (by
            by_cases c3 : (lim : Int) < nice
            · rw [if_pos c3] at c2
              exact .inr (by omega)
            · rw [if_neg c3] at c2
              exact .inl (stop.mpr c2))
          rw [← this.1, ← this.2]
          exact fin _ _ _ L2
        · wtm_at "oo"
          refine ⟨?_, ?_⟩
          · cases e : s'.2.2 with
            | false => rfl
            | true =>
              have := stop.mp e
              exfalso
              refine c2 ?_
              split <;> omega
          · by_cases c3 : (lim : Int) < nice
            · rw [if_pos c3] at c2
              omega
            · rw [if_neg c3] at c2
              omega
      clear hk2
      have stayed : ¬ b < cl hs x.toNat i.toNat lim → s'.1 = b ∧ s'.2.1 = d := by
        intro n
        rw [est]
        exact ⟨if_neg n, if_neg n⟩
      have grew : b < cl hs x.toNat i.toNat lim → s'.1 = cl hs x.toNat i.toNat lim ∧ s'.2.1 = i - x := by
        intro n
        rw [est]
        exact ⟨if_pos n, if_pos n⟩
      clear est
      wtm_at "oo"
      refine sel_d (fun c2 => ?_) (fun c2 => ?_)
      · wtm_at "oo"
        refine ⟨a, hs, _, _, _, rfl, by wtm_at "qo", by omega, by omega, by omega, by omega, by omega, ?_⟩
        rw [Int.toNat_natCast]
        wtm_at "oo"
        refine sel_d (fun c3 => ?_) (fun c3 => ?_)
        · wtm_at "oo"
          obtain ⟨g1, g2⟩ := grew (by omega)
          rw [← g1, ← g2]
          exact fin2 _ _ L
        · wtm_at "oo"
          obtain ⟨g1, g2⟩ := stayed (by omega)
          rw [← g1, ← g2]
          exact fin2 _ _ L
      · wtm_at "oo"
        rw [e1, e2] at c2
        obtain ⟨g1, g2⟩ := stayed (fun z => c2 (lo z).2)
        rw [← g1, ← g2]
        exact fin2 _ _ L
    · rintro σ H1 ⟨s9, s10, rfl, L, _⟩
      rw [List.length_map, List.take_length]
      exact fin _ _ _ L


end
end K52

namespace K52
open PySem PySem.Spec PyProof.Rows L2 Bel
local macro_rules | `(tactic| wtm_at "xs") => `(tactic| simp only [x_next, x_seq, x_brk, x_cont, x_drop, x_ret, x_retN, x_if, sel_t, sel_f, selE_t, selE_f, selT_t, selT_f, selC_t, selC_f, x_test, x_tB, x_op, x_un, x_var, x_c, x_cb, x_nil, x_cons, x_rI, x_rI0, x_rU, x_rEq, x_rNe, x_rIxL, x_rIxT, x_rSlL, x_rCat, x_rRep, x_rApp, x_bm, x_bm0, x_sl, x_nopart, x_part, x_tup, x_lst, x_call, x_callS, x_asg, x_gname, x_gtup, x_gnil, x_gcons, x_gsub, x_setL, x_aug, x_ipI, x_ipC, x_bits, x_getL, x_augS, x_and, x_or, x_not, x_k, x_andV, x_orV, x_notV, x_ife, x_chain, x_for, x_ilist, x_itup, x_ienum, x_irng1, x_irng2, x_irev, x_lc, x_yes, wipe_nil, wipe_cons, List.map_cons, List.map_nil, x_misc, x_misc2, x_rz, lookup_at, Bool.not_true, Bool.not_false, decide_true, decide_false, not_true, not_false_eq_true, and_assoc, exists_and_left, exists_eq_left', exists_eq_left, exists_eq', exists_eq_right', exists_eq_right, V.int.injEq, V.ref.injEq, V.bl.injEq, V.str.injEq, List.cons.injEq, and_true, true_and, and_self, Option.some.injEq, List.cons_append, List.nil_append, List.append_nil, List.getElem?_cons_zero, List.getElem?_cons_succ, List.set_cons_zero, List.set_cons_succ, reduceCtorEq, false_and, and_false, exists_false, exists_const, or_false, false_or, scal_ii, scal_bb, scal_ss, List.length_cons, List.length_nil, Int.reduceToNat, Int.reducePow])
local macro_rules | `(tactic| k_call_by "xs" $h:term) => `(tactic| simp only [$h:term, x_next, x_seq, x_brk, x_cont, x_drop, x_ret, x_retN, x_if, sel_t, sel_f, selE_t, selE_f, selT_t, selT_f, selC_t, selC_f, x_test, x_tB, x_op, x_un, x_var, x_c, x_cb, x_nil, x_cons, x_rI, x_rI0, x_rU, x_rEq, x_rNe, x_rIxL, x_rIxT, x_rSlL, x_rCat, x_rRep, x_rApp, x_bm, x_bm0, x_sl, x_nopart, x_part, x_tup, x_lst, x_call, x_callS, x_asg, x_gname, x_gtup, x_gnil, x_gcons, x_gsub, x_setL, x_aug, x_ipI, x_ipC, x_bits, x_getL, x_augS, x_and, x_or, x_not, x_k, x_andV, x_orV, x_notV, x_ife, x_chain, x_for, x_ilist, x_itup, x_ienum, x_irng1, x_irng2, x_irev, x_lc, x_yes, wipe_nil, wipe_cons, List.map_cons, List.map_nil, x_misc, x_misc2, x_rz, lookup_at, Bool.not_true, Bool.not_false, decide_true, decide_false, not_true, not_false_eq_true, and_assoc, exists_and_left, exists_eq_left', exists_eq_left, exists_eq', exists_eq_right', exists_eq_right, V.int.injEq, V.ref.injEq, V.bl.injEq, V.str.injEq, List.cons.injEq, and_true, true_and, and_self, Option.some.injEq, List.cons_append, List.nil_append, List.append_nil, List.getElem?_cons_zero, List.getElem?_cons_succ, List.set_cons_zero, List.set_cons_succ, reduceCtorEq, false_and, and_false, exists_false, exists_const, or_false, false_or, scal_ii, scal_bb, scal_ss, List.length_cons, List.length_nil, Int.reduceToNat, Int.reducePow])
local macro_rules | `(tactic| wtm_at "hp") => `(tactic| first | (with_reducible assumption) | exact upd_same | (refine upd_keep (by with_reducible assumption) ?_; wtm_at "hp") | (refine Same.get (by with_reducible assumption) ?_; wtm_at "hp") | (refine upd_other (by first | (with_reducible assumption) | exact Ne.symm (by with_reducible assumption)) ?_; wtm_at "hp"))
local macro_rules | `(tactic| wtm_at "sq") => `(tactic| first | (with_reducible assumption) | exact SqL.of (by wtm_at "hp") | exact SqT.of (by wtm_at "hp") | (refine Same.seq (same_upd (by with_reducible assumption)) ?_; wtm_at "sq") | (refine Same.seq (by with_reducible assumption) ?_; wtm_at "sq") | (refine Same.seqT (same_upd (by with_reducible assumption)) ?_; wtm_at "sq") | (refine Same.seqT (by with_reducible assumption) ?_; wtm_at "sq"))
local macro_rules | `(tactic| wtm_at "cl") => `(tactic| first | (with_reducible assumption) | omega | (exact cmul_r (by omega) (by omega)) | (exact cmul_l (by omega) (by omega)) | (exact cdiv_ok (by omega) (by omega)) | (exact cpow_ok (by decide)) | (exact ⟨by omega, by omega, by omega⟩) | decide | (exact ⟨by omega, by omega⟩) | (simp only [List.length_append, List.length_map, List.length_set, List.length_cons, List.length_nil, rngL_len, sizeLine_eq]; omega) | wtm_at "hp" | wtm_at "sq")
local macro_rules | `(tactic| wtm_at "pf") => `(tactic| first | (with_reducible assumption) | omega | (simp only [List.length_append, List.length_map, List.length_set, List.length_cons, List.length_nil, rngL_len]; omega) | (with_reducible rfl) | (with_reducible trivial) | (with_reducible decide))
local macro_rules | `(tactic| wtm_at "st") => `(tactic| first | ((with_reducible refine g_at ?_); refine at_call (by wtm_at "sq") (by omega) (by omega) (fun _ _ => ?_)) | ((with_reducible refine g_int ?_); refine int_call ?_) | ((with_reducible refine g_isi ?_); first | (with_reducible refine isi_ii ?_) | (with_reducible refine isi_ib ?_) | (refine isi_int rfl ?_) | (refine isi_lst rfl (by wtm_at "hp") ?_) | (refine isi_tup rfl (by wtm_at "hp") ?_)) | ((with_reducible refine g_ned ?_); refine ned_f (dq_lst (by wtm_at "sq")) (dq_lst (by wtm_at "sq")) ?_) | ((with_reducible refine g_eqd ?_); refine eqd_t (dq_lst (by wtm_at "sq")) (dq_lst (by wtm_at "sq")) ?_) | ((with_reducible refine g_tyv ?_); refine and_tyv (by wtm_at "sq") ?_) | ((with_reducible refine g_asq ?_); refine and_sq (by wtm_at "sq") ?_) | ((with_reducible refine g_lst ?_); refine ex_lst (by wtm_at "hp") ?_) | ((with_reducible refine g_or ?_); first | (refine ex_or (by wtm_at "sq") ?_) | (refine ex_ort (by wtm_at "sq") ?_)) | ((with_reducible refine g_sq ?_); refine ex_sq (by wtm_at "sq") ?_) | ((with_reducible refine g_sqt ?_); refine ex_sqt (by wtm_at "sq") ?_) | ((with_reducible refine gd_sel ?_); first | (refine sel_p (by wtm_at "pf") ?_) | (refine sel_n (by wtm_at "pf") ?_)) | ((with_reducible refine gn_sel ?_); first | (refine selN_p (by wtm_at "pf") ?_) | (refine selN_n (by wtm_at "pf") ?_)) | ((with_reducible refine gd_selT ?_); first | (refine selT_p (by wtm_at "pf") ?_) | (refine selT_n (by wtm_at "pf") ?_)) | ((with_reducible refine gn_selT ?_); first | (refine selTN_p (by wtm_at "pf") ?_) | (refine selTN_n (by wtm_at "pf") ?_)) | ((with_reducible refine gd_selE ?_); first | (refine selE_p (by wtm_at "pf") ?_) | (refine selE_n (by wtm_at "pf") ?_)) | ((with_reducible refine gn_selE ?_); first | (refine selEN_p (by wtm_at "pf") ?_) | (refine selEN_n (by wtm_at "pf") ?_)) | ((with_reducible refine g_xf ?_); refine xf_at rfl (by wtm_at "hp") ?_) | ((with_reducible refine g_atI ?_); refine ex_at (by first | exact rfl | exact atI_int (by omega) (by wtm_at "pf") | exact atI_end (by wtm_at "pf")) ?_) | ((with_reducible refine g_and ?_); refine And.intro (by wtm_at "cl") ?_) | ((with_reducible refine g_new ?_); intro _ _))
local macro_rules | `(tactic| wtm_at "go") => `(tactic| repeat (first | wtm_at "xs" | wtm_at "st"))
local macro_rules | `(tactic| wtm_at "xo") => `(tactic| simp only [x_next, x_seq, x_brk, x_cont, x_drop, x_ret, x_retN, x_if, sel_t, sel_f, selE_t, selE_f, selT_t, selT_f, selC_t, selC_f, x_test, x_tB, x_op, x_un, x_var, x_c, x_cb, x_nil, x_cons, x_rI, x_rI0, x_rU, x_rEq, x_rNe, x_rIxL, x_rIxT, n_rSlL, n_rCat, n_rRep, n_rApp, x_bm, x_bm0, x_sl, x_nopart, x_part, n_tup, n_lst, x_call, x_callS, x_asg, x_gname, x_gtup, x_gnil, x_gcons, x_gsub, n_setL, x_aug, x_ipI, x_ipC, x_bits, x_getL, x_augS, x_and, x_or, x_not, x_k, x_andV, x_orV, x_notV, x_ife, x_chain, x_for, x_ilist, x_itup, x_ienum, x_irng1, x_irng2, x_irev, x_lc, x_yes, wipe_nil, wipe_cons, List.map_cons, List.map_nil, x_misc, x_misc2, x_rz, lookup_at, Bool.not_true, Bool.not_false, decide_true, decide_false, not_true, not_false_eq_true, and_assoc, exists_and_left, exists_eq_left', exists_eq_left, exists_eq', exists_eq_right', exists_eq_right, V.int.injEq, V.ref.injEq, V.bl.injEq, V.str.injEq, List.cons.injEq, and_true, true_and, and_self, Option.some.injEq, List.cons_append, List.nil_append, List.append_nil, List.getElem?_cons_zero, List.getElem?_cons_succ, List.set_cons_zero, List.set_cons_succ, reduceCtorEq, false_and, and_false, exists_false, exists_const, or_false, false_or, scal_ii, scal_bb, scal_ss, List.length_cons, List.length_nil, Int.reduceToNat, Int.reducePow, n_fld, n_dnew, n_dput, n_din, n_dget, n_dget2, n_glst, n_sfld, n_aug, n_meth, n_mw, n_make, n_kw, n_rLs, n_dcp, n_ext, n_revL, n_rTp, t_im, ints_rev, t_s1, t_i1, t_i2, t_i3, t_i4, t_i5, x_chain3, x_irng3, x_irevR, x_rg1, x_rg2, ints_cat, ints_app1, ints_len, ints_take, ints_drop, rep_one])
local macro_rules | `(tactic| k_call_by "xo" $h:term) => `(tactic| simp only [$h:term, x_next, x_seq, x_brk, x_cont, x_drop, x_ret, x_retN, x_if, sel_t, sel_f, selE_t, selE_f, selT_t, selT_f, selC_t, selC_f, x_test, x_tB, x_op, x_un, x_var, x_c, x_cb, x_nil, x_cons, x_rI, x_rI0, x_rU, x_rEq, x_rNe, x_rIxL, x_rIxT, n_rSlL, n_rCat, n_rRep, n_rApp, x_bm, x_bm0, x_sl, x_nopart, x_part, n_tup, n_lst, x_call, x_callS, x_asg, x_gname, x_gtup, x_gnil, x_gcons, x_gsub, n_setL, x_aug, x_ipI, x_ipC, x_bits, x_getL, x_augS, x_and, x_or, x_not, x_k, x_andV, x_orV, x_notV, x_ife, x_chain, x_for, x_ilist, x_itup, x_ienum, x_irng1, x_irng2, x_irev, x_lc, x_yes, wipe_nil, wipe_cons, List.map_cons, List.map_nil, x_misc, x_misc2, x_rz, lookup_at, Bool.not_true, Bool.not_false, decide_true, decide_false, not_true, not_false_eq_true, and_assoc, exists_and_left, exists_eq_left', exists_eq_left, exists_eq', exists_eq_right', exists_eq_right, V.int.injEq, V.ref.injEq, V.bl.injEq, V.str.injEq, List.cons.injEq, and_true, true_and, and_self, Option.some.injEq, List.cons_append, List.nil_append, List.append_nil, List.getElem?_cons_zero, List.getElem?_cons_succ, List.set_cons_zero, List.set_cons_succ, reduceCtorEq, false_and, and_false, exists_false, exists_const, or_false, false_or, scal_ii, scal_bb, scal_ss, List.length_cons, List.length_nil, Int.reduceToNat, Int.reducePow, n_fld, n_dnew, n_dput, n_din, n_dget, n_dget2, n_glst, n_sfld, n_aug, n_meth, n_mw, n_make, n_kw, n_rLs, n_dcp, n_ext, n_revL, n_rTp, t_im, ints_rev, t_s1, t_i1, t_i2, t_i3, t_i4, t_i5, x_chain3, x_irng3, x_irevR, x_rg1, x_rg2, ints_cat, ints_app1, ints_len, ints_take, ints_drop, rep_one])
local macro_rules | `(tactic| wtm_at "mem") => `(tactic| first | (with_reducible exact mem_here) | (with_reducible refine mem_there ?_; wtm_at "mem"))
local macro_rules | `(tactic| wtm_at "pp") => `(tactic| first | (with_reducible exact Put.here) | (with_reducible apply Put.there; wtm_at "pp"))
local macro_rules | `(tactic| wtm_at "ho") => `(tactic| first | (with_reducible assumption) | exact Own.get (by with_reducible assumption) (by wtm_at "mem") | exact Own.base (by with_reducible assumption) (by with_reducible assumption))
local macro_rules | `(tactic| wtm_at "qo") => `(tactic| first | (with_reducible assumption) | exact SqL.of (by wtm_at "ho") | exact sqT_tupI (by wtm_at "ho") | exact sqT_tupS (by wtm_at "ho") | exact SqT.of (by wtm_at "ho") | exact Own.imT (by with_reducible assumption) (by wtm_at "mem") | exact Own.sq (by with_reducible assumption) (by with_reducible assumption) | exact Own.sqT (by with_reducible assumption) (by with_reducible assumption))
local macro_rules | `(tactic| wtm_at "sub") => `(tactic| first | exact List.nil_sublist _ | (with_reducible refine List.Sublist.cons_cons _ ?_; wtm_at "sub") | (refine List.Sublist.cons _ ?_; wtm_at "sub"))
local macro_rules | `(tactic| wtm_at "co") => `(tactic| first | (with_reducible assumption) | omega | (exact cmul_r (by omega) (by omega)) | (exact cmul_l (by omega) (by omega)) | (exact cdiv_ok (by omega) (by omega)) | (exact cpow_ok (by decide)) | (exact ⟨by omega, by omega, by omega⟩) | decide | (exact ⟨by omega, by omega⟩) | (simp only [List.length_append, List.length_map, List.length_set, List.length_cons, List.length_nil, rngL_len, sizeLine_eq]; omega) | wtm_at "ho" | wtm_at "qo")
local macro_rules | `(tactic| wtm_at "so") => `(tactic| first | ((with_reducible refine g_dcp ?_); refine dcpI (by wtm_at "ho") ?_) | ((with_reducible refine g_asl ?_); refine And.intro (by rfl) ?_) | ((with_reducible refine g_asqT ?_); refine and_sqT (by wtm_at "qo") ?_) | ((with_reducible refine g_extO ?_); first | (refine extI (by with_reducible assumption) (by wtm_at "pp") (by wtm_at "co") (fun _ _ => ?_)) | (refine extO (by with_reducible assumption) (by wtm_at "pp") (by wtm_at "co") (fun _ _ => ?_))) | ((with_reducible refine g_tp ?_); first | (refine tp_l (by wtm_at "qo") ?_) | (refine tp_t (by wtm_at "qo") ?_)) | ((with_reducible refine g_dputO ?_); refine dputI (by with_reducible assumption) (by wtm_at "pp") (by wtm_at "co") (fun _ _ => ?_)) | ((with_reducible refine g_dinO ?_); refine dinI (by wtm_at "ho") ?_) | ((with_reducible refine g_isDO ?_); refine isDO (by wtm_at "ho") ?_) | ((with_reducible refine g_dg2 ?_); refine dg2I (by wtm_at "ho") ?_) | ((with_reducible refine g_fldO ?_); refine fldO (by wtm_at "ho") (by with_reducible assumption) (by wtm_at "mem") (by wtm_at "lk") ?_) | ((with_reducible refine g_fldC ?_); refine fldC (by wtm_at "ho") (by with_reducible assumption) (by wtm_at "mem") (by wtm_at "lk") ?_) | ((with_reducible refine g_putC ?_); refine putC (by with_reducible assumption) (by wtm_at "pp") (by wtm_at "pu") (by wtm_at "co") (fun _ _ => ?_)) | ((with_reducible refine g_stoO ?_); refine stoO (by with_reducible assumption) (by wtm_at "pp") (by wtm_at "pu") (by with_reducible assumption) (by wtm_at "mem") (by wtm_at "co") (fun _ _ => ?_)) | ((with_reducible refine g_metO ?_); refine metO (by wtm_at "ho") (by wtm_at "ln") ?_) | ((with_reducible refine g_makO ?_); refine makO (by with_reducible assumption) (fun _ _ _ _ => ?_)) | ((with_reducible refine g_sum ?_); refine sum_call (by wtm_at "qo") ?_) | ((with_reducible refine g_cq ?_); exact cq (by with_reducible assumption) (by simp only [rngL_len, List.length_map, List.length_take]; omega)) | ((with_reducible refine g_newO ?_); refine newO (by with_reducible assumption) (fun _ _ _ => ?_)) | ((with_reducible refine g_appO ?_); refine appI (by with_reducible assumption) (by wtm_at "pp") (by wtm_at "co") (fun _ _ => ?_)) | ((with_reducible refine g_setO ?_); refine setI (by with_reducible assumption) (by wtm_at "pp") (by omega) (by wtm_at "co") (fun _ _ => ?_)) | ((with_reducible refine g_appO ?_); refine appO (by with_reducible assumption) (by wtm_at "pp") (by wtm_at "co") (fun _ _ => ?_)) | ((with_reducible refine g_setO ?_); refine setO (by with_reducible assumption) (by wtm_at "pp") (by omega) (by wtm_at "co") (fun _ _ => ?_)) | ((with_reducible refine g_at ?_); refine at_call (by wtm_at "qo") (by omega) (by omega) (fun _ _ => ?_)) | ((with_reducible refine g_int ?_); refine int_call ?_) | ((with_reducible refine g_isi ?_); first | (with_reducible refine isi_ii ?_) | (with_reducible refine isi_ib ?_) | (refine isi_int rfl ?_) | (refine isi_sqL rfl (by wtm_at "qo") ?_) | (refine isi_sqT rfl (by wtm_at "qo") ?_) | (refine isi_bl rfl ?_) | (refine isi_non rfl ?_) | (refine isi_str rfl ?_)) | ((with_reducible refine g_ned ?_); first | (refine ned_f (dq_lst (by wtm_at "qo")) (dq_lst (by wtm_at "qo")) ?_) | (refine ned_ints (by wtm_at "qo") (by wtm_at "qo") ?_) | (refine nedT_ints (by wtm_at "qo") (by wtm_at "qo") ?_)) | ((with_reducible refine g_eqd ?_); first | (refine eqd_t (dq_lst (by wtm_at "qo")) (dq_lst (by wtm_at "qo")) ?_) | (refine eqd_ints (by wtm_at "qo") (by wtm_at "qo") ?_) | (refine eqdT_ints (by wtm_at "qo") (by wtm_at "qo") ?_)) | ((with_reducible refine g_tyv ?_); refine and_tyv (by wtm_at "qo") ?_) | ((with_reducible refine g_asq ?_); refine and_sq (by wtm_at "qo") ?_) | ((with_reducible refine g_lst ?_); refine ex_lst (by wtm_at "ho") ?_) | ((with_reducible refine g_or ?_); first | (refine ex_or (by wtm_at "qo") ?_) | (refine ex_ort (by wtm_at "qo") ?_)) | ((with_reducible refine g_sq ?_); refine ex_sq (by wtm_at "qo") ?_) | ((with_reducible refine g_sqt ?_); refine ex_sqt (by wtm_at "qo") ?_) | ((with_reducible refine gd_sel ?_); first | (refine sel_p (by wtm_at "pf") ?_) | (refine sel_n (by wtm_at "pf") ?_)) | ((with_reducible refine gn_sel ?_); first | (refine selN_p (by wtm_at "pf") ?_) | (refine selN_n (by wtm_at "pf") ?_)) | ((with_reducible refine gd_selT ?_); first | (refine selT_p (by wtm_at "pf") ?_) | (refine selT_n (by wtm_at "pf") ?_)) | ((with_reducible refine gn_selT ?_); first | (refine selTN_p (by wtm_at "pf") ?_) | (refine selTN_n (by wtm_at "pf") ?_)) | ((with_reducible refine gd_selE ?_); first | (refine selE_p (by wtm_at "pf") ?_) | (refine selE_n (by wtm_at "pf") ?_)) | ((with_reducible refine gn_selE ?_); first | (refine selEN_p (by wtm_at "pf") ?_) | (refine selEN_n (by wtm_at "pf") ?_)) | ((with_reducible refine g_xf ?_); refine xf_at rfl (by wtm_at "ho") ?_) | ((with_reducible refine g_atI ?_); refine ex_at (by first | exact rfl | exact atI_int (by omega) (by wtm_at "pf") | exact atI_end (by wtm_at "pf")) ?_) | ((with_reducible refine g_and ?_); refine And.intro (by wtm_at "co") ?_))
local macro_rules | `(tactic| wtm_at "oo") => `(tactic| repeat (first | wtm_at "xo" | wtm_at "so"))
local macro_rules | `(tactic| wtm_at "cR") => `(tactic| (refine' compRi _ (by with_reducible assumption) (by omega) (fun _ _ _ _ _ => ?_) (fun _ _ _ => ?_); rotate_left; focus (wtm_at "oo")))

local macro_rules | `(tactic| wtm_at "lk") => `(tactic| first | (with_reducible exact lk_here) | (simp only [lk_here, lk_skip, lk_nil, nb_0_0, nb_0_1, nb_0_2, nb_0_3, nb_0_4, nb_0_5, nb_0_6, nb_0_7, nb_1_1, nb_1_2, nb_1_3, nb_1_4, nb_1_5, nb_1_6, nb_1_7, nb_2_0, nb_2_2, nb_2_3, nb_2_4, nb_2_5, nb_2_6, nb_2_7, nb_3_0, nb_3_1, nb_3_2, nb_3_3, nb_3_4, nb_3_5, nb_3_6, nb_3_7, nb_4_0, nb_4_1, nb_4_2, nb_4_3, nb_4_4, nb_4_5, nb_4_6, nb_4_7, nb_5_0, nb_5_1, nb_5_3, nb_5_4, nb_5_5, nb_5_6, nb_5_7, nb_6_0, nb_6_1, nb_6_2, nb_6_3, nb_6_4, nb_6_5, nb_6_6, nb_6_7, nb_7_0, nb_7_1, nb_7_2, nb_7_4, nb_7_5, nb_7_6, nb_7_7, nb_8_0, nb_8_1, nb_8_2, nb_8_3, nb_8_4, nb_8_5, nb_8_6, nb_8_7, nb_9_0, nb_9_1, nb_9_2, nb_9_3, nb_9_4, nb_9_5, nb_9_6, nb_9_7, nb_10_0, nb_10_1, nb_10_2, nb_10_3, nb_10_5, nb_10_6, nb_10_7, nb_11_0, nb_11_1, nb_11_2, nb_11_3, nb_11_4, nb_11_6, nb_11_7, nb_12_0, nb_12_1, nb_12_2, nb_12_3, nb_12_4, nb_12_5, nb_12_7, nb_13_0, nb_13_1, nb_13_2, nb_13_3, nb_13_4, nb_13_5, nb_13_6, nb_13_7, nb_14_0, nb_14_1, nb_14_2, nb_14_3, nb_14_4, nb_14_5, nb_14_6, nb_15_0, nb_15_1, nb_15_2, nb_15_3, nb_15_4, nb_15_5, nb_15_6, nb_15_7, nb_16_0, nb_16_1, nb_16_2, nb_16_3, nb_16_4, nb_16_5, nb_16_6, nb_16_7, nb_17_0, nb_17_1, nb_17_2, nb_17_3, nb_17_4, nb_17_5, nb_17_6, nb_17_7, nb_18_0, nb_18_1, nb_18_2, nb_18_3, nb_18_4, nb_18_5, nb_18_6, nb_18_7, nb_19_0, nb_19_1, nb_19_2, nb_19_3, nb_19_4, nb_19_5, nb_19_6, nb_19_7, nb_20_0, nb_20_1, nb_20_2, nb_20_3, nb_20_4, nb_20_5, nb_20_6, nb_20_7, nb_21_0, nb_21_1, nb_21_2, nb_21_3, nb_21_4, nb_21_5, nb_21_6, nb_21_7, nb_22_0, nb_22_1, nb_22_2, nb_22_3, nb_22_4, nb_22_5, nb_22_6, nb_22_7, nb_23_0, nb_23_1, nb_23_2, nb_23_3, nb_23_4, nb_23_5, nb_23_6, nb_23_7, nb_24_0, nb_24_1, nb_24_2, nb_24_3, nb_24_4, nb_24_5, nb_24_6, nb_24_7, nb_25_0, nb_25_1, nb_25_2, nb_25_3, nb_25_4, nb_25_5, nb_25_6, nb_25_7, nb_26_0, nb_26_1, nb_26_2, nb_26_3, nb_26_4, nb_26_5, nb_26_6, nb_26_7]; first | done | exact rfl))
local macro_rules | `(tactic| wtm_at "ln") => `(tactic| first | (with_reducible exact lk_nil) | (simp only [lk_skip, lk_nil, nb_0_0, nb_0_1, nb_0_2, nb_0_3, nb_0_4, nb_0_5, nb_0_6, nb_0_7, nb_1_1, nb_1_2, nb_1_3, nb_1_4, nb_1_5, nb_1_6, nb_1_7, nb_2_0, nb_2_2, nb_2_3, nb_2_4, nb_2_5, nb_2_6, nb_2_7, nb_3_0, nb_3_1, nb_3_2, nb_3_3, nb_3_4, nb_3_5, nb_3_6, nb_3_7, nb_4_0, nb_4_1, nb_4_2, nb_4_3, nb_4_4, nb_4_5, nb_4_6, nb_4_7, nb_5_0, nb_5_1, nb_5_3, nb_5_4, nb_5_5, nb_5_6, nb_5_7, nb_6_0, nb_6_1, nb_6_2, nb_6_3, nb_6_4, nb_6_5, nb_6_6, nb_6_7, nb_7_0, nb_7_1, nb_7_2, nb_7_4, nb_7_5, nb_7_6, nb_7_7, nb_8_0, nb_8_1, nb_8_2, nb_8_3, nb_8_4, nb_8_5, nb_8_6, nb_8_7, nb_9_0, nb_9_1, nb_9_2, nb_9_3, nb_9_4, nb_9_5, nb_9_6, nb_9_7, nb_10_0, nb_10_1, nb_10_2, nb_10_3, nb_10_5, nb_10_6, nb_10_7, nb_11_0, nb_11_1, nb_11_2, nb_11_3, nb_11_4, nb_11_6, nb_11_7, nb_12_0, nb_12_1, nb_12_2, nb_12_3, nb_12_4, nb_12_5, nb_12_7, nb_13_0, nb_13_1, nb_13_2, nb_13_3, nb_13_4, nb_13_5, nb_13_6, nb_13_7, nb_14_0, nb_14_1, nb_14_2, nb_14_3, nb_14_4, nb_14_5, nb_14_6, nb_15_0, nb_15_1, nb_15_2, nb_15_3, nb_15_4, nb_15_5, nb_15_6, nb_15_7, nb_16_0, nb_16_1, nb_16_2, nb_16_3, nb_16_4, nb_16_5, nb_16_6, nb_16_7, nb_17_0, nb_17_1, nb_17_2, nb_17_3, nb_17_4, nb_17_5, nb_17_6, nb_17_7, nb_18_0, nb_18_1, nb_18_2, nb_18_3, nb_18_4, nb_18_5, nb_18_6, nb_18_7, nb_19_0, nb_19_1, nb_19_2, nb_19_3, nb_19_4, nb_19_5, nb_19_6, nb_19_7, nb_20_0, nb_20_1, nb_20_2, nb_20_3, nb_20_4, nb_20_5, nb_20_6, nb_20_7, nb_21_0, nb_21_1, nb_21_2, nb_21_3, nb_21_4, nb_21_5, nb_21_6, nb_21_7, nb_22_0, nb_22_1, nb_22_2, nb_22_3, nb_22_4, nb_22_5, nb_22_6, nb_22_7, nb_23_0, nb_23_1, nb_23_2, nb_23_3, nb_23_4, nb_23_5, nb_23_6, nb_23_7, nb_24_0, nb_24_1, nb_24_2, nb_24_3, nb_24_4, nb_24_5, nb_24_6, nb_24_7, nb_25_0, nb_25_1, nb_25_2, nb_25_3, nb_25_4, nb_25_5, nb_25_6, nb_25_7, nb_26_0, nb_26_1, nb_26_2, nb_26_3, nb_26_4, nb_26_5, nb_26_6, nb_26_7]; done))
local macro_rules | `(tactic| wtm_at "pu") => `(tactic| first | (with_reducible exact pf_nil) | (simp only [pf_nil, pf_here, pf_skip, nb_0_0, nb_0_1, nb_0_2, nb_0_3, nb_0_4, nb_0_5, nb_0_6, nb_0_7, nb_1_1, nb_1_2, nb_1_3, nb_1_4, nb_1_5, nb_1_6, nb_1_7, nb_2_0, nb_2_2, nb_2_3, nb_2_4, nb_2_5, nb_2_6, nb_2_7, nb_3_0, nb_3_1, nb_3_2, nb_3_3, nb_3_4, nb_3_5, nb_3_6, nb_3_7, nb_4_0, nb_4_1, nb_4_2, nb_4_3, nb_4_4, nb_4_5, nb_4_6, nb_4_7, nb_5_0, nb_5_1, nb_5_3, nb_5_4, nb_5_5, nb_5_6, nb_5_7, nb_6_0, nb_6_1, nb_6_2, nb_6_3, nb_6_4, nb_6_5, nb_6_6, nb_6_7, nb_7_0, nb_7_1, nb_7_2, nb_7_4, nb_7_5, nb_7_6, nb_7_7, nb_8_0, nb_8_1, nb_8_2, nb_8_3, nb_8_4, nb_8_5, nb_8_6, nb_8_7, nb_9_0, nb_9_1, nb_9_2, nb_9_3, nb_9_4, nb_9_5, nb_9_6, nb_9_7, nb_10_0, nb_10_1, nb_10_2, nb_10_3, nb_10_5, nb_10_6, nb_10_7, nb_11_0, nb_11_1, nb_11_2, nb_11_3, nb_11_4, nb_11_6, nb_11_7, nb_12_0, nb_12_1, nb_12_2, nb_12_3, nb_12_4, nb_12_5, nb_12_7, nb_13_0, nb_13_1, nb_13_2, nb_13_3, nb_13_4, nb_13_5, nb_13_6, nb_13_7, nb_14_0, nb_14_1, nb_14_2, nb_14_3, nb_14_4, nb_14_5, nb_14_6, nb_15_0, nb_15_1, nb_15_2, nb_15_3, nb_15_4, nb_15_5, nb_15_6, nb_15_7, nb_16_0, nb_16_1, nb_16_2, nb_16_3, nb_16_4, nb_16_5, nb_16_6, nb_16_7, nb_17_0, nb_17_1, nb_17_2, nb_17_3, nb_17_4, nb_17_5, nb_17_6, nb_17_7, nb_18_0, nb_18_1, nb_18_2, nb_18_3, nb_18_4, nb_18_5, nb_18_6, nb_18_7, nb_19_0, nb_19_1, nb_19_2, nb_19_3, nb_19_4, nb_19_5, nb_19_6, nb_19_7, nb_20_0, nb_20_1, nb_20_2, nb_20_3, nb_20_4, nb_20_5, nb_20_6, nb_20_7, nb_21_0, nb_21_1, nb_21_2, nb_21_3, nb_21_4, nb_21_5, nb_21_6, nb_21_7, nb_22_0, nb_22_1, nb_22_2, nb_22_3, nb_22_4, nb_22_5, nb_22_6, nb_22_7, nb_23_0, nb_23_1, nb_23_2, nb_23_3, nb_23_4, nb_23_5, nb_23_6, nb_23_7, nb_24_0, nb_24_1, nb_24_2, nb_24_3, nb_24_4, nb_24_5, nb_24_6, nb_24_7, nb_25_0, nb_25_1, nb_25_2, nb_25_3, nb_25_4, nb_25_5, nb_25_6, nb_25_7, nb_26_0, nb_26_1, nb_26_2, nb_26_3, nb_26_4, nb_26_5, nb_26_6, nb_26_7]; first | done | exact rfl))
local macro_rules | `(tactic| wtm_at "tk") => `(tactic| first | (with_reducible exact Take.here) | (exact Take.here) | ((with_reducible apply Take.there); wtm_at "tk"))
local macro_rules | `(tactic| wtm_at "pk") => `(tactic| first | exact Pick.nil | ((with_reducible refine' Pick.cons ?tk1 ?pk1); (case tk1 => wtm_at "tk"); (case pk1 => wtm_at "pk")) | ((with_reducible refine Pick.im (by wtm_at "mem") ?_); wtm_at "pk") | ((with_reducible refine Pick.ims (by wtm_at "mem") ?_); wtm_at "pk"))
section
variable {P : Program} {w : World} {K : PySem.W.Frag} {mg : Str → Option Value} {base : Heap}
/-! ### chains of places with one bucket -/
def bkL (L : List Int) : Int := (961 * L.getD 0 0 + 31 * L.getD 1 0 + L.getD 2 0) % 4096
def bk (hs : List Int) (p : Nat) : Int := bkL (sl3 hs (p : Int))
/-- the last place below n in a bucket -/
def prv (hs : List Int) (b : Int) : Nat → Int
  | 0 => -1
  | n + 1 => if bk hs n = b then (n : Int) else prv hs b n
theorem prv_is (hs : List Int) (b : Int) : ∀ n, (prv hs b n = -1 ∨ ∃ p : Nat, prv hs b n = (p : Int) ∧ p < n ∧ bk hs p = b) ∧ ∀ p : Nat, prv hs b n < (p : Int) → p < n → bk hs p ≠ b
  | 0 => ⟨.inl rfl, fun p _ h => absurd h (Nat.not_lt_zero _)⟩
  | n + 1 => by
    obtain ⟨h1, h2⟩ := prv_is hs b n
    have es : prv hs b (n + 1) = if bk hs n = b then (n : Int) else prv hs b n := rfl
    by_cases c : bk hs n = b
    · rw [es, if_pos c]
      exact ⟨.inr ⟨n, rfl, by omega, c⟩, fun p h3 h4 => by omega⟩
    · rw [es, if_neg c]
      refine ⟨h1.imp id fun ⟨p, e, hp, hb⟩ => ⟨p, e, by omega, hb⟩, fun p h3 h4 => ?_⟩
      by_cases e : p = n
      · rw [e]
        exact c
      · exact h2 p h3 (by omega)
theorem prv_lo (hs : List Int) (b : Int) (n : Nat) : -1 ≤ prv hs b n ∧ prv hs b n < n := by
  rcases (prv_is hs b n).1 with e | ⟨p, e, h, _⟩ <;> rw [e] <;> omega
theorem sl3_grow {hs xs : List Int} {p : Int} (h0 : 0 ≤ p) (h : p + 3 ≤ hs.length) : sl3 (hs ++ xs) p = sl3 hs p := by
  unfold sl3
  rw [List.drop_append_of_le_length (by omega), List.take_append_of_le_length (by rw [List.length_drop]; omega)]
theorem bk_grow {hs xs : List Int} {p : Nat} (h : p + 3 ≤ hs.length) : bk (hs ++ xs) p = bk hs p := by
  unfold bk
  rw [sl3_grow (by omega) (by omega)]
theorem prv_grow {hs xs : List Int} (b : Int) : ∀ n, n = 0 ∨ n + 2 ≤ hs.length → prv (hs ++ xs) b n = prv hs b n
  | 0, _ => rfl
  | n + 1, h => by
    have e1 := bk_grow (hs := hs) (xs := xs) (p := n) (by omega)
    have e2 := prv_grow (hs := hs) (xs := xs) b n (by omega)
    show (if bk (hs ++ xs) n = b then (n : Int) else prv (hs ++ xs) b n) = _
    rw [e1, e2]
    rfl
/-- what stands before each place that was entered -/
def befL (hs : List Int) (e : Nat) : List Int := rngL (fun p => prv hs (bk hs p) p) e
theorem befL_grow {hs xs : List Int} {e : Nat} (h : e = 0 ∨ e + 2 ≤ hs.length) : befL (hs ++ xs) e = befL hs e := by
  unfold befL rngL
  refine List.map_congr_left fun p m => ?_
  have := List.mem_range.mp m
  rw [bk_grow (by omega), prv_grow _ _ (by omega)]
structure ChSt (hs : List Int) (e : Nat) (kvs : List (Key × V)) : Prop where
  fit : e = 0 ∨ e + 2 ≤ hs.length
  get : ∀ b : Int, (valV kvs (.inl b)).getD (.int (-1)) = .int (prv hs b e)
  len : kvs.length ≤ e
theorem ChSt.grow {hs xs : List Int} {e : Nat} {kvs : List (Key × V)} (h : ChSt hs e kvs) : ChSt (hs ++ xs) e kvs :=
  ⟨by have := h.fit; rw [List.length_append]; omega, fun b => by rw [h.get b, prv_grow b e h.fit], h.len⟩
theorem ChSt.zero (hs : List Int) : ChSt hs 0 [] := ⟨.inl rfl, fun b => rfl, Nat.le_refl 0⟩
theorem ChSt.put {hs : List Int} {e : Nat} {kvs : List (Key × V)} (h : ChSt hs e kvs) (hf : e + 3 ≤ hs.length) : ChSt hs (e + 1) (putK kvs (.inl (bk hs e)) (.int (e : Int))) := by
  refine ⟨.inr (by omega), fun b => ?_, ?_⟩
  · rw [valV_put]
    show _ = V.int (if bk hs e = b then (e : Int) else prv hs b e)
    by_cases c : bk hs e = b
    · rw [if_pos c, if_pos (by rw [c])]
      rfl
    · rw [if_neg c, if_neg (fun z => c (Sum.inl.inj z).symm)]
      exact h.get b
  · have := length_putK kvs (.inl (bk hs e)) (.int (e : Int))
    have := h.len
    omega
/-- the candidates among the first n places below i -/
def candN (hs : List Int) (i f w : Int) (n : Nat) : List Int := ((List.range n).filter (candI hs i f w)).map fun k : Nat => i - 1 - (k : Int)
theorem candN_succ {hs : List Int} {i f w : Int} {n : Nat} : candN hs i f w (n + 1) = if candI hs i f w n = true then candN hs i f w n ++ [i - 1 - (n : Int)] else candN hs i f w n := by
  unfold candN
  rw [List.range_succ, List.filter_append, List.map_append]
  by_cases c : candI hs i f w n = true
  · rw [if_pos c, List.filter_cons_of_pos c]
    rfl
  · rw [if_neg c, List.filter_cons_of_neg c]
    exact List.append_nil _
theorem candN_same {hs : List Int} {i f w : Int} {n : Nat} : ∀ {m : Nat}, n ≤ m → (∀ k, n ≤ k → k < m → ¬ candI hs i f w k = true) → candN hs i f w m = candN hs i f w n
  | 0, h, _ => by
    obtain rfl : n = 0 := by omega
    rfl
  | m + 1, h, g => by
    by_cases e : n = m + 1
    · rw [e]
    · rw [candN_succ, if_neg (g m (by omega) (by omega))]
      exact candN_same (by omega) fun k h1 h2 => g k h1 (by omega)
theorem candN_pre {hs : List Int} {i f w : Int} {n : Nat} : ∀ {m : Nat}, n ≤ m → ∃ r, candN hs i f w m = candN hs i f w n ++ r
  | 0, h => by
    obtain rfl : n = 0 := by omega
    exact ⟨[], (List.append_nil _).symm⟩
  | m + 1, h => by
    by_cases e : n = m + 1
    · exact ⟨[], by rw [e, List.append_nil]⟩
    · obtain ⟨r, hr⟩ := candN_pre (hs := hs) (i := i) (f := f) (w := w) (n := n) (m := m) (by omega)
      rw [candN_succ, hr]
      split
      · exact ⟨r ++ [i - 1 - (m : Int)], by rw [List.append_assoc]⟩
      · exact ⟨r, rfl⟩
theorem cand_N {hs : List Int} {i f w : Int} (h : i + 3 ≤ hs.length) : cand hs i f w = candN hs i f w i.toNat := by
  unfold cand candN
  rw [if_pos h]
/-- between a place and the one before it there is no candidate -/
theorem chain_gap {hs : List Int} {i f w : Int} {p : Nat} {n m : Nat} (hb : bk hs p = bk hs i.toNat) (h0 : 0 ≤ i) (hn : i - 1 - (n : Int) = p) (hm : i - 1 - (m : Int) = prv hs (bk hs p) p) : ∀ k, n + 1 ≤ k → k < m → ¬ candI hs i f w k = true := by
  intro k h1 h2 z
  unfold candI at z
  obtain ⟨_, _, z3⟩ := of_decide_eq_true z
  have hq : bk hs (i - 1 - (k : Int)).toNat = bk hs i.toNat := by
    have hp := (prv_lo hs (bk hs p) p).1
    unfold bk
    rw [show (((i - 1 - (k : Int)).toNat : Nat) : Int) = i - 1 - (k : Int) by omega, show ((i.toNat : Nat) : Int) = i by omega, z3]
  have hp := (prv_lo hs (bk hs p) p).1
  exact (prv_is hs (bk hs p) p).2 (i - 1 - (k : Int)).toNat (by omega) (by omega) (by rw [hq, hb])
theorem first_gap {hs : List Int} {i f w : Int} {m : Nat} (h0 : 0 ≤ i) (hm : i - 1 - (m : Int) = prv hs (bk hs i.toNat) i.toNat) : ∀ k, 0 ≤ k → k < m → ¬ candI hs i f w k = true := by
  intro k _ h2 z
  unfold candI at z
  obtain ⟨_, _, z3⟩ := of_decide_eq_true z
  have hp := (prv_lo hs (bk hs i.toNat) i.toNat).1
  have hq : bk hs (i - 1 - (k : Int)).toNat = bk hs i.toNat := by
    unfold bk
    rw [show (((i - 1 - (k : Int)).toNat : Nat) : Int) = i - 1 - (k : Int) by omega, show ((i.toNat : Nat) : Int) = i by omega, z3]
  exact (prv_is hs (bk hs i.toNat) i.toNat).2 (i - 1 - (k : Int)).toNat (by omega) (by omega) hq


end
end K52

namespace K52
open PySem PySem.Spec PyProof.Rows L2 Bel
local macro_rules | `(tactic| wtm_at "xs") => `(tactic| simp only [x_next, x_seq, x_brk, x_cont, x_drop, x_ret, x_retN, x_if, sel_t, sel_f, selE_t, selE_f, selT_t, selT_f, selC_t, selC_f, x_test, x_tB, x_op, x_un, x_var, x_c, x_cb, x_nil, x_cons, x_rI, x_rI0, x_rU, x_rEq, x_rNe, x_rIxL, x_rIxT, x_rSlL, x_rCat, x_rRep, x_rApp, x_bm, x_bm0, x_sl, x_nopart, x_part, x_tup, x_lst, x_call, x_callS, x_asg, x_gname, x_gtup, x_gnil, x_gcons, x_gsub, x_setL, x_aug, x_ipI, x_ipC, x_bits, x_getL, x_augS, x_and, x_or, x_not, x_k, x_andV, x_orV, x_notV, x_ife, x_chain, x_for, x_ilist, x_itup, x_ienum, x_irng1, x_irng2, x_irev, x_lc, x_yes, wipe_nil, wipe_cons, List.map_cons, List.map_nil, x_misc, x_misc2, x_rz, lookup_at, Bool.not_true, Bool.not_false, decide_true, decide_false, not_true, not_false_eq_true, and_assoc, exists_and_left, exists_eq_left', exists_eq_left, exists_eq', exists_eq_right', exists_eq_right, V.int.injEq, V.ref.injEq, V.bl.injEq, V.str.injEq, List.cons.injEq, and_true, true_and, and_self, Option.some.injEq, List.cons_append, List.nil_append, List.append_nil, List.getElem?_cons_zero, List.getElem?_cons_succ, List.set_cons_zero, List.set_cons_succ, reduceCtorEq, false_and, and_false, exists_false, exists_const, or_false, false_or, scal_ii, scal_bb, scal_ss, List.length_cons, List.length_nil, Int.reduceToNat, Int.reducePow])
local macro_rules | `(tactic| k_call_by "xs" $h:term) => `(tactic| simp only [$h:term, x_next, x_seq, x_brk, x_cont, x_drop, x_ret, x_retN, x_if, sel_t, sel_f, selE_t, selE_f, selT_t, selT_f, selC_t, selC_f, x_test, x_tB, x_op, x_un, x_var, x_c, x_cb, x_nil, x_cons, x_rI, x_rI0, x_rU, x_rEq, x_rNe, x_rIxL, x_rIxT, x_rSlL, x_rCat, x_rRep, x_rApp, x_bm, x_bm0, x_sl, x_nopart, x_part, x_tup, x_lst, x_call, x_callS, x_asg, x_gname, x_gtup, x_gnil, x_gcons, x_gsub, x_setL, x_aug, x_ipI, x_ipC, x_bits, x_getL, x_augS, x_and, x_or, x_not, x_k, x_andV, x_orV, x_notV, x_ife, x_chain, x_for, x_ilist, x_itup, x_ienum, x_irng1, x_irng2, x_irev, x_lc, x_yes, wipe_nil, wipe_cons, List.map_cons, List.map_nil, x_misc, x_misc2, x_rz, lookup_at, Bool.not_true, Bool.not_false, decide_true, decide_false, not_true, not_false_eq_true, and_assoc, exists_and_left, exists_eq_left', exists_eq_left, exists_eq', exists_eq_right', exists_eq_right, V.int.injEq, V.ref.injEq, V.bl.injEq, V.str.injEq, List.cons.injEq, and_true, true_and, and_self, Option.some.injEq, List.cons_append, List.nil_append, List.append_nil, List.getElem?_cons_zero, List.getElem?_cons_succ, List.set_cons_zero, List.set_cons_succ, reduceCtorEq, false_and, and_false, exists_false, exists_const, or_false, false_or, scal_ii, scal_bb, scal_ss, List.length_cons, List.length_nil, Int.reduceToNat, Int.reducePow])
local macro_rules | `(tactic| wtm_at "hp") => `(tactic| first | (with_reducible assumption) | exact upd_same | (refine upd_keep (by with_reducible assumption) ?_; wtm_at "hp") | (refine Same.get (by with_reducible assumption) ?_; wtm_at "hp") | (refine upd_other (by first | (with_reducible assumption) | exact Ne.symm (by with_reducible assumption)) ?_; wtm_at "hp"))
local macro_rules | `(tactic| wtm_at "sq") => `(tactic| first | (with_reducible assumption) | exact SqL.of (by wtm_at "hp") | exact SqT.of (by wtm_at "hp") | (refine Same.seq (same_upd (by with_reducible assumption)) ?_; wtm_at "sq") | (refine Same.seq (by with_reducible assumption) ?_; wtm_at "sq") | (refine Same.seqT (same_upd (by with_reducible assumption)) ?_; wtm_at "sq") | (refine Same.seqT (by with_reducible assumption) ?_; wtm_at "sq"))
local macro_rules | `(tactic| wtm_at "cl") => `(tactic| first | (with_reducible assumption) | omega | (exact cmul_r (by omega) (by omega)) | (exact cmul_l (by omega) (by omega)) | (exact cdiv_ok (by omega) (by omega)) | (exact cpow_ok (by decide)) | (exact ⟨by omega, by omega, by omega⟩) | decide | (exact ⟨by omega, by omega⟩) | (simp only [List.length_append, List.length_map, List.length_set, List.length_cons, List.length_nil, rngL_len, sizeLine_eq]; omega) | wtm_at "hp" | wtm_at "sq")
local macro_rules | `(tactic| wtm_at "pf") => `(tactic| first | (with_reducible assumption) | omega | (simp only [List.length_append, List.length_map, List.length_set, List.length_cons, List.length_nil, rngL_len]; omega) | (with_reducible rfl) | (with_reducible trivial) | (with_reducible decide))
local macro_rules | `(tactic| wtm_at "st") => `(tactic| first | ((with_reducible refine g_at ?_); refine at_call (by wtm_at "sq") (by omega) (by omega) (fun _ _ => ?_)) | ((with_reducible refine g_int ?_); refine int_call ?_) | ((with_reducible refine g_isi ?_); first | (with_reducible refine isi_ii ?_) | (with_reducible refine isi_ib ?_) | (refine isi_int rfl ?_) | (refine isi_lst rfl (by wtm_at "hp") ?_) | (refine isi_tup rfl (by wtm_at "hp") ?_)) | ((with_reducible refine g_ned ?_); refine ned_f (dq_lst (by wtm_at "sq")) (dq_lst (by wtm_at "sq")) ?_) | ((with_reducible refine g_eqd ?_); refine eqd_t (dq_lst (by wtm_at "sq")) (dq_lst (by wtm_at "sq")) ?_) | ((with_reducible refine g_tyv ?_); refine and_tyv (by wtm_at "sq") ?_) | ((with_reducible refine g_asq ?_); refine and_sq (by wtm_at "sq") ?_) | ((with_reducible refine g_lst ?_); refine ex_lst (by wtm_at "hp") ?_) | ((with_reducible refine g_or ?_); first | (refine ex_or (by wtm_at "sq") ?_) | (refine ex_ort (by wtm_at "sq") ?_)) | ((with_reducible refine g_sq ?_); refine ex_sq (by wtm_at "sq") ?_) | ((with_reducible refine g_sqt ?_); refine ex_sqt (by wtm_at "sq") ?_) | ((with_reducible refine gd_sel ?_); first | (refine sel_p (by wtm_at "pf") ?_) | (refine sel_n (by wtm_at "pf") ?_)) | ((with_reducible refine gn_sel ?_); first | (refine selN_p (by wtm_at "pf") ?_) | (refine selN_n (by wtm_at "pf") ?_)) | ((with_reducible refine gd_selT ?_); first | (refine selT_p (by wtm_at "pf") ?_) | (refine selT_n (by wtm_at "pf") ?_)) | ((with_reducible refine gn_selT ?_); first | (refine selTN_p (by wtm_at "pf") ?_) | (refine selTN_n (by wtm_at "pf") ?_)) | ((with_reducible refine gd_selE ?_); first | (refine selE_p (by wtm_at "pf") ?_) | (refine selE_n (by wtm_at "pf") ?_)) | ((with_reducible refine gn_selE ?_); first | (refine selEN_p (by wtm_at "pf") ?_) | (refine selEN_n (by wtm_at "pf") ?_)) | ((with_reducible refine g_xf ?_); refine xf_at rfl (by wtm_at "hp") ?_) | ((with_reducible refine g_atI ?_); refine ex_at (by first | exact rfl | exact atI_int (by omega) (by wtm_at "pf") | exact atI_end (by wtm_at "pf")) ?_) | ((with_reducible refine g_and ?_); refine And.intro (by wtm_at "cl") ?_) | ((with_reducible refine g_new ?_); intro _ _))
local macro_rules | `(tactic| wtm_at "go") => `(tactic| repeat (first | wtm_at "xs" | wtm_at "st"))
local macro_rules | `(tactic| wtm_at "xo") => `(tactic| simp only [x_next, x_seq, x_brk, x_cont, x_drop, x_ret, x_retN, x_if, sel_t, sel_f, selE_t, selE_f, selT_t, selT_f, selC_t, selC_f, x_test, x_tB, x_op, x_un, x_var, x_c, x_cb, x_nil, x_cons, x_rI, x_rI0, x_rU, x_rEq, x_rNe, x_rIxL, x_rIxT, n_rSlL, n_rCat, n_rRep, n_rApp, x_bm, x_bm0, x_sl, x_nopart, x_part, n_tup, n_lst, x_call, x_callS, x_asg, x_gname, x_gtup, x_gnil, x_gcons, x_gsub, n_setL, x_aug, x_ipI, x_ipC, x_bits, x_getL, x_augS, x_and, x_or, x_not, x_k, x_andV, x_orV, x_notV, x_ife, x_chain, x_for, x_ilist, x_itup, x_ienum, x_irng1, x_irng2, x_irev, x_lc, x_yes, wipe_nil, wipe_cons, List.map_cons, List.map_nil, x_misc, x_misc2, x_rz, lookup_at, Bool.not_true, Bool.not_false, decide_true, decide_false, not_true, not_false_eq_true, and_assoc, exists_and_left, exists_eq_left', exists_eq_left, exists_eq', exists_eq_right', exists_eq_right, V.int.injEq, V.ref.injEq, V.bl.injEq, V.str.injEq, List.cons.injEq, and_true, true_and, and_self, Option.some.injEq, List.cons_append, List.nil_append, List.append_nil, List.getElem?_cons_zero, List.getElem?_cons_succ, List.set_cons_zero, List.set_cons_succ, reduceCtorEq, false_and, and_false, exists_false, exists_const, or_false, false_or, scal_ii, scal_bb, scal_ss, List.length_cons, List.length_nil, Int.reduceToNat, Int.reducePow, n_fld, n_dnew, n_dput, n_din, n_dget, n_dget2, n_glst, n_sfld, n_aug, n_meth, n_mw, n_make, n_kw, n_rLs, n_dcp, n_ext, n_revL, n_rTp, t_im, ints_rev, t_s1, t_i1, t_i2, t_i3, t_i4, t_i5, x_chain3, x_irng3, x_irevR, x_rg1, x_rg2, ints_cat, ints_app1, ints_len, ints_take, ints_drop, rep_one])
local macro_rules | `(tactic| k_call_by "xo" $h:term) => `(tactic| simp only [$h:term, x_next, x_seq, x_brk, x_cont, x_drop, x_ret, x_retN, x_if, sel_t, sel_f, selE_t, selE_f, selT_t, selT_f, selC_t, selC_f, x_test, x_tB, x_op, x_un, x_var, x_c, x_cb, x_nil, x_cons, x_rI, x_rI0, x_rU, x_rEq, x_rNe, x_rIxL, x_rIxT, n_rSlL, n_rCat, n_rRep, n_rApp, x_bm, x_bm0, x_sl, x_nopart, x_part, n_tup, n_lst, x_call, x_callS, x_asg, x_gname, x_gtup, x_gnil, x_gcons, x_gsub, n_setL, x_aug, x_ipI, x_ipC, x_bits, x_getL, x_augS, x_and, x_or, x_not, x_k, x_andV, x_orV, x_notV, x_ife, x_chain, x_for, x_ilist, x_itup, x_ienum, x_irng1, x_irng2, x_irev, x_lc, x_yes, wipe_nil, wipe_cons, List.map_cons, List.map_nil, x_misc, x_misc2, x_rz, lookup_at, Bool.not_true, Bool.not_false, decide_true, decide_false, not_true, not_false_eq_true, and_assoc, exists_and_left, exists_eq_left', exists_eq_left, exists_eq', exists_eq_right', exists_eq_right, V.int.injEq, V.ref.injEq, V.bl.injEq, V.str.injEq, List.cons.injEq, and_true, true_and, and_self, Option.some.injEq, List.cons_append, List.nil_append, List.append_nil, List.getElem?_cons_zero, List.getElem?_cons_succ, List.set_cons_zero, List.set_cons_succ, reduceCtorEq, false_and, and_false, exists_false, exists_const, or_false, false_or, scal_ii, scal_bb, scal_ss, List.length_cons, List.length_nil, Int.reduceToNat, Int.reducePow, n_fld, n_dnew, n_dput, n_din, n_dget, n_dget2, n_glst, n_sfld, n_aug, n_meth, n_mw, n_make, n_kw, n_rLs, n_dcp, n_ext, n_revL, n_rTp, t_im, ints_rev, t_s1, t_i1, t_i2, t_i3, t_i4, t_i5, x_chain3, x_irng3, x_irevR, x_rg1, x_rg2, ints_cat, ints_app1, ints_len, ints_take, ints_drop, rep_one])
local macro_rules | `(tactic| wtm_at "mem") => `(tactic| first | (with_reducible exact mem_here) | (with_reducible refine mem_there ?_; wtm_at "mem"))
local macro_rules | `(tactic| wtm_at "pp") => `(tactic| first | (with_reducible exact Put.here) | (with_reducible apply Put.there; wtm_at "pp"))
local macro_rules | `(tactic| wtm_at "ho") => `(tactic| first | (with_reducible assumption) | exact Own.get (by with_reducible assumption) (by wtm_at "mem") | exact Own.base (by with_reducible assumption) (by with_reducible assumption))
local macro_rules | `(tactic| wtm_at "qo") => `(tactic| first | (with_reducible assumption) | exact SqL.of (by wtm_at "ho") | exact sqT_tupI (by wtm_at "ho") | exact sqT_tupS (by wtm_at "ho") | exact SqT.of (by wtm_at "ho") | exact Own.imT (by with_reducible assumption) (by wtm_at "mem") | exact Own.sq (by with_reducible assumption) (by with_reducible assumption) | exact Own.sqT (by with_reducible assumption) (by with_reducible assumption))
local macro_rules | `(tactic| wtm_at "sub") => `(tactic| first | exact List.nil_sublist _ | (with_reducible refine List.Sublist.cons_cons _ ?_; wtm_at "sub") | (refine List.Sublist.cons _ ?_; wtm_at "sub"))
local macro_rules | `(tactic| wtm_at "co") => `(tactic| first | (with_reducible assumption) | omega | (exact cmul_r (by omega) (by omega)) | (exact cmul_l (by omega) (by omega)) | (exact cdiv_ok (by omega) (by omega)) | (exact cpow_ok (by decide)) | (exact ⟨by omega, by omega, by omega⟩) | decide | (exact ⟨by omega, by omega⟩) | (simp only [List.length_append, List.length_map, List.length_set, List.length_cons, List.length_nil, rngL_len, sizeLine_eq]; omega) | wtm_at "ho" | wtm_at "qo")
local macro_rules | `(tactic| wtm_at "so") => `(tactic| first | ((with_reducible refine g_dcp ?_); refine dcpI (by wtm_at "ho") ?_) | ((with_reducible refine g_asl ?_); refine And.intro (by rfl) ?_) | ((with_reducible refine g_asqT ?_); refine and_sqT (by wtm_at "qo") ?_) | ((with_reducible refine g_extO ?_); first | (refine extI (by with_reducible assumption) (by wtm_at "pp") (by wtm_at "co") (fun _ _ => ?_)) | (refine extO (by with_reducible assumption) (by wtm_at "pp") (by wtm_at "co") (fun _ _ => ?_))) | ((with_reducible refine g_tp ?_); first | (refine tp_l (by wtm_at "qo") ?_) | (refine tp_t (by wtm_at "qo") ?_)) | ((with_reducible refine g_dputO ?_); refine dputI (by with_reducible assumption) (by wtm_at "pp") (by wtm_at "co") (fun _ _ => ?_)) | ((with_reducible refine g_dinO ?_); refine dinI (by wtm_at "ho") ?_) | ((with_reducible refine g_isDO ?_); refine isDO (by wtm_at "ho") ?_) | ((with_reducible refine g_dg2 ?_); refine dg2I (by wtm_at "ho") ?_) | ((with_reducible refine g_fldO ?_); refine fldO (by wtm_at "ho") (by with_reducible assumption) (by wtm_at "mem") (by wtm_at "lk") ?_) | ((with_reducible refine g_fldC ?_); refine fldC (by wtm_at "ho") (by with_reducible assumption) (by wtm_at "mem") (by wtm_at "lk") ?_) | ((with_reducible refine g_putC ?_); refine putC (by with_reducible assumption) (by wtm_at "pp") (by wtm_at "pu") (by wtm_at "co") (fun _ _ => ?_)) | ((with_reducible refine g_stoO ?_); refine stoO (by with_reducible assumption) (by wtm_at "pp") (by wtm_at "pu") (by with_reducible assumption) (by wtm_at "mem") (by wtm_at "co") (fun _ _ => ?_)) | ((with_reducible refine g_metO ?_); refine metO (by wtm_at "ho") (by wtm_at "ln") ?_) | ((with_reducible refine g_makO ?_); refine makO (by with_reducible assumption) (fun _ _ _ _ => ?_)) | ((with_reducible refine g_sum ?_); refine sum_call (by wtm_at "qo") ?_) | ((with_reducible refine g_cq ?_); exact cq (by with_reducible assumption) (by simp only [rngL_len, List.length_map, List.length_take]; omega)) | ((with_reducible refine g_newO ?_); refine newO (by with_reducible assumption) (fun _ _ _ => ?_)) | ((with_reducible refine g_appO ?_); refine appI (by with_reducible assumption) (by wtm_at "pp") (by wtm_at "co") (fun _ _ => ?_)) | ((with_reducible refine g_setO ?_); refine setI (by with_reducible assumption) (by wtm_at "pp") (by omega) (by wtm_at "co") (fun _ _ => ?_)) | ((with_reducible refine g_appO ?_); refine appO (by with_reducible assumption) (by wtm_at "pp") (by wtm_at "co") (fun _ _ => ?_)) | ((with_reducible refine g_setO ?_); refine setO (by with_reducible assumption) (by wtm_at "pp") (by omega) (by wtm_at "co") (fun _ _ => ?_)) | ((with_reducible refine g_at ?_); refine at_call (by wtm_at "qo") (by omega) (by omega) (fun _ _ => ?_)) | ((with_reducible refine g_int ?_); refine int_call ?_) | ((with_reducible refine g_isi ?_); first | (with_reducible refine isi_ii ?_) | (with_reducible refine isi_ib ?_) | (refine isi_int rfl ?_) | (refine isi_sqL rfl (by wtm_at "qo") ?_) | (refine isi_sqT rfl (by wtm_at "qo") ?_) | (refine isi_bl rfl ?_) | (refine isi_non rfl ?_) | (refine isi_str rfl ?_)) | ((with_reducible refine g_ned ?_); first | (refine ned_f (dq_lst (by wtm_at "qo")) (dq_lst (by wtm_at "qo")) ?_) | (refine ned_ints (by wtm_at "qo") (by wtm_at "qo") ?_) | (refine nedT_ints (by wtm_at "qo") (by wtm_at "qo") ?_)) | ((with_reducible refine g_eqd ?_); first | (refine eqd_t (dq_lst (by wtm_at "qo")) (dq_lst (by wtm_at "qo")) ?_) | (refine eqd_ints (by wtm_at "qo") (by wtm_at "qo") ?_) | (refine eqdT_ints (by wtm_at "qo") (by wtm_at "qo") ?_)) | ((with_reducible refine g_tyv ?_); refine and_tyv (by wtm_at "qo") ?_) | ((with_reducible refine g_asq ?_); refine and_sq (by wtm_at "qo") ?_) | ((with_reducible refine g_lst ?_); refine ex_lst (by wtm_at "ho") ?_) | ((with_reducible refine g_or ?_); first | (refine ex_or (by wtm_at "qo") ?_) | (refine ex_ort (by wtm_at "qo") ?_)) | ((with_reducible refine g_sq ?_); refine ex_sq (by wtm_at "qo") ?_) | ((with_reducible refine g_sqt ?_); refine ex_sqt (by wtm_at "qo") ?_) | ((with_reducible refine gd_sel ?_); first | (refine sel_p (by wtm_at "pf") ?_) | (refine sel_n (by wtm_at "pf") ?_)) | ((with_reducible refine gn_sel ?_); first | (refine selN_p (by wtm_at "pf") ?_) | (refine selN_n (by wtm_at "pf") ?_)) | ((with_reducible refine gd_selT ?_); first | (refine selT_p (by wtm_at "pf") ?_) | (refine selT_n (by wtm_at "pf") ?_)) | ((with_reducible refine gn_selT ?_); first | (refine selTN_p (by wtm_at "pf") ?_) | (refine selTN_n (by wtm_at "pf") ?_)) | ((with_reducible refine gd_selE ?_); first | (refine selE_p (by wtm_at "pf") ?_) | (refine selE_n (by wtm_at "pf") ?_)) | ((with_reducible refine gn_selE ?_); first | (refine selEN_p (by wtm_at "pf") ?_) | (refine selEN_n (by wtm_at "pf") ?_)) | ((with_reducible refine g_xf ?_); refine xf_at rfl (by wtm_at "ho") ?_) | ((with_reducible refine g_atI ?_); refine ex_at (by first | exact rfl | exact atI_int (by omega) (by wtm_at "pf") | exact atI_end (by wtm_at "pf")) ?_) | ((with_reducible refine g_and ?_); refine And.intro (by wtm_at "co") ?_))
local macro_rules | `(tactic| wtm_at "oo") => `(tactic| repeat (first | wtm_at "xo" | wtm_at "so"))
local macro_rules | `(tactic| wtm_at "cR") => `(tactic| (refine' compRi _ (by with_reducible assumption) (by omega) (fun _ _ _ _ _ => ?_) (fun _ _ _ => ?_); rotate_left; focus (wtm_at "oo")))

local macro_rules | `(tactic| wtm_at "lk") => `(tactic| first | (with_reducible exact lk_here) | (simp only [lk_here, lk_skip, lk_nil, nb_0_0, nb_0_1, nb_0_2, nb_0_3, nb_0_4, nb_0_5, nb_0_6, nb_0_7, nb_1_1, nb_1_2, nb_1_3, nb_1_4, nb_1_5, nb_1_6, nb_1_7, nb_2_0, nb_2_2, nb_2_3, nb_2_4, nb_2_5, nb_2_6, nb_2_7, nb_3_0, nb_3_1, nb_3_2, nb_3_3, nb_3_4, nb_3_5, nb_3_6, nb_3_7, nb_4_0, nb_4_1, nb_4_2, nb_4_3, nb_4_4, nb_4_5, nb_4_6, nb_4_7, nb_5_0, nb_5_1, nb_5_3, nb_5_4, nb_5_5, nb_5_6, nb_5_7, nb_6_0, nb_6_1, nb_6_2, nb_6_3, nb_6_4, nb_6_5, nb_6_6, nb_6_7, nb_7_0, nb_7_1, nb_7_2, nb_7_4, nb_7_5, nb_7_6, nb_7_7, nb_8_0, nb_8_1, nb_8_2, nb_8_3, nb_8_4, nb_8_5, nb_8_6, nb_8_7, nb_9_0, nb_9_1, nb_9_2, nb_9_3, nb_9_4, nb_9_5, nb_9_6, nb_9_7, nb_10_0, nb_10_1, nb_10_2, nb_10_3, nb_10_5, nb_10_6, nb_10_7, nb_11_0, nb_11_1, nb_11_2, nb_11_3, nb_11_4, nb_11_6, nb_11_7, nb_12_0, nb_12_1, nb_12_2, nb_12_3, nb_12_4, nb_12_5, nb_12_7, nb_13_0, nb_13_1, nb_13_2, nb_13_3, nb_13_4, nb_13_5, nb_13_6, nb_13_7, nb_14_0, nb_14_1, nb_14_2, nb_14_3, nb_14_4, nb_14_5, nb_14_6, nb_15_0, nb_15_1, nb_15_2, nb_15_3, nb_15_4, nb_15_5, nb_15_6, nb_15_7, nb_16_0, nb_16_1, nb_16_2, nb_16_3, nb_16_4, nb_16_5, nb_16_6, nb_16_7, nb_17_0, nb_17_1, nb_17_2, nb_17_3, nb_17_4, nb_17_5, nb_17_6, nb_17_7, nb_18_0, nb_18_1, nb_18_2, nb_18_3, nb_18_4, nb_18_5, nb_18_6, nb_18_7, nb_19_0, nb_19_1, nb_19_2, nb_19_3, nb_19_4, nb_19_5, nb_19_6, nb_19_7, nb_20_0, nb_20_1, nb_20_2, nb_20_3, nb_20_4, nb_20_5, nb_20_6, nb_20_7, nb_21_0, nb_21_1, nb_21_2, nb_21_3, nb_21_4, nb_21_5, nb_21_6, nb_21_7, nb_22_0, nb_22_1, nb_22_2, nb_22_3, nb_22_4, nb_22_5, nb_22_6, nb_22_7, nb_23_0, nb_23_1, nb_23_2, nb_23_3, nb_23_4, nb_23_5, nb_23_6, nb_23_7, nb_24_0, nb_24_1, nb_24_2, nb_24_3, nb_24_4, nb_24_5, nb_24_6, nb_24_7, nb_25_0, nb_25_1, nb_25_2, nb_25_3, nb_25_4, nb_25_5, nb_25_6, nb_25_7, nb_26_0, nb_26_1, nb_26_2, nb_26_3, nb_26_4, nb_26_5, nb_26_6, nb_26_7]; first | done | exact rfl))
local macro_rules | `(tactic| wtm_at "ln") => `(tactic| first | (with_reducible exact lk_nil) | (simp only [lk_skip, lk_nil, nb_0_0, nb_0_1, nb_0_2, nb_0_3, nb_0_4, nb_0_5, nb_0_6, nb_0_7, nb_1_1, nb_1_2, nb_1_3, nb_1_4, nb_1_5, nb_1_6, nb_1_7, nb_2_0, nb_2_2, nb_2_3, nb_2_4, nb_2_5, nb_2_6, nb_2_7, nb_3_0, nb_3_1, nb_3_2, nb_3_3, nb_3_4, nb_3_5, nb_3_6, nb_3_7, nb_4_0, nb_4_1, nb_4_2, nb_4_3, nb_4_4, nb_4_5, nb_4_6, nb_4_7, nb_5_0, nb_5_1, nb_5_3, nb_5_4, nb_5_5, nb_5_6, nb_5_7, nb_6_0, nb_6_1, nb_6_2, nb_6_3, nb_6_4, nb_6_5, nb_6_6, nb_6_7, nb_7_0, nb_7_1, nb_7_2, nb_7_4, nb_7_5, nb_7_6, nb_7_7, nb_8_0, nb_8_1, nb_8_2, nb_8_3, nb_8_4, nb_8_5, nb_8_6, nb_8_7, nb_9_0, nb_9_1, nb_9_2, nb_9_3, nb_9_4, nb_9_5, nb_9_6, nb_9_7, nb_10_0, nb_10_1, nb_10_2, nb_10_3, nb_10_5, nb_10_6, nb_10_7, nb_11_0, nb_11_1, nb_11_2, nb_11_3, nb_11_4, nb_11_6, nb_11_7, nb_12_0, nb_12_1, nb_12_2, nb_12_3, nb_12_4, nb_12_5, nb_12_7, nb_13_0, nb_13_1, nb_13_2, nb_13_3, nb_13_4, nb_13_5, nb_13_6, nb_13_7, nb_14_0, nb_14_1, nb_14_2, nb_14_3, nb_14_4, nb_14_5, nb_14_6, nb_15_0, nb_15_1, nb_15_2, nb_15_3, nb_15_4, nb_15_5, nb_15_6, nb_15_7, nb_16_0, nb_16_1, nb_16_2, nb_16_3, nb_16_4, nb_16_5, nb_16_6, nb_16_7, nb_17_0, nb_17_1, nb_17_2, nb_17_3, nb_17_4, nb_17_5, nb_17_6, nb_17_7, nb_18_0, nb_18_1, nb_18_2, nb_18_3, nb_18_4, nb_18_5, nb_18_6, nb_18_7, nb_19_0, nb_19_1, nb_19_2, nb_19_3, nb_19_4, nb_19_5, nb_19_6, nb_19_7, nb_20_0, nb_20_1, nb_20_2, nb_20_3, nb_20_4, nb_20_5, nb_20_6, nb_20_7, nb_21_0, nb_21_1, nb_21_2, nb_21_3, nb_21_4, nb_21_5, nb_21_6, nb_21_7, nb_22_0, nb_22_1, nb_22_2, nb_22_3, nb_22_4, nb_22_5, nb_22_6, nb_22_7, nb_23_0, nb_23_1, nb_23_2, nb_23_3, nb_23_4, nb_23_5, nb_23_6, nb_23_7, nb_24_0, nb_24_1, nb_24_2, nb_24_3, nb_24_4, nb_24_5, nb_24_6, nb_24_7, nb_25_0, nb_25_1, nb_25_2, nb_25_3, nb_25_4, nb_25_5, nb_25_6, nb_25_7, nb_26_0, nb_26_1, nb_26_2, nb_26_3, nb_26_4, nb_26_5, nb_26_6, nb_26_7]; done))
local macro_rules | `(tactic| wtm_at "pu") => `(tactic| first | (with_reducible exact pf_nil) | (simp only [pf_nil, pf_here, pf_skip, nb_0_0, nb_0_1, nb_0_2, nb_0_3, nb_0_4, nb_0_5, nb_0_6, nb_0_7, nb_1_1, nb_1_2, nb_1_3, nb_1_4, nb_1_5, nb_1_6, nb_1_7, nb_2_0, nb_2_2, nb_2_3, nb_2_4, nb_2_5, nb_2_6, nb_2_7, nb_3_0, nb_3_1, nb_3_2, nb_3_3, nb_3_4, nb_3_5, nb_3_6, nb_3_7, nb_4_0, nb_4_1, nb_4_2, nb_4_3, nb_4_4, nb_4_5, nb_4_6, nb_4_7, nb_5_0, nb_5_1, nb_5_3, nb_5_4, nb_5_5, nb_5_6, nb_5_7, nb_6_0, nb_6_1, nb_6_2, nb_6_3, nb_6_4, nb_6_5, nb_6_6, nb_6_7, nb_7_0, nb_7_1, nb_7_2, nb_7_4, nb_7_5, nb_7_6, nb_7_7, nb_8_0, nb_8_1, nb_8_2, nb_8_3, nb_8_4, nb_8_5, nb_8_6, nb_8_7, nb_9_0, nb_9_1, nb_9_2, nb_9_3, nb_9_4, nb_9_5, nb_9_6, nb_9_7, nb_10_0, nb_10_1, nb_10_2, nb_10_3, nb_10_5, nb_10_6, nb_10_7, nb_11_0, nb_11_1, nb_11_2, nb_11_3, nb_11_4, nb_11_6, nb_11_7, nb_12_0, nb_12_1, nb_12_2, nb_12_3, nb_12_4, nb_12_5, nb_12_7, nb_13_0, nb_13_1, nb_13_2, nb_13_3, nb_13_4, nb_13_5, nb_13_6, nb_13_7, nb_14_0, nb_14_1, nb_14_2, nb_14_3, nb_14_4, nb_14_5, nb_14_6, nb_15_0, nb_15_1, nb_15_2, nb_15_3, nb_15_4, nb_15_5, nb_15_6, nb_15_7, nb_16_0, nb_16_1, nb_16_2, nb_16_3, nb_16_4, nb_16_5, nb_16_6, nb_16_7, nb_17_0, nb_17_1, nb_17_2, nb_17_3, nb_17_4, nb_17_5, nb_17_6, nb_17_7, nb_18_0, nb_18_1, nb_18_2, nb_18_3, nb_18_4, nb_18_5, nb_18_6, nb_18_7, nb_19_0, nb_19_1, nb_19_2, nb_19_3, nb_19_4, nb_19_5, nb_19_6, nb_19_7, nb_20_0, nb_20_1, nb_20_2, nb_20_3, nb_20_4, nb_20_5, nb_20_6, nb_20_7, nb_21_0, nb_21_1, nb_21_2, nb_21_3, nb_21_4, nb_21_5, nb_21_6, nb_21_7, nb_22_0, nb_22_1, nb_22_2, nb_22_3, nb_22_4, nb_22_5, nb_22_6, nb_22_7, nb_23_0, nb_23_1, nb_23_2, nb_23_3, nb_23_4, nb_23_5, nb_23_6, nb_23_7, nb_24_0, nb_24_1, nb_24_2, nb_24_3, nb_24_4, nb_24_5, nb_24_6, nb_24_7, nb_25_0, nb_25_1, nb_25_2, nb_25_3, nb_25_4, nb_25_5, nb_25_6, nb_25_7, nb_26_0, nb_26_1, nb_26_2, nb_26_3, nb_26_4, nb_26_5, nb_26_6, nb_26_7]; first | done | exact rfl))
local macro_rules | `(tactic| wtm_at "tk") => `(tactic| first | (with_reducible exact Take.here) | (exact Take.here) | ((with_reducible apply Take.there); wtm_at "tk"))
local macro_rules | `(tactic| wtm_at "pk") => `(tactic| first | exact Pick.nil | ((with_reducible refine' Pick.cons ?tk1 ?pk1); (case tk1 => wtm_at "tk"); (case pk1 => wtm_at "pk")) | ((with_reducible refine Pick.im (by wtm_at "mem") ?_); wtm_at "pk") | ((with_reducible refine Pick.ims (by wtm_at "mem") ?_); wtm_at "pk"))
section
variable {P : Program} {w : World} {K : PySem.W.Frag} {mg : Str → Option Value} {base : Heap}
theorem getD_rng {f : Nat → Int} {n i : Nat} (h : i < n) : (rngL f n).getD i 0 = f i := by
  unfold rngL
  rw [List.getD_eq_getElem?_getD, List.getElem?_map, List.getElem?_range h]
  rfl
theorem sl3_three {hs : List Int} {p : Int} (h0 : 0 ≤ p) (h : p + 3 ≤ hs.length) : ∃ x y z, sl3 hs p = [x, y, z] := by
  have hl : (sl3 hs p).length = 3 := by
    unfold sl3
    rw [List.length_take, List.length_drop]
    omega
  match sl3 hs p, hl with
  | [x, y, z], _ => exact ⟨x, y, z, rfl⟩
def sp__bucket (K : PySem.W.Frag) : Sp := fun vs H Q _ => ∃ (a : Addr) (hs : List Int) (p : Int), vs = [.ref a, .int p] ∧ SqL K H a (hs.map V.int) ∧ 0 ≤ p ∧ p + 3 ≤ hs.length ∧ ∀ H', Own K H H' [] → Q (.int (bk hs p.toNat)) H'
theorem ok__bucket (T : Tx K mg) : Cl P w K mg base 1 "_bucket" ["history", "place"] (sp__bucket K) [] := by
  obtain ⟨gm, fd, F⟩ := T.d__bucket
  refine ⟨_, fd, [], F.ok sc__bucket (fun vs H Q E h => ?_) (fun cdv A outer s H vs Q E hr h => ⟨_, (PSs.nox (pss_cons (ps_asg (pe_slice (slK K) (pv 0) (po_some (pv 1)) (po_some (pe_op op_add (pv 1) (pe_gc rfl T.c_LEAST_LENGTH)))) (pg_lst (by rfl) (pgs_cons (pg_name (i := 2) sc__bucket.nd rfl (Or.inl rfl)) (pgs_cons (pg_name (i := 3) sc__bucket.nd rfl (Or.inl rfl)) (pgs_cons (pg_name (i := 4) sc__bucket.nd rfl (Or.inl rfl)) pgs_nil)))))
 (pss_one (ps_ret (by exact (pe_op op_mod (pe_op op_add (pe_op op_add (pe_op op_mul pe_int (pv 2)) (pe_op op_mul pe_int (pv 3))) (pv 4)) (pe_gc rfl T.c__BUCKETS))))))), ?_⟩), gm, F.kp, F.bindsN (fun _ _ _ _ _ _ us hl => match us, hl with | [_, _], _ => rfl), .nil⟩
  · first | (obtain ⟨rfl, _⟩ := h; rfl) | (obtain ⟨_, rfl, _⟩ := h; rfl) | (obtain ⟨_, _, rfl, _⟩ := h; rfl) | (obtain ⟨_, _, _, rfl, _⟩ := h; rfl) | (obtain ⟨_, _, _, _, rfl, _⟩ := h; rfl) | (obtain ⟨_, _, _, _, _, rfl, _⟩ := h; rfl) | (obtain ⟨_, _, _, _, _, _, rfl, _⟩ := h; rfl) | (obtain ⟨_, _, _, _, _, _, _, rfl, _⟩ := h; rfl) | (obtain ⟨_, _, _, _, _, _, _, _, rfl, _⟩ := h; rfl) | (obtain ⟨_, _, _, _, _, _, _, _, _, rfl, _⟩ := h; rfl) | (obtain ⟨_, _, _, _, _, _, _, _, _, _, rfl, _⟩ := h; rfl) | (obtain ⟨_, _, _, _, _, _, _, _, _, _, _, rfl, _⟩ := h; rfl) | (obtain ⟨_, _, _, _, _, _, _, _, _, _, _, _, rfl, _⟩ := h; rfl) | (obtain ⟨_, _, _, _, _, _, _, _, _, _, _, _, _, rfl, _⟩ := h; rfl) | (obtain ⟨_, _, _, _, _, _, _, _, _, _, _, _, _, _, rfl, _⟩ := h; rfl) | (obtain ⟨_, _, _, _, _, _, _, _, _, _, _, _, _, _, _, rfl, _⟩ := h; rfl) | (obtain ⟨_, _, _, _, _, _, _, _, _, _, _, _, _, _, _, _, rfl, _⟩ := h; rfl) | (obtain ⟨_, _, _, _, _, _, _, _, _, _, _, _, _, _, _, _, _, rfl, _⟩ := h; rfl) | (obtain ⟨_, _, _, _, _, _, _, _, _, _, _, _, _, _, _, _, _, _, rfl, _⟩ := h; rfl) | (obtain ⟨_, _, _, _, _, _, _, _, _, _, _, _, _, _, _, _, _, _, _, rfl, _⟩ := h; rfl) | (obtain ⟨_, _, _, _, _, _, _, _, _, _, _, _, _, _, _, _, _, _, _, _, rfl, _⟩ := h; rfl) | (obtain ⟨_, _, _, _, _, _, _, _, _, _, _, _, _, _, _, _, _, _, _, _, _, rfl, _⟩ := h; rfl)
  · obtain ⟨a, hs, p, rfl, hS, h0, h1, q⟩ := h
    k_call_by "xo" st__bucket
    have L := Own.start (K := K) (H := H)
    wtm_at "oo"
    rename_i D H1 L1
    rw [sl3_is h0] at L1
    have eb : bk hs p.toNat = bkL (sl3 hs p) := by
      unfold bk
      rw [show ((p.toNat : Nat) : Int) = p by omega]
    rw [eb] at q
    obtain ⟨x, y, z, e⟩ := sl3_three h0 h1
    rw [e] at L1 q
    rw [sl3_is h0, e]
    refine And.intro rfl ?_
    wtm_at "oo"
    exact q _ (L1.sub (by wtm_at "sub"))
abbrev cF (w f : Int) (d b : Addr) : List (Str × V) := [("_window", .int w), ("_floor", .int f), ("_latest", .ref d), ("_before", .ref b)]
abbrev cC (K : PySem.W.Frag) (dx : Addr) (w f : Int) (d b : Addr) : HO := .ins (He.ga K "Chains") dx (cF w f d b)
def sp_Chains___init__ (K : PySem.W.Frag) : Sp := fun vs H Q _ => ∃ (p dx : Addr) (w : Int), vs = [.ref p, .int w] ∧ H p = some (.ins (He.ga K "Chains") dx []) ∧ ∀ d b H', Own K (delL H [p]) H' [.pt p (cC K dx w 0 d b), .pt d (.dK []), pI b []] → Q .non H'
theorem ok_Chains___init__ (T : Tx K mg) : Mkr P w K base mg 1 "Chains" ["self", "window"] (sp_Chains___init__ K) [] := by
  obtain ⟨fd, F⟩ := T.d_Chains___init__
  refine ⟨fd, [], F.ok sc_Chains___init__ (fun vs H Q E h => ?_) (fun cdv A outer s H vs Q E hr h => ⟨_, (PSs.nox (pss_cons (ps_fld (pv 0) (by exact (pv 1)) rfl)
 (pss_cons (ps_fld (pv 0) (by exact pe_int) rfl)
 (pss_cons (ps_fld (pv 0) (by exact pe_dnewK) rfl)
 (pss_one (ps_fld (pv 0) (by exact (pe_lst pa_nil)) rfl)))))), ?_⟩), T.m_Chains___init__, T.g_Chains, F.bindsN (fun _ _ _ _ _ _ us hl => match us, hl with | [_, _], _ => rfl), .nil⟩
  · first | (obtain ⟨rfl, _⟩ := h; rfl) | (obtain ⟨_, rfl, _⟩ := h; rfl) | (obtain ⟨_, _, rfl, _⟩ := h; rfl) | (obtain ⟨_, _, _, rfl, _⟩ := h; rfl) | (obtain ⟨_, _, _, _, rfl, _⟩ := h; rfl) | (obtain ⟨_, _, _, _, _, rfl, _⟩ := h; rfl) | (obtain ⟨_, _, _, _, _, _, rfl, _⟩ := h; rfl) | (obtain ⟨_, _, _, _, _, _, _, rfl, _⟩ := h; rfl) | (obtain ⟨_, _, _, _, _, _, _, _, rfl, _⟩ := h; rfl) | (obtain ⟨_, _, _, _, _, _, _, _, _, rfl, _⟩ := h; rfl) | (obtain ⟨_, _, _, _, _, _, _, _, _, _, rfl, _⟩ := h; rfl) | (obtain ⟨_, _, _, _, _, _, _, _, _, _, _, rfl, _⟩ := h; rfl) | (obtain ⟨_, _, _, _, _, _, _, _, _, _, _, _, rfl, _⟩ := h; rfl) | (obtain ⟨_, _, _, _, _, _, _, _, _, _, _, _, _, rfl, _⟩ := h; rfl) | (obtain ⟨_, _, _, _, _, _, _, _, _, _, _, _, _, _, rfl, _⟩ := h; rfl) | (obtain ⟨_, _, _, _, _, _, _, _, _, _, _, _, _, _, _, rfl, _⟩ := h; rfl) | (obtain ⟨_, _, _, _, _, _, _, _, _, _, _, _, _, _, _, _, rfl, _⟩ := h; rfl) | (obtain ⟨_, _, _, _, _, _, _, _, _, _, _, _, _, _, _, _, _, rfl, _⟩ := h; rfl) | (obtain ⟨_, _, _, _, _, _, _, _, _, _, _, _, _, _, _, _, _, _, rfl, _⟩ := h; rfl) | (obtain ⟨_, _, _, _, _, _, _, _, _, _, _, _, _, _, _, _, _, _, _, rfl, _⟩ := h; rfl) | (obtain ⟨_, _, _, _, _, _, _, _, _, _, _, _, _, _, _, _, _, _, _, _, rfl, _⟩ := h; rfl) | (obtain ⟨_, _, _, _, _, _, _, _, _, _, _, _, _, _, _, _, _, _, _, _, _, rfl, _⟩ := h; rfl)
  · obtain ⟨p, dx, w, rfl, hp, q⟩ := h
    have cW := T.c_Chains
    k_call_by "xo" st_Chains___init__
    have L := Own.in1 (K := K) hp
    wtm_at "oo"
    rename_i H4 L4
    exact q _ _ _ (L4.pick (by wtm_at "pk"))
def sp_Chains_floor (K : PySem.W.Frag) : Sp := fun vs H Q _ => ∃ (p dx d b : Addr) (w f : Int), vs = [.ref p] ∧ H p = some (cC K dx w f d b) ∧ Q (.int f) H
theorem ok_Chains_floor (T : Tx K mg) : Mth P w K base mg 1 "Chains" "floor" ["self"] (sp_Chains_floor K) [] := by
  obtain ⟨fd, F⟩ := T.d_Chains_floor
  refine ⟨fd, [], F.ok sc_Chains_floor (fun vs H Q E h => ?_) (fun cdv A outer s H vs Q E hr h => ⟨_, (PSs.nox (pss_one (ps_ret (by exact (pe_fld (pv 0) rfl))))), ?_⟩), T.m_Chains_floor, T.c_Chains.cl, F.bindsN (fun _ _ _ _ _ _ us hl => match us, hl with | [_], _ => rfl), .nil⟩
  · first | (obtain ⟨rfl, _⟩ := h; rfl) | (obtain ⟨_, rfl, _⟩ := h; rfl) | (obtain ⟨_, _, rfl, _⟩ := h; rfl) | (obtain ⟨_, _, _, rfl, _⟩ := h; rfl) | (obtain ⟨_, _, _, _, rfl, _⟩ := h; rfl) | (obtain ⟨_, _, _, _, _, rfl, _⟩ := h; rfl) | (obtain ⟨_, _, _, _, _, _, rfl, _⟩ := h; rfl) | (obtain ⟨_, _, _, _, _, _, _, rfl, _⟩ := h; rfl) | (obtain ⟨_, _, _, _, _, _, _, _, rfl, _⟩ := h; rfl) | (obtain ⟨_, _, _, _, _, _, _, _, _, rfl, _⟩ := h; rfl) | (obtain ⟨_, _, _, _, _, _, _, _, _, _, rfl, _⟩ := h; rfl) | (obtain ⟨_, _, _, _, _, _, _, _, _, _, _, rfl, _⟩ := h; rfl) | (obtain ⟨_, _, _, _, _, _, _, _, _, _, _, _, rfl, _⟩ := h; rfl) | (obtain ⟨_, _, _, _, _, _, _, _, _, _, _, _, _, rfl, _⟩ := h; rfl) | (obtain ⟨_, _, _, _, _, _, _, _, _, _, _, _, _, _, rfl, _⟩ := h; rfl) | (obtain ⟨_, _, _, _, _, _, _, _, _, _, _, _, _, _, _, rfl, _⟩ := h; rfl) | (obtain ⟨_, _, _, _, _, _, _, _, _, _, _, _, _, _, _, _, rfl, _⟩ := h; rfl) | (obtain ⟨_, _, _, _, _, _, _, _, _, _, _, _, _, _, _, _, _, rfl, _⟩ := h; rfl) | (obtain ⟨_, _, _, _, _, _, _, _, _, _, _, _, _, _, _, _, _, _, rfl, _⟩ := h; rfl) | (obtain ⟨_, _, _, _, _, _, _, _, _, _, _, _, _, _, _, _, _, _, _, rfl, _⟩ := h; rfl) | (obtain ⟨_, _, _, _, _, _, _, _, _, _, _, _, _, _, _, _, _, _, _, _, rfl, _⟩ := h; rfl) | (obtain ⟨_, _, _, _, _, _, _, _, _, _, _, _, _, _, _, _, _, _, _, _, _, rfl, _⟩ := h; rfl)
  · obtain ⟨p, dx, d, b, w, f, rfl, hp, q⟩ := h
    have cW := T.c_Chains
    k_call_by "xo" st_Chains_floor
    wtm_at "oo"
    exact q
def sp_Chains_forget (K : PySem.W.Frag) : Sp := fun vs H Q _ => ∃ (p dx d b : Addr) (w f g : Int), vs = [.ref p, .int g] ∧ H p = some (cC K dx w f d b) ∧ ∀ H', Own K (delL H [p]) H' [.pt p (cC K dx w (max f g) d b)] → Q .non H'
theorem ok_Chains_forget (T : Tx K mg) : Mth P w K base mg 1 "Chains" "forget" ["self", "floor"] (sp_Chains_forget K) [] := by
  obtain ⟨fd, F⟩ := T.d_Chains_forget
  refine ⟨fd, [], F.ok sc_Chains_forget (fun vs H Q E h => ?_) (fun cdv A outer s H vs Q E hr h => ⟨_, (PSs.nox (pss_one (ps_fld (pv 0) (by exact (pe_callB (call_max2 rfl) rfl T.b_max (by decide +kernel) (pa_cons (pe_fld (pv 0) rfl) (pa_cons (pv 1) pa_nil)))) rfl))), ?_⟩), T.m_Chains_forget, T.c_Chains.cl, F.bindsN (fun _ _ _ _ _ _ us hl => match us, hl with | [_, _], _ => rfl), .nil⟩
  · first | (obtain ⟨rfl, _⟩ := h; rfl) | (obtain ⟨_, rfl, _⟩ := h; rfl) | (obtain ⟨_, _, rfl, _⟩ := h; rfl) | (obtain ⟨_, _, _, rfl, _⟩ := h; rfl) | (obtain ⟨_, _, _, _, rfl, _⟩ := h; rfl) | (obtain ⟨_, _, _, _, _, rfl, _⟩ := h; rfl) | (obtain ⟨_, _, _, _, _, _, rfl, _⟩ := h; rfl) | (obtain ⟨_, _, _, _, _, _, _, rfl, _⟩ := h; rfl) | (obtain ⟨_, _, _, _, _, _, _, _, rfl, _⟩ := h; rfl) | (obtain ⟨_, _, _, _, _, _, _, _, _, rfl, _⟩ := h; rfl) | (obtain ⟨_, _, _, _, _, _, _, _, _, _, rfl, _⟩ := h; rfl) | (obtain ⟨_, _, _, _, _, _, _, _, _, _, _, rfl, _⟩ := h; rfl) | (obtain ⟨_, _, _, _, _, _, _, _, _, _, _, _, rfl, _⟩ := h; rfl) | (obtain ⟨_, _, _, _, _, _, _, _, _, _, _, _, _, rfl, _⟩ := h; rfl) | (obtain ⟨_, _, _, _, _, _, _, _, _, _, _, _, _, _, rfl, _⟩ := h; rfl) | (obtain ⟨_, _, _, _, _, _, _, _, _, _, _, _, _, _, _, rfl, _⟩ := h; rfl) | (obtain ⟨_, _, _, _, _, _, _, _, _, _, _, _, _, _, _, _, rfl, _⟩ := h; rfl) | (obtain ⟨_, _, _, _, _, _, _, _, _, _, _, _, _, _, _, _, _, rfl, _⟩ := h; rfl) | (obtain ⟨_, _, _, _, _, _, _, _, _, _, _, _, _, _, _, _, _, _, rfl, _⟩ := h; rfl) | (obtain ⟨_, _, _, _, _, _, _, _, _, _, _, _, _, _, _, _, _, _, _, rfl, _⟩ := h; rfl) | (obtain ⟨_, _, _, _, _, _, _, _, _, _, _, _, _, _, _, _, _, _, _, _, rfl, _⟩ := h; rfl) | (obtain ⟨_, _, _, _, _, _, _, _, _, _, _, _, _, _, _, _, _, _, _, _, _, rfl, _⟩ := h; rfl)
  · obtain ⟨p, dx, d, b, w, f, g, rfl, hp, q⟩ := h
    have cW := T.c_Chains
    k_call_by "xo" st_Chains_forget
    have L := Own.in1 (K := K) hp
    wtm_at "oo"
    rename_i H4 L4
    have em : (if f < g then g else f) = max f g := by
      split <;> omega
    rw [em] at L4
    exact q _ L4
def sp_Chains_enter (K : PySem.W.Frag) : Sp := fun vs H Q _ => ∃ (p dx d b a : Addr) (w f u : Int) (hs : List Int) (e : Nat) (kvs : List (Key × V)), vs = [.ref p, .ref a, .int u] ∧ SqL K (delL H [d, b]) a (hs.map V.int) ∧ hs.length ≤ 5000 ∧ H p = some (cC K dx w f d b) ∧ H d = some (.dK kvs) ∧ H b = some (.lst ((befL hs e).map V.int)) ∧ ChSt hs e kvs ∧
  0 ≤ u ∧ u ≤ 100000 ∧ ∀ (e' : Nat) kvs' H', (e' : Int) = max (e : Int) (min u ((hs.length : Int) - 2)) → ChSt hs e' kvs' → Own K (delL H [d, b]) H' [.pt d (.dK kvs'), pI b (befL hs e')] → Q .non H'
theorem ok_Chains_enter (T : Tx K mg) : Mth P w K base mg 2 "Chains" "enter" ["self", "history", "until"] (sp_Chains_enter K) [] := by
  obtain ⟨fd, F⟩ := T.d_Chains_enter
  refine ⟨fd, [], F.ok sc_Chains_enter (fun vs H Q E h => ?_) (fun cdv A outer s H vs Q E hr h => ⟨_, (PSs.nox (pss_cons (ps_set (i := 3) sc_Chains_enter.nd rfl (Or.inl rfl) (by exact (pe_callB (lenK K) rfl T.b_len (by decide +kernel) (pa_cons (pe_fld (pv 0) rfl) pa_nil))))
 (pss_cons (ps_set (i := 4) sc_Chains_enter.nd rfl (Or.inl rfl) (by exact (pe_callB (call_min2 rfl) rfl T.b_min (by decide +kernel) (pa_cons (pv 2) (pa_cons (pe_op op_add (pe_op op_sub (pe_callB (lenK K) rfl T.b_len (by decide +kernel) (pa_cons (pv 1) pa_nil)) (pe_gc rfl T.c_LEAST_LENGTH)) pe_int) pa_nil)))))
 (pss_one (ps_for PassesOwn.never rfl (pi_range2 rfl T.b_range (pa_cons (pv 3) (pa_cons (pv 4) pa_nil))) (pg_name (i := 5) sc_Chains_enter.nd rfl (Or.inl rfl))
 (pss_cons (ps_set (i := 6) sc_Chains_enter.nd rfl (Or.inl rfl) (by exact (pe_cl (ok__bucket T) (hr.mono (by decide)) rfl (pa_cons (pv 1) (pa_cons (pv 5) pa_nil)))))
 (pss_cons (ps_expr (pe_bm PySem.F.plainAttrs_list PySem.F.slot_list_append PySem.F.type_list_append mt_append (pe_fld (pv 0) rfl) (pa_cons (pe_dget2 (hu_of hr) (pe_fld (pv 0) rfl) (pv 6) (pe_gc rfl T.c__NO_PLACE) ⟨rfl, rfl, rfl, rfl⟩) pa_nil)))
 (pss_one (ps_dput (hu_of hr) (pe_fld (pv 0) rfl) (pv 6) (by exact (pv 5)) rfl))))))))), ?_⟩), T.m_Chains_enter, T.c_Chains.cl, F.bindsN (fun _ _ _ _ _ _ us hl => match us, hl with | [_, _, _], _ => rfl), .nil⟩
  · first | (obtain ⟨rfl, _⟩ := h; rfl) | (obtain ⟨_, rfl, _⟩ := h; rfl) | (obtain ⟨_, _, rfl, _⟩ := h; rfl) | (obtain ⟨_, _, _, rfl, _⟩ := h; rfl) | (obtain ⟨_, _, _, _, rfl, _⟩ := h; rfl) | (obtain ⟨_, _, _, _, _, rfl, _⟩ := h; rfl) | (obtain ⟨_, _, _, _, _, _, rfl, _⟩ := h; rfl) | (obtain ⟨_, _, _, _, _, _, _, rfl, _⟩ := h; rfl) | (obtain ⟨_, _, _, _, _, _, _, _, rfl, _⟩ := h; rfl) | (obtain ⟨_, _, _, _, _, _, _, _, _, rfl, _⟩ := h; rfl) | (obtain ⟨_, _, _, _, _, _, _, _, _, _, rfl, _⟩ := h; rfl) | (obtain ⟨_, _, _, _, _, _, _, _, _, _, _, rfl, _⟩ := h; rfl) | (obtain ⟨_, _, _, _, _, _, _, _, _, _, _, _, rfl, _⟩ := h; rfl) | (obtain ⟨_, _, _, _, _, _, _, _, _, _, _, _, _, rfl, _⟩ := h; rfl) | (obtain ⟨_, _, _, _, _, _, _, _, _, _, _, _, _, _, rfl, _⟩ := h; rfl) | (obtain ⟨_, _, _, _, _, _, _, _, _, _, _, _, _, _, _, rfl, _⟩ := h; rfl) | (obtain ⟨_, _, _, _, _, _, _, _, _, _, _, _, _, _, _, _, rfl, _⟩ := h; rfl) | (obtain ⟨_, _, _, _, _, _, _, _, _, _, _, _, _, _, _, _, _, rfl, _⟩ := h; rfl) | (obtain ⟨_, _, _, _, _, _, _, _, _, _, _, _, _, _, _, _, _, _, rfl, _⟩ := h; rfl) | (obtain ⟨_, _, _, _, _, _, _, _, _, _, _, _, _, _, _, _, _, _, _, rfl, _⟩ := h; rfl) | (obtain ⟨_, _, _, _, _, _, _, _, _, _, _, _, _, _, _, _, _, _, _, _, rfl, _⟩ := h; rfl) | (obtain ⟨_, _, _, _, _, _, _, _, _, _, _, _, _, _, _, _, _, _, _, _, _, rfl, _⟩ := h; rfl)
  · obtain ⟨p, dx, d, b, a, w, f, u, hs, e, kvs, rfl, hS, hl, hp, hd, hb, st, u0, u1, q⟩ := h
    have cW := T.c_Chains
    k_call_by "xo" st_Chains_enter
    have ndb : d ≠ b := ne_of hd hb (by intro z; cases z)
    have npd : p ≠ d := ne_of hp hd (by intro z; cases z)
    have npb : p ≠ b := ne_of hp hb (by intro z; cases z)
    have L := Own.in2 (K := K) hd hb ndb
    have hp2 : delL H [d, b] p = some (cC K dx w f d b) := by
      rw [delL_out]
      · exact hp
      · intro z
        rcases List.mem_cons.mp z with z | z
        · exact npd z
        · exact npb (List.mem_singleton.mp z)
    have bl : (befL hs e).length = e := rngL_len
    have hf := st.fit
    have hSH := L.sq hS
    wtm_at "oo"
    rw [bl]
    obtain ⟨A, hA⟩ : ∃ A : Int, A = (if (hs.length : Int) - 3 + 1 < u then (hs.length : Int) - 3 + 1 else u) := ⟨_, rfl⟩
    rw [← hA]
    have hA2 : A = min u ((hs.length : Int) - 2) := by
      rw [hA]
      split <;> omega
    clear hA
    refine loop_range (fun i σ H' => ∃ y5 y6 kvs2, σ = [some (.ref p), some (.ref a), some (.int u), some (.int (e : Int)), some (.int A), y5, y6] ∧ Own K (delL H [d, b]) H' [.pt d (.dK kvs2), pI b (befL hs (e + i))] ∧ ChSt hs (e + i) kvs2) ⟨none, none, kvs, rfl, L, st⟩ ?_ ?_
    · rintro i σ H2 hi ⟨y5, y6, kvs2, rfl, L2, st2⟩
      have e0 : (e : Int) + (i : Int) = ((e + i : Nat) : Int) := by omega
      have hb2 : (befL hs (e + i)).length = e + i := rngL_len
      have hk2 := st2.len
      rw [e0]
      wtm_at "oo"
      refine ⟨a, hs, _, rfl, L2.sq hS, by omega, by omega, fun H3 M => ?_⟩
      have L3 := L2.c0 M
      rw [Int.toNat_natCast]
      clear M
      wtm_at "oo"
      rename_i G1 M1 G2 M2
      have ea : (befL hs (e + i)).map V.int ++ [(valV kvs2 (.inl (bk hs (e + i)))).getD (.int (-1))] = (befL hs (e + (i + 1))).map V.int := by
        rw [st2.get, ← Nat.add_assoc]
        unfold befL
        rw [rngL_succ, List.map_append]
        rfl
      rw [ea] at M2
      exact ⟨_, M2, st2.put (by omega)⟩
    · rintro σ H2 ⟨y5, y6, kvs2, rfl, L2, st2⟩
      wtm_at "oo"
      exact q _ kvs2 H2 (by omega) st2 L2
def sp_Chains_nearest (K : PySem.W.Frag) : Sp := fun vs H Q E => ∃ (p dx d b a : Addr) (w f i c : Int) (hs : List Int) (e : Nat) (kvs : List (Key × V)), vs = [.ref p, .ref a, .int i, .int c] ∧ SqL K H a (hs.map V.int) ∧ hs.length ≤ 5000 ∧ H p = some (cC K dx w f d b) ∧ H d = some (.dK kvs) ∧ H b = some (.lst ((befL hs e).map V.int)) ∧ ChSt hs e kvs ∧
  0 ≤ i ∧ i ≤ hs.length ∧ 0 ≤ f ∧ 1 ≤ w ∧ w ≤ 100000 ∧ 0 ≤ c ∧ (hs.length < i + 3 ∨ i ≤ e → ∀ r H', Own K H H' [pI r ((cand hs i f w).take c.toNat)] → Q (.ref r) H') ∧
  (i + 3 ≤ hs.length → (e : Int) < i → ∀ x H', Own K H H' [.pt x (.xd [("at", .int (e : Int))])] → E (.ref (He.ga K "NotEntered")) (some x) H')
theorem ok_Chains_nearest (T : Tx K mg) : Mth P w K base mg 3 "Chains" "nearest" ["self", "history", "at", "count"] (sp_Chains_nearest K) [] := by
  obtain ⟨fd, F⟩ := T.d_Chains_nearest
  refine ⟨fd, [], F.ok sc_Chains_nearest (fun vs H Q E h => ?_) (fun cdv A outer s H vs Q E hr h => ⟨_, (pss_cons (ps_if (pt_cmpR op_lt (pe_op op_sub (pe_callB (lenK K) rfl T.b_len (by decide +kernel) (pa_cons (pv 1) pa_nil)) (pv 2)) (pe_gc rfl T.c_LEAST_LENGTH) (nomark _))
 (pss_one (ps_ret (by exact (pe_lst pa_nil))))
 pss_nil)
 (pss_cons (ps_set (i := 4) sc_Chains_nearest.nd rfl (Or.inl rfl) (by exact (pe_callB (lenK K) rfl T.b_len (by decide +kernel) (pa_cons (pe_fld (pv 0) rfl) pa_nil))))
 (pss_cons (ps_if (pt_cmpR op_lt (pv 4) (pv 2) (nomark _))
 (pss_one (ps_raiseB T.x_NotEntered (ok_init T) (hr.mono (by decide)) (L2N.takes_of rfl rfl rfl rfl) (by exact (pa_cons (pv 4) pa_nil))))
 pss_nil)
 (pss_cons (ps_if (pt_cmpR op_eq (pv 4) (pv 2) (nomark _))
 (pss_one (ps_set (i := 5) sc_Chains_nearest.nd rfl (Or.inl rfl) (by exact (pe_dget2 (hu_of hr) (pe_fld (pv 0) rfl) (pe_cl (ok__bucket T) (hr.mono (by decide)) rfl (pa_cons (pv 1) (pa_cons (pv 2) pa_nil))) (pe_gc rfl T.c__NO_PLACE) ⟨rfl, rfl, rfl, rfl⟩))))
 (pss_one (ps_set (i := 5) sc_Chains_nearest.nd rfl (Or.inl rfl) (by exact (pe_ix (ixl K) (pe_fld (pv 0) rfl) (pv 2) (fun _ _ => rfl))))))
 (pss_cons (ps_set (i := 6) sc_Chains_nearest.nd rfl (Or.inl rfl) (by exact (pe_callB (call_max2 rfl) rfl T.b_max (by decide +kernel) (pa_cons (pe_fld (pv 0) rfl) (pa_cons (pe_op op_sub (pv 2) (pe_fld (pv 0) rfl)) pa_nil)))))
 (pss_cons (ps_set (i := 7) sc_Chains_nearest.nd rfl (Or.inl rfl) (by exact (pe_lst pa_nil)))
 (pss_cons (ps_while (passes_of rfl) (PW.pt (pw_and (pt_cmpR op_ge (pv 5) (pv 6) (nomark _)) (pw_and1 (pt_cmpR op_lt (pe_callB (lenK K) rfl T.b_len (by decide +kernel) (pa_cons (pv 7) pa_nil)) (pv 3) (nomark _)))))
 (pss_cons (ps_if (pt_val (pe_cl (ok__are_same T) (hr.mono (by decide)) rfl (pa_cons (pv 1) (pa_cons (pv 5) (pa_cons (pv 2) pa_nil)))))
 (pss_one (ps_expr (pe_bm PySem.F.plainAttrs_list PySem.F.slot_list_append PySem.F.type_list_append mt_append (pv 7) (pa_cons (pv 5) pa_nil))))
 pss_nil)
 (pss_one (ps_set (i := 5) sc_Chains_nearest.nd rfl (Or.inl rfl) (by exact (pe_ix (ixl K) (pe_fld (pv 0) rfl) (pv 5) (fun _ _ => rfl)))))))
 (pss_one (ps_ret (by exact (pv 7))))))))))), ?_⟩), T.m_Chains_nearest, T.c_Chains.cl, F.bindsN (fun _ _ _ _ _ _ us hl => match us, hl with | [_, _, _, _], _ => rfl), .nil⟩
  · first | (obtain ⟨rfl, _⟩ := h; rfl) | (obtain ⟨_, rfl, _⟩ := h; rfl) | (obtain ⟨_, _, rfl, _⟩ := h; rfl) | (obtain ⟨_, _, _, rfl, _⟩ := h; rfl) | (obtain ⟨_, _, _, _, rfl, _⟩ := h; rfl) | (obtain ⟨_, _, _, _, _, rfl, _⟩ := h; rfl) | (obtain ⟨_, _, _, _, _, _, rfl, _⟩ := h; rfl) | (obtain ⟨_, _, _, _, _, _, _, rfl, _⟩ := h; rfl) | (obtain ⟨_, _, _, _, _, _, _, _, rfl, _⟩ := h; rfl) | (obtain ⟨_, _, _, _, _, _, _, _, _, rfl, _⟩ := h; rfl) | (obtain ⟨_, _, _, _, _, _, _, _, _, _, rfl, _⟩ := h; rfl) | (obtain ⟨_, _, _, _, _, _, _, _, _, _, _, rfl, _⟩ := h; rfl) | (obtain ⟨_, _, _, _, _, _, _, _, _, _, _, _, rfl, _⟩ := h; rfl) | (obtain ⟨_, _, _, _, _, _, _, _, _, _, _, _, _, rfl, _⟩ := h; rfl) | (obtain ⟨_, _, _, _, _, _, _, _, _, _, _, _, _, _, rfl, _⟩ := h; rfl) | (obtain ⟨_, _, _, _, _, _, _, _, _, _, _, _, _, _, _, rfl, _⟩ := h; rfl) | (obtain ⟨_, _, _, _, _, _, _, _, _, _, _, _, _, _, _, _, rfl, _⟩ := h; rfl) | (obtain ⟨_, _, _, _, _, _, _, _, _, _, _, _, _, _, _, _, _, rfl, _⟩ := h; rfl) | (obtain ⟨_, _, _, _, _, _, _, _, _, _, _, _, _, _, _, _, _, _, rfl, _⟩ := h; rfl) | (obtain ⟨_, _, _, _, _, _, _, _, _, _, _, _, _, _, _, _, _, _, _, rfl, _⟩ := h; rfl) | (obtain ⟨_, _, _, _, _, _, _, _, _, _, _, _, _, _, _, _, _, _, _, _, rfl, _⟩ := h; rfl) | (obtain ⟨_, _, _, _, _, _, _, _, _, _, _, _, _, _, _, _, _, _, _, _, _, rfl, _⟩ := h; rfl)
  · obtain ⟨p, dx, d, b, a, w, f, i, c, hs, e, kvs, rfl, hS, hl, hp, hd, hb, st, i0, i1, f0, w0, w1, c0, q, qe⟩ := h
    have cW := T.c_Chains
    k_call_by "xo" st_Chains_nearest
    have L := Own.start (K := K) (H := H)
    have bl : (befL hs e).length = e := rngL_len
    wtm_at "oo"
    refine sel_d (fun c1 => ?_) (fun c1 => ?_)
    · wtm_at "oo"
      rename_i r H1 L1
      refine q (.inl (by omega)) r H1 ?_
      unfold cand
      rw [if_neg (by omega), List.take_nil]
      exact L1
    · wtm_at "oo"
      rw [bl]
      refine sel_d (fun c2 => ?_) (fun c2 => ?_)
      · wtm_at "oo"
        exact bz T.x_NotEntered fun x hx => qe (by omega) c2 x _ (L.new hx _)
      · have q := q (.inr (by omega))
        clear qe
        wtm_at "oo"
        generalize hk : tSeq _ _ _ = kont
        have fin : ∀ H1, Own K H H1 [] → kont [some (.ref p), some (.ref a), some (.int i), some (.int c), some (.int (e : Int)), some (.int (prv hs (bk hs i.toNat) i.toNat)), none, none] H1 := by
          intro H1 L1
          subst hk
          have hpl := prv_lo hs (bk hs i.toNat) i.toNat
          have hpi := (prv_is hs (bk hs i.toNat) i.toNat).1
          obtain ⟨n, hn⟩ : ∃ n : Nat, i - 1 - (n : Int) = prv hs (bk hs i.toNat) i.toNat := ⟨(i - 1 - prv hs (bk hs i.toNat) i.toNat).toNat, by omega⟩
          have e0 : candN hs i f w n = [] := by
            rw [candN_same (n := 0) (by omega) (first_gap i0 hn)]
            rfl
          have hb0 : i - 1 - (n : Int) = -1 ∨ bk hs (i - 1 - (n : Int)).toNat = bk hs i.toNat := by
            rcases hpi with z | ⟨p, z, _, z2⟩
            · exact .inl (by omega)
            · exact .inr (by rw [hn, z, Int.toNat_natCast, z2])
          rw [← hn]
          have hni : (n : Int) ≤ i := by omega
          clear hpl hpi hn
          wtm_at "oo"
          rename_i r H2 L2
          obtain ⟨low, hlow⟩ : ∃ low : Int, low = (if f < i - w then i - w else f) := ⟨_, rfl⟩
          rw [← hlow]
          have hlow2 : low = max f (i - w) := by
            rw [hlow]
            split <;> omega
          clear hlow
          refine loop_while (fun σ H' => ∃ n : Nat, σ = [some (.ref p), some (.ref a), some (.int i), some (.int c), some (.int (e : Int)), some (.int (i - 1 - (n : Int))), some (.int low), some (.ref r)] ∧ Own K H H' [pI r (candN hs i f w n)] ∧ (n : Int) ≤ i ∧ ((candN hs i f w n).length : Int) ≤ c ∧ (i - 1 - (n : Int) = -1 ∨ bk hs (i - 1 - (n : Int)).toNat = bk hs i.toNat)) (fun σ _ => match σ with
            | [_, _, _, _, _, some (.int k), _, _] => (k + 1).toNat
            | _ => 0) ⟨n, rfl, by rw [e0]; exact L2, hni, by rw [e0]; exact c0, hb0⟩ ?_
          clear L1 L2 e0 hb0 hni
          rintro σ H3 ⟨n, rfl, L3, hni, hcl, hbb⟩
          have done : ((candN hs i f w n).length : Int) = c ∨ i - 1 - (n : Int) < low → (cand hs i f w).take c.toNat = candN hs i f w n := by
            intro z
            rw [cand_N (by omega)]
            rcases z with z | z
            · obtain ⟨rr, hr⟩ := candN_pre (hs := hs) (i := i) (f := f) (w := w) (n := n) (m := i.toNat) (by omega)
              rw [hr, ← z, Int.toNat_natCast, List.take_left]
            · rw [candN_same (n := n) (m := i.toNat) (by omega) (fun k h1 h2 y => by
                unfold candI at y
                have := of_decide_eq_true y
                omega)]
              exact List.take_of_length_le (by omega)
          wtm_at "oo"
          refine selT_d (fun c3 => ?_) (fun c3 => ?_)
          · wtm_at "oo"
            refine wh_d (fun c4 => ?_) (fun c4 => ?_)
            · wtm_at "oo"
              have hP0 : 0 ≤ i - 1 - (n : Int) := by omega
              refine ⟨a, hs, _, i, rfl, L3.sq hS, hP0, i0, fun H4 M => ?_⟩
              have L4 := L3.c0 M
              clear M
              obtain ⟨P, hP⟩ : ∃ P : Nat, i - 1 - (n : Int) = (P : Int) := ⟨(i - 1 - (n : Int)).toNat, by omega⟩
              have hbP : bk hs P = bk hs i.toNat := by
                rcases hbb with z | z
                · omega
                · rw [hP, Int.toNat_natCast] at z
                  exact z
              have hpv := prv_lo hs (bk hs P) P
              obtain ⟨m, hm⟩ : ∃ m : Nat, i - 1 - (m : Int) = prv hs (bk hs P) P := ⟨(i - 1 - prv hs (bk hs P) P).toNat, by omega⟩
              have em : candN hs i f w m = candN hs i f w (n + 1) := candN_same (by omega) (chain_gap hbP i0 hP hm)
              have eg : (befL hs e).getD (i - 1 - (n : Int)).toNat 0 = i - 1 - (m : Int) := by
                rw [hm, hP, Int.toNat_natCast]
                unfold befL
                exact getD_rng (by omega)
              have hbm : i - 1 - (m : Int) = -1 ∨ bk hs (i - 1 - (m : Int)).toNat = bk hs i.toNat := by
                rcases (prv_is hs (bk hs P) P).1 with z | ⟨p2, z, _, z2⟩
                · exact .inl (by omega)
                · exact .inr (by rw [hm, z, Int.toNat_natCast, z2, hbP])
              have es : candI hs i f w n = decide (sl3 hs (i - 1 - (n : Int)) = sl3 hs i) := by
                unfold candI
                exact decide_eq_decide.mpr ⟨fun z => z.2.2, fun z => ⟨by omega, by omega, z⟩⟩
              have hcl5 : (candN hs i f w n).length ≤ 5000 := by
                unfold candN
                rw [List.length_map]
                have := List.length_filter_le (candI hs i f w) (List.range n)
                rw [List.length_range] at this
                omega
              wtm_at "oo"
              refine sel_d (fun c5 => ?_) (fun c5 => ?_)
              · rw [decide_eq_true c5] at es
                rw [candN_succ, if_pos es] at em
                wtm_at "oo"
                rename_i H5 L5
                rw [← em] at L5
                rw [eg]
                refine ⟨⟨m, rfl, L5, by omega, by rw [em, List.length_append, List.length_singleton]; omega, hbm⟩, ?_⟩
                show (i - 1 - (m : Int) + 1).toNat < (i - 1 - (n : Int) + 1).toNat
                omega
              · rw [decide_eq_false c5] at es
                rw [candN_succ, es, if_neg (by decide)] at em
                rw [← em] at L4
                wtm_at "oo"
                rw [eg]
                refine ⟨⟨m, rfl, L4, by omega, by rw [em]; exact hcl, hbm⟩, ?_⟩
                show (i - 1 - (m : Int) + 1).toNat < (i - 1 - (n : Int) + 1).toNat
                omega
            · wtm_at "oo"
              rw [done (.inl (by omega))] at q
              exact q r H3 L3
          · wtm_at "oo"
            refine wh (fun z => by cases z) (fun _ => ?_)
            wtm_at "oo"
            rw [done (.inr (by omega))] at q
            exact q r H3 L3
        refine sel_d (fun c3 => ?_) (fun c3 => ?_)
        · wtm_at "oo"
          refine ⟨a, hs, i, rfl, hS, i0, by omega, fun H1 M => ?_⟩
          have L1 := L.c0 M
          clear M
          wtm_at "oo"
          rw [st.get, show e = i.toNat by omega]
          rw [show e = i.toNat by omega] at fin
          exact fin H1 L1
        · wtm_at "oo"
          have eg : (befL hs e).getD i.toNat 0 = prv hs (bk hs i.toNat) i.toNat := by
            unfold befL
            exact getD_rng (by omega)
          rw [eg]
          exact fin H L


end
end K52

namespace K52
open PySem PySem.Spec PyProof.Rows L2 Bel
local macro_rules | `(tactic| wtm_at "xs") => `(tactic| simp only [x_next, x_seq, x_brk, x_cont, x_drop, x_ret, x_retN, x_if, sel_t, sel_f, selE_t, selE_f, selT_t, selT_f, selC_t, selC_f, x_test, x_tB, x_op, x_un, x_var, x_c, x_cb, x_nil, x_cons, x_rI, x_rI0, x_rU, x_rEq, x_rNe, x_rIxL, x_rIxT, x_rSlL, x_rCat, x_rRep, x_rApp, x_bm, x_bm0, x_sl, x_nopart, x_part, x_tup, x_lst, x_call, x_callS, x_asg, x_gname, x_gtup, x_gnil, x_gcons, x_gsub, x_setL, x_aug, x_ipI, x_ipC, x_bits, x_getL, x_augS, x_and, x_or, x_not, x_k, x_andV, x_orV, x_notV, x_ife, x_chain, x_for, x_ilist, x_itup, x_ienum, x_irng1, x_irng2, x_irev, x_lc, x_yes, wipe_nil, wipe_cons, List.map_cons, List.map_nil, x_misc, x_misc2, x_rz, lookup_at, Bool.not_true, Bool.not_false, decide_true, decide_false, not_true, not_false_eq_true, and_assoc, exists_and_left, exists_eq_left', exists_eq_left, exists_eq', exists_eq_right', exists_eq_right, V.int.injEq, V.ref.injEq, V.bl.injEq, V.str.injEq, List.cons.injEq, and_true, true_and, and_self, Option.some.injEq, List.cons_append, List.nil_append, List.append_nil, List.getElem?_cons_zero, List.getElem?_cons_succ, List.set_cons_zero, List.set_cons_succ, reduceCtorEq, false_and, and_false, exists_false, exists_const, or_false, false_or, scal_ii, scal_bb, scal_ss, List.length_cons, List.length_nil, Int.reduceToNat, Int.reducePow])
local macro_rules | `(tactic| k_call_by "xs" $h:term) => `(tactic| simp only [$h:term, x_next, x_seq, x_brk, x_cont, x_drop, x_ret, x_retN, x_if, sel_t, sel_f, selE_t, selE_f, selT_t, selT_f, selC_t, selC_f, x_test, x_tB, x_op, x_un, x_var, x_c, x_cb, x_nil, x_cons, x_rI, x_rI0, x_rU, x_rEq, x_rNe, x_rIxL, x_rIxT, x_rSlL, x_rCat, x_rRep, x_rApp, x_bm, x_bm0, x_sl, x_nopart, x_part, x_tup, x_lst, x_call, x_callS, x_asg, x_gname, x_gtup, x_gnil, x_gcons, x_gsub, x_setL, x_aug, x_ipI, x_ipC, x_bits, x_getL, x_augS, x_and, x_or, x_not, x_k, x_andV, x_orV, x_notV, x_ife, x_chain, x_for, x_ilist, x_itup, x_ienum, x_irng1, x_irng2, x_irev, x_lc, x_yes, wipe_nil, wipe_cons, List.map_cons, List.map_nil, x_misc, x_misc2, x_rz, lookup_at, Bool.not_true, Bool.not_false, decide_true, decide_false, not_true, not_false_eq_true, and_assoc, exists_and_left, exists_eq_left', exists_eq_left, exists_eq', exists_eq_right', exists_eq_right, V.int.injEq, V.ref.injEq, V.bl.injEq, V.str.injEq, List.cons.injEq, and_true, true_and, and_self, Option.some.injEq, List.cons_append, List.nil_append, List.append_nil, List.getElem?_cons_zero, List.getElem?_cons_succ, List.set_cons_zero, List.set_cons_succ, reduceCtorEq, false_and, and_false, exists_false, exists_const, or_false, false_or, scal_ii, scal_bb, scal_ss, List.length_cons, List.length_nil, Int.reduceToNat, Int.reducePow])
local macro_rules | `(tactic| wtm_at "hp") => `(tactic| first | (with_reducible assumption) | exact upd_same | (refine upd_keep (by with_reducible assumption) ?_; wtm_at "hp") | (refine Same.get (by with_reducible assumption) ?_; wtm_at "hp") | (refine upd_other (by first | (with_reducible assumption) | exact Ne.symm (by with_reducible assumption)) ?_; wtm_at "hp"))
local macro_rules | `(tactic| wtm_at "sq") => `(tactic| first | (with_reducible assumption) | exact SqL.of (by wtm_at "hp") | exact SqT.of (by wtm_at "hp") | (refine Same.seq (same_upd (by with_reducible assumption)) ?_; wtm_at "sq") | (refine Same.seq (by with_reducible assumption) ?_; wtm_at "sq") | (refine Same.seqT (same_upd (by with_reducible assumption)) ?_; wtm_at "sq") | (refine Same.seqT (by with_reducible assumption) ?_; wtm_at "sq"))
local macro_rules | `(tactic| wtm_at "cl") => `(tactic| first | (with_reducible assumption) | omega | (exact cmul_r (by omega) (by omega)) | (exact cmul_l (by omega) (by omega)) | (exact cdiv_ok (by omega) (by omega)) | (exact cpow_ok (by decide)) | (exact ⟨by omega, by omega, by omega⟩) | decide | (exact ⟨by omega, by omega⟩) | (simp only [List.length_append, List.length_map, List.length_set, List.length_cons, List.length_nil, rngL_len, sizeLine_eq]; omega) | wtm_at "hp" | wtm_at "sq")
local macro_rules | `(tactic| wtm_at "pf") => `(tactic| first | (with_reducible assumption) | omega | (simp only [List.length_append, List.length_map, List.length_set, List.length_cons, List.length_nil, rngL_len]; omega) | (with_reducible rfl) | (with_reducible trivial) | (with_reducible decide))
local macro_rules | `(tactic| wtm_at "st") => `(tactic| first | ((with_reducible refine g_at ?_); refine at_call (by wtm_at "sq") (by omega) (by omega) (fun _ _ => ?_)) | ((with_reducible refine g_int ?_); refine int_call ?_) | ((with_reducible refine g_isi ?_); first | (with_reducible refine isi_ii ?_) | (with_reducible refine isi_ib ?_) | (refine isi_int rfl ?_) | (refine isi_lst rfl (by wtm_at "hp") ?_) | (refine isi_tup rfl (by wtm_at "hp") ?_)) | ((with_reducible refine g_ned ?_); refine ned_f (dq_lst (by wtm_at "sq")) (dq_lst (by wtm_at "sq")) ?_) | ((with_reducible refine g_eqd ?_); refine eqd_t (dq_lst (by wtm_at "sq")) (dq_lst (by wtm_at "sq")) ?_) | ((with_reducible refine g_tyv ?_); refine and_tyv (by wtm_at "sq") ?_) | ((with_reducible refine g_asq ?_); refine and_sq (by wtm_at "sq") ?_) | ((with_reducible refine g_lst ?_); refine ex_lst (by wtm_at "hp") ?_) | ((with_reducible refine g_or ?_); first | (refine ex_or (by wtm_at "sq") ?_) | (refine ex_ort (by wtm_at "sq") ?_)) | ((with_reducible refine g_sq ?_); refine ex_sq (by wtm_at "sq") ?_) | ((with_reducible refine g_sqt ?_); refine ex_sqt (by wtm_at "sq") ?_) | ((with_reducible refine gd_sel ?_); first | (refine sel_p (by wtm_at "pf") ?_) | (refine sel_n (by wtm_at "pf") ?_)) | ((with_reducible refine gn_sel ?_); first | (refine selN_p (by wtm_at "pf") ?_) | (refine selN_n (by wtm_at "pf") ?_)) | ((with_reducible refine gd_selT ?_); first | (refine selT_p (by wtm_at "pf") ?_) | (refine selT_n (by wtm_at "pf") ?_)) | ((with_reducible refine gn_selT ?_); first | (refine selTN_p (by wtm_at "pf") ?_) | (refine selTN_n (by wtm_at "pf") ?_)) | ((with_reducible refine gd_selE ?_); first | (refine selE_p (by wtm_at "pf") ?_) | (refine selE_n (by wtm_at "pf") ?_)) | ((with_reducible refine gn_selE ?_); first | (refine selEN_p (by wtm_at "pf") ?_) | (refine selEN_n (by wtm_at "pf") ?_)) | ((with_reducible refine g_xf ?_); refine xf_at rfl (by wtm_at "hp") ?_) | ((with_reducible refine g_atI ?_); refine ex_at (by first | exact rfl | exact atI_int (by omega) (by wtm_at "pf") | exact atI_end (by wtm_at "pf")) ?_) | ((with_reducible refine g_and ?_); refine And.intro (by wtm_at "cl") ?_) | ((with_reducible refine g_new ?_); intro _ _))
local macro_rules | `(tactic| wtm_at "go") => `(tactic| repeat (first | wtm_at "xs" | wtm_at "st"))
local macro_rules | `(tactic| wtm_at "xo") => `(tactic| simp only [x_next, x_seq, x_brk, x_cont, x_drop, x_ret, x_retN, x_if, sel_t, sel_f, selE_t, selE_f, selT_t, selT_f, selC_t, selC_f, x_test, x_tB, x_op, x_un, x_var, x_c, x_cb, x_nil, x_cons, x_rI, x_rI0, x_rU, x_rEq, x_rNe, x_rIxL, x_rIxT, n_rSlL, n_rCat, n_rRep, n_rApp, x_bm, x_bm0, x_sl, x_nopart, x_part, n_tup, n_lst, x_call, x_callS, x_asg, x_gname, x_gtup, x_gnil, x_gcons, x_gsub, n_setL, x_aug, x_ipI, x_ipC, x_bits, x_getL, x_augS, x_and, x_or, x_not, x_k, x_andV, x_orV, x_notV, x_ife, x_chain, x_for, x_ilist, x_itup, x_ienum, x_irng1, x_irng2, x_irev, x_lc, x_yes, wipe_nil, wipe_cons, List.map_cons, List.map_nil, x_misc, x_misc2, x_rz, lookup_at, Bool.not_true, Bool.not_false, decide_true, decide_false, not_true, not_false_eq_true, and_assoc, exists_and_left, exists_eq_left', exists_eq_left, exists_eq', exists_eq_right', exists_eq_right, V.int.injEq, V.ref.injEq, V.bl.injEq, V.str.injEq, List.cons.injEq, and_true, true_and, and_self, Option.some.injEq, List.cons_append, List.nil_append, List.append_nil, List.getElem?_cons_zero, List.getElem?_cons_succ, List.set_cons_zero, List.set_cons_succ, reduceCtorEq, false_and, and_false, exists_false, exists_const, or_false, false_or, scal_ii, scal_bb, scal_ss, List.length_cons, List.length_nil, Int.reduceToNat, Int.reducePow, n_fld, n_dnew, n_dput, n_din, n_dget, n_dget2, n_glst, n_sfld, n_aug, n_meth, n_mw, n_make, n_kw, n_rLs, n_dcp, n_ext, n_revL, n_rTp, t_im, ints_rev, t_s1, t_i1, t_i2, t_i3, t_i4, t_i5, x_chain3, x_irng3, x_irevR, x_rg1, x_rg2, ints_cat, ints_app1, ints_len, ints_take, ints_drop, rep_one])
local macro_rules | `(tactic| k_call_by "xo" $h:term) => `(tactic| simp only [$h:term, x_next, x_seq, x_brk, x_cont, x_drop, x_ret, x_retN, x_if, sel_t, sel_f, selE_t, selE_f, selT_t, selT_f, selC_t, selC_f, x_test, x_tB, x_op, x_un, x_var, x_c, x_cb, x_nil, x_cons, x_rI, x_rI0, x_rU, x_rEq, x_rNe, x_rIxL, x_rIxT, n_rSlL, n_rCat, n_rRep, n_rApp, x_bm, x_bm0, x_sl, x_nopart, x_part, n_tup, n_lst, x_call, x_callS, x_asg, x_gname, x_gtup, x_gnil, x_gcons, x_gsub, n_setL, x_aug, x_ipI, x_ipC, x_bits, x_getL, x_augS, x_and, x_or, x_not, x_k, x_andV, x_orV, x_notV, x_ife, x_chain, x_for, x_ilist, x_itup, x_ienum, x_irng1, x_irng2, x_irev, x_lc, x_yes, wipe_nil, wipe_cons, List.map_cons, List.map_nil, x_misc, x_misc2, x_rz, lookup_at, Bool.not_true, Bool.not_false, decide_true, decide_false, not_true, not_false_eq_true, and_assoc, exists_and_left, exists_eq_left', exists_eq_left, exists_eq', exists_eq_right', exists_eq_right, V.int.injEq, V.ref.injEq, V.bl.injEq, V.str.injEq, List.cons.injEq, and_true, true_and, and_self, Option.some.injEq, List.cons_append, List.nil_append, List.append_nil, List.getElem?_cons_zero, List.getElem?_cons_succ, List.set_cons_zero, List.set_cons_succ, reduceCtorEq, false_and, and_false, exists_false, exists_const, or_false, false_or, scal_ii, scal_bb, scal_ss, List.length_cons, List.length_nil, Int.reduceToNat, Int.reducePow, n_fld, n_dnew, n_dput, n_din, n_dget, n_dget2, n_glst, n_sfld, n_aug, n_meth, n_mw, n_make, n_kw, n_rLs, n_dcp, n_ext, n_revL, n_rTp, t_im, ints_rev, t_s1, t_i1, t_i2, t_i3, t_i4, t_i5, x_chain3, x_irng3, x_irevR, x_rg1, x_rg2, ints_cat, ints_app1, ints_len, ints_take, ints_drop, rep_one])
local macro_rules | `(tactic| wtm_at "mem") => `(tactic| first | (with_reducible exact mem_here) | (with_reducible refine mem_there ?_; wtm_at "mem"))
local macro_rules | `(tactic| wtm_at "pp") => `(tactic| first | (with_reducible exact Put.here) | (with_reducible apply Put.there; wtm_at "pp"))
local macro_rules | `(tactic| wtm_at "ho") => `(tactic| first | (with_reducible assumption) | exact Own.get (by with_reducible assumption) (by wtm_at "mem") | exact Own.base (by with_reducible assumption) (by with_reducible assumption))
local macro_rules | `(tactic| wtm_at "qo") => `(tactic| first | (with_reducible assumption) | exact SqL.of (by wtm_at "ho") | exact sqT_tupI (by wtm_at "ho") | exact sqT_tupS (by wtm_at "ho") | exact SqT.of (by wtm_at "ho") | exact Own.imT (by with_reducible assumption) (by wtm_at "mem") | exact Own.sq (by with_reducible assumption) (by with_reducible assumption) | exact Own.sqT (by with_reducible assumption) (by with_reducible assumption))
local macro_rules | `(tactic| wtm_at "sub") => `(tactic| first | exact List.nil_sublist _ | (with_reducible refine List.Sublist.cons_cons _ ?_; wtm_at "sub") | (refine List.Sublist.cons _ ?_; wtm_at "sub"))
local macro_rules | `(tactic| wtm_at "co") => `(tactic| first | (with_reducible assumption) | omega | (exact cmul_r (by omega) (by omega)) | (exact cmul_l (by omega) (by omega)) | (exact cdiv_ok (by omega) (by omega)) | (exact cpow_ok (by decide)) | (exact ⟨by omega, by omega, by omega⟩) | decide | (exact ⟨by omega, by omega⟩) | (simp only [List.length_append, List.length_map, List.length_set, List.length_cons, List.length_nil, rngL_len, sizeLine_eq]; omega) | wtm_at "ho" | wtm_at "qo")
local macro_rules | `(tactic| wtm_at "so") => `(tactic| first | ((with_reducible refine g_dcp ?_); refine dcpI (by wtm_at "ho") ?_) | ((with_reducible refine g_asl ?_); refine And.intro (by rfl) ?_) | ((with_reducible refine g_asqT ?_); refine and_sqT (by wtm_at "qo") ?_) | ((with_reducible refine g_extO ?_); first | (refine extI (by with_reducible assumption) (by wtm_at "pp") (by wtm_at "co") (fun _ _ => ?_)) | (refine extO (by with_reducible assumption) (by wtm_at "pp") (by wtm_at "co") (fun _ _ => ?_))) | ((with_reducible refine g_tp ?_); first | (refine tp_l (by wtm_at "qo") ?_) | (refine tp_t (by wtm_at "qo") ?_)) | ((with_reducible refine g_dputO ?_); refine dputI (by with_reducible assumption) (by wtm_at "pp") (by wtm_at "co") (fun _ _ => ?_)) | ((with_reducible refine g_dinO ?_); refine dinI (by wtm_at "ho") ?_) | ((with_reducible refine g_isDO ?_); refine isDO (by wtm_at "ho") ?_) | ((with_reducible refine g_dg2 ?_); refine dg2I (by wtm_at "ho") ?_) | ((with_reducible refine g_fldO ?_); refine fldO (by wtm_at "ho") (by with_reducible assumption) (by wtm_at "mem") (by wtm_at "lk") ?_) | ((with_reducible refine g_fldC ?_); refine fldC (by wtm_at "ho") (by with_reducible assumption) (by wtm_at "mem") (by wtm_at "lk") ?_) | ((with_reducible refine g_putC ?_); refine putC (by with_reducible assumption) (by wtm_at "pp") (by wtm_at "pu") (by wtm_at "co") (fun _ _ => ?_)) | ((with_reducible refine g_stoO ?_); refine stoO (by with_reducible assumption) (by wtm_at "pp") (by wtm_at "pu") (by with_reducible assumption) (by wtm_at "mem") (by wtm_at "co") (fun _ _ => ?_)) | ((with_reducible refine g_metO ?_); refine metO (by wtm_at "ho") (by wtm_at "ln") ?_) | ((with_reducible refine g_makO ?_); refine makO (by with_reducible assumption) (fun _ _ _ _ => ?_)) | ((with_reducible refine g_sum ?_); refine sum_call (by wtm_at "qo") ?_) | ((with_reducible refine g_cq ?_); exact cq (by with_reducible assumption) (by simp only [rngL_len, List.length_map, List.length_take]; omega)) | ((with_reducible refine g_newO ?_); refine newO (by with_reducible assumption) (fun _ _ _ => ?_)) | ((with_reducible refine g_appO ?_); refine appI (by with_reducible assumption) (by wtm_at "pp") (by wtm_at "co") (fun _ _ => ?_)) | ((with_reducible refine g_setO ?_); refine setI (by with_reducible assumption) (by wtm_at "pp") (by omega) (by wtm_at "co") (fun _ _ => ?_)) | ((with_reducible refine g_appO ?_); refine appO (by with_reducible assumption) (by wtm_at "pp") (by wtm_at "co") (fun _ _ => ?_)) | ((with_reducible refine g_setO ?_); refine setO (by with_reducible assumption) (by wtm_at "pp") (by omega) (by wtm_at "co") (fun _ _ => ?_)) | ((with_reducible refine g_at ?_); refine at_call (by wtm_at "qo") (by omega) (by omega) (fun _ _ => ?_)) | ((with_reducible refine g_int ?_); refine int_call ?_) | ((with_reducible refine g_isi ?_); first | (with_reducible refine isi_ii ?_) | (with_reducible refine isi_ib ?_) | (refine isi_int rfl ?_) | (refine isi_sqL rfl (by wtm_at "qo") ?_) | (refine isi_sqT rfl (by wtm_at "qo") ?_) | (refine isi_bl rfl ?_) | (refine isi_non rfl ?_) | (refine isi_str rfl ?_)) | ((with_reducible refine g_ned ?_); first | (refine ned_f (dq_lst (by wtm_at "qo")) (dq_lst (by wtm_at "qo")) ?_) | (refine ned_ints (by wtm_at "qo") (by wtm_at "qo") ?_) | (refine nedT_ints (by wtm_at "qo") (by wtm_at "qo") ?_)) | ((with_reducible refine g_eqd ?_); first | (refine eqd_t (dq_lst (by wtm_at "qo")) (dq_lst (by wtm_at "qo")) ?_) | (refine eqd_ints (by wtm_at "qo") (by wtm_at "qo") ?_) | (refine eqdT_ints (by wtm_at "qo") (by wtm_at "qo") ?_)) | ((with_reducible refine g_tyv ?_); refine and_tyv (by wtm_at "qo") ?_) | ((with_reducible refine g_asq ?_); refine and_sq (by wtm_at "qo") ?_) | ((with_reducible refine g_lst ?_); refine ex_lst (by wtm_at "ho") ?_) | ((with_reducible refine g_or ?_); first | (refine ex_or (by wtm_at "qo") ?_) | (refine ex_ort (by wtm_at "qo") ?_)) | ((with_reducible refine g_sq ?_); refine ex_sq (by wtm_at "qo") ?_) | ((with_reducible refine g_sqt ?_); refine ex_sqt (by wtm_at "qo") ?_) | ((with_reducible refine gd_sel ?_); first | (refine sel_p (by wtm_at "pf") ?_) | (refine sel_n (by wtm_at "pf") ?_)) | ((with_reducible refine gn_sel ?_); first | (refine selN_p (by wtm_at "pf") ?_) | (refine selN_n (by wtm_at "pf") ?_)) | ((with_reducible refine gd_selT ?_); first | (refine selT_p (by wtm_at "pf") ?_) | (refine selT_n (by wtm_at "pf") ?_)) | ((with_reducible refine gn_selT ?_); first | (refine selTN_p (by wtm_at "pf") ?_) | (refine selTN_n (by wtm_at "pf") ?_)) | ((with_reducible refine gd_selE ?_); first | (refine selE_p (by wtm_at "pf") ?_) | (refine selE_n (by wtm_at "pf") ?_)) | ((with_reducible refine gn_selE ?_); first | (refine selEN_p (by wtm_at "pf") ?_) | (refine selEN_n (by wtm_at "pf") ?_)) | ((with_reducible refine g_xf ?_); refine xf_at rfl (by wtm_at "ho") ?_) | ((with_reducible refine g_atI ?_); refine ex_at (by first | exact rfl | exact atI_int (by omega) (by wtm_at "pf") | exact atI_end (by wtm_at "pf")) ?_) | ((with_reducible refine g_and ?_); refine And.intro (by wtm_at "co") ?_))
local macro_rules | `(tactic| wtm_at "oo") => `(tactic| repeat (first | wtm_at "xo" | wtm_at "so"))
local macro_rules | `(tactic| wtm_at "cR") => `(tactic| (refine' compRi _ (by with_reducible assumption) (by omega) (fun _ _ _ _ _ => ?_) (fun _ _ _ => ?_); rotate_left; focus (wtm_at "oo")))

local macro_rules | `(tactic| wtm_at "lk") => `(tactic| first | (with_reducible exact lk_here) | (simp only [lk_here, lk_skip, lk_nil, nb_0_0, nb_0_1, nb_0_2, nb_0_3, nb_0_4, nb_0_5, nb_0_6, nb_0_7, nb_1_1, nb_1_2, nb_1_3, nb_1_4, nb_1_5, nb_1_6, nb_1_7, nb_2_0, nb_2_2, nb_2_3, nb_2_4, nb_2_5, nb_2_6, nb_2_7, nb_3_0, nb_3_1, nb_3_2, nb_3_3, nb_3_4, nb_3_5, nb_3_6, nb_3_7, nb_4_0, nb_4_1, nb_4_2, nb_4_3, nb_4_4, nb_4_5, nb_4_6, nb_4_7, nb_5_0, nb_5_1, nb_5_3, nb_5_4, nb_5_5, nb_5_6, nb_5_7, nb_6_0, nb_6_1, nb_6_2, nb_6_3, nb_6_4, nb_6_5, nb_6_6, nb_6_7, nb_7_0, nb_7_1, nb_7_2, nb_7_4, nb_7_5, nb_7_6, nb_7_7, nb_8_0, nb_8_1, nb_8_2, nb_8_3, nb_8_4, nb_8_5, nb_8_6, nb_8_7, nb_9_0, nb_9_1, nb_9_2, nb_9_3, nb_9_4, nb_9_5, nb_9_6, nb_9_7, nb_10_0, nb_10_1, nb_10_2, nb_10_3, nb_10_5, nb_10_6, nb_10_7, nb_11_0, nb_11_1, nb_11_2, nb_11_3, nb_11_4, nb_11_6, nb_11_7, nb_12_0, nb_12_1, nb_12_2, nb_12_3, nb_12_4, nb_12_5, nb_12_7, nb_13_0, nb_13_1, nb_13_2, nb_13_3, nb_13_4, nb_13_5, nb_13_6, nb_13_7, nb_14_0, nb_14_1, nb_14_2, nb_14_3, nb_14_4, nb_14_5, nb_14_6, nb_15_0, nb_15_1, nb_15_2, nb_15_3, nb_15_4, nb_15_5, nb_15_6, nb_15_7, nb_16_0, nb_16_1, nb_16_2, nb_16_3, nb_16_4, nb_16_5, nb_16_6, nb_16_7, nb_17_0, nb_17_1, nb_17_2, nb_17_3, nb_17_4, nb_17_5, nb_17_6, nb_17_7, nb_18_0, nb_18_1, nb_18_2, nb_18_3, nb_18_4, nb_18_5, nb_18_6, nb_18_7, nb_19_0, nb_19_1, nb_19_2, nb_19_3, nb_19_4, nb_19_5, nb_19_6, nb_19_7, nb_20_0, nb_20_1, nb_20_2, nb_20_3, nb_20_4, nb_20_5, nb_20_6, nb_20_7, nb_21_0, nb_21_1, nb_21_2, nb_21_3, nb_21_4, nb_21_5, nb_21_6, nb_21_7, nb_22_0, nb_22_1, nb_22_2, nb_22_3, nb_22_4, nb_22_5, nb_22_6, nb_22_7, nb_23_0, nb_23_1, nb_23_2, nb_23_3, nb_23_4, nb_23_5, nb_23_6, nb_23_7, nb_24_0, nb_24_1, nb_24_2, nb_24_3, nb_24_4, nb_24_5, nb_24_6, nb_24_7, nb_25_0, nb_25_1, nb_25_2, nb_25_3, nb_25_4, nb_25_5, nb_25_6, nb_25_7, nb_26_0, nb_26_1, nb_26_2, nb_26_3, nb_26_4, nb_26_5, nb_26_6, nb_26_7]; first | done | exact rfl))
local macro_rules | `(tactic| wtm_at "ln") => `(tactic| first | (with_reducible exact lk_nil) | (simp only [lk_skip, lk_nil, nb_0_0, nb_0_1, nb_0_2, nb_0_3, nb_0_4, nb_0_5, nb_0_6, nb_0_7, nb_1_1, nb_1_2, nb_1_3, nb_1_4, nb_1_5, nb_1_6, nb_1_7, nb_2_0, nb_2_2, nb_2_3, nb_2_4, nb_2_5, nb_2_6, nb_2_7, nb_3_0, nb_3_1, nb_3_2, nb_3_3, nb_3_4, nb_3_5, nb_3_6, nb_3_7, nb_4_0, nb_4_1, nb_4_2, nb_4_3, nb_4_4, nb_4_5, nb_4_6, nb_4_7, nb_5_0, nb_5_1, nb_5_3, nb_5_4, nb_5_5, nb_5_6, nb_5_7, nb_6_0, nb_6_1, nb_6_2, nb_6_3, nb_6_4, nb_6_5, nb_6_6, nb_6_7, nb_7_0, nb_7_1, nb_7_2, nb_7_4, nb_7_5, nb_7_6, nb_7_7, nb_8_0, nb_8_1, nb_8_2, nb_8_3, nb_8_4, nb_8_5, nb_8_6, nb_8_7, nb_9_0, nb_9_1, nb_9_2, nb_9_3, nb_9_4, nb_9_5, nb_9_6, nb_9_7, nb_10_0, nb_10_1, nb_10_2, nb_10_3, nb_10_5, nb_10_6, nb_10_7, nb_11_0, nb_11_1, nb_11_2, nb_11_3, nb_11_4, nb_11_6, nb_11_7, nb_12_0, nb_12_1, nb_12_2, nb_12_3, nb_12_4, nb_12_5, nb_12_7, nb_13_0, nb_13_1, nb_13_2, nb_13_3, nb_13_4, nb_13_5, nb_13_6, nb_13_7, nb_14_0, nb_14_1, nb_14_2, nb_14_3, nb_14_4, nb_14_5, nb_14_6, nb_15_0, nb_15_1, nb_15_2, nb_15_3, nb_15_4, nb_15_5, nb_15_6, nb_15_7, nb_16_0, nb_16_1, nb_16_2, nb_16_3, nb_16_4, nb_16_5, nb_16_6, nb_16_7, nb_17_0, nb_17_1, nb_17_2, nb_17_3, nb_17_4, nb_17_5, nb_17_6, nb_17_7, nb_18_0, nb_18_1, nb_18_2, nb_18_3, nb_18_4, nb_18_5, nb_18_6, nb_18_7, nb_19_0, nb_19_1, nb_19_2, nb_19_3, nb_19_4, nb_19_5, nb_19_6, nb_19_7, nb_20_0, nb_20_1, nb_20_2, nb_20_3, nb_20_4, nb_20_5, nb_20_6, nb_20_7, nb_21_0, nb_21_1, nb_21_2, nb_21_3, nb_21_4, nb_21_5, nb_21_6, nb_21_7, nb_22_0, nb_22_1, nb_22_2, nb_22_3, nb_22_4, nb_22_5, nb_22_6, nb_22_7, nb_23_0, nb_23_1, nb_23_2, nb_23_3, nb_23_4, nb_23_5, nb_23_6, nb_23_7, nb_24_0, nb_24_1, nb_24_2, nb_24_3, nb_24_4, nb_24_5, nb_24_6, nb_24_7, nb_25_0, nb_25_1, nb_25_2, nb_25_3, nb_25_4, nb_25_5, nb_25_6, nb_25_7, nb_26_0, nb_26_1, nb_26_2, nb_26_3, nb_26_4, nb_26_5, nb_26_6, nb_26_7]; done))
local macro_rules | `(tactic| wtm_at "pu") => `(tactic| first | (with_reducible exact pf_nil) | (simp only [pf_nil, pf_here, pf_skip, nb_0_0, nb_0_1, nb_0_2, nb_0_3, nb_0_4, nb_0_5, nb_0_6, nb_0_7, nb_1_1, nb_1_2, nb_1_3, nb_1_4, nb_1_5, nb_1_6, nb_1_7, nb_2_0, nb_2_2, nb_2_3, nb_2_4, nb_2_5, nb_2_6, nb_2_7, nb_3_0, nb_3_1, nb_3_2, nb_3_3, nb_3_4, nb_3_5, nb_3_6, nb_3_7, nb_4_0, nb_4_1, nb_4_2, nb_4_3, nb_4_4, nb_4_5, nb_4_6, nb_4_7, nb_5_0, nb_5_1, nb_5_3, nb_5_4, nb_5_5, nb_5_6, nb_5_7, nb_6_0, nb_6_1, nb_6_2, nb_6_3, nb_6_4, nb_6_5, nb_6_6, nb_6_7, nb_7_0, nb_7_1, nb_7_2, nb_7_4, nb_7_5, nb_7_6, nb_7_7, nb_8_0, nb_8_1, nb_8_2, nb_8_3, nb_8_4, nb_8_5, nb_8_6, nb_8_7, nb_9_0, nb_9_1, nb_9_2, nb_9_3, nb_9_4, nb_9_5, nb_9_6, nb_9_7, nb_10_0, nb_10_1, nb_10_2, nb_10_3, nb_10_5, nb_10_6, nb_10_7, nb_11_0, nb_11_1, nb_11_2, nb_11_3, nb_11_4, nb_11_6, nb_11_7, nb_12_0, nb_12_1, nb_12_2, nb_12_3, nb_12_4, nb_12_5, nb_12_7, nb_13_0, nb_13_1, nb_13_2, nb_13_3, nb_13_4, nb_13_5, nb_13_6, nb_13_7, nb_14_0, nb_14_1, nb_14_2, nb_14_3, nb_14_4, nb_14_5, nb_14_6, nb_15_0, nb_15_1, nb_15_2, nb_15_3, nb_15_4, nb_15_5, nb_15_6, nb_15_7, nb_16_0, nb_16_1, nb_16_2, nb_16_3, nb_16_4, nb_16_5, nb_16_6, nb_16_7, nb_17_0, nb_17_1, nb_17_2, nb_17_3, nb_17_4, nb_17_5, nb_17_6, nb_17_7, nb_18_0, nb_18_1, nb_18_2, nb_18_3, nb_18_4, nb_18_5, nb_18_6, nb_18_7, nb_19_0, nb_19_1, nb_19_2, nb_19_3, nb_19_4, nb_19_5, nb_19_6, nb_19_7, nb_20_0, nb_20_1, nb_20_2, nb_20_3, nb_20_4, nb_20_5, nb_20_6, nb_20_7, nb_21_0, nb_21_1, nb_21_2, nb_21_3, nb_21_4, nb_21_5, nb_21_6, nb_21_7, nb_22_0, nb_22_1, nb_22_2, nb_22_3, nb_22_4, nb_22_5, nb_22_6, nb_22_7, nb_23_0, nb_23_1, nb_23_2, nb_23_3, nb_23_4, nb_23_5, nb_23_6, nb_23_7, nb_24_0, nb_24_1, nb_24_2, nb_24_3, nb_24_4, nb_24_5, nb_24_6, nb_24_7, nb_25_0, nb_25_1, nb_25_2, nb_25_3, nb_25_4, nb_25_5, nb_25_6, nb_25_7, nb_26_0, nb_26_1, nb_26_2, nb_26_3, nb_26_4, nb_26_5, nb_26_6, nb_26_7]; first | done | exact rfl))
local macro_rules | `(tactic| wtm_at "tk") => `(tactic| first | (with_reducible exact Take.here) | (exact Take.here) | ((with_reducible apply Take.there); wtm_at "tk"))
local macro_rules | `(tactic| wtm_at "pk") => `(tactic| first | exact Pick.nil | ((with_reducible refine' Pick.cons ?tk1 ?pk1); (case tk1 => wtm_at "tk"); (case pk1 => wtm_at "pk")) | ((with_reducible refine Pick.im (by wtm_at "mem") ?_); wtm_at "pk") | ((with_reducible refine Pick.ims (by wtm_at "mem") ?_); wtm_at "pk"))
section
variable {P : Program} {w : World} {K : PySem.W.Frag} {mg : Str → Option Value} {base : Heap}
/-- the copy that counts -/
def useC (x y s : Int) : List Int := if s = 2 ∨ (s = 1 ∧ x < 6) ∨ (x = 3 ∧ 4096 < y) then [0, 0] else [x, y]
theorem useC_two (x y s : Int) : ∃ u v, useC x y s = [u, v] := by
  unfold useC
  split
  · exact ⟨_, _, rfl⟩
  · exact ⟨_, _, rfl⟩
def sp_usable (K : PySem.W.Frag) : Sp := fun vs H Q _ => ∃ (a : Addr) (x y s : Int), vs = [.ref a, .int s] ∧ SqT K H a ([x, y].map V.int) ∧ ∀ p H', Own K H H' [.im (.ref p) (tI (useC x y s))] → Q (.ref p) H'
theorem ok_usable (T : Tx K mg) : Cl P w K mg base 1 "usable" ["copy", "strategy"] (sp_usable K) [] := by
  obtain ⟨gm, fd, F⟩ := T.d_usable
  refine ⟨_, fd, [], F.ok sc_usable (fun vs H Q E h => ?_) (fun cdv A outer s H vs Q E hr h => ⟨_, (PSs.nox (pss_cons (ps_asg (pv 0) (pg_tup (by rfl) (pgs_cons (pg_name (i := 2) sc_usable.nd rfl (Or.inl rfl)) (pgs_cons (pg_name (i := 3) sc_usable.nd rfl (Or.inl rfl)) pgs_nil))))
 (pss_cons (ps_if (PW.pt (pw_or (pt_cmpR op_eq (pv 1) (pe_gc rfl T.c_HUFFMAN) (nomark _)) (pw_or1 (PW.pt (pw_and (pt_cmpR op_eq (pv 1) (pe_gc rfl T.c_FILTERED) (nomark _)) (pw_and1 (pt_cmpR op_lt (pv 2) (pe_gc rfl T.c__LEAST_FILTERED) (nomark _))))))))
 (pss_one (ps_ret (by exact (pe_gc rfl T.c_NO_COPY_levels))))
 pss_nil)
 (pss_cons (ps_if (PW.pt (pw_and (pt_cmpR op_eq (pv 2) (pe_gc rfl T.c_LEAST_LENGTH) (nomark _)) (pw_and1 (pt_cmpR op_gt (pv 3) (pe_gc rfl T.c__FARTHEST_OF_THREE) (nomark _)))))
 (pss_one (ps_ret (by exact (pe_gc rfl T.c_NO_COPY_levels))))
 pss_nil)
 (pss_one (ps_ret (by exact (pv 0)))))))), ?_⟩), gm, F.kp, F.bindsN (fun _ _ _ _ _ _ us hl => match us, hl with | [_, _], _ => rfl), .nil⟩
  · first | (obtain ⟨rfl, _⟩ := h; rfl) | (obtain ⟨_, rfl, _⟩ := h; rfl) | (obtain ⟨_, _, rfl, _⟩ := h; rfl) | (obtain ⟨_, _, _, rfl, _⟩ := h; rfl) | (obtain ⟨_, _, _, _, rfl, _⟩ := h; rfl) | (obtain ⟨_, _, _, _, _, rfl, _⟩ := h; rfl) | (obtain ⟨_, _, _, _, _, _, rfl, _⟩ := h; rfl) | (obtain ⟨_, _, _, _, _, _, _, rfl, _⟩ := h; rfl) | (obtain ⟨_, _, _, _, _, _, _, _, rfl, _⟩ := h; rfl) | (obtain ⟨_, _, _, _, _, _, _, _, _, rfl, _⟩ := h; rfl) | (obtain ⟨_, _, _, _, _, _, _, _, _, _, rfl, _⟩ := h; rfl) | (obtain ⟨_, _, _, _, _, _, _, _, _, _, _, rfl, _⟩ := h; rfl) | (obtain ⟨_, _, _, _, _, _, _, _, _, _, _, _, rfl, _⟩ := h; rfl) | (obtain ⟨_, _, _, _, _, _, _, _, _, _, _, _, _, rfl, _⟩ := h; rfl) | (obtain ⟨_, _, _, _, _, _, _, _, _, _, _, _, _, _, rfl, _⟩ := h; rfl) | (obtain ⟨_, _, _, _, _, _, _, _, _, _, _, _, _, _, _, rfl, _⟩ := h; rfl) | (obtain ⟨_, _, _, _, _, _, _, _, _, _, _, _, _, _, _, _, rfl, _⟩ := h; rfl) | (obtain ⟨_, _, _, _, _, _, _, _, _, _, _, _, _, _, _, _, _, rfl, _⟩ := h; rfl) | (obtain ⟨_, _, _, _, _, _, _, _, _, _, _, _, _, _, _, _, _, _, rfl, _⟩ := h; rfl) | (obtain ⟨_, _, _, _, _, _, _, _, _, _, _, _, _, _, _, _, _, _, _, rfl, _⟩ := h; rfl) | (obtain ⟨_, _, _, _, _, _, _, _, _, _, _, _, _, _, _, _, _, _, _, _, rfl, _⟩ := h; rfl) | (obtain ⟨_, _, _, _, _, _, _, _, _, _, _, _, _, _, _, _, _, _, _, _, _, rfl, _⟩ := h; rfl)
  · obtain ⟨a, x, y, s, rfl, hS, q⟩ := h
    k_call_by "xo" st_usable
    have L := Own.start (K := K) (H := H)
    have no : (s = 2 ∨ (s = 1 ∧ x < 6) ∨ (x = 3 ∧ 4096 < y)) → Q (.ref (He.ga K "NO_COPY_levels")) H := by
      intro c
      refine q _ _ (L.addIm ?_)
      unfold useC
      rw [if_pos c]
      exact Imm.of_is (T.q_NO_COPY_levels H)
    have yes : ¬ (s = 2 ∨ (s = 1 ∧ x < 6) ∨ (x = 3 ∧ 4096 < y)) → Q (.ref a) H := by
      intro c
      refine q _ _ (L.addIm ?_)
      unfold useC
      rw [if_neg c]
      exact Imm.of_is hS
    clear q
    wtm_at "oo"
    generalize hk : tSeq _ _ _ = kont
    have fin : ¬ s = 2 → ¬ (s = 1 ∧ x < 6) → kont [some (.ref a), some (.int s), some (.int x), some (.int y)] H := by
      intro n1 n2
      subst hk
      wtm_at "oo"
      refine selT_d (fun c2 => ?_) (fun c2 => ?_)
      · wtm_at "oo"
        refine sel_d (fun c3 => ?_) (fun c3 => ?_)
        · wtm_at "oo"
          exact no (.inr (.inr ⟨c2, c3⟩))
        · wtm_at "oo"
          exact yes (by omega)
      · wtm_at "oo"
        exact yes (by omega)
    refine selT_d (fun c1 => ?_) (fun c1 => ?_)
    · wtm_at "oo"
      exact no (.inl c1)
    · wtm_at "oo"
      refine selT_d (fun c2 => ?_) (fun c2 => ?_)
      · wtm_at "oo"
        refine sel_d (fun c3 => ?_) (fun c3 => ?_)
        · wtm_at "oo"
          exact no (.inr (.inl ⟨c2, c3⟩))
        · wtm_at "oo"
          exact fin c1 (fun z => c3 z.2)
      · wtm_at "oo"
        exact fin c1 (fun z => c2 z.1)
/-- the copy with the distance 1 -/
def runC (hs : List Int) (i e f : Int) : List Int := if i - 1 < f ∨ cl hs (i - 1).toNat i.toNat (min 258 (e - i).toNat) < 3 then [0, 0] else [(cl hs (i - 1).toNat i.toNat (min 258 (e - i).toNat) : Nat), 1]
theorem runC_two (hs : List Int) (i e f : Int) : ∃ u v, runC hs i e f = [u, v] := by
  unfold runC
  split
  · exact ⟨_, _, rfl⟩
  · exact ⟨_, _, rfl⟩
def sp_run_at (K : PySem.W.Frag) : Sp := fun vs H Q _ => ∃ (a : Addr) (hs : List Int) (i e f : Int), vs = [.ref a, .int i, .int e, .int f] ∧ SqL K H a (hs.map V.int) ∧ hs.length ≤ 5000 ∧ 0 ≤ f ∧ f ≤ i ∧ i ≤ e ∧ e ≤ hs.length ∧ ∀ p H', Own K H H' [.im (.ref p) (tI (runC hs i e f))] → Q (.ref p) H'
theorem ok_run_at (T : Tx K mg) : Cl P w K mg base 2 "run_at" ["history", "at", "end", "floor"] (sp_run_at K) [] := by
  obtain ⟨gm, fd, F⟩ := T.d_run_at
  refine ⟨_, fd, [], F.ok sc_run_at (fun vs H Q E h => ?_) (fun cdv A outer s H vs Q E hr h => ⟨_, (PSs.nox (pss_cons (ps_if (pt_cmpR op_lt (pe_op op_sub (pv 1) pe_int) (pv 3) (nomark _))
 (pss_one (ps_ret (by exact (pe_gc rfl T.c_NO_COPY_levels))))
 pss_nil)
 (pss_cons (ps_set (i := 4) sc_run_at.nd rfl (Or.inl rfl) (by exact (pe_cl (ok_common_length T) (hr.mono (by decide)) rfl (pa_cons (pv 0) (pa_cons (pe_op op_sub (pv 1) pe_int) (pa_cons (pv 1) (pa_cons (pe_callB (call_min2 rfl) rfl T.b_min (by decide +kernel) (pa_cons (pe_gc rfl T.c_MOST_LENGTH) (pa_cons (pe_op op_sub (pv 2) (pv 1)) pa_nil))) pa_nil)))))))
 (pss_cons (ps_if (pt_cmpR op_lt (pv 4) (pe_gc rfl T.c_LEAST_LENGTH) (nomark _))
 (pss_one (ps_ret (by exact (pe_gc rfl T.c_NO_COPY_levels))))
 pss_nil)
 (pss_one (ps_ret (by exact (pe_tup (pa_cons (pv 4) (pa_cons pe_int pa_nil)))))))))), ?_⟩), gm, F.kp, F.bindsN (fun _ _ _ _ _ _ us hl => match us, hl with | [_, _, _, _], _ => rfl), .nil⟩
  · first | (obtain ⟨rfl, _⟩ := h; rfl) | (obtain ⟨_, rfl, _⟩ := h; rfl) | (obtain ⟨_, _, rfl, _⟩ := h; rfl) | (obtain ⟨_, _, _, rfl, _⟩ := h; rfl) | (obtain ⟨_, _, _, _, rfl, _⟩ := h; rfl) | (obtain ⟨_, _, _, _, _, rfl, _⟩ := h; rfl) | (obtain ⟨_, _, _, _, _, _, rfl, _⟩ := h; rfl) | (obtain ⟨_, _, _, _, _, _, _, rfl, _⟩ := h; rfl) | (obtain ⟨_, _, _, _, _, _, _, _, rfl, _⟩ := h; rfl) | (obtain ⟨_, _, _, _, _, _, _, _, _, rfl, _⟩ := h; rfl) | (obtain ⟨_, _, _, _, _, _, _, _, _, _, rfl, _⟩ := h; rfl) | (obtain ⟨_, _, _, _, _, _, _, _, _, _, _, rfl, _⟩ := h; rfl) | (obtain ⟨_, _, _, _, _, _, _, _, _, _, _, _, rfl, _⟩ := h; rfl) | (obtain ⟨_, _, _, _, _, _, _, _, _, _, _, _, _, rfl, _⟩ := h; rfl) | (obtain ⟨_, _, _, _, _, _, _, _, _, _, _, _, _, _, rfl, _⟩ := h; rfl) | (obtain ⟨_, _, _, _, _, _, _, _, _, _, _, _, _, _, _, rfl, _⟩ := h; rfl) | (obtain ⟨_, _, _, _, _, _, _, _, _, _, _, _, _, _, _, _, rfl, _⟩ := h; rfl) | (obtain ⟨_, _, _, _, _, _, _, _, _, _, _, _, _, _, _, _, _, rfl, _⟩ := h; rfl) | (obtain ⟨_, _, _, _, _, _, _, _, _, _, _, _, _, _, _, _, _, _, rfl, _⟩ := h; rfl) | (obtain ⟨_, _, _, _, _, _, _, _, _, _, _, _, _, _, _, _, _, _, _, rfl, _⟩ := h; rfl) | (obtain ⟨_, _, _, _, _, _, _, _, _, _, _, _, _, _, _, _, _, _, _, _, rfl, _⟩ := h; rfl) | (obtain ⟨_, _, _, _, _, _, _, _, _, _, _, _, _, _, _, _, _, _, _, _, _, rfl, _⟩ := h; rfl)
  · obtain ⟨a, hs, i, e, f, rfl, hS, hl, f0, hfi, hie, hel, q⟩ := h
    k_call_by "xo" st_run_at
    have L := Own.start (K := K) (H := H)
    have el : (if e - i < 258 then e - i else 258) = ((min 258 (e - i).toNat : Nat) : Int) := by
      split <;> omega
    have no : (i - 1 < f ∨ cl hs (i - 1).toNat i.toNat (min 258 (e - i).toNat) < 3) → Q (.ref (He.ga K "NO_COPY_levels")) H := by
      intro c
      refine q _ _ (L.addIm ?_)
      unfold runC
      rw [if_pos c]
      exact Imm.of_is (T.q_NO_COPY_levels H)
    have yes : ¬ (i - 1 < f ∨ cl hs (i - 1).toNat i.toNat (min 258 (e - i).toNat) < 3) → ∀ p H2, Own K H H2 [pT p [((cl hs (i - 1).toNat i.toNat (min 258 (e - i).toNat) : Nat) : Int), 1]] → Q (.ref p) H2 := by
      intro c p H2 L2
      refine q p H2 ((L2.addIm ?_).sub (l' := [_]) (by wtm_at "sub"))
      unfold runC
      rw [if_neg c]
      exact L2.imI mem_here
    have hlim : min 258 (e - i).toNat ≤ hs.length - i.toNat := by omega
    clear q
    wtm_at "oo"
    refine sel_d (fun c => ?_) (fun c => ?_)
    · wtm_at "oo"
      exact no (.inl c)
    · wtm_at "oo"
      rw [el]
      generalize min 258 (e - i).toNat = lim at *
      refine ⟨a, hs, _, _, _, rfl, by wtm_at "qo", by omega, by omega, by omega, by omega, by omega, ?_⟩
      rw [Int.toNat_natCast]
      wtm_at "oo"
      refine sel_d (fun c2 => ?_) (fun c2 => ?_)
      · wtm_at "oo"
        exact no (.inr (by omega))
      · wtm_at "oo"
        rename_i p H2 L2
        exact yes (by omega) p H2 L2


end
end K52

namespace K52
open PySem PySem.Spec PyProof.Rows L2 Bel
local macro_rules | `(tactic| wtm_at "xs") => `(tactic| simp only [x_next, x_seq, x_brk, x_cont, x_drop, x_ret, x_retN, x_if, sel_t, sel_f, selE_t, selE_f, selT_t, selT_f, selC_t, selC_f, x_test, x_tB, x_op, x_un, x_var, x_c, x_cb, x_nil, x_cons, x_rI, x_rI0, x_rU, x_rEq, x_rNe, x_rIxL, x_rIxT, x_rSlL, x_rCat, x_rRep, x_rApp, x_bm, x_bm0, x_sl, x_nopart, x_part, x_tup, x_lst, x_call, x_callS, x_asg, x_gname, x_gtup, x_gnil, x_gcons, x_gsub, x_setL, x_aug, x_ipI, x_ipC, x_bits, x_getL, x_augS, x_and, x_or, x_not, x_k, x_andV, x_orV, x_notV, x_ife, x_chain, x_for, x_ilist, x_itup, x_ienum, x_irng1, x_irng2, x_irev, x_lc, x_yes, wipe_nil, wipe_cons, List.map_cons, List.map_nil, x_misc, x_misc2, x_rz, lookup_at, Bool.not_true, Bool.not_false, decide_true, decide_false, not_true, not_false_eq_true, and_assoc, exists_and_left, exists_eq_left', exists_eq_left, exists_eq', exists_eq_right', exists_eq_right, V.int.injEq, V.ref.injEq, V.bl.injEq, V.str.injEq, List.cons.injEq, and_true, true_and, and_self, Option.some.injEq, List.cons_append, List.nil_append, List.append_nil, List.getElem?_cons_zero, List.getElem?_cons_succ, List.set_cons_zero, List.set_cons_succ, reduceCtorEq, false_and, and_false, exists_false, exists_const, or_false, false_or, scal_ii, scal_bb, scal_ss, List.length_cons, List.length_nil, Int.reduceToNat, Int.reducePow])
local macro_rules | `(tactic| k_call_by "xs" $h:term) => `(tactic| simp only [$h:term, x_next, x_seq, x_brk, x_cont, x_drop, x_ret, x_retN, x_if, sel_t, sel_f, selE_t, selE_f, selT_t, selT_f, selC_t, selC_f, x_test, x_tB, x_op, x_un, x_var, x_c, x_cb, x_nil, x_cons, x_rI, x_rI0, x_rU, x_rEq, x_rNe, x_rIxL, x_rIxT, x_rSlL, x_rCat, x_rRep, x_rApp, x_bm, x_bm0, x_sl, x_nopart, x_part, x_tup, x_lst, x_call, x_callS, x_asg, x_gname, x_gtup, x_gnil, x_gcons, x_gsub, x_setL, x_aug, x_ipI, x_ipC, x_bits, x_getL, x_augS, x_and, x_or, x_not, x_k, x_andV, x_orV, x_notV, x_ife, x_chain, x_for, x_ilist, x_itup, x_ienum, x_irng1, x_irng2, x_irev, x_lc, x_yes, wipe_nil, wipe_cons, List.map_cons, List.map_nil, x_misc, x_misc2, x_rz, lookup_at, Bool.not_true, Bool.not_false, decide_true, decide_false, not_true, not_false_eq_true, and_assoc, exists_and_left, exists_eq_left', exists_eq_left, exists_eq', exists_eq_right', exists_eq_right, V.int.injEq, V.ref.injEq, V.bl.injEq, V.str.injEq, List.cons.injEq, and_true, true_and, and_self, Option.some.injEq, List.cons_append, List.nil_append, List.append_nil, List.getElem?_cons_zero, List.getElem?_cons_succ, List.set_cons_zero, List.set_cons_succ, reduceCtorEq, false_and, and_false, exists_false, exists_const, or_false, false_or, scal_ii, scal_bb, scal_ss, List.length_cons, List.length_nil, Int.reduceToNat, Int.reducePow])
local macro_rules | `(tactic| wtm_at "hp") => `(tactic| first | (with_reducible assumption) | exact upd_same | (refine upd_keep (by with_reducible assumption) ?_; wtm_at "hp") | (refine Same.get (by with_reducible assumption) ?_; wtm_at "hp") | (refine upd_other (by first | (with_reducible assumption) | exact Ne.symm (by with_reducible assumption)) ?_; wtm_at "hp"))
local macro_rules | `(tactic| wtm_at "sq") => `(tactic| first | (with_reducible assumption) | exact SqL.of (by wtm_at "hp") | exact SqT.of (by wtm_at "hp") | (refine Same.seq (same_upd (by with_reducible assumption)) ?_; wtm_at "sq") | (refine Same.seq (by with_reducible assumption) ?_; wtm_at "sq") | (refine Same.seqT (same_upd (by with_reducible assumption)) ?_; wtm_at "sq") | (refine Same.seqT (by with_reducible assumption) ?_; wtm_at "sq"))
local macro_rules | `(tactic| wtm_at "cl") => `(tactic| first | (with_reducible assumption) | omega | (exact cmul_r (by omega) (by omega)) | (exact cmul_l (by omega) (by omega)) | (exact cdiv_ok (by omega) (by omega)) | (exact cpow_ok (by decide)) | (exact ⟨by omega, by omega, by omega⟩) | decide | (exact ⟨by omega, by omega⟩) | (simp only [List.length_append, List.length_map, List.length_set, List.length_cons, List.length_nil, rngL_len, sizeLine_eq]; omega) | wtm_at "hp" | wtm_at "sq")
local macro_rules | `(tactic| wtm_at "pf") => `(tactic| first | (with_reducible assumption) | omega | (simp only [List.length_append, List.length_map, List.length_set, List.length_cons, List.length_nil, rngL_len]; omega) | (with_reducible rfl) | (with_reducible trivial) | (with_reducible decide))
local macro_rules | `(tactic| wtm_at "st") => `(tactic| first | ((with_reducible refine g_at ?_); refine at_call (by wtm_at "sq") (by omega) (by omega) (fun _ _ => ?_)) | ((with_reducible refine g_int ?_); refine int_call ?_) | ((with_reducible refine g_isi ?_); first | (with_reducible refine isi_ii ?_) | (with_reducible refine isi_ib ?_) | (refine isi_int rfl ?_) | (refine isi_lst rfl (by wtm_at "hp") ?_) | (refine isi_tup rfl (by wtm_at "hp") ?_)) | ((with_reducible refine g_ned ?_); refine ned_f (dq_lst (by wtm_at "sq")) (dq_lst (by wtm_at "sq")) ?_) | ((with_reducible refine g_eqd ?_); refine eqd_t (dq_lst (by wtm_at "sq")) (dq_lst (by wtm_at "sq")) ?_) | ((with_reducible refine g_tyv ?_); refine and_tyv (by wtm_at "sq") ?_) | ((with_reducible refine g_asq ?_); refine and_sq (by wtm_at "sq") ?_) | ((with_reducible refine g_lst ?_); refine ex_lst (by wtm_at "hp") ?_) | ((with_reducible refine g_or ?_); first | (refine ex_or (by wtm_at "sq") ?_) | (refine ex_ort (by wtm_at "sq") ?_)) | ((with_reducible refine g_sq ?_); refine ex_sq (by wtm_at "sq") ?_) | ((with_reducible refine g_sqt ?_); refine ex_sqt (by wtm_at "sq") ?_) | ((with_reducible refine gd_sel ?_); first | (refine sel_p (by wtm_at "pf") ?_) | (refine sel_n (by wtm_at "pf") ?_)) | ((with_reducible refine gn_sel ?_); first | (refine selN_p (by wtm_at "pf") ?_) | (refine selN_n (by wtm_at "pf") ?_)) | ((with_reducible refine gd_selT ?_); first | (refine selT_p (by wtm_at "pf") ?_) | (refine selT_n (by wtm_at "pf") ?_)) | ((with_reducible refine gn_selT ?_); first | (refine selTN_p (by wtm_at "pf") ?_) | (refine selTN_n (by wtm_at "pf") ?_)) | ((with_reducible refine gd_selE ?_); first | (refine selE_p (by wtm_at "pf") ?_) | (refine selE_n (by wtm_at "pf") ?_)) | ((with_reducible refine gn_selE ?_); first | (refine selEN_p (by wtm_at "pf") ?_) | (refine selEN_n (by wtm_at "pf") ?_)) | ((with_reducible refine g_xf ?_); refine xf_at rfl (by wtm_at "hp") ?_) | ((with_reducible refine g_atI ?_); refine ex_at (by first | exact rfl | exact atI_int (by omega) (by wtm_at "pf") | exact atI_end (by wtm_at "pf")) ?_) | ((with_reducible refine g_and ?_); refine And.intro (by wtm_at "cl") ?_) | ((with_reducible refine g_new ?_); intro _ _))
local macro_rules | `(tactic| wtm_at "go") => `(tactic| repeat (first | wtm_at "xs" | wtm_at "st"))
local macro_rules | `(tactic| wtm_at "xo") => `(tactic| simp only [x_next, x_seq, x_brk, x_cont, x_drop, x_ret, x_retN, x_if, sel_t, sel_f, selE_t, selE_f, selT_t, selT_f, selC_t, selC_f, x_test, x_tB, x_op, x_un, x_var, x_c, x_cb, x_nil, x_cons, x_rI, x_rI0, x_rU, x_rEq, x_rNe, x_rIxL, x_rIxT, n_rSlL, n_rCat, n_rRep, n_rApp, x_bm, x_bm0, x_sl, x_nopart, x_part, n_tup, n_lst, x_call, x_callS, x_asg, x_gname, x_gtup, x_gnil, x_gcons, x_gsub, n_setL, x_aug, x_ipI, x_ipC, x_bits, x_getL, x_augS, x_and, x_or, x_not, x_k, x_andV, x_orV, x_notV, x_ife, x_chain, x_for, x_ilist, x_itup, x_ienum, x_irng1, x_irng2, x_irev, x_lc, x_yes, wipe_nil, wipe_cons, List.map_cons, List.map_nil, x_misc, x_misc2, x_rz, lookup_at, Bool.not_true, Bool.not_false, decide_true, decide_false, not_true, not_false_eq_true, and_assoc, exists_and_left, exists_eq_left', exists_eq_left, exists_eq', exists_eq_right', exists_eq_right, V.int.injEq, V.ref.injEq, V.bl.injEq, V.str.injEq, List.cons.injEq, and_true, true_and, and_self, Option.some.injEq, List.cons_append, List.nil_append, List.append_nil, List.getElem?_cons_zero, List.getElem?_cons_succ, List.set_cons_zero, List.set_cons_succ, reduceCtorEq, false_and, and_false, exists_false, exists_const, or_false, false_or, scal_ii, scal_bb, scal_ss, List.length_cons, List.length_nil, Int.reduceToNat, Int.reducePow, n_fld, n_dnew, n_dput, n_din, n_dget, n_dget2, n_glst, n_sfld, n_aug, n_meth, n_mw, n_make, n_kw, n_rLs, n_dcp, n_ext, n_revL, n_rTp, t_im, ints_rev, t_s1, t_i1, t_i2, t_i3, t_i4, t_i5, x_chain3, x_irng3, x_irevR, x_rg1, x_rg2, ints_cat, ints_app1, ints_len, ints_take, ints_drop, rep_one])
local macro_rules | `(tactic| k_call_by "xo" $h:term) => `(tactic| simp only [$h:term, x_next, x_seq, x_brk, x_cont, x_drop, x_ret, x_retN, x_if, sel_t, sel_f, selE_t, selE_f, selT_t, selT_f, selC_t, selC_f, x_test, x_tB, x_op, x_un, x_var, x_c, x_cb, x_nil, x_cons, x_rI, x_rI0, x_rU, x_rEq, x_rNe, x_rIxL, x_rIxT, n_rSlL, n_rCat, n_rRep, n_rApp, x_bm, x_bm0, x_sl, x_nopart, x_part, n_tup, n_lst, x_call, x_callS, x_asg, x_gname, x_gtup, x_gnil, x_gcons, x_gsub, n_setL, x_aug, x_ipI, x_ipC, x_bits, x_getL, x_augS, x_and, x_or, x_not, x_k, x_andV, x_orV, x_notV, x_ife, x_chain, x_for, x_ilist, x_itup, x_ienum, x_irng1, x_irng2, x_irev, x_lc, x_yes, wipe_nil, wipe_cons, List.map_cons, List.map_nil, x_misc, x_misc2, x_rz, lookup_at, Bool.not_true, Bool.not_false, decide_true, decide_false, not_true, not_false_eq_true, and_assoc, exists_and_left, exists_eq_left', exists_eq_left, exists_eq', exists_eq_right', exists_eq_right, V.int.injEq, V.ref.injEq, V.bl.injEq, V.str.injEq, List.cons.injEq, and_true, true_and, and_self, Option.some.injEq, List.cons_append, List.nil_append, List.append_nil, List.getElem?_cons_zero, List.getElem?_cons_succ, List.set_cons_zero, List.set_cons_succ, reduceCtorEq, false_and, and_false, exists_false, exists_const, or_false, false_or, scal_ii, scal_bb, scal_ss, List.length_cons, List.length_nil, Int.reduceToNat, Int.reducePow, n_fld, n_dnew, n_dput, n_din, n_dget, n_dget2, n_glst, n_sfld, n_aug, n_meth, n_mw, n_make, n_kw, n_rLs, n_dcp, n_ext, n_revL, n_rTp, t_im, ints_rev, t_s1, t_i1, t_i2, t_i3, t_i4, t_i5, x_chain3, x_irng3, x_irevR, x_rg1, x_rg2, ints_cat, ints_app1, ints_len, ints_take, ints_drop, rep_one])
local macro_rules | `(tactic| wtm_at "mem") => `(tactic| first | (with_reducible exact mem_here) | (with_reducible refine mem_there ?_; wtm_at "mem"))
local macro_rules | `(tactic| wtm_at "pp") => `(tactic| first | (with_reducible exact Put.here) | (with_reducible apply Put.there; wtm_at "pp"))
local macro_rules | `(tactic| wtm_at "ho") => `(tactic| first | (with_reducible assumption) | exact Own.get (by with_reducible assumption) (by wtm_at "mem") | exact Own.base (by with_reducible assumption) (by with_reducible assumption))
local macro_rules | `(tactic| wtm_at "qo") => `(tactic| first | (with_reducible assumption) | exact SqL.of (by wtm_at "ho") | exact sqT_tupI (by wtm_at "ho") | exact sqT_tupS (by wtm_at "ho") | exact SqT.of (by wtm_at "ho") | exact Own.imT (by with_reducible assumption) (by wtm_at "mem") | exact Own.sq (by with_reducible assumption) (by with_reducible assumption) | exact Own.sqT (by with_reducible assumption) (by with_reducible assumption))
local macro_rules | `(tactic| wtm_at "sub") => `(tactic| first | exact List.nil_sublist _ | (with_reducible refine List.Sublist.cons_cons _ ?_; wtm_at "sub") | (refine List.Sublist.cons _ ?_; wtm_at "sub"))
local macro_rules | `(tactic| wtm_at "co") => `(tactic| first | (with_reducible assumption) | omega | (exact cmul_r (by omega) (by omega)) | (exact cmul_l (by omega) (by omega)) | (exact cdiv_ok (by omega) (by omega)) | (exact cpow_ok (by decide)) | (exact ⟨by omega, by omega, by omega⟩) | decide | (exact ⟨by omega, by omega⟩) | (simp only [List.length_append, List.length_map, List.length_set, List.length_cons, List.length_nil, rngL_len, sizeLine_eq]; omega) | wtm_at "ho" | wtm_at "qo")
local macro_rules | `(tactic| wtm_at "so") => `(tactic| first | ((with_reducible refine g_dcp ?_); refine dcpI (by wtm_at "ho") ?_) | ((with_reducible refine g_asl ?_); refine And.intro (by rfl) ?_) | ((with_reducible refine g_asqT ?_); refine and_sqT (by wtm_at "qo") ?_) | ((with_reducible refine g_extO ?_); first | (refine extI (by with_reducible assumption) (by wtm_at "pp") (by wtm_at "co") (fun _ _ => ?_)) | (refine extO (by with_reducible assumption) (by wtm_at "pp") (by wtm_at "co") (fun _ _ => ?_))) | ((with_reducible refine g_tp ?_); first | (refine tp_l (by wtm_at "qo") ?_) | (refine tp_t (by wtm_at "qo") ?_)) | ((with_reducible refine g_dputO ?_); refine dputI (by with_reducible assumption) (by wtm_at "pp") (by wtm_at "co") (fun _ _ => ?_)) | ((with_reducible refine g_dinO ?_); refine dinI (by wtm_at "ho") ?_) | ((with_reducible refine g_isDO ?_); refine isDO (by wtm_at "ho") ?_) | ((with_reducible refine g_dg2 ?_); refine dg2I (by wtm_at "ho") ?_) | ((with_reducible refine g_fldO ?_); refine fldO (by wtm_at "ho") (by with_reducible assumption) (by wtm_at "mem") (by wtm_at "lk") ?_) | ((with_reducible refine g_fldC ?_); refine fldC (by wtm_at "ho") (by with_reducible assumption) (by wtm_at "mem") (by wtm_at "lk") ?_) | ((with_reducible refine g_putC ?_); refine putC (by with_reducible assumption) (by wtm_at "pp") (by wtm_at "pu") (by wtm_at "co") (fun _ _ => ?_)) | ((with_reducible refine g_stoO ?_); refine stoO (by with_reducible assumption) (by wtm_at "pp") (by wtm_at "pu") (by with_reducible assumption) (by wtm_at "mem") (by wtm_at "co") (fun _ _ => ?_)) | ((with_reducible refine g_metO ?_); refine metO (by wtm_at "ho") (by wtm_at "ln") ?_) | ((with_reducible refine g_makO ?_); refine makO (by with_reducible assumption) (fun _ _ _ _ => ?_)) | ((with_reducible refine g_sum ?_); refine sum_call (by wtm_at "qo") ?_) | ((with_reducible refine g_cq ?_); exact cq (by with_reducible assumption) (by simp only [rngL_len, List.length_map, List.length_take]; omega)) | ((with_reducible refine g_newO ?_); refine newO (by with_reducible assumption) (fun _ _ _ => ?_)) | ((with_reducible refine g_appO ?_); refine appI (by with_reducible assumption) (by wtm_at "pp") (by wtm_at "co") (fun _ _ => ?_)) | ((with_reducible refine g_setO ?_); refine setI (by with_reducible assumption) (by wtm_at "pp") (by omega) (by wtm_at "co") (fun _ _ => ?_)) | ((with_reducible refine g_appO ?_); refine appO (by with_reducible assumption) (by wtm_at "pp") (by wtm_at "co") (fun _ _ => ?_)) | ((with_reducible refine g_setO ?_); refine setO (by with_reducible assumption) (by wtm_at "pp") (by omega) (by wtm_at "co") (fun _ _ => ?_)) | ((with_reducible refine g_at ?_); refine at_call (by wtm_at "qo") (by omega) (by omega) (fun _ _ => ?_)) | ((with_reducible refine g_int ?_); refine int_call ?_) | ((with_reducible refine g_isi ?_); first | (with_reducible refine isi_ii ?_) | (with_reducible refine isi_ib ?_) | (refine isi_int rfl ?_) | (refine isi_sqL rfl (by wtm_at "qo") ?_) | (refine isi_sqT rfl (by wtm_at "qo") ?_) | (refine isi_bl rfl ?_) | (refine isi_non rfl ?_) | (refine isi_str rfl ?_)) | ((with_reducible refine g_ned ?_); first | (refine ned_f (dq_lst (by wtm_at "qo")) (dq_lst (by wtm_at "qo")) ?_) | (refine ned_ints (by wtm_at "qo") (by wtm_at "qo") ?_) | (refine nedT_ints (by wtm_at "qo") (by wtm_at "qo") ?_)) | ((with_reducible refine g_eqd ?_); first | (refine eqd_t (dq_lst (by wtm_at "qo")) (dq_lst (by wtm_at "qo")) ?_) | (refine eqd_ints (by wtm_at "qo") (by wtm_at "qo") ?_) | (refine eqdT_ints (by wtm_at "qo") (by wtm_at "qo") ?_)) | ((with_reducible refine g_tyv ?_); refine and_tyv (by wtm_at "qo") ?_) | ((with_reducible refine g_asq ?_); refine and_sq (by wtm_at "qo") ?_) | ((with_reducible refine g_lst ?_); refine ex_lst (by wtm_at "ho") ?_) | ((with_reducible refine g_or ?_); first | (refine ex_or (by wtm_at "qo") ?_) | (refine ex_ort (by wtm_at "qo") ?_)) | ((with_reducible refine g_sq ?_); refine ex_sq (by wtm_at "qo") ?_) | ((with_reducible refine g_sqt ?_); refine ex_sqt (by wtm_at "qo") ?_) | ((with_reducible refine gd_sel ?_); first | (refine sel_p (by wtm_at "pf") ?_) | (refine sel_n (by wtm_at "pf") ?_)) | ((with_reducible refine gn_sel ?_); first | (refine selN_p (by wtm_at "pf") ?_) | (refine selN_n (by wtm_at "pf") ?_)) | ((with_reducible refine gd_selT ?_); first | (refine selT_p (by wtm_at "pf") ?_) | (refine selT_n (by wtm_at "pf") ?_)) | ((with_reducible refine gn_selT ?_); first | (refine selTN_p (by wtm_at "pf") ?_) | (refine selTN_n (by wtm_at "pf") ?_)) | ((with_reducible refine gd_selE ?_); first | (refine selE_p (by wtm_at "pf") ?_) | (refine selE_n (by wtm_at "pf") ?_)) | ((with_reducible refine gn_selE ?_); first | (refine selEN_p (by wtm_at "pf") ?_) | (refine selEN_n (by wtm_at "pf") ?_)) | ((with_reducible refine g_xf ?_); refine xf_at rfl (by wtm_at "ho") ?_) | ((with_reducible refine g_atI ?_); refine ex_at (by first | exact rfl | exact atI_int (by omega) (by wtm_at "pf") | exact atI_end (by wtm_at "pf")) ?_) | ((with_reducible refine g_and ?_); refine And.intro (by wtm_at "co") ?_))
local macro_rules | `(tactic| wtm_at "oo") => `(tactic| repeat (first | wtm_at "xo" | wtm_at "so"))
local macro_rules | `(tactic| wtm_at "cR") => `(tactic| (refine' compRi _ (by with_reducible assumption) (by omega) (fun _ _ _ _ _ => ?_) (fun _ _ _ => ?_); rotate_left; focus (wtm_at "oo")))

local macro_rules | `(tactic| wtm_at "lk") => `(tactic| first | (with_reducible exact lk_here) | (simp only [lk_here, lk_skip, lk_nil, nb_0_0, nb_0_1, nb_0_2, nb_0_3, nb_0_4, nb_0_5, nb_0_6, nb_0_7, nb_1_1, nb_1_2, nb_1_3, nb_1_4, nb_1_5, nb_1_6, nb_1_7, nb_2_0, nb_2_2, nb_2_3, nb_2_4, nb_2_5, nb_2_6, nb_2_7, nb_3_0, nb_3_1, nb_3_2, nb_3_3, nb_3_4, nb_3_5, nb_3_6, nb_3_7, nb_4_0, nb_4_1, nb_4_2, nb_4_3, nb_4_4, nb_4_5, nb_4_6, nb_4_7, nb_5_0, nb_5_1, nb_5_3, nb_5_4, nb_5_5, nb_5_6, nb_5_7, nb_6_0, nb_6_1, nb_6_2, nb_6_3, nb_6_4, nb_6_5, nb_6_6, nb_6_7, nb_7_0, nb_7_1, nb_7_2, nb_7_4, nb_7_5, nb_7_6, nb_7_7, nb_8_0, nb_8_1, nb_8_2, nb_8_3, nb_8_4, nb_8_5, nb_8_6, nb_8_7, nb_9_0, nb_9_1, nb_9_2, nb_9_3, nb_9_4, nb_9_5, nb_9_6, nb_9_7, nb_10_0, nb_10_1, nb_10_2, nb_10_3, nb_10_5, nb_10_6, nb_10_7, nb_11_0, nb_11_1, nb_11_2, nb_11_3, nb_11_4, nb_11_6, nb_11_7, nb_12_0, nb_12_1, nb_12_2, nb_12_3, nb_12_4, nb_12_5, nb_12_7, nb_13_0, nb_13_1, nb_13_2, nb_13_3, nb_13_4, nb_13_5, nb_13_6, nb_13_7, nb_14_0, nb_14_1, nb_14_2, nb_14_3, nb_14_4, nb_14_5, nb_14_6, nb_15_0, nb_15_1, nb_15_2, nb_15_3, nb_15_4, nb_15_5, nb_15_6, nb_15_7, nb_16_0, nb_16_1, nb_16_2, nb_16_3, nb_16_4, nb_16_5, nb_16_6, nb_16_7, nb_17_0, nb_17_1, nb_17_2, nb_17_3, nb_17_4, nb_17_5, nb_17_6, nb_17_7, nb_18_0, nb_18_1, nb_18_2, nb_18_3, nb_18_4, nb_18_5, nb_18_6, nb_18_7, nb_19_0, nb_19_1, nb_19_2, nb_19_3, nb_19_4, nb_19_5, nb_19_6, nb_19_7, nb_20_0, nb_20_1, nb_20_2, nb_20_3, nb_20_4, nb_20_5, nb_20_6, nb_20_7, nb_21_0, nb_21_1, nb_21_2, nb_21_3, nb_21_4, nb_21_5, nb_21_6, nb_21_7, nb_22_0, nb_22_1, nb_22_2, nb_22_3, nb_22_4, nb_22_5, nb_22_6, nb_22_7, nb_23_0, nb_23_1, nb_23_2, nb_23_3, nb_23_4, nb_23_5, nb_23_6, nb_23_7, nb_24_0, nb_24_1, nb_24_2, nb_24_3, nb_24_4, nb_24_5, nb_24_6, nb_24_7, nb_25_0, nb_25_1, nb_25_2, nb_25_3, nb_25_4, nb_25_5, nb_25_6, nb_25_7, nb_26_0, nb_26_1, nb_26_2, nb_26_3, nb_26_4, nb_26_5, nb_26_6, nb_26_7]; first | done | exact rfl))
local macro_rules | `(tactic| wtm_at "ln") => `(tactic| first | (with_reducible exact lk_nil) | (simp only [lk_skip, lk_nil, nb_0_0, nb_0_1, nb_0_2, nb_0_3, nb_0_4, nb_0_5, nb_0_6, nb_0_7, nb_1_1, nb_1_2, nb_1_3, nb_1_4, nb_1_5, nb_1_6, nb_1_7, nb_2_0, nb_2_2, nb_2_3, nb_2_4, nb_2_5, nb_2_6, nb_2_7, nb_3_0, nb_3_1, nb_3_2, nb_3_3, nb_3_4, nb_3_5, nb_3_6, nb_3_7, nb_4_0, nb_4_1, nb_4_2, nb_4_3, nb_4_4, nb_4_5, nb_4_6, nb_4_7, nb_5_0, nb_5_1, nb_5_3, nb_5_4, nb_5_5, nb_5_6, nb_5_7, nb_6_0, nb_6_1, nb_6_2, nb_6_3, nb_6_4, nb_6_5, nb_6_6, nb_6_7, nb_7_0, nb_7_1, nb_7_2, nb_7_4, nb_7_5, nb_7_6, nb_7_7, nb_8_0, nb_8_1, nb_8_2, nb_8_3, nb_8_4, nb_8_5, nb_8_6, nb_8_7, nb_9_0, nb_9_1, nb_9_2, nb_9_3, nb_9_4, nb_9_5, nb_9_6, nb_9_7, nb_10_0, nb_10_1, nb_10_2, nb_10_3, nb_10_5, nb_10_6, nb_10_7, nb_11_0, nb_11_1, nb_11_2, nb_11_3, nb_11_4, nb_11_6, nb_11_7, nb_12_0, nb_12_1, nb_12_2, nb_12_3, nb_12_4, nb_12_5, nb_12_7, nb_13_0, nb_13_1, nb_13_2, nb_13_3, nb_13_4, nb_13_5, nb_13_6, nb_13_7, nb_14_0, nb_14_1, nb_14_2, nb_14_3, nb_14_4, nb_14_5, nb_14_6, nb_15_0, nb_15_1, nb_15_2, nb_15_3, nb_15_4, nb_15_5, nb_15_6, nb_15_7, nb_16_0, nb_16_1, nb_16_2, nb_16_3, nb_16_4, nb_16_5, nb_16_6, nb_16_7, nb_17_0, nb_17_1, nb_17_2, nb_17_3, nb_17_4, nb_17_5, nb_17_6, nb_17_7, nb_18_0, nb_18_1, nb_18_2, nb_18_3, nb_18_4, nb_18_5, nb_18_6, nb_18_7, nb_19_0, nb_19_1, nb_19_2, nb_19_3, nb_19_4, nb_19_5, nb_19_6, nb_19_7, nb_20_0, nb_20_1, nb_20_2, nb_20_3, nb_20_4, nb_20_5, nb_20_6, nb_20_7, nb_21_0, nb_21_1, nb_21_2, nb_21_3, nb_21_4, nb_21_5, nb_21_6, nb_21_7, nb_22_0, nb_22_1, nb_22_2, nb_22_3, nb_22_4, nb_22_5, nb_22_6, nb_22_7, nb_23_0, nb_23_1, nb_23_2, nb_23_3, nb_23_4, nb_23_5, nb_23_6, nb_23_7, nb_24_0, nb_24_1, nb_24_2, nb_24_3, nb_24_4, nb_24_5, nb_24_6, nb_24_7, nb_25_0, nb_25_1, nb_25_2, nb_25_3, nb_25_4, nb_25_5, nb_25_6, nb_25_7, nb_26_0, nb_26_1, nb_26_2, nb_26_3, nb_26_4, nb_26_5, nb_26_6, nb_26_7]; done))
local macro_rules | `(tactic| wtm_at "pu") => `(tactic| first | (with_reducible exact pf_nil) | (simp only [pf_nil, pf_here, pf_skip, nb_0_0, nb_0_1, nb_0_2, nb_0_3, nb_0_4, nb_0_5, nb_0_6, nb_0_7, nb_1_1, nb_1_2, nb_1_3, nb_1_4, nb_1_5, nb_1_6, nb_1_7, nb_2_0, nb_2_2, nb_2_3, nb_2_4, nb_2_5, nb_2_6, nb_2_7, nb_3_0, nb_3_1, nb_3_2, nb_3_3, nb_3_4, nb_3_5, nb_3_6, nb_3_7, nb_4_0, nb_4_1, nb_4_2, nb_4_3, nb_4_4, nb_4_5, nb_4_6, nb_4_7, nb_5_0, nb_5_1, nb_5_3, nb_5_4, nb_5_5, nb_5_6, nb_5_7, nb_6_0, nb_6_1, nb_6_2, nb_6_3, nb_6_4, nb_6_5, nb_6_6, nb_6_7, nb_7_0, nb_7_1, nb_7_2, nb_7_4, nb_7_5, nb_7_6, nb_7_7, nb_8_0, nb_8_1, nb_8_2, nb_8_3, nb_8_4, nb_8_5, nb_8_6, nb_8_7, nb_9_0, nb_9_1, nb_9_2, nb_9_3, nb_9_4, nb_9_5, nb_9_6, nb_9_7, nb_10_0, nb_10_1, nb_10_2, nb_10_3, nb_10_5, nb_10_6, nb_10_7, nb_11_0, nb_11_1, nb_11_2, nb_11_3, nb_11_4, nb_11_6, nb_11_7, nb_12_0, nb_12_1, nb_12_2, nb_12_3, nb_12_4, nb_12_5, nb_12_7, nb_13_0, nb_13_1, nb_13_2, nb_13_3, nb_13_4, nb_13_5, nb_13_6, nb_13_7, nb_14_0, nb_14_1, nb_14_2, nb_14_3, nb_14_4, nb_14_5, nb_14_6, nb_15_0, nb_15_1, nb_15_2, nb_15_3, nb_15_4, nb_15_5, nb_15_6, nb_15_7, nb_16_0, nb_16_1, nb_16_2, nb_16_3, nb_16_4, nb_16_5, nb_16_6, nb_16_7, nb_17_0, nb_17_1, nb_17_2, nb_17_3, nb_17_4, nb_17_5, nb_17_6, nb_17_7, nb_18_0, nb_18_1, nb_18_2, nb_18_3, nb_18_4, nb_18_5, nb_18_6, nb_18_7, nb_19_0, nb_19_1, nb_19_2, nb_19_3, nb_19_4, nb_19_5, nb_19_6, nb_19_7, nb_20_0, nb_20_1, nb_20_2, nb_20_3, nb_20_4, nb_20_5, nb_20_6, nb_20_7, nb_21_0, nb_21_1, nb_21_2, nb_21_3, nb_21_4, nb_21_5, nb_21_6, nb_21_7, nb_22_0, nb_22_1, nb_22_2, nb_22_3, nb_22_4, nb_22_5, nb_22_6, nb_22_7, nb_23_0, nb_23_1, nb_23_2, nb_23_3, nb_23_4, nb_23_5, nb_23_6, nb_23_7, nb_24_0, nb_24_1, nb_24_2, nb_24_3, nb_24_4, nb_24_5, nb_24_6, nb_24_7, nb_25_0, nb_25_1, nb_25_2, nb_25_3, nb_25_4, nb_25_5, nb_25_6, nb_25_7, nb_26_0, nb_26_1, nb_26_2, nb_26_3, nb_26_4, nb_26_5, nb_26_6, nb_26_7]; first | done | exact rfl))
local macro_rules | `(tactic| wtm_at "tk") => `(tactic| first | (with_reducible exact Take.here) | (exact Take.here) | ((with_reducible apply Take.there); wtm_at "tk"))
local macro_rules | `(tactic| wtm_at "pk") => `(tactic| first | exact Pick.nil | ((with_reducible refine' Pick.cons ?tk1 ?pk1); (case tk1 => wtm_at "tk"); (case pk1 => wtm_at "pk")) | ((with_reducible refine Pick.im (by wtm_at "mem") ?_); wtm_at "pk") | ((with_reducible refine Pick.ims (by wtm_at "mem") ?_); wtm_at "pk"))
section
variable {P : Program} {w : World} {K : PySem.W.Frag} {mg : Str → Option Value} {base : Heap}
/-! the parser: numbers, one search, one step -/
structure Nm where
  way : Str
  chain : Int
  nice : Int
  pat : Int
  good : Int
def nmV (m : Nm) : List V := [.str m.way, .int m.chain, .int m.nice, .int m.pat, .int m.good]
def nmD (m : Nm) : PyData := .tuple [.str m.way, .int m.chain, .int m.nice, .int m.pat, .int m.good]
theorem nm_sq {K : PySem.W.Frag} {H : Hp} {a : Addr} {m : Nm} (h : Imm K H (.ref a) (nmD m)) : SqT K H a (nmV m) := by
  unfold nmD at h
  cases h with
  | tup h g =>
    cases g with
    | cons g1 g =>
      cases g with
      | cons g2 g =>
        cases g with
        | cons g3 g =>
          cases g with
          | cons g4 g =>
            cases g with
            | cons g5 g =>
              cases g
              cases g1; cases g2; cases g3; cases g4; cases g5
              exact h
theorem nm_imm {K : PySem.W.Frag} {H : Hp} {a : Addr} {m : Nm} (h : SqT K H a (nmV m)) : Imm K H (.ref a) (nmD m) := .tup h (.cons (.str _) (.cons (.int _) (.cons (.int _) (.cons (.int _) (.cons (.int _) .nil)))))
/-- the copy that is found -/
def fnd (hs : List Int) (at_ f w : Int) (chain nice longer s : Int) : List Int :=
  let r := found (sr hs at_ (min 258 ((hs.length : Int) - at_).toNat) nice ((cand hs at_ f w).take chain.toNat)) longer
  useC (r.getD 0 0) (r.getD 1 0) s
theorem found_two (x : Nat × Int × Bool) (l : Int) : found x l = [(found x l).getD 0 0, (found x l).getD 1 0] := by
  unfold found
  split <;> rfl
theorem useC_is (x y s : Int) : useC x y s = [(useC x y s).getD 0 0, (useC x y s).getD 1 0] := by
  unfold useC
  split <;> rfl
theorem runC_is (hs : List Int) (i e f : Int) : runC hs i e f = [(runC hs i e f).getD 0 0, (runC hs i e f).getD 1 0] := by
  unfold runC
  split <;> rfl
abbrev pF (h : Addr) (at_ : Int) (hh c : Addr) : List (Str × V) := [("_history", .ref h), ("_at", .int at_), ("_held", .ref hh), ("_chains", .ref c)]
abbrev pC (K : PySem.W.Frag) (dxp h : Addr) (at_ : Int) (hh c : Addr) : HO := .ins (He.ga K "Parser") dxp (pF h at_ hh c)
/-- all that a parser owns -/
abbrev prL (K : PySem.W.Frag) (p dxp h c dx d bb : Addr) (w f : Int) (hs : List Int) (at_ : Int) (hh : Addr) (x y : Int) (kvs : List (Key × V)) (e : Nat) : List As :=
  [.pt p (pC K dxp h at_ hh c), pI h hs, .pt c (cC K dx w f d bb), .pt d (.dK kvs), pI bb (befL hs e), .im (.ref hh) (tI [x, y])]
abbrev prA (p h c d bb : Addr) : List Addr := [p, h, c, d, bb]
def sp_Parser_at (K : PySem.W.Frag) : Sp := fun vs H Q _ => ∃ (p dxp h hh c : Addr) (at_ : Int), vs = [.ref p] ∧ H p = some (pC K dxp h at_ hh c) ∧ Q (.int at_) H
theorem ok_Parser_at (T : Tx K mg) : Mth P w K base mg 1 "Parser" "at" ["self"] (sp_Parser_at K) [] := by
  obtain ⟨fd, F⟩ := T.d_Parser_at
  refine ⟨fd, [], F.ok sc_Parser_at (fun vs H Q E h => ?_) (fun cdv A outer s H vs Q E hr h => ⟨_, (PSs.nox (pss_one (ps_ret (by exact (pe_fld (pv 0) rfl))))), ?_⟩), T.m_Parser_at, T.c_Parser.cl, F.bindsN (fun _ _ _ _ _ _ us hl => match us, hl with | [_], _ => rfl), .nil⟩
  · first | (obtain ⟨rfl, _⟩ := h; rfl) | (obtain ⟨_, rfl, _⟩ := h; rfl) | (obtain ⟨_, _, rfl, _⟩ := h; rfl) | (obtain ⟨_, _, _, rfl, _⟩ := h; rfl) | (obtain ⟨_, _, _, _, rfl, _⟩ := h; rfl) | (obtain ⟨_, _, _, _, _, rfl, _⟩ := h; rfl) | (obtain ⟨_, _, _, _, _, _, rfl, _⟩ := h; rfl) | (obtain ⟨_, _, _, _, _, _, _, rfl, _⟩ := h; rfl) | (obtain ⟨_, _, _, _, _, _, _, _, rfl, _⟩ := h; rfl) | (obtain ⟨_, _, _, _, _, _, _, _, _, rfl, _⟩ := h; rfl) | (obtain ⟨_, _, _, _, _, _, _, _, _, _, rfl, _⟩ := h; rfl) | (obtain ⟨_, _, _, _, _, _, _, _, _, _, _, rfl, _⟩ := h; rfl) | (obtain ⟨_, _, _, _, _, _, _, _, _, _, _, _, rfl, _⟩ := h; rfl) | (obtain ⟨_, _, _, _, _, _, _, _, _, _, _, _, _, rfl, _⟩ := h; rfl) | (obtain ⟨_, _, _, _, _, _, _, _, _, _, _, _, _, _, rfl, _⟩ := h; rfl) | (obtain ⟨_, _, _, _, _, _, _, _, _, _, _, _, _, _, _, rfl, _⟩ := h; rfl) | (obtain ⟨_, _, _, _, _, _, _, _, _, _, _, _, _, _, _, _, rfl, _⟩ := h; rfl) | (obtain ⟨_, _, _, _, _, _, _, _, _, _, _, _, _, _, _, _, _, rfl, _⟩ := h; rfl) | (obtain ⟨_, _, _, _, _, _, _, _, _, _, _, _, _, _, _, _, _, _, rfl, _⟩ := h; rfl) | (obtain ⟨_, _, _, _, _, _, _, _, _, _, _, _, _, _, _, _, _, _, _, rfl, _⟩ := h; rfl) | (obtain ⟨_, _, _, _, _, _, _, _, _, _, _, _, _, _, _, _, _, _, _, _, rfl, _⟩ := h; rfl) | (obtain ⟨_, _, _, _, _, _, _, _, _, _, _, _, _, _, _, _, _, _, _, _, _, rfl, _⟩ := h; rfl)
  · obtain ⟨p, dxp, h, hh, c, at_, rfl, hp, q⟩ := h
    have cP := T.c_Parser
    k_call_by "xo" st_Parser_at
    wtm_at "oo"
    exact q
def sp_Parser_front (K : PySem.W.Frag) : Sp := fun vs H Q _ => ∃ (p dxp h hh c : Addr) (at_ x y : Int), vs = [.ref p] ∧ H p = some (pC K dxp h at_ hh c) ∧ SqT K H hh ([x, y].map V.int) ∧ Q (.int (if (x = 0 ∧ y = 0) then at_ else at_ - 1)) H
theorem ok_Parser_front (T : Tx K mg) : Mth P w K base mg 1 "Parser" "front" ["self"] (sp_Parser_front K) [] := by
  obtain ⟨fd, F⟩ := T.d_Parser_front
  refine ⟨fd, [], F.ok sc_Parser_front (fun vs H Q E h => ?_) (fun cdv A outer s H vs Q E hr h => ⟨_, (PSs.nox (pss_cons (ps_if (pt_cmpR (eqK K hr.units) (pe_fld (pv 0) rfl) (pe_gc rfl T.c_NO_COPY_levels) (nomark _))
 (pss_one (ps_ret (by exact (pe_fld (pv 0) rfl))))
 pss_nil)
 (pss_one (ps_ret (by exact (pe_op op_sub (pe_fld (pv 0) rfl) pe_int)))))), ?_⟩), T.m_Parser_front, T.c_Parser.cl, F.bindsN (fun _ _ _ _ _ _ us hl => match us, hl with | [_], _ => rfl), .nil⟩
  · first | (obtain ⟨rfl, _⟩ := h; rfl) | (obtain ⟨_, rfl, _⟩ := h; rfl) | (obtain ⟨_, _, rfl, _⟩ := h; rfl) | (obtain ⟨_, _, _, rfl, _⟩ := h; rfl) | (obtain ⟨_, _, _, _, rfl, _⟩ := h; rfl) | (obtain ⟨_, _, _, _, _, rfl, _⟩ := h; rfl) | (obtain ⟨_, _, _, _, _, _, rfl, _⟩ := h; rfl) | (obtain ⟨_, _, _, _, _, _, _, rfl, _⟩ := h; rfl) | (obtain ⟨_, _, _, _, _, _, _, _, rfl, _⟩ := h; rfl) | (obtain ⟨_, _, _, _, _, _, _, _, _, rfl, _⟩ := h; rfl) | (obtain ⟨_, _, _, _, _, _, _, _, _, _, rfl, _⟩ := h; rfl) | (obtain ⟨_, _, _, _, _, _, _, _, _, _, _, rfl, _⟩ := h; rfl) | (obtain ⟨_, _, _, _, _, _, _, _, _, _, _, _, rfl, _⟩ := h; rfl) | (obtain ⟨_, _, _, _, _, _, _, _, _, _, _, _, _, rfl, _⟩ := h; rfl) | (obtain ⟨_, _, _, _, _, _, _, _, _, _, _, _, _, _, rfl, _⟩ := h; rfl) | (obtain ⟨_, _, _, _, _, _, _, _, _, _, _, _, _, _, _, rfl, _⟩ := h; rfl) | (obtain ⟨_, _, _, _, _, _, _, _, _, _, _, _, _, _, _, _, rfl, _⟩ := h; rfl) | (obtain ⟨_, _, _, _, _, _, _, _, _, _, _, _, _, _, _, _, _, rfl, _⟩ := h; rfl) | (obtain ⟨_, _, _, _, _, _, _, _, _, _, _, _, _, _, _, _, _, _, rfl, _⟩ := h; rfl) | (obtain ⟨_, _, _, _, _, _, _, _, _, _, _, _, _, _, _, _, _, _, _, rfl, _⟩ := h; rfl) | (obtain ⟨_, _, _, _, _, _, _, _, _, _, _, _, _, _, _, _, _, _, _, _, rfl, _⟩ := h; rfl) | (obtain ⟨_, _, _, _, _, _, _, _, _, _, _, _, _, _, _, _, _, _, _, _, _, rfl, _⟩ := h; rfl)
  · obtain ⟨p, dxp, h, hh, c, at_, x, y, rfl, hp, hx, q⟩ := h
    have cP := T.c_Parser
    have hn : SqT K H (He.ga K "NO_COPY_levels") (([0, 0] : List Int).map V.int) := T.q_NO_COPY_levels H
    k_call_by "xo" st_Parser_front
    wtm_at "oo"
    refine sel_d (fun c0 => ?_) (fun c0 => ?_)
    · rw [if_pos c0] at q
      wtm_at "oo"
      exact q
    · rw [if_neg c0] at q
      wtm_at "oo"
      exact q
def sp_Parser_end (K : PySem.W.Frag) : Sp := fun vs H Q _ => ∃ (p dxp h hh c : Addr) (at_ : Int) (hs : List Int), vs = [.ref p] ∧ H p = some (pC K dxp h at_ hh c) ∧ SqL K H h (hs.map V.int) ∧ Q (.int (hs.length : Int)) H
theorem ok_Parser_end (T : Tx K mg) : Mth P w K base mg 1 "Parser" "end" ["self"] (sp_Parser_end K) [] := by
  obtain ⟨fd, F⟩ := T.d_Parser_end
  refine ⟨fd, [], F.ok sc_Parser_end (fun vs H Q E h => ?_) (fun cdv A outer s H vs Q E hr h => ⟨_, (PSs.nox (pss_one (ps_ret (by exact (pe_callB (lenK K) rfl T.b_len (by decide +kernel) (pa_cons (pe_fld (pv 0) rfl) pa_nil)))))), ?_⟩), T.m_Parser_end, T.c_Parser.cl, F.bindsN (fun _ _ _ _ _ _ us hl => match us, hl with | [_], _ => rfl), .nil⟩
  · first | (obtain ⟨rfl, _⟩ := h; rfl) | (obtain ⟨_, rfl, _⟩ := h; rfl) | (obtain ⟨_, _, rfl, _⟩ := h; rfl) | (obtain ⟨_, _, _, rfl, _⟩ := h; rfl) | (obtain ⟨_, _, _, _, rfl, _⟩ := h; rfl) | (obtain ⟨_, _, _, _, _, rfl, _⟩ := h; rfl) | (obtain ⟨_, _, _, _, _, _, rfl, _⟩ := h; rfl) | (obtain ⟨_, _, _, _, _, _, _, rfl, _⟩ := h; rfl) | (obtain ⟨_, _, _, _, _, _, _, _, rfl, _⟩ := h; rfl) | (obtain ⟨_, _, _, _, _, _, _, _, _, rfl, _⟩ := h; rfl) | (obtain ⟨_, _, _, _, _, _, _, _, _, _, rfl, _⟩ := h; rfl) | (obtain ⟨_, _, _, _, _, _, _, _, _, _, _, rfl, _⟩ := h; rfl) | (obtain ⟨_, _, _, _, _, _, _, _, _, _, _, _, rfl, _⟩ := h; rfl) | (obtain ⟨_, _, _, _, _, _, _, _, _, _, _, _, _, rfl, _⟩ := h; rfl) | (obtain ⟨_, _, _, _, _, _, _, _, _, _, _, _, _, _, rfl, _⟩ := h; rfl) | (obtain ⟨_, _, _, _, _, _, _, _, _, _, _, _, _, _, _, rfl, _⟩ := h; rfl) | (obtain ⟨_, _, _, _, _, _, _, _, _, _, _, _, _, _, _, _, rfl, _⟩ := h; rfl) | (obtain ⟨_, _, _, _, _, _, _, _, _, _, _, _, _, _, _, _, _, rfl, _⟩ := h; rfl) | (obtain ⟨_, _, _, _, _, _, _, _, _, _, _, _, _, _, _, _, _, _, rfl, _⟩ := h; rfl) | (obtain ⟨_, _, _, _, _, _, _, _, _, _, _, _, _, _, _, _, _, _, _, rfl, _⟩ := h; rfl) | (obtain ⟨_, _, _, _, _, _, _, _, _, _, _, _, _, _, _, _, _, _, _, _, rfl, _⟩ := h; rfl) | (obtain ⟨_, _, _, _, _, _, _, _, _, _, _, _, _, _, _, _, _, _, _, _, _, rfl, _⟩ := h; rfl)
  · obtain ⟨p, dxp, h, hh, c, at_, hs, rfl, hp, hS, q⟩ := h
    have cP := T.c_Parser
    k_call_by "xo" st_Parser_end
    wtm_at "oo"
    exact q
def sp_Parser_floor (K : PySem.W.Frag) : Sp := fun vs H Q _ => ∃ (p dxp h hh c dx d bb : Addr) (at_ w f : Int), vs = [.ref p] ∧ H p = some (pC K dxp h at_ hh c) ∧ H c = some (cC K dx w f d bb) ∧ Q (.int f) H
theorem ok_Parser_floor (T : Tx K mg) : Mth P w K base mg 2 "Parser" "floor" ["self"] (sp_Parser_floor K) [] := by
  obtain ⟨fd, F⟩ := T.d_Parser_floor
  refine ⟨fd, [], F.ok sc_Parser_floor (fun vs H Q E h => ?_) (fun cdv A outer s H vs Q E hr h => ⟨_, (PSs.nox (pss_one (ps_ret (by exact (pe_mt0 (ok_Chains_floor T) (hr.mono (by decide)) (pe_fld (pv 0) rfl)))))), ?_⟩), T.m_Parser_floor, T.c_Parser.cl, F.bindsN (fun _ _ _ _ _ _ us hl => match us, hl with | [_], _ => rfl), .nil⟩
  · first | (obtain ⟨rfl, _⟩ := h; rfl) | (obtain ⟨_, rfl, _⟩ := h; rfl) | (obtain ⟨_, _, rfl, _⟩ := h; rfl) | (obtain ⟨_, _, _, rfl, _⟩ := h; rfl) | (obtain ⟨_, _, _, _, rfl, _⟩ := h; rfl) | (obtain ⟨_, _, _, _, _, rfl, _⟩ := h; rfl) | (obtain ⟨_, _, _, _, _, _, rfl, _⟩ := h; rfl) | (obtain ⟨_, _, _, _, _, _, _, rfl, _⟩ := h; rfl) | (obtain ⟨_, _, _, _, _, _, _, _, rfl, _⟩ := h; rfl) | (obtain ⟨_, _, _, _, _, _, _, _, _, rfl, _⟩ := h; rfl) | (obtain ⟨_, _, _, _, _, _, _, _, _, _, rfl, _⟩ := h; rfl) | (obtain ⟨_, _, _, _, _, _, _, _, _, _, _, rfl, _⟩ := h; rfl) | (obtain ⟨_, _, _, _, _, _, _, _, _, _, _, _, rfl, _⟩ := h; rfl) | (obtain ⟨_, _, _, _, _, _, _, _, _, _, _, _, _, rfl, _⟩ := h; rfl) | (obtain ⟨_, _, _, _, _, _, _, _, _, _, _, _, _, _, rfl, _⟩ := h; rfl) | (obtain ⟨_, _, _, _, _, _, _, _, _, _, _, _, _, _, _, rfl, _⟩ := h; rfl) | (obtain ⟨_, _, _, _, _, _, _, _, _, _, _, _, _, _, _, _, rfl, _⟩ := h; rfl) | (obtain ⟨_, _, _, _, _, _, _, _, _, _, _, _, _, _, _, _, _, rfl, _⟩ := h; rfl) | (obtain ⟨_, _, _, _, _, _, _, _, _, _, _, _, _, _, _, _, _, _, rfl, _⟩ := h; rfl) | (obtain ⟨_, _, _, _, _, _, _, _, _, _, _, _, _, _, _, _, _, _, _, rfl, _⟩ := h; rfl) | (obtain ⟨_, _, _, _, _, _, _, _, _, _, _, _, _, _, _, _, _, _, _, _, rfl, _⟩ := h; rfl) | (obtain ⟨_, _, _, _, _, _, _, _, _, _, _, _, _, _, _, _, _, _, _, _, _, rfl, _⟩ := h; rfl)
  · obtain ⟨p, dxp, h, hh, c, dx, d, bb, at_, w, f, rfl, hp, hc, q⟩ := h
    have cP := T.c_Parser
    k_call_by "xo" st_Parser_floor
    wtm_at "oo"
    refine ⟨c, dx, d, bb, w, f, rfl, hc, ?_⟩
    wtm_at "oo"
    exact q
/-- tokens for a copy, or for a byte -/
def tokE (hs : List Int) (at_ x y : Int) : List Int := if (x = 0 ∧ y = 0) then [hs.getD at_.toNat 0] else [x, y]
def atE (at_ x y : Int) : Int := if (x = 0 ∧ y = 0) then at_ + 1 else at_ + x
def sp_Parser__emit (K : PySem.W.Frag) : Sp := fun vs H Q _ => ∃ (p dxp h hh c cp : Addr) (at_ x y : Int) (hs : List Int), vs = [.ref p, .ref cp] ∧ H p = some (pC K dxp h at_ hh c) ∧ H h = some (.lst (hs.map V.int)) ∧ SqT K H cp ([x, y].map V.int) ∧
  ((x = 0 ∧ y = 0) → 0 ≤ at_ ∧ at_ < hs.length) ∧ ∀ t tk H', Own K (delL H [p]) H' [.pt t (.lst [tk]), .im tk (tI (tokE hs at_ x y)), .pt p (pC K dxp h (atE at_ x y) hh c)] → Q (.ref t) H'
theorem ok_Parser__emit (T : Tx K mg) : Mth P w K base mg 1 "Parser" "_emit" ["self", "copy"] (sp_Parser__emit K) [] := by
  obtain ⟨fd, F⟩ := T.d_Parser__emit
  refine ⟨fd, [], F.ok sc_Parser__emit (fun vs H Q E h => ?_) (fun cdv A outer s H vs Q E hr h => ⟨_, (PSs.nox (pss_cons (ps_if (pt_cmpR (eqK K hr.units) (pv 1) (pe_gc rfl T.c_NO_COPY_levels) (nomark _))
 (pss_cons (ps_set (i := 2) sc_Parser__emit.nd rfl (Or.inl rfl) (by exact (pe_tup (pa_cons (pe_ix (ixl K) (pe_fld (pv 0) rfl) (pe_fld (pv 0) rfl) (fun _ _ => rfl)) pa_nil))))
 (pss_one (ps_fldaug (pv 0) (by exact pe_int) (in_of ip_add))))
 (pss_cons (ps_set (i := 2) sc_Parser__emit.nd rfl (Or.inl rfl) (by exact (pv 1)))
 (pss_one (ps_fldaug (pv 0) (by exact (pe_ix (ixt K) (pv 1) pe_int (fun _ _ => rfl))) (in_of ip_add)))))
 (pss_one (ps_ret (by exact (pe_lst (pa_cons (pv 2) pa_nil))))))), ?_⟩), T.m_Parser__emit, T.c_Parser.cl, F.bindsN (fun _ _ _ _ _ _ us hl => match us, hl with | [_, _], _ => rfl), .nil⟩
  · first | (obtain ⟨rfl, _⟩ := h; rfl) | (obtain ⟨_, rfl, _⟩ := h; rfl) | (obtain ⟨_, _, rfl, _⟩ := h; rfl) | (obtain ⟨_, _, _, rfl, _⟩ := h; rfl) | (obtain ⟨_, _, _, _, rfl, _⟩ := h; rfl) | (obtain ⟨_, _, _, _, _, rfl, _⟩ := h; rfl) | (obtain ⟨_, _, _, _, _, _, rfl, _⟩ := h; rfl) | (obtain ⟨_, _, _, _, _, _, _, rfl, _⟩ := h; rfl) | (obtain ⟨_, _, _, _, _, _, _, _, rfl, _⟩ := h; rfl) | (obtain ⟨_, _, _, _, _, _, _, _, _, rfl, _⟩ := h; rfl) | (obtain ⟨_, _, _, _, _, _, _, _, _, _, rfl, _⟩ := h; rfl) | (obtain ⟨_, _, _, _, _, _, _, _, _, _, _, rfl, _⟩ := h; rfl) | (obtain ⟨_, _, _, _, _, _, _, _, _, _, _, _, rfl, _⟩ := h; rfl) | (obtain ⟨_, _, _, _, _, _, _, _, _, _, _, _, _, rfl, _⟩ := h; rfl) | (obtain ⟨_, _, _, _, _, _, _, _, _, _, _, _, _, _, rfl, _⟩ := h; rfl) | (obtain ⟨_, _, _, _, _, _, _, _, _, _, _, _, _, _, _, rfl, _⟩ := h; rfl) | (obtain ⟨_, _, _, _, _, _, _, _, _, _, _, _, _, _, _, _, rfl, _⟩ := h; rfl) | (obtain ⟨_, _, _, _, _, _, _, _, _, _, _, _, _, _, _, _, _, rfl, _⟩ := h; rfl) | (obtain ⟨_, _, _, _, _, _, _, _, _, _, _, _, _, _, _, _, _, _, rfl, _⟩ := h; rfl) | (obtain ⟨_, _, _, _, _, _, _, _, _, _, _, _, _, _, _, _, _, _, _, rfl, _⟩ := h; rfl) | (obtain ⟨_, _, _, _, _, _, _, _, _, _, _, _, _, _, _, _, _, _, _, _, rfl, _⟩ := h; rfl) | (obtain ⟨_, _, _, _, _, _, _, _, _, _, _, _, _, _, _, _, _, _, _, _, _, rfl, _⟩ := h; rfl)
  · obtain ⟨p, dxp, h, hh, c, cp, at_, x, y, hs, rfl, hp, hh0, hc, hb, q⟩ := h
    have cP := T.c_Parser
    k_call_by "xo" st_Parser__emit
    have L := Own.in1 (K := K) hp
    have L := L.addIm (Imm.of_is hc)
    have hph : h ≠ p := ne_of hh0 hp (by intro z; cases z)
    have hS : SqL K (delL H [p]) h (hs.map V.int) := SqL.of (by rw [delL_out (fun z => hph (List.mem_singleton.mp z))]; exact hh0)
    have hn : ∀ H, SqT K H (He.ga K "NO_COPY_levels") (([0, 0] : List Int).map V.int) := fun H => T.q_NO_COPY_levels H
    have hn0 := hn H
    unfold tokE atE at q
    wtm_at "oo"
    refine sel_d (fun c0 => ?_) (fun c0 => ?_)
    · rw [if_pos c0, if_pos c0] at q
      have hb := hb c0
      wtm_at "oo"
      rename_i tk G1 L1 G2 L2 t G3 L3
      have L3 := L3.addIm (L3.imI (p := tk) (ns := [hs.getD at_.toNat 0]) (by wtm_at "mem"))
      exact q t _ G3 (L3.pick (by wtm_at "pk"))
    · rw [if_neg c0, if_neg c0] at q
      wtm_at "oo"
      rename_i G1 L1 t G2 L2
      exact q t _ G2 L2
theorem sq_out2 {K : PySem.W.Frag} {B H : Hp} {c d b : Addr} {xs ys : List Int} {kvs : List (Key × V)} (L : Own K B H [pI c xs, .pt d (.dK kvs), pI b ys]) : SqL K (delL H [d, b]) c (xs.map V.int) := by
  refine SqL.of ?_
  rw [delL_out]
  · exact L.get mem_here
  · intro z
    have := L.nd
    exact (List.nodup_cons.mp this).1 z
/-- what stands between a parser and its history -/
structure PrB (hs : List Int) (at_ w f : Int) (e : Nat) (kvs : List (Key × V)) : Prop where
  st : ChSt hs e kvs
  len : hs.length ≤ 5000
  a0 : 0 ≤ at_
  a1 : at_ ≤ hs.length
  f0 : 0 ≤ f
  w0 : 1 ≤ w
  w1 : w ≤ 100000
def sp_Parser__found (K : PySem.W.Frag) : Sp := fun vs H Q _ => ∃ (p dxp h c dx d bb hh nm : Addr) (w f at_ x y chain longer s : Int) (hs : List Int) (kvs : List (Key × V)) (e : Nat) (m : Nm), vs = [.ref p, .ref nm, .int chain, .int longer, .int s] ∧
  Own K (delL H (prA p h c d bb)) H (.im (.ref nm) (nmD m) :: prL K p dxp h c dx d bb w f hs at_ hh x y kvs e) ∧ PrB hs at_ w f e kvs ∧ 0 ≤ chain ∧
  ∀ cp kvs' e' H', PrB hs at_ w f e' kvs' → Own K (delL H (prA p h c d bb)) H' (.im (.ref cp) (tI (fnd hs at_ f w chain m.nice longer s)) :: prL K p dxp h c dx d bb w f hs at_ hh x y kvs' e') → Q (.ref cp) H'
theorem ok_Parser__found (T : Tx K mg) : Mth P w K base mg 4 "Parser" "_found" ["self", "numbers", "chain", "longer_than", "strategy"] (sp_Parser__found K) [] := by
  obtain ⟨fd, F⟩ := T.d_Parser__found
  refine ⟨fd, [], F.ok sc_Parser__found (fun vs H Q E h => ?_) (fun cdv A outer s H vs Q E hr h => ⟨_, (PSs.nox (pss_cons (ps_expr (pe_mt (ok_Chains_enter T) (hr.mono (by decide)) (pe_fld (pv 0) rfl) (pa_cons (pe_fld (pv 0) rfl) (pa_cons (pe_fld (pv 0) rfl) pa_nil))))
 (pss_cons (ps_set (i := 5) sc_Parser__found.nd rfl (Or.inl rfl) (by exact (pe_mt (ok_Chains_nearest T) (hr.mono (by decide)) (pe_fld (pv 0) rfl) (pa_cons (pe_fld (pv 0) rfl) (pa_cons (pe_fld (pv 0) rfl) (pa_cons (pv 2) pa_nil))))))
 (pss_cons (ps_set (i := 6) sc_Parser__found.nd rfl (Or.inl rfl) (by exact (pe_cl (ok_search T) (hr.mono (by decide)) rfl (pa_cons (pe_fld (pv 0) rfl) (pa_cons (pe_fld (pv 0) rfl) (pa_cons (pe_mt0 (ok_Parser_end T) (hr.mono (by decide)) (pv 0)) (pa_cons (pv 5) (pa_cons (pe_ix (ixt K) (pv 1) pe_int (fun _ _ => rfl)) (pa_cons (pv 3) pa_nil)))))))))
 (pss_one (ps_ret (by exact (pe_cl (ok_usable T) (hr.mono (by decide)) rfl (pa_cons (pv 6) (pa_cons (pv 4) pa_nil)))))))))), ?_⟩), T.m_Parser__found, T.c_Parser.cl, F.bindsN (fun _ _ _ _ _ _ us hl => match us, hl with | [_, _, _, _, _], _ => rfl), .nil⟩
  · first | (obtain ⟨rfl, _⟩ := h; rfl) | (obtain ⟨_, rfl, _⟩ := h; rfl) | (obtain ⟨_, _, rfl, _⟩ := h; rfl) | (obtain ⟨_, _, _, rfl, _⟩ := h; rfl) | (obtain ⟨_, _, _, _, rfl, _⟩ := h; rfl) | (obtain ⟨_, _, _, _, _, rfl, _⟩ := h; rfl) | (obtain ⟨_, _, _, _, _, _, rfl, _⟩ := h; rfl) | (obtain ⟨_, _, _, _, _, _, _, rfl, _⟩ := h; rfl) | (obtain ⟨_, _, _, _, _, _, _, _, rfl, _⟩ := h; rfl) | (obtain ⟨_, _, _, _, _, _, _, _, _, rfl, _⟩ := h; rfl) | (obtain ⟨_, _, _, _, _, _, _, _, _, _, rfl, _⟩ := h; rfl) | (obtain ⟨_, _, _, _, _, _, _, _, _, _, _, rfl, _⟩ := h; rfl) | (obtain ⟨_, _, _, _, _, _, _, _, _, _, _, _, rfl, _⟩ := h; rfl) | (obtain ⟨_, _, _, _, _, _, _, _, _, _, _, _, _, rfl, _⟩ := h; rfl) | (obtain ⟨_, _, _, _, _, _, _, _, _, _, _, _, _, _, rfl, _⟩ := h; rfl) | (obtain ⟨_, _, _, _, _, _, _, _, _, _, _, _, _, _, _, rfl, _⟩ := h; rfl) | (obtain ⟨_, _, _, _, _, _, _, _, _, _, _, _, _, _, _, _, rfl, _⟩ := h; rfl) | (obtain ⟨_, _, _, _, _, _, _, _, _, _, _, _, _, _, _, _, _, rfl, _⟩ := h; rfl) | (obtain ⟨_, _, _, _, _, _, _, _, _, _, _, _, _, _, _, _, _, _, rfl, _⟩ := h; rfl) | (obtain ⟨_, _, _, _, _, _, _, _, _, _, _, _, _, _, _, _, _, _, _, rfl, _⟩ := h; rfl) | (obtain ⟨_, _, _, _, _, _, _, _, _, _, _, _, _, _, _, _, _, _, _, _, rfl, _⟩ := h; rfl) | (obtain ⟨_, _, _, _, _, _, _, _, _, _, _, _, _, _, _, _, _, _, _, _, _, rfl, _⟩ := h; rfl)
  · obtain ⟨p, dxp, h, c, dx, d, bb, hh, nm, w, f, at_, x, y, chain, longer, s, hs, kvs, e, m, rfl, L, pb, ch0, q⟩ := h
    have cP := T.c_Parser
    have cC' := T.c_Chains
    k_call_by "xo" st_Parser__found
    have pl := pb.len
    have a0 := pb.a0
    have a1 := pb.a1
    wtm_at "oo"
    refine ⟨c, dx, d, bb, h, w, f, at_, hs, e, kvs, rfl, sq_out2 (L.pick (by wtm_at "pk")), pl, by wtm_at "ho", by wtm_at "ho", by wtm_at "ho", pb.st, a0, by omega, fun e' kvs' H2 he st' M => ?_⟩
    have L := L.mut2 (by wtm_at "tk") (by wtm_at "tk") M
    simp only [List.cons_append, List.nil_append] at L
    have L := L.pick (l' := .im (.ref nm) (nmD m) :: prL K p dxp h c dx d bb w f hs at_ hh x y kvs' e') (by wtm_at "pk")
    clear M
    wtm_at "oo"
    refine ⟨c, dx, d, bb, h, w, f, at_, chain, hs, e', kvs', rfl, by wtm_at "qo", pl, by wtm_at "ho", by wtm_at "ho", by wtm_at "ho", st', a0, a1, pb.f0, pb.w0, pb.w1, ch0, fun _ r H3 M => ?_, fun z1 z2 => absurd z2 (by omega)⟩
    have L3 := L.c1 M
    clear M
    wtm_at "oo"
    refine ⟨p, dxp, h, hh, c, at_, hs, rfl, by wtm_at "ho", by wtm_at "qo", ?_⟩
    wtm_at "oo"
    refine ⟨_, nm_sq (m := m) (L3.imm (by wtm_at "mem")), _, rfl, ?_⟩
    wtm_at "oo"
    refine ⟨h, r, hs, _, at_, _, m.nice, longer, rfl, by wtm_at "qo", by wtm_at "qo", pl, a0, a1, Int.le_refl _, fun z mz => ?_, fun cp H4 M => ?_⟩
    · have := cand_mem (List.mem_of_mem_take mz)
      exact ⟨this.2.2.1, this.2.1⟩
    · have L4 := L3.c1 M
      clear M
      rw [found_two] at L4
      wtm_at "oo"
      refine ⟨cp, _, _, s, rfl, L4.imT mem_here, fun cp2 H5 M => ?_⟩
      have M : Own K H4 H5 [.im (.ref cp2) (tI (fnd hs at_ f w chain m.nice longer s))] := M
      have L5 := L4.c1 M
      have L5 := L5.sub (l' := .im (.ref cp2) (tI (fnd hs at_ f w chain m.nice longer s)) :: prL K p dxp h c dx d bb w f hs at_ hh x y kvs' e') (List.Sublist.cons_cons _ (List.Sublist.cons _ (List.Sublist.cons _ (List.Sublist.cons _ (List.Sublist.refl _)))))
      exact q cp2 kvs' e' H5 ⟨st', pl, a0, a1, pb.f0, pb.w0, pb.w1⟩ L5
def sp_Parser__reaches_end (K : PySem.W.Frag) : Sp := fun vs H Q _ => ∃ (p dxp h hh c cp : Addr) (at_ x y : Int) (b : Bool) (hs : List Int), vs = [.ref p, .ref cp, .bl b] ∧ H p = some (pC K dxp h at_ hh c) ∧ SqL K H h (hs.map V.int) ∧ SqT K H cp ([x, y].map V.int) ∧
  Q (.bl (b && decide (at_ + x = hs.length))) H
theorem ok_Parser__reaches_end (T : Tx K mg) : Mth P w K base mg 2 "Parser" "_reaches_end" ["self", "copy", "bounded"] (sp_Parser__reaches_end K) [] := by
  obtain ⟨fd, F⟩ := T.d_Parser__reaches_end
  refine ⟨fd, [], F.ok sc_Parser__reaches_end (fun vs H Q E h => ?_) (fun cdv A outer s H vs Q E hr h => ⟨_, (PSs.nox (pss_one (ps_ret (by exact (pe_and (pv 2) (pe_one (pe_cmpR op_eq (pe_op op_add (pe_fld (pv 0) rfl) (pe_ix (ixt K) (pv 1) pe_int (fun _ _ => rfl))) (pe_mt0 (ok_Parser_end T) (hr.mono (by decide)) (pv 0)) (nomark _)))))))), ?_⟩), T.m_Parser__reaches_end, T.c_Parser.cl, F.bindsN (fun _ _ _ _ _ _ us hl => match us, hl with | [_, _, _], _ => rfl), .nil⟩
  · first | (obtain ⟨rfl, _⟩ := h; rfl) | (obtain ⟨_, rfl, _⟩ := h; rfl) | (obtain ⟨_, _, rfl, _⟩ := h; rfl) | (obtain ⟨_, _, _, rfl, _⟩ := h; rfl) | (obtain ⟨_, _, _, _, rfl, _⟩ := h; rfl) | (obtain ⟨_, _, _, _, _, rfl, _⟩ := h; rfl) | (obtain ⟨_, _, _, _, _, _, rfl, _⟩ := h; rfl) | (obtain ⟨_, _, _, _, _, _, _, rfl, _⟩ := h; rfl) | (obtain ⟨_, _, _, _, _, _, _, _, rfl, _⟩ := h; rfl) | (obtain ⟨_, _, _, _, _, _, _, _, _, rfl, _⟩ := h; rfl) | (obtain ⟨_, _, _, _, _, _, _, _, _, _, rfl, _⟩ := h; rfl) | (obtain ⟨_, _, _, _, _, _, _, _, _, _, _, rfl, _⟩ := h; rfl) | (obtain ⟨_, _, _, _, _, _, _, _, _, _, _, _, rfl, _⟩ := h; rfl) | (obtain ⟨_, _, _, _, _, _, _, _, _, _, _, _, _, rfl, _⟩ := h; rfl) | (obtain ⟨_, _, _, _, _, _, _, _, _, _, _, _, _, _, rfl, _⟩ := h; rfl) | (obtain ⟨_, _, _, _, _, _, _, _, _, _, _, _, _, _, _, rfl, _⟩ := h; rfl) | (obtain ⟨_, _, _, _, _, _, _, _, _, _, _, _, _, _, _, _, rfl, _⟩ := h; rfl) | (obtain ⟨_, _, _, _, _, _, _, _, _, _, _, _, _, _, _, _, _, rfl, _⟩ := h; rfl) | (obtain ⟨_, _, _, _, _, _, _, _, _, _, _, _, _, _, _, _, _, _, rfl, _⟩ := h; rfl) | (obtain ⟨_, _, _, _, _, _, _, _, _, _, _, _, _, _, _, _, _, _, _, rfl, _⟩ := h; rfl) | (obtain ⟨_, _, _, _, _, _, _, _, _, _, _, _, _, _, _, _, _, _, _, _, rfl, _⟩ := h; rfl) | (obtain ⟨_, _, _, _, _, _, _, _, _, _, _, _, _, _, _, _, _, _, _, _, _, rfl, _⟩ := h; rfl)
  · obtain ⟨p, dxp, h, hh, c, cp, at_, x, y, b, hs, rfl, hp, hS, hc, q⟩ := h
    have cP := T.c_Parser
    k_call_by "xo" st_Parser__reaches_end
    cases b with
    | false =>
      wtm_at "oo"
      exact q
    | true =>
      wtm_at "oo"
      refine ⟨p, dxp, h, hh, c, at_, hs, rfl, hp, hS, ?_⟩
      wtm_at "oo"
      exact q
/-- the copy that is better than the one held -/
def btr (hs : List Int) (at_ f w : Int) (m : Nm) (s l : Int) : List Int := if m.pat ≤ l then [0, 0] else fnd hs at_ f w (if m.good ≤ l then max 1 (m.chain / 4) else m.chain) m.nice l s
theorem fnd_two {hs : List Int} {at_ f w c n l s : Int} : fnd hs at_ f w c n l s = [(fnd hs at_ f w c n l s).getD 0 0, (fnd hs at_ f w c n l s).getD 1 0] := useC_is _ _ _
theorem btr_two {hs : List Int} {at_ f w : Int} {m : Nm} {s l : Int} : btr hs at_ f w m s l = [(btr hs at_ f w m s l).getD 0 0, (btr hs at_ f w m s l).getD 1 0] := by
  unfold btr
  split
  · rfl
  · exact fnd_two
def sp_Parser__better (K : PySem.W.Frag) : Sp := fun vs H Q _ => ∃ (p dxp h c dx d bb hh nm : Addr) (w f at_ x y s : Int) (hs : List Int) (kvs : List (Key × V)) (e : Nat) (m : Nm), vs = [.ref p, .ref nm, .int s] ∧
  Own K (delL H (prA p h c d bb)) H (.im (.ref nm) (nmD m) :: prL K p dxp h c dx d bb w f hs at_ hh x y kvs e) ∧ PrB hs at_ w f e kvs ∧ 0 ≤ m.chain ∧
  ∀ cp kvs' e' H', PrB hs at_ w f e' kvs' → Own K (delL H (prA p h c d bb)) H' (.im (.ref cp) (tI (btr hs at_ f w m s x)) :: prL K p dxp h c dx d bb w f hs at_ hh x y kvs' e') → Q (.ref cp) H'
theorem ok_Parser__better (T : Tx K mg) : Mth P w K base mg 5 "Parser" "_better" ["self", "numbers", "strategy"] (sp_Parser__better K) [] := by
  obtain ⟨fd, F⟩ := T.d_Parser__better
  refine ⟨fd, [], F.ok sc_Parser__better (fun vs H Q E h => ?_) (fun cdv A outer s H vs Q E hr h => ⟨_, (PSs.nox (pss_cons (ps_asg (pv 1) (pg_tup (by rfl) (pgs_cons (pg_name (i := 3) sc_Parser__better.nd rfl (Or.inl rfl)) (pgs_cons (pg_name (i := 4) sc_Parser__better.nd rfl (Or.inl rfl)) (pgs_cons (pg_name (i := 3) sc_Parser__better.nd rfl (Or.inl rfl)) (pgs_cons (pg_name (i := 5) sc_Parser__better.nd rfl (Or.inl rfl)) (pgs_cons (pg_name (i := 6) sc_Parser__better.nd rfl (Or.inl rfl)) pgs_nil)))))))
 (pss_cons (ps_set (i := 7) sc_Parser__better.nd rfl (Or.inl rfl) (by exact (pe_ix (ixt K) (pe_fld (pv 0) rfl) pe_int (fun _ _ => rfl))))
 (pss_cons (ps_if (pt_cmpR op_ge (pv 7) (pv 5) (nomark _))
 (pss_one (ps_ret (by exact (pe_gc rfl T.c_NO_COPY_levels))))
 pss_nil)
 (pss_cons (ps_if (pt_cmpR op_ge (pv 7) (pv 6) (nomark _))
 (pss_one (ps_set (i := 4) sc_Parser__better.nd rfl (Or.inl rfl) (by exact (pe_callB (call_max2 rfl) rfl T.b_max (by decide +kernel) (pa_cons pe_int (pa_cons (pe_op op_fdiv (pv 4) pe_int) pa_nil))))))
 pss_nil)
 (pss_one (ps_ret (by exact (pe_mt (ok_Parser__found T) (hr.mono (by decide)) (pv 0) (pa_cons (pv 1) (pa_cons (pv 4) (pa_cons (pv 7) (pa_cons (pv 2) pa_nil))))))))))))), ?_⟩), T.m_Parser__better, T.c_Parser.cl, F.bindsN (fun _ _ _ _ _ _ us hl => match us, hl with | [_, _, _], _ => rfl), .nil⟩
  · first | (obtain ⟨rfl, _⟩ := h; rfl) | (obtain ⟨_, rfl, _⟩ := h; rfl) | (obtain ⟨_, _, rfl, _⟩ := h; rfl) | (obtain ⟨_, _, _, rfl, _⟩ := h; rfl) | (obtain ⟨_, _, _, _, rfl, _⟩ := h; rfl) | (obtain ⟨_, _, _, _, _, rfl, _⟩ := h; rfl) | (obtain ⟨_, _, _, _, _, _, rfl, _⟩ := h; rfl) | (obtain ⟨_, _, _, _, _, _, _, rfl, _⟩ := h; rfl) | (obtain ⟨_, _, _, _, _, _, _, _, rfl, _⟩ := h; rfl) | (obtain ⟨_, _, _, _, _, _, _, _, _, rfl, _⟩ := h; rfl) | (obtain ⟨_, _, _, _, _, _, _, _, _, _, rfl, _⟩ := h; rfl) | (obtain ⟨_, _, _, _, _, _, _, _, _, _, _, rfl, _⟩ := h; rfl) | (obtain ⟨_, _, _, _, _, _, _, _, _, _, _, _, rfl, _⟩ := h; rfl) | (obtain ⟨_, _, _, _, _, _, _, _, _, _, _, _, _, rfl, _⟩ := h; rfl) | (obtain ⟨_, _, _, _, _, _, _, _, _, _, _, _, _, _, rfl, _⟩ := h; rfl) | (obtain ⟨_, _, _, _, _, _, _, _, _, _, _, _, _, _, _, rfl, _⟩ := h; rfl) | (obtain ⟨_, _, _, _, _, _, _, _, _, _, _, _, _, _, _, _, rfl, _⟩ := h; rfl) | (obtain ⟨_, _, _, _, _, _, _, _, _, _, _, _, _, _, _, _, _, rfl, _⟩ := h; rfl) | (obtain ⟨_, _, _, _, _, _, _, _, _, _, _, _, _, _, _, _, _, _, rfl, _⟩ := h; rfl) | (obtain ⟨_, _, _, _, _, _, _, _, _, _, _, _, _, _, _, _, _, _, _, rfl, _⟩ := h; rfl) | (obtain ⟨_, _, _, _, _, _, _, _, _, _, _, _, _, _, _, _, _, _, _, _, rfl, _⟩ := h; rfl) | (obtain ⟨_, _, _, _, _, _, _, _, _, _, _, _, _, _, _, _, _, _, _, _, _, rfl, _⟩ := h; rfl)
  · obtain ⟨p, dxp, h, c, dx, d, bb, hh, nm, w, f, at_, x, y, s, hs, kvs, e, m, rfl, L, pb, ch0, q⟩ := h
    have cP := T.c_Parser
    k_call_by "xo" st_Parser__better
    wtm_at "oo"
    refine ⟨_, nm_sq (m := m) (L.imm (by wtm_at "mem")), rfl, ?_⟩
    unfold nmV
    wtm_at "oo"
    have hb : ∀ c2, (if m.good ≤ x then max 1 (m.chain / 4) else m.chain) = c2 → ¬ m.pat ≤ x → btr hs at_ f w m s x = fnd hs at_ f w c2 m.nice x s := fun c2 e n => by
      unfold btr
      rw [if_neg n, e]
    refine sel_d (fun c0 => ?_) (fun c0 => ?_)
    · wtm_at "oo"
      have hn : SqT K H (He.ga K "NO_COPY_levels") (([0, 0] : List Int).map V.int) := T.q_NO_COPY_levels H
      have eb : btr hs at_ f w m s x = [0, 0] := if_pos c0
      rw [eb] at q
      refine q _ kvs e H pb ?_
      exact (L.addIm (Imm.of_is hn)).sub (List.Sublist.cons_cons _ (List.Sublist.cons _ (List.Sublist.refl _)))
    · wtm_at "oo"
      refine sel_d (fun c1 => ?_) (fun c1 => ?_)
      · wtm_at "oo"
        have eb := hb (max 1 (m.chain / 4)) (if_pos c1) c0
        rw [eb] at q
        refine ⟨p, dxp, h, c, dx, d, bb, hh, nm, w, f, at_, x, y, _, x, s, hs, kvs, e, m, rfl, L, pb, by split <;> omega, fun cp kvs' e' H1 pb' M => ?_⟩
        have em : (if m.chain / 4 > 1 then m.chain / 4 else 1) = max 1 (m.chain / 4) := by split <;> omega
        rw [em] at M
        exact q cp kvs' e' H1 pb' M
      · wtm_at "oo"
        have eb := hb m.chain (if_neg c1) c0
        rw [eb] at q
        exact ⟨p, dxp, h, c, dx, d, bb, hh, nm, w, f, at_, x, y, _, x, s, hs, kvs, e, m, rfl, L, pb, ch0, q⟩
theorem fnd_cases {hs : List Int} {at_ f w c n l s : Int} (h : 0 ≤ (hs.length : Int) - at_) : fnd hs at_ f w c n l s = [0, 0] ∨ (3 ≤ (fnd hs at_ f w c n l s).getD 0 0 ∧ (fnd hs at_ f w c n l s).getD 0 0 ≤ 258 ∧ (fnd hs at_ f w c n l s).getD 0 0 ≤ (hs.length : Int) - at_) := by
  have hl := sr_le hs at_ (min 258 ((hs.length : Int) - at_).toNat) n ((cand hs at_ f w).take c.toNat)
  unfold fnd
  generalize sr hs at_ (min 258 ((hs.length : Int) - at_).toNat) n ((cand hs at_ f w).take c.toNat) = r at *
  unfold found
  split
  · dsimp only
    unfold useC
    split
    · exact .inl rfl
    · refine .inr ⟨?_, ?_, ?_⟩
      · show 3 ≤ (r.1 : Int)
        omega
      · show (r.1 : Int) ≤ 258
        omega
      · show (r.1 : Int) ≤ _
        omega
  · left
    dsimp only
    unfold useC
    split <;> rfl
/-- a step that waits for a copy -/
def begR (hs : List Int) (at_ : Int) (m : Nm) (b : Bool) (x y : Int) : List (List Int) × Int × Int × Int :=
  if (x = 0 ∧ y = 0) ∨ m.pat < x ∨ (b && decide (at_ + x = hs.length)) = true then ([tokE hs at_ x y], atE at_ x y, 0, 0) else ([], at_ + 1, x, y)
def begP (hs : List Int) (at_ f w : Int) (m : Nm) (s : Int) (b : Bool) : List (List Int) × Int × Int × Int :=
  begR hs at_ m b ((fnd hs at_ f w m.chain m.nice 0 s).getD 0 0) ((fnd hs at_ f w m.chain m.nice 0 s).getD 1 0)
theorem PrB.go {hs : List Int} {at_ w f at' : Int} {e : Nat} {kvs : List (Key × V)} (h : PrB hs at_ w f e kvs) (h0 : 0 ≤ at') (h1 : at' ≤ hs.length) : PrB hs at' w f e kvs := ⟨h.st, h.len, h0, h1, h.f0, h.w0, h.w1⟩
theorem Own.mutP {K : PySem.W.Frag} {B H H' : Hp} {p dxp h c dx d bb hh : Addr} {w f at_ x y : Int} {hs : List Int} {kvs : List (Key × V)} {e : Nat} {l l' : List As} (L : Own K B H (prL K p dxp h c dx d bb w f hs at_ hh x y kvs e ++ l)) (M : Own K (delL H (prA p h c d bb)) H' l') : Own K B H' (l' ++ l) := by
  refine Own.muts L (fun a o m => ?_) M
  simp only [List.mem_cons, List.not_mem_nil, or_false] at m
  rcases m with m | m | m | m | m | m <;> cases m <;> rfl
theorem Own.enterP {K : PySem.W.Frag} {B H : Hp} {p dxp h c dx d bb hh nm : Addr} {m : Nm} {w f at_ x y : Int} {hs : List Int} {kvs : List (Key × V)} {e : Nat} (L : Own K B H (.im (.ref nm) (nmD m) :: prL K p dxp h c dx d bb w f hs at_ hh x y kvs e)) : Own K (delL H (prA p h c d bb)) H (.im (.ref nm) (nmD m) :: prL K p dxp h c dx d bb w f hs at_ hh x y kvs e) := Own.enter L
def sp_Parser__begin_to_wait (K : PySem.W.Frag) : Sp := fun vs H Q _ => ∃ (p dxp h c dx d bb hh nm : Addr) (w f at_ s : Int) (b : Bool) (hs : List Int) (kvs : List (Key × V)) (e : Nat) (m : Nm), vs = [.ref p, .ref nm, .int s, .bl b] ∧
  Own K (delL H (prA p h c d bb)) H (.im (.ref nm) (nmD m) :: prL K p dxp h c dx d bb w f hs at_ hh 0 0 kvs e) ∧ PrB hs at_ w f e kvs ∧ 0 ≤ m.chain ∧ at_ < hs.length ∧
  ∀ t tks kvs' e' hh' H', PrB hs (begP hs at_ f w m s b).2.1 w f e' kvs' → Own K (delL H (prA p h c d bb)) H' (.pt t (.lst tks) :: .ims tks ((begP hs at_ f w m s b).1.map tI) :: prL K p dxp h c dx d bb w f hs (begP hs at_ f w m s b).2.1 hh' (begP hs at_ f w m s b).2.2.1 (begP hs at_ f w m s b).2.2.2 kvs' e') → Q (.ref t) H'
theorem ok_Parser__begin_to_wait (T : Tx K mg) : Mth P w K base mg 5 "Parser" "_begin_to_wait" ["self", "numbers", "strategy", "bounded"] (sp_Parser__begin_to_wait K) [] := by
  obtain ⟨fd, F⟩ := T.d_Parser__begin_to_wait
  refine ⟨fd, [], F.ok sc_Parser__begin_to_wait (fun vs H Q E h => ?_) (fun cdv A outer s H vs Q E hr h => ⟨_, (PSs.nox (pss_cons (ps_set (i := 4) sc_Parser__begin_to_wait.nd rfl (Or.inl rfl) (by exact (pe_mt (ok_Parser__found T) (hr.mono (by decide)) (pv 0) (pa_cons (pv 1) (pa_cons (pe_ix (ixt K) (pv 1) pe_int (fun _ _ => rfl)) (pa_cons pe_int (pa_cons (pv 2) pa_nil)))))))
 (pss_cons (ps_if (PW.pt (pw_or (pt_cmpR (eqK K hr.units) (pv 4) (pe_gc rfl T.c_NO_COPY_levels) (nomark _)) (pw_or (pt_cmpR op_gt (pe_ix (ixt K) (pv 4) pe_int (fun _ _ => rfl)) (pe_ix (ixt K) (pv 1) pe_int (fun _ _ => rfl)) (nomark _)) (pw_or1 (pt_val (pe_mt (ok_Parser__reaches_end T) (hr.mono (by decide)) (pv 0) (pa_cons (pv 4) (pa_cons (pv 3) pa_nil))))))))
 (pss_one (ps_ret (by exact (pe_mt (ok_Parser__emit T) (hr.mono (by decide)) (pv 0) (pa_cons (pv 4) pa_nil)))))
 pss_nil)
 (pss_cons (ps_fld (pv 0) (by exact (pv 4)) rfl)
 (pss_cons (ps_fldaug (pv 0) (by exact pe_int) (in_of ip_add))
 (pss_one (ps_ret (by exact (pe_lst pa_nil))))))))), ?_⟩), T.m_Parser__begin_to_wait, T.c_Parser.cl, F.bindsN (fun _ _ _ _ _ _ us hl => match us, hl with | [_, _, _, _], _ => rfl), .nil⟩
  · first | (obtain ⟨rfl, _⟩ := h; rfl) | (obtain ⟨_, rfl, _⟩ := h; rfl) | (obtain ⟨_, _, rfl, _⟩ := h; rfl) | (obtain ⟨_, _, _, rfl, _⟩ := h; rfl) | (obtain ⟨_, _, _, _, rfl, _⟩ := h; rfl) | (obtain ⟨_, _, _, _, _, rfl, _⟩ := h; rfl) | (obtain ⟨_, _, _, _, _, _, rfl, _⟩ := h; rfl) | (obtain ⟨_, _, _, _, _, _, _, rfl, _⟩ := h; rfl) | (obtain ⟨_, _, _, _, _, _, _, _, rfl, _⟩ := h; rfl) | (obtain ⟨_, _, _, _, _, _, _, _, _, rfl, _⟩ := h; rfl) | (obtain ⟨_, _, _, _, _, _, _, _, _, _, rfl, _⟩ := h; rfl) | (obtain ⟨_, _, _, _, _, _, _, _, _, _, _, rfl, _⟩ := h; rfl) | (obtain ⟨_, _, _, _, _, _, _, _, _, _, _, _, rfl, _⟩ := h; rfl) | (obtain ⟨_, _, _, _, _, _, _, _, _, _, _, _, _, rfl, _⟩ := h; rfl) | (obtain ⟨_, _, _, _, _, _, _, _, _, _, _, _, _, _, rfl, _⟩ := h; rfl) | (obtain ⟨_, _, _, _, _, _, _, _, _, _, _, _, _, _, _, rfl, _⟩ := h; rfl) | (obtain ⟨_, _, _, _, _, _, _, _, _, _, _, _, _, _, _, _, rfl, _⟩ := h; rfl) | (obtain ⟨_, _, _, _, _, _, _, _, _, _, _, _, _, _, _, _, _, rfl, _⟩ := h; rfl) | (obtain ⟨_, _, _, _, _, _, _, _, _, _, _, _, _, _, _, _, _, _, rfl, _⟩ := h; rfl) | (obtain ⟨_, _, _, _, _, _, _, _, _, _, _, _, _, _, _, _, _, _, _, rfl, _⟩ := h; rfl) | (obtain ⟨_, _, _, _, _, _, _, _, _, _, _, _, _, _, _, _, _, _, _, _, rfl, _⟩ := h; rfl) | (obtain ⟨_, _, _, _, _, _, _, _, _, _, _, _, _, _, _, _, _, _, _, _, _, rfl, _⟩ := h; rfl)
  · obtain ⟨p, dxp, h, c, dx, d, bb, hh, nm, w, f, at_, s, b, hs, kvs, e, m, rfl, L, pb, ch0, hlt, q⟩ := h
    have cP := T.c_Parser
    k_call_by "xo" st_Parser__begin_to_wait
    have a0 := pb.a0
    wtm_at "oo"
    refine ⟨_, nm_sq (m := m) (L.imm (by wtm_at "mem")), _, rfl, ?_⟩
    refine ⟨p, dxp, h, c, dx, d, bb, hh, nm, w, f, at_, 0, 0, _, 0, s, hs, kvs, e, m, rfl, L, pb, ch0, fun cp kvs' e' H1 pb' M => ?_⟩
    have L1 : Own K (delL H (prA p h c d bb)) H1 (.im (.ref nm) (nmD m) :: .im (.ref cp) (tI (fnd hs at_ f w m.chain m.nice 0 s)) :: prL K p dxp h c dx d bb w f hs at_ hh 0 0 kvs' e') := by
      have := Own.mutP (l := [.im (.ref nm) (nmD m)]) (L.perm (List.perm_append_comm (l₁ := [_]))) M
      exact (this.perm (List.perm_append_comm (l₂ := [_])))
    have fc := fnd_cases (hs := hs) (at_ := at_) (f := f) (w := w) (c := m.chain) (n := m.nice) (l := 0) (s := s) (by omega)
    have fc : ((fnd hs at_ f w m.chain m.nice 0 s).getD 0 0 = 0 ∧ (fnd hs at_ f w m.chain m.nice 0 s).getD 1 0 = 0) ∨ (3 ≤ (fnd hs at_ f w m.chain m.nice 0 s).getD 0 0 ∧ (fnd hs at_ f w m.chain m.nice 0 s).getD 0 0 ≤ (hs.length : Int) - at_) := by
      rcases fc with e | e
      · rw [e]
        exact .inl ⟨rfl, rfl⟩
      · exact .inr ⟨e.1, e.2.2⟩
    unfold begP at q
    rw [fnd_two] at L1
    generalize (fnd hs at_ f w m.chain m.nice 0 s).getD 0 0 = x at *
    generalize (fnd hs at_ f w m.chain m.nice 0 s).getD 1 0 = y at *
    clear M L
    have hn : SqT K H1 (He.ga K "NO_COPY_levels") (([0, 0] : List Int).map V.int) := T.q_NO_COPY_levels H1
    have emit : ((x = 0 ∧ y = 0) ∨ m.pat < x ∨ (b && decide (at_ + x = hs.length)) = true) → sp_Parser__emit K [.ref p, .ref cp] H1 Q E0 := by
      intro hC
      have eR : begR hs at_ m b x y = ([tokE hs at_ x y], atE at_ x y, 0, 0) := if_pos hC
      rw [eR] at q
      dsimp only at q
      refine ⟨p, dxp, h, hh, c, cp, at_, x, y, hs, rfl, by wtm_at "ho", by wtm_at "ho", by wtm_at "qo", fun _ => ⟨a0, hlt⟩, fun t tk H2 M => ?_⟩
      have L2 := L1.mut1 (by wtm_at "tk") M
      simp only [List.cons_append, List.nil_append] at L2
      have L2 := L2.addIms (vs := [tk]) (ds := [tokE hs at_ x y].map tI) (ImmL.one (L2.imm (v := tk) (d := tI (tokE hs at_ x y)) (by wtm_at "mem")))
      have ha : 0 ≤ atE at_ x y ∧ atE at_ x y ≤ hs.length := by
        unfold atE
        split <;> omega
      exact q t [tk] kvs' e' hh H2 (pb'.go ha.1 ha.2) (L2.pick (by wtm_at "pk"))
    wtm_at "oo"
    refine selT_d (fun c0 => ?_) (fun c0 => ?_)
    · wtm_at "oo"
      exact emit (.inl c0)
    · wtm_at "oo"
      refine ⟨_, nm_sq (m := m) (L1.imm (by wtm_at "mem")), _, rfl, _, rfl, ?_⟩
      refine selT_d (fun c1 => ?_) (fun c1 => ?_)
      · wtm_at "oo"
        exact emit (.inr (.inl c1))
      · wtm_at "oo"
        refine ⟨p, dxp, h, hh, c, cp, at_, x, y, b, hs, rfl, by wtm_at "ho", by wtm_at "qo", by wtm_at "qo", ?_⟩
        wtm_at "oo"
        refine sel (fun c2 => ?_) (fun c2 => ?_)
        · wtm_at "oo"
          exact emit (.inr (.inr c2))
        · have eR : begR hs at_ m b x y = ([], at_ + 1, x, y) := if_neg fun z => by
            rcases z with z | z | z
            · exact c0 z
            · exact c1 z
            · rw [z] at c2
              cases c2
          rw [eR] at q
          dsimp only at q
          wtm_at "oo"
          rename_i H2 L2 H3 L3 t H4 L4
          have L4 := L4.addIms (vs := []) (ds := ([] : List (List Int)).map tI) .nil
          exact q t [] kvs' e' cp H4 (pb'.go (by omega) (by omega)) (L4.pick (by wtm_at "pk"))

/-- a step that goes on to wait: `x, y` is held, `x2, y2` is better -/
def goR (hs : List Int) (at_ : Int) (b : Bool) (x y x2 y2 : Int) : List (List Int) × Int × Int × Int :=
  if (x2 = 0 ∧ y2 = 0) then ([tokE hs (at_ - 1) x y], atE (at_ - 1) x y, 0, 0)
  else if (b && decide (at_ + x2 = hs.length)) = true then ([tokE hs (at_ - 1) 0 0, tokE hs at_ x2 y2], atE at_ x2 y2, 0, 0) else ([tokE hs (at_ - 1) 0 0], at_ + 1, x2, y2)
def goP (hs : List Int) (at_ f w : Int) (m : Nm) (s : Int) (b : Bool) (x y : Int) : List (List Int) × Int × Int × Int :=
  goR hs at_ b x y ((btr hs at_ f w m s x).getD 0 0) ((btr hs at_ f w m s x).getD 1 0)
theorem btr_cases {hs : List Int} {at_ f w : Int} {m : Nm} {s l : Int} (h : 0 ≤ (hs.length : Int) - at_) : ((btr hs at_ f w m s l).getD 0 0 = 0 ∧ (btr hs at_ f w m s l).getD 1 0 = 0) ∨ (3 ≤ (btr hs at_ f w m s l).getD 0 0 ∧ (btr hs at_ f w m s l).getD 0 0 ≤ (hs.length : Int) - at_) := by
  unfold btr
  split
  · exact .inl ⟨rfl, rfl⟩
  · rcases fnd_cases (hs := hs) (at_ := at_) (f := f) (w := w) (c := if m.good ≤ l then max 1 (m.chain / 4) else m.chain) (n := m.nice) (l := l) (s := s) h with e | e
    · rw [e]
      exact .inl ⟨rfl, rfl⟩
    · exact .inr ⟨e.1, e.2.2⟩
def sp_Parser__go_on_waiting (K : PySem.W.Frag) : Sp := fun vs H Q _ => ∃ (p dxp h c dx d bb hh nm : Addr) (w f at_ x y s : Int) (b : Bool) (hs : List Int) (kvs : List (Key × V)) (e : Nat) (m : Nm), vs = [.ref p, .ref nm, .int s, .bl b] ∧
  Own K (delL H (prA p h c d bb)) H (.im (.ref nm) (nmD m) :: prL K p dxp h c dx d bb w f hs at_ hh x y kvs e) ∧ PrB hs at_ w f e kvs ∧ 0 ≤ m.chain ∧ 1 ≤ at_ ∧ at_ < hs.length ∧ 3 ≤ x ∧ at_ - 1 + x ≤ hs.length ∧
  ∀ t tks kvs' e' hh' H', PrB hs (goP hs at_ f w m s b x y).2.1 w f e' kvs' → Own K (delL H (prA p h c d bb)) H' (.pt t (.lst tks) :: .ims tks ((goP hs at_ f w m s b x y).1.map tI) :: prL K p dxp h c dx d bb w f hs (goP hs at_ f w m s b x y).2.1 hh' (goP hs at_ f w m s b x y).2.2.1 (goP hs at_ f w m s b x y).2.2.2 kvs' e') → Q (.ref t) H'
theorem ok_Parser__go_on_waiting (T : Tx K mg) : Mth P w K base mg 6 "Parser" "_go_on_waiting" ["self", "numbers", "strategy", "bounded"] (sp_Parser__go_on_waiting K) [] := by
  obtain ⟨fd, F⟩ := T.d_Parser__go_on_waiting
  refine ⟨fd, [], F.ok sc_Parser__go_on_waiting (fun vs H Q E h => ?_) (fun cdv A outer s H vs Q E hr h => ⟨_, (PSs.nox (pss_cons (ps_set (i := 4) sc_Parser__go_on_waiting.nd rfl (Or.inl rfl) (by exact (pe_fld (pv 0) rfl)))
 (pss_cons (ps_set (i := 5) sc_Parser__go_on_waiting.nd rfl (Or.inl rfl) (by exact (pe_mt (ok_Parser__better T) (hr.mono (by decide)) (pv 0) (pa_cons (pv 1) (pa_cons (pv 2) pa_nil)))))
 (pss_cons (ps_fld (pv 0) (by exact (pe_gc rfl T.c_NO_COPY_levels)) rfl)
 (pss_cons (ps_fldaug (pv 0) (by exact pe_int) (in_of ip_sub))
 (pss_cons (ps_if (pt_cmpR (eqK K hr.units) (pv 5) (pe_gc rfl T.c_NO_COPY_levels) (nomark _))
 (pss_one (ps_ret (by exact (pe_mt (ok_Parser__emit T) (hr.mono (by decide)) (pv 0) (pa_cons (pv 4) pa_nil)))))
 pss_nil)
 (pss_cons (ps_set (i := 6) sc_Parser__go_on_waiting.nd rfl (Or.inl rfl) (by exact (pe_mt (ok_Parser__emit T) (hr.mono (by decide)) (pv 0) (pa_cons (pe_gc rfl T.c_NO_COPY_levels) pa_nil))))
 (pss_cons (ps_if (pt_val (pe_mt (ok_Parser__reaches_end T) (hr.mono (by decide)) (pv 0) (pa_cons (pv 5) (pa_cons (pv 3) pa_nil))))
 (pss_one (ps_ret (by exact (pe_op op_cat (pv 6) (pe_mt (ok_Parser__emit T) (hr.mono (by decide)) (pv 0) (pa_cons (pv 5) pa_nil))))))
 pss_nil)
 (pss_cons (ps_fld (pv 0) (by exact (pv 5)) rfl)
 (pss_cons (ps_fldaug (pv 0) (by exact pe_int) (in_of ip_add))
 (pss_one (ps_ret (by exact (pv 6)))))))))))))), ?_⟩), T.m_Parser__go_on_waiting, T.c_Parser.cl, F.bindsN (fun _ _ _ _ _ _ us hl => match us, hl with | [_, _, _, _], _ => rfl), .nil⟩
  · first | (obtain ⟨rfl, _⟩ := h; rfl) | (obtain ⟨_, rfl, _⟩ := h; rfl) | (obtain ⟨_, _, rfl, _⟩ := h; rfl) | (obtain ⟨_, _, _, rfl, _⟩ := h; rfl) | (obtain ⟨_, _, _, _, rfl, _⟩ := h; rfl) | (obtain ⟨_, _, _, _, _, rfl, _⟩ := h; rfl) | (obtain ⟨_, _, _, _, _, _, rfl, _⟩ := h; rfl) | (obtain ⟨_, _, _, _, _, _, _, rfl, _⟩ := h; rfl) | (obtain ⟨_, _, _, _, _, _, _, _, rfl, _⟩ := h; rfl) | (obtain ⟨_, _, _, _, _, _, _, _, _, rfl, _⟩ := h; rfl) | (obtain ⟨_, _, _, _, _, _, _, _, _, _, rfl, _⟩ := h; rfl) | (obtain ⟨_, _, _, _, _, _, _, _, _, _, _, rfl, _⟩ := h; rfl) | (obtain ⟨_, _, _, _, _, _, _, _, _, _, _, _, rfl, _⟩ := h; rfl) | (obtain ⟨_, _, _, _, _, _, _, _, _, _, _, _, _, rfl, _⟩ := h; rfl) | (obtain ⟨_, _, _, _, _, _, _, _, _, _, _, _, _, _, rfl, _⟩ := h; rfl) | (obtain ⟨_, _, _, _, _, _, _, _, _, _, _, _, _, _, _, rfl, _⟩ := h; rfl) | (obtain ⟨_, _, _, _, _, _, _, _, _, _, _, _, _, _, _, _, rfl, _⟩ := h; rfl) | (obtain ⟨_, _, _, _, _, _, _, _, _, _, _, _, _, _, _, _, _, rfl, _⟩ := h; rfl) | (obtain ⟨_, _, _, _, _, _, _, _, _, _, _, _, _, _, _, _, _, _, rfl, _⟩ := h; rfl) | (obtain ⟨_, _, _, _, _, _, _, _, _, _, _, _, _, _, _, _, _, _, _, rfl, _⟩ := h; rfl) | (obtain ⟨_, _, _, _, _, _, _, _, _, _, _, _, _, _, _, _, _, _, _, _, rfl, _⟩ := h; rfl) | (obtain ⟨_, _, _, _, _, _, _, _, _, _, _, _, _, _, _, _, _, _, _, _, _, rfl, _⟩ := h; rfl)
  · obtain ⟨p, dxp, h, c, dx, d, bb, hh, nm, w, f, at_, x, y, s, b, hs, kvs, e, m, rfl, L, pb, ch0, h1, hlt, hx, hxe, q⟩ := h
    have cP := T.c_Parser
    k_call_by "xo" st_Parser__go_on_waiting
    have a0 := pb.a0
    wtm_at "oo"
    refine ⟨p, dxp, h, c, dx, d, bb, hh, nm, w, f, at_, x, y, s, hs, kvs, e, m, rfl, L, pb, ch0, fun cp kvs' e' H1 pb' M => ?_⟩
    have L1 : Own K (delL H (prA p h c d bb)) H1 (.im (.ref nm) (nmD m) :: .im (.ref cp) (tI (btr hs at_ f w m s x)) :: prL K p dxp h c dx d bb w f hs at_ hh x y kvs' e') := by
      have := Own.mutP (l := [.im (.ref nm) (nmD m)]) (L.perm (List.perm_append_comm (l₁ := [_]))) M
      exact (this.perm (List.perm_append_comm (l₂ := [_])))
    have fc := btr_cases (hs := hs) (at_ := at_) (f := f) (w := w) (m := m) (l := x) (s := s) (by omega)
    unfold goP at q
    rw [btr_two] at L1
    generalize (btr hs at_ f w m s x).getD 0 0 = x2 at *
    generalize (btr hs at_ f w m s x).getD 1 0 = y2 at *
    clear M L
    have hn : SqT K H1 (He.ga K "NO_COPY_levels") (([0, 0] : List Int).map V.int) := T.q_NO_COPY_levels H1
    have L1 := L1.addIm (Imm.of_is hn)
    wtm_at "oo"
    rename_i G1 N1 G2 N2
    clear N1 L1
    refine sel_d (fun c0 => ?_) (fun c0 => ?_)
    · wtm_at "oo"
      have eR : goR hs at_ b x y x2 y2 = ([tokE hs (at_ - 1) x y], atE (at_ - 1) x y, 0, 0) := if_pos c0
      rw [eR] at q
      dsimp only at q
      refine ⟨p, dxp, h, _, c, hh, at_ - 1, x, y, hs, rfl, by wtm_at "ho", by wtm_at "ho", by wtm_at "qo", fun z => absurd z.1 (by omega), fun t tk H2 M => ?_⟩
      have L2 := N2.mut1 (by wtm_at "tk") M
      simp only [List.cons_append, List.nil_append] at L2
      have L2 := L2.addIms (vs := [tk]) (ds := [tokE hs (at_ - 1) x y].map tI) (ImmL.one (L2.imm (v := tk) (d := tI (tokE hs (at_ - 1) x y)) (by wtm_at "mem")))
      have ha : 0 ≤ atE (at_ - 1) x y ∧ atE (at_ - 1) x y ≤ hs.length := by
        unfold atE
        split <;> omega
      exact q t [tk] kvs' e' _ H2 (pb'.go ha.1 ha.2) (L2.pick (by wtm_at "pk"))
    · wtm_at "oo"
      have fc : 3 ≤ x2 ∧ x2 ≤ (hs.length : Int) - at_ := fc.resolve_left c0
      refine ⟨p, dxp, h, _, c, _, at_ - 1, 0, 0, hs, rfl, by wtm_at "ho", by wtm_at "ho", by wtm_at "qo", fun z => ⟨by omega, by omega⟩, fun t tk H2 M => ?_⟩
      have L2 := N2.mut1 (by wtm_at "tk") M
      simp only [List.cons_append, List.nil_append] at L2
      have ea : atE (at_ - 1) 0 0 = at_ := by
        unfold atE
        rw [if_pos ⟨rfl, rfl⟩]
        omega
      rw [ea] at L2
      clear M N2
      wtm_at "oo"
      refine ⟨p, dxp, h, _, c, cp, at_, x2, y2, b, hs, rfl, by wtm_at "ho", by wtm_at "qo", by wtm_at "qo", ?_⟩
      wtm_at "oo"
      refine sel (fun c2 => ?_) (fun c2 => ?_)
      · wtm_at "oo"
        have eR : goR hs at_ b x y x2 y2 = ([tokE hs (at_ - 1) 0 0, tokE hs at_ x2 y2], atE at_ x2 y2, 0, 0) := (if_neg c0).trans (if_pos c2)
        rw [eR] at q
        dsimp only at q
        refine ⟨p, dxp, h, _, c, cp, at_, x2, y2, hs, rfl, by wtm_at "ho", by wtm_at "ho", by wtm_at "qo", fun z => absurd z.1 (by omega), fun t2 tk2 H3 M => ?_⟩
        have L3 := L2.mut1 (by wtm_at "tk") M
        simp only [List.cons_append, List.nil_append] at L3
        have ha : 0 ≤ atE at_ x2 y2 ∧ atE at_ x2 y2 ≤ hs.length := by
          unfold atE
          split <;> omega
        wtm_at "oo"
        rename_i t3 G3 L4
        have L4 := L4.addIms (vs := [tk, tk2]) (ds := [tokE hs (at_ - 1) 0 0, tokE hs at_ x2 y2].map tI) (.cons (L4.imm (v := tk) (d := tI (tokE hs (at_ - 1) 0 0)) (by wtm_at "mem")) (ImmL.one (L4.imm (v := tk2) (d := tI (tokE hs at_ x2 y2)) (by wtm_at "mem"))))
        exact q t3 [tk, tk2] kvs' e' _ G3 (pb'.go ha.1 ha.2) (L4.pick (by wtm_at "pk"))
      · have eR : goR hs at_ b x y x2 y2 = ([tokE hs (at_ - 1) 0 0], at_ + 1, x2, y2) := (if_neg c0).trans (if_neg fun z => by
          rw [z] at c2
          cases c2)
        rw [eR] at q
        dsimp only at q
        wtm_at "oo"
        rename_i G3 L3 G4 L4
        have L4 := L4.addIms (vs := [tk]) (ds := [tokE hs (at_ - 1) 0 0].map tI) (ImmL.one (L4.imm (v := tk) (d := tI (tokE hs (at_ - 1) 0 0)) (by wtm_at "mem")))
        exact q t [tk] kvs' e' cp G4 (pb'.go (by omega) (by omega)) (L4.pick (by wtm_at "pk"))

theorem runC_cases {hs : List Int} {i e f : Int} : runC hs i e f = [0, 0] ∨ (3 ≤ (runC hs i e f).getD 0 0 ∧ (runC hs i e f).getD 0 0 ≤ max 0 (e - i)) := by
  unfold runC
  split
  · exact .inl rfl
  · rename_i c
    have := cl_le hs (i - 1).toNat i.toNat (min 258 (e - i).toNat)
    refine .inr ⟨?_, ?_⟩
    · show 3 ≤ ((cl hs (i - 1).toNat i.toNat (min 258 (e - i).toNat) : Nat) : Int)
      omega
    · show ((cl hs (i - 1).toNat i.toNat (min 258 (e - i).toNat) : Nat) : Int) ≤ _
      omega
/-- what one step makes, where a step is made -/
def stp (hs : List Int) (at_ f w : Int) (m : Nm) (s : Int) (b : Bool) (x y : Int) : List (List Int) × Int × Int × Int :=
  if m.way = Str.ofString "stored" ∨ s = 2 then ([tokE hs at_ 0 0], atE at_ 0 0, x, y)
  else if s = 3 then ([tokE hs at_ ((runC hs at_ hs.length f).getD 0 0) ((runC hs at_ hs.length f).getD 1 0)], atE at_ ((runC hs at_ hs.length f).getD 0 0) ((runC hs at_ hs.length f).getD 1 0), x, y)
  else if m.way = Str.ofString "greedy" then ([tokE hs at_ ((fnd hs at_ f w m.chain m.nice 0 s).getD 0 0) ((fnd hs at_ f w m.chain m.nice 0 s).getD 1 0)], atE at_ ((fnd hs at_ f w m.chain m.nice 0 s).getD 0 0) ((fnd hs at_ f w m.chain m.nice 0 s).getD 1 0), x, y)
  else if (x = 0 ∧ y = 0) then begP hs at_ f w m s b else goP hs at_ f w m s b x y
theorem emit_sp {K : PySem.W.Frag} {Q : V → Hp → Prop} {H H1 : Hp} {p dxp h c dx d bb hh cp : Addr} {w f at_ x y x2 y2 : Int} {hs : List Int} {kvs : List (Key × V)} {e : Nat}
    (L1 : Own K (delL H (prA p h c d bb)) H1 (.im (.ref cp) (tI [x2, y2]) :: prL K p dxp h c dx d bb w f hs at_ hh x y kvs e)) (pb : PrB hs at_ w f e kvs) (hlt : at_ < hs.length)
    (fc : (x2 = 0 ∧ y2 = 0) ∨ (3 ≤ x2 ∧ x2 ≤ (hs.length : Int) - at_))
    (q : ∀ t tks H', PrB hs (atE at_ x2 y2) w f e kvs → Own K (delL H (prA p h c d bb)) H' (.pt t (.lst tks) :: .ims tks ([tokE hs at_ x2 y2].map tI) :: prL K p dxp h c dx d bb w f hs (atE at_ x2 y2) hh x y kvs e) → Q (.ref t) H') : sp_Parser__emit K [.ref p, .ref cp] H1 Q E0 := by
  have a0 := pb.a0
  refine ⟨p, dxp, h, hh, c, cp, at_, x2, y2, hs, rfl, by wtm_at "ho", by wtm_at "ho", by wtm_at "qo", fun _ => ⟨a0, hlt⟩, fun t tk H2 M => ?_⟩
  have L2 := L1.mut1 (by wtm_at "tk") M
  simp only [List.cons_append, List.nil_append] at L2
  have L2 := L2.addIms (vs := [tk]) (ds := [tokE hs at_ x2 y2].map tI) (ImmL.one (L2.imm (v := tk) (d := tI (tokE hs at_ x2 y2)) (by wtm_at "mem")))
  have ha : 0 ≤ atE at_ x2 y2 ∧ atE at_ x2 y2 ≤ hs.length := by
    unfold atE
    split <;> omega
  exact q t [tk] H2 (pb.go ha.1 ha.2) (L2.pick (by wtm_at "pk"))
def sp_Parser_step (K : PySem.W.Frag) : Sp := fun vs H Q _ => ∃ (p dxp h c dx d bb hh nm : Addr) (w f at_ x y s : Int) (b : Bool) (hs : List Int) (kvs : List (Key × V)) (e : Nat) (m : Nm), vs = [.ref p, .ref nm, .int s, .bl b] ∧
  Own K (delL H (prA p h c d bb)) H (.im (.ref nm) (nmD m) :: prL K p dxp h c dx d bb w f hs at_ hh x y kvs e) ∧ PrB hs at_ w f e kvs ∧ 0 ≤ m.chain ∧ f ≤ at_ ∧ ((x = 0 ∧ y = 0) ∨ (1 ≤ at_ ∧ 3 ≤ x ∧ at_ - 1 + x ≤ hs.length)) ∧
  ((at_ = hs.length ∨ (b = false ∧ hs.length - at_ < 320)) → Q .non H) ∧
  (at_ < hs.length → (b = true ∨ 320 ≤ hs.length - at_) → ∀ t tks kvs' e' hh' H', PrB hs (stp hs at_ f w m s b x y).2.1 w f e' kvs' → Own K (delL H (prA p h c d bb)) H' (.pt t (.lst tks) :: .ims tks ((stp hs at_ f w m s b x y).1.map tI) :: prL K p dxp h c dx d bb w f hs (stp hs at_ f w m s b x y).2.1 hh' (stp hs at_ f w m s b x y).2.2.1 (stp hs at_ f w m s b x y).2.2.2 kvs' e') → Q (.ref t) H')
theorem ok_Parser_step (T : Tx K mg) : Mth P w K base mg 7 "Parser" "step" ["self", "numbers", "strategy", "bounded"] (sp_Parser_step K) [] := by
  obtain ⟨fd, F⟩ := T.d_Parser_step
  refine ⟨fd, [], F.ok sc_Parser_step (fun vs H Q E h => ?_) (fun cdv A outer s H vs Q E hr h => ⟨_, (PSs.nox (pss_cons (ps_set (i := 4) sc_Parser_step.nd rfl (Or.inl rfl) (by exact (pe_op op_sub (pe_mt0 (ok_Parser_end T) (hr.mono (by decide)) (pv 0)) (pe_fld (pv 0) rfl))))
 (pss_cons (ps_if (PW.pt (pw_or (pt_cmpR op_eq (pv 4) pe_int (nomark _)) (pw_or1 (PW.pt (pw_and (pt_not (pt_val (pv 3))) (pw_and1 (pt_cmpR op_lt (pv 4) (pe_gc rfl T.c__LOOK_AHEAD) (nomark _))))))))
 (pss_one (ps_ret (by exact pe_non)))
 pss_nil)
 (pss_cons (ps_set (i := 5) sc_Parser_step.nd rfl (Or.inl rfl) (by exact (pe_ix (ixt K) (pv 1) pe_int (fun _ _ => rfl))))
 (pss_cons (ps_if (PW.pt (pw_or (pt_cmpR op_eq (pv 5) pe_str (nomark _)) (pw_or1 (pt_cmpR op_eq (pv 2) (pe_gc rfl T.c_HUFFMAN) (nomark _)))))
 (pss_one (ps_ret (by exact (pe_mt (ok_Parser__emit T) (hr.mono (by decide)) (pv 0) (pa_cons (pe_gc rfl T.c_NO_COPY_levels) pa_nil)))))
 pss_nil)
 (pss_cons (ps_if (pt_cmpR op_eq (pv 2) (pe_gc rfl T.c_RUNS) (nomark _))
 (pss_one (ps_ret (by exact (pe_mt (ok_Parser__emit T) (hr.mono (by decide)) (pv 0) (pa_cons (pe_cl (ok_run_at T) (hr.mono (by decide)) rfl (pa_cons (pe_fld (pv 0) rfl) (pa_cons (pe_fld (pv 0) rfl) (pa_cons (pe_mt0 (ok_Parser_end T) (hr.mono (by decide)) (pv 0)) (pa_cons (pe_mt0 (ok_Parser_floor T) (hr.mono (by decide)) (pv 0)) pa_nil))))) pa_nil)))))
 pss_nil)
 (pss_cons (ps_if (pt_cmpR op_eq (pv 5) pe_str (nomark _))
 (pss_one (ps_ret (by exact (pe_mt (ok_Parser__emit T) (hr.mono (by decide)) (pv 0) (pa_cons (pe_mt (ok_Parser__found T) (hr.mono (by decide)) (pv 0) (pa_cons (pv 1) (pa_cons (pe_ix (ixt K) (pv 1) pe_int (fun _ _ => rfl)) (pa_cons pe_int (pa_cons (pv 2) pa_nil))))) pa_nil)))))
 pss_nil)
 (pss_cons (ps_if (pt_cmpR (eqK K hr.units) (pe_fld (pv 0) rfl) (pe_gc rfl T.c_NO_COPY_levels) (nomark _))
 (pss_one (ps_ret (by exact (pe_mt (ok_Parser__begin_to_wait T) (hr.mono (by decide)) (pv 0) (pa_cons (pv 1) (pa_cons (pv 2) (pa_cons (pv 3) pa_nil)))))))
 pss_nil)
 (pss_one (ps_ret (by exact (pe_mt (ok_Parser__go_on_waiting T) (hr.mono (by decide)) (pv 0) (pa_cons (pv 1) (pa_cons (pv 2) (pa_cons (pv 3) pa_nil))))))))))))))), ?_⟩), T.m_Parser_step, T.c_Parser.cl, F.bindsN (fun _ _ _ _ _ _ us hl => match us, hl with | [_, _, _, _], _ => rfl), .nil⟩
  · first | (obtain ⟨rfl, _⟩ := h; rfl) | (obtain ⟨_, rfl, _⟩ := h; rfl) | (obtain ⟨_, _, rfl, _⟩ := h; rfl) | (obtain ⟨_, _, _, rfl, _⟩ := h; rfl) | (obtain ⟨_, _, _, _, rfl, _⟩ := h; rfl) | (obtain ⟨_, _, _, _, _, rfl, _⟩ := h; rfl) | (obtain ⟨_, _, _, _, _, _, rfl, _⟩ := h; rfl) | (obtain ⟨_, _, _, _, _, _, _, rfl, _⟩ := h; rfl) | (obtain ⟨_, _, _, _, _, _, _, _, rfl, _⟩ := h; rfl) | (obtain ⟨_, _, _, _, _, _, _, _, _, rfl, _⟩ := h; rfl) | (obtain ⟨_, _, _, _, _, _, _, _, _, _, rfl, _⟩ := h; rfl) | (obtain ⟨_, _, _, _, _, _, _, _, _, _, _, rfl, _⟩ := h; rfl) | (obtain ⟨_, _, _, _, _, _, _, _, _, _, _, _, rfl, _⟩ := h; rfl) | (obtain ⟨_, _, _, _, _, _, _, _, _, _, _, _, _, rfl, _⟩ := h; rfl) | (obtain ⟨_, _, _, _, _, _, _, _, _, _, _, _, _, _, rfl, _⟩ := h; rfl) | (obtain ⟨_, _, _, _, _, _, _, _, _, _, _, _, _, _, _, rfl, _⟩ := h; rfl) | (obtain ⟨_, _, _, _, _, _, _, _, _, _, _, _, _, _, _, _, rfl, _⟩ := h; rfl) | (obtain ⟨_, _, _, _, _, _, _, _, _, _, _, _, _, _, _, _, _, rfl, _⟩ := h; rfl) | (obtain ⟨_, _, _, _, _, _, _, _, _, _, _, _, _, _, _, _, _, _, rfl, _⟩ := h; rfl) | (obtain ⟨_, _, _, _, _, _, _, _, _, _, _, _, _, _, _, _, _, _, _, rfl, _⟩ := h; rfl) | (obtain ⟨_, _, _, _, _, _, _, _, _, _, _, _, _, _, _, _, _, _, _, _, rfl, _⟩ := h; rfl) | (obtain ⟨_, _, _, _, _, _, _, _, _, _, _, _, _, _, _, _, _, _, _, _, _, rfl, _⟩ := h; rfl)
  · obtain ⟨p, dxp, h, c, dx, d, bb, hh, nm, w, f, at_, x, y, s, b, hs, kvs, e, m, rfl, L, pb, ch0, hfa, hW, q1, q2⟩ := h
    have cP := T.c_Parser
    k_call_by "xo" st_Parser_step
    have a0 := pb.a0
    wtm_at "oo"
    refine ⟨p, dxp, h, hh, c, at_, hs, rfl, by wtm_at "ho", by wtm_at "qo", ?_⟩
    wtm_at "oo"
    refine selT_d (fun c0 => ?_) (fun c0 => ?_)
    · wtm_at "oo"
      exact q1 (.inl (by omega))
    · have hlt : at_ < hs.length := by
        have := pb.a1
        omega
      have qa := q2 hlt
      clear q2
      have hB : (b = true ∨ 320 ≤ hs.length - at_) ∨ (b = false ∧ hs.length - at_ < 320) := by
        cases b
        · by_cases z : 320 ≤ (hs.length : Int) - at_
          · exact .inl (.inr z)
          · exact .inr ⟨rfl, by omega⟩
        · exact .inl (.inl rfl)
      rcases hB.symm with hC | hC
      · obtain ⟨rfl, hC⟩ := hC
        wtm_at "oo"
        exact q1 (.inr ⟨rfl, hC⟩)
      · have q2 := qa hC
        clear qa
        have nS := nm_sq (m := m) (L.imm (v := .ref nm) (d := nmD m) (by wtm_at "mem"))
        have hN : b = false → ¬ ((hs.length : Int) - at_ < 320) := by
          intro z
          rcases hC with u | u
          · rw [z] at u
            cases u
          · omega
        clear hB
        cases b
        all_goals
          first
          | have hN := hN rfl
          | skip
          have hn : SqT K H (He.ga K "NO_COPY_levels") (([0, 0] : List Int).map V.int) := T.q_NO_COPY_levels H
          have L0 := (L.addIm (Imm.of_is hn)).sub (l' := .im (.ref (He.ga K "NO_COPY_levels")) (tI [0, 0]) :: prL K p dxp h c dx d bb w f hs at_ hh x y kvs e) (List.Sublist.cons_cons _ (List.Sublist.cons _ (List.Sublist.refl _)))
          wtm_at "oo"
          refine selT_d (fun c1 => ?_) (fun c1 => ?_)
          · wtm_at "oo"
            unfold stp at q2
            rw [if_pos (.inl c1)] at q2
            exact emit_sp L0 pb hlt (.inl ⟨rfl, rfl⟩) (fun t tks H' pb' M => q2 t tks kvs e hh H' pb' M)
          · wtm_at "oo"
            refine sel_d (fun c2 => ?_) (fun c2 => ?_)
            · wtm_at "oo"
              unfold stp at q2
              rw [if_pos (.inr c2)] at q2
              exact emit_sp L0 pb hlt (.inl ⟨rfl, rfl⟩) (fun t tks H' pb' M => q2 t tks kvs e hh H' pb' M)
            · unfold stp at q2
              rw [if_neg (fun z => z.elim c1 c2)] at q2
              wtm_at "oo"
              refine sel_d (fun c3 => ?_) (fun c3 => ?_)
              · rw [if_pos c3] at q2
                wtm_at "oo"
                refine ⟨p, dxp, h, hh, c, at_, hs, rfl, by wtm_at "ho", by wtm_at "qo", ?_⟩
                wtm_at "oo"
                refine ⟨p, dxp, h, hh, c, dx, d, bb, at_, w, f, rfl, by wtm_at "ho", by wtm_at "ho", ?_⟩
                wtm_at "oo"
                refine ⟨h, hs, at_, _, f, rfl, by wtm_at "qo", pb.len, pb.f0, hfa, by omega, Int.le_refl _, fun cp H1 M => ?_⟩
                have L1 := L0.c1 M
                have fc := runC_cases (hs := hs) (i := at_) (e := hs.length) (f := f)
                rw [runC_is] at L1
                have L1 := L1.sub (l' := .im (.ref cp) (tI [(runC hs at_ hs.length f).getD 0 0, (runC hs at_ hs.length f).getD 1 0]) :: prL K p dxp h c dx d bb w f hs at_ hh x y kvs e) (List.Sublist.cons_cons _ (List.Sublist.cons _ (List.Sublist.refl _)))
                have fc : ((runC hs at_ hs.length f).getD 0 0 = 0 ∧ (runC hs at_ hs.length f).getD 1 0 = 0) ∨ (3 ≤ (runC hs at_ hs.length f).getD 0 0 ∧ (runC hs at_ hs.length f).getD 0 0 ≤ (hs.length : Int) - at_) := by
                  rcases fc with e | e
                  · rw [e]
                    exact .inl ⟨rfl, rfl⟩
                  · exact .inr ⟨e.1, by omega⟩
                wtm_at "oo"
                exact emit_sp L1 pb hlt fc (fun t tks H' pb' M => q2 t tks kvs e hh H' pb' M)
              · rw [if_neg c3] at q2
                wtm_at "oo"
                refine sel_d (fun c4 => ?_) (fun c4 => ?_)
                · rw [if_pos c4] at q2
                  wtm_at "oo"
                  refine ⟨p, dxp, h, c, dx, d, bb, hh, nm, w, f, at_, x, y, _, 0, s, hs, kvs, e, m, rfl, L, pb, ch0, fun cp kvs' e' H1 pb' M => ?_⟩
                  have fc := fnd_cases (hs := hs) (at_ := at_) (f := f) (w := w) (c := m.chain) (n := m.nice) (l := 0) (s := s) (by omega)
                  rw [fnd_two] at M
                  have fc : ((fnd hs at_ f w m.chain m.nice 0 s).getD 0 0 = 0 ∧ (fnd hs at_ f w m.chain m.nice 0 s).getD 1 0 = 0) ∨ (3 ≤ (fnd hs at_ f w m.chain m.nice 0 s).getD 0 0 ∧ (fnd hs at_ f w m.chain m.nice 0 s).getD 0 0 ≤ (hs.length : Int) - at_) := by
                    rcases fc with e | e
                    · rw [e]
                      exact .inl ⟨rfl, rfl⟩
                    · exact .inr ⟨e.1, e.2.2⟩
                  wtm_at "oo"
                  exact emit_sp M pb' hlt fc (fun t tks H' pb2 M => q2 t tks kvs' e' hh H' pb2 M)
                · rw [if_neg c4] at q2
                  wtm_at "oo"
                  refine sel_d (fun c5 => ?_) (fun c5 => ?_)
                  · rw [if_pos c5] at q2
                    obtain ⟨rfl, rfl⟩ := c5
                    wtm_at "oo"
                    exact ⟨p, dxp, h, c, dx, d, bb, hh, nm, w, f, at_, s, _, hs, kvs, e, m, rfl, L, pb, ch0, hlt, q2⟩
                  · rw [if_neg c5] at q2
                    have hW := hW.resolve_left c5
                    wtm_at "oo"
                    exact ⟨p, dxp, h, c, dx, d, bb, hh, nm, w, f, at_, x, y, s, _, hs, kvs, e, m, rfl, L, pb, ch0, hW.1, hlt, hW.2.1, hW.2.2, q2⟩

def sp_Parser___init__ (K : PySem.W.Frag) : Sp := fun vs H Q _ => ∃ (p dxp h0 : Addr) (at_ f w : Int) (hs : List Int), vs = [.ref p, .ref h0, .int at_, .int f, .int w] ∧ H p = some (.ins (He.ga K "Parser") dxp []) ∧ SqL K H h0 (hs.map V.int) ∧
  ∀ h c dx d bb hh H', Own K (delL H [p]) H' (prL K p dxp h c dx d bb w (max 0 f) hs at_ hh 0 0 [] 0) → Q .non H'
theorem ok_Parser___init__ (T : Tx K mg) : Mkr P w K base mg 3 "Parser" ["self", "history", "at", "floor", "window"] (sp_Parser___init__ K) [] := by
  obtain ⟨fd, F⟩ := T.d_Parser___init__
  refine ⟨fd, [], F.ok sc_Parser___init__ (fun vs H Q E h => ?_) (fun cdv A outer s H vs Q E hr h => ⟨_, (PSs.nox (pss_cons (ps_fld (pv 0) (by exact (pe_callTy (lsK K) rfl T.b_list (by decide +kernel) (pa_cons (pv 1) pa_nil))) rfl)
 (pss_cons (ps_fld (pv 0) (by exact (pv 2)) rfl)
 (pss_cons (ps_fld (pv 0) (by exact (pe_gc rfl T.c_NO_COPY_levels)) rfl)
 (pss_cons (ps_fld (pv 0) (by exact (pe_mk (ok_Chains___init__ T) (hr.mono (by decide)) rfl (pa_cons (pv 4) pa_nil))) rfl)
 (pss_one (ps_expr (pe_mt (ok_Chains_forget T) (hr.mono (by decide)) (pe_fld (pv 0) rfl) (pa_cons (pv 3) pa_nil))))))))), ?_⟩), T.m_Parser___init__, T.g_Parser, F.bindsN (fun _ _ _ _ _ _ us hl => match us, hl with | [_, _, _, _, _], _ => rfl), .nil⟩
  · first | (obtain ⟨rfl, _⟩ := h; rfl) | (obtain ⟨_, rfl, _⟩ := h; rfl) | (obtain ⟨_, _, rfl, _⟩ := h; rfl) | (obtain ⟨_, _, _, rfl, _⟩ := h; rfl) | (obtain ⟨_, _, _, _, rfl, _⟩ := h; rfl) | (obtain ⟨_, _, _, _, _, rfl, _⟩ := h; rfl) | (obtain ⟨_, _, _, _, _, _, rfl, _⟩ := h; rfl) | (obtain ⟨_, _, _, _, _, _, _, rfl, _⟩ := h; rfl) | (obtain ⟨_, _, _, _, _, _, _, _, rfl, _⟩ := h; rfl) | (obtain ⟨_, _, _, _, _, _, _, _, _, rfl, _⟩ := h; rfl) | (obtain ⟨_, _, _, _, _, _, _, _, _, _, rfl, _⟩ := h; rfl) | (obtain ⟨_, _, _, _, _, _, _, _, _, _, _, rfl, _⟩ := h; rfl) | (obtain ⟨_, _, _, _, _, _, _, _, _, _, _, _, rfl, _⟩ := h; rfl) | (obtain ⟨_, _, _, _, _, _, _, _, _, _, _, _, _, rfl, _⟩ := h; rfl) | (obtain ⟨_, _, _, _, _, _, _, _, _, _, _, _, _, _, rfl, _⟩ := h; rfl) | (obtain ⟨_, _, _, _, _, _, _, _, _, _, _, _, _, _, _, rfl, _⟩ := h; rfl) | (obtain ⟨_, _, _, _, _, _, _, _, _, _, _, _, _, _, _, _, rfl, _⟩ := h; rfl) | (obtain ⟨_, _, _, _, _, _, _, _, _, _, _, _, _, _, _, _, _, rfl, _⟩ := h; rfl) | (obtain ⟨_, _, _, _, _, _, _, _, _, _, _, _, _, _, _, _, _, _, rfl, _⟩ := h; rfl) | (obtain ⟨_, _, _, _, _, _, _, _, _, _, _, _, _, _, _, _, _, _, _, rfl, _⟩ := h; rfl) | (obtain ⟨_, _, _, _, _, _, _, _, _, _, _, _, _, _, _, _, _, _, _, _, rfl, _⟩ := h; rfl) | (obtain ⟨_, _, _, _, _, _, _, _, _, _, _, _, _, _, _, _, _, _, _, _, _, rfl, _⟩ := h; rfl)
  · obtain ⟨p, dxp, h0, at_, f, w, hs, rfl, hp, hS, q⟩ := h
    have cP := T.c_Parser
    have cC' := T.c_Chains
    k_call_by "xo" st_Parser___init__
    have L := Own.in1 (K := K) hp
    have hn : ∀ H, SqT K H (He.ga K "NO_COPY_levels") (([0, 0] : List Int).map V.int) := fun H => T.q_NO_COPY_levels H
    wtm_at "oo"
    rename_i ch dx G4 L4
    refine ⟨ch, dx, w, rfl, by wtm_at "ho", fun d b H5 M => ⟨rfl, ?_⟩⟩
    have L5 := L4.mut1 (by wtm_at "tk") M
    simp only [List.cons_append, List.nil_append] at L5
    clear M L4
    wtm_at "oo"
    refine ⟨ch, dx, d, b, w, 0, f, rfl, by wtm_at "ho", fun H6 M => ?_⟩
    rename_i G6 L6
    have L7 := L6.mut1 (by wtm_at "tk") M
    simp only [List.cons_append, List.nil_append] at L7
    clear M L6
    have L7 := L7.addIm (Imm.of_is (hn _))
    wtm_at "oo"
    refine q _ ch dx d b _ H6 (L7.pick (by wtm_at "pk"))
def sp_Parser_extend (K : PySem.W.Frag) : Sp := fun vs H Q _ => ∃ (p dxp h hh c v : Addr) (at_ : Int) (hs ys : List Int), vs = [.ref p, .ref v] ∧ H p = some (pC K dxp h at_ hh c) ∧ H h = some (.lst (hs.map V.int)) ∧ H v = some (.lst (ys.map V.int)) ∧ hs.length + ys.length ≤ 5000 ∧
  ∀ H', Own K (delL H [h]) H' [pI h (hs ++ ys)] → Q .non H'
theorem ok_Parser_extend (T : Tx K mg) : Mth P w K base mg 1 "Parser" "extend" ["self", "values"] (sp_Parser_extend K) [] := by
  obtain ⟨fd, F⟩ := T.d_Parser_extend
  refine ⟨fd, [], F.ok sc_Parser_extend (fun vs H Q E h => ?_) (fun cdv A outer s H vs Q E hr h => ⟨_, (PSs.nox (pss_one (ps_expr (pe_bm PySem.F.plainAttrs_list PySem.F.slot_list_extend PySem.F.type_list_extend mt_extend (pe_fld (pv 0) rfl) (pa_cons (pv 1) pa_nil))))), ?_⟩), T.m_Parser_extend, T.c_Parser.cl, F.bindsN (fun _ _ _ _ _ _ us hl => match us, hl with | [_, _], _ => rfl), .nil⟩
  · first | (obtain ⟨rfl, _⟩ := h; rfl) | (obtain ⟨_, rfl, _⟩ := h; rfl) | (obtain ⟨_, _, rfl, _⟩ := h; rfl) | (obtain ⟨_, _, _, rfl, _⟩ := h; rfl) | (obtain ⟨_, _, _, _, rfl, _⟩ := h; rfl) | (obtain ⟨_, _, _, _, _, rfl, _⟩ := h; rfl) | (obtain ⟨_, _, _, _, _, _, rfl, _⟩ := h; rfl) | (obtain ⟨_, _, _, _, _, _, _, rfl, _⟩ := h; rfl) | (obtain ⟨_, _, _, _, _, _, _, _, rfl, _⟩ := h; rfl) | (obtain ⟨_, _, _, _, _, _, _, _, _, rfl, _⟩ := h; rfl) | (obtain ⟨_, _, _, _, _, _, _, _, _, _, rfl, _⟩ := h; rfl) | (obtain ⟨_, _, _, _, _, _, _, _, _, _, _, rfl, _⟩ := h; rfl) | (obtain ⟨_, _, _, _, _, _, _, _, _, _, _, _, rfl, _⟩ := h; rfl) | (obtain ⟨_, _, _, _, _, _, _, _, _, _, _, _, _, rfl, _⟩ := h; rfl) | (obtain ⟨_, _, _, _, _, _, _, _, _, _, _, _, _, _, rfl, _⟩ := h; rfl) | (obtain ⟨_, _, _, _, _, _, _, _, _, _, _, _, _, _, _, rfl, _⟩ := h; rfl) | (obtain ⟨_, _, _, _, _, _, _, _, _, _, _, _, _, _, _, _, rfl, _⟩ := h; rfl) | (obtain ⟨_, _, _, _, _, _, _, _, _, _, _, _, _, _, _, _, _, rfl, _⟩ := h; rfl) | (obtain ⟨_, _, _, _, _, _, _, _, _, _, _, _, _, _, _, _, _, _, rfl, _⟩ := h; rfl) | (obtain ⟨_, _, _, _, _, _, _, _, _, _, _, _, _, _, _, _, _, _, _, rfl, _⟩ := h; rfl) | (obtain ⟨_, _, _, _, _, _, _, _, _, _, _, _, _, _, _, _, _, _, _, _, rfl, _⟩ := h; rfl) | (obtain ⟨_, _, _, _, _, _, _, _, _, _, _, _, _, _, _, _, _, _, _, _, _, rfl, _⟩ := h; rfl)
  · obtain ⟨p, dxp, h, hh, c, v, at_, hs, ys, rfl, hp, h0, hv, hz, q⟩ := h
    have cP := T.c_Parser
    k_call_by "xo" st_Parser_extend
    have L := Own.in1 (K := K) h0
    wtm_at "oo"
    refine ⟨h, v, _, _, rfl, rfl, h0, hv, by rw [List.length_map, List.length_map]; unfold sizeLine; omega, ?_⟩
    have L2 := L.put (o' := .lst (hs.map V.int ++ ys.map V.int)) rfl .here
    rw [← List.map_append] at L2
    rw [← List.map_append]
    exact q _ L2


end
end K52

namespace K52
open PySem PySem.Spec PyProof.Rows L2 Bel
local macro_rules | `(tactic| wtm_at "xs") => `(tactic| simp only [x_next, x_seq, x_brk, x_cont, x_drop, x_ret, x_retN, x_if, sel_t, sel_f, selE_t, selE_f, selT_t, selT_f, selC_t, selC_f, x_test, x_tB, x_op, x_un, x_var, x_c, x_cb, x_nil, x_cons, x_rI, x_rI0, x_rU, x_rEq, x_rNe, x_rIxL, x_rIxT, x_rSlL, x_rCat, x_rRep, x_rApp, x_bm, x_bm0, x_sl, x_nopart, x_part, x_tup, x_lst, x_call, x_callS, x_asg, x_gname, x_gtup, x_gnil, x_gcons, x_gsub, x_setL, x_aug, x_ipI, x_ipC, x_bits, x_getL, x_augS, x_and, x_or, x_not, x_k, x_andV, x_orV, x_notV, x_ife, x_chain, x_for, x_ilist, x_itup, x_ienum, x_irng1, x_irng2, x_irev, x_lc, x_yes, wipe_nil, wipe_cons, List.map_cons, List.map_nil, x_misc, x_misc2, x_rz, lookup_at, Bool.not_true, Bool.not_false, decide_true, decide_false, not_true, not_false_eq_true, and_assoc, exists_and_left, exists_eq_left', exists_eq_left, exists_eq', exists_eq_right', exists_eq_right, V.int.injEq, V.ref.injEq, V.bl.injEq, V.str.injEq, List.cons.injEq, and_true, true_and, and_self, Option.some.injEq, List.cons_append, List.nil_append, List.append_nil, List.getElem?_cons_zero, List.getElem?_cons_succ, List.set_cons_zero, List.set_cons_succ, reduceCtorEq, false_and, and_false, exists_false, exists_const, or_false, false_or, scal_ii, scal_bb, scal_ss, List.length_cons, List.length_nil, Int.reduceToNat, Int.reducePow])
local macro_rules | `(tactic| k_call_by "xs" $h:term) => `(tactic| simp only [$h:term, x_next, x_seq, x_brk, x_cont, x_drop, x_ret, x_retN, x_if, sel_t, sel_f, selE_t, selE_f, selT_t, selT_f, selC_t, selC_f, x_test, x_tB, x_op, x_un, x_var, x_c, x_cb, x_nil, x_cons, x_rI, x_rI0, x_rU, x_rEq, x_rNe, x_rIxL, x_rIxT, x_rSlL, x_rCat, x_rRep, x_rApp, x_bm, x_bm0, x_sl, x_nopart, x_part, x_tup, x_lst, x_call, x_callS, x_asg, x_gname, x_gtup, x_gnil, x_gcons, x_gsub, x_setL, x_aug, x_ipI, x_ipC, x_bits, x_getL, x_augS, x_and, x_or, x_not, x_k, x_andV, x_orV, x_notV, x_ife, x_chain, x_for, x_ilist, x_itup, x_ienum, x_irng1, x_irng2, x_irev, x_lc, x_yes, wipe_nil, wipe_cons, List.map_cons, List.map_nil, x_misc, x_misc2, x_rz, lookup_at, Bool.not_true, Bool.not_false, decide_true, decide_false, not_true, not_false_eq_true, and_assoc, exists_and_left, exists_eq_left', exists_eq_left, exists_eq', exists_eq_right', exists_eq_right, V.int.injEq, V.ref.injEq, V.bl.injEq, V.str.injEq, List.cons.injEq, and_true, true_and, and_self, Option.some.injEq, List.cons_append, List.nil_append, List.append_nil, List.getElem?_cons_zero, List.getElem?_cons_succ, List.set_cons_zero, List.set_cons_succ, reduceCtorEq, false_and, and_false, exists_false, exists_const, or_false, false_or, scal_ii, scal_bb, scal_ss, List.length_cons, List.length_nil, Int.reduceToNat, Int.reducePow])
local macro_rules | `(tactic| wtm_at "hp") => `(tactic| first | (with_reducible assumption) | exact upd_same | (refine upd_keep (by with_reducible assumption) ?_; wtm_at "hp") | (refine Same.get (by with_reducible assumption) ?_; wtm_at "hp") | (refine upd_other (by first | (with_reducible assumption) | exact Ne.symm (by with_reducible assumption)) ?_; wtm_at "hp"))
local macro_rules | `(tactic| wtm_at "sq") => `(tactic| first | (with_reducible assumption) | exact SqL.of (by wtm_at "hp") | exact SqT.of (by wtm_at "hp") | (refine Same.seq (same_upd (by with_reducible assumption)) ?_; wtm_at "sq") | (refine Same.seq (by with_reducible assumption) ?_; wtm_at "sq") | (refine Same.seqT (same_upd (by with_reducible assumption)) ?_; wtm_at "sq") | (refine Same.seqT (by with_reducible assumption) ?_; wtm_at "sq"))
local macro_rules | `(tactic| wtm_at "cl") => `(tactic| first | (with_reducible assumption) | omega | (exact cmul_r (by omega) (by omega)) | (exact cmul_l (by omega) (by omega)) | (exact cdiv_ok (by omega) (by omega)) | (exact cpow_ok (by decide)) | (exact ⟨by omega, by omega, by omega⟩) | decide | (exact ⟨by omega, by omega⟩) | (simp only [List.length_append, List.length_map, List.length_set, List.length_cons, List.length_nil, rngL_len, sizeLine_eq]; omega) | wtm_at "hp" | wtm_at "sq")
local macro_rules | `(tactic| wtm_at "pf") => `(tactic| first | (with_reducible assumption) | omega | (simp only [List.length_append, List.length_map, List.length_set, List.length_cons, List.length_nil, rngL_len]; omega) | (with_reducible rfl) | (with_reducible trivial) | (with_reducible decide))
local macro_rules | `(tactic| wtm_at "st") => `(tactic| first | ((with_reducible refine g_at ?_); refine at_call (by wtm_at "sq") (by omega) (by omega) (fun _ _ => ?_)) | ((with_reducible refine g_int ?_); refine int_call ?_) | ((with_reducible refine g_isi ?_); first | (with_reducible refine isi_ii ?_) | (with_reducible refine isi_ib ?_) | (refine isi_int rfl ?_) | (refine isi_lst rfl (by wtm_at "hp") ?_) | (refine isi_tup rfl (by wtm_at "hp") ?_)) | ((with_reducible refine g_ned ?_); refine ned_f (dq_lst (by wtm_at "sq")) (dq_lst (by wtm_at "sq")) ?_) | ((with_reducible refine g_eqd ?_); refine eqd_t (dq_lst (by wtm_at "sq")) (dq_lst (by wtm_at "sq")) ?_) | ((with_reducible refine g_tyv ?_); refine and_tyv (by wtm_at "sq") ?_) | ((with_reducible refine g_asq ?_); refine and_sq (by wtm_at "sq") ?_) | ((with_reducible refine g_lst ?_); refine ex_lst (by wtm_at "hp") ?_) | ((with_reducible refine g_or ?_); first | (refine ex_or (by wtm_at "sq") ?_) | (refine ex_ort (by wtm_at "sq") ?_)) | ((with_reducible refine g_sq ?_); refine ex_sq (by wtm_at "sq") ?_) | ((with_reducible refine g_sqt ?_); refine ex_sqt (by wtm_at "sq") ?_) | ((with_reducible refine gd_sel ?_); first | (refine sel_p (by wtm_at "pf") ?_) | (refine sel_n (by wtm_at "pf") ?_)) | ((with_reducible refine gn_sel ?_); first | (refine selN_p (by wtm_at "pf") ?_) | (refine selN_n (by wtm_at "pf") ?_)) | ((with_reducible refine gd_selT ?_); first | (refine selT_p (by wtm_at "pf") ?_) | (refine selT_n (by wtm_at "pf") ?_)) | ((with_reducible refine gn_selT ?_); first | (refine selTN_p (by wtm_at "pf") ?_) | (refine selTN_n (by wtm_at "pf") ?_)) | ((with_reducible refine gd_selE ?_); first | (refine selE_p (by wtm_at "pf") ?_) | (refine selE_n (by wtm_at "pf") ?_)) | ((with_reducible refine gn_selE ?_); first | (refine selEN_p (by wtm_at "pf") ?_) | (refine selEN_n (by wtm_at "pf") ?_)) | ((with_reducible refine g_xf ?_); refine xf_at rfl (by wtm_at "hp") ?_) | ((with_reducible refine g_atI ?_); refine ex_at (by first | exact rfl | exact atI_int (by omega) (by wtm_at "pf") | exact atI_end (by wtm_at "pf")) ?_) | ((with_reducible refine g_and ?_); refine And.intro (by wtm_at "cl") ?_) | ((with_reducible refine g_new ?_); intro _ _))
local macro_rules | `(tactic| wtm_at "go") => `(tactic| repeat (first | wtm_at "xs" | wtm_at "st"))
local macro_rules | `(tactic| wtm_at "xo") => `(tactic| simp only [x_next, x_seq, x_brk, x_cont, x_drop, x_ret, x_retN, x_if, sel_t, sel_f, selE_t, selE_f, selT_t, selT_f, selC_t, selC_f, x_test, x_tB, x_op, x_un, x_var, x_c, x_cb, x_nil, x_cons, x_rI, x_rI0, x_rU, x_rEq, x_rNe, x_rIxL, x_rIxT, n_rSlL, n_rCat, n_rRep, n_rApp, x_bm, x_bm0, x_sl, x_nopart, x_part, n_tup, n_lst, x_call, x_callS, x_asg, x_gname, x_gtup, x_gnil, x_gcons, x_gsub, n_setL, x_aug, x_ipI, x_ipC, x_bits, x_getL, x_augS, x_and, x_or, x_not, x_k, x_andV, x_orV, x_notV, x_ife, x_chain, x_for, x_ilist, x_itup, x_ienum, x_irng1, x_irng2, x_irev, x_lc, x_yes, wipe_nil, wipe_cons, List.map_cons, List.map_nil, x_misc, x_misc2, x_rz, lookup_at, Bool.not_true, Bool.not_false, decide_true, decide_false, not_true, not_false_eq_true, and_assoc, exists_and_left, exists_eq_left', exists_eq_left, exists_eq', exists_eq_right', exists_eq_right, V.int.injEq, V.ref.injEq, V.bl.injEq, V.str.injEq, List.cons.injEq, and_true, true_and, and_self, Option.some.injEq, List.cons_append, List.nil_append, List.append_nil, List.getElem?_cons_zero, List.getElem?_cons_succ, List.set_cons_zero, List.set_cons_succ, reduceCtorEq, false_and, and_false, exists_false, exists_const, or_false, false_or, scal_ii, scal_bb, scal_ss, List.length_cons, List.length_nil, Int.reduceToNat, Int.reducePow, n_fld, n_dnew, n_dput, n_din, n_dget, n_dget2, n_glst, n_sfld, n_aug, n_meth, n_mw, n_make, n_kw, n_rLs, n_dcp, n_ext, n_revL, n_rTp, t_im, ints_rev, t_s1, t_i1, t_i2, t_i3, t_i4, t_i5, x_chain3, x_irng3, x_irevR, x_rg1, x_rg2, ints_cat, ints_app1, ints_len, ints_take, ints_drop, rep_one])
local macro_rules | `(tactic| k_call_by "xo" $h:term) => `(tactic| simp only [$h:term, x_next, x_seq, x_brk, x_cont, x_drop, x_ret, x_retN, x_if, sel_t, sel_f, selE_t, selE_f, selT_t, selT_f, selC_t, selC_f, x_test, x_tB, x_op, x_un, x_var, x_c, x_cb, x_nil, x_cons, x_rI, x_rI0, x_rU, x_rEq, x_rNe, x_rIxL, x_rIxT, n_rSlL, n_rCat, n_rRep, n_rApp, x_bm, x_bm0, x_sl, x_nopart, x_part, n_tup, n_lst, x_call, x_callS, x_asg, x_gname, x_gtup, x_gnil, x_gcons, x_gsub, n_setL, x_aug, x_ipI, x_ipC, x_bits, x_getL, x_augS, x_and, x_or, x_not, x_k, x_andV, x_orV, x_notV, x_ife, x_chain, x_for, x_ilist, x_itup, x_ienum, x_irng1, x_irng2, x_irev, x_lc, x_yes, wipe_nil, wipe_cons, List.map_cons, List.map_nil, x_misc, x_misc2, x_rz, lookup_at, Bool.not_true, Bool.not_false, decide_true, decide_false, not_true, not_false_eq_true, and_assoc, exists_and_left, exists_eq_left', exists_eq_left, exists_eq', exists_eq_right', exists_eq_right, V.int.injEq, V.ref.injEq, V.bl.injEq, V.str.injEq, List.cons.injEq, and_true, true_and, and_self, Option.some.injEq, List.cons_append, List.nil_append, List.append_nil, List.getElem?_cons_zero, List.getElem?_cons_succ, List.set_cons_zero, List.set_cons_succ, reduceCtorEq, false_and, and_false, exists_false, exists_const, or_false, false_or, scal_ii, scal_bb, scal_ss, List.length_cons, List.length_nil, Int.reduceToNat, Int.reducePow, n_fld, n_dnew, n_dput, n_din, n_dget, n_dget2, n_glst, n_sfld, n_aug, n_meth, n_mw, n_make, n_kw, n_rLs, n_dcp, n_ext, n_revL, n_rTp, t_im, ints_rev, t_s1, t_i1, t_i2, t_i3, t_i4, t_i5, x_chain3, x_irng3, x_irevR, x_rg1, x_rg2, ints_cat, ints_app1, ints_len, ints_take, ints_drop, rep_one])
local macro_rules | `(tactic| wtm_at "mem") => `(tactic| first | (with_reducible exact mem_here) | (with_reducible refine mem_there ?_; wtm_at "mem"))
local macro_rules | `(tactic| wtm_at "pp") => `(tactic| first | (with_reducible exact Put.here) | (with_reducible apply Put.there; wtm_at "pp"))
local macro_rules | `(tactic| wtm_at "ho") => `(tactic| first | (with_reducible assumption) | exact Own.get (by with_reducible assumption) (by wtm_at "mem") | exact Own.base (by with_reducible assumption) (by with_reducible assumption))
local macro_rules | `(tactic| wtm_at "qo") => `(tactic| first | (with_reducible assumption) | exact SqL.of (by wtm_at "ho") | exact sqT_tupI (by wtm_at "ho") | exact sqT_tupS (by wtm_at "ho") | exact SqT.of (by wtm_at "ho") | exact Own.imT (by with_reducible assumption) (by wtm_at "mem") | exact Own.sq (by with_reducible assumption) (by with_reducible assumption) | exact Own.sqT (by with_reducible assumption) (by with_reducible assumption))
local macro_rules | `(tactic| wtm_at "sub") => `(tactic| first | exact List.nil_sublist _ | (with_reducible refine List.Sublist.cons_cons _ ?_; wtm_at "sub") | (refine List.Sublist.cons _ ?_; wtm_at "sub"))
local macro_rules | `(tactic| wtm_at "co") => `(tactic| first | (with_reducible assumption) | omega | (exact cmul_r (by omega) (by omega)) | (exact cmul_l (by omega) (by omega)) | (exact cdiv_ok (by omega) (by omega)) | (exact cpow_ok (by decide)) | (exact ⟨by omega, by omega, by omega⟩) | decide | (exact ⟨by omega, by omega⟩) | (simp only [List.length_append, List.length_map, List.length_set, List.length_cons, List.length_nil, rngL_len, sizeLine_eq]; omega) | wtm_at "ho" | wtm_at "qo")
local macro_rules | `(tactic| wtm_at "so") => `(tactic| first | ((with_reducible refine g_dcp ?_); refine dcpI (by wtm_at "ho") ?_) | ((with_reducible refine g_asl ?_); refine And.intro (by rfl) ?_) | ((with_reducible refine g_asqT ?_); refine and_sqT (by wtm_at "qo") ?_) | ((with_reducible refine g_extO ?_); first | (refine extI (by with_reducible assumption) (by wtm_at "pp") (by wtm_at "co") (fun _ _ => ?_)) | (refine extO (by with_reducible assumption) (by wtm_at "pp") (by wtm_at "co") (fun _ _ => ?_))) | ((with_reducible refine g_tp ?_); first | (refine tp_l (by wtm_at "qo") ?_) | (refine tp_t (by wtm_at "qo") ?_)) | ((with_reducible refine g_dputO ?_); refine dputI (by with_reducible assumption) (by wtm_at "pp") (by wtm_at "co") (fun _ _ => ?_)) | ((with_reducible refine g_dinO ?_); refine dinI (by wtm_at "ho") ?_) | ((with_reducible refine g_isDO ?_); refine isDO (by wtm_at "ho") ?_) | ((with_reducible refine g_dg2 ?_); refine dg2I (by wtm_at "ho") ?_) | ((with_reducible refine g_fldO ?_); refine fldO (by wtm_at "ho") (by with_reducible assumption) (by wtm_at "mem") (by wtm_at "lk") ?_) | ((with_reducible refine g_fldC ?_); refine fldC (by wtm_at "ho") (by with_reducible assumption) (by wtm_at "mem") (by wtm_at "lk") ?_) | ((with_reducible refine g_putC ?_); refine putC (by with_reducible assumption) (by wtm_at "pp") (by wtm_at "pu") (by wtm_at "co") (fun _ _ => ?_)) | ((with_reducible refine g_stoO ?_); refine stoO (by with_reducible assumption) (by wtm_at "pp") (by wtm_at "pu") (by with_reducible assumption) (by wtm_at "mem") (by wtm_at "co") (fun _ _ => ?_)) | ((with_reducible refine g_metO ?_); refine metO (by wtm_at "ho") (by wtm_at "ln") ?_) | ((with_reducible refine g_makO ?_); refine makO (by with_reducible assumption) (fun _ _ _ _ => ?_)) | ((with_reducible refine g_sum ?_); refine sum_call (by wtm_at "qo") ?_) | ((with_reducible refine g_cq ?_); exact cq (by with_reducible assumption) (by simp only [rngL_len, List.length_map, List.length_take]; omega)) | ((with_reducible refine g_newO ?_); refine newO (by with_reducible assumption) (fun _ _ _ => ?_)) | ((with_reducible refine g_appO ?_); refine appI (by with_reducible assumption) (by wtm_at "pp") (by wtm_at "co") (fun _ _ => ?_)) | ((with_reducible refine g_setO ?_); refine setI (by with_reducible assumption) (by wtm_at "pp") (by omega) (by wtm_at "co") (fun _ _ => ?_)) | ((with_reducible refine g_appO ?_); refine appO (by with_reducible assumption) (by wtm_at "pp") (by wtm_at "co") (fun _ _ => ?_)) | ((with_reducible refine g_setO ?_); refine setO (by with_reducible assumption) (by wtm_at "pp") (by omega) (by wtm_at "co") (fun _ _ => ?_)) | ((with_reducible refine g_at ?_); refine at_call (by wtm_at "qo") (by omega) (by omega) (fun _ _ => ?_)) | ((with_reducible refine g_int ?_); refine int_call ?_) | ((with_reducible refine g_isi ?_); first | (with_reducible refine isi_ii ?_) | (with_reducible refine isi_ib ?_) | (refine isi_int rfl ?_) | (refine isi_sqL rfl (by wtm_at "qo") ?_) | (refine isi_sqT rfl (by wtm_at "qo") ?_) | (refine isi_bl rfl ?_) | (refine isi_non rfl ?_) | (refine isi_str rfl ?_)) | ((with_reducible refine g_ned ?_); first | (refine ned_f (dq_lst (by wtm_at "qo")) (dq_lst (by wtm_at "qo")) ?_) | (refine ned_ints (by wtm_at "qo") (by wtm_at "qo") ?_) | (refine nedT_ints (by wtm_at "qo") (by wtm_at "qo") ?_)) | ((with_reducible refine g_eqd ?_); first | (refine eqd_t (dq_lst (by wtm_at "qo")) (dq_lst (by wtm_at "qo")) ?_) | (refine eqd_ints (by wtm_at "qo") (by wtm_at "qo") ?_) | (refine eqdT_ints (by wtm_at "qo") (by wtm_at "qo") ?_)) | ((with_reducible refine g_tyv ?_); refine and_tyv (by wtm_at "qo") ?_) | ((with_reducible refine g_asq ?_); refine and_sq (by wtm_at "qo") ?_) | ((with_reducible refine g_lst ?_); refine ex_lst (by wtm_at "ho") ?_) | ((with_reducible refine g_or ?_); first | (refine ex_or (by wtm_at "qo") ?_) | (refine ex_ort (by wtm_at "qo") ?_)) | ((with_reducible refine g_sq ?_); refine ex_sq (by wtm_at "qo") ?_) | ((with_reducible refine g_sqt ?_); refine ex_sqt (by wtm_at "qo") ?_) | ((with_reducible refine gd_sel ?_); first | (refine sel_p (by wtm_at "pf") ?_) | (refine sel_n (by wtm_at "pf") ?_)) | ((with_reducible refine gn_sel ?_); first | (refine selN_p (by wtm_at "pf") ?_) | (refine selN_n (by wtm_at "pf") ?_)) | ((with_reducible refine gd_selT ?_); first | (refine selT_p (by wtm_at "pf") ?_) | (refine selT_n (by wtm_at "pf") ?_)) | ((with_reducible refine gn_selT ?_); first | (refine selTN_p (by wtm_at "pf") ?_) | (refine selTN_n (by wtm_at "pf") ?_)) | ((with_reducible refine gd_selE ?_); first | (refine selE_p (by wtm_at "pf") ?_) | (refine selE_n (by wtm_at "pf") ?_)) | ((with_reducible refine gn_selE ?_); first | (refine selEN_p (by wtm_at "pf") ?_) | (refine selEN_n (by wtm_at "pf") ?_)) | ((with_reducible refine g_xf ?_); refine xf_at rfl (by wtm_at "ho") ?_) | ((with_reducible refine g_atI ?_); refine ex_at (by first | exact rfl | exact atI_int (by omega) (by wtm_at "pf") | exact atI_end (by wtm_at "pf")) ?_) | ((with_reducible refine g_and ?_); refine And.intro (by wtm_at "co") ?_))
local macro_rules | `(tactic| wtm_at "oo") => `(tactic| repeat (first | wtm_at "xo" | wtm_at "so"))
local macro_rules | `(tactic| wtm_at "cR") => `(tactic| (refine' compRi _ (by with_reducible assumption) (by omega) (fun _ _ _ _ _ => ?_) (fun _ _ _ => ?_); rotate_left; focus (wtm_at "oo")))

local macro_rules | `(tactic| wtm_at "lk") => `(tactic| first | (with_reducible exact lk_here) | (simp only [lk_here, lk_skip, lk_nil, nb_0_0, nb_0_1, nb_0_2, nb_0_3, nb_0_4, nb_0_5, nb_0_6, nb_0_7, nb_1_1, nb_1_2, nb_1_3, nb_1_4, nb_1_5, nb_1_6, nb_1_7, nb_2_0, nb_2_2, nb_2_3, nb_2_4, nb_2_5, nb_2_6, nb_2_7, nb_3_0, nb_3_1, nb_3_2, nb_3_3, nb_3_4, nb_3_5, nb_3_6, nb_3_7, nb_4_0, nb_4_1, nb_4_2, nb_4_3, nb_4_4, nb_4_5, nb_4_6, nb_4_7, nb_5_0, nb_5_1, nb_5_3, nb_5_4, nb_5_5, nb_5_6, nb_5_7, nb_6_0, nb_6_1, nb_6_2, nb_6_3, nb_6_4, nb_6_5, nb_6_6, nb_6_7, nb_7_0, nb_7_1, nb_7_2, nb_7_4, nb_7_5, nb_7_6, nb_7_7, nb_8_0, nb_8_1, nb_8_2, nb_8_3, nb_8_4, nb_8_5, nb_8_6, nb_8_7, nb_9_0, nb_9_1, nb_9_2, nb_9_3, nb_9_4, nb_9_5, nb_9_6, nb_9_7, nb_10_0, nb_10_1, nb_10_2, nb_10_3, nb_10_5, nb_10_6, nb_10_7, nb_11_0, nb_11_1, nb_11_2, nb_11_3, nb_11_4, nb_11_6, nb_11_7, nb_12_0, nb_12_1, nb_12_2, nb_12_3, nb_12_4, nb_12_5, nb_12_7, nb_13_0, nb_13_1, nb_13_2, nb_13_3, nb_13_4, nb_13_5, nb_13_6, nb_13_7, nb_14_0, nb_14_1, nb_14_2, nb_14_3, nb_14_4, nb_14_5, nb_14_6, nb_15_0, nb_15_1, nb_15_2, nb_15_3, nb_15_4, nb_15_5, nb_15_6, nb_15_7, nb_16_0, nb_16_1, nb_16_2, nb_16_3, nb_16_4, nb_16_5, nb_16_6, nb_16_7, nb_17_0, nb_17_1, nb_17_2, nb_17_3, nb_17_4, nb_17_5, nb_17_6, nb_17_7, nb_18_0, nb_18_1, nb_18_2, nb_18_3, nb_18_4, nb_18_5, nb_18_6, nb_18_7, nb_19_0, nb_19_1, nb_19_2, nb_19_3, nb_19_4, nb_19_5, nb_19_6, nb_19_7, nb_20_0, nb_20_1, nb_20_2, nb_20_3, nb_20_4, nb_20_5, nb_20_6, nb_20_7, nb_21_0, nb_21_1, nb_21_2, nb_21_3, nb_21_4, nb_21_5, nb_21_6, nb_21_7, nb_22_0, nb_22_1, nb_22_2, nb_22_3, nb_22_4, nb_22_5, nb_22_6, nb_22_7, nb_23_0, nb_23_1, nb_23_2, nb_23_3, nb_23_4, nb_23_5, nb_23_6, nb_23_7, nb_24_0, nb_24_1, nb_24_2, nb_24_3, nb_24_4, nb_24_5, nb_24_6, nb_24_7, nb_25_0, nb_25_1, nb_25_2, nb_25_3, nb_25_4, nb_25_5, nb_25_6, nb_25_7, nb_26_0, nb_26_1, nb_26_2, nb_26_3, nb_26_4, nb_26_5, nb_26_6, nb_26_7]; first | done | exact rfl))
local macro_rules | `(tactic| wtm_at "ln") => `(tactic| first | (with_reducible exact lk_nil) | (simp only [lk_skip, lk_nil, nb_0_0, nb_0_1, nb_0_2, nb_0_3, nb_0_4, nb_0_5, nb_0_6, nb_0_7, nb_1_1, nb_1_2, nb_1_3, nb_1_4, nb_1_5, nb_1_6, nb_1_7, nb_2_0, nb_2_2, nb_2_3, nb_2_4, nb_2_5, nb_2_6, nb_2_7, nb_3_0, nb_3_1, nb_3_2, nb_3_3, nb_3_4, nb_3_5, nb_3_6, nb_3_7, nb_4_0, nb_4_1, nb_4_2, nb_4_3, nb_4_4, nb_4_5, nb_4_6, nb_4_7, nb_5_0, nb_5_1, nb_5_3, nb_5_4, nb_5_5, nb_5_6, nb_5_7, nb_6_0, nb_6_1, nb_6_2, nb_6_3, nb_6_4, nb_6_5, nb_6_6, nb_6_7, nb_7_0, nb_7_1, nb_7_2, nb_7_4, nb_7_5, nb_7_6, nb_7_7, nb_8_0, nb_8_1, nb_8_2, nb_8_3, nb_8_4, nb_8_5, nb_8_6, nb_8_7, nb_9_0, nb_9_1, nb_9_2, nb_9_3, nb_9_4, nb_9_5, nb_9_6, nb_9_7, nb_10_0, nb_10_1, nb_10_2, nb_10_3, nb_10_5, nb_10_6, nb_10_7, nb_11_0, nb_11_1, nb_11_2, nb_11_3, nb_11_4, nb_11_6, nb_11_7, nb_12_0, nb_12_1, nb_12_2, nb_12_3, nb_12_4, nb_12_5, nb_12_7, nb_13_0, nb_13_1, nb_13_2, nb_13_3, nb_13_4, nb_13_5, nb_13_6, nb_13_7, nb_14_0, nb_14_1, nb_14_2, nb_14_3, nb_14_4, nb_14_5, nb_14_6, nb_15_0, nb_15_1, nb_15_2, nb_15_3, nb_15_4, nb_15_5, nb_15_6, nb_15_7, nb_16_0, nb_16_1, nb_16_2, nb_16_3, nb_16_4, nb_16_5, nb_16_6, nb_16_7, nb_17_0, nb_17_1, nb_17_2, nb_17_3, nb_17_4, nb_17_5, nb_17_6, nb_17_7, nb_18_0, nb_18_1, nb_18_2, nb_18_3, nb_18_4, nb_18_5, nb_18_6, nb_18_7, nb_19_0, nb_19_1, nb_19_2, nb_19_3, nb_19_4, nb_19_5, nb_19_6, nb_19_7, nb_20_0, nb_20_1, nb_20_2, nb_20_3, nb_20_4, nb_20_5, nb_20_6, nb_20_7, nb_21_0, nb_21_1, nb_21_2, nb_21_3, nb_21_4, nb_21_5, nb_21_6, nb_21_7, nb_22_0, nb_22_1, nb_22_2, nb_22_3, nb_22_4, nb_22_5, nb_22_6, nb_22_7, nb_23_0, nb_23_1, nb_23_2, nb_23_3, nb_23_4, nb_23_5, nb_23_6, nb_23_7, nb_24_0, nb_24_1, nb_24_2, nb_24_3, nb_24_4, nb_24_5, nb_24_6, nb_24_7, nb_25_0, nb_25_1, nb_25_2, nb_25_3, nb_25_4, nb_25_5, nb_25_6, nb_25_7, nb_26_0, nb_26_1, nb_26_2, nb_26_3, nb_26_4, nb_26_5, nb_26_6, nb_26_7]; done))
local macro_rules | `(tactic| wtm_at "pu") => `(tactic| first | (with_reducible exact pf_nil) | (simp only [pf_nil, pf_here, pf_skip, nb_0_0, nb_0_1, nb_0_2, nb_0_3, nb_0_4, nb_0_5, nb_0_6, nb_0_7, nb_1_1, nb_1_2, nb_1_3, nb_1_4, nb_1_5, nb_1_6, nb_1_7, nb_2_0, nb_2_2, nb_2_3, nb_2_4, nb_2_5, nb_2_6, nb_2_7, nb_3_0, nb_3_1, nb_3_2, nb_3_3, nb_3_4, nb_3_5, nb_3_6, nb_3_7, nb_4_0, nb_4_1, nb_4_2, nb_4_3, nb_4_4, nb_4_5, nb_4_6, nb_4_7, nb_5_0, nb_5_1, nb_5_3, nb_5_4, nb_5_5, nb_5_6, nb_5_7, nb_6_0, nb_6_1, nb_6_2, nb_6_3, nb_6_4, nb_6_5, nb_6_6, nb_6_7, nb_7_0, nb_7_1, nb_7_2, nb_7_4, nb_7_5, nb_7_6, nb_7_7, nb_8_0, nb_8_1, nb_8_2, nb_8_3, nb_8_4, nb_8_5, nb_8_6, nb_8_7, nb_9_0, nb_9_1, nb_9_2, nb_9_3, nb_9_4, nb_9_5, nb_9_6, nb_9_7, nb_10_0, nb_10_1, nb_10_2, nb_10_3, nb_10_5, nb_10_6, nb_10_7, nb_11_0, nb_11_1, nb_11_2, nb_11_3, nb_11_4, nb_11_6, nb_11_7, nb_12_0, nb_12_1, nb_12_2, nb_12_3, nb_12_4, nb_12_5, nb_12_7, nb_13_0, nb_13_1, nb_13_2, nb_13_3, nb_13_4, nb_13_5, nb_13_6, nb_13_7, nb_14_0, nb_14_1, nb_14_2, nb_14_3, nb_14_4, nb_14_5, nb_14_6, nb_15_0, nb_15_1, nb_15_2, nb_15_3, nb_15_4, nb_15_5, nb_15_6, nb_15_7, nb_16_0, nb_16_1, nb_16_2, nb_16_3, nb_16_4, nb_16_5, nb_16_6, nb_16_7, nb_17_0, nb_17_1, nb_17_2, nb_17_3, nb_17_4, nb_17_5, nb_17_6, nb_17_7, nb_18_0, nb_18_1, nb_18_2, nb_18_3, nb_18_4, nb_18_5, nb_18_6, nb_18_7, nb_19_0, nb_19_1, nb_19_2, nb_19_3, nb_19_4, nb_19_5, nb_19_6, nb_19_7, nb_20_0, nb_20_1, nb_20_2, nb_20_3, nb_20_4, nb_20_5, nb_20_6, nb_20_7, nb_21_0, nb_21_1, nb_21_2, nb_21_3, nb_21_4, nb_21_5, nb_21_6, nb_21_7, nb_22_0, nb_22_1, nb_22_2, nb_22_3, nb_22_4, nb_22_5, nb_22_6, nb_22_7, nb_23_0, nb_23_1, nb_23_2, nb_23_3, nb_23_4, nb_23_5, nb_23_6, nb_23_7, nb_24_0, nb_24_1, nb_24_2, nb_24_3, nb_24_4, nb_24_5, nb_24_6, nb_24_7, nb_25_0, nb_25_1, nb_25_2, nb_25_3, nb_25_4, nb_25_5, nb_25_6, nb_25_7, nb_26_0, nb_26_1, nb_26_2, nb_26_3, nb_26_4, nb_26_5, nb_26_6, nb_26_7]; first | done | exact rfl))
local macro_rules | `(tactic| wtm_at "tk") => `(tactic| first | (with_reducible exact Take.here) | (exact Take.here) | ((with_reducible apply Take.there); wtm_at "tk"))
local macro_rules | `(tactic| wtm_at "pk") => `(tactic| first | exact Pick.nil | ((with_reducible refine' Pick.cons ?tk1 ?pk1); (case tk1 => wtm_at "tk"); (case pk1 => wtm_at "pk")) | ((with_reducible refine Pick.im (by wtm_at "mem") ?_); wtm_at "pk") | ((with_reducible refine Pick.ims (by wtm_at "mem") ?_); wtm_at "pk"))
section
variable {P : Program} {w : World} {K : PySem.W.Frag} {mg : Str → Option Value} {base : Heap}
/-- the numbers that the parser's laws draw -/
structure NmOk (m : Nm) : Prop where
  way : m.way = Str.ofString "stored" ∨ m.way = Str.ofString "greedy" ∨ m.way = Str.ofString "waiting"
  ch : 1 ≤ m.chain
  ni : 3 ≤ m.nice
  pa : 3 ≤ m.pat
  go : 0 ≤ m.good
def sp__law_numbers (K : PySem.W.Frag) : Sp := fun vs H Q _ => ∃ (a : Addr) (ds : List Int) (f : Int), vs = [.ref a, .int f] ∧ SqL K H a (ds.map V.int) ∧ 0 ≤ f ∧
  ∀ m t H', NmOk m → Own K H H' [.im (.ref t) (nmD m)] → Q (.ref t) H'
theorem ok__law_numbers (T : Tx K mg) : Cl P w K mg base 2 "_law_numbers" ["draws", "first"] (sp__law_numbers K) [] := by
  obtain ⟨gm, fd, F⟩ := T.d__law_numbers
  refine ⟨_, fd, [], F.ok sc__law_numbers (fun vs H Q E h => ?_) (fun cdv A outer s H vs Q E hr h => ⟨_, (PSs.nox (pss_cons (ps_set (i := 2) sc__law_numbers.nd rfl (Or.inl rfl) (by exact (pe_ix (ixl K) (pe_lst (pa_cons pe_str (pa_cons pe_str (pa_cons pe_str (pa_cons pe_str pa_nil))))) (pe_cl (ok__law_at T) (hr.mono (by decide)) rfl (pa_cons (pv 0) (pa_cons (pv 1) (pa_cons pe_int pa_nil)))) (fun _ _ => rfl))))
 (pss_cons (ps_set (i := 3) sc__law_numbers.nd rfl (Or.inl rfl) (by exact (pe_op op_add pe_int (pe_cl (ok__law_at T) (hr.mono (by decide)) rfl (pa_cons (pv 0) (pa_cons (pe_op op_add (pv 1) pe_int) (pa_cons pe_int pa_nil)))))))
 (pss_cons (ps_set (i := 4) sc__law_numbers.nd rfl (Or.inl rfl) (by exact (pe_op op_add pe_int (pe_cl (ok__law_at T) (hr.mono (by decide)) rfl (pa_cons (pv 0) (pa_cons (pe_op op_add (pv 1) pe_int) (pa_cons pe_int pa_nil)))))))
 (pss_cons (ps_set (i := 5) sc__law_numbers.nd rfl (Or.inl rfl) (by exact (pe_op op_add pe_int (pe_cl (ok__law_at T) (hr.mono (by decide)) rfl (pa_cons (pv 0) (pa_cons (pe_op op_add (pv 1) pe_int) (pa_cons pe_int pa_nil)))))))
 (pss_cons (ps_set (i := 6) sc__law_numbers.nd rfl (Or.inl rfl) (by exact (pe_cl (ok__law_at T) (hr.mono (by decide)) rfl (pa_cons (pv 0) (pa_cons (pe_op op_add (pv 1) pe_int) (pa_cons pe_int pa_nil))))))
 (pss_cons (ps_if (pt_cmpR op_eq (pe_cl (ok__law_at T) (hr.mono (by decide)) rfl (pa_cons (pv 0) (pa_cons (pe_op op_add (pv 1) pe_int) (pa_cons pe_int pa_nil)))) pe_int (nomark _))
 (pss_one (ps_set (i := 3) sc__law_numbers.nd rfl (Or.inl rfl) (by exact pe_int)))
 pss_nil)
 (pss_cons (ps_if (pt_cmpR op_eq (pe_cl (ok__law_at T) (hr.mono (by decide)) rfl (pa_cons (pv 0) (pa_cons (pe_op op_add (pv 1) pe_int) (pa_cons pe_int pa_nil)))) pe_int (nomark _))
 (pss_one (ps_set (i := 4) sc__law_numbers.nd rfl (Or.inl rfl) (by exact pe_int)))
 pss_nil)
 (pss_cons (ps_if (pt_cmpR op_eq (pe_cl (ok__law_at T) (hr.mono (by decide)) rfl (pa_cons (pv 0) (pa_cons (pe_op op_add (pv 1) pe_int) (pa_cons pe_int pa_nil)))) pe_int (nomark _))
 (pss_one (ps_set (i := 5) sc__law_numbers.nd rfl (Or.inl rfl) (by exact pe_int)))
 pss_nil)
 (pss_one (ps_ret (by exact (pe_tup (pa_cons (pv 2) (pa_cons (pv 3) (pa_cons (pv 4) (pa_cons (pv 5) (pa_cons (pv 6) pa_nil)))))))))))))))))), ?_⟩), gm, F.kp, F.bindsN (fun _ _ _ _ _ _ us hl => match us, hl with | [_, _], _ => rfl), .nil⟩
  · first | (obtain ⟨rfl, _⟩ := h; rfl) | (obtain ⟨_, rfl, _⟩ := h; rfl) | (obtain ⟨_, _, rfl, _⟩ := h; rfl) | (obtain ⟨_, _, _, rfl, _⟩ := h; rfl) | (obtain ⟨_, _, _, _, rfl, _⟩ := h; rfl) | (obtain ⟨_, _, _, _, _, rfl, _⟩ := h; rfl) | (obtain ⟨_, _, _, _, _, _, rfl, _⟩ := h; rfl) | (obtain ⟨_, _, _, _, _, _, _, rfl, _⟩ := h; rfl) | (obtain ⟨_, _, _, _, _, _, _, _, rfl, _⟩ := h; rfl) | (obtain ⟨_, _, _, _, _, _, _, _, _, rfl, _⟩ := h; rfl) | (obtain ⟨_, _, _, _, _, _, _, _, _, _, rfl, _⟩ := h; rfl) | (obtain ⟨_, _, _, _, _, _, _, _, _, _, _, rfl, _⟩ := h; rfl) | (obtain ⟨_, _, _, _, _, _, _, _, _, _, _, _, rfl, _⟩ := h; rfl) | (obtain ⟨_, _, _, _, _, _, _, _, _, _, _, _, _, rfl, _⟩ := h; rfl) | (obtain ⟨_, _, _, _, _, _, _, _, _, _, _, _, _, _, rfl, _⟩ := h; rfl) | (obtain ⟨_, _, _, _, _, _, _, _, _, _, _, _, _, _, _, rfl, _⟩ := h; rfl) | (obtain ⟨_, _, _, _, _, _, _, _, _, _, _, _, _, _, _, _, rfl, _⟩ := h; rfl) | (obtain ⟨_, _, _, _, _, _, _, _, _, _, _, _, _, _, _, _, _, rfl, _⟩ := h; rfl) | (obtain ⟨_, _, _, _, _, _, _, _, _, _, _, _, _, _, _, _, _, _, rfl, _⟩ := h; rfl) | (obtain ⟨_, _, _, _, _, _, _, _, _, _, _, _, _, _, _, _, _, _, _, rfl, _⟩ := h; rfl) | (obtain ⟨_, _, _, _, _, _, _, _, _, _, _, _, _, _, _, _, _, _, _, _, rfl, _⟩ := h; rfl) | (obtain ⟨_, _, _, _, _, _, _, _, _, _, _, _, _, _, _, _, _, _, _, _, _, rfl, _⟩ := h; rfl)
  · obtain ⟨a, ds, f, rfl, hS, hf, q⟩ := h
    k_call_by "xo" st__law_numbers
    have L := Own.start (K := K) (H := H)
    wtm_at "oo"
    rename_i u0 u1
    have key : ∀ i : Int, 0 ≤ i → i < 4 → ∃ s, (s = Str.ofString "stored" ∨ s = Str.ofString "greedy" ∨ s = Str.ofString "waiting") ∧ atI [V.str (Str.ofString "stored"), V.str (Str.ofString "greedy"), V.str (Str.ofString "waiting"), V.str (Str.ofString "waiting")] i = some (.str s) := by
      intro i h0 h4
      have hi : i = 0 ∨ i = 1 ∨ i = 2 ∨ i = 3 := by omega
      rcases hi with rfl | rfl | rfl | rfl
      · exact ⟨_, .inl rfl, rfl⟩
      · exact ⟨_, .inr (.inl rfl), rfl⟩
      · exact ⟨_, .inr (.inr rfl), rfl⟩
      · exact ⟨_, .inr (.inr rfl), rfl⟩
    obtain ⟨wy, hw, ew⟩ := key _ u0 u1
    refine ⟨_, ew, ?_⟩
    wtm_at "oo"
    rename_i c0 c1 n0 n1 p0 p1 g0 g1 r0 r1
    clear r0 r1
    generalize atD ds (f + 1) 8 = ch at *
    generalize atD ds (f + 2) 20 = ni at *
    generalize atD ds (f + 3) 20 = pa at *
    generalize atD ds (f + 4) 10 = go at *
    refine sel_d (fun _ => ?_) (fun _ => ?_)
    all_goals
      wtm_at "oo"
      refine sel_d (fun _ => ?_) (fun _ => ?_)
    all_goals
      wtm_at "oo"
      refine sel_d (fun _ => ?_) (fun _ => ?_)
    all_goals
      wtm_at "oo"
      rename_i t H2 L2
      refine q ⟨wy, _, _, _, _⟩ t H2 ?_ ((L2.addIm (nm_imm (m := ⟨wy, _, _, _, _⟩) (by unfold nmV; exact SqT.of (L2.get mem_here)))).pick (by wtm_at "pk"))
      constructor <;> first | exact hw | (dsimp only; omega)


end
end K52

namespace K52
open PySem PySem.Spec PyProof.Rows L2 Bel
local macro_rules | `(tactic| wtm_at "xs") => `(tactic| simp only [x_next, x_seq, x_brk, x_cont, x_drop, x_ret, x_retN, x_if, sel_t, sel_f, selE_t, selE_f, selT_t, selT_f, selC_t, selC_f, x_test, x_tB, x_op, x_un, x_var, x_c, x_cb, x_nil, x_cons, x_rI, x_rI0, x_rU, x_rEq, x_rNe, x_rIxL, x_rIxT, x_rSlL, x_rCat, x_rRep, x_rApp, x_bm, x_bm0, x_sl, x_nopart, x_part, x_tup, x_lst, x_call, x_callS, x_asg, x_gname, x_gtup, x_gnil, x_gcons, x_gsub, x_setL, x_aug, x_ipI, x_ipC, x_bits, x_getL, x_augS, x_and, x_or, x_not, x_k, x_andV, x_orV, x_notV, x_ife, x_chain, x_for, x_ilist, x_itup, x_ienum, x_irng1, x_irng2, x_irev, x_lc, x_yes, wipe_nil, wipe_cons, List.map_cons, List.map_nil, x_misc, x_misc2, x_rz, lookup_at, Bool.not_true, Bool.not_false, decide_true, decide_false, not_true, not_false_eq_true, and_assoc, exists_and_left, exists_eq_left', exists_eq_left, exists_eq', exists_eq_right', exists_eq_right, V.int.injEq, V.ref.injEq, V.bl.injEq, V.str.injEq, List.cons.injEq, and_true, true_and, and_self, Option.some.injEq, List.cons_append, List.nil_append, List.append_nil, List.getElem?_cons_zero, List.getElem?_cons_succ, List.set_cons_zero, List.set_cons_succ, reduceCtorEq, false_and, and_false, exists_false, exists_const, or_false, false_or, scal_ii, scal_bb, scal_ss, List.length_cons, List.length_nil, Int.reduceToNat, Int.reducePow])
local macro_rules | `(tactic| k_call_by "xs" $h:term) => `(tactic| simp only [$h:term, x_next, x_seq, x_brk, x_cont, x_drop, x_ret, x_retN, x_if, sel_t, sel_f, selE_t, selE_f, selT_t, selT_f, selC_t, selC_f, x_test, x_tB, x_op, x_un, x_var, x_c, x_cb, x_nil, x_cons, x_rI, x_rI0, x_rU, x_rEq, x_rNe, x_rIxL, x_rIxT, x_rSlL, x_rCat, x_rRep, x_rApp, x_bm, x_bm0, x_sl, x_nopart, x_part, x_tup, x_lst, x_call, x_callS, x_asg, x_gname, x_gtup, x_gnil, x_gcons, x_gsub, x_setL, x_aug, x_ipI, x_ipC, x_bits, x_getL, x_augS, x_and, x_or, x_not, x_k, x_andV, x_orV, x_notV, x_ife, x_chain, x_for, x_ilist, x_itup, x_ienum, x_irng1, x_irng2, x_irev, x_lc, x_yes, wipe_nil, wipe_cons, List.map_cons, List.map_nil, x_misc, x_misc2, x_rz, lookup_at, Bool.not_true, Bool.not_false, decide_true, decide_false, not_true, not_false_eq_true, and_assoc, exists_and_left, exists_eq_left', exists_eq_left, exists_eq', exists_eq_right', exists_eq_right, V.int.injEq, V.ref.injEq, V.bl.injEq, V.str.injEq, List.cons.injEq, and_true, true_and, and_self, Option.some.injEq, List.cons_append, List.nil_append, List.append_nil, List.getElem?_cons_zero, List.getElem?_cons_succ, List.set_cons_zero, List.set_cons_succ, reduceCtorEq, false_and, and_false, exists_false, exists_const, or_false, false_or, scal_ii, scal_bb, scal_ss, List.length_cons, List.length_nil, Int.reduceToNat, Int.reducePow])
local macro_rules | `(tactic| wtm_at "hp") => `(tactic| first | (with_reducible assumption) | exact upd_same | (refine upd_keep (by with_reducible assumption) ?_; wtm_at "hp") | (refine Same.get (by with_reducible assumption) ?_; wtm_at "hp") | (refine upd_other (by first | (with_reducible assumption) | exact Ne.symm (by with_reducible assumption)) ?_; wtm_at "hp"))
local macro_rules | `(tactic| wtm_at "sq") => `(tactic| first | (with_reducible assumption) | exact SqL.of (by wtm_at "hp") | exact SqT.of (by wtm_at "hp") | (refine Same.seq (same_upd (by with_reducible assumption)) ?_; wtm_at "sq") | (refine Same.seq (by with_reducible assumption) ?_; wtm_at "sq") | (refine Same.seqT (same_upd (by with_reducible assumption)) ?_; wtm_at "sq") | (refine Same.seqT (by with_reducible assumption) ?_; wtm_at "sq"))
local macro_rules | `(tactic| wtm_at "cl") => `(tactic| first | (with_reducible assumption) | omega | (exact cmul_r (by omega) (by omega)) | (exact cmul_l (by omega) (by omega)) | (exact cdiv_ok (by omega) (by omega)) | (exact cpow_ok (by decide)) | (exact ⟨by omega, by omega, by omega⟩) | decide | (exact ⟨by omega, by omega⟩) | (simp only [List.length_append, List.length_map, List.length_set, List.length_cons, List.length_nil, rngL_len, sizeLine_eq]; omega) | wtm_at "hp" | wtm_at "sq")
local macro_rules | `(tactic| wtm_at "pf") => `(tactic| first | (with_reducible assumption) | omega | (simp only [List.length_append, List.length_map, List.length_set, List.length_cons, List.length_nil, rngL_len]; omega) | (with_reducible rfl) | (with_reducible trivial) | (with_reducible decide))
local macro_rules | `(tactic| wtm_at "st") => `(tactic| first | ((with_reducible refine g_at ?_); refine at_call (by wtm_at "sq") (by omega) (by omega) (fun _ _ => ?_)) | ((with_reducible refine g_int ?_); refine int_call ?_) | ((with_reducible refine g_isi ?_); first | (with_reducible refine isi_ii ?_) | (with_reducible refine isi_ib ?_) | (refine isi_int rfl ?_) | (refine isi_lst rfl (by wtm_at "hp") ?_) | (refine isi_tup rfl (by wtm_at "hp") ?_)) | ((with_reducible refine g_ned ?_); refine ned_f (dq_lst (by wtm_at "sq")) (dq_lst (by wtm_at "sq")) ?_) | ((with_reducible refine g_eqd ?_); refine eqd_t (dq_lst (by wtm_at "sq")) (dq_lst (by wtm_at "sq")) ?_) | ((with_reducible refine g_tyv ?_); refine and_tyv (by wtm_at "sq") ?_) | ((with_reducible refine g_asq ?_); refine and_sq (by wtm_at "sq") ?_) | ((with_reducible refine g_lst ?_); refine ex_lst (by wtm_at "hp") ?_) | ((with_reducible refine g_or ?_); first | (refine ex_or (by wtm_at "sq") ?_) | (refine ex_ort (by wtm_at "sq") ?_)) | ((with_reducible refine g_sq ?_); refine ex_sq (by wtm_at "sq") ?_) | ((with_reducible refine g_sqt ?_); refine ex_sqt (by wtm_at "sq") ?_) | ((with_reducible refine gd_sel ?_); first | (refine sel_p (by wtm_at "pf") ?_) | (refine sel_n (by wtm_at "pf") ?_)) | ((with_reducible refine gn_sel ?_); first | (refine selN_p (by wtm_at "pf") ?_) | (refine selN_n (by wtm_at "pf") ?_)) | ((with_reducible refine gd_selT ?_); first | (refine selT_p (by wtm_at "pf") ?_) | (refine selT_n (by wtm_at "pf") ?_)) | ((with_reducible refine gn_selT ?_); first | (refine selTN_p (by wtm_at "pf") ?_) | (refine selTN_n (by wtm_at "pf") ?_)) | ((with_reducible refine gd_selE ?_); first | (refine selE_p (by wtm_at "pf") ?_) | (refine selE_n (by wtm_at "pf") ?_)) | ((with_reducible refine gn_selE ?_); first | (refine selEN_p (by wtm_at "pf") ?_) | (refine selEN_n (by wtm_at "pf") ?_)) | ((with_reducible refine g_xf ?_); refine xf_at rfl (by wtm_at "hp") ?_) | ((with_reducible refine g_atI ?_); refine ex_at (by first | exact rfl | exact atI_int (by omega) (by wtm_at "pf") | exact atI_end (by wtm_at "pf")) ?_) | ((with_reducible refine g_and ?_); refine And.intro (by wtm_at "cl") ?_) | ((with_reducible refine g_new ?_); intro _ _))
local macro_rules | `(tactic| wtm_at "go") => `(tactic| repeat (first | wtm_at "xs" | wtm_at "st"))
local macro_rules | `(tactic| wtm_at "xo") => `(tactic| simp only [x_next, x_seq, x_brk, x_cont, x_drop, x_ret, x_retN, x_if, sel_t, sel_f, selE_t, selE_f, selT_t, selT_f, selC_t, selC_f, x_test, x_tB, x_op, x_un, x_var, x_c, x_cb, x_nil, x_cons, x_rI, x_rI0, x_rU, x_rEq, x_rNe, x_rIxL, x_rIxT, n_rSlL, n_rCat, n_rRep, n_rApp, x_bm, x_bm0, x_sl, x_nopart, x_part, n_tup, n_lst, x_call, x_callS, x_asg, x_gname, x_gtup, x_gnil, x_gcons, x_gsub, n_setL, x_aug, x_ipI, x_ipC, x_bits, x_getL, x_augS, x_and, x_or, x_not, x_k, x_andV, x_orV, x_notV, x_ife, x_chain, x_for, x_ilist, x_itup, x_ienum, x_irng1, x_irng2, x_irev, x_lc, x_yes, wipe_nil, wipe_cons, List.map_cons, List.map_nil, x_misc, x_misc2, x_rz, lookup_at, Bool.not_true, Bool.not_false, decide_true, decide_false, not_true, not_false_eq_true, and_assoc, exists_and_left, exists_eq_left', exists_eq_left, exists_eq', exists_eq_right', exists_eq_right, V.int.injEq, V.ref.injEq, V.bl.injEq, V.str.injEq, List.cons.injEq, and_true, true_and, and_self, Option.some.injEq, List.cons_append, List.nil_append, List.append_nil, List.getElem?_cons_zero, List.getElem?_cons_succ, List.set_cons_zero, List.set_cons_succ, reduceCtorEq, false_and, and_false, exists_false, exists_const, or_false, false_or, scal_ii, scal_bb, scal_ss, List.length_cons, List.length_nil, Int.reduceToNat, Int.reducePow, n_fld, n_dnew, n_dput, n_din, n_dget, n_dget2, n_glst, n_sfld, n_aug, n_meth, n_mw, n_make, n_kw, n_rLs, n_dcp, n_ext, n_revL, n_rTp, t_im, ints_rev, t_s1, t_i1, t_i2, t_i3, t_i4, t_i5, x_chain3, x_irng3, x_irevR, x_rg1, x_rg2, ints_cat, ints_app1, ints_len, ints_take, ints_drop, rep_one])
local macro_rules | `(tactic| k_call_by "xo" $h:term) => `(tactic| simp only [$h:term, x_next, x_seq, x_brk, x_cont, x_drop, x_ret, x_retN, x_if, sel_t, sel_f, selE_t, selE_f, selT_t, selT_f, selC_t, selC_f, x_test, x_tB, x_op, x_un, x_var, x_c, x_cb, x_nil, x_cons, x_rI, x_rI0, x_rU, x_rEq, x_rNe, x_rIxL, x_rIxT, n_rSlL, n_rCat, n_rRep, n_rApp, x_bm, x_bm0, x_sl, x_nopart, x_part, n_tup, n_lst, x_call, x_callS, x_asg, x_gname, x_gtup, x_gnil, x_gcons, x_gsub, n_setL, x_aug, x_ipI, x_ipC, x_bits, x_getL, x_augS, x_and, x_or, x_not, x_k, x_andV, x_orV, x_notV, x_ife, x_chain, x_for, x_ilist, x_itup, x_ienum, x_irng1, x_irng2, x_irev, x_lc, x_yes, wipe_nil, wipe_cons, List.map_cons, List.map_nil, x_misc, x_misc2, x_rz, lookup_at, Bool.not_true, Bool.not_false, decide_true, decide_false, not_true, not_false_eq_true, and_assoc, exists_and_left, exists_eq_left', exists_eq_left, exists_eq', exists_eq_right', exists_eq_right, V.int.injEq, V.ref.injEq, V.bl.injEq, V.str.injEq, List.cons.injEq, and_true, true_and, and_self, Option.some.injEq, List.cons_append, List.nil_append, List.append_nil, List.getElem?_cons_zero, List.getElem?_cons_succ, List.set_cons_zero, List.set_cons_succ, reduceCtorEq, false_and, and_false, exists_false, exists_const, or_false, false_or, scal_ii, scal_bb, scal_ss, List.length_cons, List.length_nil, Int.reduceToNat, Int.reducePow, n_fld, n_dnew, n_dput, n_din, n_dget, n_dget2, n_glst, n_sfld, n_aug, n_meth, n_mw, n_make, n_kw, n_rLs, n_dcp, n_ext, n_revL, n_rTp, t_im, ints_rev, t_s1, t_i1, t_i2, t_i3, t_i4, t_i5, x_chain3, x_irng3, x_irevR, x_rg1, x_rg2, ints_cat, ints_app1, ints_len, ints_take, ints_drop, rep_one])
local macro_rules | `(tactic| wtm_at "mem") => `(tactic| first | (with_reducible exact mem_here) | (with_reducible refine mem_there ?_; wtm_at "mem"))
local macro_rules | `(tactic| wtm_at "pp") => `(tactic| first | (with_reducible exact Put.here) | (with_reducible apply Put.there; wtm_at "pp"))
local macro_rules | `(tactic| wtm_at "ho") => `(tactic| first | (with_reducible assumption) | exact Own.get (by with_reducible assumption) (by wtm_at "mem") | exact Own.base (by with_reducible assumption) (by with_reducible assumption))
local macro_rules | `(tactic| wtm_at "qo") => `(tactic| first | (with_reducible assumption) | exact SqL.of (by wtm_at "ho") | exact sqT_tupI (by wtm_at "ho") | exact sqT_tupS (by wtm_at "ho") | exact SqT.of (by wtm_at "ho") | exact Own.imT (by with_reducible assumption) (by wtm_at "mem") | exact Own.sq (by with_reducible assumption) (by with_reducible assumption) | exact Own.sqT (by with_reducible assumption) (by with_reducible assumption))
local macro_rules | `(tactic| wtm_at "sub") => `(tactic| first | exact List.nil_sublist _ | (with_reducible refine List.Sublist.cons_cons _ ?_; wtm_at "sub") | (refine List.Sublist.cons _ ?_; wtm_at "sub"))
local macro_rules | `(tactic| wtm_at "co") => `(tactic| first | (with_reducible assumption) | omega | (exact cmul_r (by omega) (by omega)) | (exact cmul_l (by omega) (by omega)) | (exact cdiv_ok (by omega) (by omega)) | (exact cpow_ok (by decide)) | (exact ⟨by omega, by omega, by omega⟩) | decide | (exact ⟨by omega, by omega⟩) | (simp only [List.length_append, List.length_map, List.length_set, List.length_cons, List.length_nil, rngL_len, sizeLine_eq]; omega) | wtm_at "ho" | wtm_at "qo")
local macro_rules | `(tactic| wtm_at "so") => `(tactic| first | ((with_reducible refine g_dcp ?_); refine dcpI (by wtm_at "ho") ?_) | ((with_reducible refine g_asl ?_); refine And.intro (by rfl) ?_) | ((with_reducible refine g_asqT ?_); refine and_sqT (by wtm_at "qo") ?_) | ((with_reducible refine g_extO ?_); first | (refine extI (by with_reducible assumption) (by wtm_at "pp") (by wtm_at "co") (fun _ _ => ?_)) | (refine extO (by with_reducible assumption) (by wtm_at "pp") (by wtm_at "co") (fun _ _ => ?_))) | ((with_reducible refine g_tp ?_); first | (refine tp_l (by wtm_at "qo") ?_) | (refine tp_t (by wtm_at "qo") ?_)) | ((with_reducible refine g_dputO ?_); refine dputI (by with_reducible assumption) (by wtm_at "pp") (by wtm_at "co") (fun _ _ => ?_)) | ((with_reducible refine g_dinO ?_); refine dinI (by wtm_at "ho") ?_) | ((with_reducible refine g_isDO ?_); refine isDO (by wtm_at "ho") ?_) | ((with_reducible refine g_dg2 ?_); refine dg2I (by wtm_at "ho") ?_) | ((with_reducible refine g_fldO ?_); refine fldO (by wtm_at "ho") (by with_reducible assumption) (by wtm_at "mem") (by wtm_at "lk") ?_) | ((with_reducible refine g_fldC ?_); refine fldC (by wtm_at "ho") (by with_reducible assumption) (by wtm_at "mem") (by wtm_at "lk") ?_) | ((with_reducible refine g_putC ?_); refine putC (by with_reducible assumption) (by wtm_at "pp") (by wtm_at "pu") (by wtm_at "co") (fun _ _ => ?_)) | ((with_reducible refine g_stoO ?_); refine stoO (by with_reducible assumption) (by wtm_at "pp") (by wtm_at "pu") (by with_reducible assumption) (by wtm_at "mem") (by wtm_at "co") (fun _ _ => ?_)) | ((with_reducible refine g_metO ?_); refine metO (by wtm_at "ho") (by wtm_at "ln") ?_) | ((with_reducible refine g_makO ?_); refine makO (by with_reducible assumption) (fun _ _ _ _ => ?_)) | ((with_reducible refine g_sum ?_); refine sum_call (by wtm_at "qo") ?_) | ((with_reducible refine g_cq ?_); exact cq (by with_reducible assumption) (by simp only [rngL_len, List.length_map, List.length_take]; omega)) | ((with_reducible refine g_newO ?_); refine newO (by with_reducible assumption) (fun _ _ _ => ?_)) | ((with_reducible refine g_appO ?_); refine appI (by with_reducible assumption) (by wtm_at "pp") (by wtm_at "co") (fun _ _ => ?_)) | ((with_reducible refine g_setO ?_); refine setI (by with_reducible assumption) (by wtm_at "pp") (by omega) (by wtm_at "co") (fun _ _ => ?_)) | ((with_reducible refine g_appO ?_); refine appO (by with_reducible assumption) (by wtm_at "pp") (by wtm_at "co") (fun _ _ => ?_)) | ((with_reducible refine g_setO ?_); refine setO (by with_reducible assumption) (by wtm_at "pp") (by omega) (by wtm_at "co") (fun _ _ => ?_)) | ((with_reducible refine g_at ?_); refine at_call (by wtm_at "qo") (by omega) (by omega) (fun _ _ => ?_)) | ((with_reducible refine g_int ?_); refine int_call ?_) | ((with_reducible refine g_isi ?_); first | (with_reducible refine isi_ii ?_) | (with_reducible refine isi_ib ?_) | (refine isi_int rfl ?_) | (refine isi_sqL rfl (by wtm_at "qo") ?_) | (refine isi_sqT rfl (by wtm_at "qo") ?_) | (refine isi_bl rfl ?_) | (refine isi_non rfl ?_) | (refine isi_str rfl ?_)) | ((with_reducible refine g_ned ?_); first | (refine ned_f (dq_lst (by wtm_at "qo")) (dq_lst (by wtm_at "qo")) ?_) | (refine ned_ints (by wtm_at "qo") (by wtm_at "qo") ?_) | (refine nedT_ints (by wtm_at "qo") (by wtm_at "qo") ?_)) | ((with_reducible refine g_eqd ?_); first | (refine eqd_t (dq_lst (by wtm_at "qo")) (dq_lst (by wtm_at "qo")) ?_) | (refine eqd_ints (by wtm_at "qo") (by wtm_at "qo") ?_) | (refine eqdT_ints (by wtm_at "qo") (by wtm_at "qo") ?_)) | ((with_reducible refine g_tyv ?_); refine and_tyv (by wtm_at "qo") ?_) | ((with_reducible refine g_asq ?_); refine and_sq (by wtm_at "qo") ?_) | ((with_reducible refine g_lst ?_); refine ex_lst (by wtm_at "ho") ?_) | ((with_reducible refine g_or ?_); first | (refine ex_or (by wtm_at "qo") ?_) | (refine ex_ort (by wtm_at "qo") ?_)) | ((with_reducible refine g_sq ?_); refine ex_sq (by wtm_at "qo") ?_) | ((with_reducible refine g_sqt ?_); refine ex_sqt (by wtm_at "qo") ?_) | ((with_reducible refine gd_sel ?_); first | (refine sel_p (by wtm_at "pf") ?_) | (refine sel_n (by wtm_at "pf") ?_)) | ((with_reducible refine gn_sel ?_); first | (refine selN_p (by wtm_at "pf") ?_) | (refine selN_n (by wtm_at "pf") ?_)) | ((with_reducible refine gd_selT ?_); first | (refine selT_p (by wtm_at "pf") ?_) | (refine selT_n (by wtm_at "pf") ?_)) | ((with_reducible refine gn_selT ?_); first | (refine selTN_p (by wtm_at "pf") ?_) | (refine selTN_n (by wtm_at "pf") ?_)) | ((with_reducible refine gd_selE ?_); first | (refine selE_p (by wtm_at "pf") ?_) | (refine selE_n (by wtm_at "pf") ?_)) | ((with_reducible refine gn_selE ?_); first | (refine selEN_p (by wtm_at "pf") ?_) | (refine selEN_n (by wtm_at "pf") ?_)) | ((with_reducible refine g_xf ?_); refine xf_at rfl (by wtm_at "ho") ?_) | ((with_reducible refine g_atI ?_); refine ex_at (by first | exact rfl | exact atI_int (by omega) (by wtm_at "pf") | exact atI_end (by wtm_at "pf")) ?_) | ((with_reducible refine g_and ?_); refine And.intro (by wtm_at "co") ?_))
local macro_rules | `(tactic| wtm_at "oo") => `(tactic| repeat (first | wtm_at "xo" | wtm_at "so"))
local macro_rules | `(tactic| wtm_at "cR") => `(tactic| (refine' compRi _ (by with_reducible assumption) (by omega) (fun _ _ _ _ _ => ?_) (fun _ _ _ => ?_); rotate_left; focus (wtm_at "oo")))

local macro_rules | `(tactic| wtm_at "lk") => `(tactic| first | (with_reducible exact lk_here) | (simp only [lk_here, lk_skip, lk_nil, nb_0_0, nb_0_1, nb_0_2, nb_0_3, nb_0_4, nb_0_5, nb_0_6, nb_0_7, nb_1_1, nb_1_2, nb_1_3, nb_1_4, nb_1_5, nb_1_6, nb_1_7, nb_2_0, nb_2_2, nb_2_3, nb_2_4, nb_2_5, nb_2_6, nb_2_7, nb_3_0, nb_3_1, nb_3_2, nb_3_3, nb_3_4, nb_3_5, nb_3_6, nb_3_7, nb_4_0, nb_4_1, nb_4_2, nb_4_3, nb_4_4, nb_4_5, nb_4_6, nb_4_7, nb_5_0, nb_5_1, nb_5_3, nb_5_4, nb_5_5, nb_5_6, nb_5_7, nb_6_0, nb_6_1, nb_6_2, nb_6_3, nb_6_4, nb_6_5, nb_6_6, nb_6_7, nb_7_0, nb_7_1, nb_7_2, nb_7_4, nb_7_5, nb_7_6, nb_7_7, nb_8_0, nb_8_1, nb_8_2, nb_8_3, nb_8_4, nb_8_5, nb_8_6, nb_8_7, nb_9_0, nb_9_1, nb_9_2, nb_9_3, nb_9_4, nb_9_5, nb_9_6, nb_9_7, nb_10_0, nb_10_1, nb_10_2, nb_10_3, nb_10_5, nb_10_6, nb_10_7, nb_11_0, nb_11_1, nb_11_2, nb_11_3, nb_11_4, nb_11_6, nb_11_7, nb_12_0, nb_12_1, nb_12_2, nb_12_3, nb_12_4, nb_12_5, nb_12_7, nb_13_0, nb_13_1, nb_13_2, nb_13_3, nb_13_4, nb_13_5, nb_13_6, nb_13_7, nb_14_0, nb_14_1, nb_14_2, nb_14_3, nb_14_4, nb_14_5, nb_14_6, nb_15_0, nb_15_1, nb_15_2, nb_15_3, nb_15_4, nb_15_5, nb_15_6, nb_15_7, nb_16_0, nb_16_1, nb_16_2, nb_16_3, nb_16_4, nb_16_5, nb_16_6, nb_16_7, nb_17_0, nb_17_1, nb_17_2, nb_17_3, nb_17_4, nb_17_5, nb_17_6, nb_17_7, nb_18_0, nb_18_1, nb_18_2, nb_18_3, nb_18_4, nb_18_5, nb_18_6, nb_18_7, nb_19_0, nb_19_1, nb_19_2, nb_19_3, nb_19_4, nb_19_5, nb_19_6, nb_19_7, nb_20_0, nb_20_1, nb_20_2, nb_20_3, nb_20_4, nb_20_5, nb_20_6, nb_20_7, nb_21_0, nb_21_1, nb_21_2, nb_21_3, nb_21_4, nb_21_5, nb_21_6, nb_21_7, nb_22_0, nb_22_1, nb_22_2, nb_22_3, nb_22_4, nb_22_5, nb_22_6, nb_22_7, nb_23_0, nb_23_1, nb_23_2, nb_23_3, nb_23_4, nb_23_5, nb_23_6, nb_23_7, nb_24_0, nb_24_1, nb_24_2, nb_24_3, nb_24_4, nb_24_5, nb_24_6, nb_24_7, nb_25_0, nb_25_1, nb_25_2, nb_25_3, nb_25_4, nb_25_5, nb_25_6, nb_25_7, nb_26_0, nb_26_1, nb_26_2, nb_26_3, nb_26_4, nb_26_5, nb_26_6, nb_26_7]; first | done | exact rfl))
local macro_rules | `(tactic| wtm_at "ln") => `(tactic| first | (with_reducible exact lk_nil) | (simp only [lk_skip, lk_nil, nb_0_0, nb_0_1, nb_0_2, nb_0_3, nb_0_4, nb_0_5, nb_0_6, nb_0_7, nb_1_1, nb_1_2, nb_1_3, nb_1_4, nb_1_5, nb_1_6, nb_1_7, nb_2_0, nb_2_2, nb_2_3, nb_2_4, nb_2_5, nb_2_6, nb_2_7, nb_3_0, nb_3_1, nb_3_2, nb_3_3, nb_3_4, nb_3_5, nb_3_6, nb_3_7, nb_4_0, nb_4_1, nb_4_2, nb_4_3, nb_4_4, nb_4_5, nb_4_6, nb_4_7, nb_5_0, nb_5_1, nb_5_3, nb_5_4, nb_5_5, nb_5_6, nb_5_7, nb_6_0, nb_6_1, nb_6_2, nb_6_3, nb_6_4, nb_6_5, nb_6_6, nb_6_7, nb_7_0, nb_7_1, nb_7_2, nb_7_4, nb_7_5, nb_7_6, nb_7_7, nb_8_0, nb_8_1, nb_8_2, nb_8_3, nb_8_4, nb_8_5, nb_8_6, nb_8_7, nb_9_0, nb_9_1, nb_9_2, nb_9_3, nb_9_4, nb_9_5, nb_9_6, nb_9_7, nb_10_0, nb_10_1, nb_10_2, nb_10_3, nb_10_5, nb_10_6, nb_10_7, nb_11_0, nb_11_1, nb_11_2, nb_11_3, nb_11_4, nb_11_6, nb_11_7, nb_12_0, nb_12_1, nb_12_2, nb_12_3, nb_12_4, nb_12_5, nb_12_7, nb_13_0, nb_13_1, nb_13_2, nb_13_3, nb_13_4, nb_13_5, nb_13_6, nb_13_7, nb_14_0, nb_14_1, nb_14_2, nb_14_3, nb_14_4, nb_14_5, nb_14_6, nb_15_0, nb_15_1, nb_15_2, nb_15_3, nb_15_4, nb_15_5, nb_15_6, nb_15_7, nb_16_0, nb_16_1, nb_16_2, nb_16_3, nb_16_4, nb_16_5, nb_16_6, nb_16_7, nb_17_0, nb_17_1, nb_17_2, nb_17_3, nb_17_4, nb_17_5, nb_17_6, nb_17_7, nb_18_0, nb_18_1, nb_18_2, nb_18_3, nb_18_4, nb_18_5, nb_18_6, nb_18_7, nb_19_0, nb_19_1, nb_19_2, nb_19_3, nb_19_4, nb_19_5, nb_19_6, nb_19_7, nb_20_0, nb_20_1, nb_20_2, nb_20_3, nb_20_4, nb_20_5, nb_20_6, nb_20_7, nb_21_0, nb_21_1, nb_21_2, nb_21_3, nb_21_4, nb_21_5, nb_21_6, nb_21_7, nb_22_0, nb_22_1, nb_22_2, nb_22_3, nb_22_4, nb_22_5, nb_22_6, nb_22_7, nb_23_0, nb_23_1, nb_23_2, nb_23_3, nb_23_4, nb_23_5, nb_23_6, nb_23_7, nb_24_0, nb_24_1, nb_24_2, nb_24_3, nb_24_4, nb_24_5, nb_24_6, nb_24_7, nb_25_0, nb_25_1, nb_25_2, nb_25_3, nb_25_4, nb_25_5, nb_25_6, nb_25_7, nb_26_0, nb_26_1, nb_26_2, nb_26_3, nb_26_4, nb_26_5, nb_26_6, nb_26_7]; done))
local macro_rules | `(tactic| wtm_at "pu") => `(tactic| first | (with_reducible exact pf_nil) | (simp only [pf_nil, pf_here, pf_skip, nb_0_0, nb_0_1, nb_0_2, nb_0_3, nb_0_4, nb_0_5, nb_0_6, nb_0_7, nb_1_1, nb_1_2, nb_1_3, nb_1_4, nb_1_5, nb_1_6, nb_1_7, nb_2_0, nb_2_2, nb_2_3, nb_2_4, nb_2_5, nb_2_6, nb_2_7, nb_3_0, nb_3_1, nb_3_2, nb_3_3, nb_3_4, nb_3_5, nb_3_6, nb_3_7, nb_4_0, nb_4_1, nb_4_2, nb_4_3, nb_4_4, nb_4_5, nb_4_6, nb_4_7, nb_5_0, nb_5_1, nb_5_3, nb_5_4, nb_5_5, nb_5_6, nb_5_7, nb_6_0, nb_6_1, nb_6_2, nb_6_3, nb_6_4, nb_6_5, nb_6_6, nb_6_7, nb_7_0, nb_7_1, nb_7_2, nb_7_4, nb_7_5, nb_7_6, nb_7_7, nb_8_0, nb_8_1, nb_8_2, nb_8_3, nb_8_4, nb_8_5, nb_8_6, nb_8_7, nb_9_0, nb_9_1, nb_9_2, nb_9_3, nb_9_4, nb_9_5, nb_9_6, nb_9_7, nb_10_0, nb_10_1, nb_10_2, nb_10_3, nb_10_5, nb_10_6, nb_10_7, nb_11_0, nb_11_1, nb_11_2, nb_11_3, nb_11_4, nb_11_6, nb_11_7, nb_12_0, nb_12_1, nb_12_2, nb_12_3, nb_12_4, nb_12_5, nb_12_7, nb_13_0, nb_13_1, nb_13_2, nb_13_3, nb_13_4, nb_13_5, nb_13_6, nb_13_7, nb_14_0, nb_14_1, nb_14_2, nb_14_3, nb_14_4, nb_14_5, nb_14_6, nb_15_0, nb_15_1, nb_15_2, nb_15_3, nb_15_4, nb_15_5, nb_15_6, nb_15_7, nb_16_0, nb_16_1, nb_16_2, nb_16_3, nb_16_4, nb_16_5, nb_16_6, nb_16_7, nb_17_0, nb_17_1, nb_17_2, nb_17_3, nb_17_4, nb_17_5, nb_17_6, nb_17_7, nb_18_0, nb_18_1, nb_18_2, nb_18_3, nb_18_4, nb_18_5, nb_18_6, nb_18_7, nb_19_0, nb_19_1, nb_19_2, nb_19_3, nb_19_4, nb_19_5, nb_19_6, nb_19_7, nb_20_0, nb_20_1, nb_20_2, nb_20_3, nb_20_4, nb_20_5, nb_20_6, nb_20_7, nb_21_0, nb_21_1, nb_21_2, nb_21_3, nb_21_4, nb_21_5, nb_21_6, nb_21_7, nb_22_0, nb_22_1, nb_22_2, nb_22_3, nb_22_4, nb_22_5, nb_22_6, nb_22_7, nb_23_0, nb_23_1, nb_23_2, nb_23_3, nb_23_4, nb_23_5, nb_23_6, nb_23_7, nb_24_0, nb_24_1, nb_24_2, nb_24_3, nb_24_4, nb_24_5, nb_24_6, nb_24_7, nb_25_0, nb_25_1, nb_25_2, nb_25_3, nb_25_4, nb_25_5, nb_25_6, nb_25_7, nb_26_0, nb_26_1, nb_26_2, nb_26_3, nb_26_4, nb_26_5, nb_26_6, nb_26_7]; first | done | exact rfl))
local macro_rules | `(tactic| wtm_at "tk") => `(tactic| first | (with_reducible exact Take.here) | (exact Take.here) | ((with_reducible apply Take.there); wtm_at "tk"))
local macro_rules | `(tactic| wtm_at "pk") => `(tactic| first | exact Pick.nil | ((with_reducible refine' Pick.cons ?tk1 ?pk1); (case tk1 => wtm_at "tk"); (case pk1 => wtm_at "pk")) | ((with_reducible refine Pick.im (by wtm_at "mem") ?_); wtm_at "pk") | ((with_reducible refine Pick.ims (by wtm_at "mem") ?_); wtm_at "pk"))
section
variable {P : Program} {w : World} {K : PySem.W.Frag} {mg : Str → Option Value} {base : Heap}
/-! a parser's steps one behind the other, and the same in parts -/
theorem gtD {hs : List Int} {k j : Nat} (h : j < k) : (hs.take k).getD j 0 = hs.getD j 0 := by
  rw [List.getD_eq_getElem?_getD, List.getD_eq_getElem?_getD, List.getElem?_take, if_pos h]
theorem eqAt_pre {hs : List Int} {k a b j : Nat} (h : b + j < k) (hk : k ≤ hs.length) (hab : a ≤ b) : eqAt (hs.take k) a b j ↔ eqAt hs a b j := by
  unfold eqAt
  rw [List.length_take, gtD (by omega), gtD (by omega)]
  constructor
  · rintro ⟨_, g⟩
    exact ⟨by omega, g⟩
  · rintro ⟨_, g⟩
    exact ⟨by omega, g⟩
theorem cl_pre {hs : List Int} {k a b : Nat} (hk : k ≤ hs.length) (hab : a ≤ b) : ∀ m, b + m ≤ k → cl (hs.take k) a b m = cl hs a b m
  | 0, _ => rfl
  | m + 1, h => by
    have ih := cl_pre hk hab m (by omega)
    unfold cl
    rw [ih]
    by_cases c : cl hs a b m = m ∧ eqAt hs a b m
    · rw [if_pos c, if_pos ⟨c.1, (eqAt_pre (by omega) hk hab).mpr c.2⟩]
    · rw [if_neg c, if_neg (fun z => c ⟨z.1, (eqAt_pre (by omega) hk hab).mp z.2⟩)]
theorem sl3_pre {hs : List Int} {k : Nat} {i : Int} (h0 : 0 ≤ i) (h : i + 3 ≤ k) : sl3 (hs.take k) i = sl3 hs i := by
  unfold sl3
  rw [List.drop_take, List.take_take, Nat.min_eq_left (by omega)]
theorem cand_pre {hs : List Int} {k : Nat} {i f w : Int} (hk : k ≤ hs.length) (h : i + 3 ≤ k) (hf : 0 ≤ f) : cand (hs.take k) i f w = cand hs i f w := by
  unfold cand
  rw [List.length_take, if_pos (by omega), if_pos (by omega)]
  congr 1
  refine List.filter_congr fun j hj => ?_
  have hj := List.mem_range.mp hj
  unfold candI
  rw [sl3_pre (by omega) (by omega), sl3_pre (by omega) (by omega)]
theorem sr_pre {hs : List Int} {k : Nat} {i nice : Int} {lim : Nat} (hk : k ≤ hs.length) (h0 : 0 ≤ i) (h : i + lim ≤ k) : ∀ (ps : List Int), (∀ p ∈ ps, 0 ≤ p ∧ p < i) → sr (hs.take k) i lim nice ps = sr hs i lim nice ps := by
  intro ps
  unfold sr
  generalize ((0, 0, false) : Nat × Int × Bool) = s
  induction ps generalizing s with
  | nil => exact fun _ => rfl
  | cons p r ih =>
    intro hp
    have hp0 := hp p List.mem_cons_self
    have e : srStep (hs.take k) i lim nice s p = srStep hs i lim nice s p := by
      unfold srStep
      rw [cl_pre hk (by omega) lim (by omega)]
    show List.foldl _ (srStep (hs.take k) i lim nice s p) r = List.foldl _ (srStep hs i lim nice s p) r
    rw [e]
    exact ih _ fun q hq => hp q (List.mem_cons_of_mem _ hq)
theorem fnd_pre {hs : List Int} {k : Nat} {i f w c n l s : Int} (hk : k ≤ hs.length) (h0 : 0 ≤ i) (hf : 0 ≤ f) (h : i + 320 ≤ k) : fnd (hs.take k) i f w c n l s = fnd hs i f w c n l s := by
  unfold fnd
  rw [List.length_take, cand_pre hk (by omega) hf]
  rw [show min 258 (((min k hs.length : Nat) : Int) - i).toNat = 258 by omega, show min 258 ((hs.length : Int) - i).toNat = 258 by omega]
  rw [sr_pre hk h0 (by omega) _ fun p hp => ⟨(cand_mem (List.mem_of_mem_take hp)).2.2.1, (cand_mem (List.mem_of_mem_take hp)).2.1⟩]
theorem runC_pre {hs : List Int} {k : Nat} {i f : Int} (hk : k ≤ hs.length) (h0 : 0 ≤ i) (hf : 0 ≤ f) (h : i + 320 ≤ k) : runC (hs.take k) i (hs.take k).length f = runC hs i hs.length f := by
  unfold runC
  rw [List.length_take]
  rw [show min 258 (((min k hs.length : Nat) : Int) - i).toNat = 258 by omega, show min 258 ((hs.length : Int) - i).toNat = 258 by omega]
  rw [cl_pre hk (by omega) 258 (by omega)]
theorem tokE_pre {hs : List Int} {k : Nat} {i x y : Int} (h : i.toNat < k) : tokE (hs.take k) i x y = tokE hs i x y := by
  unfold tokE
  rw [gtD h]
theorem fnd_258 {hs : List Int} {at_ f w c n l s : Int} (h : 0 ≤ (hs.length : Int) - at_) : ((fnd hs at_ f w c n l s).getD 0 0 = 0 ∧ (fnd hs at_ f w c n l s).getD 1 0 = 0) ∨ (3 ≤ (fnd hs at_ f w c n l s).getD 0 0 ∧ (fnd hs at_ f w c n l s).getD 0 0 ≤ 258 ∧ (fnd hs at_ f w c n l s).getD 0 0 ≤ (hs.length : Int) - at_) := by
  rcases fnd_cases (hs := hs) (at_ := at_) (f := f) (w := w) (c := c) (n := n) (l := l) (s := s) h with e | e
  · rw [e]
    exact .inl ⟨rfl, rfl⟩
  · exact .inr e
theorem btr_258 {hs : List Int} {at_ f w : Int} {m : Nm} {s l : Int} (h : 0 ≤ (hs.length : Int) - at_) : ((btr hs at_ f w m s l).getD 0 0 = 0 ∧ (btr hs at_ f w m s l).getD 1 0 = 0) ∨ (3 ≤ (btr hs at_ f w m s l).getD 0 0 ∧ (btr hs at_ f w m s l).getD 0 0 ≤ 258 ∧ (btr hs at_ f w m s l).getD 0 0 ≤ (hs.length : Int) - at_) := by
  unfold btr
  split
  · exact .inl ⟨rfl, rfl⟩
  · exact fnd_258 h
theorem btr_pre {hs : List Int} {k : Nat} {i f w : Int} {m : Nm} {s l : Int} (hk : k ≤ hs.length) (h0 : 0 ≤ i) (hf : 0 ≤ f) (h : i + 320 ≤ k) : btr (hs.take k) i f w m s l = btr hs i f w m s l := by
  unfold btr
  rw [fnd_pre hk h0 hf h]
theorem stp_pre {hs : List Int} {k : Nat} {i f w : Int} {m : Nm} {s x y : Int} (hk : k ≤ hs.length) (h0 : 0 ≤ i) (hf : 0 ≤ f) (h : i + 320 ≤ k) : stp (hs.take k) i f w m s false x y = stp hs i f w m s true x y := by
  unfold stp
  rw [runC_pre hk h0 hf h, fnd_pre hk h0 hf h]
  have f0 := fnd_258 (hs := hs) (at_ := i) (f := f) (w := w) (c := m.chain) (n := m.nice) (l := 0) (s := s) (by omega)
  have b0 := btr_258 (hs := hs) (at_ := i) (f := f) (w := w) (m := m) (l := x) (s := s) (by omega)
  have eb : begP (hs.take k) i f w m s false = begP hs i f w m s true := by
    unfold begP
    rw [fnd_pre hk h0 hf h]
    generalize (fnd hs i f w m.chain m.nice 0 s).getD 0 0 = x1 at *
    generalize (fnd hs i f w m.chain m.nice 0 s).getD 1 0 = y1 at *
    unfold begR
    rw [tokE_pre (by omega)]
    have e : decide (i + x1 = (hs.length : Int)) = false := decide_eq_false (by omega)
    rw [e]
    rfl
  have eg : goP (hs.take k) i f w m s false x y = goP hs i f w m s true x y := by
    unfold goP
    rw [btr_pre hk h0 hf h]
    generalize (btr hs i f w m s x).getD 0 0 = x1 at *
    generalize (btr hs i f w m s x).getD 1 0 = y1 at *
    unfold goR
    rw [tokE_pre (by omega), tokE_pre (by omega), tokE_pre (by omega)]
    have e : decide (i + x1 = (hs.length : Int)) = false := decide_eq_false (by omega)
    rw [e]
    rfl
  rw [eb, eg, tokE_pre (by omega), tokE_pre (by omega), tokE_pre (by omega)]
/-- what holds between two steps with the same numbers -/
structure PInv (hs : List Int) (i f : Int) (m : Nm) (s x y : Int) : Prop where
  i0 : 0 ≤ i
  i1 : i ≤ hs.length
  fi : f ≤ i
  hd : (x = 0 ∧ y = 0) ∨ (1 ≤ i ∧ 3 ≤ x ∧ i - 1 + x < hs.length)
  nw : (m.way = Str.ofString "stored" ∨ s = 2 ∨ s = 3 ∨ m.way = Str.ofString "greedy") → x = 0 ∧ y = 0
theorem atE_in {hs : List Int} {i x y : Int} (h0 : 0 ≤ i) (hi : i < hs.length) (h : (x = 0 ∧ y = 0) ∨ (3 ≤ x ∧ x ≤ (hs.length : Int) - i)) : i + 1 ≤ atE i x y ∧ atE i x y ≤ hs.length := by
  unfold atE
  split <;> omega
theorem stp_inv {hs : List Int} {i f w : Int} {m : Nm} {s x y : Int} {b : Bool} (I : PInv hs i f m s x y) (h : i < hs.length) (hb : b = true ∨ 320 ≤ (hs.length : Int) - i) :
    PInv hs (stp hs i f w m s b x y).2.1 f m s (stp hs i f w m s b x y).2.2.1 (stp hs i f w m s b x y).2.2.2 ∧ i + 1 ≤ (stp hs i f w m s b x y).2.1 := by
  obtain ⟨i0, i1, fi, hd, nw⟩ := I
  have f0 := fnd_258 (hs := hs) (at_ := i) (f := f) (w := w) (c := m.chain) (n := m.nice) (l := 0) (s := s) (by omega)
  have b0 := btr_258 (hs := hs) (at_ := i) (f := f) (w := w) (m := m) (l := x) (s := s) (by omega)
  have r0 : ((runC hs i hs.length f).getD 0 0 = 0 ∧ (runC hs i hs.length f).getD 1 0 = 0) ∨ (3 ≤ (runC hs i hs.length f).getD 0 0 ∧ (runC hs i hs.length f).getD 0 0 ≤ (hs.length : Int) - i) := by
    rcases runC_cases (hs := hs) (i := i) (e := hs.length) (f := f) with e | e
    · rw [e]
      exact .inl ⟨rfl, rfl⟩
    · exact .inr ⟨e.1, by omega⟩
  unfold stp
  by_cases c1 : m.way = Str.ofString "stored" ∨ s = 2
  · rw [if_pos c1]
    have z := nw (by rcases c1 with c | c; exact .inl c; exact .inr (.inl c))
    have ha := atE_in i0 h (x := 0) (y := 0) (.inl ⟨rfl, rfl⟩)
    exact ⟨⟨by dsimp only; omega, ha.2, by dsimp only; omega, .inl z, fun _ => z⟩, ha.1⟩
  rw [if_neg c1]
  by_cases c2 : s = 3
  · rw [if_pos c2]
    have z := nw (.inr (.inr (.inl c2)))
    have ha := atE_in i0 h r0
    exact ⟨⟨by dsimp only; omega, ha.2, by dsimp only; omega, .inl z, fun _ => z⟩, ha.1⟩
  rw [if_neg c2]
  by_cases c3 : m.way = Str.ofString "greedy"
  · rw [if_pos c3]
    have z := nw (.inr (.inr (.inr c3)))
    have ha := atE_in i0 h (x := (fnd hs i f w m.chain m.nice 0 s).getD 0 0) (y := (fnd hs i f w m.chain m.nice 0 s).getD 1 0) (by omega)
    exact ⟨⟨by dsimp only; omega, ha.2, by dsimp only; omega, .inl z, fun _ => z⟩, ha.1⟩
  rw [if_neg c3]
  have nn : ¬ (m.way = Str.ofString "stored" ∨ s = 2 ∨ s = 3 ∨ m.way = Str.ofString "greedy") := by
    rintro (g | g | g | g)
    · exact c1 (.inl g)
    · exact c1 (.inr g)
    · exact c2 g
    · exact c3 g
  by_cases c4 : (x = 0 ∧ y = 0)
  · rw [if_pos c4]
    unfold begP
    generalize (fnd hs i f w m.chain m.nice 0 s).getD 0 0 = x1 at *
    generalize (fnd hs i f w m.chain m.nice 0 s).getD 1 0 = y1 at *
    unfold begR
    by_cases c5 : (x1 = 0 ∧ y1 = 0) ∨ m.pat < x1 ∨ (b && decide (i + x1 = hs.length)) = true
    · rw [if_pos c5]
      have ha := atE_in i0 h (x := x1) (y := y1) (by omega)
      exact ⟨⟨by dsimp only; omega, ha.2, by dsimp only; omega, .inl ⟨rfl, rfl⟩, fun z => absurd z nn⟩, ha.1⟩
    · rw [if_neg c5]
      have c6 : ¬ (x1 = 0 ∧ y1 = 0) := fun z => c5 (.inl z)
      have c7 : b = true → ¬ i + x1 = hs.length := fun z g => c5 (.inr (.inr (by rw [z, decide_eq_true g]; rfl)))
      have c8 : i + x1 < hs.length := by
        rcases hb with g | g
        · have := c7 g
          omega
        · omega
      exact ⟨⟨by dsimp only; omega, by dsimp only; omega, by dsimp only; omega, .inr ⟨by dsimp only; omega, by dsimp only; omega, by dsimp only; omega⟩, fun z => absurd z nn⟩, Int.le_refl _⟩
  · rw [if_neg c4]
    have hd := hd.resolve_left c4
    unfold goP
    generalize (btr hs i f w m s x).getD 0 0 = x1 at *
    generalize (btr hs i f w m s x).getD 1 0 = y1 at *
    unfold goR
    by_cases c5 : (x1 = 0 ∧ y1 = 0)
    · rw [if_pos c5]
      have ha : i + 1 ≤ atE (i - 1) x y ∧ atE (i - 1) x y ≤ hs.length := by
        unfold atE
        rw [if_neg c4]
        omega
      exact ⟨⟨by dsimp only; omega, ha.2, by dsimp only; omega, .inl ⟨rfl, rfl⟩, fun z => absurd z nn⟩, ha.1⟩
    · rw [if_neg c5]
      by_cases c6 : (b && decide (i + x1 = hs.length)) = true
      · rw [if_pos c6]
        have ha := atE_in i0 h (x := x1) (y := y1) (by omega)
        exact ⟨⟨by dsimp only; omega, ha.2, by dsimp only; omega, .inl ⟨rfl, rfl⟩, fun z => absurd z nn⟩, ha.1⟩
      · rw [if_neg c6]
        have c7 : b = true → ¬ i + x1 = hs.length := fun z g => c6 (by rw [z, decide_eq_true g]; rfl)
        have c8 : i + x1 < hs.length := by
          rcases hb with g | g
          · have := c7 g
            omega
          · omega
        exact ⟨⟨by dsimp only; omega, by dsimp only; omega, by dsimp only; omega, .inr ⟨by dsimp only; omega, by dsimp only; omega, by dsimp only; omega⟩, fun z => absurd z nn⟩, Int.le_refl _⟩
/-- no step is made -/
def stops (hs : List Int) (b : Bool) (i : Int) : Prop := i = hs.length ∨ (b = false ∧ hs.length - i < 320)
instance {hs : List Int} {b : Bool} {i : Int} : Decidable (stops hs b i) := inferInstanceAs (Decidable (_ ∨ _))
/-- steps, one behind the other -/
def runF (hs : List Int) (f w : Int) (m : Nm) (s : Int) (b : Bool) : Nat → Int → Int → Int → List (List Int) × Int × Int × Int
  | 0, i, x, y => ([], i, x, y)
  | n + 1, i, x, y => if stops hs b i then ([], i, x, y) else
      ((stp hs i f w m s b x y).1 ++ (runF hs f w m s b n (stp hs i f w m s b x y).2.1 (stp hs i f w m s b x y).2.2.1 (stp hs i f w m s b x y).2.2.2).1,
       (runF hs f w m s b n (stp hs i f w m s b x y).2.1 (stp hs i f w m s b x y).2.2.1 (stp hs i f w m s b x y).2.2.2).2)
theorem runF_stop {hs : List Int} {f w : Int} {m : Nm} {s : Int} {b : Bool} {i x y : Int} (h : stops hs b i) : ∀ n, runF hs f w m s b n i x y = ([], i, x, y)
  | 0 => rfl
  | n + 1 => by
    unfold runF
    rw [if_pos h]
theorem runF_go {hs : List Int} {f w : Int} {m : Nm} {s : Int} {b : Bool} {i x y : Int} {n : Nat} (h : ¬ stops hs b i) : runF hs f w m s b (n + 1) i x y =
      ((stp hs i f w m s b x y).1 ++ (runF hs f w m s b n (stp hs i f w m s b x y).2.1 (stp hs i f w m s b x y).2.2.1 (stp hs i f w m s b x y).2.2.2).1,
       (runF hs f w m s b n (stp hs i f w m s b x y).2.1 (stp hs i f w m s b x y).2.2.1 (stp hs i f w m s b x y).2.2.2).2) := by
  conv => lhs; unfold runF
  rw [if_neg h]
theorem stops_not {hs : List Int} {b : Bool} {i : Int} (h : i ≤ hs.length) (n : ¬ stops hs b i) : i < hs.length ∧ (b = true ∨ 320 ≤ (hs.length : Int) - i) := by
  unfold stops at n
  cases b
  · refine ⟨by omega, .inr ?_⟩
    by_cases c : 320 ≤ (hs.length : Int) - i
    · exact c
    · exact absurd (.inr ⟨rfl, by omega⟩) n
  · exact ⟨by omega, .inl rfl⟩
/-- enough turns: the end is reached, and more turns change nothing -/
theorem runF_end {hs : List Int} {f w : Int} {m : Nm} {s : Int} {b : Bool} : ∀ (n : Nat) (i x y : Int), PInv hs i f m s x y → (hs.length : Int) - i ≤ n → stops hs b (runF hs f w m s b n i x y).2.1 ∧
    PInv hs (runF hs f w m s b n i x y).2.1 f m s (runF hs f w m s b n i x y).2.2.1 (runF hs f w m s b n i x y).2.2.2 ∧ i ≤ (runF hs f w m s b n i x y).2.1
  | 0, i, x, y, I, h => ⟨.inl (by have := I.i1; show i = _; omega), I, Int.le_refl _⟩
  | n + 1, i, x, y, I, h => by
    by_cases c : stops hs b i
    · rw [runF_stop c]
      exact ⟨c, I, Int.le_refl _⟩
    · rw [runF_go c]
      obtain ⟨g1, g2⟩ := stops_not I.i1 c
      have J := stp_inv (w := w) I g1 g2
      have K := runF_end (f := f) (w := w) (m := m) (s := s) (b := b) n _ _ _ J.1 (by have := J.2; omega)
      exact ⟨K.1, K.2.1, by have := J.2; have := K.2.2; dsimp only at *; omega⟩
theorem runF_more {hs : List Int} {f w : Int} {m : Nm} {s : Int} {b : Bool} : ∀ (n k : Nat) (i x y : Int), PInv hs i f m s x y → (hs.length : Int) - i ≤ n → (hs.length : Int) - i ≤ k → runF hs f w m s b n i x y = runF hs f w m s b k i x y
  | 0, k, i, x, y, I, h, _ => by
    rw [runF_stop (n := k) (.inl (by have := I.i1; omega))]
    rfl
  | n + 1, 0, i, x, y, I, _, h => by
    rw [runF_stop (n := n + 1) (.inl (by have := I.i1; omega))]
    rfl
  | n + 1, k + 1, i, x, y, I, h1, h2 => by
    by_cases c : stops hs b i
    · rw [runF_stop c, runF_stop c]
    · obtain ⟨g1, g2⟩ := stops_not I.i1 c
      have J := stp_inv (w := w) I g1 g2
      rw [runF_go c, runF_go c, runF_more n k _ _ _ J.1 (by have := J.2; omega) (by have := J.2; omega)]
theorem PInv.grow {hs : List Int} {k : Nat} {i f : Int} {m : Nm} {s x y : Int} (hk : k ≤ hs.length) (I : PInv (hs.take k) i f m s x y) : PInv hs i f m s x y := by
  have e : (hs.take k).length = k := by
    rw [List.length_take]
    omega
  obtain ⟨i0, i1, fi, hd, nw⟩ := I
  rw [e] at i1 hd
  exact ⟨i0, by omega, fi, by omega, nw⟩
theorem take_take_le {hs : List Int} {k k2 : Nat} (h : k ≤ k2) : (hs.take k2).take k = hs.take k := by
  rw [List.take_take, Nat.min_eq_left h]
/-- a part's steps are the first ones of the whole -/
theorem runF_part {hs : List Int} {f w : Int} {m : Nm} {s : Int} {k : Nat} (hk : k ≤ hs.length) (hf : 0 ≤ f) : ∀ (n N M : Nat) (i x y : Int), PInv (hs.take k) i f m s x y → (hs.length : Int) - i ≤ N → (hs.length : Int) - i ≤ M →
    runF hs f w m s true N i x y = ((runF (hs.take k) f w m s false n i x y).1 ++ (runF hs f w m s true M (runF (hs.take k) f w m s false n i x y).2.1 (runF (hs.take k) f w m s false n i x y).2.2.1 (runF (hs.take k) f w m s false n i x y).2.2.2).1,
      (runF hs f w m s true M (runF (hs.take k) f w m s false n i x y).2.1 (runF (hs.take k) f w m s false n i x y).2.2.1 (runF (hs.take k) f w m s false n i x y).2.2.2).2)
  | 0, N, M, i, x, y, I, h, h2 => by
    show _ = ([] ++ _, _)
    rw [List.nil_append, runF_more N M i x y (I.grow hk) h h2]
    rfl
  | n + 1, N, M, i, x, y, I, h, h2 => by
    by_cases c : stops (hs.take k) false i
    · rw [runF_stop c]
      show _ = ([] ++ _, _)
      rw [List.nil_append, runF_more N M i x y (I.grow hk) h h2]
    · obtain ⟨g1, g2⟩ := stops_not I.i1 c
      have J := stp_inv (w := w) I g1 g2
      have e : (hs.take k).length = k := by
        rw [List.length_take]
        omega
      rw [e] at g1 g2
      have g2 : 320 ≤ (k : Int) - i := g2.resolve_left (by decide)
      have es := stp_pre (w := w) (m := m) (s := s) (x := x) (y := y) hk I.i0 hf (show i + 320 ≤ k by omega)
      have c2 : ¬ stops hs true i := by
        unfold stops
        rintro (g | g)
        · omega
        · cases g.1
      obtain ⟨N, rfl⟩ : ∃ N2, N = N2 + 1 := ⟨N - 1, by omega⟩
      rw [runF_go c, runF_go c2, es]
      rw [es] at J
      rw [runF_part hk hf n N M _ _ _ J.1 (by have := J.2; omega) (by have := J.2; omega) (w := w)]
      dsimp only
      rw [List.append_assoc]
/-- at its end nothing is held -/
theorem runF_front {hs : List Int} {f w : Int} {m : Nm} {s i x y : Int} {n : Nat} (I : PInv hs i f m s x y) (h : (hs.length : Int) - i ≤ n) :
    (runF hs f w m s true n i x y).2.1 = hs.length ∧ (runF hs f w m s true n i x y).2.2.1 = 0 ∧ (runF hs f w m s true n i x y).2.2.2 = 0 := by
  obtain ⟨h1, h2, _⟩ := runF_end (w := w) (b := true) n i x y I h
  have h1 : (runF hs f w m s true n i x y).2.1 = hs.length := h1.elim id fun z => absurd z.1 (by decide)
  have hd := h2.hd
  rw [h1] at hd
  exact ⟨h1, by omega, by omega⟩
theorem begP_n {hs : List Int} {i f w : Int} {m : Nm} {s : Int} {b : Bool} : (begP hs i f w m s b).1.length ≤ 2 := by
  unfold begP
  generalize (fnd hs i f w m.chain m.nice 0 s).getD 0 0 = x1
  generalize (fnd hs i f w m.chain m.nice 0 s).getD 1 0 = y1
  unfold begR
  split
  · exact Nat.le_succ 1
  · exact Nat.zero_le 2
theorem goP_n {hs : List Int} {i f w : Int} {m : Nm} {s x y : Int} {b : Bool} : (goP hs i f w m s b x y).1.length ≤ 2 := by
  unfold goP
  generalize (btr hs i f w m s x).getD 0 0 = x1
  generalize (btr hs i f w m s x).getD 1 0 = y1
  unfold goR
  split
  · exact Nat.le_succ 1
  · split
    · exact Nat.le_refl 2
    · exact Nat.le_succ 1
theorem stp_n {hs : List Int} {i f w : Int} {m : Nm} {s x y : Int} {b : Bool} : (stp hs i f w m s b x y).1.length ≤ 2 := by
  unfold stp
  split
  · exact Nat.le_succ 1
  · split
    · exact Nat.le_succ 1
    · split
      · exact Nat.le_succ 1
      · split
        · exact begP_n
        · exact goP_n


end
end K52

namespace K52
open PySem PySem.Spec PyProof.Rows L2 Bel
local macro_rules | `(tactic| wtm_at "xs") => `(tactic| simp only [x_next, x_seq, x_brk, x_cont, x_drop, x_ret, x_retN, x_if, sel_t, sel_f, selE_t, selE_f, selT_t, selT_f, selC_t, selC_f, x_test, x_tB, x_op, x_un, x_var, x_c, x_cb, x_nil, x_cons, x_rI, x_rI0, x_rU, x_rEq, x_rNe, x_rIxL, x_rIxT, x_rSlL, x_rCat, x_rRep, x_rApp, x_bm, x_bm0, x_sl, x_nopart, x_part, x_tup, x_lst, x_call, x_callS, x_asg, x_gname, x_gtup, x_gnil, x_gcons, x_gsub, x_setL, x_aug, x_ipI, x_ipC, x_bits, x_getL, x_augS, x_and, x_or, x_not, x_k, x_andV, x_orV, x_notV, x_ife, x_chain, x_for, x_ilist, x_itup, x_ienum, x_irng1, x_irng2, x_irev, x_lc, x_yes, wipe_nil, wipe_cons, List.map_cons, List.map_nil, x_misc, x_misc2, x_rz, lookup_at, Bool.not_true, Bool.not_false, decide_true, decide_false, not_true, not_false_eq_true, and_assoc, exists_and_left, exists_eq_left', exists_eq_left, exists_eq', exists_eq_right', exists_eq_right, V.int.injEq, V.ref.injEq, V.bl.injEq, V.str.injEq, List.cons.injEq, and_true, true_and, and_self, Option.some.injEq, List.cons_append, List.nil_append, List.append_nil, List.getElem?_cons_zero, List.getElem?_cons_succ, List.set_cons_zero, List.set_cons_succ, reduceCtorEq, false_and, and_false, exists_false, exists_const, or_false, false_or, scal_ii, scal_bb, scal_ss, List.length_cons, List.length_nil, Int.reduceToNat, Int.reducePow])
local macro_rules | `(tactic| k_call_by "xs" $h:term) => `(tactic| simp only [$h:term, x_next, x_seq, x_brk, x_cont, x_drop, x_ret, x_retN, x_if, sel_t, sel_f, selE_t, selE_f, selT_t, selT_f, selC_t, selC_f, x_test, x_tB, x_op, x_un, x_var, x_c, x_cb, x_nil, x_cons, x_rI, x_rI0, x_rU, x_rEq, x_rNe, x_rIxL, x_rIxT, x_rSlL, x_rCat, x_rRep, x_rApp, x_bm, x_bm0, x_sl, x_nopart, x_part, x_tup, x_lst, x_call, x_callS, x_asg, x_gname, x_gtup, x_gnil, x_gcons, x_gsub, x_setL, x_aug, x_ipI, x_ipC, x_bits, x_getL, x_augS, x_and, x_or, x_not, x_k, x_andV, x_orV, x_notV, x_ife, x_chain, x_for, x_ilist, x_itup, x_ienum, x_irng1, x_irng2, x_irev, x_lc, x_yes, wipe_nil, wipe_cons, List.map_cons, List.map_nil, x_misc, x_misc2, x_rz, lookup_at, Bool.not_true, Bool.not_false, decide_true, decide_false, not_true, not_false_eq_true, and_assoc, exists_and_left, exists_eq_left', exists_eq_left, exists_eq', exists_eq_right', exists_eq_right, V.int.injEq, V.ref.injEq, V.bl.injEq, V.str.injEq, List.cons.injEq, and_true, true_and, and_self, Option.some.injEq, List.cons_append, List.nil_append, List.append_nil, List.getElem?_cons_zero, List.getElem?_cons_succ, List.set_cons_zero, List.set_cons_succ, reduceCtorEq, false_and, and_false, exists_false, exists_const, or_false, false_or, scal_ii, scal_bb, scal_ss, List.length_cons, List.length_nil, Int.reduceToNat, Int.reducePow])
local macro_rules | `(tactic| wtm_at "hp") => `(tactic| first | (with_reducible assumption) | exact upd_same | (refine upd_keep (by with_reducible assumption) ?_; wtm_at "hp") | (refine Same.get (by with_reducible assumption) ?_; wtm_at "hp") | (refine upd_other (by first | (with_reducible assumption) | exact Ne.symm (by with_reducible assumption)) ?_; wtm_at "hp"))
local macro_rules | `(tactic| wtm_at "sq") => `(tactic| first | (with_reducible assumption) | exact SqL.of (by wtm_at "hp") | exact SqT.of (by wtm_at "hp") | (refine Same.seq (same_upd (by with_reducible assumption)) ?_; wtm_at "sq") | (refine Same.seq (by with_reducible assumption) ?_; wtm_at "sq") | (refine Same.seqT (same_upd (by with_reducible assumption)) ?_; wtm_at "sq") | (refine Same.seqT (by with_reducible assumption) ?_; wtm_at "sq"))
local macro_rules | `(tactic| wtm_at "cl") => `(tactic| first | (with_reducible assumption) | omega | (exact cmul_r (by omega) (by omega)) | (exact cmul_l (by omega) (by omega)) | (exact cdiv_ok (by omega) (by omega)) | (exact cpow_ok (by decide)) | (exact ⟨by omega, by omega, by omega⟩) | decide | (exact ⟨by omega, by omega⟩) | (simp only [List.length_append, List.length_map, List.length_set, List.length_cons, List.length_nil, rngL_len, sizeLine_eq]; omega) | wtm_at "hp" | wtm_at "sq")
local macro_rules | `(tactic| wtm_at "pf") => `(tactic| first | (with_reducible assumption) | omega | (simp only [List.length_append, List.length_map, List.length_set, List.length_cons, List.length_nil, rngL_len]; omega) | (with_reducible rfl) | (with_reducible trivial) | (with_reducible decide))
local macro_rules | `(tactic| wtm_at "st") => `(tactic| first | ((with_reducible refine g_at ?_); refine at_call (by wtm_at "sq") (by omega) (by omega) (fun _ _ => ?_)) | ((with_reducible refine g_int ?_); refine int_call ?_) | ((with_reducible refine g_isi ?_); first | (with_reducible refine isi_ii ?_) | (with_reducible refine isi_ib ?_) | (refine isi_int rfl ?_) | (refine isi_lst rfl (by wtm_at "hp") ?_) | (refine isi_tup rfl (by wtm_at "hp") ?_)) | ((with_reducible refine g_ned ?_); refine ned_f (dq_lst (by wtm_at "sq")) (dq_lst (by wtm_at "sq")) ?_) | ((with_reducible refine g_eqd ?_); refine eqd_t (dq_lst (by wtm_at "sq")) (dq_lst (by wtm_at "sq")) ?_) | ((with_reducible refine g_tyv ?_); refine and_tyv (by wtm_at "sq") ?_) | ((with_reducible refine g_asq ?_); refine and_sq (by wtm_at "sq") ?_) | ((with_reducible refine g_lst ?_); refine ex_lst (by wtm_at "hp") ?_) | ((with_reducible refine g_or ?_); first | (refine ex_or (by wtm_at "sq") ?_) | (refine ex_ort (by wtm_at "sq") ?_)) | ((with_reducible refine g_sq ?_); refine ex_sq (by wtm_at "sq") ?_) | ((with_reducible refine g_sqt ?_); refine ex_sqt (by wtm_at "sq") ?_) | ((with_reducible refine gd_sel ?_); first | (refine sel_p (by wtm_at "pf") ?_) | (refine sel_n (by wtm_at "pf") ?_)) | ((with_reducible refine gn_sel ?_); first | (refine selN_p (by wtm_at "pf") ?_) | (refine selN_n (by wtm_at "pf") ?_)) | ((with_reducible refine gd_selT ?_); first | (refine selT_p (by wtm_at "pf") ?_) | (refine selT_n (by wtm_at "pf") ?_)) | ((with_reducible refine gn_selT ?_); first | (refine selTN_p (by wtm_at "pf") ?_) | (refine selTN_n (by wtm_at "pf") ?_)) | ((with_reducible refine gd_selE ?_); first | (refine selE_p (by wtm_at "pf") ?_) | (refine selE_n (by wtm_at "pf") ?_)) | ((with_reducible refine gn_selE ?_); first | (refine selEN_p (by wtm_at "pf") ?_) | (refine selEN_n (by wtm_at "pf") ?_)) | ((with_reducible refine g_xf ?_); refine xf_at rfl (by wtm_at "hp") ?_) | ((with_reducible refine g_atI ?_); refine ex_at (by first | exact rfl | exact atI_int (by omega) (by wtm_at "pf") | exact atI_end (by wtm_at "pf")) ?_) | ((with_reducible refine g_and ?_); refine And.intro (by wtm_at "cl") ?_) | ((with_reducible refine g_new ?_); intro _ _))
local macro_rules | `(tactic| wtm_at "go") => `(tactic| repeat (first | wtm_at "xs" | wtm_at "st"))
local macro_rules | `(tactic| wtm_at "xo") => `(tactic| simp only [x_next, x_seq, x_brk, x_cont, x_drop, x_ret, x_retN, x_if, sel_t, sel_f, selE_t, selE_f, selT_t, selT_f, selC_t, selC_f, x_test, x_tB, x_op, x_un, x_var, x_c, x_cb, x_nil, x_cons, x_rI, x_rI0, x_rU, x_rEq, x_rNe, x_rIxL, x_rIxT, n_rSlL, n_rCat, n_rRep, n_rApp, x_bm, x_bm0, x_sl, x_nopart, x_part, n_tup, n_lst, x_call, x_callS, x_asg, x_gname, x_gtup, x_gnil, x_gcons, x_gsub, n_setL, x_aug, x_ipI, x_ipC, x_bits, x_getL, x_augS, x_and, x_or, x_not, x_k, x_andV, x_orV, x_notV, x_ife, x_chain, x_for, x_ilist, x_itup, x_ienum, x_irng1, x_irng2, x_irev, x_lc, x_yes, wipe_nil, wipe_cons, List.map_cons, List.map_nil, x_misc, x_misc2, x_rz, lookup_at, Bool.not_true, Bool.not_false, decide_true, decide_false, not_true, not_false_eq_true, and_assoc, exists_and_left, exists_eq_left', exists_eq_left, exists_eq', exists_eq_right', exists_eq_right, V.int.injEq, V.ref.injEq, V.bl.injEq, V.str.injEq, List.cons.injEq, and_true, true_and, and_self, Option.some.injEq, List.cons_append, List.nil_append, List.append_nil, List.getElem?_cons_zero, List.getElem?_cons_succ, List.set_cons_zero, List.set_cons_succ, reduceCtorEq, false_and, and_false, exists_false, exists_const, or_false, false_or, scal_ii, scal_bb, scal_ss, List.length_cons, List.length_nil, Int.reduceToNat, Int.reducePow, n_fld, n_dnew, n_dput, n_din, n_dget, n_dget2, n_glst, n_sfld, n_aug, n_meth, n_mw, n_make, n_kw, n_rLs, n_dcp, n_ext, n_revL, n_rTp, t_im, ints_rev, t_s1, t_i1, t_i2, t_i3, t_i4, t_i5, x_chain3, x_irng3, x_irevR, x_rg1, x_rg2, ints_cat, ints_app1, ints_len, ints_take, ints_drop, rep_one])
local macro_rules | `(tactic| k_call_by "xo" $h:term) => `(tactic| simp only [$h:term, x_next, x_seq, x_brk, x_cont, x_drop, x_ret, x_retN, x_if, sel_t, sel_f, selE_t, selE_f, selT_t, selT_f, selC_t, selC_f, x_test, x_tB, x_op, x_un, x_var, x_c, x_cb, x_nil, x_cons, x_rI, x_rI0, x_rU, x_rEq, x_rNe, x_rIxL, x_rIxT, n_rSlL, n_rCat, n_rRep, n_rApp, x_bm, x_bm0, x_sl, x_nopart, x_part, n_tup, n_lst, x_call, x_callS, x_asg, x_gname, x_gtup, x_gnil, x_gcons, x_gsub, n_setL, x_aug, x_ipI, x_ipC, x_bits, x_getL, x_augS, x_and, x_or, x_not, x_k, x_andV, x_orV, x_notV, x_ife, x_chain, x_for, x_ilist, x_itup, x_ienum, x_irng1, x_irng2, x_irev, x_lc, x_yes, wipe_nil, wipe_cons, List.map_cons, List.map_nil, x_misc, x_misc2, x_rz, lookup_at, Bool.not_true, Bool.not_false, decide_true, decide_false, not_true, not_false_eq_true, and_assoc, exists_and_left, exists_eq_left', exists_eq_left, exists_eq', exists_eq_right', exists_eq_right, V.int.injEq, V.ref.injEq, V.bl.injEq, V.str.injEq, List.cons.injEq, and_true, true_and, and_self, Option.some.injEq, List.cons_append, List.nil_append, List.append_nil, List.getElem?_cons_zero, List.getElem?_cons_succ, List.set_cons_zero, List.set_cons_succ, reduceCtorEq, false_and, and_false, exists_false, exists_const, or_false, false_or, scal_ii, scal_bb, scal_ss, List.length_cons, List.length_nil, Int.reduceToNat, Int.reducePow, n_fld, n_dnew, n_dput, n_din, n_dget, n_dget2, n_glst, n_sfld, n_aug, n_meth, n_mw, n_make, n_kw, n_rLs, n_dcp, n_ext, n_revL, n_rTp, t_im, ints_rev, t_s1, t_i1, t_i2, t_i3, t_i4, t_i5, x_chain3, x_irng3, x_irevR, x_rg1, x_rg2, ints_cat, ints_app1, ints_len, ints_take, ints_drop, rep_one])
local macro_rules | `(tactic| wtm_at "mem") => `(tactic| first | (with_reducible exact mem_here) | (with_reducible refine mem_there ?_; wtm_at "mem"))
local macro_rules | `(tactic| wtm_at "pp") => `(tactic| first | (with_reducible exact Put.here) | (with_reducible apply Put.there; wtm_at "pp"))
local macro_rules | `(tactic| wtm_at "ho") => `(tactic| first | (with_reducible assumption) | exact Own.get (by with_reducible assumption) (by wtm_at "mem") | exact Own.base (by with_reducible assumption) (by with_reducible assumption))
local macro_rules | `(tactic| wtm_at "qo") => `(tactic| first | (with_reducible assumption) | exact SqL.of (by wtm_at "ho") | exact sqT_tupI (by wtm_at "ho") | exact sqT_tupS (by wtm_at "ho") | exact SqT.of (by wtm_at "ho") | exact Own.imT (by with_reducible assumption) (by wtm_at "mem") | exact Own.sq (by with_reducible assumption) (by with_reducible assumption) | exact Own.sqT (by with_reducible assumption) (by with_reducible assumption))
local macro_rules | `(tactic| wtm_at "sub") => `(tactic| first | exact List.nil_sublist _ | (with_reducible refine List.Sublist.cons_cons _ ?_; wtm_at "sub") | (refine List.Sublist.cons _ ?_; wtm_at "sub"))
local macro_rules | `(tactic| wtm_at "co") => `(tactic| first | (with_reducible assumption) | omega | (exact cmul_r (by omega) (by omega)) | (exact cmul_l (by omega) (by omega)) | (exact cdiv_ok (by omega) (by omega)) | (exact cpow_ok (by decide)) | (exact ⟨by omega, by omega, by omega⟩) | decide | (exact ⟨by omega, by omega⟩) | (simp only [List.length_append, List.length_map, List.length_set, List.length_cons, List.length_nil, rngL_len, sizeLine_eq]; omega) | wtm_at "ho" | wtm_at "qo")
local macro_rules | `(tactic| wtm_at "so") => `(tactic| first | ((with_reducible refine g_dcp ?_); refine dcpI (by wtm_at "ho") ?_) | ((with_reducible refine g_asl ?_); refine And.intro (by rfl) ?_) | ((with_reducible refine g_asqT ?_); refine and_sqT (by wtm_at "qo") ?_) | ((with_reducible refine g_extO ?_); first | (refine extI (by with_reducible assumption) (by wtm_at "pp") (by wtm_at "co") (fun _ _ => ?_)) | (refine extO (by with_reducible assumption) (by wtm_at "pp") (by wtm_at "co") (fun _ _ => ?_))) | ((with_reducible refine g_tp ?_); first | (refine tp_l (by wtm_at "qo") ?_) | (refine tp_t (by wtm_at "qo") ?_)) | ((with_reducible refine g_dputO ?_); refine dputI (by with_reducible assumption) (by wtm_at "pp") (by wtm_at "co") (fun _ _ => ?_)) | ((with_reducible refine g_dinO ?_); refine dinI (by wtm_at "ho") ?_) | ((with_reducible refine g_isDO ?_); refine isDO (by wtm_at "ho") ?_) | ((with_reducible refine g_dg2 ?_); refine dg2I (by wtm_at "ho") ?_) | ((with_reducible refine g_fldO ?_); refine fldO (by wtm_at "ho") (by with_reducible assumption) (by wtm_at "mem") (by wtm_at "lk") ?_) | ((with_reducible refine g_fldC ?_); refine fldC (by wtm_at "ho") (by with_reducible assumption) (by wtm_at "mem") (by wtm_at "lk") ?_) | ((with_reducible refine g_putC ?_); refine putC (by with_reducible assumption) (by wtm_at "pp") (by wtm_at "pu") (by wtm_at "co") (fun _ _ => ?_)) | ((with_reducible refine g_stoO ?_); refine stoO (by with_reducible assumption) (by wtm_at "pp") (by wtm_at "pu") (by with_reducible assumption) (by wtm_at "mem") (by wtm_at "co") (fun _ _ => ?_)) | ((with_reducible refine g_metO ?_); refine metO (by wtm_at "ho") (by wtm_at "ln") ?_) | ((with_reducible refine g_makO ?_); refine makO (by with_reducible assumption) (fun _ _ _ _ => ?_)) | ((with_reducible refine g_sum ?_); refine sum_call (by wtm_at "qo") ?_) | ((with_reducible refine g_cq ?_); exact cq (by with_reducible assumption) (by simp only [rngL_len, List.length_map, List.length_take]; omega)) | ((with_reducible refine g_newO ?_); refine newO (by with_reducible assumption) (fun _ _ _ => ?_)) | ((with_reducible refine g_appO ?_); refine appI (by with_reducible assumption) (by wtm_at "pp") (by wtm_at "co") (fun _ _ => ?_)) | ((with_reducible refine g_setO ?_); refine setI (by with_reducible assumption) (by wtm_at "pp") (by omega) (by wtm_at "co") (fun _ _ => ?_)) | ((with_reducible refine g_appO ?_); refine appO (by with_reducible assumption) (by wtm_at "pp") (by wtm_at "co") (fun _ _ => ?_)) | ((with_reducible refine g_setO ?_); refine setO (by with_reducible assumption) (by wtm_at "pp") (by omega) (by wtm_at "co") (fun _ _ => ?_)) | ((with_reducible refine g_at ?_); refine at_call (by wtm_at "qo") (by omega) (by omega) (fun _ _ => ?_)) | ((with_reducible refine g_int ?_); refine int_call ?_) | ((with_reducible refine g_isi ?_); first | (with_reducible refine isi_ii ?_) | (with_reducible refine isi_ib ?_) | (refine isi_int rfl ?_) | (refine isi_sqL rfl (by wtm_at "qo") ?_) | (refine isi_sqT rfl (by wtm_at "qo") ?_) | (refine isi_bl rfl ?_) | (refine isi_non rfl ?_) | (refine isi_str rfl ?_)) | ((with_reducible refine g_ned ?_); first | (refine ned_f (dq_lst (by wtm_at "qo")) (dq_lst (by wtm_at "qo")) ?_) | (refine ned_ints (by wtm_at "qo") (by wtm_at "qo") ?_) | (refine nedT_ints (by wtm_at "qo") (by wtm_at "qo") ?_)) | ((with_reducible refine g_eqd ?_); first | (refine eqd_t (dq_lst (by wtm_at "qo")) (dq_lst (by wtm_at "qo")) ?_) | (refine eqd_ints (by wtm_at "qo") (by wtm_at "qo") ?_) | (refine eqdT_ints (by wtm_at "qo") (by wtm_at "qo") ?_)) | ((with_reducible refine g_tyv ?_); refine and_tyv (by wtm_at "qo") ?_) | ((with_reducible refine g_asq ?_); refine and_sq (by wtm_at "qo") ?_) | ((with_reducible refine g_lst ?_); refine ex_lst (by wtm_at "ho") ?_) | ((with_reducible refine g_or ?_); first | (refine ex_or (by wtm_at "qo") ?_) | (refine ex_ort (by wtm_at "qo") ?_)) | ((with_reducible refine g_sq ?_); refine ex_sq (by wtm_at "qo") ?_) | ((with_reducible refine g_sqt ?_); refine ex_sqt (by wtm_at "qo") ?_) | ((with_reducible refine gd_sel ?_); first | (refine sel_p (by wtm_at "pf") ?_) | (refine sel_n (by wtm_at "pf") ?_)) | ((with_reducible refine gn_sel ?_); first | (refine selN_p (by wtm_at "pf") ?_) | (refine selN_n (by wtm_at "pf") ?_)) | ((with_reducible refine gd_selT ?_); first | (refine selT_p (by wtm_at "pf") ?_) | (refine selT_n (by wtm_at "pf") ?_)) | ((with_reducible refine gn_selT ?_); first | (refine selTN_p (by wtm_at "pf") ?_) | (refine selTN_n (by wtm_at "pf") ?_)) | ((with_reducible refine gd_selE ?_); first | (refine selE_p (by wtm_at "pf") ?_) | (refine selE_n (by wtm_at "pf") ?_)) | ((with_reducible refine gn_selE ?_); first | (refine selEN_p (by wtm_at "pf") ?_) | (refine selEN_n (by wtm_at "pf") ?_)) | ((with_reducible refine g_xf ?_); refine xf_at rfl (by wtm_at "ho") ?_) | ((with_reducible refine g_atI ?_); refine ex_at (by first | exact rfl | exact atI_int (by omega) (by wtm_at "pf") | exact atI_end (by wtm_at "pf")) ?_) | ((with_reducible refine g_and ?_); refine And.intro (by wtm_at "co") ?_))
local macro_rules | `(tactic| wtm_at "oo") => `(tactic| repeat (first | wtm_at "xo" | wtm_at "so"))
local macro_rules | `(tactic| wtm_at "cR") => `(tactic| (refine' compRi _ (by with_reducible assumption) (by omega) (fun _ _ _ _ _ => ?_) (fun _ _ _ => ?_); rotate_left; focus (wtm_at "oo")))

local macro_rules | `(tactic| wtm_at "lk") => `(tactic| first | (with_reducible exact lk_here) | (simp only [lk_here, lk_skip, lk_nil, nb_0_0, nb_0_1, nb_0_2, nb_0_3, nb_0_4, nb_0_5, nb_0_6, nb_0_7, nb_1_1, nb_1_2, nb_1_3, nb_1_4, nb_1_5, nb_1_6, nb_1_7, nb_2_0, nb_2_2, nb_2_3, nb_2_4, nb_2_5, nb_2_6, nb_2_7, nb_3_0, nb_3_1, nb_3_2, nb_3_3, nb_3_4, nb_3_5, nb_3_6, nb_3_7, nb_4_0, nb_4_1, nb_4_2, nb_4_3, nb_4_4, nb_4_5, nb_4_6, nb_4_7, nb_5_0, nb_5_1, nb_5_3, nb_5_4, nb_5_5, nb_5_6, nb_5_7, nb_6_0, nb_6_1, nb_6_2, nb_6_3, nb_6_4, nb_6_5, nb_6_6, nb_6_7, nb_7_0, nb_7_1, nb_7_2, nb_7_4, nb_7_5, nb_7_6, nb_7_7, nb_8_0, nb_8_1, nb_8_2, nb_8_3, nb_8_4, nb_8_5, nb_8_6, nb_8_7, nb_9_0, nb_9_1, nb_9_2, nb_9_3, nb_9_4, nb_9_5, nb_9_6, nb_9_7, nb_10_0, nb_10_1, nb_10_2, nb_10_3, nb_10_5, nb_10_6, nb_10_7, nb_11_0, nb_11_1, nb_11_2, nb_11_3, nb_11_4, nb_11_6, nb_11_7, nb_12_0, nb_12_1, nb_12_2, nb_12_3, nb_12_4, nb_12_5, nb_12_7, nb_13_0, nb_13_1, nb_13_2, nb_13_3, nb_13_4, nb_13_5, nb_13_6, nb_13_7, nb_14_0, nb_14_1, nb_14_2, nb_14_3, nb_14_4, nb_14_5, nb_14_6, nb_15_0, nb_15_1, nb_15_2, nb_15_3, nb_15_4, nb_15_5, nb_15_6, nb_15_7, nb_16_0, nb_16_1, nb_16_2, nb_16_3, nb_16_4, nb_16_5, nb_16_6, nb_16_7, nb_17_0, nb_17_1, nb_17_2, nb_17_3, nb_17_4, nb_17_5, nb_17_6, nb_17_7, nb_18_0, nb_18_1, nb_18_2, nb_18_3, nb_18_4, nb_18_5, nb_18_6, nb_18_7, nb_19_0, nb_19_1, nb_19_2, nb_19_3, nb_19_4, nb_19_5, nb_19_6, nb_19_7, nb_20_0, nb_20_1, nb_20_2, nb_20_3, nb_20_4, nb_20_5, nb_20_6, nb_20_7, nb_21_0, nb_21_1, nb_21_2, nb_21_3, nb_21_4, nb_21_5, nb_21_6, nb_21_7, nb_22_0, nb_22_1, nb_22_2, nb_22_3, nb_22_4, nb_22_5, nb_22_6, nb_22_7, nb_23_0, nb_23_1, nb_23_2, nb_23_3, nb_23_4, nb_23_5, nb_23_6, nb_23_7, nb_24_0, nb_24_1, nb_24_2, nb_24_3, nb_24_4, nb_24_5, nb_24_6, nb_24_7, nb_25_0, nb_25_1, nb_25_2, nb_25_3, nb_25_4, nb_25_5, nb_25_6, nb_25_7, nb_26_0, nb_26_1, nb_26_2, nb_26_3, nb_26_4, nb_26_5, nb_26_6, nb_26_7]; first | done | exact rfl))
local macro_rules | `(tactic| wtm_at "ln") => `(tactic| first | (with_reducible exact lk_nil) | (simp only [lk_skip, lk_nil, nb_0_0, nb_0_1, nb_0_2, nb_0_3, nb_0_4, nb_0_5, nb_0_6, nb_0_7, nb_1_1, nb_1_2, nb_1_3, nb_1_4, nb_1_5, nb_1_6, nb_1_7, nb_2_0, nb_2_2, nb_2_3, nb_2_4, nb_2_5, nb_2_6, nb_2_7, nb_3_0, nb_3_1, nb_3_2, nb_3_3, nb_3_4, nb_3_5, nb_3_6, nb_3_7, nb_4_0, nb_4_1, nb_4_2, nb_4_3, nb_4_4, nb_4_5, nb_4_6, nb_4_7, nb_5_0, nb_5_1, nb_5_3, nb_5_4, nb_5_5, nb_5_6, nb_5_7, nb_6_0, nb_6_1, nb_6_2, nb_6_3, nb_6_4, nb_6_5, nb_6_6, nb_6_7, nb_7_0, nb_7_1, nb_7_2, nb_7_4, nb_7_5, nb_7_6, nb_7_7, nb_8_0, nb_8_1, nb_8_2, nb_8_3, nb_8_4, nb_8_5, nb_8_6, nb_8_7, nb_9_0, nb_9_1, nb_9_2, nb_9_3, nb_9_4, nb_9_5, nb_9_6, nb_9_7, nb_10_0, nb_10_1, nb_10_2, nb_10_3, nb_10_5, nb_10_6, nb_10_7, nb_11_0, nb_11_1, nb_11_2, nb_11_3, nb_11_4, nb_11_6, nb_11_7, nb_12_0, nb_12_1, nb_12_2, nb_12_3, nb_12_4, nb_12_5, nb_12_7, nb_13_0, nb_13_1, nb_13_2, nb_13_3, nb_13_4, nb_13_5, nb_13_6, nb_13_7, nb_14_0, nb_14_1, nb_14_2, nb_14_3, nb_14_4, nb_14_5, nb_14_6, nb_15_0, nb_15_1, nb_15_2, nb_15_3, nb_15_4, nb_15_5, nb_15_6, nb_15_7, nb_16_0, nb_16_1, nb_16_2, nb_16_3, nb_16_4, nb_16_5, nb_16_6, nb_16_7, nb_17_0, nb_17_1, nb_17_2, nb_17_3, nb_17_4, nb_17_5, nb_17_6, nb_17_7, nb_18_0, nb_18_1, nb_18_2, nb_18_3, nb_18_4, nb_18_5, nb_18_6, nb_18_7, nb_19_0, nb_19_1, nb_19_2, nb_19_3, nb_19_4, nb_19_5, nb_19_6, nb_19_7, nb_20_0, nb_20_1, nb_20_2, nb_20_3, nb_20_4, nb_20_5, nb_20_6, nb_20_7, nb_21_0, nb_21_1, nb_21_2, nb_21_3, nb_21_4, nb_21_5, nb_21_6, nb_21_7, nb_22_0, nb_22_1, nb_22_2, nb_22_3, nb_22_4, nb_22_5, nb_22_6, nb_22_7, nb_23_0, nb_23_1, nb_23_2, nb_23_3, nb_23_4, nb_23_5, nb_23_6, nb_23_7, nb_24_0, nb_24_1, nb_24_2, nb_24_3, nb_24_4, nb_24_5, nb_24_6, nb_24_7, nb_25_0, nb_25_1, nb_25_2, nb_25_3, nb_25_4, nb_25_5, nb_25_6, nb_25_7, nb_26_0, nb_26_1, nb_26_2, nb_26_3, nb_26_4, nb_26_5, nb_26_6, nb_26_7]; done))
local macro_rules | `(tactic| wtm_at "pu") => `(tactic| first | (with_reducible exact pf_nil) | (simp only [pf_nil, pf_here, pf_skip, nb_0_0, nb_0_1, nb_0_2, nb_0_3, nb_0_4, nb_0_5, nb_0_6, nb_0_7, nb_1_1, nb_1_2, nb_1_3, nb_1_4, nb_1_5, nb_1_6, nb_1_7, nb_2_0, nb_2_2, nb_2_3, nb_2_4, nb_2_5, nb_2_6, nb_2_7, nb_3_0, nb_3_1, nb_3_2, nb_3_3, nb_3_4, nb_3_5, nb_3_6, nb_3_7, nb_4_0, nb_4_1, nb_4_2, nb_4_3, nb_4_4, nb_4_5, nb_4_6, nb_4_7, nb_5_0, nb_5_1, nb_5_3, nb_5_4, nb_5_5, nb_5_6, nb_5_7, nb_6_0, nb_6_1, nb_6_2, nb_6_3, nb_6_4, nb_6_5, nb_6_6, nb_6_7, nb_7_0, nb_7_1, nb_7_2, nb_7_4, nb_7_5, nb_7_6, nb_7_7, nb_8_0, nb_8_1, nb_8_2, nb_8_3, nb_8_4, nb_8_5, nb_8_6, nb_8_7, nb_9_0, nb_9_1, nb_9_2, nb_9_3, nb_9_4, nb_9_5, nb_9_6, nb_9_7, nb_10_0, nb_10_1, nb_10_2, nb_10_3, nb_10_5, nb_10_6, nb_10_7, nb_11_0, nb_11_1, nb_11_2, nb_11_3, nb_11_4, nb_11_6, nb_11_7, nb_12_0, nb_12_1, nb_12_2, nb_12_3, nb_12_4, nb_12_5, nb_12_7, nb_13_0, nb_13_1, nb_13_2, nb_13_3, nb_13_4, nb_13_5, nb_13_6, nb_13_7, nb_14_0, nb_14_1, nb_14_2, nb_14_3, nb_14_4, nb_14_5, nb_14_6, nb_15_0, nb_15_1, nb_15_2, nb_15_3, nb_15_4, nb_15_5, nb_15_6, nb_15_7, nb_16_0, nb_16_1, nb_16_2, nb_16_3, nb_16_4, nb_16_5, nb_16_6, nb_16_7, nb_17_0, nb_17_1, nb_17_2, nb_17_3, nb_17_4, nb_17_5, nb_17_6, nb_17_7, nb_18_0, nb_18_1, nb_18_2, nb_18_3, nb_18_4, nb_18_5, nb_18_6, nb_18_7, nb_19_0, nb_19_1, nb_19_2, nb_19_3, nb_19_4, nb_19_5, nb_19_6, nb_19_7, nb_20_0, nb_20_1, nb_20_2, nb_20_3, nb_20_4, nb_20_5, nb_20_6, nb_20_7, nb_21_0, nb_21_1, nb_21_2, nb_21_3, nb_21_4, nb_21_5, nb_21_6, nb_21_7, nb_22_0, nb_22_1, nb_22_2, nb_22_3, nb_22_4, nb_22_5, nb_22_6, nb_22_7, nb_23_0, nb_23_1, nb_23_2, nb_23_3, nb_23_4, nb_23_5, nb_23_6, nb_23_7, nb_24_0, nb_24_1, nb_24_2, nb_24_3, nb_24_4, nb_24_5, nb_24_6, nb_24_7, nb_25_0, nb_25_1, nb_25_2, nb_25_3, nb_25_4, nb_25_5, nb_25_6, nb_25_7, nb_26_0, nb_26_1, nb_26_2, nb_26_3, nb_26_4, nb_26_5, nb_26_6, nb_26_7]; first | done | exact rfl))
local macro_rules | `(tactic| wtm_at "tk") => `(tactic| first | (with_reducible exact Take.here) | (exact Take.here) | ((with_reducible apply Take.there); wtm_at "tk"))
local macro_rules | `(tactic| wtm_at "pk") => `(tactic| first | exact Pick.nil | ((with_reducible refine' Pick.cons ?tk1 ?pk1); (case tk1 => wtm_at "tk"); (case pk1 => wtm_at "pk")) | ((with_reducible refine Pick.im (by wtm_at "mem") ?_); wtm_at "pk") | ((with_reducible refine Pick.ims (by wtm_at "mem") ?_); wtm_at "pk"))
section
variable {P : Program} {w : World} {K : PySem.W.Frag} {mg : Str → Option Value} {base : Heap}
def sp_Chains_twin (K : PySem.W.Frag) : Sp := fun vs H Q _ => ∃ (p dx d b : Addr) (w f : Int) (kvs : List (Key × V)) (bl : List Int), vs = [.ref p] ∧ H p = some (cC K dx w f d b) ∧ H d = some (.dK kvs) ∧ H b = some (.lst (bl.map V.int)) ∧
  ∀ q dx' d' b' H', Own K H H' [.pt q (cC K dx' w f d' b'), .pt d' (.dK kvs), pI b' bl] → Q (.ref q) H'
theorem ok_Chains_twin (T : Tx K mg) : Mth P w K base mg 3 "Chains" "twin" ["self"] (sp_Chains_twin K) [] := by
  obtain ⟨fd, F⟩ := T.d_Chains_twin
  refine ⟨fd, [], F.ok sc_Chains_twin (fun vs H Q E h => ?_) (fun cdv A outer s H vs Q E hr h => ⟨_, (PSs.nox (pss_cons (ps_set (i := 1) sc_Chains_twin.nd rfl (Or.inl rfl) (by exact (pe_mk (ok_Chains___init__ T) (hr.mono (by decide)) rfl (pa_cons (pe_fld (pv 0) rfl) pa_nil))))
 (pss_cons (ps_fld (pv 1) (by exact (pe_fld (pv 0) rfl)) rfl)
 (pss_cons (ps_fld (pv 1) (by exact (pe_callTy dcK rfl T.b_dict (by decide +kernel) (pa_cons (pe_fld (pv 0) rfl) pa_nil))) rfl)
 (pss_cons (ps_fld (pv 1) (by exact (pe_callTy (lsK K) rfl T.b_list (by decide +kernel) (pa_cons (pe_fld (pv 0) rfl) pa_nil))) rfl)
 (pss_one (ps_ret (by exact (pv 1))))))))), ?_⟩), T.m_Chains_twin, T.c_Chains.cl, F.bindsN (fun _ _ _ _ _ _ us hl => match us, hl with | [_], _ => rfl), .nil⟩
  · first | (obtain ⟨rfl, _⟩ := h; rfl) | (obtain ⟨_, rfl, _⟩ := h; rfl) | (obtain ⟨_, _, rfl, _⟩ := h; rfl) | (obtain ⟨_, _, _, rfl, _⟩ := h; rfl) | (obtain ⟨_, _, _, _, rfl, _⟩ := h; rfl) | (obtain ⟨_, _, _, _, _, rfl, _⟩ := h; rfl) | (obtain ⟨_, _, _, _, _, _, rfl, _⟩ := h; rfl) | (obtain ⟨_, _, _, _, _, _, _, rfl, _⟩ := h; rfl) | (obtain ⟨_, _, _, _, _, _, _, _, rfl, _⟩ := h; rfl) | (obtain ⟨_, _, _, _, _, _, _, _, _, rfl, _⟩ := h; rfl) | (obtain ⟨_, _, _, _, _, _, _, _, _, _, rfl, _⟩ := h; rfl) | (obtain ⟨_, _, _, _, _, _, _, _, _, _, _, rfl, _⟩ := h; rfl) | (obtain ⟨_, _, _, _, _, _, _, _, _, _, _, _, rfl, _⟩ := h; rfl) | (obtain ⟨_, _, _, _, _, _, _, _, _, _, _, _, _, rfl, _⟩ := h; rfl) | (obtain ⟨_, _, _, _, _, _, _, _, _, _, _, _, _, _, rfl, _⟩ := h; rfl) | (obtain ⟨_, _, _, _, _, _, _, _, _, _, _, _, _, _, _, rfl, _⟩ := h; rfl) | (obtain ⟨_, _, _, _, _, _, _, _, _, _, _, _, _, _, _, _, rfl, _⟩ := h; rfl) | (obtain ⟨_, _, _, _, _, _, _, _, _, _, _, _, _, _, _, _, _, rfl, _⟩ := h; rfl) | (obtain ⟨_, _, _, _, _, _, _, _, _, _, _, _, _, _, _, _, _, _, rfl, _⟩ := h; rfl) | (obtain ⟨_, _, _, _, _, _, _, _, _, _, _, _, _, _, _, _, _, _, _, rfl, _⟩ := h; rfl) | (obtain ⟨_, _, _, _, _, _, _, _, _, _, _, _, _, _, _, _, _, _, _, _, rfl, _⟩ := h; rfl) | (obtain ⟨_, _, _, _, _, _, _, _, _, _, _, _, _, _, _, _, _, _, _, _, _, rfl, _⟩ := h; rfl)
  · obtain ⟨p, dx, d, b, w, f, kvs, bl, rfl, hp, hd, hb, q⟩ := h
    have cW := T.c_Chains
    k_call_by "xo" st_Chains_twin
    have L := Own.start (K := K) (H := H)
    wtm_at "oo"
    rename_i c2 dx2 H1 L1
    refine ⟨c2, dx2, w, rfl, by wtm_at "ho", fun d2 b2 H2 M => ⟨rfl, ?_⟩⟩
    have L2 := L1.mut1 (by wtm_at "tk") M
    simp only [List.cons_append, List.nil_append] at L2
    clear M L1
    wtm_at "oo"
    rename_i dd G1 N1 G2 N2 bq G3 N3 G4 N4
    exact q c2 dx2 dd bq G4 (N4.pick (by wtm_at "pk"))
def sp_Parser_held (K : PySem.W.Frag) : Sp := fun vs H Q _ => ∃ (p dxp h hh c : Addr) (at_ : Int), vs = [.ref p] ∧ H p = some (pC K dxp h at_ hh c) ∧ Q (.ref hh) H
theorem ok_Parser_held (T : Tx K mg) : Mth P w K base mg 1 "Parser" "held" ["self"] (sp_Parser_held K) [] := by
  obtain ⟨fd, F⟩ := T.d_Parser_held
  refine ⟨fd, [], F.ok sc_Parser_held (fun vs H Q E h => ?_) (fun cdv A outer s H vs Q E hr h => ⟨_, (PSs.nox (pss_one (ps_ret (by exact (pe_fld (pv 0) rfl))))), ?_⟩), T.m_Parser_held, T.c_Parser.cl, F.bindsN (fun _ _ _ _ _ _ us hl => match us, hl with | [_], _ => rfl), .nil⟩
  · first | (obtain ⟨rfl, _⟩ := h; rfl) | (obtain ⟨_, rfl, _⟩ := h; rfl) | (obtain ⟨_, _, rfl, _⟩ := h; rfl) | (obtain ⟨_, _, _, rfl, _⟩ := h; rfl) | (obtain ⟨_, _, _, _, rfl, _⟩ := h; rfl) | (obtain ⟨_, _, _, _, _, rfl, _⟩ := h; rfl) | (obtain ⟨_, _, _, _, _, _, rfl, _⟩ := h; rfl) | (obtain ⟨_, _, _, _, _, _, _, rfl, _⟩ := h; rfl) | (obtain ⟨_, _, _, _, _, _, _, _, rfl, _⟩ := h; rfl) | (obtain ⟨_, _, _, _, _, _, _, _, _, rfl, _⟩ := h; rfl) | (obtain ⟨_, _, _, _, _, _, _, _, _, _, rfl, _⟩ := h; rfl) | (obtain ⟨_, _, _, _, _, _, _, _, _, _, _, rfl, _⟩ := h; rfl) | (obtain ⟨_, _, _, _, _, _, _, _, _, _, _, _, rfl, _⟩ := h; rfl) | (obtain ⟨_, _, _, _, _, _, _, _, _, _, _, _, _, rfl, _⟩ := h; rfl) | (obtain ⟨_, _, _, _, _, _, _, _, _, _, _, _, _, _, rfl, _⟩ := h; rfl) | (obtain ⟨_, _, _, _, _, _, _, _, _, _, _, _, _, _, _, rfl, _⟩ := h; rfl) | (obtain ⟨_, _, _, _, _, _, _, _, _, _, _, _, _, _, _, _, rfl, _⟩ := h; rfl) | (obtain ⟨_, _, _, _, _, _, _, _, _, _, _, _, _, _, _, _, _, rfl, _⟩ := h; rfl) | (obtain ⟨_, _, _, _, _, _, _, _, _, _, _, _, _, _, _, _, _, _, rfl, _⟩ := h; rfl) | (obtain ⟨_, _, _, _, _, _, _, _, _, _, _, _, _, _, _, _, _, _, _, rfl, _⟩ := h; rfl) | (obtain ⟨_, _, _, _, _, _, _, _, _, _, _, _, _, _, _, _, _, _, _, _, rfl, _⟩ := h; rfl) | (obtain ⟨_, _, _, _, _, _, _, _, _, _, _, _, _, _, _, _, _, _, _, _, _, rfl, _⟩ := h; rfl)
  · obtain ⟨p, dxp, h, hh, c, at_, rfl, hp, q⟩ := h
    have cP := T.c_Parser
    k_call_by "xo" st_Parser_held
    wtm_at "oo"
    exact q
def sp_Parser_part (K : PySem.W.Frag) : Sp := fun vs H Q _ => ∃ (p dxp h hh c : Addr) (at_ i j : Int) (hs : List Int), vs = [.ref p, .int i, .int j] ∧ H p = some (pC K dxp h at_ hh c) ∧ SqL K H h (hs.map V.int) ∧ 0 ≤ i ∧ 0 ≤ j ∧
  ∀ r H', Own K H H' [pI r ((hs.drop i.toNat).take (j.toNat - i.toNat))] → Q (.ref r) H'
theorem ok_Parser_part (T : Tx K mg) : Mth P w K base mg 1 "Parser" "part" ["self", "first", "last"] (sp_Parser_part K) [] := by
  obtain ⟨fd, F⟩ := T.d_Parser_part
  refine ⟨fd, [], F.ok sc_Parser_part (fun vs H Q E h => ?_) (fun cdv A outer s H vs Q E hr h => ⟨_, (PSs.nox (pss_one (ps_ret (by exact (pe_slice (slK K) (pe_fld (pv 0) rfl) (po_some (pv 1)) (po_some (pv 2))))))), ?_⟩), T.m_Parser_part, T.c_Parser.cl, F.bindsN (fun _ _ _ _ _ _ us hl => match us, hl with | [_, _, _], _ => rfl), .nil⟩
  · first | (obtain ⟨rfl, _⟩ := h; rfl) | (obtain ⟨_, rfl, _⟩ := h; rfl) | (obtain ⟨_, _, rfl, _⟩ := h; rfl) | (obtain ⟨_, _, _, rfl, _⟩ := h; rfl) | (obtain ⟨_, _, _, _, rfl, _⟩ := h; rfl) | (obtain ⟨_, _, _, _, _, rfl, _⟩ := h; rfl) | (obtain ⟨_, _, _, _, _, _, rfl, _⟩ := h; rfl) | (obtain ⟨_, _, _, _, _, _, _, rfl, _⟩ := h; rfl) | (obtain ⟨_, _, _, _, _, _, _, _, rfl, _⟩ := h; rfl) | (obtain ⟨_, _, _, _, _, _, _, _, _, rfl, _⟩ := h; rfl) | (obtain ⟨_, _, _, _, _, _, _, _, _, _, rfl, _⟩ := h; rfl) | (obtain ⟨_, _, _, _, _, _, _, _, _, _, _, rfl, _⟩ := h; rfl) | (obtain ⟨_, _, _, _, _, _, _, _, _, _, _, _, rfl, _⟩ := h; rfl) | (obtain ⟨_, _, _, _, _, _, _, _, _, _, _, _, _, rfl, _⟩ := h; rfl) | (obtain ⟨_, _, _, _, _, _, _, _, _, _, _, _, _, _, rfl, _⟩ := h; rfl) | (obtain ⟨_, _, _, _, _, _, _, _, _, _, _, _, _, _, _, rfl, _⟩ := h; rfl) | (obtain ⟨_, _, _, _, _, _, _, _, _, _, _, _, _, _, _, _, rfl, _⟩ := h; rfl) | (obtain ⟨_, _, _, _, _, _, _, _, _, _, _, _, _, _, _, _, _, rfl, _⟩ := h; rfl) | (obtain ⟨_, _, _, _, _, _, _, _, _, _, _, _, _, _, _, _, _, _, rfl, _⟩ := h; rfl) | (obtain ⟨_, _, _, _, _, _, _, _, _, _, _, _, _, _, _, _, _, _, _, rfl, _⟩ := h; rfl) | (obtain ⟨_, _, _, _, _, _, _, _, _, _, _, _, _, _, _, _, _, _, _, _, rfl, _⟩ := h; rfl) | (obtain ⟨_, _, _, _, _, _, _, _, _, _, _, _, _, _, _, _, _, _, _, _, _, rfl, _⟩ := h; rfl)
  · obtain ⟨p, dxp, h, hh, c, at_, i, j, hs, rfl, hp, hS, i0, j0, q⟩ := h
    have cP := T.c_Parser
    k_call_by "xo" st_Parser_part
    have L := Own.start (K := K) (H := H)
    wtm_at "oo"
    rename_i r H1 L1
    rw [cut_ii i0 j0, ints_drop, ints_take] at L1
    exact q r H1 L1
def sp_Parser_forget (K : PySem.W.Frag) : Sp := fun vs H Q E => ∃ (p dxp h hh c dx d bb : Addr) (at_ x y w f : Int) (hs : List Int), vs = [.ref p] ∧ H p = some (pC K dxp h at_ hh c) ∧ H c = some (cC K dx w f d bb) ∧ SqL K H h (hs.map V.int) ∧ SqT K H hh ([x, y].map V.int) ∧
  ((if (x = 0 ∧ y = 0) then at_ else at_ - 1) = hs.length → ∀ H', Own K (delL H [c]) H' [.pt c (cC K dx w (max f hs.length) d bb)] → Q .non H') ∧
  (¬ (if (x = 0 ∧ y = 0) then at_ else at_ - 1) = hs.length → ∀ z, H z = none → E (.ref (He.ga K "Busy")) (some z) (upd H z (.xd [("at", .int (if (x = 0 ∧ y = 0) then at_ else at_ - 1))])))
theorem ok_Parser_forget (T : Tx K mg) : Mth P w K base mg 3 "Parser" "forget" ["self"] (sp_Parser_forget K) [] := by
  obtain ⟨fd, F⟩ := T.d_Parser_forget
  refine ⟨fd, [], F.ok sc_Parser_forget (fun vs H Q E h => ?_) (fun cdv A outer s H vs Q E hr h => ⟨_, (pss_cons (ps_if (pt_cmpR op_ne (pe_mt0 (ok_Parser_front T) (hr.mono (by decide)) (pv 0)) (pe_mt0 (ok_Parser_end T) (hr.mono (by decide)) (pv 0)) (nomark _))
 (pss_one (ps_raiseB T.x_Busy (ok_init T) (hr.mono (by decide)) (L2N.takes_of rfl rfl rfl rfl) (by exact (pa_cons (pe_mt0 (ok_Parser_front T) (hr.mono (by decide)) (pv 0)) pa_nil))))
 pss_nil)
 (pss_one (ps_expr (pe_mt (ok_Chains_forget T) (hr.mono (by decide)) (pe_fld (pv 0) rfl) (pa_cons (pe_mt0 (ok_Parser_end T) (hr.mono (by decide)) (pv 0)) pa_nil))))), ?_⟩), T.m_Parser_forget, T.c_Parser.cl, F.bindsN (fun _ _ _ _ _ _ us hl => match us, hl with | [_], _ => rfl), .nil⟩
  · first | (obtain ⟨rfl, _⟩ := h; rfl) | (obtain ⟨_, rfl, _⟩ := h; rfl) | (obtain ⟨_, _, rfl, _⟩ := h; rfl) | (obtain ⟨_, _, _, rfl, _⟩ := h; rfl) | (obtain ⟨_, _, _, _, rfl, _⟩ := h; rfl) | (obtain ⟨_, _, _, _, _, rfl, _⟩ := h; rfl) | (obtain ⟨_, _, _, _, _, _, rfl, _⟩ := h; rfl) | (obtain ⟨_, _, _, _, _, _, _, rfl, _⟩ := h; rfl) | (obtain ⟨_, _, _, _, _, _, _, _, rfl, _⟩ := h; rfl) | (obtain ⟨_, _, _, _, _, _, _, _, _, rfl, _⟩ := h; rfl) | (obtain ⟨_, _, _, _, _, _, _, _, _, _, rfl, _⟩ := h; rfl) | (obtain ⟨_, _, _, _, _, _, _, _, _, _, _, rfl, _⟩ := h; rfl) | (obtain ⟨_, _, _, _, _, _, _, _, _, _, _, _, rfl, _⟩ := h; rfl) | (obtain ⟨_, _, _, _, _, _, _, _, _, _, _, _, _, rfl, _⟩ := h; rfl) | (obtain ⟨_, _, _, _, _, _, _, _, _, _, _, _, _, _, rfl, _⟩ := h; rfl) | (obtain ⟨_, _, _, _, _, _, _, _, _, _, _, _, _, _, _, rfl, _⟩ := h; rfl) | (obtain ⟨_, _, _, _, _, _, _, _, _, _, _, _, _, _, _, _, rfl, _⟩ := h; rfl) | (obtain ⟨_, _, _, _, _, _, _, _, _, _, _, _, _, _, _, _, _, rfl, _⟩ := h; rfl) | (obtain ⟨_, _, _, _, _, _, _, _, _, _, _, _, _, _, _, _, _, _, rfl, _⟩ := h; rfl) | (obtain ⟨_, _, _, _, _, _, _, _, _, _, _, _, _, _, _, _, _, _, _, rfl, _⟩ := h; rfl) | (obtain ⟨_, _, _, _, _, _, _, _, _, _, _, _, _, _, _, _, _, _, _, _, rfl, _⟩ := h; rfl) | (obtain ⟨_, _, _, _, _, _, _, _, _, _, _, _, _, _, _, _, _, _, _, _, _, rfl, _⟩ := h; rfl)
  · obtain ⟨p, dxp, h, hh, c, dx, d, bb, at_, x, y, w, f, hs, rfl, hp, hc, hS, hx, q, qe⟩ := h
    have cP := T.c_Parser
    k_call_by "xo" st_Parser_forget
    wtm_at "oo"
    refine ⟨p, dxp, h, hh, c, at_, x, y, rfl, hp, hx, ?_⟩
    wtm_at "oo"
    refine ⟨p, dxp, h, hh, c, at_, hs, rfl, hp, hS, ?_⟩
    generalize hfr : (if (x = 0 ∧ y = 0) then at_ else at_ - 1) = fr at *
    wtm_at "oo"
    refine sel_nd (fun c1 => ?_) (fun c1 => ?_)
    · have qe := qe c1
      clear q
      wtm_at "oo"
      refine ⟨p, dxp, h, hh, c, at_, x, y, rfl, hp, hx, ?_⟩
      rw [hfr]
      wtm_at "oo"
      exact bz T.x_Busy qe
    · have q := q c1
      clear qe
      have L := Own.in1 (K := K) hc
      wtm_at "oo"
      refine ⟨p, dxp, h, hh, c, at_, hs, rfl, hp, hS, ?_⟩
      wtm_at "oo"
      refine ⟨c, dx, d, bb, w, f, _, rfl, hc, fun H1 M => ?_⟩
      wtm_at "oo"
      exact q H1 M
def sp_Parser_twin (K : PySem.W.Frag) : Sp := fun vs H Q _ => ∃ (p dxp h hh c dx d bb : Addr) (at_ x y w f : Int) (hs bl : List Int) (kvs : List (Key × V)), vs = [.ref p] ∧ H p = some (pC K dxp h at_ hh c) ∧ H c = some (cC K dx w f d bb) ∧ SqL K H h (hs.map V.int) ∧ SqT K H hh ([x, y].map V.int) ∧
  H d = some (.dK kvs) ∧ H bb = some (.lst (bl.map V.int)) ∧
  ∀ p' dxp' h' c' dx' d' bb' H', Own K H H' [.pt p' (pC K dxp' h' at_ hh c'), pI h' hs, .pt c' (cC K dx' w f d' bb'), .pt d' (.dK kvs), pI bb' bl] → Q (.ref p') H'
theorem ok_Parser_twin (T : Tx K mg) : Mth P w K base mg 5 "Parser" "twin" ["self"] (sp_Parser_twin K) [] := by
  obtain ⟨fd, F⟩ := T.d_Parser_twin
  refine ⟨fd, [], F.ok sc_Parser_twin (fun vs H Q E h => ?_) (fun cdv A outer s H vs Q E hr h => ⟨_, (PSs.nox (pss_cons (ps_set (i := 1) sc_Parser_twin.nd rfl (Or.inl rfl) (by exact (pe_mk (ok_Parser___init__ T) (hr.mono (by decide)) rfl (pa_cons (pe_fld (pv 0) rfl) (pa_cons (pe_fld (pv 0) rfl) (pa_cons pe_int (pa_cons pe_int pa_nil)))))))
 (pss_cons (ps_fld (pv 1) (by exact (pe_fld (pv 0) rfl)) rfl)
 (pss_cons (ps_fld (pv 1) (by exact (pe_mt0 (ok_Chains_twin T) (hr.mono (by decide)) (pe_fld (pv 0) rfl))) rfl)
 (pss_one (ps_ret (by exact (pv 1)))))))), ?_⟩), T.m_Parser_twin, T.c_Parser.cl, F.bindsN (fun _ _ _ _ _ _ us hl => match us, hl with | [_], _ => rfl), .nil⟩
  · first | (obtain ⟨rfl, _⟩ := h; rfl) | (obtain ⟨_, rfl, _⟩ := h; rfl) | (obtain ⟨_, _, rfl, _⟩ := h; rfl) | (obtain ⟨_, _, _, rfl, _⟩ := h; rfl) | (obtain ⟨_, _, _, _, rfl, _⟩ := h; rfl) | (obtain ⟨_, _, _, _, _, rfl, _⟩ := h; rfl) | (obtain ⟨_, _, _, _, _, _, rfl, _⟩ := h; rfl) | (obtain ⟨_, _, _, _, _, _, _, rfl, _⟩ := h; rfl) | (obtain ⟨_, _, _, _, _, _, _, _, rfl, _⟩ := h; rfl) | (obtain ⟨_, _, _, _, _, _, _, _, _, rfl, _⟩ := h; rfl) | (obtain ⟨_, _, _, _, _, _, _, _, _, _, rfl, _⟩ := h; rfl) | (obtain ⟨_, _, _, _, _, _, _, _, _, _, _, rfl, _⟩ := h; rfl) | (obtain ⟨_, _, _, _, _, _, _, _, _, _, _, _, rfl, _⟩ := h; rfl) | (obtain ⟨_, _, _, _, _, _, _, _, _, _, _, _, _, rfl, _⟩ := h; rfl) | (obtain ⟨_, _, _, _, _, _, _, _, _, _, _, _, _, _, rfl, _⟩ := h; rfl) | (obtain ⟨_, _, _, _, _, _, _, _, _, _, _, _, _, _, _, rfl, _⟩ := h; rfl) | (obtain ⟨_, _, _, _, _, _, _, _, _, _, _, _, _, _, _, _, rfl, _⟩ := h; rfl) | (obtain ⟨_, _, _, _, _, _, _, _, _, _, _, _, _, _, _, _, _, rfl, _⟩ := h; rfl) | (obtain ⟨_, _, _, _, _, _, _, _, _, _, _, _, _, _, _, _, _, _, rfl, _⟩ := h; rfl) | (obtain ⟨_, _, _, _, _, _, _, _, _, _, _, _, _, _, _, _, _, _, _, rfl, _⟩ := h; rfl) | (obtain ⟨_, _, _, _, _, _, _, _, _, _, _, _, _, _, _, _, _, _, _, _, rfl, _⟩ := h; rfl) | (obtain ⟨_, _, _, _, _, _, _, _, _, _, _, _, _, _, _, _, _, _, _, _, _, rfl, _⟩ := h; rfl)
  · obtain ⟨p, dxp, h, hh, c, dx, d, bb, at_, x, y, w, f, hs, bl, kvs, rfl, hp, hc, hS, hx, hd, hb, q⟩ := h
    have cP := T.c_Parser
    k_call_by "xo" st_Parser_twin
    have L := Own.start (K := K) (H := H)
    wtm_at "oo"
    rename_i p2 dxp2 H1 L1
    refine ⟨p2, dxp2, h, at_, 0, 1, hs, rfl, by wtm_at "ho", by wtm_at "qo", fun h2 c2 dx2 d2 bb2 hh2 H2 M => ⟨rfl, ?_⟩⟩
    have L2 := L1.mut1 (by wtm_at "tk") M
    simp only [List.cons_append, List.nil_append] at L2
    clear M L1
    wtm_at "oo"
    refine ⟨c, dx, d, bb, w, f, kvs, bl, rfl, by wtm_at "ho", by wtm_at "ho", by wtm_at "ho", fun cq dxq dq bq H5 M => ?_⟩
    rename_i G2 L3
    have L4 := L3.calls M
    simp only [List.cons_append, List.nil_append] at L4
    clear M L3 L2
    wtm_at "oo"
    rename_i G3 N3
    exact q p2 dxp2 h2 cq dxq dq bq G3 (N3.pick (by wtm_at "pk"))


end
end K52

namespace K52
open PySem PySem.Spec PyProof.Rows L2 Bel
local macro_rules | `(tactic| wtm_at "xs") => `(tactic| simp only [x_next, x_seq, x_brk, x_cont, x_drop, x_ret, x_retN, x_if, sel_t, sel_f, selE_t, selE_f, selT_t, selT_f, selC_t, selC_f, x_test, x_tB, x_op, x_un, x_var, x_c, x_cb, x_nil, x_cons, x_rI, x_rI0, x_rU, x_rEq, x_rNe, x_rIxL, x_rIxT, x_rSlL, x_rCat, x_rRep, x_rApp, x_bm, x_bm0, x_sl, x_nopart, x_part, x_tup, x_lst, x_call, x_callS, x_asg, x_gname, x_gtup, x_gnil, x_gcons, x_gsub, x_setL, x_aug, x_ipI, x_ipC, x_bits, x_getL, x_augS, x_and, x_or, x_not, x_k, x_andV, x_orV, x_notV, x_ife, x_chain, x_for, x_ilist, x_itup, x_ienum, x_irng1, x_irng2, x_irev, x_lc, x_yes, wipe_nil, wipe_cons, List.map_cons, List.map_nil, x_misc, x_misc2, x_rz, lookup_at, Bool.not_true, Bool.not_false, decide_true, decide_false, not_true, not_false_eq_true, and_assoc, exists_and_left, exists_eq_left', exists_eq_left, exists_eq', exists_eq_right', exists_eq_right, V.int.injEq, V.ref.injEq, V.bl.injEq, V.str.injEq, List.cons.injEq, and_true, true_and, and_self, Option.some.injEq, List.cons_append, List.nil_append, List.append_nil, List.getElem?_cons_zero, List.getElem?_cons_succ, List.set_cons_zero, List.set_cons_succ, reduceCtorEq, false_and, and_false, exists_false, exists_const, or_false, false_or, scal_ii, scal_bb, scal_ss, List.length_cons, List.length_nil, Int.reduceToNat, Int.reducePow])
local macro_rules | `(tactic| k_call_by "xs" $h:term) => `(tactic| simp only [$h:term, x_next, x_seq, x_brk, x_cont, x_drop, x_ret, x_retN, x_if, sel_t, sel_f, selE_t, selE_f, selT_t, selT_f, selC_t, selC_f, x_test, x_tB, x_op, x_un, x_var, x_c, x_cb, x_nil, x_cons, x_rI, x_rI0, x_rU, x_rEq, x_rNe, x_rIxL, x_rIxT, x_rSlL, x_rCat, x_rRep, x_rApp, x_bm, x_bm0, x_sl, x_nopart, x_part, x_tup, x_lst, x_call, x_callS, x_asg, x_gname, x_gtup, x_gnil, x_gcons, x_gsub, x_setL, x_aug, x_ipI, x_ipC, x_bits, x_getL, x_augS, x_and, x_or, x_not, x_k, x_andV, x_orV, x_notV, x_ife, x_chain, x_for, x_ilist, x_itup, x_ienum, x_irng1, x_irng2, x_irev, x_lc, x_yes, wipe_nil, wipe_cons, List.map_cons, List.map_nil, x_misc, x_misc2, x_rz, lookup_at, Bool.not_true, Bool.not_false, decide_true, decide_false, not_true, not_false_eq_true, and_assoc, exists_and_left, exists_eq_left', exists_eq_left, exists_eq', exists_eq_right', exists_eq_right, V.int.injEq, V.ref.injEq, V.bl.injEq, V.str.injEq, List.cons.injEq, and_true, true_and, and_self, Option.some.injEq, List.cons_append, List.nil_append, List.append_nil, List.getElem?_cons_zero, List.getElem?_cons_succ, List.set_cons_zero, List.set_cons_succ, reduceCtorEq, false_and, and_false, exists_false, exists_const, or_false, false_or, scal_ii, scal_bb, scal_ss, List.length_cons, List.length_nil, Int.reduceToNat, Int.reducePow])
local macro_rules | `(tactic| wtm_at "hp") => `(tactic| first | (with_reducible assumption) | exact upd_same | (refine upd_keep (by with_reducible assumption) ?_; wtm_at "hp") | (refine Same.get (by with_reducible assumption) ?_; wtm_at "hp") | (refine upd_other (by first | (with_reducible assumption) | exact Ne.symm (by with_reducible assumption)) ?_; wtm_at "hp"))
local macro_rules | `(tactic| wtm_at "sq") => `(tactic| first | (with_reducible assumption) | exact SqL.of (by wtm_at "hp") | exact SqT.of (by wtm_at "hp") | (refine Same.seq (same_upd (by with_reducible assumption)) ?_; wtm_at "sq") | (refine Same.seq (by with_reducible assumption) ?_; wtm_at "sq") | (refine Same.seqT (same_upd (by with_reducible assumption)) ?_; wtm_at "sq") | (refine Same.seqT (by with_reducible assumption) ?_; wtm_at "sq"))
local macro_rules | `(tactic| wtm_at "cl") => `(tactic| first | (with_reducible assumption) | omega | (exact cmul_r (by omega) (by omega)) | (exact cmul_l (by omega) (by omega)) | (exact cdiv_ok (by omega) (by omega)) | (exact cpow_ok (by decide)) | (exact ⟨by omega, by omega, by omega⟩) | decide | (exact ⟨by omega, by omega⟩) | (simp only [List.length_append, List.length_map, List.length_set, List.length_cons, List.length_nil, rngL_len, sizeLine_eq]; omega) | wtm_at "hp" | wtm_at "sq")
local macro_rules | `(tactic| wtm_at "pf") => `(tactic| first | (with_reducible assumption) | omega | (simp only [List.length_append, List.length_map, List.length_set, List.length_cons, List.length_nil, rngL_len]; omega) | (with_reducible rfl) | (with_reducible trivial) | (with_reducible decide))
local macro_rules | `(tactic| wtm_at "st") => `(tactic| first | ((with_reducible refine g_at ?_); refine at_call (by wtm_at "sq") (by omega) (by omega) (fun _ _ => ?_)) | ((with_reducible refine g_int ?_); refine int_call ?_) | ((with_reducible refine g_isi ?_); first | (with_reducible refine isi_ii ?_) | (with_reducible refine isi_ib ?_) | (refine isi_int rfl ?_) | (refine isi_lst rfl (by wtm_at "hp") ?_) | (refine isi_tup rfl (by wtm_at "hp") ?_)) | ((with_reducible refine g_ned ?_); refine ned_f (dq_lst (by wtm_at "sq")) (dq_lst (by wtm_at "sq")) ?_) | ((with_reducible refine g_eqd ?_); refine eqd_t (dq_lst (by wtm_at "sq")) (dq_lst (by wtm_at "sq")) ?_) | ((with_reducible refine g_tyv ?_); refine and_tyv (by wtm_at "sq") ?_) | ((with_reducible refine g_asq ?_); refine and_sq (by wtm_at "sq") ?_) | ((with_reducible refine g_lst ?_); refine ex_lst (by wtm_at "hp") ?_) | ((with_reducible refine g_or ?_); first | (refine ex_or (by wtm_at "sq") ?_) | (refine ex_ort (by wtm_at "sq") ?_)) | ((with_reducible refine g_sq ?_); refine ex_sq (by wtm_at "sq") ?_) | ((with_reducible refine g_sqt ?_); refine ex_sqt (by wtm_at "sq") ?_) | ((with_reducible refine gd_sel ?_); first | (refine sel_p (by wtm_at "pf") ?_) | (refine sel_n (by wtm_at "pf") ?_)) | ((with_reducible refine gn_sel ?_); first | (refine selN_p (by wtm_at "pf") ?_) | (refine selN_n (by wtm_at "pf") ?_)) | ((with_reducible refine gd_selT ?_); first | (refine selT_p (by wtm_at "pf") ?_) | (refine selT_n (by wtm_at "pf") ?_)) | ((with_reducible refine gn_selT ?_); first | (refine selTN_p (by wtm_at "pf") ?_) | (refine selTN_n (by wtm_at "pf") ?_)) | ((with_reducible refine gd_selE ?_); first | (refine selE_p (by wtm_at "pf") ?_) | (refine selE_n (by wtm_at "pf") ?_)) | ((with_reducible refine gn_selE ?_); first | (refine selEN_p (by wtm_at "pf") ?_) | (refine selEN_n (by wtm_at "pf") ?_)) | ((with_reducible refine g_xf ?_); refine xf_at rfl (by wtm_at "hp") ?_) | ((with_reducible refine g_atI ?_); refine ex_at (by first | exact rfl | exact atI_int (by omega) (by wtm_at "pf") | exact atI_end (by wtm_at "pf")) ?_) | ((with_reducible refine g_and ?_); refine And.intro (by wtm_at "cl") ?_) | ((with_reducible refine g_new ?_); intro _ _))
local macro_rules | `(tactic| wtm_at "go") => `(tactic| repeat (first | wtm_at "xs" | wtm_at "st"))
local macro_rules | `(tactic| wtm_at "xo") => `(tactic| simp only [x_next, x_seq, x_brk, x_cont, x_drop, x_ret, x_retN, x_if, sel_t, sel_f, selE_t, selE_f, selT_t, selT_f, selC_t, selC_f, x_test, x_tB, x_op, x_un, x_var, x_c, x_cb, x_nil, x_cons, x_rI, x_rI0, x_rU, x_rEq, x_rNe, x_rIxL, x_rIxT, n_rSlL, n_rCat, n_rRep, n_rApp, x_bm, x_bm0, x_sl, x_nopart, x_part, n_tup, n_lst, x_call, x_callS, x_asg, x_gname, x_gtup, x_gnil, x_gcons, x_gsub, n_setL, x_aug, x_ipI, x_ipC, x_bits, x_getL, x_augS, x_and, x_or, x_not, x_k, x_andV, x_orV, x_notV, x_ife, x_chain, x_for, x_ilist, x_itup, x_ienum, x_irng1, x_irng2, x_irev, x_lc, x_yes, wipe_nil, wipe_cons, List.map_cons, List.map_nil, x_misc, x_misc2, x_rz, lookup_at, Bool.not_true, Bool.not_false, decide_true, decide_false, not_true, not_false_eq_true, and_assoc, exists_and_left, exists_eq_left', exists_eq_left, exists_eq', exists_eq_right', exists_eq_right, V.int.injEq, V.ref.injEq, V.bl.injEq, V.str.injEq, List.cons.injEq, and_true, true_and, and_self, Option.some.injEq, List.cons_append, List.nil_append, List.append_nil, List.getElem?_cons_zero, List.getElem?_cons_succ, List.set_cons_zero, List.set_cons_succ, reduceCtorEq, false_and, and_false, exists_false, exists_const, or_false, false_or, scal_ii, scal_bb, scal_ss, List.length_cons, List.length_nil, Int.reduceToNat, Int.reducePow, n_fld, n_dnew, n_dput, n_din, n_dget, n_dget2, n_glst, n_sfld, n_aug, n_meth, n_mw, n_make, n_kw, n_rLs, n_dcp, n_ext, n_revL, n_rTp, t_im, ints_rev, t_s1, t_i1, t_i2, t_i3, t_i4, t_i5, x_chain3, x_irng3, x_irevR, x_rg1, x_rg2, ints_cat, ints_app1, ints_len, ints_take, ints_drop, rep_one])
local macro_rules | `(tactic| k_call_by "xo" $h:term) => `(tactic| simp only [$h:term, x_next, x_seq, x_brk, x_cont, x_drop, x_ret, x_retN, x_if, sel_t, sel_f, selE_t, selE_f, selT_t, selT_f, selC_t, selC_f, x_test, x_tB, x_op, x_un, x_var, x_c, x_cb, x_nil, x_cons, x_rI, x_rI0, x_rU, x_rEq, x_rNe, x_rIxL, x_rIxT, n_rSlL, n_rCat, n_rRep, n_rApp, x_bm, x_bm0, x_sl, x_nopart, x_part, n_tup, n_lst, x_call, x_callS, x_asg, x_gname, x_gtup, x_gnil, x_gcons, x_gsub, n_setL, x_aug, x_ipI, x_ipC, x_bits, x_getL, x_augS, x_and, x_or, x_not, x_k, x_andV, x_orV, x_notV, x_ife, x_chain, x_for, x_ilist, x_itup, x_ienum, x_irng1, x_irng2, x_irev, x_lc, x_yes, wipe_nil, wipe_cons, List.map_cons, List.map_nil, x_misc, x_misc2, x_rz, lookup_at, Bool.not_true, Bool.not_false, decide_true, decide_false, not_true, not_false_eq_true, and_assoc, exists_and_left, exists_eq_left', exists_eq_left, exists_eq', exists_eq_right', exists_eq_right, V.int.injEq, V.ref.injEq, V.bl.injEq, V.str.injEq, List.cons.injEq, and_true, true_and, and_self, Option.some.injEq, List.cons_append, List.nil_append, List.append_nil, List.getElem?_cons_zero, List.getElem?_cons_succ, List.set_cons_zero, List.set_cons_succ, reduceCtorEq, false_and, and_false, exists_false, exists_const, or_false, false_or, scal_ii, scal_bb, scal_ss, List.length_cons, List.length_nil, Int.reduceToNat, Int.reducePow, n_fld, n_dnew, n_dput, n_din, n_dget, n_dget2, n_glst, n_sfld, n_aug, n_meth, n_mw, n_make, n_kw, n_rLs, n_dcp, n_ext, n_revL, n_rTp, t_im, ints_rev, t_s1, t_i1, t_i2, t_i3, t_i4, t_i5, x_chain3, x_irng3, x_irevR, x_rg1, x_rg2, ints_cat, ints_app1, ints_len, ints_take, ints_drop, rep_one])
local macro_rules | `(tactic| wtm_at "mem") => `(tactic| first | (with_reducible exact mem_here) | (with_reducible refine mem_there ?_; wtm_at "mem"))
local macro_rules | `(tactic| wtm_at "pp") => `(tactic| first | (with_reducible exact Put.here) | (with_reducible apply Put.there; wtm_at "pp"))
local macro_rules | `(tactic| wtm_at "ho") => `(tactic| first | (with_reducible assumption) | exact Own.get (by with_reducible assumption) (by wtm_at "mem") | exact Own.base (by with_reducible assumption) (by with_reducible assumption))
local macro_rules | `(tactic| wtm_at "qo") => `(tactic| first | (with_reducible assumption) | exact SqL.of (by wtm_at "ho") | exact sqT_tupI (by wtm_at "ho") | exact sqT_tupS (by wtm_at "ho") | exact SqT.of (by wtm_at "ho") | exact Own.imT (by with_reducible assumption) (by wtm_at "mem") | exact Own.sq (by with_reducible assumption) (by with_reducible assumption) | exact Own.sqT (by with_reducible assumption) (by with_reducible assumption))
local macro_rules | `(tactic| wtm_at "sub") => `(tactic| first | exact List.nil_sublist _ | (with_reducible refine List.Sublist.cons_cons _ ?_; wtm_at "sub") | (refine List.Sublist.cons _ ?_; wtm_at "sub"))
local macro_rules | `(tactic| wtm_at "co") => `(tactic| first | (with_reducible assumption) | omega | (exact cmul_r (by omega) (by omega)) | (exact cmul_l (by omega) (by omega)) | (exact cdiv_ok (by omega) (by omega)) | (exact cpow_ok (by decide)) | (exact ⟨by omega, by omega, by omega⟩) | decide | (exact ⟨by omega, by omega⟩) | (simp only [List.length_append, List.length_map, List.length_set, List.length_cons, List.length_nil, rngL_len, sizeLine_eq]; omega) | wtm_at "ho" | wtm_at "qo")
local macro_rules | `(tactic| wtm_at "so") => `(tactic| first | ((with_reducible refine g_dcp ?_); refine dcpI (by wtm_at "ho") ?_) | ((with_reducible refine g_asl ?_); refine And.intro (by rfl) ?_) | ((with_reducible refine g_asqT ?_); refine and_sqT (by wtm_at "qo") ?_) | ((with_reducible refine g_extO ?_); first | (refine extI (by with_reducible assumption) (by wtm_at "pp") (by wtm_at "co") (fun _ _ => ?_)) | (refine extO (by with_reducible assumption) (by wtm_at "pp") (by wtm_at "co") (fun _ _ => ?_))) | ((with_reducible refine g_tp ?_); first | (refine tp_l (by wtm_at "qo") ?_) | (refine tp_t (by wtm_at "qo") ?_)) | ((with_reducible refine g_dputO ?_); refine dputI (by with_reducible assumption) (by wtm_at "pp") (by wtm_at "co") (fun _ _ => ?_)) | ((with_reducible refine g_dinO ?_); refine dinI (by wtm_at "ho") ?_) | ((with_reducible refine g_isDO ?_); refine isDO (by wtm_at "ho") ?_) | ((with_reducible refine g_dg2 ?_); refine dg2I (by wtm_at "ho") ?_) | ((with_reducible refine g_fldO ?_); refine fldO (by wtm_at "ho") (by with_reducible assumption) (by wtm_at "mem") (by wtm_at "lk") ?_) | ((with_reducible refine g_fldC ?_); refine fldC (by wtm_at "ho") (by with_reducible assumption) (by wtm_at "mem") (by wtm_at "lk") ?_) | ((with_reducible refine g_putC ?_); refine putC (by with_reducible assumption) (by wtm_at "pp") (by wtm_at "pu") (by wtm_at "co") (fun _ _ => ?_)) | ((with_reducible refine g_stoO ?_); refine stoO (by with_reducible assumption) (by wtm_at "pp") (by wtm_at "pu") (by with_reducible assumption) (by wtm_at "mem") (by wtm_at "co") (fun _ _ => ?_)) | ((with_reducible refine g_metO ?_); refine metO (by wtm_at "ho") (by wtm_at "ln") ?_) | ((with_reducible refine g_makO ?_); refine makO (by with_reducible assumption) (fun _ _ _ _ => ?_)) | ((with_reducible refine g_sum ?_); refine sum_call (by wtm_at "qo") ?_) | ((with_reducible refine g_cq ?_); exact cq (by with_reducible assumption) (by simp only [rngL_len, List.length_map, List.length_take]; omega)) | ((with_reducible refine g_newO ?_); refine newO (by with_reducible assumption) (fun _ _ _ => ?_)) | ((with_reducible refine g_appO ?_); refine appI (by with_reducible assumption) (by wtm_at "pp") (by wtm_at "co") (fun _ _ => ?_)) | ((with_reducible refine g_setO ?_); refine setI (by with_reducible assumption) (by wtm_at "pp") (by omega) (by wtm_at "co") (fun _ _ => ?_)) | ((with_reducible refine g_appO ?_); refine appO (by with_reducible assumption) (by wtm_at "pp") (by wtm_at "co") (fun _ _ => ?_)) | ((with_reducible refine g_setO ?_); refine setO (by with_reducible assumption) (by wtm_at "pp") (by omega) (by wtm_at "co") (fun _ _ => ?_)) | ((with_reducible refine g_at ?_); refine at_call (by wtm_at "qo") (by omega) (by omega) (fun _ _ => ?_)) | ((with_reducible refine g_int ?_); refine int_call ?_) | ((with_reducible refine g_isi ?_); first | (with_reducible refine isi_ii ?_) | (with_reducible refine isi_ib ?_) | (refine isi_int rfl ?_) | (refine isi_sqL rfl (by wtm_at "qo") ?_) | (refine isi_sqT rfl (by wtm_at "qo") ?_) | (refine isi_bl rfl ?_) | (refine isi_non rfl ?_) | (refine isi_str rfl ?_)) | ((with_reducible refine g_ned ?_); first | (refine ned_f (dq_lst (by wtm_at "qo")) (dq_lst (by wtm_at "qo")) ?_) | (refine ned_ints (by wtm_at "qo") (by wtm_at "qo") ?_) | (refine nedT_ints (by wtm_at "qo") (by wtm_at "qo") ?_)) | ((with_reducible refine g_eqd ?_); first | (refine eqd_t (dq_lst (by wtm_at "qo")) (dq_lst (by wtm_at "qo")) ?_) | (refine eqd_ints (by wtm_at "qo") (by wtm_at "qo") ?_) | (refine eqdT_ints (by wtm_at "qo") (by wtm_at "qo") ?_)) | ((with_reducible refine g_tyv ?_); refine and_tyv (by wtm_at "qo") ?_) | ((with_reducible refine g_asq ?_); refine and_sq (by wtm_at "qo") ?_) | ((with_reducible refine g_lst ?_); refine ex_lst (by wtm_at "ho") ?_) | ((with_reducible refine g_or ?_); first | (refine ex_or (by wtm_at "qo") ?_) | (refine ex_ort (by wtm_at "qo") ?_)) | ((with_reducible refine g_sq ?_); refine ex_sq (by wtm_at "qo") ?_) | ((with_reducible refine g_sqt ?_); refine ex_sqt (by wtm_at "qo") ?_) | ((with_reducible refine gd_sel ?_); first | (refine sel_p (by wtm_at "pf") ?_) | (refine sel_n (by wtm_at "pf") ?_)) | ((with_reducible refine gn_sel ?_); first | (refine selN_p (by wtm_at "pf") ?_) | (refine selN_n (by wtm_at "pf") ?_)) | ((with_reducible refine gd_selT ?_); first | (refine selT_p (by wtm_at "pf") ?_) | (refine selT_n (by wtm_at "pf") ?_)) | ((with_reducible refine gn_selT ?_); first | (refine selTN_p (by wtm_at "pf") ?_) | (refine selTN_n (by wtm_at "pf") ?_)) | ((with_reducible refine gd_selE ?_); first | (refine selE_p (by wtm_at "pf") ?_) | (refine selE_n (by wtm_at "pf") ?_)) | ((with_reducible refine gn_selE ?_); first | (refine selEN_p (by wtm_at "pf") ?_) | (refine selEN_n (by wtm_at "pf") ?_)) | ((with_reducible refine g_xf ?_); refine xf_at rfl (by wtm_at "ho") ?_) | ((with_reducible refine g_atI ?_); refine ex_at (by first | exact rfl | exact atI_int (by omega) (by wtm_at "pf") | exact atI_end (by wtm_at "pf")) ?_) | ((with_reducible refine g_and ?_); refine And.intro (by wtm_at "co") ?_))
local macro_rules | `(tactic| wtm_at "oo") => `(tactic| repeat (first | wtm_at "xo" | wtm_at "so"))
local macro_rules | `(tactic| wtm_at "cR") => `(tactic| (refine' compRi _ (by with_reducible assumption) (by omega) (fun _ _ _ _ _ => ?_) (fun _ _ _ => ?_); rotate_left; focus (wtm_at "oo")))

local macro_rules | `(tactic| wtm_at "lk") => `(tactic| first | (with_reducible exact lk_here) | (simp only [lk_here, lk_skip, lk_nil, nb_0_0, nb_0_1, nb_0_2, nb_0_3, nb_0_4, nb_0_5, nb_0_6, nb_0_7, nb_1_1, nb_1_2, nb_1_3, nb_1_4, nb_1_5, nb_1_6, nb_1_7, nb_2_0, nb_2_2, nb_2_3, nb_2_4, nb_2_5, nb_2_6, nb_2_7, nb_3_0, nb_3_1, nb_3_2, nb_3_3, nb_3_4, nb_3_5, nb_3_6, nb_3_7, nb_4_0, nb_4_1, nb_4_2, nb_4_3, nb_4_4, nb_4_5, nb_4_6, nb_4_7, nb_5_0, nb_5_1, nb_5_3, nb_5_4, nb_5_5, nb_5_6, nb_5_7, nb_6_0, nb_6_1, nb_6_2, nb_6_3, nb_6_4, nb_6_5, nb_6_6, nb_6_7, nb_7_0, nb_7_1, nb_7_2, nb_7_4, nb_7_5, nb_7_6, nb_7_7, nb_8_0, nb_8_1, nb_8_2, nb_8_3, nb_8_4, nb_8_5, nb_8_6, nb_8_7, nb_9_0, nb_9_1, nb_9_2, nb_9_3, nb_9_4, nb_9_5, nb_9_6, nb_9_7, nb_10_0, nb_10_1, nb_10_2, nb_10_3, nb_10_5, nb_10_6, nb_10_7, nb_11_0, nb_11_1, nb_11_2, nb_11_3, nb_11_4, nb_11_6, nb_11_7, nb_12_0, nb_12_1, nb_12_2, nb_12_3, nb_12_4, nb_12_5, nb_12_7, nb_13_0, nb_13_1, nb_13_2, nb_13_3, nb_13_4, nb_13_5, nb_13_6, nb_13_7, nb_14_0, nb_14_1, nb_14_2, nb_14_3, nb_14_4, nb_14_5, nb_14_6, nb_15_0, nb_15_1, nb_15_2, nb_15_3, nb_15_4, nb_15_5, nb_15_6, nb_15_7, nb_16_0, nb_16_1, nb_16_2, nb_16_3, nb_16_4, nb_16_5, nb_16_6, nb_16_7, nb_17_0, nb_17_1, nb_17_2, nb_17_3, nb_17_4, nb_17_5, nb_17_6, nb_17_7, nb_18_0, nb_18_1, nb_18_2, nb_18_3, nb_18_4, nb_18_5, nb_18_6, nb_18_7, nb_19_0, nb_19_1, nb_19_2, nb_19_3, nb_19_4, nb_19_5, nb_19_6, nb_19_7, nb_20_0, nb_20_1, nb_20_2, nb_20_3, nb_20_4, nb_20_5, nb_20_6, nb_20_7, nb_21_0, nb_21_1, nb_21_2, nb_21_3, nb_21_4, nb_21_5, nb_21_6, nb_21_7, nb_22_0, nb_22_1, nb_22_2, nb_22_3, nb_22_4, nb_22_5, nb_22_6, nb_22_7, nb_23_0, nb_23_1, nb_23_2, nb_23_3, nb_23_4, nb_23_5, nb_23_6, nb_23_7, nb_24_0, nb_24_1, nb_24_2, nb_24_3, nb_24_4, nb_24_5, nb_24_6, nb_24_7, nb_25_0, nb_25_1, nb_25_2, nb_25_3, nb_25_4, nb_25_5, nb_25_6, nb_25_7, nb_26_0, nb_26_1, nb_26_2, nb_26_3, nb_26_4, nb_26_5, nb_26_6, nb_26_7]; first | done | exact rfl))
local macro_rules | `(tactic| wtm_at "ln") => `(tactic| first | (with_reducible exact lk_nil) | (simp only [lk_skip, lk_nil, nb_0_0, nb_0_1, nb_0_2, nb_0_3, nb_0_4, nb_0_5, nb_0_6, nb_0_7, nb_1_1, nb_1_2, nb_1_3, nb_1_4, nb_1_5, nb_1_6, nb_1_7, nb_2_0, nb_2_2, nb_2_3, nb_2_4, nb_2_5, nb_2_6, nb_2_7, nb_3_0, nb_3_1, nb_3_2, nb_3_3, nb_3_4, nb_3_5, nb_3_6, nb_3_7, nb_4_0, nb_4_1, nb_4_2, nb_4_3, nb_4_4, nb_4_5, nb_4_6, nb_4_7, nb_5_0, nb_5_1, nb_5_3, nb_5_4, nb_5_5, nb_5_6, nb_5_7, nb_6_0, nb_6_1, nb_6_2, nb_6_3, nb_6_4, nb_6_5, nb_6_6, nb_6_7, nb_7_0, nb_7_1, nb_7_2, nb_7_4, nb_7_5, nb_7_6, nb_7_7, nb_8_0, nb_8_1, nb_8_2, nb_8_3, nb_8_4, nb_8_5, nb_8_6, nb_8_7, nb_9_0, nb_9_1, nb_9_2, nb_9_3, nb_9_4, nb_9_5, nb_9_6, nb_9_7, nb_10_0, nb_10_1, nb_10_2, nb_10_3, nb_10_5, nb_10_6, nb_10_7, nb_11_0, nb_11_1, nb_11_2, nb_11_3, nb_11_4, nb_11_6, nb_11_7, nb_12_0, nb_12_1, nb_12_2, nb_12_3, nb_12_4, nb_12_5, nb_12_7, nb_13_0, nb_13_1, nb_13_2, nb_13_3, nb_13_4, nb_13_5, nb_13_6, nb_13_7, nb_14_0, nb_14_1, nb_14_2, nb_14_3, nb_14_4, nb_14_5, nb_14_6, nb_15_0, nb_15_1, nb_15_2, nb_15_3, nb_15_4, nb_15_5, nb_15_6, nb_15_7, nb_16_0, nb_16_1, nb_16_2, nb_16_3, nb_16_4, nb_16_5, nb_16_6, nb_16_7, nb_17_0, nb_17_1, nb_17_2, nb_17_3, nb_17_4, nb_17_5, nb_17_6, nb_17_7, nb_18_0, nb_18_1, nb_18_2, nb_18_3, nb_18_4, nb_18_5, nb_18_6, nb_18_7, nb_19_0, nb_19_1, nb_19_2, nb_19_3, nb_19_4, nb_19_5, nb_19_6, nb_19_7, nb_20_0, nb_20_1, nb_20_2, nb_20_3, nb_20_4, nb_20_5, nb_20_6, nb_20_7, nb_21_0, nb_21_1, nb_21_2, nb_21_3, nb_21_4, nb_21_5, nb_21_6, nb_21_7, nb_22_0, nb_22_1, nb_22_2, nb_22_3, nb_22_4, nb_22_5, nb_22_6, nb_22_7, nb_23_0, nb_23_1, nb_23_2, nb_23_3, nb_23_4, nb_23_5, nb_23_6, nb_23_7, nb_24_0, nb_24_1, nb_24_2, nb_24_3, nb_24_4, nb_24_5, nb_24_6, nb_24_7, nb_25_0, nb_25_1, nb_25_2, nb_25_3, nb_25_4, nb_25_5, nb_25_6, nb_25_7, nb_26_0, nb_26_1, nb_26_2, nb_26_3, nb_26_4, nb_26_5, nb_26_6, nb_26_7]; done))
local macro_rules | `(tactic| wtm_at "pu") => `(tactic| first | (with_reducible exact pf_nil) | (simp only [pf_nil, pf_here, pf_skip, nb_0_0, nb_0_1, nb_0_2, nb_0_3, nb_0_4, nb_0_5, nb_0_6, nb_0_7, nb_1_1, nb_1_2, nb_1_3, nb_1_4, nb_1_5, nb_1_6, nb_1_7, nb_2_0, nb_2_2, nb_2_3, nb_2_4, nb_2_5, nb_2_6, nb_2_7, nb_3_0, nb_3_1, nb_3_2, nb_3_3, nb_3_4, nb_3_5, nb_3_6, nb_3_7, nb_4_0, nb_4_1, nb_4_2, nb_4_3, nb_4_4, nb_4_5, nb_4_6, nb_4_7, nb_5_0, nb_5_1, nb_5_3, nb_5_4, nb_5_5, nb_5_6, nb_5_7, nb_6_0, nb_6_1, nb_6_2, nb_6_3, nb_6_4, nb_6_5, nb_6_6, nb_6_7, nb_7_0, nb_7_1, nb_7_2, nb_7_4, nb_7_5, nb_7_6, nb_7_7, nb_8_0, nb_8_1, nb_8_2, nb_8_3, nb_8_4, nb_8_5, nb_8_6, nb_8_7, nb_9_0, nb_9_1, nb_9_2, nb_9_3, nb_9_4, nb_9_5, nb_9_6, nb_9_7, nb_10_0, nb_10_1, nb_10_2, nb_10_3, nb_10_5, nb_10_6, nb_10_7, nb_11_0, nb_11_1, nb_11_2, nb_11_3, nb_11_4, nb_11_6, nb_11_7, nb_12_0, nb_12_1, nb_12_2, nb_12_3, nb_12_4, nb_12_5, nb_12_7, nb_13_0, nb_13_1, nb_13_2, nb_13_3, nb_13_4, nb_13_5, nb_13_6, nb_13_7, nb_14_0, nb_14_1, nb_14_2, nb_14_3, nb_14_4, nb_14_5, nb_14_6, nb_15_0, nb_15_1, nb_15_2, nb_15_3, nb_15_4, nb_15_5, nb_15_6, nb_15_7, nb_16_0, nb_16_1, nb_16_2, nb_16_3, nb_16_4, nb_16_5, nb_16_6, nb_16_7, nb_17_0, nb_17_1, nb_17_2, nb_17_3, nb_17_4, nb_17_5, nb_17_6, nb_17_7, nb_18_0, nb_18_1, nb_18_2, nb_18_3, nb_18_4, nb_18_5, nb_18_6, nb_18_7, nb_19_0, nb_19_1, nb_19_2, nb_19_3, nb_19_4, nb_19_5, nb_19_6, nb_19_7, nb_20_0, nb_20_1, nb_20_2, nb_20_3, nb_20_4, nb_20_5, nb_20_6, nb_20_7, nb_21_0, nb_21_1, nb_21_2, nb_21_3, nb_21_4, nb_21_5, nb_21_6, nb_21_7, nb_22_0, nb_22_1, nb_22_2, nb_22_3, nb_22_4, nb_22_5, nb_22_6, nb_22_7, nb_23_0, nb_23_1, nb_23_2, nb_23_3, nb_23_4, nb_23_5, nb_23_6, nb_23_7, nb_24_0, nb_24_1, nb_24_2, nb_24_3, nb_24_4, nb_24_5, nb_24_6, nb_24_7, nb_25_0, nb_25_1, nb_25_2, nb_25_3, nb_25_4, nb_25_5, nb_25_6, nb_25_7, nb_26_0, nb_26_1, nb_26_2, nb_26_3, nb_26_4, nb_26_5, nb_26_6, nb_26_7]; first | done | exact rfl))
local macro_rules | `(tactic| wtm_at "tk") => `(tactic| first | (with_reducible exact Take.here) | (exact Take.here) | ((with_reducible apply Take.there); wtm_at "tk"))
local macro_rules | `(tactic| wtm_at "pk") => `(tactic| first | exact Pick.nil | ((with_reducible refine' Pick.cons ?tk1 ?pk1); (case tk1 => wtm_at "tk"); (case pk1 => wtm_at "pk")) | ((with_reducible refine Pick.im (by wtm_at "mem") ?_); wtm_at "pk") | ((with_reducible refine Pick.ims (by wtm_at "mem") ?_); wtm_at "pk"))
section
variable {P : Program} {w : World} {K : PySem.W.Frag} {mg : Str → Option Value} {base : Heap}
/-- a token that covers what stands there -/
def tokOk (hs : List Int) (i f w : Int) (t : List Int) : Prop :=
  (∃ v, t = [v] ∧ i < hs.length ∧ v = hs.getD i.toNat 0) ∨
  (∃ x y, t = [x, y] ∧ 3 ≤ x ∧ x ≤ 258 ∧ 1 ≤ y ∧ y ≤ w ∧ f ≤ i - y ∧ i + x ≤ hs.length ∧ ∀ k : Nat, (k : Int) < x → hs.getD (i.toNat + k) 0 = hs.getD ((i - y).toNat + k) 0)
/-- what one token covers -/
def szT (t : List Int) : Int := if t.length = 1 then 1 else t.getD 0 0
/-- tokens one behind the other, from a place to a place -/
def cov (hs : List Int) (f w : Int) : List (List Int) → Int → Int → Prop
  | [], i, j => i = j
  | t :: r, i, j => tokOk hs i f w t ∧ cov hs f w r (i + szT t) j
def frT (i x y : Int) : Int := if (x = 0 ∧ y = 0) then i else i - 1
def HInv (hs : List Int) (i f w x y : Int) : Prop := (x = 0 ∧ y = 0) ∨ (1 ≤ i ∧ tokOk hs (i - 1) f w [x, y])
theorem sr_from {hs : List Int} {i : Int} {lim : Nat} {nice : Int} {ps : List Int} : (sr hs i lim nice ps).1 = 0 ∨ ∃ p ∈ ps, (sr hs i lim nice ps).1 = cl hs p.toNat i.toNat lim ∧ (sr hs i lim nice ps).2.1 = i - p := by
  suffices h : ∀ (all ps : List Int) (s : Nat × Int × Bool), (∀ p ∈ ps, p ∈ all) → (s.1 = 0 ∨ ∃ p ∈ all, s.1 = cl hs p.toNat i.toNat lim ∧ s.2.1 = i - p) →
      ((ps.foldl (srStep hs i lim nice) s).1 = 0 ∨ ∃ p ∈ all, (ps.foldl (srStep hs i lim nice) s).1 = cl hs p.toNat i.toNat lim ∧ (ps.foldl (srStep hs i lim nice) s).2.1 = i - p) from h ps ps _ (fun _ h => h) (.inl rfl)
  intro all ps
  induction ps with
  | nil => exact fun s _ h => h
  | cons p r ih =>
    intro s hm h
    refine ih _ (fun q hq => hm q (List.mem_cons_of_mem _ hq)) ?_
    unfold srStep
    split
    · exact h
    · dsimp only
      by_cases c : s.1 < cl hs p.toNat i.toNat lim
      · rw [if_pos c, if_pos c]
        exact .inr ⟨p, hm p List.mem_cons_self, rfl, rfl⟩
      · rw [if_neg c, if_neg c]
        exact h
theorem fnd_ok {hs : List Int} {i f w c n l s : Int} (h0 : 0 ≤ i) (hf : 0 ≤ f) (h : i ≤ hs.length) : ((fnd hs i f w c n l s).getD 0 0 = 0 ∧ (fnd hs i f w c n l s).getD 1 0 = 0) ∨ tokOk hs i f w [(fnd hs i f w c n l s).getD 0 0, (fnd hs i f w c n l s).getD 1 0] := by
  have hl := sr_le hs i (min 258 ((hs.length : Int) - i).toNat) n ((cand hs i f w).take c.toNat)
  have hfr := sr_from (hs := hs) (i := i) (lim := min 258 ((hs.length : Int) - i).toNat) (nice := n) (ps := (cand hs i f w).take c.toNat)
  unfold fnd
  generalize sr hs i (min 258 ((hs.length : Int) - i).toNat) n ((cand hs i f w).take c.toNat) = r at *
  unfold found
  split
  · rename_i c1
    dsimp only
    unfold useC
    split
    · exact .inl ⟨rfl, rfl⟩
    · right
      show tokOk hs i f w [(r.1 : Int), r.2.1]
      rcases hfr with z | ⟨p, hp, e1, e2⟩
      · exact absurd c1.1 (by rw [z]; decide)
      have cm := cand_mem (List.mem_of_mem_take hp)
      refine .inr ⟨_, _, rfl, by omega, by omega, by omega, by omega, by omega, by omega, fun k hk => ?_⟩
      have hk : k < cl hs p.toNat i.toNat (min 258 ((hs.length : Int) - i).toNat) := by omega
      have := (cl_lt hk).2
      rw [e2, show (i - (i - p)).toNat = p.toNat by omega]
      exact this.symm
  · left
    dsimp only
    unfold useC
    split <;> exact ⟨rfl, rfl⟩
theorem btr_ok {hs : List Int} {i f w : Int} {m : Nm} {s l : Int} (h0 : 0 ≤ i) (hf : 0 ≤ f) (h : i ≤ hs.length) : ((btr hs i f w m s l).getD 0 0 = 0 ∧ (btr hs i f w m s l).getD 1 0 = 0) ∨ tokOk hs i f w [(btr hs i f w m s l).getD 0 0, (btr hs i f w m s l).getD 1 0] := by
  unfold btr
  split
  · exact .inl ⟨rfl, rfl⟩
  · exact fnd_ok h0 hf h
theorem runC_ok {hs : List Int} {i f w : Int} (h0 : 0 ≤ i) (hf : 0 ≤ f) (h : i ≤ hs.length) (hw : 1 ≤ w) : ((runC hs i hs.length f).getD 0 0 = 0 ∧ (runC hs i hs.length f).getD 1 0 = 0) ∨ tokOk hs i f w [(runC hs i hs.length f).getD 0 0, (runC hs i hs.length f).getD 1 0] := by
  unfold runC
  split
  · exact .inl ⟨rfl, rfl⟩
  · rename_i c
    right
    have hl := cl_le hs (i - 1).toNat i.toNat (min 258 ((hs.length : Int) - i).toNat)
    refine .inr ⟨((cl hs (i - 1).toNat i.toNat (min 258 ((hs.length : Int) - i).toNat) : Nat) : Int), 1, rfl, by omega, by omega, by omega, hw, by omega, by omega, fun k hk => ?_⟩
    have hk : k < cl hs (i - 1).toNat i.toNat (min 258 ((hs.length : Int) - i).toNat) := by omega
    exact (cl_lt hk).2.symm
theorem cov_one {hs : List Int} {i f w x y : Int} (h0 : 0 ≤ i) (hi : i < hs.length) (h : (x = 0 ∧ y = 0) ∨ tokOk hs i f w [x, y]) : cov hs f w [tokE hs i x y] i (atE i x y) := by
  by_cases c : x = 0 ∧ y = 0
  · unfold tokE atE
    rw [if_pos c, if_pos c]
    exact ⟨.inl ⟨_, rfl, hi, rfl⟩, rfl⟩
  · unfold tokE atE
    rw [if_neg c, if_neg c]
    exact ⟨h.resolve_left c, rfl⟩
theorem frT_no {i : Int} : frT i 0 0 = i := rfl
theorem frT_yes {i x y : Int} (h : ¬ (x = 0 ∧ y = 0)) : frT i x y = i - 1 := if_neg h
theorem stp_cov {hs : List Int} {i f w : Int} {m : Nm} {s x y : Int} {b : Bool} (I : PInv hs i f m s x y) (J : HInv hs i f w x y) (hf : 0 ≤ f) (hw : 1 ≤ w) (h : i < hs.length) :
    cov hs f w (stp hs i f w m s b x y).1 (frT i x y) (frT (stp hs i f w m s b x y).2.1 (stp hs i f w m s b x y).2.2.1 (stp hs i f w m s b x y).2.2.2) ∧ HInv hs (stp hs i f w m s b x y).2.1 f w (stp hs i f w m s b x y).2.2.1 (stp hs i f w m s b x y).2.2.2 := by
  obtain ⟨i0, i1, fi, hd, nw⟩ := I
  have f0 := fnd_ok (hs := hs) (i := i) (f := f) (w := w) (c := m.chain) (n := m.nice) (l := 0) (s := s) i0 hf i1
  have b0 := btr_ok (hs := hs) (i := i) (f := f) (w := w) (m := m) (l := x) (s := s) i0 hf i1
  have r0 := runC_ok (hs := hs) (i := i) (f := f) (w := w) i0 hf i1 hw
  unfold stp
  by_cases c1 : m.way = Str.ofString "stored" ∨ s = 2
  · rw [if_pos c1]
    obtain ⟨rfl, rfl⟩ := nw (by rcases c1 with c | c; exact .inl c; exact .inr (.inl c))
    exact ⟨cov_one i0 h (.inl ⟨rfl, rfl⟩), .inl ⟨rfl, rfl⟩⟩
  rw [if_neg c1]
  by_cases c2 : s = 3
  · rw [if_pos c2]
    obtain ⟨rfl, rfl⟩ := nw (.inr (.inr (.inl c2)))
    exact ⟨cov_one i0 h r0, .inl ⟨rfl, rfl⟩⟩
  rw [if_neg c2]
  by_cases c3 : m.way = Str.ofString "greedy"
  · rw [if_pos c3]
    obtain ⟨rfl, rfl⟩ := nw (.inr (.inr (.inr c3)))
    exact ⟨cov_one i0 h f0, .inl ⟨rfl, rfl⟩⟩
  rw [if_neg c3]
  by_cases c4 : (x = 0 ∧ y = 0)
  · rw [if_pos c4]
    obtain ⟨rfl, rfl⟩ := c4
    unfold begP
    generalize (fnd hs i f w m.chain m.nice 0 s).getD 0 0 = x1 at *
    generalize (fnd hs i f w m.chain m.nice 0 s).getD 1 0 = y1 at *
    unfold begR
    by_cases c5 : (x1 = 0 ∧ y1 = 0) ∨ m.pat < x1 ∨ (b && decide (i + x1 = hs.length)) = true
    · rw [if_pos c5]
      exact ⟨cov_one i0 h f0, .inl ⟨rfl, rfl⟩⟩
    · rw [if_neg c5]
      have c6 : ¬ (x1 = 0 ∧ y1 = 0) := fun z => c5 (.inl z)
      refine ⟨?_, .inr ⟨by dsimp only; omega, ?_⟩⟩
      · show i = frT (i + 1) x1 y1
        rw [frT_yes c6]
        omega
      · show tokOk hs (i + 1 - 1) f w [x1, y1]
        rw [show i + 1 - 1 = i by omega]
        exact f0.resolve_left c6
  · rw [if_neg c4]
    obtain ⟨h1, J⟩ := J.resolve_left c4
    unfold goP
    generalize (btr hs i f w m s x).getD 0 0 = x1 at *
    generalize (btr hs i f w m s x).getD 1 0 = y1 at *
    rw [frT_yes c4]
    unfold goR
    have first : tokOk hs (i - 1) f w (tokE hs (i - 1) 0 0) := .inl ⟨_, rfl, by omega, rfl⟩
    by_cases c5 : (x1 = 0 ∧ y1 = 0)
    · rw [if_pos c5]
      exact ⟨cov_one (by omega) (by omega) (.inr J), .inl ⟨rfl, rfl⟩⟩
    · rw [if_neg c5]
      by_cases c6 : (b && decide (i + x1 = hs.length)) = true
      · rw [if_pos c6]
        refine ⟨⟨first, ?_⟩, .inl ⟨rfl, rfl⟩⟩
        show cov hs f w [tokE hs i x1 y1] (i - 1 + 1) (atE i x1 y1)
        rw [show i - 1 + 1 = i by omega]
        exact cov_one i0 h b0
      · rw [if_neg c6]
        refine ⟨⟨first, ?_⟩, .inr ⟨by dsimp only; omega, ?_⟩⟩
        · show i - 1 + 1 = frT (i + 1) x1 y1
          rw [frT_yes c5]
          omega
        · show tokOk hs (i + 1 - 1) f w [x1, y1]
          rw [show i + 1 - 1 = i by omega]
          exact b0.resolve_left c5
theorem apD {hs xs : List Int} {j : Nat} (h : j < hs.length) : (hs ++ xs).getD j 0 = hs.getD j 0 := by
  rw [List.getD_eq_getElem?_getD, List.getD_eq_getElem?_getD, List.getElem?_append_left h]
theorem HInv.grow {hs xs : List Int} {i f w x y : Int} (hf : 0 ≤ f) (J : HInv hs i f w x y) : HInv (hs ++ xs) i f w x y := by
  rcases J with z | ⟨h1, z⟩
  · exact .inl z
  · rcases z with ⟨v, e, _⟩ | ⟨x2, y2, e, a1, a2, a3, a4, a5, a6, a7⟩
    · cases e
    · refine .inr ⟨h1, .inr ⟨x2, y2, e, a1, a2, a3, a4, a5, by rw [List.length_append]; omega, fun k hk => ?_⟩⟩
      rw [apD (by omega), apD (by omega)]
      exact a7 k hk
theorem PInv.more {hs xs : List Int} {i f : Int} {m : Nm} {s x y : Int} (I : PInv hs i f m s x y) : PInv (hs ++ xs) i f m s x y := by
  obtain ⟨i0, i1, fi, hd, nw⟩ := I
  exact ⟨i0, by rw [List.length_append]; omega, fi, by rw [List.length_append]; omega, nw⟩


end
end K52

namespace K52
open PySem PySem.Spec PyProof.Rows L2 Bel
local macro_rules | `(tactic| wtm_at "xs") => `(tactic| simp only [x_next, x_seq, x_brk, x_cont, x_drop, x_ret, x_retN, x_if, sel_t, sel_f, selE_t, selE_f, selT_t, selT_f, selC_t, selC_f, x_test, x_tB, x_op, x_un, x_var, x_c, x_cb, x_nil, x_cons, x_rI, x_rI0, x_rU, x_rEq, x_rNe, x_rIxL, x_rIxT, x_rSlL, x_rCat, x_rRep, x_rApp, x_bm, x_bm0, x_sl, x_nopart, x_part, x_tup, x_lst, x_call, x_callS, x_asg, x_gname, x_gtup, x_gnil, x_gcons, x_gsub, x_setL, x_aug, x_ipI, x_ipC, x_bits, x_getL, x_augS, x_and, x_or, x_not, x_k, x_andV, x_orV, x_notV, x_ife, x_chain, x_for, x_ilist, x_itup, x_ienum, x_irng1, x_irng2, x_irev, x_lc, x_yes, wipe_nil, wipe_cons, List.map_cons, List.map_nil, x_misc, x_misc2, x_rz, lookup_at, Bool.not_true, Bool.not_false, decide_true, decide_false, not_true, not_false_eq_true, and_assoc, exists_and_left, exists_eq_left', exists_eq_left, exists_eq', exists_eq_right', exists_eq_right, V.int.injEq, V.ref.injEq, V.bl.injEq, V.str.injEq, List.cons.injEq, and_true, true_and, and_self, Option.some.injEq, List.cons_append, List.nil_append, List.append_nil, List.getElem?_cons_zero, List.getElem?_cons_succ, List.set_cons_zero, List.set_cons_succ, reduceCtorEq, false_and, and_false, exists_false, exists_const, or_false, false_or, scal_ii, scal_bb, scal_ss, List.length_cons, List.length_nil, Int.reduceToNat, Int.reducePow])
local macro_rules | `(tactic| k_call_by "xs" $h:term) => `(tactic| simp only [$h:term, x_next, x_seq, x_brk, x_cont, x_drop, x_ret, x_retN, x_if, sel_t, sel_f, selE_t, selE_f, selT_t, selT_f, selC_t, selC_f, x_test, x_tB, x_op, x_un, x_var, x_c, x_cb, x_nil, x_cons, x_rI, x_rI0, x_rU, x_rEq, x_rNe, x_rIxL, x_rIxT, x_rSlL, x_rCat, x_rRep, x_rApp, x_bm, x_bm0, x_sl, x_nopart, x_part, x_tup, x_lst, x_call, x_callS, x_asg, x_gname, x_gtup, x_gnil, x_gcons, x_gsub, x_setL, x_aug, x_ipI, x_ipC, x_bits, x_getL, x_augS, x_and, x_or, x_not, x_k, x_andV, x_orV, x_notV, x_ife, x_chain, x_for, x_ilist, x_itup, x_ienum, x_irng1, x_irng2, x_irev, x_lc, x_yes, wipe_nil, wipe_cons, List.map_cons, List.map_nil, x_misc, x_misc2, x_rz, lookup_at, Bool.not_true, Bool.not_false, decide_true, decide_false, not_true, not_false_eq_true, and_assoc, exists_and_left, exists_eq_left', exists_eq_left, exists_eq', exists_eq_right', exists_eq_right, V.int.injEq, V.ref.injEq, V.bl.injEq, V.str.injEq, List.cons.injEq, and_true, true_and, and_self, Option.some.injEq, List.cons_append, List.nil_append, List.append_nil, List.getElem?_cons_zero, List.getElem?_cons_succ, List.set_cons_zero, List.set_cons_succ, reduceCtorEq, false_and, and_false, exists_false, exists_const, or_false, false_or, scal_ii, scal_bb, scal_ss, List.length_cons, List.length_nil, Int.reduceToNat, Int.reducePow])
local macro_rules | `(tactic| wtm_at "hp") => `(tactic| first | (with_reducible assumption) | exact upd_same | (refine upd_keep (by with_reducible assumption) ?_; wtm_at "hp") | (refine Same.get (by with_reducible assumption) ?_; wtm_at "hp") | (refine upd_other (by first | (with_reducible assumption) | exact Ne.symm (by with_reducible assumption)) ?_; wtm_at "hp"))
local macro_rules | `(tactic| wtm_at "sq") => `(tactic| first | (with_reducible assumption) | exact SqL.of (by wtm_at "hp") | exact SqT.of (by wtm_at "hp") | (refine Same.seq (same_upd (by with_reducible assumption)) ?_; wtm_at "sq") | (refine Same.seq (by with_reducible assumption) ?_; wtm_at "sq") | (refine Same.seqT (same_upd (by with_reducible assumption)) ?_; wtm_at "sq") | (refine Same.seqT (by with_reducible assumption) ?_; wtm_at "sq"))
local macro_rules | `(tactic| wtm_at "cl") => `(tactic| first | (with_reducible assumption) | omega | (exact cmul_r (by omega) (by omega)) | (exact cmul_l (by omega) (by omega)) | (exact cdiv_ok (by omega) (by omega)) | (exact cpow_ok (by decide)) | (exact ⟨by omega, by omega, by omega⟩) | decide | (exact ⟨by omega, by omega⟩) | (simp only [List.length_append, List.length_map, List.length_set, List.length_cons, List.length_nil, rngL_len, sizeLine_eq]; omega) | wtm_at "hp" | wtm_at "sq")
local macro_rules | `(tactic| wtm_at "pf") => `(tactic| first | (with_reducible assumption) | omega | (simp only [List.length_append, List.length_map, List.length_set, List.length_cons, List.length_nil, rngL_len]; omega) | (with_reducible rfl) | (with_reducible trivial) | (with_reducible decide))
local macro_rules | `(tactic| wtm_at "st") => `(tactic| first | ((with_reducible refine g_at ?_); refine at_call (by wtm_at "sq") (by omega) (by omega) (fun _ _ => ?_)) | ((with_reducible refine g_int ?_); refine int_call ?_) | ((with_reducible refine g_isi ?_); first | (with_reducible refine isi_ii ?_) | (with_reducible refine isi_ib ?_) | (refine isi_int rfl ?_) | (refine isi_lst rfl (by wtm_at "hp") ?_) | (refine isi_tup rfl (by wtm_at "hp") ?_)) | ((with_reducible refine g_ned ?_); refine ned_f (dq_lst (by wtm_at "sq")) (dq_lst (by wtm_at "sq")) ?_) | ((with_reducible refine g_eqd ?_); refine eqd_t (dq_lst (by wtm_at "sq")) (dq_lst (by wtm_at "sq")) ?_) | ((with_reducible refine g_tyv ?_); refine and_tyv (by wtm_at "sq") ?_) | ((with_reducible refine g_asq ?_); refine and_sq (by wtm_at "sq") ?_) | ((with_reducible refine g_lst ?_); refine ex_lst (by wtm_at "hp") ?_) | ((with_reducible refine g_or ?_); first | (refine ex_or (by wtm_at "sq") ?_) | (refine ex_ort (by wtm_at "sq") ?_)) | ((with_reducible refine g_sq ?_); refine ex_sq (by wtm_at "sq") ?_) | ((with_reducible refine g_sqt ?_); refine ex_sqt (by wtm_at "sq") ?_) | ((with_reducible refine gd_sel ?_); first | (refine sel_p (by wtm_at "pf") ?_) | (refine sel_n (by wtm_at "pf") ?_)) | ((with_reducible refine gn_sel ?_); first | (refine selN_p (by wtm_at "pf") ?_) | (refine selN_n (by wtm_at "pf") ?_)) | ((with_reducible refine gd_selT ?_); first | (refine selT_p (by wtm_at "pf") ?_) | (refine selT_n (by wtm_at "pf") ?_)) | ((with_reducible refine gn_selT ?_); first | (refine selTN_p (by wtm_at "pf") ?_) | (refine selTN_n (by wtm_at "pf") ?_)) | ((with_reducible refine gd_selE ?_); first | (refine selE_p (by wtm_at "pf") ?_) | (refine selE_n (by wtm_at "pf") ?_)) | ((with_reducible refine gn_selE ?_); first | (refine selEN_p (by wtm_at "pf") ?_) | (refine selEN_n (by wtm_at "pf") ?_)) | ((with_reducible refine g_xf ?_); refine xf_at rfl (by wtm_at "hp") ?_) | ((with_reducible refine g_atI ?_); refine ex_at (by first | exact rfl | exact atI_int (by omega) (by wtm_at "pf") | exact atI_end (by wtm_at "pf")) ?_) | ((with_reducible refine g_and ?_); refine And.intro (by wtm_at "cl") ?_) | ((with_reducible refine g_new ?_); intro _ _))
local macro_rules | `(tactic| wtm_at "go") => `(tactic| repeat (first | wtm_at "xs" | wtm_at "st"))
local macro_rules | `(tactic| wtm_at "xo") => `(tactic| simp only [x_next, x_seq, x_brk, x_cont, x_drop, x_ret, x_retN, x_if, sel_t, sel_f, selE_t, selE_f, selT_t, selT_f, selC_t, selC_f, x_test, x_tB, x_op, x_un, x_var, x_c, x_cb, x_nil, x_cons, x_rI, x_rI0, x_rU, x_rEq, x_rNe, x_rIxL, x_rIxT, n_rSlL, n_rCat, n_rRep, n_rApp, x_bm, x_bm0, x_sl, x_nopart, x_part, n_tup, n_lst, x_call, x_callS, x_asg, x_gname, x_gtup, x_gnil, x_gcons, x_gsub, n_setL, x_aug, x_ipI, x_ipC, x_bits, x_getL, x_augS, x_and, x_or, x_not, x_k, x_andV, x_orV, x_notV, x_ife, x_chain, x_for, x_ilist, x_itup, x_ienum, x_irng1, x_irng2, x_irev, x_lc, x_yes, wipe_nil, wipe_cons, List.map_cons, List.map_nil, x_misc, x_misc2, x_rz, lookup_at, Bool.not_true, Bool.not_false, decide_true, decide_false, not_true, not_false_eq_true, and_assoc, exists_and_left, exists_eq_left', exists_eq_left, exists_eq', exists_eq_right', exists_eq_right, V.int.injEq, V.ref.injEq, V.bl.injEq, V.str.injEq, List.cons.injEq, and_true, true_and, and_self, Option.some.injEq, List.cons_append, List.nil_append, List.append_nil, List.getElem?_cons_zero, List.getElem?_cons_succ, List.set_cons_zero, List.set_cons_succ, reduceCtorEq, false_and, and_false, exists_false, exists_const, or_false, false_or, scal_ii, scal_bb, scal_ss, List.length_cons, List.length_nil, Int.reduceToNat, Int.reducePow, n_fld, n_dnew, n_dput, n_din, n_dget, n_dget2, n_glst, n_sfld, n_aug, n_meth, n_mw, n_make, n_kw, n_rLs, n_dcp, n_ext, n_revL, n_rTp, t_im, ints_rev, t_s1, t_i1, t_i2, t_i3, t_i4, t_i5, x_chain3, x_irng3, x_irevR, x_rg1, x_rg2, ints_cat, ints_app1, ints_len, ints_take, ints_drop, rep_one])
local macro_rules | `(tactic| k_call_by "xo" $h:term) => `(tactic| simp only [$h:term, x_next, x_seq, x_brk, x_cont, x_drop, x_ret, x_retN, x_if, sel_t, sel_f, selE_t, selE_f, selT_t, selT_f, selC_t, selC_f, x_test, x_tB, x_op, x_un, x_var, x_c, x_cb, x_nil, x_cons, x_rI, x_rI0, x_rU, x_rEq, x_rNe, x_rIxL, x_rIxT, n_rSlL, n_rCat, n_rRep, n_rApp, x_bm, x_bm0, x_sl, x_nopart, x_part, n_tup, n_lst, x_call, x_callS, x_asg, x_gname, x_gtup, x_gnil, x_gcons, x_gsub, n_setL, x_aug, x_ipI, x_ipC, x_bits, x_getL, x_augS, x_and, x_or, x_not, x_k, x_andV, x_orV, x_notV, x_ife, x_chain, x_for, x_ilist, x_itup, x_ienum, x_irng1, x_irng2, x_irev, x_lc, x_yes, wipe_nil, wipe_cons, List.map_cons, List.map_nil, x_misc, x_misc2, x_rz, lookup_at, Bool.not_true, Bool.not_false, decide_true, decide_false, not_true, not_false_eq_true, and_assoc, exists_and_left, exists_eq_left', exists_eq_left, exists_eq', exists_eq_right', exists_eq_right, V.int.injEq, V.ref.injEq, V.bl.injEq, V.str.injEq, List.cons.injEq, and_true, true_and, and_self, Option.some.injEq, List.cons_append, List.nil_append, List.append_nil, List.getElem?_cons_zero, List.getElem?_cons_succ, List.set_cons_zero, List.set_cons_succ, reduceCtorEq, false_and, and_false, exists_false, exists_const, or_false, false_or, scal_ii, scal_bb, scal_ss, List.length_cons, List.length_nil, Int.reduceToNat, Int.reducePow, n_fld, n_dnew, n_dput, n_din, n_dget, n_dget2, n_glst, n_sfld, n_aug, n_meth, n_mw, n_make, n_kw, n_rLs, n_dcp, n_ext, n_revL, n_rTp, t_im, ints_rev, t_s1, t_i1, t_i2, t_i3, t_i4, t_i5, x_chain3, x_irng3, x_irevR, x_rg1, x_rg2, ints_cat, ints_app1, ints_len, ints_take, ints_drop, rep_one])
local macro_rules | `(tactic| wtm_at "mem") => `(tactic| first | (with_reducible exact mem_here) | (with_reducible refine mem_there ?_; wtm_at "mem"))
local macro_rules | `(tactic| wtm_at "pp") => `(tactic| first | (with_reducible exact Put.here) | (with_reducible apply Put.there; wtm_at "pp"))
local macro_rules | `(tactic| wtm_at "ho") => `(tactic| first | (with_reducible assumption) | exact Own.get (by with_reducible assumption) (by wtm_at "mem") | exact Own.base (by with_reducible assumption) (by with_reducible assumption))
local macro_rules | `(tactic| wtm_at "qo") => `(tactic| first | (with_reducible assumption) | exact SqL.of (by wtm_at "ho") | exact sqT_tupI (by wtm_at "ho") | exact sqT_tupS (by wtm_at "ho") | exact SqT.of (by wtm_at "ho") | exact Own.imT (by with_reducible assumption) (by wtm_at "mem") | exact Own.sq (by with_reducible assumption) (by with_reducible assumption) | exact Own.sqT (by with_reducible assumption) (by with_reducible assumption))
local macro_rules | `(tactic| wtm_at "sub") => `(tactic| first | exact List.nil_sublist _ | (with_reducible refine List.Sublist.cons_cons _ ?_; wtm_at "sub") | (refine List.Sublist.cons _ ?_; wtm_at "sub"))
local macro_rules | `(tactic| wtm_at "co") => `(tactic| first | (with_reducible assumption) | omega | (exact cmul_r (by omega) (by omega)) | (exact cmul_l (by omega) (by omega)) | (exact cdiv_ok (by omega) (by omega)) | (exact cpow_ok (by decide)) | (exact ⟨by omega, by omega, by omega⟩) | decide | (exact ⟨by omega, by omega⟩) | (simp only [List.length_append, List.length_map, List.length_set, List.length_cons, List.length_nil, rngL_len, sizeLine_eq]; omega) | wtm_at "ho" | wtm_at "qo")
local macro_rules | `(tactic| wtm_at "so") => `(tactic| first | ((with_reducible refine g_dcp ?_); refine dcpI (by wtm_at "ho") ?_) | ((with_reducible refine g_asl ?_); refine And.intro (by rfl) ?_) | ((with_reducible refine g_asqT ?_); refine and_sqT (by wtm_at "qo") ?_) | ((with_reducible refine g_extO ?_); first | (refine extI (by with_reducible assumption) (by wtm_at "pp") (by wtm_at "co") (fun _ _ => ?_)) | (refine extO (by with_reducible assumption) (by wtm_at "pp") (by wtm_at "co") (fun _ _ => ?_))) | ((with_reducible refine g_tp ?_); first | (refine tp_l (by wtm_at "qo") ?_) | (refine tp_t (by wtm_at "qo") ?_)) | ((with_reducible refine g_dputO ?_); refine dputI (by with_reducible assumption) (by wtm_at "pp") (by wtm_at "co") (fun _ _ => ?_)) | ((with_reducible refine g_dinO ?_); refine dinI (by wtm_at "ho") ?_) | ((with_reducible refine g_isDO ?_); refine isDO (by wtm_at "ho") ?_) | ((with_reducible refine g_dg2 ?_); refine dg2I (by wtm_at "ho") ?_) | ((with_reducible refine g_fldO ?_); refine fldO (by wtm_at "ho") (by with_reducible assumption) (by wtm_at "mem") (by wtm_at "lk") ?_) | ((with_reducible refine g_fldC ?_); refine fldC (by wtm_at "ho") (by with_reducible assumption) (by wtm_at "mem") (by wtm_at "lk") ?_) | ((with_reducible refine g_putC ?_); refine putC (by with_reducible assumption) (by wtm_at "pp") (by wtm_at "pu") (by wtm_at "co") (fun _ _ => ?_)) | ((with_reducible refine g_stoO ?_); refine stoO (by with_reducible assumption) (by wtm_at "pp") (by wtm_at "pu") (by with_reducible assumption) (by wtm_at "mem") (by wtm_at "co") (fun _ _ => ?_)) | ((with_reducible refine g_metO ?_); refine metO (by wtm_at "ho") (by wtm_at "ln") ?_) | ((with_reducible refine g_makO ?_); refine makO (by with_reducible assumption) (fun _ _ _ _ => ?_)) | ((with_reducible refine g_sum ?_); refine sum_call (by wtm_at "qo") ?_) | ((with_reducible refine g_cq ?_); exact cq (by with_reducible assumption) (by simp only [rngL_len, List.length_map, List.length_take]; omega)) | ((with_reducible refine g_newO ?_); refine newO (by with_reducible assumption) (fun _ _ _ => ?_)) | ((with_reducible refine g_appO ?_); refine appI (by with_reducible assumption) (by wtm_at "pp") (by wtm_at "co") (fun _ _ => ?_)) | ((with_reducible refine g_setO ?_); refine setI (by with_reducible assumption) (by wtm_at "pp") (by omega) (by wtm_at "co") (fun _ _ => ?_)) | ((with_reducible refine g_appO ?_); refine appO (by with_reducible assumption) (by wtm_at "pp") (by wtm_at "co") (fun _ _ => ?_)) | ((with_reducible refine g_setO ?_); refine setO (by with_reducible assumption) (by wtm_at "pp") (by omega) (by wtm_at "co") (fun _ _ => ?_)) | ((with_reducible refine g_at ?_); refine at_call (by wtm_at "qo") (by omega) (by omega) (fun _ _ => ?_)) | ((with_reducible refine g_int ?_); refine int_call ?_) | ((with_reducible refine g_isi ?_); first | (with_reducible refine isi_ii ?_) | (with_reducible refine isi_ib ?_) | (refine isi_int rfl ?_) | (refine isi_sqL rfl (by wtm_at "qo") ?_) | (refine isi_sqT rfl (by wtm_at "qo") ?_) | (refine isi_bl rfl ?_) | (refine isi_non rfl ?_) | (refine isi_str rfl ?_)) | ((with_reducible refine g_ned ?_); first | (refine ned_f (dq_lst (by wtm_at "qo")) (dq_lst (by wtm_at "qo")) ?_) | (refine ned_ints (by wtm_at "qo") (by wtm_at "qo") ?_) | (refine nedT_ints (by wtm_at "qo") (by wtm_at "qo") ?_)) | ((with_reducible refine g_eqd ?_); first | (refine eqd_t (dq_lst (by wtm_at "qo")) (dq_lst (by wtm_at "qo")) ?_) | (refine eqd_ints (by wtm_at "qo") (by wtm_at "qo") ?_) | (refine eqdT_ints (by wtm_at "qo") (by wtm_at "qo") ?_)) | ((with_reducible refine g_tyv ?_); refine and_tyv (by wtm_at "qo") ?_) | ((with_reducible refine g_asq ?_); refine and_sq (by wtm_at "qo") ?_) | ((with_reducible refine g_lst ?_); refine ex_lst (by wtm_at "ho") ?_) | ((with_reducible refine g_or ?_); first | (refine ex_or (by wtm_at "qo") ?_) | (refine ex_ort (by wtm_at "qo") ?_)) | ((with_reducible refine g_sq ?_); refine ex_sq (by wtm_at "qo") ?_) | ((with_reducible refine g_sqt ?_); refine ex_sqt (by wtm_at "qo") ?_) | ((with_reducible refine gd_sel ?_); first | (refine sel_p (by wtm_at "pf") ?_) | (refine sel_n (by wtm_at "pf") ?_)) | ((with_reducible refine gn_sel ?_); first | (refine selN_p (by wtm_at "pf") ?_) | (refine selN_n (by wtm_at "pf") ?_)) | ((with_reducible refine gd_selT ?_); first | (refine selT_p (by wtm_at "pf") ?_) | (refine selT_n (by wtm_at "pf") ?_)) | ((with_reducible refine gn_selT ?_); first | (refine selTN_p (by wtm_at "pf") ?_) | (refine selTN_n (by wtm_at "pf") ?_)) | ((with_reducible refine gd_selE ?_); first | (refine selE_p (by wtm_at "pf") ?_) | (refine selE_n (by wtm_at "pf") ?_)) | ((with_reducible refine gn_selE ?_); first | (refine selEN_p (by wtm_at "pf") ?_) | (refine selEN_n (by wtm_at "pf") ?_)) | ((with_reducible refine g_xf ?_); refine xf_at rfl (by wtm_at "ho") ?_) | ((with_reducible refine g_atI ?_); refine ex_at (by first | exact rfl | exact atI_int (by omega) (by wtm_at "pf") | exact atI_end (by wtm_at "pf")) ?_) | ((with_reducible refine g_and ?_); refine And.intro (by wtm_at "co") ?_))
local macro_rules | `(tactic| wtm_at "oo") => `(tactic| repeat (first | wtm_at "xo" | wtm_at "so"))
local macro_rules | `(tactic| wtm_at "cR") => `(tactic| (refine' compRi _ (by with_reducible assumption) (by omega) (fun _ _ _ _ _ => ?_) (fun _ _ _ => ?_); rotate_left; focus (wtm_at "oo")))

local macro_rules | `(tactic| wtm_at "lk") => `(tactic| first | (with_reducible exact lk_here) | (simp only [lk_here, lk_skip, lk_nil, nb_0_0, nb_0_1, nb_0_2, nb_0_3, nb_0_4, nb_0_5, nb_0_6, nb_0_7, nb_1_1, nb_1_2, nb_1_3, nb_1_4, nb_1_5, nb_1_6, nb_1_7, nb_2_0, nb_2_2, nb_2_3, nb_2_4, nb_2_5, nb_2_6, nb_2_7, nb_3_0, nb_3_1, nb_3_2, nb_3_3, nb_3_4, nb_3_5, nb_3_6, nb_3_7, nb_4_0, nb_4_1, nb_4_2, nb_4_3, nb_4_4, nb_4_5, nb_4_6, nb_4_7, nb_5_0, nb_5_1, nb_5_3, nb_5_4, nb_5_5, nb_5_6, nb_5_7, nb_6_0, nb_6_1, nb_6_2, nb_6_3, nb_6_4, nb_6_5, nb_6_6, nb_6_7, nb_7_0, nb_7_1, nb_7_2, nb_7_4, nb_7_5, nb_7_6, nb_7_7, nb_8_0, nb_8_1, nb_8_2, nb_8_3, nb_8_4, nb_8_5, nb_8_6, nb_8_7, nb_9_0, nb_9_1, nb_9_2, nb_9_3, nb_9_4, nb_9_5, nb_9_6, nb_9_7, nb_10_0, nb_10_1, nb_10_2, nb_10_3, nb_10_5, nb_10_6, nb_10_7, nb_11_0, nb_11_1, nb_11_2, nb_11_3, nb_11_4, nb_11_6, nb_11_7, nb_12_0, nb_12_1, nb_12_2, nb_12_3, nb_12_4, nb_12_5, nb_12_7, nb_13_0, nb_13_1, nb_13_2, nb_13_3, nb_13_4, nb_13_5, nb_13_6, nb_13_7, nb_14_0, nb_14_1, nb_14_2, nb_14_3, nb_14_4, nb_14_5, nb_14_6, nb_15_0, nb_15_1, nb_15_2, nb_15_3, nb_15_4, nb_15_5, nb_15_6, nb_15_7, nb_16_0, nb_16_1, nb_16_2, nb_16_3, nb_16_4, nb_16_5, nb_16_6, nb_16_7, nb_17_0, nb_17_1, nb_17_2, nb_17_3, nb_17_4, nb_17_5, nb_17_6, nb_17_7, nb_18_0, nb_18_1, nb_18_2, nb_18_3, nb_18_4, nb_18_5, nb_18_6, nb_18_7, nb_19_0, nb_19_1, nb_19_2, nb_19_3, nb_19_4, nb_19_5, nb_19_6, nb_19_7, nb_20_0, nb_20_1, nb_20_2, nb_20_3, nb_20_4, nb_20_5, nb_20_6, nb_20_7, nb_21_0, nb_21_1, nb_21_2, nb_21_3, nb_21_4, nb_21_5, nb_21_6, nb_21_7, nb_22_0, nb_22_1, nb_22_2, nb_22_3, nb_22_4, nb_22_5, nb_22_6, nb_22_7, nb_23_0, nb_23_1, nb_23_2, nb_23_3, nb_23_4, nb_23_5, nb_23_6, nb_23_7, nb_24_0, nb_24_1, nb_24_2, nb_24_3, nb_24_4, nb_24_5, nb_24_6, nb_24_7, nb_25_0, nb_25_1, nb_25_2, nb_25_3, nb_25_4, nb_25_5, nb_25_6, nb_25_7, nb_26_0, nb_26_1, nb_26_2, nb_26_3, nb_26_4, nb_26_5, nb_26_6, nb_26_7]; first | done | exact rfl))
local macro_rules | `(tactic| wtm_at "ln") => `(tactic| first | (with_reducible exact lk_nil) | (simp only [lk_skip, lk_nil, nb_0_0, nb_0_1, nb_0_2, nb_0_3, nb_0_4, nb_0_5, nb_0_6, nb_0_7, nb_1_1, nb_1_2, nb_1_3, nb_1_4, nb_1_5, nb_1_6, nb_1_7, nb_2_0, nb_2_2, nb_2_3, nb_2_4, nb_2_5, nb_2_6, nb_2_7, nb_3_0, nb_3_1, nb_3_2, nb_3_3, nb_3_4, nb_3_5, nb_3_6, nb_3_7, nb_4_0, nb_4_1, nb_4_2, nb_4_3, nb_4_4, nb_4_5, nb_4_6, nb_4_7, nb_5_0, nb_5_1, nb_5_3, nb_5_4, nb_5_5, nb_5_6, nb_5_7, nb_6_0, nb_6_1, nb_6_2, nb_6_3, nb_6_4, nb_6_5, nb_6_6, nb_6_7, nb_7_0, nb_7_1, nb_7_2, nb_7_4, nb_7_5, nb_7_6, nb_7_7, nb_8_0, nb_8_1, nb_8_2, nb_8_3, nb_8_4, nb_8_5, nb_8_6, nb_8_7, nb_9_0, nb_9_1, nb_9_2, nb_9_3, nb_9_4, nb_9_5, nb_9_6, nb_9_7, nb_10_0, nb_10_1, nb_10_2, nb_10_3, nb_10_5, nb_10_6, nb_10_7, nb_11_0, nb_11_1, nb_11_2, nb_11_3, nb_11_4, nb_11_6, nb_11_7, nb_12_0, nb_12_1, nb_12_2, nb_12_3, nb_12_4, nb_12_5, nb_12_7, nb_13_0, nb_13_1, nb_13_2, nb_13_3, nb_13_4, nb_13_5, nb_13_6, nb_13_7, nb_14_0, nb_14_1, nb_14_2, nb_14_3, nb_14_4, nb_14_5, nb_14_6, nb_15_0, nb_15_1, nb_15_2, nb_15_3, nb_15_4, nb_15_5, nb_15_6, nb_15_7, nb_16_0, nb_16_1, nb_16_2, nb_16_3, nb_16_4, nb_16_5, nb_16_6, nb_16_7, nb_17_0, nb_17_1, nb_17_2, nb_17_3, nb_17_4, nb_17_5, nb_17_6, nb_17_7, nb_18_0, nb_18_1, nb_18_2, nb_18_3, nb_18_4, nb_18_5, nb_18_6, nb_18_7, nb_19_0, nb_19_1, nb_19_2, nb_19_3, nb_19_4, nb_19_5, nb_19_6, nb_19_7, nb_20_0, nb_20_1, nb_20_2, nb_20_3, nb_20_4, nb_20_5, nb_20_6, nb_20_7, nb_21_0, nb_21_1, nb_21_2, nb_21_3, nb_21_4, nb_21_5, nb_21_6, nb_21_7, nb_22_0, nb_22_1, nb_22_2, nb_22_3, nb_22_4, nb_22_5, nb_22_6, nb_22_7, nb_23_0, nb_23_1, nb_23_2, nb_23_3, nb_23_4, nb_23_5, nb_23_6, nb_23_7, nb_24_0, nb_24_1, nb_24_2, nb_24_3, nb_24_4, nb_24_5, nb_24_6, nb_24_7, nb_25_0, nb_25_1, nb_25_2, nb_25_3, nb_25_4, nb_25_5, nb_25_6, nb_25_7, nb_26_0, nb_26_1, nb_26_2, nb_26_3, nb_26_4, nb_26_5, nb_26_6, nb_26_7]; done))
local macro_rules | `(tactic| wtm_at "pu") => `(tactic| first | (with_reducible exact pf_nil) | (simp only [pf_nil, pf_here, pf_skip, nb_0_0, nb_0_1, nb_0_2, nb_0_3, nb_0_4, nb_0_5, nb_0_6, nb_0_7, nb_1_1, nb_1_2, nb_1_3, nb_1_4, nb_1_5, nb_1_6, nb_1_7, nb_2_0, nb_2_2, nb_2_3, nb_2_4, nb_2_5, nb_2_6, nb_2_7, nb_3_0, nb_3_1, nb_3_2, nb_3_3, nb_3_4, nb_3_5, nb_3_6, nb_3_7, nb_4_0, nb_4_1, nb_4_2, nb_4_3, nb_4_4, nb_4_5, nb_4_6, nb_4_7, nb_5_0, nb_5_1, nb_5_3, nb_5_4, nb_5_5, nb_5_6, nb_5_7, nb_6_0, nb_6_1, nb_6_2, nb_6_3, nb_6_4, nb_6_5, nb_6_6, nb_6_7, nb_7_0, nb_7_1, nb_7_2, nb_7_4, nb_7_5, nb_7_6, nb_7_7, nb_8_0, nb_8_1, nb_8_2, nb_8_3, nb_8_4, nb_8_5, nb_8_6, nb_8_7, nb_9_0, nb_9_1, nb_9_2, nb_9_3, nb_9_4, nb_9_5, nb_9_6, nb_9_7, nb_10_0, nb_10_1, nb_10_2, nb_10_3, nb_10_5, nb_10_6, nb_10_7, nb_11_0, nb_11_1, nb_11_2, nb_11_3, nb_11_4, nb_11_6, nb_11_7, nb_12_0, nb_12_1, nb_12_2, nb_12_3, nb_12_4, nb_12_5, nb_12_7, nb_13_0, nb_13_1, nb_13_2, nb_13_3, nb_13_4, nb_13_5, nb_13_6, nb_13_7, nb_14_0, nb_14_1, nb_14_2, nb_14_3, nb_14_4, nb_14_5, nb_14_6, nb_15_0, nb_15_1, nb_15_2, nb_15_3, nb_15_4, nb_15_5, nb_15_6, nb_15_7, nb_16_0, nb_16_1, nb_16_2, nb_16_3, nb_16_4, nb_16_5, nb_16_6, nb_16_7, nb_17_0, nb_17_1, nb_17_2, nb_17_3, nb_17_4, nb_17_5, nb_17_6, nb_17_7, nb_18_0, nb_18_1, nb_18_2, nb_18_3, nb_18_4, nb_18_5, nb_18_6, nb_18_7, nb_19_0, nb_19_1, nb_19_2, nb_19_3, nb_19_4, nb_19_5, nb_19_6, nb_19_7, nb_20_0, nb_20_1, nb_20_2, nb_20_3, nb_20_4, nb_20_5, nb_20_6, nb_20_7, nb_21_0, nb_21_1, nb_21_2, nb_21_3, nb_21_4, nb_21_5, nb_21_6, nb_21_7, nb_22_0, nb_22_1, nb_22_2, nb_22_3, nb_22_4, nb_22_5, nb_22_6, nb_22_7, nb_23_0, nb_23_1, nb_23_2, nb_23_3, nb_23_4, nb_23_5, nb_23_6, nb_23_7, nb_24_0, nb_24_1, nb_24_2, nb_24_3, nb_24_4, nb_24_5, nb_24_6, nb_24_7, nb_25_0, nb_25_1, nb_25_2, nb_25_3, nb_25_4, nb_25_5, nb_25_6, nb_25_7, nb_26_0, nb_26_1, nb_26_2, nb_26_3, nb_26_4, nb_26_5, nb_26_6, nb_26_7]; first | done | exact rfl))
local macro_rules | `(tactic| wtm_at "tk") => `(tactic| first | (with_reducible exact Take.here) | (exact Take.here) | ((with_reducible apply Take.there); wtm_at "tk"))
local macro_rules | `(tactic| wtm_at "pk") => `(tactic| first | exact Pick.nil | ((with_reducible refine' Pick.cons ?tk1 ?pk1); (case tk1 => wtm_at "tk"); (case pk1 => wtm_at "pk")) | ((with_reducible refine Pick.im (by wtm_at "mem") ?_); wtm_at "pk") | ((with_reducible refine Pick.ims (by wtm_at "mem") ?_); wtm_at "pk"))
section
variable {P : Program} {w : World} {K : PySem.W.Frag} {mg : Str → Option Value} {base : Heap}
def sp__law_size (K : PySem.W.Frag) : Sp := fun vs H Q _ => ∃ (a : Addr) (t : List Int), vs = [.ref a] ∧ SqT K H a (t.map V.int) ∧ 1 ≤ t.length ∧ Q (.int (if t.length = 1 then 1 else t.getD 0 0)) H
theorem ok__law_size (T : Tx K mg) : Cl P w K mg base 1 "_law_size" ["token"] (sp__law_size K) [] := by
  obtain ⟨gm, fd, F⟩ := T.d__law_size
  refine ⟨_, fd, [], F.ok sc__law_size (fun vs H Q E h => ?_) (fun cdv A outer s H vs Q E hr h => ⟨_, (PSs.nox (pss_cons (ps_if (pt_cmpR op_eq (pe_callB (lenK K) rfl T.b_len (by decide +kernel) (pa_cons (pv 0) pa_nil)) pe_int (nomark _))
 (pss_one (ps_ret (by exact pe_int)))
 pss_nil)
 (pss_one (ps_ret (by exact (pe_ix (ixt K) (pv 0) pe_int (fun _ _ => rfl))))))), ?_⟩), gm, F.kp, F.bindsN (fun _ _ _ _ _ _ us hl => match us, hl with | [_], _ => rfl), .nil⟩
  · first | (obtain ⟨rfl, _⟩ := h; rfl) | (obtain ⟨_, rfl, _⟩ := h; rfl) | (obtain ⟨_, _, rfl, _⟩ := h; rfl) | (obtain ⟨_, _, _, rfl, _⟩ := h; rfl) | (obtain ⟨_, _, _, _, rfl, _⟩ := h; rfl) | (obtain ⟨_, _, _, _, _, rfl, _⟩ := h; rfl) | (obtain ⟨_, _, _, _, _, _, rfl, _⟩ := h; rfl) | (obtain ⟨_, _, _, _, _, _, _, rfl, _⟩ := h; rfl) | (obtain ⟨_, _, _, _, _, _, _, _, rfl, _⟩ := h; rfl) | (obtain ⟨_, _, _, _, _, _, _, _, _, rfl, _⟩ := h; rfl) | (obtain ⟨_, _, _, _, _, _, _, _, _, _, rfl, _⟩ := h; rfl) | (obtain ⟨_, _, _, _, _, _, _, _, _, _, _, rfl, _⟩ := h; rfl) | (obtain ⟨_, _, _, _, _, _, _, _, _, _, _, _, rfl, _⟩ := h; rfl) | (obtain ⟨_, _, _, _, _, _, _, _, _, _, _, _, _, rfl, _⟩ := h; rfl) | (obtain ⟨_, _, _, _, _, _, _, _, _, _, _, _, _, _, rfl, _⟩ := h; rfl) | (obtain ⟨_, _, _, _, _, _, _, _, _, _, _, _, _, _, _, rfl, _⟩ := h; rfl) | (obtain ⟨_, _, _, _, _, _, _, _, _, _, _, _, _, _, _, _, rfl, _⟩ := h; rfl) | (obtain ⟨_, _, _, _, _, _, _, _, _, _, _, _, _, _, _, _, _, rfl, _⟩ := h; rfl) | (obtain ⟨_, _, _, _, _, _, _, _, _, _, _, _, _, _, _, _, _, _, rfl, _⟩ := h; rfl) | (obtain ⟨_, _, _, _, _, _, _, _, _, _, _, _, _, _, _, _, _, _, _, rfl, _⟩ := h; rfl) | (obtain ⟨_, _, _, _, _, _, _, _, _, _, _, _, _, _, _, _, _, _, _, _, rfl, _⟩ := h; rfl) | (obtain ⟨_, _, _, _, _, _, _, _, _, _, _, _, _, _, _, _, _, _, _, _, _, rfl, _⟩ := h; rfl)
  · obtain ⟨a, t, rfl, hS, hl, q⟩ := h
    k_call_by "xo" st__law_size
    wtm_at "oo"
    refine sel_d (fun c => ?_) (fun c => ?_)
    · rw [if_pos (by omega)] at q
      wtm_at "oo"
      exact q
    · rw [if_neg (by omega)] at q
      wtm_at "oo"
      exact q
def sp__law_good (K : PySem.W.Frag) : Sp := fun vs H Q _ => ∃ (a b : Addr) (t hs : List Int) (i f w : Int), vs = [.ref a, .ref b, .int i, .int f, .int w] ∧ SqT K H a (t.map V.int) ∧ SqL K H b (hs.map V.int) ∧ hs.length ≤ 5000 ∧ 0 ≤ i ∧ 0 ≤ f ∧ tokOk hs i f w t ∧ ∀ H', Own K H H' [] → Q (.bl true) H'
theorem ok__law_good (T : Tx K mg) : Cl P w K mg base 2 "_law_good" ["token", "history", "at", "floor", "window"] (sp__law_good K) [] := by
  obtain ⟨gm, fd, F⟩ := T.d__law_good
  refine ⟨_, fd, [], F.ok sc__law_good (fun vs H Q E h => ?_) (fun cdv A outer s H vs Q E hr h => ⟨_, (PSs.nox (pss_cons (ps_if (PW.pt (pw_or (pt_not (pt_val (pe_callB (isiK K) rfl T.b_isinstance (by decide +kernel) (pa_cons (pv 0) (pa_cons (pe_bltn (v := .ty "tuple") rfl T.b_tuple (by decide +kernel) rfl) pa_nil))))) (pw_or1 (pt_cmpR op_notIn_seq (pe_callB (lenK K) rfl T.b_len (by decide +kernel) (pa_cons (pv 0) pa_nil)) (pe_tup (pa_cons pe_int (pa_cons pe_int pa_nil))) rfl))))
 (pss_one (ps_ret (by exact pe_bl)))
 pss_nil)
 (pss_cons (ps_for PassesOwn.never rfl (pi_tup (pv 0)) (pg_name (i := 5) sc__law_good.nd rfl (Or.inl rfl))
 (pss_one (ps_if (pt_not (pt_val (pe_cl (ok__law_is_integer T) (hr.mono (by decide)) rfl (pa_cons (pv 5) pa_nil))))
 (pss_one (ps_ret (by exact pe_bl)))
 pss_nil)))
 (pss_cons (ps_if (pt_cmpR op_eq (pe_callB (lenK K) rfl T.b_len (by decide +kernel) (pa_cons (pv 0) pa_nil)) pe_int (nomark _))
 (pss_one (ps_ret (by exact (pe_and (pe_cmpR op_lt (pv 2) (pe_callB (lenK K) rfl T.b_len (by decide +kernel) (pa_cons (pv 1) pa_nil)) (nomark _)) (pe_one (pe_cmpR op_eq (pe_ix (ixt K) (pv 0) pe_int (fun _ _ => rfl)) (pe_ix (ixl K) (pv 1) (pv 2) (fun _ _ => rfl)) (nomark _)))))))
 pss_nil)
 (pss_cons (ps_if (PW.pt (pw_or (pt_not (pt_chain op_le op_le pe_int (pe_ix (ixt K) (pv 0) pe_int (fun _ _ => rfl)) pe_int)) (pw_or (pt_not (pt_chain op_le op_le pe_int (pe_ix (ixt K) (pv 0) pe_int (fun _ _ => rfl)) (pv 4))) (pw_or1 (pt_cmpR op_lt (pe_op op_sub (pv 2) (pe_ix (ixt K) (pv 0) pe_int (fun _ _ => rfl))) (pv 3) (nomark _))))))
 (pss_one (ps_ret (by exact pe_bl)))
 pss_nil)
 (pss_cons (ps_if (pt_cmpR op_gt (pe_op op_add (pv 2) (pe_ix (ixt K) (pv 0) pe_int (fun _ _ => rfl))) (pe_callB (lenK K) rfl T.b_len (by decide +kernel) (pa_cons (pv 1) pa_nil)) (nomark _))
 (pss_one (ps_ret (by exact pe_bl)))
 pss_nil)
 (pss_cons (ps_for PassesOwn.never rfl (pi_range1 rfl T.b_range (pa_cons (pe_ix (ixt K) (pv 0) pe_int (fun _ _ => rfl)) pa_nil)) (pg_name (i := 6) sc__law_good.nd rfl (Or.inl rfl))
 (pss_one (ps_if (pt_cmpR op_ne (pe_ix (ixl K) (pv 1) (pe_op op_add (pv 2) (pv 6)) (fun _ _ => rfl)) (pe_ix (ixl K) (pv 1) (pe_op op_sub (pe_op op_add (pv 2) (pv 6)) (pe_ix (ixt K) (pv 0) pe_int (fun _ _ => rfl))) (fun _ _ => rfl)) (nomark _))
 (pss_one (ps_ret (by exact pe_bl)))
 pss_nil)))
 (pss_one (ps_ret (by exact pe_bl)))))))))), ?_⟩), gm, F.kp, F.bindsN (fun _ _ _ _ _ _ us hl => match us, hl with | [_, _, _, _, _], _ => rfl), .nil⟩
  · first | (obtain ⟨rfl, _⟩ := h; rfl) | (obtain ⟨_, rfl, _⟩ := h; rfl) | (obtain ⟨_, _, rfl, _⟩ := h; rfl) | (obtain ⟨_, _, _, rfl, _⟩ := h; rfl) | (obtain ⟨_, _, _, _, rfl, _⟩ := h; rfl) | (obtain ⟨_, _, _, _, _, rfl, _⟩ := h; rfl) | (obtain ⟨_, _, _, _, _, _, rfl, _⟩ := h; rfl) | (obtain ⟨_, _, _, _, _, _, _, rfl, _⟩ := h; rfl) | (obtain ⟨_, _, _, _, _, _, _, _, rfl, _⟩ := h; rfl) | (obtain ⟨_, _, _, _, _, _, _, _, _, rfl, _⟩ := h; rfl) | (obtain ⟨_, _, _, _, _, _, _, _, _, _, rfl, _⟩ := h; rfl) | (obtain ⟨_, _, _, _, _, _, _, _, _, _, _, rfl, _⟩ := h; rfl) | (obtain ⟨_, _, _, _, _, _, _, _, _, _, _, _, rfl, _⟩ := h; rfl) | (obtain ⟨_, _, _, _, _, _, _, _, _, _, _, _, _, rfl, _⟩ := h; rfl) | (obtain ⟨_, _, _, _, _, _, _, _, _, _, _, _, _, _, rfl, _⟩ := h; rfl) | (obtain ⟨_, _, _, _, _, _, _, _, _, _, _, _, _, _, _, rfl, _⟩ := h; rfl) | (obtain ⟨_, _, _, _, _, _, _, _, _, _, _, _, _, _, _, _, rfl, _⟩ := h; rfl) | (obtain ⟨_, _, _, _, _, _, _, _, _, _, _, _, _, _, _, _, _, rfl, _⟩ := h; rfl) | (obtain ⟨_, _, _, _, _, _, _, _, _, _, _, _, _, _, _, _, _, _, rfl, _⟩ := h; rfl) | (obtain ⟨_, _, _, _, _, _, _, _, _, _, _, _, _, _, _, _, _, _, _, rfl, _⟩ := h; rfl) | (obtain ⟨_, _, _, _, _, _, _, _, _, _, _, _, _, _, _, _, _, _, _, _, rfl, _⟩ := h; rfl) | (obtain ⟨_, _, _, _, _, _, _, _, _, _, _, _, _, _, _, _, _, _, _, _, _, rfl, _⟩ := h; rfl)
  · obtain ⟨a, b, t, hs, i, f, w, rfl, hT, hS, hl, i0, f0, ok, q⟩ := h
    k_call_by "xo" st__law_good
    have L := Own.start (K := K) (H := H)
    rcases ok with ⟨v, rfl, h1, h2⟩ | ⟨x, y, rfl, x3, x258, y1, yw, fy, xl, eq⟩
    · wtm_at "oo"
      rename_i p2 H2 N2
      refine notInT_ints (xs := [1, 2]) (by wtm_at "qo") ?_
      rw [show (!decide (((0 + 1 : Nat) : Int) ∈ ([1, 2] : List Int))) = false from by decide]
      wtm_at "oo"
      refine loop_tup (xs := ([v] : List Int).map V.int) (fun k σ H' => ∃ y5, σ = [some (.ref a), some (.ref b), some (.int i), some (.int f), some (.int w), y5, none] ∧ Own K H H' []) ⟨none, rfl, N2.sub (List.nil_sublist _)⟩ (fun _ σ H' _ ⟨_, _, L⟩ => L.sqT hT) ?_ ?_
      · rintro k u σ H3 hx ⟨y5, rfl, L3⟩
        obtain ⟨u, hz, rfl⟩ := int_at hx
        wtm_at "oo"
        exact L3
      · rintro σ H3 ⟨y5, rfl, L3⟩
        wtm_at "oo"
        rw [h2, decide_eq_true rfl]
        exact q _ L3
    · wtm_at "oo"
      rename_i p2 H2 N2
      refine notInT_ints (xs := [1, 2]) (by wtm_at "qo") ?_
      rw [show (!decide (((0 + 1 + 1 : Nat) : Int) ∈ ([1, 2] : List Int))) = false from by decide]
      wtm_at "oo"
      refine loop_tup (xs := ([x, y] : List Int).map V.int) (fun k σ H' => ∃ y5, σ = [some (.ref a), some (.ref b), some (.int i), some (.int f), some (.int w), y5, none] ∧ Own K H H' []) ⟨none, rfl, N2.sub (List.nil_sublist _)⟩ (fun _ σ H' _ ⟨_, _, L⟩ => L.sqT hT) ?_ ?_
      · rintro k u σ H3 hx ⟨y5, rfl, L3⟩
        obtain ⟨u, hz, rfl⟩ := int_at hx
        wtm_at "oo"
        exact L3
      · rintro σ H3 ⟨y5, rfl, L3⟩
        wtm_at "oo"
        refine loop_range (fun k σ H' => ∃ y6, σ = [some (.ref a), some (.ref b), some (.int i), some (.int f), some (.int w), y5, y6] ∧ Own K H H' []) ⟨none, rfl, L3⟩ ?_ ?_
        · rintro k σ H4 hk ⟨y6, rfl, L4⟩
          have hk2 : k < x.toNat := hk
          have e2 := eq k (by omega)
          rw [show i.toNat + k = (i + (0 + (k : Int))).toNat by omega, show (i - y).toNat + k = (i + (0 + (k : Int)) - y).toNat by omega] at e2
          wtm_at "oo"
          exact L4
        · rintro σ H4 ⟨y6, rfl, L4⟩
          wtm_at "oo"
          exact q _ L4
def sp__law_forgets (K : PySem.W.Frag) : Sp := fun vs H Q _ => ∃ (p dxp h hh c dx d bb : Addr) (at_ x y w f fr : Int) (hs : List Int), vs = [.ref p] ∧ H p = some (pC K dxp h at_ hh c) ∧ H c = some (cC K dx w f d bb) ∧ SqL K H h (hs.map V.int) ∧ SqT K H hh ([x, y].map V.int) ∧
  fr = (if (x = 0 ∧ y = 0) then at_ else at_ - 1) ∧ (fr = hs.length → ∀ H', Own K (delL H [c]) H' [.pt c (cC K dx w (max f hs.length) d bb)] → Q (.int (-1)) H') ∧ (¬ fr = hs.length → ∀ H', Own K H H' [] → Q (.int fr) H')
theorem ok__law_forgets (T : Tx K mg) : Cl P w K mg base 4 "_law_forgets" ["parser"] (sp__law_forgets K) [] := by
  obtain ⟨gm, fd, F⟩ := T.d__law_forgets
  refine ⟨_, fd, [], F.ok sc__law_forgets (fun vs H Q E h => ?_) (fun cdv A outer s H vs Q E hr h => ⟨_, (PSs.nox (pss_cons (L2N.ps_try_as (i := 1) rfl rfl sc__law_forgets.nd rfl rfl ⟨rfl, by decide, .inl T.x_Busy.g⟩ takes0N
 (fun W pn xe tk hp => (pss_one (ps_expr (pe_mtS0 (ok_Parser_forget T) (hr.mono (by decide)) tk (pv 0)))))
 (fun a oe cls d pn hz hf => (pss_one (ps_ret (by exact (pe_xfB T.x_Busy hz hf (pv 1)))))))
 (pss_one (ps_ret (by exact (pe_un un_neg pe_int)))))), ?_⟩), gm, F.kp, F.bindsN (fun _ _ _ _ _ _ us hl => match us, hl with | [_], _ => rfl), .nil⟩
  · first | (obtain ⟨rfl, _⟩ := h; rfl) | (obtain ⟨_, rfl, _⟩ := h; rfl) | (obtain ⟨_, _, rfl, _⟩ := h; rfl) | (obtain ⟨_, _, _, rfl, _⟩ := h; rfl) | (obtain ⟨_, _, _, _, rfl, _⟩ := h; rfl) | (obtain ⟨_, _, _, _, _, rfl, _⟩ := h; rfl) | (obtain ⟨_, _, _, _, _, _, rfl, _⟩ := h; rfl) | (obtain ⟨_, _, _, _, _, _, _, rfl, _⟩ := h; rfl) | (obtain ⟨_, _, _, _, _, _, _, _, rfl, _⟩ := h; rfl) | (obtain ⟨_, _, _, _, _, _, _, _, _, rfl, _⟩ := h; rfl) | (obtain ⟨_, _, _, _, _, _, _, _, _, _, rfl, _⟩ := h; rfl) | (obtain ⟨_, _, _, _, _, _, _, _, _, _, _, rfl, _⟩ := h; rfl) | (obtain ⟨_, _, _, _, _, _, _, _, _, _, _, _, rfl, _⟩ := h; rfl) | (obtain ⟨_, _, _, _, _, _, _, _, _, _, _, _, _, rfl, _⟩ := h; rfl) | (obtain ⟨_, _, _, _, _, _, _, _, _, _, _, _, _, _, rfl, _⟩ := h; rfl) | (obtain ⟨_, _, _, _, _, _, _, _, _, _, _, _, _, _, _, rfl, _⟩ := h; rfl) | (obtain ⟨_, _, _, _, _, _, _, _, _, _, _, _, _, _, _, _, rfl, _⟩ := h; rfl) | (obtain ⟨_, _, _, _, _, _, _, _, _, _, _, _, _, _, _, _, _, rfl, _⟩ := h; rfl) | (obtain ⟨_, _, _, _, _, _, _, _, _, _, _, _, _, _, _, _, _, _, rfl, _⟩ := h; rfl) | (obtain ⟨_, _, _, _, _, _, _, _, _, _, _, _, _, _, _, _, _, _, _, rfl, _⟩ := h; rfl) | (obtain ⟨_, _, _, _, _, _, _, _, _, _, _, _, _, _, _, _, _, _, _, _, rfl, _⟩ := h; rfl) | (obtain ⟨_, _, _, _, _, _, _, _, _, _, _, _, _, _, _, _, _, _, _, _, _, rfl, _⟩ := h; rfl)
  · obtain ⟨p, dxp, h, hh, c, dx, d, bb, at_, x, y, w, f, fr, hs, rfl, hp, hc, hS, hx, hfr, q, qe⟩ := h
    k_call_by "xo" st__law_forgets
    have cP := T.c_Parser
    have L := Own.start (K := K) (H := H)
    wtm_at "oo"
    refine ⟨p, dxp, h, hh, c, dx, d, bb, at_, x, y, w, f, hs, rfl, hp, hc, hS, hx, fun e H1 M => ?_, fun e z hz => as_yes T.x_Busy fun u hu => ?_⟩
    · have q := q (hfr.trans e)
      wtm_at "oo"
      exact q H1 M
    · have qe := qe (fun u => e (hfr.symm.trans u))
      rw [← hfr]
      have L := L.new hz (.xd [("at", .int fr)])
      wtm_at "oo"
      exact qe _ (L.sub (List.nil_sublist _))
def grS (z : Int) : Int := if z % 8 = 5 then 330 else z % 13
def grV (z : Int) (ls : List Int) (n : Nat) : Int := ls.getD ((z / 13 + (0 + (n : Int)) * (0 + (n : Int)) * (z / 91)) % 3).toNat 0
def sp__law_grown (K : PySem.W.Frag) : Sp := fun vs H Q _ => ∃ (a b : Addr) (ds ls : List Int) (k : Int), vs = [.ref a, .int k, .ref b] ∧ SqL K H a (ds.map V.int) ∧ SqL K H b (ls.map V.int) ∧ ls.length = 3 ∧ 0 ≤ k ∧
  ∀ ys r H', ys.length ≤ 330 → (300 < ys.length ∨ ys.length ≤ 12) → Own K H H' [pI r ys] → Q (.ref r) H'
theorem ok__law_grown (T : Tx K mg) : Cl P w K mg base 2 "_law_grown" ["draws", "k", "letters"] (sp__law_grown K) [] := by
  obtain ⟨gm, fd, F⟩ := T.d__law_grown
  refine ⟨_, fd, [], F.ok sc__law_grown (fun vs H Q E h => ?_) (fun cdv A outer s H vs Q E hr h => ⟨_, (PSs.nox (pss_cons (ps_set (i := 3) sc__law_grown.nd rfl (Or.inr rfl) (by exact (pe_cl (ok__law_at T) (hr.mono (by decide)) rfl (pa_cons (pv 0) (pa_cons (pv 1) (pa_cons pe_int pa_nil))))))
 (pss_cons (ps_set (i := 4) sc__law_grown.nd rfl (Or.inl rfl) (by exact (pe_op op_mod (pe_callTy call_int1 rfl T.b_int (by decide +kernel) (pa_cons (pv 3) pa_nil)) pe_int)))
 (pss_cons (ps_if (pt_cmpR op_eq (pe_op op_mod (pe_callTy call_int1 rfl T.b_int (by decide +kernel) (pa_cons (pv 3) pa_nil)) pe_int) pe_int (nomark _))
 (pss_one (ps_set (i := 4) sc__law_grown.nd rfl (Or.inl rfl) (by exact pe_int)))
 pss_nil)
 (pss_one (ps_ret (by exact (pe_lc (own := [("n", 5)]) (g := (gName 5)) (tt := tYes) rfl sc__law_grown.nd (pi_range1 rfl T.b_range (pa_cons (pv 4) pa_nil)) (blkOk_by (own := [("n", 5)]) (N := N__law_grown) (sc := defScope s__law_grown) (by decide +kernel)) (fun _ _ _ _ _ => pg_name (i := 5) sc__law_grown.nd rfl (Or.inl rfl)) (fun _ _ _ _ _ => pts_nil) (fun _ _ _ _ _ => (pe_ix (ixl K) (pv 2) (pe_op op_mod (pe_callTy call_int1 rfl T.b_int (by decide +kernel) (pa_cons (pe_op op_add (pe_op op_fdiv (pv 3) pe_int) (pe_op op_mul (pe_op op_mul (pv 5) (pv 5)) (pe_callTy call_int1 rfl T.b_int (by decide +kernel) (pa_cons (pe_op op_fdiv (pv 3) pe_int) pa_nil)))) pa_nil)) pe_int) (fun _ _ => rfl))))))))))), ?_⟩), gm, F.kp, F.bindsN (fun _ _ _ _ _ _ us hl => match us, hl with | [_, _, _], _ => rfl), .nil⟩
  · first | (obtain ⟨rfl, _⟩ := h; rfl) | (obtain ⟨_, rfl, _⟩ := h; rfl) | (obtain ⟨_, _, rfl, _⟩ := h; rfl) | (obtain ⟨_, _, _, rfl, _⟩ := h; rfl) | (obtain ⟨_, _, _, _, rfl, _⟩ := h; rfl) | (obtain ⟨_, _, _, _, _, rfl, _⟩ := h; rfl) | (obtain ⟨_, _, _, _, _, _, rfl, _⟩ := h; rfl) | (obtain ⟨_, _, _, _, _, _, _, rfl, _⟩ := h; rfl) | (obtain ⟨_, _, _, _, _, _, _, _, rfl, _⟩ := h; rfl) | (obtain ⟨_, _, _, _, _, _, _, _, _, rfl, _⟩ := h; rfl) | (obtain ⟨_, _, _, _, _, _, _, _, _, _, rfl, _⟩ := h; rfl) | (obtain ⟨_, _, _, _, _, _, _, _, _, _, _, rfl, _⟩ := h; rfl) | (obtain ⟨_, _, _, _, _, _, _, _, _, _, _, _, rfl, _⟩ := h; rfl) | (obtain ⟨_, _, _, _, _, _, _, _, _, _, _, _, _, rfl, _⟩ := h; rfl) | (obtain ⟨_, _, _, _, _, _, _, _, _, _, _, _, _, _, rfl, _⟩ := h; rfl) | (obtain ⟨_, _, _, _, _, _, _, _, _, _, _, _, _, _, _, rfl, _⟩ := h; rfl) | (obtain ⟨_, _, _, _, _, _, _, _, _, _, _, _, _, _, _, _, rfl, _⟩ := h; rfl) | (obtain ⟨_, _, _, _, _, _, _, _, _, _, _, _, _, _, _, _, _, rfl, _⟩ := h; rfl) | (obtain ⟨_, _, _, _, _, _, _, _, _, _, _, _, _, _, _, _, _, _, rfl, _⟩ := h; rfl) | (obtain ⟨_, _, _, _, _, _, _, _, _, _, _, _, _, _, _, _, _, _, _, rfl, _⟩ := h; rfl) | (obtain ⟨_, _, _, _, _, _, _, _, _, _, _, _, _, _, _, _, _, _, _, _, rfl, _⟩ := h; rfl) | (obtain ⟨_, _, _, _, _, _, _, _, _, _, _, _, _, _, _, _, _, _, _, _, _, rfl, _⟩ := h; rfl)
  · obtain ⟨a, b, ds, ls, k, rfl, hD, hS, h3, k0, q⟩ := h
    k_call_by "xo" st__law_grown
    have L := Own.start (K := K) (H := H)
    wtm_at "oo"
    rename_i z0 z1
    generalize atD ds k 60000 = z at *
    generalize hk : tRet _ _ = kont
    have fin : ∀ n : Int, 0 ≤ n → n ≤ 330 → (300 < n ∨ n ≤ 12) → kont [some (.ref a), some (.int k), some (.ref b), some (.int z), some (.int n), none] H := by
      intro n n0 n1 nn
      subst hk
      wtm_at "oo"
      refine compRi (fun i => ls.getD ((z / 13 + (0 + (i : Int)) * (0 + (i : Int)) * (z / 91)) % 3).toNat 0) L (by omega) (fun i D H1 hi L1 => ?_) (fun D H1 L1 => ?_)
      · have e0 := Int.emod_nonneg (z / 13 + (0 + (i : Int)) * (0 + (i : Int)) * (z / 91)) (show (3 : Int) ≠ 0 by decide)
        have e1 := Int.emod_lt_of_pos (z / 13 + (0 + (i : Int)) * (0 + (i : Int)) * (z / 91)) (show (0 : Int) < 3 by decide)
        wtm_at "oo"
      · exact q _ D H1 (by rw [rngL_len]; omega) (by rw [rngL_len]; omega) L1
    have e0 := Int.emod_nonneg z (show (13 : Int) ≠ 0 by decide)
    have e1 := Int.emod_lt_of_pos z (show (0 : Int) < 13 by decide)
    refine sel_d (fun c => ?_) (fun c => ?_)
    · wtm_at "oo"
      exact fin _ (by omega) (by omega) (by omega)
    · wtm_at "oo"
      exact fin _ (by omega) (by omega) (by omega)


end
end K52

namespace K52
open PySem PySem.Spec PyProof.Rows L2 Bel
local macro_rules | `(tactic| wtm_at "xs") => `(tactic| simp only [x_next, x_seq, x_brk, x_cont, x_drop, x_ret, x_retN, x_if, sel_t, sel_f, selE_t, selE_f, selT_t, selT_f, selC_t, selC_f, x_test, x_tB, x_op, x_un, x_var, x_c, x_cb, x_nil, x_cons, x_rI, x_rI0, x_rU, x_rEq, x_rNe, x_rIxL, x_rIxT, x_rSlL, x_rCat, x_rRep, x_rApp, x_bm, x_bm0, x_sl, x_nopart, x_part, x_tup, x_lst, x_call, x_callS, x_asg, x_gname, x_gtup, x_gnil, x_gcons, x_gsub, x_setL, x_aug, x_ipI, x_ipC, x_bits, x_getL, x_augS, x_and, x_or, x_not, x_k, x_andV, x_orV, x_notV, x_ife, x_chain, x_for, x_ilist, x_itup, x_ienum, x_irng1, x_irng2, x_irev, x_lc, x_yes, wipe_nil, wipe_cons, List.map_cons, List.map_nil, x_misc, x_misc2, x_rz, lookup_at, Bool.not_true, Bool.not_false, decide_true, decide_false, not_true, not_false_eq_true, and_assoc, exists_and_left, exists_eq_left', exists_eq_left, exists_eq', exists_eq_right', exists_eq_right, V.int.injEq, V.ref.injEq, V.bl.injEq, V.str.injEq, List.cons.injEq, and_true, true_and, and_self, Option.some.injEq, List.cons_append, List.nil_append, List.append_nil, List.getElem?_cons_zero, List.getElem?_cons_succ, List.set_cons_zero, List.set_cons_succ, reduceCtorEq, false_and, and_false, exists_false, exists_const, or_false, false_or, scal_ii, scal_bb, scal_ss, List.length_cons, List.length_nil, Int.reduceToNat, Int.reducePow])
local macro_rules | `(tactic| k_call_by "xs" $h:term) => `(tactic| simp only [$h:term, x_next, x_seq, x_brk, x_cont, x_drop, x_ret, x_retN, x_if, sel_t, sel_f, selE_t, selE_f, selT_t, selT_f, selC_t, selC_f, x_test, x_tB, x_op, x_un, x_var, x_c, x_cb, x_nil, x_cons, x_rI, x_rI0, x_rU, x_rEq, x_rNe, x_rIxL, x_rIxT, x_rSlL, x_rCat, x_rRep, x_rApp, x_bm, x_bm0, x_sl, x_nopart, x_part, x_tup, x_lst, x_call, x_callS, x_asg, x_gname, x_gtup, x_gnil, x_gcons, x_gsub, x_setL, x_aug, x_ipI, x_ipC, x_bits, x_getL, x_augS, x_and, x_or, x_not, x_k, x_andV, x_orV, x_notV, x_ife, x_chain, x_for, x_ilist, x_itup, x_ienum, x_irng1, x_irng2, x_irev, x_lc, x_yes, wipe_nil, wipe_cons, List.map_cons, List.map_nil, x_misc, x_misc2, x_rz, lookup_at, Bool.not_true, Bool.not_false, decide_true, decide_false, not_true, not_false_eq_true, and_assoc, exists_and_left, exists_eq_left', exists_eq_left, exists_eq', exists_eq_right', exists_eq_right, V.int.injEq, V.ref.injEq, V.bl.injEq, V.str.injEq, List.cons.injEq, and_true, true_and, and_self, Option.some.injEq, List.cons_append, List.nil_append, List.append_nil, List.getElem?_cons_zero, List.getElem?_cons_succ, List.set_cons_zero, List.set_cons_succ, reduceCtorEq, false_and, and_false, exists_false, exists_const, or_false, false_or, scal_ii, scal_bb, scal_ss, List.length_cons, List.length_nil, Int.reduceToNat, Int.reducePow])
local macro_rules | `(tactic| wtm_at "hp") => `(tactic| first | (with_reducible assumption) | exact upd_same | (refine upd_keep (by with_reducible assumption) ?_; wtm_at "hp") | (refine Same.get (by with_reducible assumption) ?_; wtm_at "hp") | (refine upd_other (by first | (with_reducible assumption) | exact Ne.symm (by with_reducible assumption)) ?_; wtm_at "hp"))
local macro_rules | `(tactic| wtm_at "sq") => `(tactic| first | (with_reducible assumption) | exact SqL.of (by wtm_at "hp") | exact SqT.of (by wtm_at "hp") | (refine Same.seq (same_upd (by with_reducible assumption)) ?_; wtm_at "sq") | (refine Same.seq (by with_reducible assumption) ?_; wtm_at "sq") | (refine Same.seqT (same_upd (by with_reducible assumption)) ?_; wtm_at "sq") | (refine Same.seqT (by with_reducible assumption) ?_; wtm_at "sq"))
local macro_rules | `(tactic| wtm_at "cl") => `(tactic| first | (with_reducible assumption) | omega | (exact cmul_r (by omega) (by omega)) | (exact cmul_l (by omega) (by omega)) | (exact cdiv_ok (by omega) (by omega)) | (exact cpow_ok (by decide)) | (exact ⟨by omega, by omega, by omega⟩) | decide | (exact ⟨by omega, by omega⟩) | (simp only [List.length_append, List.length_map, List.length_set, List.length_cons, List.length_nil, rngL_len, sizeLine_eq]; omega) | wtm_at "hp" | wtm_at "sq")
local macro_rules | `(tactic| wtm_at "pf") => `(tactic| first | (with_reducible assumption) | omega | (simp only [List.length_append, List.length_map, List.length_set, List.length_cons, List.length_nil, rngL_len]; omega) | (with_reducible rfl) | (with_reducible trivial) | (with_reducible decide))
local macro_rules | `(tactic| wtm_at "st") => `(tactic| first | ((with_reducible refine g_at ?_); refine at_call (by wtm_at "sq") (by omega) (by omega) (fun _ _ => ?_)) | ((with_reducible refine g_int ?_); refine int_call ?_) | ((with_reducible refine g_isi ?_); first | (with_reducible refine isi_ii ?_) | (with_reducible refine isi_ib ?_) | (refine isi_int rfl ?_) | (refine isi_lst rfl (by wtm_at "hp") ?_) | (refine isi_tup rfl (by wtm_at "hp") ?_)) | ((with_reducible refine g_ned ?_); refine ned_f (dq_lst (by wtm_at "sq")) (dq_lst (by wtm_at "sq")) ?_) | ((with_reducible refine g_eqd ?_); refine eqd_t (dq_lst (by wtm_at "sq")) (dq_lst (by wtm_at "sq")) ?_) | ((with_reducible refine g_tyv ?_); refine and_tyv (by wtm_at "sq") ?_) | ((with_reducible refine g_asq ?_); refine and_sq (by wtm_at "sq") ?_) | ((with_reducible refine g_lst ?_); refine ex_lst (by wtm_at "hp") ?_) | ((with_reducible refine g_or ?_); first | (refine ex_or (by wtm_at "sq") ?_) | (refine ex_ort (by wtm_at "sq") ?_)) | ((with_reducible refine g_sq ?_); refine ex_sq (by wtm_at "sq") ?_) | ((with_reducible refine g_sqt ?_); refine ex_sqt (by wtm_at "sq") ?_) | ((with_reducible refine gd_sel ?_); first | (refine sel_p (by wtm_at "pf") ?_) | (refine sel_n (by wtm_at "pf") ?_)) | ((with_reducible refine gn_sel ?_); first | (refine selN_p (by wtm_at "pf") ?_) | (refine selN_n (by wtm_at "pf") ?_)) | ((with_reducible refine gd_selT ?_); first | (refine selT_p (by wtm_at "pf") ?_) | (refine selT_n (by wtm_at "pf") ?_)) | ((with_reducible refine gn_selT ?_); first | (refine selTN_p (by wtm_at "pf") ?_) | (refine selTN_n (by wtm_at "pf") ?_)) | ((with_reducible refine gd_selE ?_); first | (refine selE_p (by wtm_at "pf") ?_) | (refine selE_n (by wtm_at "pf") ?_)) | ((with_reducible refine gn_selE ?_); first | (refine selEN_p (by wtm_at "pf") ?_) | (refine selEN_n (by wtm_at "pf") ?_)) | ((with_reducible refine g_xf ?_); refine xf_at rfl (by wtm_at "hp") ?_) | ((with_reducible refine g_atI ?_); refine ex_at (by first | exact rfl | exact atI_int (by omega) (by wtm_at "pf") | exact atI_end (by wtm_at "pf")) ?_) | ((with_reducible refine g_and ?_); refine And.intro (by wtm_at "cl") ?_) | ((with_reducible refine g_new ?_); intro _ _))
local macro_rules | `(tactic| wtm_at "go") => `(tactic| repeat (first | wtm_at "xs" | wtm_at "st"))
local macro_rules | `(tactic| wtm_at "xo") => `(tactic| simp only [x_next, x_seq, x_brk, x_cont, x_drop, x_ret, x_retN, x_if, sel_t, sel_f, selE_t, selE_f, selT_t, selT_f, selC_t, selC_f, x_test, x_tB, x_op, x_un, x_var, x_c, x_cb, x_nil, x_cons, x_rI, x_rI0, x_rU, x_rEq, x_rNe, x_rIxL, x_rIxT, n_rSlL, n_rCat, n_rRep, n_rApp, x_bm, x_bm0, x_sl, x_nopart, x_part, n_tup, n_lst, x_call, x_callS, x_asg, x_gname, x_gtup, x_gnil, x_gcons, x_gsub, n_setL, x_aug, x_ipI, x_ipC, x_bits, x_getL, x_augS, x_and, x_or, x_not, x_k, x_andV, x_orV, x_notV, x_ife, x_chain, x_for, x_ilist, x_itup, x_ienum, x_irng1, x_irng2, x_irev, x_lc, x_yes, wipe_nil, wipe_cons, List.map_cons, List.map_nil, x_misc, x_misc2, x_rz, lookup_at, Bool.not_true, Bool.not_false, decide_true, decide_false, not_true, not_false_eq_true, and_assoc, exists_and_left, exists_eq_left', exists_eq_left, exists_eq', exists_eq_right', exists_eq_right, V.int.injEq, V.ref.injEq, V.bl.injEq, V.str.injEq, List.cons.injEq, and_true, true_and, and_self, Option.some.injEq, List.cons_append, List.nil_append, List.append_nil, List.getElem?_cons_zero, List.getElem?_cons_succ, List.set_cons_zero, List.set_cons_succ, reduceCtorEq, false_and, and_false, exists_false, exists_const, or_false, false_or, scal_ii, scal_bb, scal_ss, List.length_cons, List.length_nil, Int.reduceToNat, Int.reducePow, n_fld, n_dnew, n_dput, n_din, n_dget, n_dget2, n_glst, n_sfld, n_aug, n_meth, n_mw, n_make, n_kw, n_rLs, n_dcp, n_ext, n_revL, n_rTp, t_im, ints_rev, t_s1, t_i1, t_i2, t_i3, t_i4, t_i5, x_chain3, x_irng3, x_irevR, x_rg1, x_rg2, ints_cat, ints_app1, ints_len, ints_take, ints_drop, rep_one])
local macro_rules | `(tactic| k_call_by "xo" $h:term) => `(tactic| simp only [$h:term, x_next, x_seq, x_brk, x_cont, x_drop, x_ret, x_retN, x_if, sel_t, sel_f, selE_t, selE_f, selT_t, selT_f, selC_t, selC_f, x_test, x_tB, x_op, x_un, x_var, x_c, x_cb, x_nil, x_cons, x_rI, x_rI0, x_rU, x_rEq, x_rNe, x_rIxL, x_rIxT, n_rSlL, n_rCat, n_rRep, n_rApp, x_bm, x_bm0, x_sl, x_nopart, x_part, n_tup, n_lst, x_call, x_callS, x_asg, x_gname, x_gtup, x_gnil, x_gcons, x_gsub, n_setL, x_aug, x_ipI, x_ipC, x_bits, x_getL, x_augS, x_and, x_or, x_not, x_k, x_andV, x_orV, x_notV, x_ife, x_chain, x_for, x_ilist, x_itup, x_ienum, x_irng1, x_irng2, x_irev, x_lc, x_yes, wipe_nil, wipe_cons, List.map_cons, List.map_nil, x_misc, x_misc2, x_rz, lookup_at, Bool.not_true, Bool.not_false, decide_true, decide_false, not_true, not_false_eq_true, and_assoc, exists_and_left, exists_eq_left', exists_eq_left, exists_eq', exists_eq_right', exists_eq_right, V.int.injEq, V.ref.injEq, V.bl.injEq, V.str.injEq, List.cons.injEq, and_true, true_and, and_self, Option.some.injEq, List.cons_append, List.nil_append, List.append_nil, List.getElem?_cons_zero, List.getElem?_cons_succ, List.set_cons_zero, List.set_cons_succ, reduceCtorEq, false_and, and_false, exists_false, exists_const, or_false, false_or, scal_ii, scal_bb, scal_ss, List.length_cons, List.length_nil, Int.reduceToNat, Int.reducePow, n_fld, n_dnew, n_dput, n_din, n_dget, n_dget2, n_glst, n_sfld, n_aug, n_meth, n_mw, n_make, n_kw, n_rLs, n_dcp, n_ext, n_revL, n_rTp, t_im, ints_rev, t_s1, t_i1, t_i2, t_i3, t_i4, t_i5, x_chain3, x_irng3, x_irevR, x_rg1, x_rg2, ints_cat, ints_app1, ints_len, ints_take, ints_drop, rep_one])
local macro_rules | `(tactic| wtm_at "mem") => `(tactic| first | (with_reducible exact mem_here) | (with_reducible refine mem_there ?_; wtm_at "mem"))
local macro_rules | `(tactic| wtm_at "pp") => `(tactic| first | (with_reducible exact Put.here) | (with_reducible apply Put.there; wtm_at "pp"))
local macro_rules | `(tactic| wtm_at "ho") => `(tactic| first | (with_reducible assumption) | exact Own.get (by with_reducible assumption) (by wtm_at "mem") | exact Own.base (by with_reducible assumption) (by with_reducible assumption))
local macro_rules | `(tactic| wtm_at "qo") => `(tactic| first | (with_reducible assumption) | exact SqL.of (by wtm_at "ho") | exact sqT_tupI (by wtm_at "ho") | exact sqT_tupS (by wtm_at "ho") | exact SqT.of (by wtm_at "ho") | exact Own.imT (by with_reducible assumption) (by wtm_at "mem") | exact Own.sq (by with_reducible assumption) (by with_reducible assumption) | exact Own.sqT (by with_reducible assumption) (by with_reducible assumption))
local macro_rules | `(tactic| wtm_at "sub") => `(tactic| first | exact List.nil_sublist _ | (with_reducible refine List.Sublist.cons_cons _ ?_; wtm_at "sub") | (refine List.Sublist.cons _ ?_; wtm_at "sub"))
local macro_rules | `(tactic| wtm_at "co") => `(tactic| first | (with_reducible assumption) | omega | (exact cmul_r (by omega) (by omega)) | (exact cmul_l (by omega) (by omega)) | (exact cdiv_ok (by omega) (by omega)) | (exact cpow_ok (by decide)) | (exact ⟨by omega, by omega, by omega⟩) | decide | (exact ⟨by omega, by omega⟩) | (simp only [List.length_append, List.length_map, List.length_set, List.length_cons, List.length_nil, rngL_len, sizeLine_eq]; omega) | wtm_at "ho" | wtm_at "qo")
local macro_rules | `(tactic| wtm_at "so") => `(tactic| first | ((with_reducible refine g_dcp ?_); refine dcpI (by wtm_at "ho") ?_) | ((with_reducible refine g_asl ?_); refine And.intro (by rfl) ?_) | ((with_reducible refine g_asqT ?_); refine and_sqT (by wtm_at "qo") ?_) | ((with_reducible refine g_extO ?_); first | (refine extI (by with_reducible assumption) (by wtm_at "pp") (by wtm_at "co") (fun _ _ => ?_)) | (refine extO (by with_reducible assumption) (by wtm_at "pp") (by wtm_at "co") (fun _ _ => ?_))) | ((with_reducible refine g_tp ?_); first | (refine tp_l (by wtm_at "qo") ?_) | (refine tp_t (by wtm_at "qo") ?_)) | ((with_reducible refine g_dputO ?_); refine dputI (by with_reducible assumption) (by wtm_at "pp") (by wtm_at "co") (fun _ _ => ?_)) | ((with_reducible refine g_dinO ?_); refine dinI (by wtm_at "ho") ?_) | ((with_reducible refine g_isDO ?_); refine isDO (by wtm_at "ho") ?_) | ((with_reducible refine g_dg2 ?_); refine dg2I (by wtm_at "ho") ?_) | ((with_reducible refine g_fldO ?_); refine fldO (by wtm_at "ho") (by with_reducible assumption) (by wtm_at "mem") (by wtm_at "lk") ?_) | ((with_reducible refine g_fldC ?_); refine fldC (by wtm_at "ho") (by with_reducible assumption) (by wtm_at "mem") (by wtm_at "lk") ?_) | ((with_reducible refine g_putC ?_); refine putC (by with_reducible assumption) (by wtm_at "pp") (by wtm_at "pu") (by wtm_at "co") (fun _ _ => ?_)) | ((with_reducible refine g_stoO ?_); refine stoO (by with_reducible assumption) (by wtm_at "pp") (by wtm_at "pu") (by with_reducible assumption) (by wtm_at "mem") (by wtm_at "co") (fun _ _ => ?_)) | ((with_reducible refine g_metO ?_); refine metO (by wtm_at "ho") (by wtm_at "ln") ?_) | ((with_reducible refine g_makO ?_); refine makO (by with_reducible assumption) (fun _ _ _ _ => ?_)) | ((with_reducible refine g_sum ?_); refine sum_call (by wtm_at "qo") ?_) | ((with_reducible refine g_cq ?_); exact cq (by with_reducible assumption) (by simp only [rngL_len, List.length_map, List.length_take]; omega)) | ((with_reducible refine g_newO ?_); refine newO (by with_reducible assumption) (fun _ _ _ => ?_)) | ((with_reducible refine g_appO ?_); refine appI (by with_reducible assumption) (by wtm_at "pp") (by wtm_at "co") (fun _ _ => ?_)) | ((with_reducible refine g_setO ?_); refine setI (by with_reducible assumption) (by wtm_at "pp") (by omega) (by wtm_at "co") (fun _ _ => ?_)) | ((with_reducible refine g_appO ?_); refine appO (by with_reducible assumption) (by wtm_at "pp") (by wtm_at "co") (fun _ _ => ?_)) | ((with_reducible refine g_setO ?_); refine setO (by with_reducible assumption) (by wtm_at "pp") (by omega) (by wtm_at "co") (fun _ _ => ?_)) | ((with_reducible refine g_at ?_); refine at_call (by wtm_at "qo") (by omega) (by omega) (fun _ _ => ?_)) | ((with_reducible refine g_int ?_); refine int_call ?_) | ((with_reducible refine g_isi ?_); first | (with_reducible refine isi_ii ?_) | (with_reducible refine isi_ib ?_) | (refine isi_int rfl ?_) | (refine isi_sqL rfl (by wtm_at "qo") ?_) | (refine isi_sqT rfl (by wtm_at "qo") ?_) | (refine isi_bl rfl ?_) | (refine isi_non rfl ?_) | (refine isi_str rfl ?_)) | ((with_reducible refine g_ned ?_); first | (refine ned_f (dq_lst (by wtm_at "qo")) (dq_lst (by wtm_at "qo")) ?_) | (refine ned_ints (by wtm_at "qo") (by wtm_at "qo") ?_) | (refine nedT_ints (by wtm_at "qo") (by wtm_at "qo") ?_)) | ((with_reducible refine g_eqd ?_); first | (refine eqd_t (dq_lst (by wtm_at "qo")) (dq_lst (by wtm_at "qo")) ?_) | (refine eqd_ints (by wtm_at "qo") (by wtm_at "qo") ?_) | (refine eqdT_ints (by wtm_at "qo") (by wtm_at "qo") ?_)) | ((with_reducible refine g_tyv ?_); refine and_tyv (by wtm_at "qo") ?_) | ((with_reducible refine g_asq ?_); refine and_sq (by wtm_at "qo") ?_) | ((with_reducible refine g_lst ?_); refine ex_lst (by wtm_at "ho") ?_) | ((with_reducible refine g_or ?_); first | (refine ex_or (by wtm_at "qo") ?_) | (refine ex_ort (by wtm_at "qo") ?_)) | ((with_reducible refine g_sq ?_); refine ex_sq (by wtm_at "qo") ?_) | ((with_reducible refine g_sqt ?_); refine ex_sqt (by wtm_at "qo") ?_) | ((with_reducible refine gd_sel ?_); first | (refine sel_p (by wtm_at "pf") ?_) | (refine sel_n (by wtm_at "pf") ?_)) | ((with_reducible refine gn_sel ?_); first | (refine selN_p (by wtm_at "pf") ?_) | (refine selN_n (by wtm_at "pf") ?_)) | ((with_reducible refine gd_selT ?_); first | (refine selT_p (by wtm_at "pf") ?_) | (refine selT_n (by wtm_at "pf") ?_)) | ((with_reducible refine gn_selT ?_); first | (refine selTN_p (by wtm_at "pf") ?_) | (refine selTN_n (by wtm_at "pf") ?_)) | ((with_reducible refine gd_selE ?_); first | (refine selE_p (by wtm_at "pf") ?_) | (refine selE_n (by wtm_at "pf") ?_)) | ((with_reducible refine gn_selE ?_); first | (refine selEN_p (by wtm_at "pf") ?_) | (refine selEN_n (by wtm_at "pf") ?_)) | ((with_reducible refine g_xf ?_); refine xf_at rfl (by wtm_at "ho") ?_) | ((with_reducible refine g_atI ?_); refine ex_at (by first | exact rfl | exact atI_int (by omega) (by wtm_at "pf") | exact atI_end (by wtm_at "pf")) ?_) | ((with_reducible refine g_and ?_); refine And.intro (by wtm_at "co") ?_))
local macro_rules | `(tactic| wtm_at "oo") => `(tactic| repeat (first | wtm_at "xo" | wtm_at "so"))
local macro_rules | `(tactic| wtm_at "cR") => `(tactic| (refine' compRi _ (by with_reducible assumption) (by omega) (fun _ _ _ _ _ => ?_) (fun _ _ _ => ?_); rotate_left; focus (wtm_at "oo")))

local macro_rules | `(tactic| wtm_at "lk") => `(tactic| first | (with_reducible exact lk_here) | (simp only [lk_here, lk_skip, lk_nil, nb_0_0, nb_0_1, nb_0_2, nb_0_3, nb_0_4, nb_0_5, nb_0_6, nb_0_7, nb_1_1, nb_1_2, nb_1_3, nb_1_4, nb_1_5, nb_1_6, nb_1_7, nb_2_0, nb_2_2, nb_2_3, nb_2_4, nb_2_5, nb_2_6, nb_2_7, nb_3_0, nb_3_1, nb_3_2, nb_3_3, nb_3_4, nb_3_5, nb_3_6, nb_3_7, nb_4_0, nb_4_1, nb_4_2, nb_4_3, nb_4_4, nb_4_5, nb_4_6, nb_4_7, nb_5_0, nb_5_1, nb_5_3, nb_5_4, nb_5_5, nb_5_6, nb_5_7, nb_6_0, nb_6_1, nb_6_2, nb_6_3, nb_6_4, nb_6_5, nb_6_6, nb_6_7, nb_7_0, nb_7_1, nb_7_2, nb_7_4, nb_7_5, nb_7_6, nb_7_7, nb_8_0, nb_8_1, nb_8_2, nb_8_3, nb_8_4, nb_8_5, nb_8_6, nb_8_7, nb_9_0, nb_9_1, nb_9_2, nb_9_3, nb_9_4, nb_9_5, nb_9_6, nb_9_7, nb_10_0, nb_10_1, nb_10_2, nb_10_3, nb_10_5, nb_10_6, nb_10_7, nb_11_0, nb_11_1, nb_11_2, nb_11_3, nb_11_4, nb_11_6, nb_11_7, nb_12_0, nb_12_1, nb_12_2, nb_12_3, nb_12_4, nb_12_5, nb_12_7, nb_13_0, nb_13_1, nb_13_2, nb_13_3, nb_13_4, nb_13_5, nb_13_6, nb_13_7, nb_14_0, nb_14_1, nb_14_2, nb_14_3, nb_14_4, nb_14_5, nb_14_6, nb_15_0, nb_15_1, nb_15_2, nb_15_3, nb_15_4, nb_15_5, nb_15_6, nb_15_7, nb_16_0, nb_16_1, nb_16_2, nb_16_3, nb_16_4, nb_16_5, nb_16_6, nb_16_7, nb_17_0, nb_17_1, nb_17_2, nb_17_3, nb_17_4, nb_17_5, nb_17_6, nb_17_7, nb_18_0, nb_18_1, nb_18_2, nb_18_3, nb_18_4, nb_18_5, nb_18_6, nb_18_7, nb_19_0, nb_19_1, nb_19_2, nb_19_3, nb_19_4, nb_19_5, nb_19_6, nb_19_7, nb_20_0, nb_20_1, nb_20_2, nb_20_3, nb_20_4, nb_20_5, nb_20_6, nb_20_7, nb_21_0, nb_21_1, nb_21_2, nb_21_3, nb_21_4, nb_21_5, nb_21_6, nb_21_7, nb_22_0, nb_22_1, nb_22_2, nb_22_3, nb_22_4, nb_22_5, nb_22_6, nb_22_7, nb_23_0, nb_23_1, nb_23_2, nb_23_3, nb_23_4, nb_23_5, nb_23_6, nb_23_7, nb_24_0, nb_24_1, nb_24_2, nb_24_3, nb_24_4, nb_24_5, nb_24_6, nb_24_7, nb_25_0, nb_25_1, nb_25_2, nb_25_3, nb_25_4, nb_25_5, nb_25_6, nb_25_7, nb_26_0, nb_26_1, nb_26_2, nb_26_3, nb_26_4, nb_26_5, nb_26_6, nb_26_7]; first | done | exact rfl))
local macro_rules | `(tactic| wtm_at "ln") => `(tactic| first | (with_reducible exact lk_nil) | (simp only [lk_skip, lk_nil, nb_0_0, nb_0_1, nb_0_2, nb_0_3, nb_0_4, nb_0_5, nb_0_6, nb_0_7, nb_1_1, nb_1_2, nb_1_3, nb_1_4, nb_1_5, nb_1_6, nb_1_7, nb_2_0, nb_2_2, nb_2_3, nb_2_4, nb_2_5, nb_2_6, nb_2_7, nb_3_0, nb_3_1, nb_3_2, nb_3_3, nb_3_4, nb_3_5, nb_3_6, nb_3_7, nb_4_0, nb_4_1, nb_4_2, nb_4_3, nb_4_4, nb_4_5, nb_4_6, nb_4_7, nb_5_0, nb_5_1, nb_5_3, nb_5_4, nb_5_5, nb_5_6, nb_5_7, nb_6_0, nb_6_1, nb_6_2, nb_6_3, nb_6_4, nb_6_5, nb_6_6, nb_6_7, nb_7_0, nb_7_1, nb_7_2, nb_7_4, nb_7_5, nb_7_6, nb_7_7, nb_8_0, nb_8_1, nb_8_2, nb_8_3, nb_8_4, nb_8_5, nb_8_6, nb_8_7, nb_9_0, nb_9_1, nb_9_2, nb_9_3, nb_9_4, nb_9_5, nb_9_6, nb_9_7, nb_10_0, nb_10_1, nb_10_2, nb_10_3, nb_10_5, nb_10_6, nb_10_7, nb_11_0, nb_11_1, nb_11_2, nb_11_3, nb_11_4, nb_11_6, nb_11_7, nb_12_0, nb_12_1, nb_12_2, nb_12_3, nb_12_4, nb_12_5, nb_12_7, nb_13_0, nb_13_1, nb_13_2, nb_13_3, nb_13_4, nb_13_5, nb_13_6, nb_13_7, nb_14_0, nb_14_1, nb_14_2, nb_14_3, nb_14_4, nb_14_5, nb_14_6, nb_15_0, nb_15_1, nb_15_2, nb_15_3, nb_15_4, nb_15_5, nb_15_6, nb_15_7, nb_16_0, nb_16_1, nb_16_2, nb_16_3, nb_16_4, nb_16_5, nb_16_6, nb_16_7, nb_17_0, nb_17_1, nb_17_2, nb_17_3, nb_17_4, nb_17_5, nb_17_6, nb_17_7, nb_18_0, nb_18_1, nb_18_2, nb_18_3, nb_18_4, nb_18_5, nb_18_6, nb_18_7, nb_19_0, nb_19_1, nb_19_2, nb_19_3, nb_19_4, nb_19_5, nb_19_6, nb_19_7, nb_20_0, nb_20_1, nb_20_2, nb_20_3, nb_20_4, nb_20_5, nb_20_6, nb_20_7, nb_21_0, nb_21_1, nb_21_2, nb_21_3, nb_21_4, nb_21_5, nb_21_6, nb_21_7, nb_22_0, nb_22_1, nb_22_2, nb_22_3, nb_22_4, nb_22_5, nb_22_6, nb_22_7, nb_23_0, nb_23_1, nb_23_2, nb_23_3, nb_23_4, nb_23_5, nb_23_6, nb_23_7, nb_24_0, nb_24_1, nb_24_2, nb_24_3, nb_24_4, nb_24_5, nb_24_6, nb_24_7, nb_25_0, nb_25_1, nb_25_2, nb_25_3, nb_25_4, nb_25_5, nb_25_6, nb_25_7, nb_26_0, nb_26_1, nb_26_2, nb_26_3, nb_26_4, nb_26_5, nb_26_6, nb_26_7]; done))
local macro_rules | `(tactic| wtm_at "pu") => `(tactic| first | (with_reducible exact pf_nil) | (simp only [pf_nil, pf_here, pf_skip, nb_0_0, nb_0_1, nb_0_2, nb_0_3, nb_0_4, nb_0_5, nb_0_6, nb_0_7, nb_1_1, nb_1_2, nb_1_3, nb_1_4, nb_1_5, nb_1_6, nb_1_7, nb_2_0, nb_2_2, nb_2_3, nb_2_4, nb_2_5, nb_2_6, nb_2_7, nb_3_0, nb_3_1, nb_3_2, nb_3_3, nb_3_4, nb_3_5, nb_3_6, nb_3_7, nb_4_0, nb_4_1, nb_4_2, nb_4_3, nb_4_4, nb_4_5, nb_4_6, nb_4_7, nb_5_0, nb_5_1, nb_5_3, nb_5_4, nb_5_5, nb_5_6, nb_5_7, nb_6_0, nb_6_1, nb_6_2, nb_6_3, nb_6_4, nb_6_5, nb_6_6, nb_6_7, nb_7_0, nb_7_1, nb_7_2, nb_7_4, nb_7_5, nb_7_6, nb_7_7, nb_8_0, nb_8_1, nb_8_2, nb_8_3, nb_8_4, nb_8_5, nb_8_6, nb_8_7, nb_9_0, nb_9_1, nb_9_2, nb_9_3, nb_9_4, nb_9_5, nb_9_6, nb_9_7, nb_10_0, nb_10_1, nb_10_2, nb_10_3, nb_10_5, nb_10_6, nb_10_7, nb_11_0, nb_11_1, nb_11_2, nb_11_3, nb_11_4, nb_11_6, nb_11_7, nb_12_0, nb_12_1, nb_12_2, nb_12_3, nb_12_4, nb_12_5, nb_12_7, nb_13_0, nb_13_1, nb_13_2, nb_13_3, nb_13_4, nb_13_5, nb_13_6, nb_13_7, nb_14_0, nb_14_1, nb_14_2, nb_14_3, nb_14_4, nb_14_5, nb_14_6, nb_15_0, nb_15_1, nb_15_2, nb_15_3, nb_15_4, nb_15_5, nb_15_6, nb_15_7, nb_16_0, nb_16_1, nb_16_2, nb_16_3, nb_16_4, nb_16_5, nb_16_6, nb_16_7, nb_17_0, nb_17_1, nb_17_2, nb_17_3, nb_17_4, nb_17_5, nb_17_6, nb_17_7, nb_18_0, nb_18_1, nb_18_2, nb_18_3, nb_18_4, nb_18_5, nb_18_6, nb_18_7, nb_19_0, nb_19_1, nb_19_2, nb_19_3, nb_19_4, nb_19_5, nb_19_6, nb_19_7, nb_20_0, nb_20_1, nb_20_2, nb_20_3, nb_20_4, nb_20_5, nb_20_6, nb_20_7, nb_21_0, nb_21_1, nb_21_2, nb_21_3, nb_21_4, nb_21_5, nb_21_6, nb_21_7, nb_22_0, nb_22_1, nb_22_2, nb_22_3, nb_22_4, nb_22_5, nb_22_6, nb_22_7, nb_23_0, nb_23_1, nb_23_2, nb_23_3, nb_23_4, nb_23_5, nb_23_6, nb_23_7, nb_24_0, nb_24_1, nb_24_2, nb_24_3, nb_24_4, nb_24_5, nb_24_6, nb_24_7, nb_25_0, nb_25_1, nb_25_2, nb_25_3, nb_25_4, nb_25_5, nb_25_6, nb_25_7, nb_26_0, nb_26_1, nb_26_2, nb_26_3, nb_26_4, nb_26_5, nb_26_6, nb_26_7]; first | done | exact rfl))
local macro_rules | `(tactic| wtm_at "tk") => `(tactic| first | (with_reducible exact Take.here) | (exact Take.here) | ((with_reducible apply Take.there); wtm_at "tk"))
local macro_rules | `(tactic| wtm_at "pk") => `(tactic| first | exact Pick.nil | ((with_reducible refine' Pick.cons ?tk1 ?pk1); (case tk1 => wtm_at "tk"); (case pk1 => wtm_at "pk")) | ((with_reducible refine Pick.im (by wtm_at "mem") ?_); wtm_at "pk") | ((with_reducible refine Pick.ims (by wtm_at "mem") ?_); wtm_at "pk"))
section
variable {P : Program} {w : World} {K : PySem.W.Frag} {mg : Str → Option Value} {base : Heap}
/-- what a parser owns, ahead of others -/
abbrev prR (K : PySem.W.Frag) (p dxp h c dx d bb : Addr) (w f : Int) (hs : List Int) (at_ : Int) (hh : Addr) (x y : Int) (kvs : List (Key × V)) (e : Nat) (rest : List As) : List As :=
  .pt p (pC K dxp h at_ hh c) :: pI h hs :: .pt c (cC K dx w f d bb) :: .pt d (.dK kvs) :: pI bb (befL hs e) :: .im (.ref hh) (tI [x, y]) :: rest
theorem step_call {K : PySem.W.Frag} {B H : Hp} {Q : VK} {p dxp h c dx d bb hh nm : Addr} {w f at_ x y s : Int} {b : Bool} {hs : List Int} {kvs : List (Key × V)} {e : Nat} {m : Nm} {rest : List As}
    (L : Own K B H (.im (.ref nm) (nmD m) :: prR K p dxp h c dx d bb w f hs at_ hh x y kvs e rest)) (pb : PrB hs at_ w f e kvs) (ch0 : 0 ≤ m.chain) (I : PInv hs at_ f m s x y)
    (q1 : stops hs b at_ → Q .non H)
    (q2 : ¬ stops hs b at_ → ∀ t tks kvs' e' hh' H' (r : List (List Int) × Int × Int × Int), r = stp hs at_ f w m s b x y → r.1.length ≤ 2 → PInv hs r.2.1 f m s r.2.2.1 r.2.2.2 → at_ + 1 ≤ r.2.1 → PrB hs r.2.1 w f e' kvs' →
      Own K B H' (.pt t (.lst tks) :: .ims tks (r.1.map tI) :: .im (.ref nm) (nmD m) :: prR K p dxp h c dx d bb w f hs r.2.1 hh' r.2.2.1 r.2.2.2 kvs' e' rest) → Q (.ref t) H') :
    sp_Parser_step K [.ref p, .ref nm, .int s, .bl b] H Q E0 := by
  have L0 : Own K B H (prL K p dxp h c dx d bb w f hs at_ hh x y kvs e ++ (.im (.ref nm) (nmD m) :: rest)) := (show Own K B H ([.im (.ref nm) (nmD m)] ++ prL K p dxp h c dx d bb w f hs at_ hh x y kvs e ++ rest) from L).perm (by
    rw [show (As.im (.ref nm) (nmD m) :: rest) = [As.im (.ref nm) (nmD m)] ++ rest from rfl, ← List.append_assoc]
    exact List.Perm.append_right _ List.perm_append_comm)
  have hd := I.hd
  refine ⟨p, dxp, h, c, dx, d, bb, hh, nm, w, f, at_, x, y, s, b, hs, kvs, e, m, rfl, Own.enterP ((show Own K B H (.im (.ref nm) (nmD m) :: (prL K p dxp h c dx d bb w f hs at_ hh x y kvs e ++ rest)) from L).sub (List.Sublist.cons_cons _ (List.sublist_append_left _ _))), pb, ch0, I.fi, by omega, q1, fun hlt hb t tks kvs' e' hh' H' pb' M => ?_⟩
  have nst : ¬ stops hs b at_ := by
    unfold stops
    rintro (z | z)
    · omega
    · rcases hb with u | u
      · rw [z.1] at u
        cases u
      · omega
  have J := stp_inv (w := w) I hlt hb
  have M2 := Own.mutP L0 M
  refine q2 nst t tks kvs' e' hh' H' _ rfl stp_n J.1 J.2 pb' (M2.perm ?_)
  refine List.Perm.cons _ (List.Perm.cons _ ?_)
  show (prL K p dxp h c dx d bb w f hs _ hh' _ _ kvs' e' ++ (As.im (.ref nm) (nmD m) :: rest)).Perm (As.im (.ref nm) (nmD m) :: (prL K p dxp h c dx d bb w f hs _ hh' _ _ kvs' e' ++ rest))
  exact List.perm_middle


end
end K52

namespace K52
open PySem PySem.Spec PyProof.Rows L2 Bel
local macro_rules | `(tactic| wtm_at "xs") => `(tactic| simp only [x_next, x_seq, x_brk, x_cont, x_drop, x_ret, x_retN, x_if, sel_t, sel_f, selE_t, selE_f, selT_t, selT_f, selC_t, selC_f, x_test, x_tB, x_op, x_un, x_var, x_c, x_cb, x_nil, x_cons, x_rI, x_rI0, x_rU, x_rEq, x_rNe, x_rIxL, x_rIxT, x_rSlL, x_rCat, x_rRep, x_rApp, x_bm, x_bm0, x_sl, x_nopart, x_part, x_tup, x_lst, x_call, x_callS, x_asg, x_gname, x_gtup, x_gnil, x_gcons, x_gsub, x_setL, x_aug, x_ipI, x_ipC, x_bits, x_getL, x_augS, x_and, x_or, x_not, x_k, x_andV, x_orV, x_notV, x_ife, x_chain, x_for, x_ilist, x_itup, x_ienum, x_irng1, x_irng2, x_irev, x_lc, x_yes, wipe_nil, wipe_cons, List.map_cons, List.map_nil, x_misc, x_misc2, x_rz, lookup_at, Bool.not_true, Bool.not_false, decide_true, decide_false, not_true, not_false_eq_true, and_assoc, exists_and_left, exists_eq_left', exists_eq_left, exists_eq', exists_eq_right', exists_eq_right, V.int.injEq, V.ref.injEq, V.bl.injEq, V.str.injEq, List.cons.injEq, and_true, true_and, and_self, Option.some.injEq, List.cons_append, List.nil_append, List.append_nil, List.getElem?_cons_zero, List.getElem?_cons_succ, List.set_cons_zero, List.set_cons_succ, reduceCtorEq, false_and, and_false, exists_false, exists_const, or_false, false_or, scal_ii, scal_bb, scal_ss, List.length_cons, List.length_nil, Int.reduceToNat, Int.reducePow])
local macro_rules | `(tactic| k_call_by "xs" $h:term) => `(tactic| simp only [$h:term, x_next, x_seq, x_brk, x_cont, x_drop, x_ret, x_retN, x_if, sel_t, sel_f, selE_t, selE_f, selT_t, selT_f, selC_t, selC_f, x_test, x_tB, x_op, x_un, x_var, x_c, x_cb, x_nil, x_cons, x_rI, x_rI0, x_rU, x_rEq, x_rNe, x_rIxL, x_rIxT, x_rSlL, x_rCat, x_rRep, x_rApp, x_bm, x_bm0, x_sl, x_nopart, x_part, x_tup, x_lst, x_call, x_callS, x_asg, x_gname, x_gtup, x_gnil, x_gcons, x_gsub, x_setL, x_aug, x_ipI, x_ipC, x_bits, x_getL, x_augS, x_and, x_or, x_not, x_k, x_andV, x_orV, x_notV, x_ife, x_chain, x_for, x_ilist, x_itup, x_ienum, x_irng1, x_irng2, x_irev, x_lc, x_yes, wipe_nil, wipe_cons, List.map_cons, List.map_nil, x_misc, x_misc2, x_rz, lookup_at, Bool.not_true, Bool.not_false, decide_true, decide_false, not_true, not_false_eq_true, and_assoc, exists_and_left, exists_eq_left', exists_eq_left, exists_eq', exists_eq_right', exists_eq_right, V.int.injEq, V.ref.injEq, V.bl.injEq, V.str.injEq, List.cons.injEq, and_true, true_and, and_self, Option.some.injEq, List.cons_append, List.nil_append, List.append_nil, List.getElem?_cons_zero, List.getElem?_cons_succ, List.set_cons_zero, List.set_cons_succ, reduceCtorEq, false_and, and_false, exists_false, exists_const, or_false, false_or, scal_ii, scal_bb, scal_ss, List.length_cons, List.length_nil, Int.reduceToNat, Int.reducePow])
local macro_rules | `(tactic| wtm_at "hp") => `(tactic| first | (with_reducible assumption) | exact upd_same | (refine upd_keep (by with_reducible assumption) ?_; wtm_at "hp") | (refine Same.get (by with_reducible assumption) ?_; wtm_at "hp") | (refine upd_other (by first | (with_reducible assumption) | exact Ne.symm (by with_reducible assumption)) ?_; wtm_at "hp"))
local macro_rules | `(tactic| wtm_at "sq") => `(tactic| first | (with_reducible assumption) | exact SqL.of (by wtm_at "hp") | exact SqT.of (by wtm_at "hp") | (refine Same.seq (same_upd (by with_reducible assumption)) ?_; wtm_at "sq") | (refine Same.seq (by with_reducible assumption) ?_; wtm_at "sq") | (refine Same.seqT (same_upd (by with_reducible assumption)) ?_; wtm_at "sq") | (refine Same.seqT (by with_reducible assumption) ?_; wtm_at "sq"))
local macro_rules | `(tactic| wtm_at "cl") => `(tactic| first | (with_reducible assumption) | omega | (exact cmul_r (by omega) (by omega)) | (exact cmul_l (by omega) (by omega)) | (exact cdiv_ok (by omega) (by omega)) | (exact cpow_ok (by decide)) | (exact ⟨by omega, by omega, by omega⟩) | decide | (exact ⟨by omega, by omega⟩) | (simp only [List.length_append, List.length_map, List.length_set, List.length_cons, List.length_nil, rngL_len, sizeLine_eq]; omega) | wtm_at "hp" | wtm_at "sq")
local macro_rules | `(tactic| wtm_at "pf") => `(tactic| first | (with_reducible assumption) | omega | (simp only [List.length_append, List.length_map, List.length_set, List.length_cons, List.length_nil, rngL_len]; omega) | (with_reducible rfl) | (with_reducible trivial) | (with_reducible decide))
local macro_rules | `(tactic| wtm_at "st") => `(tactic| first | ((with_reducible refine g_at ?_); refine at_call (by wtm_at "sq") (by omega) (by omega) (fun _ _ => ?_)) | ((with_reducible refine g_int ?_); refine int_call ?_) | ((with_reducible refine g_isi ?_); first | (with_reducible refine isi_ii ?_) | (with_reducible refine isi_ib ?_) | (refine isi_int rfl ?_) | (refine isi_lst rfl (by wtm_at "hp") ?_) | (refine isi_tup rfl (by wtm_at "hp") ?_)) | ((with_reducible refine g_ned ?_); refine ned_f (dq_lst (by wtm_at "sq")) (dq_lst (by wtm_at "sq")) ?_) | ((with_reducible refine g_eqd ?_); refine eqd_t (dq_lst (by wtm_at "sq")) (dq_lst (by wtm_at "sq")) ?_) | ((with_reducible refine g_tyv ?_); refine and_tyv (by wtm_at "sq") ?_) | ((with_reducible refine g_asq ?_); refine and_sq (by wtm_at "sq") ?_) | ((with_reducible refine g_lst ?_); refine ex_lst (by wtm_at "hp") ?_) | ((with_reducible refine g_or ?_); first | (refine ex_or (by wtm_at "sq") ?_) | (refine ex_ort (by wtm_at "sq") ?_)) | ((with_reducible refine g_sq ?_); refine ex_sq (by wtm_at "sq") ?_) | ((with_reducible refine g_sqt ?_); refine ex_sqt (by wtm_at "sq") ?_) | ((with_reducible refine gd_sel ?_); first | (refine sel_p (by wtm_at "pf") ?_) | (refine sel_n (by wtm_at "pf") ?_)) | ((with_reducible refine gn_sel ?_); first | (refine selN_p (by wtm_at "pf") ?_) | (refine selN_n (by wtm_at "pf") ?_)) | ((with_reducible refine gd_selT ?_); first | (refine selT_p (by wtm_at "pf") ?_) | (refine selT_n (by wtm_at "pf") ?_)) | ((with_reducible refine gn_selT ?_); first | (refine selTN_p (by wtm_at "pf") ?_) | (refine selTN_n (by wtm_at "pf") ?_)) | ((with_reducible refine gd_selE ?_); first | (refine selE_p (by wtm_at "pf") ?_) | (refine selE_n (by wtm_at "pf") ?_)) | ((with_reducible refine gn_selE ?_); first | (refine selEN_p (by wtm_at "pf") ?_) | (refine selEN_n (by wtm_at "pf") ?_)) | ((with_reducible refine g_xf ?_); refine xf_at rfl (by wtm_at "hp") ?_) | ((with_reducible refine g_atI ?_); refine ex_at (by first | exact rfl | exact atI_int (by omega) (by wtm_at "pf") | exact atI_end (by wtm_at "pf")) ?_) | ((with_reducible refine g_and ?_); refine And.intro (by wtm_at "cl") ?_) | ((with_reducible refine g_new ?_); intro _ _))
local macro_rules | `(tactic| wtm_at "go") => `(tactic| repeat (first | wtm_at "xs" | wtm_at "st"))
local macro_rules | `(tactic| wtm_at "xo") => `(tactic| simp only [x_next, x_seq, x_brk, x_cont, x_drop, x_ret, x_retN, x_if, sel_t, sel_f, selE_t, selE_f, selT_t, selT_f, selC_t, selC_f, x_test, x_tB, x_op, x_un, x_var, x_c, x_cb, x_nil, x_cons, x_rI, x_rI0, x_rU, x_rEq, x_rNe, x_rIxL, x_rIxT, n_rSlL, n_rCat, n_rRep, n_rApp, x_bm, x_bm0, x_sl, x_nopart, x_part, n_tup, n_lst, x_call, x_callS, x_asg, x_gname, x_gtup, x_gnil, x_gcons, x_gsub, n_setL, x_aug, x_ipI, x_ipC, x_bits, x_getL, x_augS, x_and, x_or, x_not, x_k, x_andV, x_orV, x_notV, x_ife, x_chain, x_for, x_ilist, x_itup, x_ienum, x_irng1, x_irng2, x_irev, x_lc, x_yes, wipe_nil, wipe_cons, List.map_cons, List.map_nil, x_misc, x_misc2, x_rz, lookup_at, Bool.not_true, Bool.not_false, decide_true, decide_false, not_true, not_false_eq_true, and_assoc, exists_and_left, exists_eq_left', exists_eq_left, exists_eq', exists_eq_right', exists_eq_right, V.int.injEq, V.ref.injEq, V.bl.injEq, V.str.injEq, List.cons.injEq, and_true, true_and, and_self, Option.some.injEq, List.cons_append, List.nil_append, List.append_nil, List.getElem?_cons_zero, List.getElem?_cons_succ, List.set_cons_zero, List.set_cons_succ, reduceCtorEq, false_and, and_false, exists_false, exists_const, or_false, false_or, scal_ii, scal_bb, scal_ss, List.length_cons, List.length_nil, Int.reduceToNat, Int.reducePow, n_fld, n_dnew, n_dput, n_din, n_dget, n_dget2, n_glst, n_sfld, n_aug, n_meth, n_mw, n_make, n_kw, n_rLs, n_dcp, n_ext, n_revL, n_rTp, t_im, ints_rev, t_s1, t_i1, t_i2, t_i3, t_i4, t_i5, x_chain3, x_irng3, x_irevR, x_rg1, x_rg2, ints_cat, ints_app1, ints_len, ints_take, ints_drop, rep_one])
local macro_rules | `(tactic| k_call_by "xo" $h:term) => `(tactic| simp only [$h:term, x_next, x_seq, x_brk, x_cont, x_drop, x_ret, x_retN, x_if, sel_t, sel_f, selE_t, selE_f, selT_t, selT_f, selC_t, selC_f, x_test, x_tB, x_op, x_un, x_var, x_c, x_cb, x_nil, x_cons, x_rI, x_rI0, x_rU, x_rEq, x_rNe, x_rIxL, x_rIxT, n_rSlL, n_rCat, n_rRep, n_rApp, x_bm, x_bm0, x_sl, x_nopart, x_part, n_tup, n_lst, x_call, x_callS, x_asg, x_gname, x_gtup, x_gnil, x_gcons, x_gsub, n_setL, x_aug, x_ipI, x_ipC, x_bits, x_getL, x_augS, x_and, x_or, x_not, x_k, x_andV, x_orV, x_notV, x_ife, x_chain, x_for, x_ilist, x_itup, x_ienum, x_irng1, x_irng2, x_irev, x_lc, x_yes, wipe_nil, wipe_cons, List.map_cons, List.map_nil, x_misc, x_misc2, x_rz, lookup_at, Bool.not_true, Bool.not_false, decide_true, decide_false, not_true, not_false_eq_true, and_assoc, exists_and_left, exists_eq_left', exists_eq_left, exists_eq', exists_eq_right', exists_eq_right, V.int.injEq, V.ref.injEq, V.bl.injEq, V.str.injEq, List.cons.injEq, and_true, true_and, and_self, Option.some.injEq, List.cons_append, List.nil_append, List.append_nil, List.getElem?_cons_zero, List.getElem?_cons_succ, List.set_cons_zero, List.set_cons_succ, reduceCtorEq, false_and, and_false, exists_false, exists_const, or_false, false_or, scal_ii, scal_bb, scal_ss, List.length_cons, List.length_nil, Int.reduceToNat, Int.reducePow, n_fld, n_dnew, n_dput, n_din, n_dget, n_dget2, n_glst, n_sfld, n_aug, n_meth, n_mw, n_make, n_kw, n_rLs, n_dcp, n_ext, n_revL, n_rTp, t_im, ints_rev, t_s1, t_i1, t_i2, t_i3, t_i4, t_i5, x_chain3, x_irng3, x_irevR, x_rg1, x_rg2, ints_cat, ints_app1, ints_len, ints_take, ints_drop, rep_one])
local macro_rules | `(tactic| wtm_at "mem") => `(tactic| first | (with_reducible exact mem_here) | (with_reducible refine mem_there ?_; wtm_at "mem"))
local macro_rules | `(tactic| wtm_at "pp") => `(tactic| first | (with_reducible exact Put.here) | (with_reducible apply Put.there; wtm_at "pp"))
local macro_rules | `(tactic| wtm_at "ho") => `(tactic| first | (with_reducible assumption) | exact Own.get (by with_reducible assumption) (by wtm_at "mem") | exact Own.base (by with_reducible assumption) (by with_reducible assumption))
local macro_rules | `(tactic| wtm_at "qo") => `(tactic| first | (with_reducible assumption) | exact SqL.of (by wtm_at "ho") | exact sqT_tupI (by wtm_at "ho") | exact sqT_tupS (by wtm_at "ho") | exact SqT.of (by wtm_at "ho") | exact Own.imT (by with_reducible assumption) (by wtm_at "mem") | exact Own.sq (by with_reducible assumption) (by with_reducible assumption) | exact Own.sqT (by with_reducible assumption) (by with_reducible assumption))
local macro_rules | `(tactic| wtm_at "sub") => `(tactic| first | exact List.nil_sublist _ | (with_reducible refine List.Sublist.cons_cons _ ?_; wtm_at "sub") | (refine List.Sublist.cons _ ?_; wtm_at "sub"))
local macro_rules | `(tactic| wtm_at "co") => `(tactic| first | (with_reducible assumption) | omega | (exact cmul_r (by omega) (by omega)) | (exact cmul_l (by omega) (by omega)) | (exact cdiv_ok (by omega) (by omega)) | (exact cpow_ok (by decide)) | (exact ⟨by omega, by omega, by omega⟩) | decide | (exact ⟨by omega, by omega⟩) | (simp only [List.length_append, List.length_map, List.length_set, List.length_cons, List.length_nil, rngL_len, sizeLine_eq]; omega) | wtm_at "ho" | wtm_at "qo")
local macro_rules | `(tactic| wtm_at "so") => `(tactic| first | ((with_reducible refine g_dcp ?_); refine dcpI (by wtm_at "ho") ?_) | ((with_reducible refine g_asl ?_); refine And.intro (by rfl) ?_) | ((with_reducible refine g_asqT ?_); refine and_sqT (by wtm_at "qo") ?_) | ((with_reducible refine g_extO ?_); first | (refine extI (by with_reducible assumption) (by wtm_at "pp") (by wtm_at "co") (fun _ _ => ?_)) | (refine extO (by with_reducible assumption) (by wtm_at "pp") (by wtm_at "co") (fun _ _ => ?_))) | ((with_reducible refine g_tp ?_); first | (refine tp_l (by wtm_at "qo") ?_) | (refine tp_t (by wtm_at "qo") ?_)) | ((with_reducible refine g_dputO ?_); refine dputI (by with_reducible assumption) (by wtm_at "pp") (by wtm_at "co") (fun _ _ => ?_)) | ((with_reducible refine g_dinO ?_); refine dinI (by wtm_at "ho") ?_) | ((with_reducible refine g_isDO ?_); refine isDO (by wtm_at "ho") ?_) | ((with_reducible refine g_dg2 ?_); refine dg2I (by wtm_at "ho") ?_) | ((with_reducible refine g_fldO ?_); refine fldO (by wtm_at "ho") (by with_reducible assumption) (by wtm_at "mem") (by wtm_at "lk") ?_) | ((with_reducible refine g_fldC ?_); refine fldC (by wtm_at "ho") (by with_reducible assumption) (by wtm_at "mem") (by wtm_at "lk") ?_) | ((with_reducible refine g_putC ?_); refine putC (by with_reducible assumption) (by wtm_at "pp") (by wtm_at "pu") (by wtm_at "co") (fun _ _ => ?_)) | ((with_reducible refine g_stoO ?_); refine stoO (by with_reducible assumption) (by wtm_at "pp") (by wtm_at "pu") (by with_reducible assumption) (by wtm_at "mem") (by wtm_at "co") (fun _ _ => ?_)) | ((with_reducible refine g_metO ?_); refine metO (by wtm_at "ho") (by wtm_at "ln") ?_) | ((with_reducible refine g_makO ?_); refine makO (by with_reducible assumption) (fun _ _ _ _ => ?_)) | ((with_reducible refine g_sum ?_); refine sum_call (by wtm_at "qo") ?_) | ((with_reducible refine g_cq ?_); exact cq (by with_reducible assumption) (by simp only [rngL_len, List.length_map, List.length_take]; omega)) | ((with_reducible refine g_newO ?_); refine newO (by with_reducible assumption) (fun _ _ _ => ?_)) | ((with_reducible refine g_appO ?_); refine appI (by with_reducible assumption) (by wtm_at "pp") (by wtm_at "co") (fun _ _ => ?_)) | ((with_reducible refine g_setO ?_); refine setI (by with_reducible assumption) (by wtm_at "pp") (by omega) (by wtm_at "co") (fun _ _ => ?_)) | ((with_reducible refine g_appO ?_); refine appO (by with_reducible assumption) (by wtm_at "pp") (by wtm_at "co") (fun _ _ => ?_)) | ((with_reducible refine g_setO ?_); refine setO (by with_reducible assumption) (by wtm_at "pp") (by omega) (by wtm_at "co") (fun _ _ => ?_)) | ((with_reducible refine g_at ?_); refine at_call (by wtm_at "qo") (by omega) (by omega) (fun _ _ => ?_)) | ((with_reducible refine g_int ?_); refine int_call ?_) | ((with_reducible refine g_isi ?_); first | (with_reducible refine isi_ii ?_) | (with_reducible refine isi_ib ?_) | (refine isi_int rfl ?_) | (refine isi_sqL rfl (by wtm_at "qo") ?_) | (refine isi_sqT rfl (by wtm_at "qo") ?_) | (refine isi_bl rfl ?_) | (refine isi_non rfl ?_) | (refine isi_str rfl ?_)) | ((with_reducible refine g_ned ?_); first | (refine ned_f (dq_lst (by wtm_at "qo")) (dq_lst (by wtm_at "qo")) ?_) | (refine ned_ints (by wtm_at "qo") (by wtm_at "qo") ?_) | (refine nedT_ints (by wtm_at "qo") (by wtm_at "qo") ?_)) | ((with_reducible refine g_eqd ?_); first | (refine eqd_t (dq_lst (by wtm_at "qo")) (dq_lst (by wtm_at "qo")) ?_) | (refine eqd_ints (by wtm_at "qo") (by wtm_at "qo") ?_) | (refine eqdT_ints (by wtm_at "qo") (by wtm_at "qo") ?_)) | ((with_reducible refine g_tyv ?_); refine and_tyv (by wtm_at "qo") ?_) | ((with_reducible refine g_asq ?_); refine and_sq (by wtm_at "qo") ?_) | ((with_reducible refine g_lst ?_); refine ex_lst (by wtm_at "ho") ?_) | ((with_reducible refine g_or ?_); first | (refine ex_or (by wtm_at "qo") ?_) | (refine ex_ort (by wtm_at "qo") ?_)) | ((with_reducible refine g_sq ?_); refine ex_sq (by wtm_at "qo") ?_) | ((with_reducible refine g_sqt ?_); refine ex_sqt (by wtm_at "qo") ?_) | ((with_reducible refine gd_sel ?_); first | (refine sel_p (by wtm_at "pf") ?_) | (refine sel_n (by wtm_at "pf") ?_)) | ((with_reducible refine gn_sel ?_); first | (refine selN_p (by wtm_at "pf") ?_) | (refine selN_n (by wtm_at "pf") ?_)) | ((with_reducible refine gd_selT ?_); first | (refine selT_p (by wtm_at "pf") ?_) | (refine selT_n (by wtm_at "pf") ?_)) | ((with_reducible refine gn_selT ?_); first | (refine selTN_p (by wtm_at "pf") ?_) | (refine selTN_n (by wtm_at "pf") ?_)) | ((with_reducible refine gd_selE ?_); first | (refine selE_p (by wtm_at "pf") ?_) | (refine selE_n (by wtm_at "pf") ?_)) | ((with_reducible refine gn_selE ?_); first | (refine selEN_p (by wtm_at "pf") ?_) | (refine selEN_n (by wtm_at "pf") ?_)) | ((with_reducible refine g_xf ?_); refine xf_at rfl (by wtm_at "ho") ?_) | ((with_reducible refine g_atI ?_); refine ex_at (by first | exact rfl | exact atI_int (by omega) (by wtm_at "pf") | exact atI_end (by wtm_at "pf")) ?_) | ((with_reducible refine g_and ?_); refine And.intro (by wtm_at "co") ?_))
local macro_rules | `(tactic| wtm_at "oo") => `(tactic| repeat (first | wtm_at "xo" | wtm_at "so"))
local macro_rules | `(tactic| wtm_at "cR") => `(tactic| (refine' compRi _ (by with_reducible assumption) (by omega) (fun _ _ _ _ _ => ?_) (fun _ _ _ => ?_); rotate_left; focus (wtm_at "oo")))

local macro_rules | `(tactic| wtm_at "lk") => `(tactic| first | (with_reducible exact lk_here) | (simp only [lk_here, lk_skip, lk_nil, nb_0_0, nb_0_1, nb_0_2, nb_0_3, nb_0_4, nb_0_5, nb_0_6, nb_0_7, nb_1_1, nb_1_2, nb_1_3, nb_1_4, nb_1_5, nb_1_6, nb_1_7, nb_2_0, nb_2_2, nb_2_3, nb_2_4, nb_2_5, nb_2_6, nb_2_7, nb_3_0, nb_3_1, nb_3_2, nb_3_3, nb_3_4, nb_3_5, nb_3_6, nb_3_7, nb_4_0, nb_4_1, nb_4_2, nb_4_3, nb_4_4, nb_4_5, nb_4_6, nb_4_7, nb_5_0, nb_5_1, nb_5_3, nb_5_4, nb_5_5, nb_5_6, nb_5_7, nb_6_0, nb_6_1, nb_6_2, nb_6_3, nb_6_4, nb_6_5, nb_6_6, nb_6_7, nb_7_0, nb_7_1, nb_7_2, nb_7_4, nb_7_5, nb_7_6, nb_7_7, nb_8_0, nb_8_1, nb_8_2, nb_8_3, nb_8_4, nb_8_5, nb_8_6, nb_8_7, nb_9_0, nb_9_1, nb_9_2, nb_9_3, nb_9_4, nb_9_5, nb_9_6, nb_9_7, nb_10_0, nb_10_1, nb_10_2, nb_10_3, nb_10_5, nb_10_6, nb_10_7, nb_11_0, nb_11_1, nb_11_2, nb_11_3, nb_11_4, nb_11_6, nb_11_7, nb_12_0, nb_12_1, nb_12_2, nb_12_3, nb_12_4, nb_12_5, nb_12_7, nb_13_0, nb_13_1, nb_13_2, nb_13_3, nb_13_4, nb_13_5, nb_13_6, nb_13_7, nb_14_0, nb_14_1, nb_14_2, nb_14_3, nb_14_4, nb_14_5, nb_14_6, nb_15_0, nb_15_1, nb_15_2, nb_15_3, nb_15_4, nb_15_5, nb_15_6, nb_15_7, nb_16_0, nb_16_1, nb_16_2, nb_16_3, nb_16_4, nb_16_5, nb_16_6, nb_16_7, nb_17_0, nb_17_1, nb_17_2, nb_17_3, nb_17_4, nb_17_5, nb_17_6, nb_17_7, nb_18_0, nb_18_1, nb_18_2, nb_18_3, nb_18_4, nb_18_5, nb_18_6, nb_18_7, nb_19_0, nb_19_1, nb_19_2, nb_19_3, nb_19_4, nb_19_5, nb_19_6, nb_19_7, nb_20_0, nb_20_1, nb_20_2, nb_20_3, nb_20_4, nb_20_5, nb_20_6, nb_20_7, nb_21_0, nb_21_1, nb_21_2, nb_21_3, nb_21_4, nb_21_5, nb_21_6, nb_21_7, nb_22_0, nb_22_1, nb_22_2, nb_22_3, nb_22_4, nb_22_5, nb_22_6, nb_22_7, nb_23_0, nb_23_1, nb_23_2, nb_23_3, nb_23_4, nb_23_5, nb_23_6, nb_23_7, nb_24_0, nb_24_1, nb_24_2, nb_24_3, nb_24_4, nb_24_5, nb_24_6, nb_24_7, nb_25_0, nb_25_1, nb_25_2, nb_25_3, nb_25_4, nb_25_5, nb_25_6, nb_25_7, nb_26_0, nb_26_1, nb_26_2, nb_26_3, nb_26_4, nb_26_5, nb_26_6, nb_26_7]; first | done | exact rfl))
local macro_rules | `(tactic| wtm_at "ln") => `(tactic| first | (with_reducible exact lk_nil) | (simp only [lk_skip, lk_nil, nb_0_0, nb_0_1, nb_0_2, nb_0_3, nb_0_4, nb_0_5, nb_0_6, nb_0_7, nb_1_1, nb_1_2, nb_1_3, nb_1_4, nb_1_5, nb_1_6, nb_1_7, nb_2_0, nb_2_2, nb_2_3, nb_2_4, nb_2_5, nb_2_6, nb_2_7, nb_3_0, nb_3_1, nb_3_2, nb_3_3, nb_3_4, nb_3_5, nb_3_6, nb_3_7, nb_4_0, nb_4_1, nb_4_2, nb_4_3, nb_4_4, nb_4_5, nb_4_6, nb_4_7, nb_5_0, nb_5_1, nb_5_3, nb_5_4, nb_5_5, nb_5_6, nb_5_7, nb_6_0, nb_6_1, nb_6_2, nb_6_3, nb_6_4, nb_6_5, nb_6_6, nb_6_7, nb_7_0, nb_7_1, nb_7_2, nb_7_4, nb_7_5, nb_7_6, nb_7_7, nb_8_0, nb_8_1, nb_8_2, nb_8_3, nb_8_4, nb_8_5, nb_8_6, nb_8_7, nb_9_0, nb_9_1, nb_9_2, nb_9_3, nb_9_4, nb_9_5, nb_9_6, nb_9_7, nb_10_0, nb_10_1, nb_10_2, nb_10_3, nb_10_5, nb_10_6, nb_10_7, nb_11_0, nb_11_1, nb_11_2, nb_11_3, nb_11_4, nb_11_6, nb_11_7, nb_12_0, nb_12_1, nb_12_2, nb_12_3, nb_12_4, nb_12_5, nb_12_7, nb_13_0, nb_13_1, nb_13_2, nb_13_3, nb_13_4, nb_13_5, nb_13_6, nb_13_7, nb_14_0, nb_14_1, nb_14_2, nb_14_3, nb_14_4, nb_14_5, nb_14_6, nb_15_0, nb_15_1, nb_15_2, nb_15_3, nb_15_4, nb_15_5, nb_15_6, nb_15_7, nb_16_0, nb_16_1, nb_16_2, nb_16_3, nb_16_4, nb_16_5, nb_16_6, nb_16_7, nb_17_0, nb_17_1, nb_17_2, nb_17_3, nb_17_4, nb_17_5, nb_17_6, nb_17_7, nb_18_0, nb_18_1, nb_18_2, nb_18_3, nb_18_4, nb_18_5, nb_18_6, nb_18_7, nb_19_0, nb_19_1, nb_19_2, nb_19_3, nb_19_4, nb_19_5, nb_19_6, nb_19_7, nb_20_0, nb_20_1, nb_20_2, nb_20_3, nb_20_4, nb_20_5, nb_20_6, nb_20_7, nb_21_0, nb_21_1, nb_21_2, nb_21_3, nb_21_4, nb_21_5, nb_21_6, nb_21_7, nb_22_0, nb_22_1, nb_22_2, nb_22_3, nb_22_4, nb_22_5, nb_22_6, nb_22_7, nb_23_0, nb_23_1, nb_23_2, nb_23_3, nb_23_4, nb_23_5, nb_23_6, nb_23_7, nb_24_0, nb_24_1, nb_24_2, nb_24_3, nb_24_4, nb_24_5, nb_24_6, nb_24_7, nb_25_0, nb_25_1, nb_25_2, nb_25_3, nb_25_4, nb_25_5, nb_25_6, nb_25_7, nb_26_0, nb_26_1, nb_26_2, nb_26_3, nb_26_4, nb_26_5, nb_26_6, nb_26_7]; done))
local macro_rules | `(tactic| wtm_at "pu") => `(tactic| first | (with_reducible exact pf_nil) | (simp only [pf_nil, pf_here, pf_skip, nb_0_0, nb_0_1, nb_0_2, nb_0_3, nb_0_4, nb_0_5, nb_0_6, nb_0_7, nb_1_1, nb_1_2, nb_1_3, nb_1_4, nb_1_5, nb_1_6, nb_1_7, nb_2_0, nb_2_2, nb_2_3, nb_2_4, nb_2_5, nb_2_6, nb_2_7, nb_3_0, nb_3_1, nb_3_2, nb_3_3, nb_3_4, nb_3_5, nb_3_6, nb_3_7, nb_4_0, nb_4_1, nb_4_2, nb_4_3, nb_4_4, nb_4_5, nb_4_6, nb_4_7, nb_5_0, nb_5_1, nb_5_3, nb_5_4, nb_5_5, nb_5_6, nb_5_7, nb_6_0, nb_6_1, nb_6_2, nb_6_3, nb_6_4, nb_6_5, nb_6_6, nb_6_7, nb_7_0, nb_7_1, nb_7_2, nb_7_4, nb_7_5, nb_7_6, nb_7_7, nb_8_0, nb_8_1, nb_8_2, nb_8_3, nb_8_4, nb_8_5, nb_8_6, nb_8_7, nb_9_0, nb_9_1, nb_9_2, nb_9_3, nb_9_4, nb_9_5, nb_9_6, nb_9_7, nb_10_0, nb_10_1, nb_10_2, nb_10_3, nb_10_5, nb_10_6, nb_10_7, nb_11_0, nb_11_1, nb_11_2, nb_11_3, nb_11_4, nb_11_6, nb_11_7, nb_12_0, nb_12_1, nb_12_2, nb_12_3, nb_12_4, nb_12_5, nb_12_7, nb_13_0, nb_13_1, nb_13_2, nb_13_3, nb_13_4, nb_13_5, nb_13_6, nb_13_7, nb_14_0, nb_14_1, nb_14_2, nb_14_3, nb_14_4, nb_14_5, nb_14_6, nb_15_0, nb_15_1, nb_15_2, nb_15_3, nb_15_4, nb_15_5, nb_15_6, nb_15_7, nb_16_0, nb_16_1, nb_16_2, nb_16_3, nb_16_4, nb_16_5, nb_16_6, nb_16_7, nb_17_0, nb_17_1, nb_17_2, nb_17_3, nb_17_4, nb_17_5, nb_17_6, nb_17_7, nb_18_0, nb_18_1, nb_18_2, nb_18_3, nb_18_4, nb_18_5, nb_18_6, nb_18_7, nb_19_0, nb_19_1, nb_19_2, nb_19_3, nb_19_4, nb_19_5, nb_19_6, nb_19_7, nb_20_0, nb_20_1, nb_20_2, nb_20_3, nb_20_4, nb_20_5, nb_20_6, nb_20_7, nb_21_0, nb_21_1, nb_21_2, nb_21_3, nb_21_4, nb_21_5, nb_21_6, nb_21_7, nb_22_0, nb_22_1, nb_22_2, nb_22_3, nb_22_4, nb_22_5, nb_22_6, nb_22_7, nb_23_0, nb_23_1, nb_23_2, nb_23_3, nb_23_4, nb_23_5, nb_23_6, nb_23_7, nb_24_0, nb_24_1, nb_24_2, nb_24_3, nb_24_4, nb_24_5, nb_24_6, nb_24_7, nb_25_0, nb_25_1, nb_25_2, nb_25_3, nb_25_4, nb_25_5, nb_25_6, nb_25_7, nb_26_0, nb_26_1, nb_26_2, nb_26_3, nb_26_4, nb_26_5, nb_26_6, nb_26_7]; first | done | exact rfl))
local macro_rules | `(tactic| wtm_at "tk") => `(tactic| first | (with_reducible exact Take.here) | (exact Take.here) | ((with_reducible apply Take.there); wtm_at "tk"))
local macro_rules | `(tactic| wtm_at "pk") => `(tactic| first | exact Pick.nil | ((with_reducible refine' Pick.cons ?tk1 ?pk1); (case tk1 => wtm_at "tk"); (case pk1 => wtm_at "pk")) | ((with_reducible refine Pick.im (by wtm_at "mem") ?_); wtm_at "pk") | ((with_reducible refine Pick.ims (by wtm_at "mem") ?_); wtm_at "pk"))
section
variable {P : Program} {w : World} {K : PySem.W.Frag} {mg : Str → Option Value} {base : Heap}
def sp_law (K : PySem.W.Frag) : Sp := fun vs H Q _ => ∃ (a : Addr) (ns : List Int), vs = [.ref a] ∧ SqL K H a (ns.map V.int) ∧ ns.length ≤ 63 ∧ ∀ H', Q (.bl true) H'
theorem okf_law (T : Tx K mg) {fd : FuncData} (F : FunD K "law" "law" (defArgs s_law) (defBody s_law) (defScope s_law) [] [] (He.ga K "law") fd) : FnOk P w K mg base (L2N.CX P w) 8 (He.ga K "law") fd ["script"] (sp_law K) := by
  refine F.ok sc_law (fun vs H Q E h => ?_) (fun cdv A outer s H vs Q E hr h => ⟨_, (PSs.nox (pss_cons (ps_set (i := 1) sc_law.nd rfl (Or.inl rfl) (by exact (pe_cl (ok__law_draws T) (hr.mono (by decide)) rfl (pa_cons (pv 0) pa_nil))))
 (pss_cons (ps_set (i := 2) sc_law.nd rfl (Or.inl rfl) (by exact (pe_lst (pa_cons (pe_cl (ok__law_at T) (hr.mono (by decide)) rfl (pa_cons (pv 1) (pa_cons pe_int (pa_cons pe_int pa_nil)))) (pa_cons (pe_cl (ok__law_at T) (hr.mono (by decide)) rfl (pa_cons (pv 1) (pa_cons pe_int (pa_cons pe_int pa_nil)))) (pa_cons (pe_cl (ok__law_at T) (hr.mono (by decide)) rfl (pa_cons (pv 1) (pa_cons pe_int (pa_cons pe_int pa_nil)))) pa_nil))))))
 (pss_cons (ps_set (i := 3) sc_law.nd rfl (Or.inl rfl) (by exact (pe_slice (slK K) (pe_cl (ok__law_grown T) (hr.mono (by decide)) rfl (pa_cons (pv 1) (pa_cons pe_int (pa_cons (pv 2) pa_nil)))) po_none (po_some pe_int))))
 (pss_cons (ps_set (i := 4) sc_law.nd rfl (Or.inl rfl) (by exact (pe_op op_sub (pe_callB (lenK K) rfl T.b_len (by decide +kernel) (pa_cons (pv 3) pa_nil)) (pe_cl (ok__law_at T) (hr.mono (by decide)) rfl (pa_cons (pv 1) (pa_cons pe_int (pa_cons (pe_op op_add (pe_callB (lenK K) rfl T.b_len (by decide +kernel) (pa_cons (pv 3) pa_nil)) pe_int) pa_nil)))))))
 (pss_cons (ps_set (i := 5) sc_law.nd rfl (Or.inl rfl) (by exact (pe_cl (ok__law_at T) (hr.mono (by decide)) rfl (pa_cons (pv 1) (pa_cons pe_int (pa_cons (pe_op op_add (pv 4) pe_int) pa_nil))))))
 (pss_cons (ps_set (i := 6) sc_law.nd rfl (Or.inl rfl) (by exact (pe_op op_add pe_int (pe_cl (ok__law_at T) (hr.mono (by decide)) rfl (pa_cons (pv 1) (pa_cons pe_int (pa_cons pe_int pa_nil)))))))
 (pss_cons (ps_if (pt_cmpR op_eq (pe_cl (ok__law_at T) (hr.mono (by decide)) rfl (pa_cons (pv 1) (pa_cons pe_int (pa_cons pe_int pa_nil)))) pe_int (nomark _))
 (pss_one (ps_set (i := 6) sc_law.nd rfl (Or.inl rfl) (by exact (pe_op op_add pe_int (pe_op op_mod (pe_callTy call_int1 rfl T.b_int (by decide +kernel) (pa_cons (pv 6) pa_nil)) pe_int)))))
 pss_nil)
 (pss_cons (ps_set (i := 7) sc_law.nd rfl (Or.inl rfl) (by exact (pe_cl (ok__law_numbers T) (hr.mono (by decide)) rfl (pa_cons (pv 1) (pa_cons pe_int pa_nil)))))
 (pss_cons (ps_set (i := 8) sc_law.nd rfl (Or.inl rfl) (by exact (pe_cl (ok__law_at T) (hr.mono (by decide)) rfl (pa_cons (pv 1) (pa_cons pe_int (pa_cons pe_int pa_nil))))))
 (pss_cons (ps_set (i := 9) sc_law.nd rfl (Or.inl rfl) (by exact (pe_mk (ok_Parser___init__ T) (hr.mono (by decide)) rfl (pa_cons (pv 3) (pa_cons (pv 4) (pa_cons (pv 5) (pa_cons (pv 6) pa_nil)))))))
 (pss_cons (ps_set (i := 10) sc_law.nd rfl (Or.inl rfl) (by exact (pv 4)))
 (pss_cons (ps_set (i := 11) sc_law.nd rfl (Or.inl rfl) (by exact pe_int))
 (pss_cons (ps_for PassesOwn.never rfl (pi_range1 rfl T.b_range (pa_cons pe_int pa_nil)) (pg_name (i := 12) sc_law.nd rfl (Or.inl rfl))
 (pss_cons (ps_set (i := 13) sc_law.nd rfl (Or.inl rfl) (by exact (pe_cl (ok__law_at T) (hr.mono (by decide)) rfl (pa_cons (pv 1) (pa_cons (pe_op op_add pe_int (pv 12)) (pa_cons pe_int pa_nil))))))
 (pss_cons (ps_if (PW.pt (pw_and (pt_cmpR op_lt (pv 13) pe_int (nomark _)) (pw_and1 (pt_cmpR op_lt (pv 11) pe_int (nomark _)))))
 (pss_cons (ps_set (i := 14) sc_law.nd rfl (Or.inl rfl) (by exact (pe_cl (ok__law_grown T) (hr.mono (by decide)) rfl (pa_cons (pv 1) (pa_cons (pe_op op_add pe_int (pv 12)) (pa_cons (pv 2) pa_nil))))))
 (pss_cons (ps_set (i := 11) sc_law.nd rfl (Or.inl rfl) (by exact (pe_op op_add (pv 11) (pe_callTy call_int1 rfl T.b_int (by decide +kernel) (pa_cons (pe_cmpR op_gt (pe_callB (lenK K) rfl T.b_len (by decide +kernel) (pa_cons (pv 14) pa_nil)) pe_int (nomark _)) pa_nil)))))
 (pss_cons (ps_expr (pe_mt (ok_Parser_extend T) (hr.mono (by decide)) (pv 9) (pa_cons (pv 14) pa_nil)))
 (pss_one (ps_set (i := 3) sc_law.nd rfl (Or.inl rfl) (by exact (pe_op op_cat (pv 3) (pv 14))))))))
 (pss_one (ps_if (pt_cmpR op_eq (pv 13) pe_int (nomark _))
 (pss_cons (ps_set (i := 15) sc_law.nd rfl (Or.inl rfl) (by exact (pe_cl (ok__law_forgets T) (hr.mono (by decide)) rfl (pa_cons (pv 9) pa_nil))))
 (pss_cons (ps_if (pt_cmpR op_eq (pv 10) (pe_callB (lenK K) rfl T.b_len (by decide +kernel) (pa_cons (pv 3) pa_nil)) (nomark _))
 (pss_one (ps_set (i := 5) sc_law.nd rfl (Or.inl rfl) (by exact (pv 10))))
 pss_nil)
 (pss_one (ps_if (pt_cmpR op_ne (pv 15) (pe_op op_sub (pe_op op_mul (pe_op op_add (pv 10) pe_int) (pe_callTy call_int1 rfl T.b_int (by decide +kernel) (pa_cons (pe_cmpR op_lt (pv 10) (pe_callB (lenK K) rfl T.b_len (by decide +kernel) (pa_cons (pv 3) pa_nil)) (nomark _)) pa_nil))) pe_int) (nomark _))
 (pss_one (ps_ret (by exact pe_bl)))
 pss_nil))))
 (pss_one (ps_if (pt_cmpR op_eq (pv 13) pe_int (nomark _))
 (pss_one (ps_set (i := 9) sc_law.nd rfl (Or.inl rfl) (by exact (pe_mt0 (ok_Parser_twin T) (hr.mono (by decide)) (pv 9)))))
 (pss_cons (ps_set (i := 16) sc_law.nd rfl (Or.inl rfl) (by exact (pe_cmpR op_lt (pv 13) pe_int (nomark _))))
 (pss_cons (ps_set (i := 17) sc_law.nd rfl (Or.inl rfl) (by exact (pe_mt0 (ok_Parser_at T) (hr.mono (by decide)) (pv 9))))
 (pss_cons (ps_set (i := 15) sc_law.nd rfl (Or.inl rfl) (by exact (pe_mt (ok_Parser_step T) (hr.mono (by decide)) (pv 9) (pa_cons (pv 7) (pa_cons (pv 8) (pa_cons (pv 16) pa_nil))))))
 (pss_cons (ps_set (i := 18) sc_law.nd rfl (Or.inl rfl) (by exact (pe_and (pe_cmpR op_lt (pv 17) (pe_callB (lenK K) rfl T.b_len (by decide +kernel) (pa_cons (pv 3) pa_nil)) (nomark _)) (pe_one (pe_or (pv 16) (pe_one (pe_cmpR op_ge (pe_op op_sub (pe_callB (lenK K) rfl T.b_len (by decide +kernel) (pa_cons (pv 3) pa_nil)) (pv 17)) pe_int (nomark _))))))))
 (pss_cons (ps_if (pt_cmpR op_ne (pe_cmpR op_notN (pv 15) pe_non (nomark _)) (pv 18) (nomark _))
 (pss_one (ps_ret (by exact pe_bl)))
 pss_nil)
 (pss_one (ps_if (pt_cmpR op_notN (pv 15) pe_non (nomark _))
 (pss_one (ps_for PassesOwn.never rfl (pi_list (pv 15)) (pg_name (i := 19) sc_law.nd rfl (Or.inl rfl))
 (pss_cons (ps_if (pt_not (pt_val (pe_cl (ok__law_good T) (hr.mono (by decide)) rfl (pa_cons (pv 19) (pa_cons (pv 3) (pa_cons (pv 10) (pa_cons (pv 5) (pa_cons (pv 6) pa_nil))))))))
 (pss_one (ps_ret (by exact pe_bl)))
 pss_nil)
 (pss_one (ps_set (i := 10) sc_law.nd rfl (Or.inl rfl) (by exact (pe_op op_add (pv 10) (pe_cl (ok__law_size T) (hr.mono (by decide)) rfl (pa_cons (pv 19) pa_nil)))))))))
 pss_nil))))))))))))
 (pss_cons (ps_if (PW.pt (pw_or (pt_cmpR op_ne (pe_mt0 (ok_Parser_front T) (hr.mono (by decide)) (pv 9)) (pv 10) (nomark _)) (pw_or (pt_cmpR op_ne (pe_mt0 (ok_Parser_end T) (hr.mono (by decide)) (pv 9)) (pe_callB (lenK K) rfl T.b_len (by decide +kernel) (pa_cons (pv 3) pa_nil)) (nomark _)) (pw_or1 (pt_cmpR op_ne (pe_mt0 (ok_Parser_floor T) (hr.mono (by decide)) (pv 9)) (pv 5) (nomark _))))))
 (pss_one (ps_ret (by exact pe_bl)))
 pss_nil)
 (pss_one (ps_if (PW.pt (pw_or (pt_cmpR op_ne (pe_cmpR op_gt (pe_ix (ixt K) (pe_mt0 (ok_Parser_held T) (hr.mono (by decide)) (pv 9)) pe_int (fun _ _ => rfl)) pe_int (nomark _)) (pe_cmpR op_eq (pe_mt0 (ok_Parser_at T) (hr.mono (by decide)) (pv 9)) (pe_op op_add (pv 10) pe_int) (nomark _)) (nomark _)) (pw_or1 (pt_cmpR op_notIn_seq (pe_mt0 (ok_Parser_at T) (hr.mono (by decide)) (pv 9)) (pe_tup (pa_cons (pv 10) (pa_cons (pe_op op_add (pv 10) pe_int) pa_nil))) rfl))))
 (pss_one (ps_ret (by exact pe_bl)))
 pss_nil))))))
 (pss_one (ps_ret (by exact (pe_cmpR (eqK K hr.units) (pe_mt (ok_Parser_part T) (hr.mono (by decide)) (pv 9) (pa_cons (pv 5) (pa_cons (pv 10) pa_nil))) (pe_slice (slK K) (pv 3) (po_some (pv 5)) (po_some (pv 10))) (nomark _))))))))))))))))))), ?_⟩)
  · first | (obtain ⟨rfl, _⟩ := h; rfl) | (obtain ⟨_, rfl, _⟩ := h; rfl) | (obtain ⟨_, _, rfl, _⟩ := h; rfl) | (obtain ⟨_, _, _, rfl, _⟩ := h; rfl) | (obtain ⟨_, _, _, _, rfl, _⟩ := h; rfl) | (obtain ⟨_, _, _, _, _, rfl, _⟩ := h; rfl) | (obtain ⟨_, _, _, _, _, _, rfl, _⟩ := h; rfl) | (obtain ⟨_, _, _, _, _, _, _, rfl, _⟩ := h; rfl) | (obtain ⟨_, _, _, _, _, _, _, _, rfl, _⟩ := h; rfl) | (obtain ⟨_, _, _, _, _, _, _, _, _, rfl, _⟩ := h; rfl) | (obtain ⟨_, _, _, _, _, _, _, _, _, _, rfl, _⟩ := h; rfl) | (obtain ⟨_, _, _, _, _, _, _, _, _, _, _, rfl, _⟩ := h; rfl) | (obtain ⟨_, _, _, _, _, _, _, _, _, _, _, _, rfl, _⟩ := h; rfl) | (obtain ⟨_, _, _, _, _, _, _, _, _, _, _, _, _, rfl, _⟩ := h; rfl) | (obtain ⟨_, _, _, _, _, _, _, _, _, _, _, _, _, _, rfl, _⟩ := h; rfl) | (obtain ⟨_, _, _, _, _, _, _, _, _, _, _, _, _, _, _, rfl, _⟩ := h; rfl) | (obtain ⟨_, _, _, _, _, _, _, _, _, _, _, _, _, _, _, _, rfl, _⟩ := h; rfl) | (obtain ⟨_, _, _, _, _, _, _, _, _, _, _, _, _, _, _, _, _, rfl, _⟩ := h; rfl) | (obtain ⟨_, _, _, _, _, _, _, _, _, _, _, _, _, _, _, _, _, _, rfl, _⟩ := h; rfl) | (obtain ⟨_, _, _, _, _, _, _, _, _, _, _, _, _, _, _, _, _, _, _, rfl, _⟩ := h; rfl) | (obtain ⟨_, _, _, _, _, _, _, _, _, _, _, _, _, _, _, _, _, _, _, _, rfl, _⟩ := h; rfl) | (obtain ⟨_, _, _, _, _, _, _, _, _, _, _, _, _, _, _, _, _, _, _, _, _, rfl, _⟩ := h; rfl)
  · obtain ⟨a, ns, rfl, hS, hlen, q⟩ := h
    k_call_by "xo" st_law
    have cP := T.c_Parser
    have L := Own.start (K := K) (H := H)
    refine ⟨a, ns, rfl, hS, hlen, fun ds p H1 hd hs hp hl => ?_⟩
    have L := L.add0 hs hp hl
    clear hs hp hl hS
    wtm_at "oo"
    rename_i lt H2 L2
    refine ⟨p, lt, ds, [atD ds 0 256, atD ds 1 256, atD ds 0 256], 2, rfl, by wtm_at "qo", ?_, rfl, by decide, fun ys yr H3 y1 y2 M => ?_⟩
    · exact SqL.of (L2.get mem_here)
    have L3 := L2.c1 M
    clear M
    have L3 : Own K H H3 [pI yr ys, pI lt [atD ds 0 256, atD ds 1 256, atD ds 0 256], pI p ds] := L3
    have hlt : ([atD ds 0 256, atD ds 1 256, atD ds 0 256] : List Int).length = 3 := rfl
    generalize ([atD ds 0 256, atD ds 1 256, atD ds 0 256] : List Int) = ls at *
    clear L2
    wtm_at "oo"
    rename_i hv H4 L4 t0 t1 f0 f1 w0 w1 z0 z1
    have ec : cutV (ys.map V.int) none (some 20) = (ys.take (20 : Int).toNat).map V.int := by rw [cut_ni (by decide), ints_take]
    have hz : (ys.take (20 : Int).toNat).length ≤ 20 := by
      rw [List.length_take]
      exact Nat.min_le_left _ _
    rw [ec] at L4
    simp only [ec, ints_len] at t0 t1 f0 f1 ⊢
    clear ec L3 y1 y2
    generalize ys.take (20 : Int).toNat = hs at *
    generalize atD ds 3 ((hs.length : Int) + 1) = a3 at *
    obtain ⟨at0, hat⟩ : ∃ x, x = (hs.length : Int) - a3 := ⟨_, rfl⟩
    rw [← hat] at f0 f1 ⊢
    generalize atD ds 4 (at0 + 1) = f at *
    generalize atD ds 5 32768 = wd at *
    generalize hk : tSeq _ _ _ = kont
    have fin : ∀ w : Int, 1 ≤ w → w ≤ 32768 → kont [some (.ref a), some (.ref p), some (.ref lt), some (.ref hv), some (.int at0), some (.int f), some (.int w), none, none, none, none, none, none, none, none, none, none, none, none, none] H4 := by
      clear w0 w1 z0 z1
      intro w w0 w1
      subst hk
      wtm_at "oo"
      refine ⟨p, ds, 6, rfl, by wtm_at "qo", by decide, fun m nm H5 mk M => ?_⟩
      have L5 := L4.c1 M
      clear M L4
      wtm_at "oo"
      rename_i s0 s1 pp pdx G2 N2
      generalize atD ds 11 5 = s at *
      refine ⟨pp, pdx, hv, at0, f, w, hs, rfl, by wtm_at "ho", by wtm_at "qo", fun h c dx d bb hhd H6 M => ⟨rfl, by decide, by decide, ?_⟩⟩
      have N3 := N2.mut1 (by wtm_at "tk") M
      simp only [List.cons_append, List.nil_append] at N3
      rw [show max (0 : Int) f = f by omega] at N3
      have N4 := N3.pick (l' := .im (.ref nm) (nmD m) :: prR K pp pdx h c dx d bb w f hs at0 hhd 0 0 [] 0 [pI hv hs, pI lt ls, pI p ds]) (by wtm_at "pk")
      clear M N2 N3 L5
      have ch0 : 0 ≤ m.chain := by
        have := mk.ch
        omega
      refine loop_rangeN (m := 20) rfl (fun i σ H' => ∃ hs hv pp pdx h c dx d bb f at2 hh x y kvs e tn y12 y13 y14 y15 y16 y17 y18 y19, σ = [some (.ref a), some (.ref p), some (.ref lt), some (.ref hv), some (.int at0), some (.int f), some (.int w), some (.ref nm), some (.int s), some (.ref pp), some (.int (frT at2 x y)), some (.int ((tn : Nat) : Int)), y12, y13, y14, y15, y16, y17, y18, y19] ∧
        Own K H H' (.im (.ref nm) (nmD m) :: prR K pp pdx h c dx d bb w f hs at2 hh x y kvs e [pI hv hs, pI lt ls, pI p ds]) ∧
        PrB hs at2 w f e kvs ∧ PInv hs at2 f m s x y ∧ HInv hs at2 f w x y ∧ hs.length ≤ 20 + 12 * i + 330 * tn ∧ tn ≤ 2)
        ⟨hs, hv, pp, pdx, h, c, dx, d, bb, f, at0, hhd, 0, 0, [], 0, 0, none, none, none, none, none, none, none, none, rfl, N4, ⟨ChSt.zero hs, by omega, by omega, by omega, f0, w0, by omega⟩, ⟨by omega, by omega, by omega, .inl ⟨rfl, rfl⟩, fun _ => ⟨rfl, rfl⟩⟩, .inl ⟨rfl, rfl⟩, by omega, by decide⟩ ?_ ?_
      · clear N4 hz t0 t1 f0 f1 hat
        rintro i σ H7 hi ⟨hs, hv, pp, pdx, h, c, dx, d, bb, f, at2, hh, x, y, kvs, e, tn, y12, y13, y14, y15, y16, y17, y18, y19, rfl, N, pb, I, J, hl, ht⟩
        have f0 := pb.f0
        have i0 := I.i0
        have i1 := I.i1
        have hd := I.hd
        wtm_at "oo"
        rename_i d0 d1
        generalize atD ds (12 + (0 + (i : Int))) 8 = deed at *
        generalize hk : tSeq _ _ _ = kont
        have fin : ∀ (hs : List Int) hv pp pdx h c dx d bb f at2 hh x y kvs e tn y14 y15 y16 y17 y18 y19 H8, Own K H H8 (.im (.ref nm) (nmD m) :: prR K pp pdx h c dx d bb w f hs at2 hh x y kvs e [pI hv hs, pI lt ls, pI p ds]) →
            PrB hs at2 w f e kvs → PInv hs at2 f m s x y → HInv hs at2 f w x y → hs.length ≤ 20 + 12 * (i + 1) + 330 * tn → tn ≤ 2 →
            kont [some (.ref a), some (.ref p), some (.ref lt), some (.ref hv), some (.int at0), some (.int f), some (.int w), some (.ref nm), some (.int s), some (.ref pp), some (.int (frT at2 x y)), some (.int ((tn : Nat) : Int)), some (.int (0 + (i : Int))), some (.int deed), y14, y15, y16, y17, y18, y19] H8 := by
          clear N pb I J hl ht f0 i0 i1 hd
          intro hs hv pp pdx h c dx d bb f at2 hh x y kvs e tn y14 y15 y16 y17 y18 y19 H8 N pb I J hl ht
          subst hk
          wtm_at "oo"
          refine ⟨pp, pdx, h, hh, c, at2, x, y, rfl, by wtm_at "ho", by wtm_at "qo", ?_⟩
          rw [show (if (x = 0 ∧ y = 0) then at2 else at2 - 1) = frT at2 x y from rfl]
          wtm_at "oo"
          refine ⟨pp, pdx, h, hh, c, at2, hs, rfl, by wtm_at "ho", by wtm_at "qo", ?_⟩
          wtm_at "oo"
          refine ⟨pp, pdx, h, hh, c, dx, d, bb, at2, w, f, rfl, by wtm_at "ho", by wtm_at "ho", ?_⟩
          wtm_at "oo"
          refine ⟨pp, pdx, h, hh, c, at2, rfl, by wtm_at "ho", ?_⟩
          wtm_at "oo"
          refine ⟨pp, pdx, h, hh, c, at2, rfl, by wtm_at "ho", ?_⟩
          wtm_at "oo"
          have hd := I.hd
          have key : (0 < x) ↔ at2 = frT at2 x y + 1 := by
            unfold frT
            split <;> omega
          have key2 : at2 ∈ [frT at2 x y, frT at2 x y + 1] := by
            unfold frT
            split
            · exact List.mem_cons_self
            · exact List.mem_cons_of_mem _ (List.mem_singleton.mpr (by omega))
          rw [show decide (0 < x) = decide (at2 = frT at2 x y + 1) from decide_eq_decide.mpr key]
          wtm_at "oo"
          refine ⟨pp, pdx, h, hh, c, at2, rfl, by wtm_at "ho", ?_⟩
          wtm_at "oo"
          rename_i tp H9 N9
          refine notInT_ints (xs := [frT at2 x y, frT at2 x y + 1]) (by wtm_at "qo") ?_
          rw [decide_eq_true key2]
          wtm_at "oo"
          exact ⟨hs, pdx, h, c, dx, d, bb, at2, hh, x, y, rfl, kvs, e, tn, rfl, N9.pick (by wtm_at "pk"), pb, I, J, hl, ht⟩
        clear hk
        refine selT_d (fun c1 => ?A) (fun c1 => ?B)
        case' A =>
          wtm_at "oo"
          refine sel_d (fun c2 => ?G) (fun c2 => ?S1)
        case' B =>
          wtm_at "oo"
          refine sel_d (fun c2 => ?F) (fun c2 => ?R)
        case' R =>
          wtm_at "oo"
          refine sel_d (fun c3 => ?T) (fun c3 => ?S2)
        case G =>
          wtm_at "oo"
          refine ⟨p, lt, ds, ls, _, rfl, by wtm_at "qo", by wtm_at "qo", hlt, by omega, fun ys yr2 H8 y1 y2 M => ?_⟩
          have N1 := N.c1 M
          clear M N
          wtm_at "oo"
          refine ⟨pp, pdx, h, hh, c, yr2, at2, hs, ys, rfl, by wtm_at "ho", by wtm_at "ho", by wtm_at "ho", by omega, fun H9 M => ?_⟩
          have N2 := N1.mut1 (by wtm_at "tk") M
          simp only [List.cons_append, List.nil_append] at N2
          clear M N1
          have gr : PrB (hs ++ ys) at2 w f e kvs := ⟨pb.st.grow, by rw [List.length_append]; omega, pb.a0, by rw [List.length_append]; omega, pb.f0, pb.w0, pb.w1⟩
          rw [← befL_grow (xs := ys) pb.st.fit] at N2
          wtm_at "oo"
          rename_i hv2 H10 N3
          have ln := List.length_append (as := hs) (bs := ys)
          by_cases c5 : (300 : Int) < ys.length
          · rw [decide_eq_true c5, if_pos rfl, show ((tn : Int) + 1) = ((tn + 1 : Nat) : Int) from rfl]
            exact fin (hs ++ ys) hv2 pp pdx h c dx d bb f at2 hh x y kvs e (tn + 1) _ _ _ _ _ _ H10 (N3.pick (by wtm_at "pk")) gr I.more (J.grow f0) (by omega) (by omega)
          · rw [decide_eq_false c5, if_neg (by decide), Int.add_zero]
            exact fin (hs ++ ys) hv2 pp pdx h c dx d bb f at2 hh x y kvs e tn _ _ _ _ _ _ H10 (N3.pick (by wtm_at "pk")) gr I.more (J.grow f0) (by omega) (by omega)
        case F =>
          wtm_at "oo"
          refine ⟨pp, pdx, h, hh, c, dx, d, bb, at2, x, y, w, f, frT at2 x y, hs, rfl, by wtm_at "ho", by wtm_at "ho", by wtm_at "qo", by wtm_at "qo", rfl, fun ef H8 M => ?_, fun ef H8 M => ?_⟩
          · have N2 := N.mut1 (by wtm_at "tk") M
            simp only [List.cons_append, List.nil_append] at N2
            obtain ⟨rfl, rfl⟩ : x = 0 ∧ y = 0 := by
              unfold frT at ef
              split at ef <;> omega
            have ea : at2 = hs.length := ef
            rw [show max f (hs.length : Int) = hs.length by have := I.fi; omega] at N2
            subst ea
            have I2 : PInv hs hs.length hs.length m s 0 0 := ⟨I.i0, Int.le_refl _, Int.le_refl _, .inl ⟨rfl, rfl⟩, I.nw⟩
            have pb2 : PrB hs hs.length w hs.length e kvs := ⟨pb.st, pb.len, pb.a0, pb.a1, by omega, pb.w0, pb.w1⟩
            have fin2 := fin hs hv pp pdx h c dx d bb hs.length hs.length hh 0 0 kvs e tn
            clear fin
            rw [show frT (hs.length : Int) 0 0 = hs.length from rfl] at *
            wtm_at "oo"
            have e9 : (((hs.length : Int) + 1) * if decide ((hs.length : Int) < (hs.length : Int)) = true then 1 else 0) - 1 = -1 := by
              rw [decide_eq_false (by omega), if_neg (by decide)]
              omega
            rw [e9]
            wtm_at "oo"
            exact fin2 _ _ _ _ _ _ H8 (N2.pick (by wtm_at "pk")) pb2 I2 (.inl ⟨rfl, rfl⟩) (by omega) ht
          · have N2 := N.c0 M
            have ef2 : frT at2 x y < hs.length := by
              unfold frT at ef ⊢
              split <;> split at ef <;> omega
            wtm_at "oo"
            have e9 : ((frT at2 x y + 1) * if decide (frT at2 x y < (hs.length : Int)) = true then 1 else 0) - 1 = frT at2 x y := by
              rw [decide_eq_true ef2, if_pos rfl]
              omega
            rw [e9]
            wtm_at "oo"
            exact fin hs hv pp pdx h c dx d bb f at2 hh x y kvs e tn _ _ _ _ _ _ H8 N2 pb I J (by omega) ht
        case T =>
          wtm_at "oo"
          refine ⟨pp, pdx, h, hh, c, dx, d, bb, at2, x, y, w, f, hs, befL hs e, kvs, rfl, by wtm_at "ho", by wtm_at "ho", by wtm_at "qo", by wtm_at "qo", by wtm_at "ho", by wtm_at "ho", fun p' dxp' h' c' dx' d' bb' H8 M => ?_⟩
          have N1 := N.calls M
          simp only [List.cons_append, List.nil_append] at N1
          clear M N
          wtm_at "oo"
          exact fin hs hv p' dxp' h' c' dx' d' bb' f at2 hh x y kvs e tn _ _ _ _ _ _ H8 (N1.pick (by wtm_at "pk")) pb I J (by omega) ht
        all_goals
          wtm_at "oo"
          refine ⟨pp, pdx, h, hh, c, at2, rfl, by wtm_at "ho", ?_⟩
          wtm_at "oo"
          refine step_call (N.pick (l' := .im (.ref nm) (nmD m) :: prR K pp pdx h c dx d bb w f hs at2 hh x y kvs e [pI hv hs, pI lt ls, pI p ds]) (by wtm_at "pk")) pb ch0 I (fun st => ?_) (fun st t tks kvs' e' hh' H8 r er r2 I2 j1 pb' N2 => ?_)
          · wtm_at "oo"
            refine selE_gen fun kst hks => ?_
            have kf : kst (.bl false) H7 := by
              rw [← hks]
              wtm_at "oo"
              exact fin hs hv pp pdx h c dx d bb f at2 hh x y kvs e tn _ _ _ _ _ _ H7 N pb I J (by omega) ht
            clear hks fin
            unfold stops at st
            refine selE_d (fun u1 => ?_) (fun u1 => ?_)
            · have st := st.resolve_left (by omega)
              rw [st.1]
              wtm_at "oo"
              rw [decide_eq_false (by omega)]
              exact kf
            · wtm_at "oo"
              exact kf
          · wtm_at "oo"
            refine selE_gen fun kst hks => ?_
            obtain ⟨g1, g2⟩ := stops_not i1 st
            have sc := stp_cov (b := decide (deed < 7)) I J f0 pb.w0 g1
            rw [← er] at sc
            clear er
            obtain ⟨tk2, at3, x3, y3⟩ := r
            dsimp only at *
            have lt2 := lenT N2 (vs := tks) (ts := tk2) (by wtm_at "mem")
            have kt : kst (.bl true) H8 := by
              rw [← hks]
              wtm_at "oo"
              have p0 : 0 ≤ frT at2 x y := by
                unfold frT
                split <;> omega
              refine loop_list (xs := tks) (fun k σ H' => ∃ pl y14 y15 y16 y17 y18 y19, σ = [some (.ref a), some (.ref p), some (.ref lt), some (.ref hv), some (.int at0), some (.int f), some (.int w), some (.ref nm), some (.int s), some (.ref pp), some (.int pl), some (.int ((tn : Nat) : Int)), some (.int (0 + (i : Int))), some (.int deed), y14, y15, y16, y17, y18, y19] ∧
                Own K H H' (.pt t (.lst tks) :: .ims tks (tk2.map tI) :: .im (.ref nm) (nmD m) :: prR K pp pdx h c dx d bb w f hs at3 hh' x3 y3 kvs' e' [pI hv hs, pI lt ls, pI p ds]) ∧ cov hs f w (tk2.drop k) pl (frT at3 x3 y3) ∧ 0 ≤ pl)
                ⟨_, _, _, _, _, _, _, rfl, N2, sc.1, p0⟩ (fun _ σ H' _ ⟨_, _, _, _, _, _, _, _, L, _⟩ => by wtm_at "qo") ?_ ?_
              · clear N2 hks
                rintro k v σ H9 hx ⟨pl, y14, y15, y16, y17, y18, y19, rfl, N2, cv, p1⟩
                obtain ⟨tt, r, htt, rfl, hr⟩ := itemT N2 (vs := tks) (ts := tk2) (by wtm_at "mem") hx
                obtain ⟨hk2, ek⟩ := List.getElem?_eq_some_iff.mp htt
                rw [List.drop_eq_getElem_cons hk2, ek] at cv
                obtain ⟨ok, cv⟩ := cv
                have sz : 1 ≤ tt.length ∧ 1 ≤ szT tt := by
                  rcases ok with ⟨v, rfl, _⟩ | ⟨x4, y4, rfl, _⟩
                  · exact ⟨Nat.le_refl 1, Int.le_refl 1⟩
                  · refine ⟨Nat.le_succ 1, ?_⟩
                    show 1 ≤ x4
                    omega
                wtm_at "oo"
                refine ⟨r, hv, tt, hs, pl, f, w, rfl, hr, by wtm_at "qo", by omega, p1, f0, ok, fun H10 M => ?_⟩
                have N3 := N2.c0 M
                have hr2 := Same.seqT M.same hr
                wtm_at "oo"
                refine ⟨r, tt, rfl, hr2, sz.1, ?_⟩
                rw [show (if tt.length = 1 then 1 else tt.getD 0 0) = szT tt from rfl]
                wtm_at "oo"
                omega
              · rintro σ H9 ⟨pl, y14, y15, y16, y17, y18, y19, rfl, N2, cv, p1⟩
                rw [List.drop_eq_nil_of_le (by omega)] at cv
                have cv : pl = frT at3 x3 y3 := cv
                subst cv
                wtm_at "oo"
                exact fin hs hv pp pdx h c dx d bb f at3 hh' x3 y3 kvs' e' tn _ _ _ _ _ _ H9 (N2.pick (by wtm_at "pk")) pb' I2 sc.2 (by omega) ht
            clear hks fin
            refine selE_d (fun u1 => ?_) (fun u1 => ?_)
            · rcases g2 with g2 | g2
              · rw [g2]
                wtm_at "oo"
                exact kt
              · cases decide (deed < 7)
                · wtm_at "oo"
                  rw [decide_eq_true g2]
                  exact kt
                · wtm_at "oo"
                  exact kt
            · exact absurd g1 u1
      · rintro σ H7 ⟨hs, hv, pp, pdx, h, c, dx, d, bb, f, at2, hh, x, y, kvs, e, tn, y12, y13, y14, y15, y16, y17, y18, y19, rfl, N, pb, I, J, hl, ht⟩
        wtm_at "oo"
        have hd := I.hd
        have hfr : f ≤ frT at2 x y ∧ frT at2 x y ≤ hs.length := by
          unfold frT
          rcases J with z | ⟨h1, z⟩
          · rw [if_pos z]
            exact ⟨I.fi, I.i1⟩
          · rcases z with ⟨v, e, _⟩ | ⟨x2, y2, e, a1, a2, a3, a4, a5, a6, a7⟩
            · cases e
            · cases e
              rw [if_neg (by omega)]
              omega
        have f0 := pb.f0
        refine ⟨pp, pdx, h, hh, c, at2, f, _, hs, rfl, by wtm_at "ho", by wtm_at "qo", f0, by omega, fun r H8 M => ?_⟩
        have N2 := N.c1 M
        wtm_at "oo"
        rename_i r2 H9 N3
        rw [cut_ii f0 (by omega), ints_drop, ints_take] at N3
        refine eqd_t (dq_lst (by wtm_at "qo")) (dq_lst (by wtm_at "qo")) ?_
        exact q _
    refine sel_d (fun c => ?_) (fun c => ?_)
    · wtm_at "oo"
      exact fin _ (by omega) (by omega)
    · wtm_at "oo"
      exact fin _ (by omega) (by omega)


end
end K52

namespace K52
open PySem PySem.Spec PyProof.Rows L2 Bel
def fa : List He.Fa := [.glo "_law_draws", .glo "_law_at", .glo "common_length", .glo "search", .glo "_are_same", .glo "_bucket", .glo "usable", .glo "run_at", .glo "_law_is_integer", .glo "_law_numbers", .glo "_law_size", .glo "_law_good", .glo "_law_forgets", .glo "_law_grown", .glo "law", .free "abs", .free "bool", .free "dict", .free "int", .free "isinstance", .free "len", .free "list", .free "max", .free "min", .free "range", .free "tuple", .glo "Chains", .cls "Chains", .noat "Chains" "_window", .noat "Chains" "_floor", .noat "Chains" "_latest", .noat "Chains" "_before", .glo "Parser", .cls "Parser", .noat "Parser" "_history", .noat "Parser" "_at", .noat "Parser" "_held", .noat "Parser" "_chains", .mkr "Chains", .meth "Chains" "enter", .meth "Chains" "nearest", .meth "Chains" "forget", .meth "Chains" "floor", .mkr "Parser", .meth "Parser" "extend", .meth "Parser" "at", .meth "Parser" "front", .meth "Parser" "end", .meth "Parser" "floor", .meth "Parser" "_emit", .meth "Parser" "_found", .meth "Parser" "_reaches_end", .meth "Parser" "_better", .meth "Parser" "_begin_to_wait", .meth "Parser" "_go_on_waiting", .meth "Parser" "step", .meth "Chains" "twin", .meth "Parser" "held", .meth "Parser" "forget", .meth "Parser" "part", .meth "Parser" "twin"]
def fn : List He.DefD := [⟨("_law_draws", none), "_law_draws", "_law_draws", defArgs s__law_draws, defBody s__law_draws, defScope s__law_draws, [], []⟩, ⟨("_law_at", none), "_law_at", "_law_at", defArgs s__law_at, defBody s__law_at, defScope s__law_at, [], []⟩, ⟨("common_length", none), "common_length", "common_length", defArgs s_common_length, defBody s_common_length, defScope s_common_length, [], []⟩, ⟨("search", none), "search", "search", defArgs s_search, defBody s_search, defScope s_search, [], []⟩, ⟨("_are_same", none), "_are_same", "_are_same", defArgs s__are_same, defBody s__are_same, defScope s__are_same, [], []⟩, ⟨("_bucket", none), "_bucket", "_bucket", defArgs s__bucket, defBody s__bucket, defScope s__bucket, [], []⟩, ⟨("usable", none), "usable", "usable", defArgs s_usable, defBody s_usable, defScope s_usable, [], []⟩, ⟨("run_at", none), "run_at", "run_at", defArgs s_run_at, defBody s_run_at, defScope s_run_at, [], []⟩, ⟨("_law_is_integer", none), "_law_is_integer", "_law_is_integer", defArgs s__law_is_integer, defBody s__law_is_integer, defScope s__law_is_integer, [], []⟩, ⟨("_law_numbers", none), "_law_numbers", "_law_numbers", defArgs s__law_numbers, defBody s__law_numbers, defScope s__law_numbers, [], []⟩, ⟨("_law_size", none), "_law_size", "_law_size", defArgs s__law_size, defBody s__law_size, defScope s__law_size, [], []⟩, ⟨("_law_good", none), "_law_good", "_law_good", defArgs s__law_good, defBody s__law_good, defScope s__law_good, [], []⟩, ⟨("_law_forgets", none), "_law_forgets", "_law_forgets", defArgs s__law_forgets, defBody s__law_forgets, defScope s__law_forgets, [], []⟩, ⟨("_law_grown", none), "_law_grown", "_law_grown", defArgs s__law_grown, defBody s__law_grown, defScope s__law_grown, [], []⟩, ⟨("law", none), "law", "law", defArgs s_law, defBody s_law, defScope s_law, [], []⟩, ⟨("Chains", some "__init__"), "__init__", "Chains.__init__", defArgs s_Chains___init__, defBody s_Chains___init__, defScope s_Chains___init__, [], []⟩, ⟨("Chains", some "enter"), "enter", "Chains.enter", defArgs s_Chains_enter, defBody s_Chains_enter, defScope s_Chains_enter, [], []⟩, ⟨("Chains", some "nearest"), "nearest", "Chains.nearest", defArgs s_Chains_nearest, defBody s_Chains_nearest, defScope s_Chains_nearest, [], []⟩, ⟨("Chains", some "forget"), "forget", "Chains.forget", defArgs s_Chains_forget, defBody s_Chains_forget, defScope s_Chains_forget, [], []⟩, ⟨("Chains", some "floor"), "floor", "Chains.floor", defArgs s_Chains_floor, defBody s_Chains_floor, defScope s_Chains_floor, [], []⟩, ⟨("Parser", some "__init__"), "__init__", "Parser.__init__", defArgs s_Parser___init__, defBody s_Parser___init__, defScope s_Parser___init__, [], []⟩, ⟨("Parser", some "extend"), "extend", "Parser.extend", defArgs s_Parser_extend, defBody s_Parser_extend, defScope s_Parser_extend, [], []⟩, ⟨("Parser", some "at"), "at", "Parser.at", defArgs s_Parser_at, defBody s_Parser_at, defScope s_Parser_at, [], []⟩, ⟨("Parser", some "front"), "front", "Parser.front", defArgs s_Parser_front, defBody s_Parser_front, defScope s_Parser_front, [], []⟩, ⟨("Parser", some "end"), "end", "Parser.end", defArgs s_Parser_end, defBody s_Parser_end, defScope s_Parser_end, [], []⟩, ⟨("Parser", some "floor"), "floor", "Parser.floor", defArgs s_Parser_floor, defBody s_Parser_floor, defScope s_Parser_floor, [], []⟩, ⟨("Parser", some "_emit"), "_emit", "Parser._emit", defArgs s_Parser__emit, defBody s_Parser__emit, defScope s_Parser__emit, [], []⟩, ⟨("Parser", some "_found"), "_found", "Parser._found", defArgs s_Parser__found, defBody s_Parser__found, defScope s_Parser__found, [], []⟩, ⟨("Parser", some "_reaches_end"), "_reaches_end", "Parser._reaches_end", defArgs s_Parser__reaches_end, defBody s_Parser__reaches_end, defScope s_Parser__reaches_end, [], []⟩, ⟨("Parser", some "_better"), "_better", "Parser._better", defArgs s_Parser__better, defBody s_Parser__better, defScope s_Parser__better, [], []⟩, ⟨("Parser", some "_begin_to_wait"), "_begin_to_wait", "Parser._begin_to_wait", defArgs s_Parser__begin_to_wait, defBody s_Parser__begin_to_wait, defScope s_Parser__begin_to_wait, [], []⟩, ⟨("Parser", some "_go_on_waiting"), "_go_on_waiting", "Parser._go_on_waiting", defArgs s_Parser__go_on_waiting, defBody s_Parser__go_on_waiting, defScope s_Parser__go_on_waiting, [], []⟩, ⟨("Parser", some "step"), "step", "Parser.step", defArgs s_Parser_step, defBody s_Parser_step, defScope s_Parser_step, [], []⟩, ⟨("Chains", some "twin"), "twin", "Chains.twin", defArgs s_Chains_twin, defBody s_Chains_twin, defScope s_Chains_twin, [], []⟩, ⟨("Parser", some "held"), "held", "Parser.held", defArgs s_Parser_held, defBody s_Parser_held, defScope s_Parser_held, [], []⟩, ⟨("Parser", some "forget"), "forget", "Parser.forget", defArgs s_Parser_forget, defBody s_Parser_forget, defScope s_Parser_forget, [], []⟩, ⟨("Parser", some "part"), "part", "Parser.part", defArgs s_Parser_part, defBody s_Parser_part, defScope s_Parser_part, [], []⟩, ⟨("Parser", some "twin"), "twin", "Parser.twin", defArgs s_Parser_twin, defBody s_Parser_twin, defScope s_Parser_twin, [], []⟩, ⟨("BellowsError", some "__init__"), "__init__", "BellowsError.__init__", defArgs s_BellowsError___init__, defBody s_BellowsError___init__, defScope s_BellowsError___init__, [], []⟩]
def ck (K : PySem.W.Frag) : List Bool := [exFB K "NotEntered", exFB K "Busy", decide (PySem.W.typeIn K (.ref (He.ma K (He.ga K "BellowsError") "__init__")) = some (.type "function")), cvB K "LEAST_LENGTH" (.int (3)), cvB K "MOST_LENGTH" (.int (258)), decide (PySem.W.nsIn K mainGlobals "NO_COPY_finder" = some (some (.ref (He.ga K "NO_COPY_finder")))), He.tupB K "NO_COPY_finder" ([.int (0), .int (0)] : List He.Dv), cvB K "_NO_PLACE" (.int (-1)), cvB K "_BUCKETS" (.int (4096)), cvB K "FILTERED" (.int (1)), cvB K "HUFFMAN" (.int (2)), cvB K "RUNS" (.int (3)), decide (PySem.W.nsIn K mainGlobals "NO_COPY_levels" = some (some (.ref (He.ga K "NO_COPY_levels")))), He.tupB K "NO_COPY_levels" ([.int (0), .int (0)] : List He.Dv), cvB K "_FARTHEST_OF_THREE" (.int (4096)), cvB K "_LEAST_FILTERED" (.int (6)), cvB K "_LOOK_AHEAD" (.int (320))]
def ex (K : PySem.W.Frag) : Bool := (ck K).all id
abbrev R : PySem.W.OpenRow := PySem.W.OpenLaw.row PySem.Challenge.rw_bellows_k52_parser_covers_the_history
abbrev hk : PySem.W.Hook := He.hookX 4 fa fn [] [] ex
def ob (s : PySem.W.SharedT) : He.AlX := He.obsX 4 fa fn [] [] ex (HandSHeadRun.getT s)
theorem ob_eq (s : PySem.W.SharedT) : ob s = hk.obs s.abs := He.obsX_eq (HandSHeadRun.getT_eq s)
def loose : List Str := (["BellowsError", "Busy", "Chains", "FILTERED", "HUFFMAN", "LEAST_LENGTH", "MOST_LENGTH", "NO_COPY_finder", "NO_COPY_levels", "NotEntered", "Parser", "RUNS", "_BUCKETS", "_FARTHEST_OF_THREE", "_LEAST_FILTERED", "_LOOK_AHEAD", "_NO_PLACE", "_are_same", "_bucket", "_law_at", "_law_draws", "_law_forgets", "_law_good", "_law_grown", "_law_is_integer", "_law_numbers", "_law_size", "common_length", "run_at", "search"] : List Str) ++ (["usable"] : List Str)
theorem run (w : World) : HandSHeadRun.RunEq R (PySem.W.view R.prog [35]) hk ob 6000 loose w := by
  intro os
  kernel_rfl
theorem tx_of {w : World} {K : PySem.W.Frag} {h : Heap} {mg : Str → Option Value} (X : K.In h) (G : h.Ns mainGlobals mg) (c : He.SaysX fa fn [] [] ex w h K) : Tx K mg := by
  have hf : ∀ {f : He.Fa}, f ∈ fa → f.ok K = true := fun m => He.SaysD.facts c.t.d m
  have hx : ∀ (i : Nat) {b : Bool}, (ck K)[i]? = some b → b = true := fun i b e => List.all_eq_true.mp c.more b (List.mem_of_getElem? e)
  exact ⟨He.free_ok X G (hf (List.mem_of_getElem? (i := 15) rfl)),
    He.free_ok X G (hf (List.mem_of_getElem? (i := 16) rfl)),
    He.free_ok X G (hf (List.mem_of_getElem? (i := 17) rfl)),
    He.free_ok X G (hf (List.mem_of_getElem? (i := 18) rfl)),
    He.free_ok X G (hf (List.mem_of_getElem? (i := 19) rfl)),
    He.free_ok X G (hf (List.mem_of_getElem? (i := 20) rfl)),
    He.free_ok X G (hf (List.mem_of_getElem? (i := 21) rfl)),
    He.free_ok X G (hf (List.mem_of_getElem? (i := 22) rfl)),
    He.free_ok X G (hf (List.mem_of_getElem? (i := 23) rfl)),
    He.free_ok X G (hf (List.mem_of_getElem? (i := 24) rfl)),
    He.free_ok X G (hf (List.mem_of_getElem? (i := 25) rfl)),
    cvB_ok X G (hx 3 rfl),
    cvB_ok X G (hx 4 rfl),
    ⟨_, PySem.W.mg_of X G (of_decide_eq_true (hx 5 rfl)), rfl⟩,
    fun H => He.tupB_ok (hx 6 rfl) H,
    cvB_ok X G (hx 7 rfl),
    cvB_ok X G (hx 8 rfl),
    cvB_ok X G (hx 9 rfl),
    cvB_ok X G (hx 10 rfl),
    cvB_ok X G (hx 11 rfl),
    ⟨_, PySem.W.mg_of X G (of_decide_eq_true (hx 12 rfl)), rfl⟩,
    fun H => He.tupB_ok (hx 13 rfl) H,
    cvB_ok X G (hx 14 rfl),
    cvB_ok X G (hx 15 rfl),
    cvB_ok X G (hx 16 rfl),
    exFB_ok X G (hx 0 rfl),
    exFB_ok X G (hx 1 rfl),
    He.glo_ok X G (hf (List.mem_of_getElem? (i := 26) rfl)),
    ⟨He.cls_ok (hf (List.mem_of_getElem? (i := 27) rfl)), fun f hm => match f, hm with | _, .head _ => He.noat_ok (hf (List.mem_of_getElem? (i := 28) rfl)) | _, .tail _ (.head _) => He.noat_ok (hf (List.mem_of_getElem? (i := 29) rfl)) | _, .tail _ (.tail _ (.head _)) => He.noat_ok (hf (List.mem_of_getElem? (i := 30) rfl)) | _, .tail _ (.tail _ (.tail _ (.head _))) => He.noat_ok (hf (List.mem_of_getElem? (i := 31) rfl))⟩,
    He.glo_ok X G (hf (List.mem_of_getElem? (i := 32) rfl)),
    ⟨He.cls_ok (hf (List.mem_of_getElem? (i := 33) rfl)), fun f hm => match f, hm with | _, .head _ => He.noat_ok (hf (List.mem_of_getElem? (i := 34) rfl)) | _, .tail _ (.head _) => He.noat_ok (hf (List.mem_of_getElem? (i := 35) rfl)) | _, .tail _ (.tail _ (.head _)) => He.noat_ok (hf (List.mem_of_getElem? (i := 36) rfl)) | _, .tail _ (.tail _ (.tail _ (.head _))) => He.noat_ok (hf (List.mem_of_getElem? (i := 37) rfl))⟩,
    ⟨He.glo_ok X G (hf (List.mem_of_getElem? (i := 0) rfl)), He.SaysD.defs c.t.d (d := fn[0]) (List.mem_of_getElem? (i := 0) rfl)⟩,
    ⟨He.glo_ok X G (hf (List.mem_of_getElem? (i := 1) rfl)), He.SaysD.defs c.t.d (d := fn[1]) (List.mem_of_getElem? (i := 1) rfl)⟩,
    ⟨He.glo_ok X G (hf (List.mem_of_getElem? (i := 2) rfl)), He.SaysD.defs c.t.d (d := fn[2]) (List.mem_of_getElem? (i := 2) rfl)⟩,
    ⟨He.glo_ok X G (hf (List.mem_of_getElem? (i := 3) rfl)), He.SaysD.defs c.t.d (d := fn[3]) (List.mem_of_getElem? (i := 3) rfl)⟩,
    ⟨He.glo_ok X G (hf (List.mem_of_getElem? (i := 4) rfl)), He.SaysD.defs c.t.d (d := fn[4]) (List.mem_of_getElem? (i := 4) rfl)⟩,
    ⟨He.glo_ok X G (hf (List.mem_of_getElem? (i := 5) rfl)), He.SaysD.defs c.t.d (d := fn[5]) (List.mem_of_getElem? (i := 5) rfl)⟩,
    He.SaysD.defs c.t.d (d := fn[15]) (List.mem_of_getElem? (i := 15) rfl),
    He.mkr_ok (hf (List.mem_of_getElem? (i := 38) rfl)),
    He.SaysD.defs c.t.d (d := fn[16]) (List.mem_of_getElem? (i := 16) rfl),
    He.meth_ok (hf (List.mem_of_getElem? (i := 39) rfl)),
    He.SaysD.defs c.t.d (d := fn[17]) (List.mem_of_getElem? (i := 17) rfl),
    He.meth_ok (hf (List.mem_of_getElem? (i := 40) rfl)),
    He.SaysD.defs c.t.d (d := fn[18]) (List.mem_of_getElem? (i := 18) rfl),
    He.meth_ok (hf (List.mem_of_getElem? (i := 41) rfl)),
    He.SaysD.defs c.t.d (d := fn[19]) (List.mem_of_getElem? (i := 19) rfl),
    He.meth_ok (hf (List.mem_of_getElem? (i := 42) rfl)),
    ⟨He.glo_ok X G (hf (List.mem_of_getElem? (i := 6) rfl)), He.SaysD.defs c.t.d (d := fn[6]) (List.mem_of_getElem? (i := 6) rfl)⟩,
    ⟨He.glo_ok X G (hf (List.mem_of_getElem? (i := 7) rfl)), He.SaysD.defs c.t.d (d := fn[7]) (List.mem_of_getElem? (i := 7) rfl)⟩,
    He.SaysD.defs c.t.d (d := fn[20]) (List.mem_of_getElem? (i := 20) rfl),
    He.mkr_ok (hf (List.mem_of_getElem? (i := 43) rfl)),
    He.SaysD.defs c.t.d (d := fn[21]) (List.mem_of_getElem? (i := 21) rfl),
    He.meth_ok (hf (List.mem_of_getElem? (i := 44) rfl)),
    He.SaysD.defs c.t.d (d := fn[22]) (List.mem_of_getElem? (i := 22) rfl),
    He.meth_ok (hf (List.mem_of_getElem? (i := 45) rfl)),
    He.SaysD.defs c.t.d (d := fn[23]) (List.mem_of_getElem? (i := 23) rfl),
    He.meth_ok (hf (List.mem_of_getElem? (i := 46) rfl)),
    He.SaysD.defs c.t.d (d := fn[24]) (List.mem_of_getElem? (i := 24) rfl),
    He.meth_ok (hf (List.mem_of_getElem? (i := 47) rfl)),
    He.SaysD.defs c.t.d (d := fn[25]) (List.mem_of_getElem? (i := 25) rfl),
    He.meth_ok (hf (List.mem_of_getElem? (i := 48) rfl)),
    He.SaysD.defs c.t.d (d := fn[26]) (List.mem_of_getElem? (i := 26) rfl),
    He.meth_ok (hf (List.mem_of_getElem? (i := 49) rfl)),
    He.SaysD.defs c.t.d (d := fn[27]) (List.mem_of_getElem? (i := 27) rfl),
    He.meth_ok (hf (List.mem_of_getElem? (i := 50) rfl)),
    He.SaysD.defs c.t.d (d := fn[28]) (List.mem_of_getElem? (i := 28) rfl),
    He.meth_ok (hf (List.mem_of_getElem? (i := 51) rfl)),
    He.SaysD.defs c.t.d (d := fn[29]) (List.mem_of_getElem? (i := 29) rfl),
    He.meth_ok (hf (List.mem_of_getElem? (i := 52) rfl)),
    He.SaysD.defs c.t.d (d := fn[30]) (List.mem_of_getElem? (i := 30) rfl),
    He.meth_ok (hf (List.mem_of_getElem? (i := 53) rfl)),
    He.SaysD.defs c.t.d (d := fn[31]) (List.mem_of_getElem? (i := 31) rfl),
    He.meth_ok (hf (List.mem_of_getElem? (i := 54) rfl)),
    He.SaysD.defs c.t.d (d := fn[32]) (List.mem_of_getElem? (i := 32) rfl),
    He.meth_ok (hf (List.mem_of_getElem? (i := 55) rfl)),
    He.SaysD.defs c.t.d (d := fn[33]) (List.mem_of_getElem? (i := 33) rfl),
    He.meth_ok (hf (List.mem_of_getElem? (i := 56) rfl)),
    He.SaysD.defs c.t.d (d := fn[34]) (List.mem_of_getElem? (i := 34) rfl),
    He.meth_ok (hf (List.mem_of_getElem? (i := 57) rfl)),
    He.SaysD.defs c.t.d (d := fn[35]) (List.mem_of_getElem? (i := 35) rfl),
    He.meth_ok (hf (List.mem_of_getElem? (i := 58) rfl)),
    He.SaysD.defs c.t.d (d := fn[36]) (List.mem_of_getElem? (i := 36) rfl),
    He.meth_ok (hf (List.mem_of_getElem? (i := 59) rfl)),
    He.SaysD.defs c.t.d (d := fn[37]) (List.mem_of_getElem? (i := 37) rfl),
    He.meth_ok (hf (List.mem_of_getElem? (i := 60) rfl)),
    ⟨He.glo_ok X G (hf (List.mem_of_getElem? (i := 8) rfl)), He.SaysD.defs c.t.d (d := fn[8]) (List.mem_of_getElem? (i := 8) rfl)⟩,
    ⟨He.glo_ok X G (hf (List.mem_of_getElem? (i := 9) rfl)), He.SaysD.defs c.t.d (d := fn[9]) (List.mem_of_getElem? (i := 9) rfl)⟩,
    ⟨He.glo_ok X G (hf (List.mem_of_getElem? (i := 10) rfl)), He.SaysD.defs c.t.d (d := fn[10]) (List.mem_of_getElem? (i := 10) rfl)⟩,
    ⟨He.glo_ok X G (hf (List.mem_of_getElem? (i := 11) rfl)), He.SaysD.defs c.t.d (d := fn[11]) (List.mem_of_getElem? (i := 11) rfl)⟩,
    ⟨He.glo_ok X G (hf (List.mem_of_getElem? (i := 12) rfl)), He.SaysD.defs c.t.d (d := fn[12]) (List.mem_of_getElem? (i := 12) rfl)⟩,
    ⟨He.glo_ok X G (hf (List.mem_of_getElem? (i := 13) rfl)), He.SaysD.defs c.t.d (d := fn[13]) (List.mem_of_getElem? (i := 13) rfl)⟩,
    ⟨He.glo_ok X G (hf (List.mem_of_getElem? (i := 14) rfl)), He.SaysD.defs c.t.d (d := fn[14]) (List.mem_of_getElem? (i := 14) rfl)⟩,
    ⟨of_decide_eq_true (hx 2 rfl), He.SaysD.defs c.t.d (d := fn[38]) (List.mem_of_getElem? (i := 38) rfl)⟩⟩
theorem last {l : PySem.W.OpenLaw} {w : World} {K : PySem.W.Frag} {h : Heap} {mg : Str → Option Value} {fa : Addr} (T : Tx K mg) (KX : K.In h) (hmg : mg "law" = some (.ref fa)) :
    ∃ (K : PySem.W.Frag) (fd : FuncData) (sp : Sp), K.In h ∧ (∀ (s : Shared) (u : Value), BindsTo s fd ⟨[u], []⟩ [("script", u)]) ∧
        (∀ (H : Hp) (a : Addr) (ns : List Int), ns.length ≤ 63 → Only H → SqL K H a (ns.map V.int) → sp [.ref a] H (fun v _ => v = .bl true) fun _ _ _ => False) ∧
        ∀ base : Heap, K.In base → base.Ns mainGlobals mg → FnOk l.prog w K mg base CX0 8 fa fd ["script"] sp := by
  obtain ⟨gm, fd, F⟩ := T.d_law
  have e := hmg.symm.trans gm
  cases e
  have b := FunD.bindsA (ps := ["script"]) F fun _ _ _ _ _ _ us hl => match us, hl with | [_], _ => rfl
  exact ⟨K, fd, sp_law K, KX, fun s u => b s [u] rfl, fun H a ns hl _ hS => ⟨a, ns, rfl, hS, hl, fun _ => rfl⟩, fun base _ _ => toCX0 (okf_law T F) fun _ _ _ _ z => z⟩
end K52

open PySem PySem.W PySem.Calls PyProof.Rows
set_option maxHeartbeats 0 in
theorem PySem.Challenge.cw_bellows_k52_parser_covers_the_history_holds : PySem.Challenge.rw_bellows_k52_parser_covers_the_history.Holds := by
  w_on; o_law
  refine HandSHeadRun.head_any (r := OpenLaw.row PySem.Challenge.rw_bellows_k52_parser_covers_the_history) (q := view (OpenLaw.row PySem.Challenge.rw_bellows_k52_parser_covers_the_history).prog [35]) (H := K52.hk) (ob := K52.ob) (M := 6000) (loose := K52.loose) (d := HandSHeadRun.topDef (OpenLaw.row PySem.Challenge.rw_bellows_k52_parser_covers_the_history).prog 35) (kwd := []) K52.ob_eq
    (by kernel_rfl) (fun s => by kernel_rfl) K52.run (by kernel_rfl) (by kernel_rfl) (by kernel_rfl) (by rfl) (by first | assumption | decide +kernel) (by decide +kernel) ⟨rfl, rfl, rfl, rfl, rfl, by decide +kernel⟩ ?hw ?hc
  case hw => w_witness2
  case hc =>
    refine L2.walk_ofE (l := PySem.Challenge.rw_bellows_k52_parser_covers_the_history) (n := 63) (k := 8) (x := "script") (CX := L2.CX0) rfl (by decide) (by kernel_rfl) ⟨rfl, by decide, by decide⟩ ?F (fun _ _ _ _ z => z)
    intro w mg fa h Y G hmg0
    obtain ⟨K, KX, c⟩ := Y
    have hmg : mg ("law" : PySem.Str) = some (.ref fa) := by
      have e : (HandSHeadRun.topDef (OpenLaw.row PySem.Challenge.rw_bellows_k52_parser_covers_the_history).prog 35).name = ("law" : PySem.Str) := by kernel_rfl
      rw [← e]
      exact hmg0
    have T := K52.tx_of KX G c
    exact K52.last T KX hmg
