import PyProof.Rows.All
import Wide.All
import OpenK.AllK
import Wide.FinOn
import HandS.ForMost
import HandS.ForExc
import HandS.ExcInit
import HandS.ExcField
import HandS.IsInst
import HandS.Defaults
import HandS.Head0
import HandS.Head1
import HandS.Head2
import HandS.HeadEnd
import HandS.HeadHook4
import HandS.WideBits
import HandS.SetFor
import HandS.ExcCtx
import HandS.HotCalls
import HandS.ExcInitHot
import HandS.RevRange
import HandS.Lambda
import HandS.TryOnly
import HandS.ExcIs
import HandS.Style
import HandS.More
import KE.SortKeyHeap
import KE.KLam
import HandS.EndTab
import HandS.SortKw
import HandS.HeadWalk
import PySem.Challenge.RW_bellows_k13_shortest_of_few
set_option Elab.async false
set_option linter.all false
set_option maxRecDepth 100000
set_option maxHeartbeats 4000000
namespace Bel
open PySem PySem.Spec PyProof.Rows L2
theorem passN {X : Cx} : Passes (L2N.CX X.prog X.w) X E0 := fun _ _ _ _ _ _ _ z => by
  obtain ⟨_, _, _, _, _, _, _, _, _, _, _, _, no⟩ := z
  cases no
theorem takes0N {X : Cx} : L2N.Takes X (fun _ _ _ _ => False) := fun _ _ z => by
  obtain ⟨_, _, _, _, _, _, _, _, _, _, _, _, _, _, _, _, no⟩ := z
  cases no
section
variable {X : Cx} {es : List Expr} {e : Expr} {ta : TA} {p pos : Pos}
/-- an own exception made by its __init__: its context is None -/
theorem made_n {CX : CXT} {x : Str} {C fI : Addr} {k : Nat} {fd : FuncData} {ps : List Str} {sp : Sp} {ds : List Value} {dvs : List V}
    (T : OexC X.K C)
    (ini : PySem.W.findIn X.K (.ref C) "__init__" = some (some (.ref fI)))
    (isf : PySem.W.typeIn X.K (.ref fI) = some (.type "function"))
    (pr : FnOk X.prog X.w X.K X.mg X.base CX k fI fd ps sp)
    (room : Room (k + 1) X.A) (bnd : Binds X.K fd ps ds) (dv : Vals dvs ds)
    (out : Passes CX X (fun _ _ _ => False)) (hg : Gl X x) (hm : X.mg x = some (.ref C)) (ha : PA X (e :: es) ta)
    (hdb : (x == ("__debug__" : Str)) = false)
    (h1 : starEach (e :: es) X.env = (false, eval e X.env) :: starEach es X.env)
    (h2 : (backTo pos (starEach es X.env)).any (·.1) = false) :
    L2N.PMk X (.Call (.Name x p) (e :: es) [] pos) (tMkO C sp dvs ta) := by
  intro pn st σ H Q hin want
  obtain ⟨_, _, _, _, m, _, _, _, _, _, _, _, _, _, _, cl, mref⟩ := T.cls
  refine wpAny_Call_Name_kw (ld_glob hin hg hm ?_ hdb)
  refine PySem.W.callWith_K (h₀ := X.base)
    hin.ok.mod.kin T.kC (thn (ha.run pos pn st σ H _ hin want) fun us s1 got => ?_) h1 h2
  obtain ⟨vs, G, in1, rel, small, start⟩ := got
  refine ⟨in1.kIn, ?_⟩
  show wpAny _ _ (call (.ref C) us) _ _ _
  obtain ⟨hp, g, dr, tk, os⟩ := s1
  let N := hp.objs.size
  have up : N ≤ N + 1 := Nat.le_succ _
  have go := start (N + 1) (in1.hok.fresh up)
  let h' := (hp.push (PySem.W.kdv_tup us)).push (PySem.HandSPX.excO C N)
  have keep : ∀ b o, hp.get? b = some o → h'.get? b = some o := fun b o z =>
    Heap.get?_push_of_some _ (Heap.get?_push_of_some _ z)
  have there : h'.get? (N + 1) = some (PySem.HandSPX.excO C N) := by
    show ((hp.push (PySem.W.kdv_tup us)).push (PySem.HandSPX.excO C hp.objs.size)).get? (hp.objs.size + 1) = _
    heap_get
  have in2 : Inv X pn σ (upd G (N + 1) (exo (N + 1) C none)) ⟨h', g, dr, tk, os⟩ :=
    in1.laid (t' := tk) (a := N + 1) (o := exo (N + 1) C none) (h' := h') keep up (exo_ok there)
  have all : Vals (V.ref (N + 1) :: (vs ++ dvs)) (Value.ref (N + 1) :: (us ++ ds)) :=
    .cons rfl (rel.append dv)
  have size : (Value.ref (N + 1) :: us ++ ds).length = ps.length :=
    all.length.symm.trans (pr.len _ _ _ _ go)
  have few : us.length ≤ sizeLine := by
    rw [← Paired.length rel, sizeLine_eq]
    omega
  have body := pr.run _ X.stack _ _ ⟨Value.ref (N + 1) :: us, []⟩
    (Value.ref (N + 1) :: (us ++ ds)) _ _ (fun _ _ _ => False)
    (room.make C us []) (in2.env0.make C us [])
    (bnd _ (Value.ref (N + 1) :: us) in2.kIn size) all go
  refine wpAny_call (PySem.HandSPX.call_own PySem.F.excBase_ValueError
    (fun Y => PySem.HandSPX.refsVE_contains Y m mref) (in1.kIn _ _ cl)
    (PySem.W.looks_findIn in1.kIn ini) (fun self => PySem.W.bind_fn in1.kIn self isf) few
    (codeAny_mono body fun r s' fin => ?_))
  rcases r with er | fl
  · exact out pn σ _ _ er s' in2 fin
  · cases fl with
    | ret u =>
      obtain ⟨v, H2, os2, bare2, un2, hok2, rv, ev, d, fs, ea, ed, fresh, q2⟩ := fin
      subst ev
      obtain ⟨w2, g2, d2, t2, os'⟩ := s'
      obtain ⟨t0, B, J, kB, gone, obj, na⟩ :=
        mk_end0 (d2 := d2) (t2 := t2) in1 up keep un2 hok2 os2 bare2 ea ed fresh
      have ctx : PySem.PXN.CtxN ({ cls := .ref C, dict := some d, data := .fields #[.ref t0, .none, .none, .none, .bool false, .none] } : Obj) := fun vs z => by
        cases z
        rfl
      exact ⟨rv, N + 1, _, _, ⟨B, g2, d2, t2, os'⟩, _, .ref C, some d, rfl, J, kB, gone, obj,
        ⟨rfl, rfl, ctx⟩, rfl, rfl, na, rfl, bare2, raises_own T.exC T.tyC, q2⟩
    | next => exact fin.elim
    | brk => exact fin.elim
    | cont => exact fin.elim
end
/-! ### defs by name -/
structure Cl (P : Program) (w : World) (K : PySem.W.Frag) (mg : Str → Option Value) (base : Heap) (k : Nat) (x : Str) (ps : List Str) (sp : Sp) (dvs : List V) : Prop where
  ex : ∃ (f : Addr) (fd : FuncData) (ds : List Value), FnOk P w K mg base (L2N.CX P w) k f fd ps sp ∧ mg x = some (.ref f) ∧ PySem.W.keepIn K (.ref f) = true ∧ Binds K fd ps ds ∧ Vals dvs ds
section
variable {X : Cx} {k : Nat} {x : Str} {ps : List Str} {sp : Sp} {dvs : List V} {p pos : Pos} {e : Expr} {es : List Expr} {t : TA} {W : WX}
theorem pe_cl (c : Cl X.prog X.w X.K X.mg X.base k x ps sp dvs) (hr : Room k X.A) (hg : Gl X x) (ha : PA X (e :: es) t)
    (hdb : (x == ("__debug__" : Str)) = false := by decide) (he : starEach (e :: es) X.env = (false, eval e X.env) :: starEach es X.env := by rfl) (hpl : (backTo pos (starEach es X.env)).any (·.1) = false := by rfl) :
    PE X (.Call (.Name x p) (e :: es) [] pos) (tCall sp dvs E0 t) := by
  obtain ⟨f, fd, ds, F, hm, hk, hb, hd⟩ := c.ex
  exact pe_call F hr hg hm hk hb hd passN ha hdb he hpl
theorem pe_cl0 (c : Cl X.prog X.w X.K X.mg X.base k x ps sp dvs) (hr : Room k X.A) (hg : Gl X x)
    (hdb : (x == ("__debug__" : Str)) = false := by decide) :
    PE X (.Call (.Name x p) [] [] pos) (tCall sp dvs E0 tNil) := by
  obtain ⟨f, fd, ds, F, hm, hk, hb, hd⟩ := c.ex
  exact pe_call0 F hr hg hm hk hb hd passN hdb
theorem run_fnD {f : Addr} {fd : FuncData} {dl : List Value} {Ex : XK} {pn : List (Addr × Obj)} {st : L2.St} {Hs : Hp} {sh : Shared} {Qv : VK} {args : List Value} {av : List V} (hr : Room k X.A) (hin : Inv X pn st Hs sh) (rel : Vals av args) (hd : Vals dvs dl)
    (ok : FnOk X.prog X.w X.K X.mg X.base (L2N.CX X.prog X.w) k f fd ps sp) (bnd : Binds X.K fd ps dl) (out : PassesAt (L2N.CX X.prog X.w) X st Ex)
    (pr : sp (av ++ dvs) Hs Qv Ex) : wpAny (model X.prog X.w) X.A (call (.ref f) args) (EP X pn st Qv) X.xe sh := by
  have all := rel.append hd
  have size : (args ++ dl).length = ps.length := by
    rw [← all.length]
    exact ok.len _ _ _ _ pr
  refine wpAny_call (codeAny_mono (ok.run X.A X.stack sh Hs ⟨args, []⟩ (args ++ dl) (av ++ dvs) Qv Ex hr hin.env0 (bnd sh args hin.kIn size) all pr) fun res sh2 fin => ?_)
  rcases res with er | fl
  · exact out pn Hs sh er sh2 hin fin
  · cases fl with
    | ret u => exact hin.after fin
    | next => exact fin.elim
    | brk => exact fin.elim
    | cont => exact fin.elim
/-- a call whose exceptions the body takes by W -/
def tClS (sp : Sp) (dvs : List V) (W : WX) (t : TA) : TE := fun σ H Q => t σ H fun vs H1 => sp (vs ++ dvs) H1 Q (WE W σ)
theorem pe_clS
    (c : Cl X.prog X.w X.K X.mg X.base k x ps sp dvs) (hr : Room k X.A) (hg : Gl X x) (tk : L2N.Takes X W) (ha : PA X (e :: es) t)
    (hdb : (x == ("__debug__" : Str)) = false := by decide) (he : starEach (e :: es) X.env = (false, eval e X.env) :: starEach es X.env := by rfl) (hpl : (backTo pos (starEach es X.env)).any (·.1) = false := by rfl) :
    PE X (.Call (.Name x p) (e :: es) [] pos) (tClS sp dvs W t) := by
  obtain ⟨f, fd, dl, ok, gm, kept, bnd, hd⟩ := c.ex
  refine ⟨fun pn sh st Hs Qv hin hq => wpAny_Call_Name_kw (ld_glob hin hg gm ?_ hdb)⟩
  refine PySem.W.callWith_K (h₀ := X.base) hin.ok.mod.kin kept (thn (ha.run pos pn sh st Hs _ hin hq) fun args sh1 ⟨av, H1, in1, rel, pr⟩ => ⟨in1.kIn, ?_⟩) he hpl
  exact run_fnD hr in1 rel hd ok bnd (L2N.passAt tk st) pr
end
theorem pe_gc {X : Cx} {x : Str} {pos : Pos} {v : V} (hg : Gl X x) (h : ∃ u, X.mg x = some u ∧ RelV v u) (hd : (x == ("__debug__" : Str)) = false := by decide) : PE X (.Name x pos) (tC v) := by
  obtain ⟨u, hm, r⟩ := h
  exact pe_glob hg hm r hd
theorem toCX0 {P : Program} {w : World} {K : PySem.W.Frag} {mg : Str → Option Value} {base : Heap} {k : Nat} {f : Addr} {fd : FuncData} {ps : List Str} {sp : Sp} (F : FnOk P w K mg base (L2N.CX P w) k f fd ps sp) (h : ∀ vs H Q E, sp vs H Q E → sp vs H Q E0) : FnOk P w K mg base CX0 k f fd ps sp := by
  refine ⟨F.len, fun A outer s H args us vs Q E hr e0 hb r hs => codeAny_mono (F.run A outer s H args us vs Q E0 hr e0 hb r (h _ _ _ _ hs)) fun r s' hq => ?_⟩
  cases r with
  | error e =>
    obtain ⟨_, _, _, _, _, _, _, _, _, _, _, _, z⟩ := hq
    exact z
  | ok fl => cases fl <;> exact hq
/-! ### own exceptions with the one attribute at -/
open He in
structure ExF (K : PySem.W.Frag) (mg : Str → Option Value) (x : Str) : Prop where
  g : mg x = some (.ref (ga K x))
  oex : OexC K (ga K x)
  iC : PySem.W.findIn K (.ref (ga K x)) "__init__" = some (some (.ref (ma K (ga K "BellowsError") "__init__")))
  noat : PySem.W.findIn K (.ref (ga K x)) "at" = some none
  xf : XfC K (ga K x)
  te : PySem.W.exmOne K (.ref (ga K x)) (.ref (ga K x)) = some true
open He in
def oexB (K : PySem.W.Frag) (C : Addr) : Bool := (match K.lookup C with
  | some ⟨.type "type", _, .cls data, slots⟩ => (match data.mro, slots.toList with
    | .ref C' :: line, [_, _, _, _, some (.builtin n), _] => decide (C' = C) && (decide (n = "ValueError.__new__") && (!data.hasDel && (data.hasDict && PySem.HandSPX.refsVE line)))
    | _, _ => false)
  | _ => false) && (decide (PySem.W.findIn K (.ref C) "__setattr__" = some (some (.builtin "object.__setattr__"))) && (decide (PySem.W.subIn K (.ref C) (.type "BaseException") = some true) && (decide (PySem.W.typeIn K (.ref C) = some (.type "type")) && PySem.W.keepIn K (.ref C))))
theorem ba {x y : Bool} (e : (x && y) = true) : x = true ∧ y = true := by
  cases x <;> cases y <;> first | exact ⟨rfl, rfl⟩ | cases e
theorem oexB_ok {K : PySem.W.Frag} {C : Addr} (h : oexB K C = true) : OexC K C := by
  obtain ⟨q, h⟩ := ba h
  obtain ⟨h2, h⟩ := ba h
  obtain ⟨h3, h⟩ := ba h
  obtain ⟨h4, h5⟩ := ba h
  refine ⟨?_, of_decide_eq_true h2, of_decide_eq_true h3, of_decide_eq_true h4, h5⟩
  split at q
  · rename_i own data slots there
    split at q
    · rename_i C2 line z0 z1 z2 z3 n z5 em es
      simp only [Bool.and_eq_true, decide_eq_true_eq, Bool.not_eq_true'] at q
      obtain ⟨rfl, rfl, nodel, dict, tail⟩ := q
      obtain ⟨nm, bases, mro, ns, qn, hdict, sn, subs, abs, coll, del⟩ := data
      dsimp only at em nodel dict
      subst em nodel dict
      have e6 : slots = #[z0, z1, z2, z3, some (.builtin "ValueError.__new__"), z5] := by
        cases slots with
        | mk l =>
          simp only at es
          rw [es]
      subst e6
      exact ⟨_, _, _, _, _, _, _, _, _, _, _, _, _, _, _, there, tail⟩
    · cases q
  · cases q
open He in
def exFB (K : PySem.W.Frag) (x : Str) : Bool := decide (PySem.W.nsIn K mainGlobals x = some (some (.ref (ga K x)))) && (oexB K (ga K x) && (decide (PySem.W.findIn K (.ref (ga K x)) "__init__" = some (some (.ref (ma K (ga K "BellowsError") "__init__")))) && (decide (PySem.W.findIn K (.ref (ga K x)) "at" = some none) && (xfB K (ga K x) && decide (PySem.W.exmOne K (.ref (ga K x)) (.ref (ga K x)) = some true)))))
theorem exFB_ok {K : PySem.W.Frag} {h : Heap} {mg : Str → Option Value} {x : Str} (X : K.In h) (G : h.Ns mainGlobals mg) (c : exFB K x = true) : ExF K mg x := by
  obtain ⟨h1, c⟩ := ba c
  obtain ⟨h2, c⟩ := ba c
  obtain ⟨h3, c⟩ := ba c
  obtain ⟨h4, c⟩ := ba c
  obtain ⟨h5, h6⟩ := ba c
  exact ⟨PySem.W.mg_of X G (of_decide_eq_true h1), oexB_ok h2, of_decide_eq_true h3, of_decide_eq_true h4, xfB_ok h5, of_decide_eq_true h6⟩
def cvB (K : PySem.W.Frag) (x : Str) (v : V) : Bool := match PySem.W.nsIn K mainGlobals x with
  | some (some u) => He.relB v u
  | _ => false
theorem cvB_ok {K : PySem.W.Frag} {h : Heap} {mg : Str → Option Value} {x : Str} {v : V} (X : K.In h) (G : h.Ns mainGlobals mg) (c : cvB K x v = true) : ∃ u, mg x = some u ∧ RelV v u := by
  unfold cvB at c
  split at c
  · rename_i u e
    exact ⟨u, PySem.W.mg_of X G e, He.relB_ok c⟩
  · cases c
/-- BellowsError.__init__ -/
def spInit (K : PySem.W.Frag) : Sp := fun vs H Q _ => ∃ (a C : Addr) (v : V), vs = [.ref a, v] ∧ OexC K C ∧ PySem.W.findIn K (.ref C) "at" = some none ∧ H a = some (exo a C none) ∧
  ∀ dx, H dx = none → dx ≠ a → Q .non (upd (upd H dx (exd dx [("at", v)])) a (exo a C (some dx)))
structure InitOk (P : Program) (w : World) (K : PySem.W.Frag) (mg : Str → Option Value) (base : Heap) : Prop where
  ex : ∃ fd, FnOk P w K mg base (L2N.CX P w) 1 (He.ma K (He.ga K "BellowsError") "__init__") fd ["self", "at"] (spInit K) ∧ Binds K fd ["self", "at"] [] ∧ PySem.W.typeIn K (.ref (He.ma K (He.ga K "BellowsError") "__init__")) = some (.type "function")
/-- raise X(e) -/
def Bz (K : PySem.W.Frag) (C : Addr) (W : WX) (σ : L2.St) (vs : List V) (H1 : Hp) : Prop := vs.length ≤ 1000 ∧ ∀ a, H1 a = none → spInit K (.ref a :: (vs ++ [])) (upd H1 a (exo a C none))
  (fun v H2 => v = .non ∧ ∃ (d : Addr) (fs : List (Str × V)), H2 a = some (exo a C (some d)) ∧ H2 d = some (exd d fs) ∧ H1 d = none ∧ W (.ref C) (some d) σ (upd (del H2 a) d (.xd fs))) (fun _ _ _ => False)
def tRz (K : PySem.W.Frag) (C : Addr) (W : WX) (ta : TA) : TS := fun _ σ H => ta σ H fun vs H1 => Bz K C W σ vs H1
theorem bz {K : PySem.W.Frag} {mg : Str → Option Value} {x : Str} {W : WX} {σ : L2.St} {v : V} {H : Hp} (T : ExF K mg x) (h : ∀ d, H d = none → W (.ref (He.ga K x)) (some d) σ (upd H d (.xd [("at", v)]))) : Bz K (He.ga K x) W σ [v] H := by
  refine ⟨(by show 1 ≤ 1000; decide), fun a ha => ⟨a, He.ga K x, v, rfl, T.oex, T.noat, upd_same, fun dx hdx hne => ⟨rfl, dx, [("at", v)], upd_same, ?_, ?_, ?_⟩⟩⟩
  · rw [upd_ne hne, upd_same]
  · rw [upd_ne hne] at hdx
    exact hdx
  · rw [upd_ne hne] at hdx
    have e : upd (del (upd (upd (upd H a (exo a (He.ga K x) none)) dx (exd dx [("at", v)])) a (exo a (He.ga K x) (some dx))) a) dx (.xd [("at", v)]) = upd H dx (.xd [("at", v)]) := by
      funext b
      by_cases hb : b = dx
      · rw [hb, upd_same, upd_same]
      · rw [upd_ne hb, upd_ne hb]
        by_cases hc : b = a
        · rw [hc, del_same, ha]
        · rw [del_ne hc, upd_ne hc, upd_ne hb, upd_ne hc]
    rw [e]
    exact h dx hdx
theorem ps_raiseB {X : Cx} {x : Str} {p pos pos2 : Pos} {e : Expr} {te : TA} {W : WX} (T : ExF X.K X.mg x) (I : InitOk X.prog X.w X.K X.mg X.base) (hr : Room 2 X.A) (tk : L2N.Takes X W) (he : PA X [e] te) (hc : X.calm = true := by rfl) (hg : Gl X x := by rfl)
    (hdb : (x == ("__debug__" : Str)) = false := by decide) (hst : starEach (e :: []) X.env = (false, eval e X.env) :: starEach [] X.env := by rfl) (hpl : (backTo pos (starEach [] X.env)).any (·.1) = false := by rfl) :
    PS X (.Raise (some (.Call (.Name x p) [e] [] pos)) none pos2) (tRz X.K (He.ga X.K x) W te) := by
  obtain ⟨fd, F, b, ti⟩ := I.ex
  exact L2N.ps_raise hc tk (made_n (dvs := []) (ds := []) (CX := L2N.CX X.prog X.w) T.oex T.iC ti F hr b .nil passN hg T.g he hdb hst hpl)
/-- e.at in a suite -/
theorem pe_xfB {X : Cx} {a : Addr} {oe : Obj} {cls : Value} {d : Option Addr} {pn : List (Addr × Obj)} {e : Expr} {te : TE} {pos : Pos} {x : Str} (T : ExF X.K X.mg x)
    (hz : L2N.Zn cls d oe) (hf : ∃ vs, oe.data = .fields vs) (he : PE (X.suite a ((a, oe) :: pn)) e te) (hb : attributeBase e "at" X.env (eval e X.env) = eval e X.env := by rfl) :
    PE (X.suite a ((a, oe) :: pn)) (.Attribute e "at" pos) (tXf a cls d (He.ga X.K x) "at" te) := pe_xf T.xf T.noat hz.zc hf he hb
/-! ### try with several clauses, each with a name -/
abbrev Cls3 := Value × Nat × (Addr → Value → Option Addr → TS)
abbrev freed (D : Ends) (i : Nat) : Ends := ⟨fun s h => D.nx (s.set i none) h, D.rt, fun s h => D.bk (s.set i none) h, fun s h => D.ct (s.set i none) h⟩
def wManyB (K : PySem.W.Frag) (Wout : WX) (D : Ends) : List Cls3 → WX
  | [] => Wout
  | (c, i, ts) :: more => fun cls d st Hs => ∃ yes, PySem.W.exmOne K cls c = some yes ∧
      (yes = true → ∀ a, Hs a = none → ts a cls d (freed D i) (st.set i (some (.ref a))) Hs) ∧ (yes = false → wManyB K Wout D more cls d st Hs)
inductive HdsB (X : Cx) : List ExceptHandler → List Cls3 → Prop
  | nil : HdsB X [] []
  | cons {x n : Str} {c : Value} {i : Nat} {ts : Addr → Value → Option Addr → TS} {s0 : Stmt} {suite : List Stmt} {p1 p2 : Pos} {hds : List ExceptHandler} {l : List Cls3}
      (at_ : X.N[i]? = some n) (own : X.env.kindOf n = some .local) (nm : Names X x c)
      (run : ∀ (a : Addr) (oe : Obj) (cls : Value) (d : Option Addr) (pn : List (Addr × Obj)), L2N.Zn cls d oe → (∃ vs, oe.data = .fields vs) → PSs (X.suite a ((a, oe) :: pn)) (s0 :: suite) (ts a cls d))
      (more : HdsB X hds l) : HdsB X (.ExceptHandler (some (.Name x p1)) (some n) (s0 :: suite) p2 :: hds) ((c, i, ts) :: l)
theorem ps_try_manyB {X : Cx} {body : List Stmt} {h0 : ExceptHandler} {hds : List ExceptHandler} {l : List Cls3} {pos : Pos} {tb : WX → TS} {Wout : WX}
    (stk : X.stack = X.env :: X.outer) (frm : X.env.frame = some X.env.locals) (nodup : X.N.Nodup) (tk : L2N.Takes X Wout)
    (hb : ∀ (W : WX) (pn : List (Addr × Obj)) (xe : Value → Shared → Prop), L2N.Takes (X.tr pn xe) W → PassesOwn (model X.prog X.w) X.A X.env xe → PSs (X.tr pn xe) body (tb W))
    (hh : HdsB X (h0 :: hds) l) : PS X (.Try body (h0 :: hds) [] [] pos) (fun D st Hs => tb (wManyB X.K Wout D l) D st Hs) := by
  refine ⟨fun pn sh st Hs D hin hq => ?_⟩
  have good := hin.ok
  have frames : X.A.frames = some (X.env :: X.outer) := by
    rw [good.frames, stk]
  refine wpAny_Try_except (wpAny_mono ((hb (wManyB X.K Wout D l) (X.pn ++ pn) (fun e t1 => wpAny (model X.prog X.w) X.A (noteFrame e X.env) (fun _ t2 => wpAny (model X.prog X.w) X.A (setFlight e none) (fun _ t3 =>
    wpAny (model X.prog X.w) X.A (handleBy e X.env (h0 :: hds)) (SP X pn D) X.xe t3) X.xe t2) X.xe t1) (fun u t xx => ?_) PassesOwn.looking).run [] sh st Hs D (hin.toTry _) hq) (fun fl t1 fin => ?_) (fun e t1 z => z))
  · obtain ⟨a, ground, sI, pn2, st2, H2, cls, d, rfl, inT, nb, up, sky, free, os, bare, wish⟩ := xx
    have in2 : Inv X pn st2 H2 sI := inT.ofTry good
    rw [show (X.tr (X.pn ++ pn) _).stack = X.env :: X.outer from stk] at sky
    show wpAny (model X.prog X.w) X.A (noteFrame (.ref a) X.env) _ _ _
    refine L2N.Sky.land L2N.Zn.steady frames frm sky fun g3 fly3 up3 => ?_
    have in3 : Inv X pn st2 H2 { t with heap := g3 } := in2.landed nb fly3.1 (up.trans up3) os bare
    obtain ⟨ob3, fs3, get3, zc3, dat3⟩ := fly3.there
    have notIn : a ∉ frs (X.env :: X.outer) := fun hm => by
      obtain ⟨_, o2, e2, nf⟩ := fly3.2.2.1.mem hm
      rw [get3] at e2
      cases e2
      exact nf _ dat3
    have nL : a ≠ X.env.locals := fun z => notIn (List.mem_filterMap.mpr ⟨X.env, List.mem_cons_self, by rw [frm, z]⟩)
    have nF : a ∉ X.fs := fun hm => by
      obtain ⟨en, men, q⟩ := List.mem_filterMap.mp hm
      exact notIn (List.mem_filterMap.mpr ⟨en, List.mem_cons_of_mem _ men, q⟩)
    have su3 := in3.suite get3 dat3 free nL nF
    have go : ∀ {hs' : List ExceptHandler} {l' : List Cls3}, HdsB X hs' l' → wManyB X.K Wout D l' cls d st2 H2 → wpAny (model X.prog X.w) X.A (handleBy (.ref a) X.env hs') (SP X pn D) X.xe { t with heap := g3 } := by
      intro hs' l' hk
      induction hk with
      | nil =>
        intro wish
        refine wpAny_handleBy_nil ?_
        obtain ⟨_, _, _, ob, fs, T, oT, _, get, _, dat, f1, _⟩ := id fly3
        unfold PySem.passOn
        refine wpAny_bind (wpAny_field get dat f1 ?_)
        rw [if_neg (show ¬ ((Value.ref T == Value.none) = true) by simp)]
        have last : wpAny (model X.prog X.w) X.A (setFlight (.ref a) X.env.frame) (fun _ t4 => wpAny (model X.prog X.w) X.A (throw (.ref a) : Sem Flow) (SP X pn D) X.xe t4) X.xe { t with heap := g3 } := by
          rw [frm]
          refine HandSPX.setFlight_upZ fly3 fun g4 held up4 => wpAny_throw (tk _ _ ⟨a, ground, sI, pn, st2, H2, cls, d, rfl, in2, nb, (up.trans up3).trans up4, .inr (.inr ?_), free, os, bare, wish⟩)
          rw [stk]
          exact held
        first | exact wpAny_bind last | exact wpAny_bind (wpAny_pure (wpAny_bind last))
      | @cons x n c i ts s0 suite p1 p2 hds2 l2 at_ own nm run more ih =>
        rintro ⟨yes, he, hy, hn⟩
        refine wpAny_handleBy_cons (codeAny_handlers_test ?_) (by intro q; cases q)
        have isCls : PySem.W.Looks (model X.prog X.w) g3 (typeOf (.ref a)) cls := fun _ _ _ _ kp q => wpAny_typeOf_ref (kp _ _ get3) (by rw [zc3.1]; exact q)
        have named : ∀ {Qv : Value → Shared → Prop} {Ev : Value → Shared → Prop}, Qv c { t with heap := g3 } → wpAny (model X.prog X.w) (X.A.mark (some (.ref a))) (eval (.Name x p1) X.env) Qv Ev { t with heap := g3 } := fun q => by
          obtain ⟨hg, hdb, hm | ⟨hm, hv, hne⟩⟩ := nm
          · exact ld_glob (X := X.suite a ((a, ob3) :: (X.pn ++ pn))) su3 hg hm q hdb
          · exact ld_blt (X := X.suite a ((a, ob3) :: (X.pn ++ pn))) su3 hg hm hv q hne hdb
        refine named ((PySem.W.exm_one (M := model X.prog X.w) in3.kIn isCls he).here ?_)
        cases yes with
        | false => exact ih (hn rfl)
        | true =>
          refine codeAny_handlers_suite_as (HandSPX.lands_againZ fly3 fun g4 fly4 up4 => ?_)
          have in4 : Inv X pn st2 H2 { t with heap := g4 } := in2.landed nb fly4.1 ((up.trans up3).trans up4) os bare
          obtain ⟨ob4, fs4, get4, zc4, dat4⟩ := fly4.there
          refine store_ok (X := X.suite a ((a, ob4) :: (X.pn ++ pn))) (v := .ref a) (in4.suite get4 dat4 free nL nF) nodup at_ (.inl own) rfl (fun t5 in5 => ?_) (.inr own)
          refine wpAny_mono ((run a ob4 cls d (X.pn ++ pn) zc4 ⟨_, dat4⟩).run [] t5 _ H2 _ in5 (hy rfl a free)) (fun fl t6 fin => ?_) (fun _ _ z => z.elim)
          cases fl with
          | next =>
            obtain ⟨_, _, in6, q⟩ := fin
            exact gone_ok (in6.unsuite good) nodup at_ own fun _ in7 => ⟨_, _, in7, q⟩
          | brk =>
            obtain ⟨_, _, in6, q⟩ := fin
            exact gone_ok (in6.unsuite good) nodup at_ own fun _ in7 => ⟨_, _, in7, q⟩
          | cont =>
            obtain ⟨_, _, in6, q⟩ := fin
            exact gone_ok (in6.unsuite good) nodup at_ own fun _ in7 => ⟨_, _, in7, q⟩
          | ret u =>
            obtain ⟨_, _, _, in6, r6, q⟩ := fin
            exact gone_ok (in6.unsuite good) nodup at_ own fun _ in7 => ⟨_, _, _, in7, r6, q⟩
    exact go hh wish
  · cases fl with
    | next =>
      obtain ⟨_, _, inE, q⟩ := fin
      exact wpAny_execs_nil ⟨_, _, inE.ofTry good, q⟩
    | brk =>
      obtain ⟨_, _, inE, q⟩ := fin
      exact ⟨_, _, inE.ofTry good, q⟩
    | cont =>
      obtain ⟨_, _, inE, q⟩ := fin
      exact ⟨_, _, inE.ofTry good, q⟩
    | ret u =>
      obtain ⟨_, _, _, inE, r, q⟩ := fin
      exact ⟨_, _, _, inE.ofTry good, r, q⟩
theorem many_yes {K : PySem.W.Frag} {mg : Str → Option Value} {x : Str} {i : Nat} {ts : Addr → Value → Option Addr → TS} {l : List Cls3} {Wout : WX} {D : Ends} {st : L2.St} {Hs : Hp} {d : Option Addr} (T : ExF K mg x)
    (h : ∀ a, Hs a = none → ts a (.ref (He.ga K x)) d (freed D i) (st.set i (some (.ref a))) Hs) : wManyB K Wout D ((.ref (He.ga K x), i, ts) :: l) (.ref (He.ga K x)) d st Hs := ⟨true, T.te, fun _ => h, fun z => nomatch z⟩
theorem many_no {K : PySem.W.Frag} {c cls : Value} {i : Nat} {ts : Addr → Value → Option Addr → TS} {l : List Cls3} {Wout : WX} {D : Ends} {st : L2.St} {Hs : Hp} {d : Option Addr} (T : PySem.W.exmOne K cls c = some false)
    (h : wManyB K Wout D l cls d st Hs) : wManyB K Wout D ((c, i, ts) :: l) cls d st Hs := ⟨false, T, (fun z => nomatch z), fun _ => h⟩
/-! ### rules whose reading names the written part itself (for comprehensions) -/
section
variable {X : Cx} (K : PySem.W.Frag)
theorem ixl (h : X.K = K := by rfl) : IxR X (rIxL K) := h ▸ ix_list
theorem ixt (h : X.K = K := by rfl) : IxR X (rIxT K) := h ▸ ix_tup
theorem slK (h : X.K = K := by rfl) : SlR X (rSlL K) := h ▸ sl_list
theorem lenK (h : X.K = K := by rfl) : CallR X (.builtin "len") (fun xs H Q => ∃ p ys, xs = [.ref p] ∧ (SqL K H p ys ∨ SqT K H p ys) ∧ Q (.int ys.length) H) := h ▸ call_len_seq
theorem isiK (h : X.K = K := by rfl) : CallR X (.builtin "isinstance") (rIsi K) := h ▸ call_isi
theorem lstK (h : X.K = K := by rfl) : CallR X (.type "list") (fun xs H Q => ∃ p ys, xs = [.ref p] ∧ (SqL K H p ys ∨ SqT K H p ys) ∧ ∀ l, H l = none → Q (.ref l) (upd H l (.lst ys))) := h ▸ call_list_of
theorem eqK (hu : X.A.units + 64 < cLine) (h : X.K = K := by rfl) : OpR X (compareOp .Eq) (rEqD K) := h ▸ op_eqD hu
theorem neK (hu : X.A.units + 64 < cLine) (h : X.K = K := by rfl) : OpR X (compareOp .NotEq) (rNeD K) := h ▸ op_neD hu
theorem sumK (hc : X.calm = true) (h : X.K = K := by rfl) : CallR X (.builtin "sum") (rSum K) := h ▸ cr_sum hc
theorem cntK (h : X.K = K := by rfl) : MtR X "list.count" (rCntI K) := h ▸ mt_lcount
end
end Bel

namespace Bel
open PySem PySem.Spec PyProof.Rows L2
/-! ### readings opened step by step (each an equation) -/
def Sel (b : Bool) (t u : TS) : TS := if b = true then t else u
def SelE (b : Bool) (t u : TE) : TE := if b = true then t else u
def SelT (b : Bool) (t u : TT) : TT := if b = true then t else u
def SelC (b : Bool) (A B : Prop) : Prop := if b = true then A else B
def tK (b : Bool) : TT := fun _ H Q => Q b H
section
variable {t u : TS} {ta tb tc te : TE} {tA tB' : TT} {D : Ends} {σ : L2.St} {H : Hp} {Q : VK} {QT : Bool → Hp → Prop} {QA : List V → Hp → Prop} {K : PySem.W.Frag} {r : R2} {l : TA} {v : V} {i : Nat}
theorem x_next : tNext D σ H = D.nx σ H := rfl
theorem x_seq : tSeq t u D σ H = t { D with nx := u D } σ H := rfl
theorem x_brk : tBreak D σ H = D.bk σ H := rfl
theorem x_cont : tCont D σ H = D.ct σ H := rfl
theorem x_drop : tDrop te D σ H = te σ H (fun _ H1 => D.nx σ H1) := rfl
theorem x_ret : tRet te D σ H = te σ H D.rt := rfl
theorem x_retN : tRetN D σ H = D.rt .non H := rfl
theorem x_if : tIfS tA t u D σ H = tA σ H (fun b H1 => Sel b t u D σ H1) := by
  show tA σ H _ = tA σ H _
  congr 1
  funext b H1
  cases b <;> rfl
theorem sel_t : Sel true t u = t := rfl
theorem sel_f : Sel false t u = u := rfl
theorem selE_t : SelE true ta tb = ta := rfl
theorem selE_f : SelE false ta tb = tb := rfl
theorem selT_t : SelT true tA tB' = tA := rfl
theorem selT_f : SelT false tA tB' = tB' := rfl
theorem selC_t {A B : Prop} : SelC true A B = A := rfl
theorem selC_f {A B : Prop} : SelC false A B = B := rfl
theorem sel {b : Bool} (h1 : b = true → t D σ H) (h2 : b = false → u D σ H) : Sel b t u D σ H := by
  cases b
  · exact h2 rfl
  · exact h1 rfl
theorem selE {b : Bool} (h1 : b = true → ta σ H Q) (h2 : b = false → tb σ H Q) : SelE b ta tb σ H Q := by
  cases b
  · exact h2 rfl
  · exact h1 rfl
theorem selT {b : Bool} (h1 : b = true → tA σ H QT) (h2 : b = false → tB' σ H QT) : SelT b tA tB' σ H QT := by
  cases b
  · exact h2 rfl
  · exact h1 rfl
theorem sel_d {p : Prop} {_ : Decidable p} (h1 : p → t D σ H) (h2 : ¬ p → u D σ H) : Sel (decide p) t u D σ H := sel (fun e => h1 (of_decide_eq_true e)) (fun e => h2 (of_decide_eq_false e))
theorem selE_d {p : Prop} {_ : Decidable p} (h1 : p → ta σ H Q) (h2 : ¬ p → tb σ H Q) : SelE (decide p) ta tb σ H Q := selE (fun e => h1 (of_decide_eq_true e)) (fun e => h2 (of_decide_eq_false e))
theorem selT_d {p : Prop} {_ : Decidable p} (h1 : p → tA σ H QT) (h2 : ¬ p → tB' σ H QT) : SelT (decide p) tA tB' σ H QT := selT (fun e => h1 (of_decide_eq_true e)) (fun e => h2 (of_decide_eq_false e))
theorem x_test : tTest te σ H QT = te σ H (fun x H' => ∃ k, x = .bl k ∧ QT k H') := rfl
theorem x_tB : L2.tB te σ H QT = te σ H (fun x H' => ∃ k, x = .bl k ∧ QT k H') := rfl
theorem x_op : tOp r ta tb σ H Q = ta σ H (fun x H1 => tb σ H1 (fun y H2 => r x y H2 Q)) := rfl
theorem x_un {ru : V → Hp → VK → Prop} : tUn ru ta σ H Q = ta σ H (fun x H1 => ru x H1 Q) := rfl
theorem x_var : tVar i σ H Q = ∃ v, σ[i]? = some (some v) ∧ Q v H := rfl
theorem x_c : tC v σ H Q = Q v H := rfl
theorem x_cb {rl : List V → Hp → VK → Prop} : tCB rl l σ H Q = l σ H (fun vs H1 => rl vs H1 Q) := rfl
theorem x_nil : tNil σ H QA = QA [] H := rfl
theorem x_cons : tCons ta l σ H QA = ta σ H (fun x H1 => l σ H1 (fun xs H2 => QA (x :: xs) H2)) := rfl
theorem x_rI {C : Int → Int → Prop} {g : Int → Int → V} {a b : V} : rI C g a b H Q = ∃ i j, a = .int i ∧ b = .int j ∧ C i j ∧ Q (g i j) H := rfl
theorem x_rI0 {g : Int → Int → V} {a b : V} : rI0 g a b H Q = ∃ i j, a = .int i ∧ b = .int j ∧ Q (g i j) H := rfl
theorem x_rU {g : Int → V} {a : V} : rU g a H Q = ∃ i, a = .int i ∧ Q (g i) H := rfl
theorem x_rEq {a b : V} : rEq a b H Q = (scal a b = true ∧ Q (.bl (decide (a = b))) H) := rfl
theorem x_rNe {a b : V} : rNe a b H Q = (scal a b = true ∧ Q (.bl (!decide (a = b))) H) := rfl
theorem x_rIxL {a b : V} : rIxL K a b H Q = ∃ p xs i v, a = .ref p ∧ b = .int i ∧ SqL K H p xs ∧ atI xs i = some v ∧ Q v H := rfl
theorem x_rIxT {a b : V} : rIxT K a b H Q = ∃ p xs i v, a = .ref p ∧ b = .int i ∧ SqT K H p xs ∧ atI xs i = some v ∧ Q v H := rfl
theorem x_rSlL {a : V} {lo hi : Option Int} : rSlL K a lo hi H Q = ∃ p xs, a = .ref p ∧ SqL K H p xs ∧ ∀ q, H q = none → Q (.ref q) (upd H q (.lst (cutV xs lo hi))) := rfl
theorem x_rCat {a b : V} : rCat a b H Q = ∃ l m xs zs, a = .ref l ∧ b = .ref m ∧ H l = some (.lst xs) ∧ H m = some (.lst zs) ∧ xs.length + zs.length ≤ sizeLine ∧ ∀ p, H p = none → Q (.ref p) (upd H p (.lst (xs ++ zs))) := rfl
theorem x_rRep {a b : V} : rRep a b H Q = ∃ l k xs, a = .ref l ∧ b = .int k ∧ H l = some (.lst xs) ∧ -(2 ^ 63) ≤ k ∧ k < 2 ^ 63 ∧ xs.length * k.toNat ≤ sizeLine ∧ ∀ p, H p = none → Q (.ref p) (upd H p (.lst (List.replicate k.toNat xs).flatten)) := by first | rfl | (unfold rRep; rfl)
theorem x_rApp {a : V} {vs : List V} : rAppend a vs H Q = ∃ l xs y, a = .ref l ∧ vs = [y] ∧ H l = some (.lst xs) ∧ xs.length < sizeLine ∧ Q .non (upd H l (.lst (xs ++ [y]))) := rfl
theorem x_bm {T : String} {rm : V → List V → Hp → VK → Prop} : tBM K T rm ta l σ H Q = ta σ H (fun x H1 => tyV K T x H1 ∧ l σ H1 (fun xs H2 => rm x xs H2 Q)) := rfl
theorem x_bm0 {T : String} {rm : V → List V → Hp → VK → Prop} : tBM0 K T rm ta σ H Q = ta σ H (fun x H1 => tyV K T x H1 ∧ rm x [] H1 Q) := rfl
theorem x_sl {rs : V → Option Int → Option Int → Hp → VK → Prop} {tl th : TO} : tSl rs te tl th σ H Q = te σ H (fun x H1 => tl σ H1 (fun l H2 => th σ H2 (fun u H3 => rs x l u H3 Q))) := rfl
theorem x_nopart {QO : Option Int → Hp → Prop} : tNoPart σ H QO = QO none H := rfl
theorem x_part {QO : Option Int → Hp → Prop} : tPart te σ H QO = te σ H (fun x H1 => ∃ i, x = .int i ∧ QO (some i) H1) := rfl
theorem x_tup : tTup l σ H Q = l σ H (fun xs H1 => xs.length ≤ sizeLine ∧ ∀ p, H1 p = none → Q (.ref p) (upd H1 p (.tup xs))) := rfl
theorem x_lst : tLst l σ H Q = l σ H (fun xs H1 => xs.length ≤ sizeLine ∧ ∀ p, H1 p = none → Q (.ref p) (upd H1 p (.lst xs))) := rfl
theorem x_call {sp : Sp} {dvs : List V} {E : XK} : tCall sp dvs E l σ H Q = l σ H (fun vs H1 => sp (vs ++ dvs) H1 Q E) := rfl
theorem x_callS {sp : Sp} {dvs : List V} {W : WX} : tClS sp dvs W l σ H Q = l σ H (fun vs H1 => sp (vs ++ dvs) H1 Q (WE W σ)) := rfl
theorem x_asg {g : TG} : tAsg te g D σ H = te σ H (fun x H1 => g x σ H1 D.nx) := rfl
theorem x_gname {QG : L2.St → Hp → Prop} : gName i v σ H QG = QG (σ.set i (some v)) H := rfl
theorem x_gtup {n : Nat} {gs : TGs} {QG : L2.St → Hp → Prop} : gTup K n gs v σ H QG = ∃ a xs, v = .ref a ∧ SqT K H a xs ∧ xs.length = n ∧ gs xs σ H QG := rfl
theorem x_gnil {vs : List V} {QG : L2.St → Hp → Prop} : gNil vs σ H QG = (vs = [] ∧ QG σ H) := rfl
theorem x_gcons {vs : List V} {g : TG} {gs : TGs} {QG : L2.St → Hp → Prop} : gCons g gs vs σ H QG = ∃ v r, vs = v :: r ∧ g v σ H (fun σ' H' => gs r σ' H' QG) := rfl
theorem x_gsub {to ti : TE} {ts : TSet} {QG : L2.St → Hp → Prop} : gSub to ti ts v σ H QG = to σ H (fun o H1 => ti σ H1 (fun i H2 => ts o i v H2 (fun H3 => QG σ H3))) := rfl
theorem x_setL {o i' : V} {QH : Hp → Prop} : rSetL o i' v H QH = ∃ p xs k j, o = .ref p ∧ i' = .int k ∧ H p = some (.lst xs) ∧ ixN xs.length k = some j ∧ QH (upd H p (.lst (xs.set j v))) := rfl
theorem x_aug {ti : TIp} : tAug i te ti D σ H = ∃ x, σ[i]? = some (some x) ∧ te σ H (fun y H1 => ti x y H1 (fun z H2 => D.nx (σ.set i (some z)) H2)) := rfl
theorem x_ipI {f : Int → Int → Int} {a b : V} : ipI f a b H Q = ∃ i j, a = .int i ∧ b = .int j ∧ Q (.int (f i j)) H := rfl
theorem x_and : tAnd tA tB' σ H QT = tA σ H (fun c H1 => SelT c tB' (tK false) σ H1 QT) := by
  show tA σ H _ = tA σ H _
  congr 1
  funext c H1
  cases c <;> rfl
theorem x_or : tOr tA tB' σ H QT = tA σ H (fun c H1 => SelT c (tK true) tB' σ H1 QT) := by
  show tA σ H _ = tA σ H _
  congr 1
  funext c H1
  cases c <;> rfl
theorem x_not : tNot tA σ H QT = tA σ H (fun c H1 => QT (!c) H1) := rfl
theorem x_k {b : Bool} : tK b σ H QT = QT b H := rfl
theorem x_andV : tAndV ta tb σ H Q = ta σ H (fun x H1 => ∃ c, x = .bl c ∧ SelE c tb (tC (.bl false)) σ H1 Q) := by
  show ta σ H _ = ta σ H _
  congr 1
  funext x H1
  congr 1
  funext c
  cases c <;> rfl
theorem x_orV : tOrV ta tb σ H Q = ta σ H (fun x H1 => ∃ c, x = .bl c ∧ SelE c (tC (.bl true)) tb σ H1 Q) := by
  show ta σ H _ = ta σ H _
  congr 1
  funext x H1
  congr 1
  funext c
  cases c <;> rfl
theorem x_notV : tNotV ta σ H Q = ta σ H (fun x H1 => ∃ c, x = .bl c ∧ Q (.bl (!c)) H1) := rfl
theorem x_ife : tIf tA ta tb σ H Q = tA σ H (fun c H1 => SelE c ta tb σ H1 Q) := by
  show tA σ H _ = tA σ H _
  congr 1
  funext c H1
  cases c <;> rfl
theorem x_chain {r' : R2} : tChain r r' ta tb tc σ H Q = ta σ H (fun x H1 => tb σ H1 (fun y H2 => r x y H2 (fun z H3 => ∃ k, z = .bl k ∧ SelE k (fun σ' H' Q' => tc σ' H' (fun w' H4 => r' y w' H4 Q')) (tC (.bl false)) σ H3 Q))) := by
  show ta σ H _ = ta σ H _
  congr 1
  funext x H1
  congr 1
  funext y H2
  congr 1
  funext z H3
  congr 1
  funext k
  cases k <;> rfl
/-! loops -/
def LoopI (J : It) (g : TG) (tb : TS) (D : Ends) (σ : L2.St) (H1 : Hp) : Prop := ∃ W : Nat → Nat → L2.St → Hp → Prop, (∃ m, W 0 m σ H1) ∧ ∀ i m σ H, W i m σ H →
  (J.stop i H ∧ D.nx σ H) ∨ (J.go i H ∧ ∃ N : L2.St → Hp → Prop, (∀ σ' H', N σ' H' → ∃ m', m' < m ∧ W (i + 1) m' σ' H') ∧ ∀ x H', J.yld i H x H' → g x σ H' fun σ2 H2 => tb { D with nx := N, ct := N, bk := D.nx } σ2 H2)
theorem x_for {wi : TI} {g : TG} : tFor wi g t D σ H = wi σ H (fun J H1 => LoopI J g t D σ H1) := rfl
theorem x_ilist {R : It → Hp → Prop} : iList K te σ H R = te σ H (fun x H1 => ∃ a, x = .ref a ∧ (∃ xs, SqL K H1 a xs) ∧ R (Itl K a) H1) := rfl
theorem x_itup {R : It → Hp → Prop} : iTup K te σ H R = te σ H (fun x H1 => ∃ a, x = .ref a ∧ (∃ xs, SqT K H1 a xs) ∧ R (Itt K a) H1) := rfl
theorem x_irng1 {R : It → Hp → Prop} : iRng1 l σ H R = l σ H (fun vs H1 => ∃ j : Int, vs = [.int j] ∧ -(2 ^ 62) ≤ j ∧ j < 2 ^ 62 ∧ R (Itr 0 j.toNat) H1) := rfl
theorem x_irng2 {R : It → Hp → Prop} : iRng2 l σ H R = l σ H (fun vs H1 => ∃ i j : Int, vs = [.int i, .int j] ∧ (-(2 ^ 62) ≤ i ∧ i < 2 ^ 62 ∧ -(2 ^ 62) ≤ j ∧ j < 2 ^ 62) ∧ R (Itr i (j - i).toNat) H1) := rfl
theorem x_irev {R : It → Hp → Prop} : iRev K l σ H R = l σ H (fun vs H1 => ∃ (a : Addr) (xs : List V), vs = [.ref a] ∧ SqL K H1 a xs ∧ R (Itv K a xs.length) H1) := rfl
theorem loop_list {a : Addr} {xs : List V} {g : TG} (Pv : Nat → L2.St → Hp → Prop) (h0 : Pv 0 σ H) (hl : ∀ i σ H, i ≤ xs.length → Pv i σ H → SqL K H a xs)
    (hs : ∀ i x σ H, xs[i]? = some x → Pv i σ H → g x σ H fun σ2 H2 => t { D with nx := Pv (i + 1), ct := Pv (i + 1), bk := D.nx } σ2 H2) (hd : ∀ σ H, Pv xs.length σ H → D.nx σ H) : LoopI (Itl K a) g t D σ H := for_list Pv h0 hl hs hd
theorem loop_range {lo : Int} {n : Nat} {g : TG} (Pv : Nat → L2.St → Hp → Prop) (h0 : Pv 0 σ H)
    (hs : ∀ i σ H, i < n → Pv i σ H → g (.int (lo + i)) σ H fun σ2 H2 => t { D with nx := Pv (i + 1), ct := Pv (i + 1), bk := D.nx } σ2 H2) (hd : ∀ σ H, Pv n σ H → D.nx σ H) : LoopI (Itr lo n) g t D σ H := for_range Pv h0 hs hd
/-! comprehensions -/
def CompI (J : It) (g : TG) (tt : TT) (te : TE) (vs : List Nat) (st : L2.St) (Hs : Hp) (D : Addr) (Qd : Hp → Prop) : Prop :=
  ∃ W : Nat → Nat → Hp → Prop, (∃ m, W 0 m (upd Hs D (.lst []))) ∧ ∀ i m H, W i m H →
    (J.stop i H ∧ Qd H) ∨ (J.go i H ∧ ∃ Nx : Hp → Prop, (∀ G, Nx G → ∃ m2, m2 < m ∧ W (i + 1) m2 G) ∧
      ∀ x G, J.yld i H x G → g x (wipe st vs) G fun s2 G2 => wipe s2 vs = wipe st vs ∧ tt s2 G2 fun b G3 =>
        if b = true then te s2 G3 fun y G4 => ∃ acc, G4 D = some (.lst acc) ∧ acc.length < sizeLine ∧ Nx (upd G4 D (.lst (acc ++ [y]))) else Nx G3)
theorem x_lc {wi : TI} {g : TG} {vs : List Nat} : tLc wi g tA te vs σ H Q = wi σ H (fun J H1 => ∀ D, H1 D = none → CompI J g tA te vs σ H1 D (fun H => Q (.ref D) H)) := rfl
theorem x_yes : tYes σ H QT = QT true H := rfl
theorem comp_range {lo : Int} {n : Nat} {g : TG} {vs : List Nat} {D : Addr} {Qd : Hp → Prop} (Pv : Nat → Hp → Prop) (h0 : Pv 0 (upd H D (.lst [])))
    (hs : ∀ i H, i < n → Pv i H → g (.int (lo + i)) (wipe σ vs) H fun σ2 H2 => wipe σ2 vs = wipe σ vs ∧ tA σ2 H2 fun b H3 =>
      if b = true then te σ2 H3 fun y H4 => ∃ acc, H4 D = some (.lst acc) ∧ acc.length < sizeLine ∧ Pv (i + 1) (upd H4 D (.lst (acc ++ [y]))) else Pv (i + 1) H3) (hd : ∀ H, Pv n H → Qd H) : CompI (Itr lo n) g tA te vs σ H D Qd := lc_range Pv h0 hs hd
theorem comp_list {a : Addr} {xs : List V} {g : TG} {vs : List Nat} {D : Addr} {Qd : Hp → Prop} (Pv : Nat → Hp → Prop) (h0 : Pv 0 (upd H D (.lst []))) (hl : ∀ i H, i ≤ xs.length → Pv i H → SqL K H a xs)
    (hs : ∀ i x H, xs[i]? = some x → Pv i H → g x (wipe σ vs) H fun σ2 H2 => wipe σ2 vs = wipe σ vs ∧ tA σ2 H2 fun b H3 =>
      if b = true then te σ2 H3 fun y H4 => ∃ acc, H4 D = some (.lst acc) ∧ acc.length < sizeLine ∧ Pv (i + 1) (upd H4 D (.lst (acc ++ [y]))) else Pv (i + 1) H3) (hd : ∀ H, Pv xs.length H → Qd H) : CompI (Itl K a) g tA te vs σ H D Qd := lc_list Pv h0 hl hs hd
theorem scal_ii {a b : Int} : scal (.int a) (.int b) = true := rfl
theorem scal_bb {a b : Bool} : scal (.bl a) (.bl b) = true := rfl
theorem scal_ss {a b : Str} : scal (.str a) (.str b) = true := by first | rfl | (unfold scal; rfl)
theorem x_misc {CX : CXT} {P : Program} {w : World} {mg : Str → Option Value} {base : Heap} {N : List Str} {qual : Str} {scope : Scope} {f : Addr} {cd : Value} {A : Around} {outer : List Env} {s : Shared} {E : XK} : (cxOf CX P w K mg base N qual scope f cd A outer s H E).K = K := rfl
theorem x_misc2 {X : Cx} : X.nox.K = X.K := rfl
theorem tyv {a : Addr} {xs : List V} (h : SqL K H a xs) : tyV K "list" (.ref a) H := .inl ⟨rfl, _, h⟩
/-- isinstance -/
theorem isi_int {c : String} {b : Bool} {j : Int} (h : kitB "int" c = some b) (q : Q (.bl b) H) : rIsi K [.int j, .ty c] H Q := ⟨_, _, _, _, b, rfl, .ty c, .base (.int _), kit_ty h, q⟩
theorem isi_lst {c : String} {b : Bool} {a : Addr} {xs : List V} (h : kitB "list" c = some b) (hl : H a = some (.lst xs)) (q : Q (.bl b) H) : rIsi K [.ref a, .ty c] H Q := ⟨_, _, _, _, b, rfl, .ty c, .base (.lst hl), kit_ty h, q⟩
theorem isi_tup {c : String} {b : Bool} {a : Addr} {xs : List V} (h : kitB "tuple" c = some b) (hl : H a = some (.tup xs)) (q : Q (.bl b) H) : rIsi K [.ref a, .ty c] H Q := ⟨_, _, _, _, b, rfl, .ty c, .base (.tup hl), kit_ty h, q⟩
end
/-! ### heaps -/
theorem same_upd {H : Hp} {p : Addr} {o : HO} (h : H p = none) : Same H (upd H p o) := fun b x e => by
  rw [upd_ne (ne_of_none e h)]
  exact e
theorem Same.free' {H H' : Hp} {p : Addr} (s : Same H H') (h : H' p = none) : H p = none := s.free h
theorem Same.seqT {K : PySem.W.Frag} {H H' : Hp} {a : Addr} {xs : List V} (e : Same H H') (h : SqT K H a xs) : SqT K H' a xs := by
  rcases h with (h | ⟨o, h⟩) | h
  · exact .inl (.inl (e _ _ h))
  · exact .inl (.inr ⟨o, e _ _ h⟩)
  · exact .inr h
theorem upd_upd {H : Hp} {p : Addr} {o u : HO} : upd (upd H p o) p u = upd H p u := by
  funext b
  by_cases h : b = p
  · rw [h, upd_same, upd_same]
  · rw [upd_ne h, upd_ne h, upd_ne h]
theorem atI_int {xs : List Int} {k : Int} (h0 : 0 ≤ k) (h1 : k < xs.length) : atI (xs.map V.int) k = some (.int (xs.getD k.toNat 0)) := by
  obtain ⟨n, rfl⟩ := Int.eq_ofNat_of_zero_le h0
  refine atI_nat ?_
  have h2 : n < xs.length := by omega
  rw [List.getElem?_map, List.getElem?_eq_getElem h2, Int.toNat_natCast, List.getD_eq_getElem?_getD, List.getElem?_eq_getElem h2]
  rfl
/-! ### == of data -/
mutual
def plain : PyData → Bool
  | .none => true
  | .bool _ => false
  | .int _ => true
  | .str x => (PyData.str x).canLay0
  | .list xs => plainAl xs
  | .tuple xs => plainAl xs
  | .dict _ => false
def plainAl : List PyData → Bool
  | [] => true
  | x :: xs => (plainAl xs && plain x)
end
mutual
theorem plain_lay : ∀ d : PyData, plain d = true → d.canLay0 = true
  | .none, _ => by simp [PyData.canLay0]
  | .bool _, h => by simp [plain] at h
  | .int _, _ => by simp [PyData.canLay0]
  | .str x, h => by simpa [plain] using h
  | .list xs, h => by
    simp only [plain] at h
    simp only [PyData.canLay0]
    exact plainAl_lay xs h
  | .tuple xs, h => by
    simp only [plain] at h
    simp only [PyData.canLay0]
    exact plainAl_lay xs h
  | .dict _, h => by simp [plain] at h
theorem plainAl_lay : ∀ ds : List PyData, plainAl ds = true → PyData.canLayAll0 ds = true
  | [], _ => by simp [PyData.canLayAll0]
  | x :: xs, h => by
    simp only [plainAl, Bool.and_eq_true] at h
    simp only [PyData.canLayAll0, Bool.and_eq_true]
    exact ⟨plain_lay x h.2, plainAl_lay xs h.1⟩
end
mutual
theorem eqv_iff : ∀ d e : PyData, plain d = true → plain e = true → (PyData.eqv d e = true ↔ d = e)
  | .none, .none, _, _ => by simp [PyData.eqv]
  | .int i, .int j, _, _ => by simp [PyData.eqv]
  | .str i, .str j, _, _ => by simp [PyData.eqv]
  | .list xs, .list ys, h1, h2 => by
    simp only [plain] at h1 h2
    simp only [PyData.eqv, PyData.list.injEq]
    exact eqvAll_iff xs ys h1 h2
  | .tuple xs, .tuple ys, h1, h2 => by
    simp only [plain] at h1 h2
    simp only [PyData.eqv, PyData.tuple.injEq]
    exact eqvAll_iff xs ys h1 h2
  | .bool _, _, h1, _ => by simp [plain] at h1
  | .dict _, _, h1, _ => by simp [plain] at h1
  | _, .bool _, _, h2 => by simp [plain] at h2
  | _, .dict _, _, h2 => by simp [plain] at h2
  | .none, .int _, _, _ => by simp [PyData.eqv]
  | .none, .str _, _, _ => by simp [PyData.eqv]
  | .none, .list _, _, _ => by simp [PyData.eqv]
  | .none, .tuple _, _, _ => by simp [PyData.eqv]
  | .int _, .none, _, _ => by simp [PyData.eqv]
  | .int _, .str _, _, _ => by simp [PyData.eqv]
  | .int _, .list _, _, _ => by simp [PyData.eqv]
  | .int _, .tuple _, _, _ => by simp [PyData.eqv]
  | .str _, .none, _, _ => by simp [PyData.eqv]
  | .str _, .int _, _, _ => by simp [PyData.eqv]
  | .str _, .list _, _, _ => by simp [PyData.eqv]
  | .str _, .tuple _, _, _ => by simp [PyData.eqv]
  | .list _, .none, _, _ => by simp [PyData.eqv]
  | .list _, .int _, _, _ => by simp [PyData.eqv]
  | .list _, .str _, _, _ => by simp [PyData.eqv]
  | .list _, .tuple _, _, _ => by simp [PyData.eqv]
  | .tuple _, .none, _, _ => by simp [PyData.eqv]
  | .tuple _, .int _, _, _ => by simp [PyData.eqv]
  | .tuple _, .str _, _, _ => by simp [PyData.eqv]
  | .tuple _, .list _, _, _ => by simp [PyData.eqv]
theorem eqvAll_iff : ∀ ds es : List PyData, plainAl ds = true → plainAl es = true → (PyData.eqvAll ds es = true ↔ ds = es)
  | [], [], _, _ => by simp [PyData.eqvAll]
  | [], _ :: _, _, _ => by simp [PyData.eqvAll]
  | _ :: _, [], _, _ => by simp [PyData.eqvAll]
  | x :: xs, y :: ys, h1, h2 => by
    simp only [plainAl, Bool.and_eq_true] at h1 h2
    simp only [PyData.eqvAll, Bool.and_eq_true, List.cons.injEq]
    rw [eqv_iff x y h1.2 h2.2, eqvAll_iff xs ys h1.1 h2.1]
end
/-- data as it is compared: its value, and that it is plain and not deep -/
structure Dq (K : PySem.W.Frag) (H : Hp) (v : V) (d : PyData) : Prop where
  dp : Dp K H v d
  pl : plain d = true
  de : d.depth ≤ 64
theorem Dq.sh {K : PySem.W.Frag} {H : Hp} {v : V} {d : PyData} (h : Dq K H v d) : SeqAt.shaped d = true := by
  show (d.canLay0 && decide (d.depth ≤ 64)) = true
  rw [plain_lay d h.pl, decide_eq_true h.de]
  rfl
theorem eqd {K : PySem.W.Frag} {H : Hp} {x y : V} {d e : PyData} {Q : VK} (h1 : Dq K H x d) (h2 : Dq K H y e) (q : ∀ b : Bool, (b = true ↔ d = e) → Q (.bl b) H) : rEqD K x y H Q := ⟨d, e, h1.dp, h2.dp, h1.sh, h2.sh, q _ (eqv_iff d e h1.pl h2.pl)⟩
theorem ned {K : PySem.W.Frag} {H : Hp} {x y : V} {d e : PyData} {Q : VK} (h1 : Dq K H x d) (h2 : Dq K H y e) (q : ∀ b : Bool, (b = true ↔ d = e) → Q (.bl (!b)) H) : rNeD K x y H Q := ⟨d, e, h1.dp, h2.dp, h1.sh, h2.sh, q _ (eqv_iff d e h1.pl h2.pl)⟩
/-- equal data: the answer is known -/
theorem eqd_t {K : PySem.W.Frag} {H : Hp} {x y : V} {d : PyData} {Q : VK} (h1 : Dq K H x d) (h2 : Dq K H y d) (q : Q (.bl true) H) : rEqD K x y H Q := eqd h1 h2 fun b e => by
  rw [e.mpr rfl]
  exact q
theorem ned_f {K : PySem.W.Frag} {H : Hp} {x y : V} {d : PyData} {Q : VK} (h1 : Dq K H x d) (h2 : Dq K H y d) (q : Q (.bl false) H) : rNeD K x y H Q := ned h1 h2 fun b e => by
  rw [e.mpr rfl]
  exact q
theorem dpAll_ints {K : PySem.W.Frag} {H : Hp} : ∀ ns : List Int, DpAll K H (ns.map V.int) (ns.map PyData.int)
  | [] => .nil
  | n :: r => .cons (.int n) (dpAll_ints r)
theorem plainAl_ints : ∀ ns : List Int, plainAl (ns.map PyData.int) = true
  | [] => by simp [plainAl]
  | n :: r => by simp [plainAl, plain, plainAl_ints r]
theorem depthAll_ints' : ∀ ns : List Int, PyData.depthAll (ns.map PyData.int) ≤ 1
  | [] => by simp [PyData.depthAll]
  | n :: r => by
    have := depthAll_ints' r
    simp only [List.map_cons, PyData.depthAll, PyData.depth]
    omega
section
variable {K : PySem.W.Frag} {H : Hp}
theorem dq_int {i : Int} : Dq K H (.int i) (.int i) := ⟨.int i, by simp [plain], by simp [PyData.depth]⟩
theorem dq_lst {a : Addr} {ns : List Int} (h : SqL K H a (ns.map V.int)) : Dq K H (.ref a) (.list (ns.map PyData.int)) := ⟨.lst h (dpAll_ints ns), by simp only [plain]; exact plainAl_ints ns, by
  have := depthAll_ints' ns
  simp only [PyData.depth]
  omega⟩
theorem dq_tup {a : Addr} {ns : List Int} (h : SqT K H a (ns.map V.int)) : Dq K H (.ref a) (.tuple (ns.map PyData.int)) := ⟨.tup h (dpAll_ints ns), by simp only [plain]; exact plainAl_ints ns, by
  have := depthAll_ints' ns
  simp only [PyData.depth]
  omega⟩
theorem map_int_inj {ns ms : List Int} : ns.map PyData.int = ms.map PyData.int ↔ ns = ms := by
  refine ⟨fun h => ?_, fun h => by rw [h]⟩
  have e : ∀ l : List Int, (l.map PyData.int).map (fun d => match d with | .int i => i | _ => 0) = l := fun l => by
    rw [List.map_map]
    exact List.map_id'' (fun _ => rfl) l
  rw [← e ns, ← e ms, h]
end
theorem x_eqd {K : PySem.W.Frag} {H : Hp} {x y : V} {Q : VK} : rEqD K x y H Q = rEqD K x y H Q := rfl
/-! ### reversed lists, slices -/
theorem loop_rev {K : PySem.W.Frag} {t : TS} {D : Ends} {σ : L2.St} {H : Hp} {a : Addr} {xs : List V} {g : TG} (Pv : Nat → L2.St → Hp → Prop) (h0 : Pv 0 σ H) (hl : ∀ i σ H, i ≤ xs.length → Pv i σ H → SqL K H a xs)
    (hs : ∀ i x σ H, xs[xs.length - 1 - i]? = some x → i < xs.length → Pv i σ H → g x σ H fun σ2 H2 => t { D with nx := Pv (i + 1), ct := Pv (i + 1), bk := D.nx } σ2 H2) (hd : ∀ σ H, Pv xs.length σ H → D.nx σ H) : LoopI (Itv K a xs.length) g t D σ H := by
  refine ⟨fun i left σ H => left = xs.length - i ∧ i ≤ xs.length ∧ Pv i σ H, ⟨xs.length, by omega, by omega, h0⟩, ?_⟩
  rintro i left σ H ⟨rfl, hi, p⟩
  have q := hl i σ H hi p
  by_cases hlt : i < xs.length
  · have hk : xs.length - 1 - i < xs.length := by omega
    refine .inr ⟨⟨hlt, xs, xs[xs.length - 1 - i], q, by simp [hk]⟩, Pv (i + 1), fun σ' H' p' => ⟨xs.length - (i + 1), by omega, rfl, hlt, p'⟩, fun x H' y => ?_⟩
    obtain ⟨e, y⟩ := y
    subst e
    exact hs i x σ _ (y xs q) hlt p
  · obtain rfl : i = xs.length := Nat.le_antisymm hi (by omega)
    exact .inl ⟨Nat.le_refl xs.length, hd σ H p⟩
theorem cutV_nn {xs : List V} {i j : Nat} (h : i ≤ j) (hj : j ≤ xs.length) : cutV xs (some (i : Int)) (some (j : Int)) = (xs.drop i).take (j - i) := by
  unfold cutV
  rw [HT.sIx_nat, HT.sIx_nat, Nat.min_eq_left hj, Nat.min_eq_left (Nat.le_trans h hj)]
theorem cutV_from {xs : List V} {i : Nat} (h : i ≤ xs.length) : cutV xs (some (i : Int)) none = xs.drop i := by
  unfold cutV
  rw [HT.sIx_nat, HT.sIx_none, Nat.min_eq_left h]
  exact List.take_of_length_le (by rw [List.length_drop]; exact Nat.le_refl _)
theorem cutV_upto {xs : List V} {j : Nat} (hj : j ≤ xs.length) : cutV xs none (some (j : Int)) = xs.take j := by
  unfold cutV
  rw [HT.sIx_nat, HT.sIx_none, Nat.min_eq_left hj, List.drop_zero, Nat.sub_zero]
/-! ### exceptions caught -/
theorem x_xf {a : Addr} {cls : Value} {d : Option Addr} {C : Addr} {f : Str} {te : TE} {σ : L2.St} {H : Hp} {Q : VK} : tXf a cls d C f te σ H Q = te σ H (fun x H1 => x = .ref a ∧ cls = .ref C ∧ ∃ (dd : Addr) (fs : List (Str × V)) (v : V), d = some dd ∧ H1 dd = some (.xd fs) ∧ fs.lookup f = some v ∧ Q v H1) := rfl
theorem x_rz {K : PySem.W.Frag} {C : Addr} {W : WX} {ta : TA} {D : Ends} {σ : L2.St} {H : Hp} : tRz K C W ta D σ H = ta σ H (fun vs H1 => Bz K C W σ vs H1) := rfl
theorem lookup_at {v : V} : List.lookup ("at" : Str) [(("at" : Str), v)] = some v := rfl
theorem as_yes {K : PySem.W.Frag} {mg : Str → Option Value} {x : Str} {i : Nat} {ts : Addr → Value → Option Addr → TS} {Wout : WX} {D : Ends} {σ : L2.St} {H : Hp} {d : Option Addr} (T : ExF K mg x)
    (h : ∀ a, H a = none → ts a (.ref (He.ga K x)) d { nx := fun σ' H' => D.nx (σ'.set i none) H', rt := D.rt, bk := fun σ' H' => D.bk (σ'.set i none) H', ct := fun σ' H' => D.ct (σ'.set i none) H' } (σ.set i (some (.ref a))) H) :
    wAs K (.ref (He.ga K x)) i ts Wout D (.ref (He.ga K x)) d σ H := ⟨true, T.te, fun _ => h, fun z => nomatch z⟩
theorem int_at {ns : List Int} {i : Nat} {x : V} (h : (ns.map V.int)[i]? = some x) : ∃ z, ns[i]? = some z ∧ x = .int z := by
  rw [List.getElem?_map] at h
  cases e : ns[i]? with
  | none =>
    rw [e] at h
    cases h
  | some z =>
    rw [e] at h
    exact ⟨z, rfl, (Option.some.inj h).symm⟩
theorem upd_keep {H : Hp} {b c : Addr} {o x : HO} (hb : H b = none) (h : H c = some x) : upd H b o c = some x := same_upd hb c x h
theorem upd_other {H : Hp} {b c : Addr} {o x : HO} (hb : c ≠ b) (h : H c = some x) : upd H b o c = some x := (upd_ne hb).trans h
theorem Same.get {H H' : Hp} {a : Addr} {o : HO} (s : Same H H') (h : H a = some o) : H' a = some o := s a o h
theorem same_put {H H' : Hp} {p : Addr} {o : HO} (s : Same H H') (h : H p = none) : Same H (upd H' p o) := fun b x e => by
  rw [upd_ne (ne_of_none e h)]
  exact s b x e
theorem line_map {ds : List Int} {n : Nat} (h : ds.length ≤ n) (hn : n < 16777216) : (ds.map V.int).length < sizeLine := by
  rw [List.length_map, sizeLine_eq]
  omega
theorem line_map' {ds : List Int} {n : Nat} (h : ds.length ≤ n) (hn : n < 16777216) : (ds.map V.int).length ≤ sizeLine := Nat.le_of_lt (line_map h hn)
/-! ### x op= e of ints -/
def ipC (C : Int → Int → Prop) (f : Int → Int → Int) : TIp := fun x y H Q => ∃ i j, x = .int i ∧ y = .int j ∧ C i j ∧ Q (.int (f i j)) H
theorem x_ipC {C : Int → Int → Prop} {f : Int → Int → Int} {x y : V} {H : Hp} {Q : VK} : ipC C f x y H Q = ∃ i j, x = .int i ∧ y = .int j ∧ C i j ∧ Q (.int (f i j)) H := rfl
section
variable {X : Cx}
theorem ip_fdiv : PIp X .FloorDiv (ipC CDiv fun i j => i / j) := by
  intro pins s σ H x y v u Q I r1 r2 h
  obtain ⟨i, j, e1, e2, hc, q⟩ := h
  subst e1; subst e2
  obtain ⟨t, rfl⟩ := r1
  obtain ⟨t', rfl⟩ := r2
  have h1 : (0 : Int) < j := hc.1
  have h2 := hc.2
  exact ifloordiv_int (by omega) (by rw [Int.fdiv_eq_ediv_of_nonneg i (by omega)]; exact ⟨.int _, H, I.tok _, ⟨_, rfl⟩, q⟩) (.inl (PyProof.noPylong_small (by omega)))
theorem ip_mod : PIp X .Mod (ipC (fun _ j => 0 < j) fun i j => i % j) := by
  intro pins s σ H x y v u Q I r1 r2 h
  obtain ⟨i, j, e1, e2, hc, q⟩ := h
  subst e1; subst e2
  obtain ⟨t, rfl⟩ := r1
  obtain ⟨t', rfl⟩ := r2
  exact imod_int (by omega) (by rw [Int.fmod_eq_emod_of_nonneg i (by omega)]; exact ⟨.int _, H, I.tok _, ⟨_, rfl⟩, q⟩)
theorem ip_shr : PIp X .RShift (ipC (fun _ j => 0 ≤ j) fun i j => i / 2 ^ j.toNat) := by
  intro pins s σ H x y v u Q I r1 r2 h
  obtain ⟨i, j, e1, e2, hc, q⟩ := h
  subst e1; subst e2
  obtain ⟨t, rfl⟩ := r1
  obtain ⟨t', rfl⟩ := r2
  exact irshift_int hc (by rw [Int.fdiv_eq_ediv_of_nonneg i (Int.le_of_lt (Int.pow_pos (by decide)))]; exact ⟨.int _, H, I.tok _, ⟨_, rfl⟩, q⟩)
theorem ip_shl : PIp X .LShift (ipC (fun i j => 0 ≤ j ∧ (Builtin.Int.intBits i : Int) + j ≤ 2 ^ 27) fun i j => i * 2 ^ j.toNat) := by
  intro pins s σ H x y v u Q I r1 r2 h
  obtain ⟨i, j, e1, e2, hc, q⟩ := h
  subst e1; subst e2
  obtain ⟨t, rfl⟩ := r1
  obtain ⟨t', rfl⟩ := r2
  exact ilshift_int hc.1 hc.2 ⟨.int _, H, I.tok _, ⟨_, rfl⟩, q⟩
theorem ip_mul : PIp X .Mult (ipC CMul fun i j => i * j) := by
  intro pins s σ H x y v u Q I r1 r2 h
  obtain ⟨i, j, e1, e2, hc, q⟩ := h
  subst e1; subst e2
  obtain ⟨t, rfl⟩ := r1
  obtain ⟨t', rfl⟩ := r2
  exact PyProof.Rows.imul_int ⟨.int _, H, I.tok _, ⟨_, rfl⟩, q⟩ hc.ok
theorem ip_and : PIp X .BitAnd (ipI fun i j => Builtin.bitAnd i j) := by
  intro pins s σ H x y v u Q I r1 r2 h
  obtain ⟨i, j, e1, e2, q⟩ := h
  subst e1; subst e2
  obtain ⟨t, rfl⟩ := r1
  obtain ⟨t', rfl⟩ := r2
  exact iand_int ⟨.int _, H, I.tok _, ⟨_, rfl⟩, q⟩
theorem ip_or : PIp X .BitOr (ipI fun i j => Builtin.bitOr i j) := by
  intro pins s σ H x y v u Q I r1 r2 h
  obtain ⟨i, j, e1, e2, q⟩ := h
  subst e1; subst e2
  obtain ⟨t, rfl⟩ := r1
  obtain ⟨t', rfl⟩ := r2
  exact ior_int ⟨.int _, H, I.tok _, ⟨_, rfl⟩, q⟩
theorem ip_xor : PIp X .BitXor (ipI fun i j => Builtin.bitXor i j) := by
  intro pins s σ H x y v u Q I r1 r2 h
  obtain ⟨i, j, e1, e2, q⟩ := h
  subst e1; subst e2
  obtain ⟨t, rfl⟩ := r1
  obtain ⟨t', rfl⟩ := r2
  exact ixor_int ⟨.int _, H, I.tok _, ⟨_, rfl⟩, q⟩
end
/-! ### while -/
def WhB (Pv : L2.St → Hp → Prop) (μ : L2.St → Hp → Nat) (tb : TS) (D : Ends) (σ : L2.St) (H : Hp) (b : Bool) (H1 : Hp) : Prop :=
  if b = true then ∃ N : L2.St → Hp → Prop, (∀ σ' H', N σ' H' → ∃ m', m' < μ σ H ∧ (m' = μ σ' H' ∧ Pv σ' H')) ∧ tb { D with nx := N, ct := N, bk := D.nx } σ H1 else D.nx σ H1
section
variable {c : TT} {tb : TS} {D : Ends} {σ : L2.St} {H H1 : Hp} {Pv : L2.St → Hp → Prop} {μ : L2.St → Hp → Nat}
theorem loop_while (Pv : L2.St → Hp → Prop) (μ : L2.St → Hp → Nat) (h0 : Pv σ H) (hs : ∀ σ H, Pv σ H → c σ H fun b H1 => WhB Pv μ tb D σ H b H1) : tWhile c tb D σ H := by
  refine ⟨fun left σ H => left = μ σ H ∧ Pv σ H, ⟨μ σ H, rfl, h0⟩, ?_⟩
  rintro left σ H ⟨rfl, p⟩
  exact hs σ H p
theorem wh {b : Bool} (h1 : b = true → tb { D with nx := fun σ' H' => Pv σ' H' ∧ μ σ' H' < μ σ H, ct := fun σ' H' => Pv σ' H' ∧ μ σ' H' < μ σ H, bk := D.nx } σ H1) (h2 : b = false → D.nx σ H1) : WhB Pv μ tb D σ H b H1 := by
  cases b
  · exact h2 rfl
  · exact ⟨_, fun σ' H' ⟨p, l⟩ => ⟨_, l, rfl, p⟩, h1 rfl⟩
theorem wh_d {p : Prop} {_ : Decidable p} (h1 : p → tb { D with nx := fun σ' H' => Pv σ' H' ∧ μ σ' H' < μ σ H, ct := fun σ' H' => Pv σ' H' ∧ μ σ' H' < μ σ H, bk := D.nx } σ H1) (h2 : ¬ p → D.nx σ H1) : WhB Pv μ tb D σ H (decide p) H1 := wh (fun e => h1 (of_decide_eq_true e)) (fun e => h2 (of_decide_eq_false e))
end
theorem cpow_ok {i j : Int} (h : (decide (0 ≤ j) && decide (j ≤ 1000000) && decide (i.natAbs < 2 ^ 64)) = true) : CPow i j := by
  simp only [Bool.and_eq_true, decide_eq_true_eq] at h
  exact ⟨h.1.1, h.1.2, h.2⟩
theorem xf_at {a d : Addr} {C : Addr} {i : Nat} {σ : L2.St} {H : Hp} {Q : VK} {v : V} (hi : σ[i]? = some (some (.ref a))) (h : H d = some (.xd [("at", v)])) (q : Q v H) : tXf a (.ref C) (some d) C "at" (tVar i) σ H Q := ⟨_, hi, rfl, rfl, d, _, v, rfl, h, lookup_at, q⟩
section
variable {K : PySem.W.Frag} {H : Hp} {a : Addr} {xs : List V} {P : List V → Prop}
theorem ex_lst (h : H a = some (.lst xs)) (q : P xs) : ∃ x, H a = some (.lst x) ∧ P x := ⟨xs, h, q⟩
theorem ex_sq (h : SqL K H a xs) (q : P xs) : ∃ x, SqL K H a x ∧ P x := ⟨xs, h, q⟩
theorem ex_sqt (h : SqT K H a xs) (q : P xs) : ∃ x, SqT K H a x ∧ P x := ⟨xs, h, q⟩
theorem ex_or (h : SqL K H a xs) (q : P xs) : ∃ x, (SqL K H a x ∨ SqT K H a x) ∧ P x := ⟨xs, .inl h, q⟩
theorem ex_ort (h : SqT K H a xs) (q : P xs) : ∃ x, (SqL K H a x ∨ SqT K H a x) ∧ P x := ⟨xs, .inr h, q⟩
theorem and_sq {B : Prop} (h : SqL K H a xs) (q : B) : (∃ x, SqL K H a x) ∧ B := ⟨⟨xs, h⟩, q⟩
theorem and_tyv {B : Prop} (h : SqL K H a xs) (q : B) : tyV K "list" (.ref a) H ∧ B := ⟨tyv h, q⟩
end
theorem pow2_le {i j : Nat} (h : i ≤ j) : (2 : Int) ^ i ≤ 2 ^ j := by exact_mod_cast Nat.pow_le_pow_right (by decide) h
theorem pow2_pos {i : Nat} : (0 : Int) < 2 ^ i := Int.pow_pos (by decide)
/-! guards: the goal's shape, nothing else -/
section
variable {K : PySem.W.Frag} {H : Hp} {a : Addr} {P : List V → Prop} {B : Prop}
theorem g_xf {cls : Value} {d : Option Addr} {C : Addr} {f : Str} {te : TE} {σ : L2.St} {Q : VK} (h : tXf a cls d C f te σ H Q) : tXf a cls d C f te σ H Q := h
theorem g_and {A : Prop} (h : A ∧ B) : A ∧ B := h
theorem g_tyv (h : tyV K "list" (.ref a) H ∧ B) : tyV K "list" (.ref a) H ∧ B := h
theorem g_asq (h : (∃ x, SqL K H a x) ∧ B) : (∃ x, SqL K H a x) ∧ B := h
theorem g_lst (h : ∃ x, H a = some (.lst x) ∧ P x) : ∃ x, H a = some (.lst x) ∧ P x := h
theorem g_or (h : ∃ x, (SqL K H a x ∨ SqT K H a x) ∧ P x) : ∃ x, (SqL K H a x ∨ SqT K H a x) ∧ P x := h
theorem g_sq (h : ∃ x, SqL K H a x ∧ P x) : ∃ x, SqL K H a x ∧ P x := h
theorem g_sqt (h : ∃ x, SqT K H a x ∧ P x) : ∃ x, SqT K H a x ∧ P x := h
end
theorem cmul_r {i j : Int} (h1 : -18446744073709551616 < j) (h2 : j < 18446744073709551616) : CMul i j := .inr ⟨h1, h2⟩
theorem cmul_l {i j : Int} (h1 : -18446744073709551616 < i) (h2 : i < 18446744073709551616) : CMul i j := .inl ⟨h1, h2⟩
theorem cdiv_ok {i j : Int} (h1 : 0 < j) (h2 : j < 1073741824) : CDiv i j := ⟨h1, h2⟩
/-! comprehensions of ints over a range, nothing else made -/
def CP (D : Addr) (H1 : Hp) (y : V) (H4 : Hp) : Prop := ∃ acc, H4 D = some (.lst acc) ∧ acc.length < sizeLine ∧ upd H4 D (.lst (acc ++ [y])) = H1
def rngL (f : Nat → Int) (n : Nat) : List Int := (List.range n).map f
theorem rngL_len {f : Nat → Int} {n : Nat} : (rngL f n).length = n := by unfold rngL; rw [List.length_map, List.length_range]
theorem rngL_succ {f : Nat → Int} {n : Nat} : rngL f (n + 1) = rngL f n ++ [f n] := by
  unfold rngL
  rw [List.range_succ, List.map_append]
  rfl
theorem comp_rngY {te : TE} {σ : L2.St} {H : Hp} {lo : Int} {n : Nat} {g : TG} {vs : List Nat} {D : Addr} {Qd : Hp → Prop} (f : Nat → Int)
    (hs : ∀ i, i < n → g (.int (lo + i)) (wipe σ vs) (upd H D (.lst ((rngL f i).map V.int))) fun σ2 H2 => wipe σ2 vs = wipe σ vs ∧ te σ2 H2 (CP D (upd H D (.lst ((rngL f (i + 1)).map V.int)))))
    (hd : Qd (upd H D (.lst ((rngL f n).map V.int)))) : CompI (Itr lo n) g tYes te vs σ H D Qd := by
  refine comp_range (fun i H' => H' = upd H D (.lst ((rngL f i).map V.int))) rfl ?_ ?_
  · rintro i H' hi rfl
    exact hs i hi
  · rintro H' rfl
    exact hd
theorem cp {f : Nat → Int} {i : Nat} {D : Addr} {H : Hp} {y : V} (hn : i < 100000) (hy : y = .int (f i)) : CP D (upd H D (.lst ((rngL f (i + 1)).map V.int))) y (upd H D (.lst ((rngL f i).map V.int))) := by
  refine ⟨_, upd_same, ?_, ?_⟩
  · rw [List.length_map, rngL_len, sizeLine_eq]
    omega
  · rw [Bel.upd_upd, rngL_succ, List.map_append, hy]
    rfl
theorem wipe_nil {σ : L2.St} : wipe σ [] = σ := rfl
theorem wipe_cons {σ : L2.St} {v : Nat} {vs : List Nat} : wipe σ (v :: vs) = (wipe σ vs).set v none := rfl
theorem loop_rangeN {t : TS} {D : Ends} {σ : L2.St} {H : Hp} {lo : Int} {n m : Nat} {g : TG} (hn : n = m) (Pv : Nat → L2.St → Hp → Prop) (h0 : Pv 0 σ H)
    (hs : ∀ i σ H, i < m → Pv i σ H → g (.int (lo + i)) σ H fun σ2 H2 => t { D with nx := Pv (i + 1), ct := Pv (i + 1), bk := D.nx } σ2 H2) (hd : ∀ σ H, Pv m σ H → D.nx σ H) : LoopI (Itr lo n) g t D σ H := by
  subst hn
  exact loop_range Pv h0 hs hd
section
variable {K : PySem.W.Frag} {H : Hp} {x y : V} {Q : VK} {vs : List V}
theorem g_new {Pa : Addr → Prop} (h : ∀ p : Addr, H p = none → Pa p) : ∀ p : Addr, H p = none → Pa p := h
theorem g_ned (h : rNeD K x y H Q) : rNeD K x y H Q := h
theorem g_eqd (h : rEqD K x y H Q) : rEqD K x y H Q := h
theorem g_isi (h : rIsi K vs H Q) : rIsi K vs H Q := h
end
section
variable {t u : TS} {ta tb : TE} {tA tB' : TT} {D : Ends} {σ : L2.St} {H : Hp} {Q : VK} {QT : Bool → Hp → Prop} {p : Prop} {_ : Decidable p} {b : Bool}
theorem g_sel (h : Sel b t u D σ H) : Sel b t u D σ H := h
theorem g_selE (h : SelE b ta tb σ H Q) : SelE b ta tb σ H Q := h
theorem g_selT (h : SelT b tA tB' σ H QT) : SelT b tA tB' σ H QT := h
theorem sel_p (h : p) (q : t D σ H) : Sel (decide p) t u D σ H := by
  rw [decide_eq_true h]
  exact q
theorem sel_n (h : ¬ p) (q : u D σ H) : Sel (decide p) t u D σ H := by
  rw [decide_eq_false h]
  exact q
theorem selN_p (h : p) (q : u D σ H) : Sel (!decide p) t u D σ H := by
  rw [decide_eq_true h]
  exact q
theorem selN_n (h : ¬ p) (q : t D σ H) : Sel (!decide p) t u D σ H := by
  rw [decide_eq_false h]
  exact q
theorem selE_p (h : p) (q : ta σ H Q) : SelE (decide p) ta tb σ H Q := by
  rw [decide_eq_true h]
  exact q
theorem selE_n (h : ¬ p) (q : tb σ H Q) : SelE (decide p) ta tb σ H Q := by
  rw [decide_eq_false h]
  exact q
theorem selEN_p (h : p) (q : tb σ H Q) : SelE (!decide p) ta tb σ H Q := by
  rw [decide_eq_true h]
  exact q
theorem selEN_n (h : ¬ p) (q : ta σ H Q) : SelE (!decide p) ta tb σ H Q := by
  rw [decide_eq_false h]
  exact q
theorem selT_p (h : p) (q : tA σ H QT) : SelT (decide p) tA tB' σ H QT := by
  rw [decide_eq_true h]
  exact q
theorem selT_n (h : ¬ p) (q : tB' σ H QT) : SelT (decide p) tA tB' σ H QT := by
  rw [decide_eq_false h]
  exact q
theorem selTN_p (h : p) (q : tB' σ H QT) : SelT (!decide p) tA tB' σ H QT := by
  rw [decide_eq_true h]
  exact q
theorem selTN_n (h : ¬ p) (q : tA σ H QT) : SelT (!decide p) tA tB' σ H QT := by
  rw [decide_eq_false h]
  exact q
end
section
variable {t u : TS} {ta tb : TE} {tA tB' : TT} {D : Ends} {σ : L2.St} {H : Hp} {Q : VK} {QT : Bool → Hp → Prop} {p : Prop} {_ : Decidable p}
theorem gd_sel (h : Sel (decide p) t u D σ H) : Sel (decide p) t u D σ H := h
theorem gn_sel (h : Sel (!decide p) t u D σ H) : Sel (!decide p) t u D σ H := h
theorem gd_selE (h : SelE (decide p) ta tb σ H Q) : SelE (decide p) ta tb σ H Q := h
theorem gn_selE (h : SelE (!decide p) ta tb σ H Q) : SelE (!decide p) ta tb σ H Q := h
theorem gd_selT (h : SelT (decide p) tA tB' σ H QT) : SelT (decide p) tA tB' σ H QT := h
theorem gn_selT (h : SelT (!decide p) tA tB' σ H QT) : SelT (!decide p) tA tB' σ H QT := h
end
theorem ex_at {xs : List V} {i : Int} {v : V} {P : V → Prop} (h : atI xs i = some v) (q : P v) : ∃ x, atI xs i = some x ∧ P x := ⟨v, h, q⟩
theorem g_atI {xs : List V} {i : Int} {P : V → Prop} (h : ∃ x, atI xs i = some x ∧ P x) : ∃ x, atI xs i = some x ∧ P x := h
theorem ixN_ok {n : Nat} {i : Int} (h0 : 0 ≤ i) (h1 : i < n) : ixN n i = some i.toNat := by
  unfold ixN
  rw [if_pos h0, if_pos h1]
theorem set_ints {xs : List Int} {j : Nat} {v : Int} : (xs.map V.int).set j (.int v) = (xs.set j v).map V.int := (List.map_set ..).symm
theorem x_bits {te : TE} {σ : L2.St} {H : Hp} {Q : VK} : tBits te σ H Q = te σ H (fun x H1 => ∃ i, x = .int i ∧ Q (.int (Builtin.Int.intBits i : Nat)) H1) := rfl
theorem loop_tup {K : PySem.W.Frag} {t : TS} {D : Ends} {σ : L2.St} {H : Hp} {a : Addr} {xs : List V} {g : TG} (Pv : Nat → L2.St → Hp → Prop) (h0 : Pv 0 σ H) (hl : ∀ i σ H, i ≤ xs.length → Pv i σ H → SqT K H a xs)
    (hs : ∀ i x σ H, xs[i]? = some x → Pv i σ H → g x σ H fun σ2 H2 => t { D with nx := Pv (i + 1), ct := Pv (i + 1), bk := D.nx } σ2 H2) (hd : ∀ σ H, Pv xs.length σ H → D.nx σ H) : LoopI (Itt K a) g t D σ H := for_tup Pv h0 hl hs hd
/-! the number of bits -/
theorem bits_is {r k : Nat} (h1 : 2 ^ k ≤ r) (h2 : r < 2 ^ (k + 1)) : Builtin.Int.intBits (r : Int) = k + 1 := by
  have h0 : r ≠ 0 := by
    have := Nat.two_pow_pos k
    omega
  unfold Builtin.Int.intBits
  rw [if_neg (by simpa using h0), Int.natAbs_natCast]
  have a : k ≤ r.log2 := (Nat.le_log2 h0).mpr h1
  have b : r.log2 < k + 1 := (Nat.log2_lt h0).mpr h2
  omega
theorem bits_at {r : Nat} (h0 : r ≠ 0) : ∃ k, Builtin.Int.intBits (r : Int) = k + 1 ∧ 2 ^ k ≤ r ∧ r < 2 ^ (k + 1) := by
  refine ⟨r.log2, ?_, Nat.log2_self_le h0, Nat.lt_log2_self⟩
  exact bits_is (Nat.log2_self_le h0) Nat.lt_log2_self
/-! enumerate of a list: a new pair each turn -/
theorem x_ienum {K : PySem.W.Frag} {l : TA} {σ : L2.St} {H : Hp} {R : It → Hp → Prop} : iEnum K l σ H R = l σ H (fun vs H1 => ∃ (a : Addr) (xs : List V), vs = [.ref a] ∧ SqL K H1 a xs ∧ R (Ite K a) H1) := rfl
theorem loop_enum {K : PySem.W.Frag} {t : TS} {D : Ends} {σ : L2.St} {H : Hp} {a : Addr} {xs : List V} {g : TG} (Pv : Nat → L2.St → Hp → Prop) (h0 : Pv 0 σ H) (hl : ∀ i σ H, i ≤ xs.length → Pv i σ H → SqL K H a xs)
    (hs : ∀ i x σ H T, xs[i]? = some x → Pv i σ H → H T = none → g (.ref T) σ (upd H T (.tup [.int (i : Nat), x])) fun σ2 H2 => t { D with nx := Pv (i + 1), ct := Pv (i + 1), bk := D.nx } σ2 H2) (hd : ∀ σ H, Pv xs.length σ H → D.nx σ H) : LoopI (Ite K a) g t D σ H := by
  refine ⟨fun i left σ H => left = xs.length - i ∧ i ≤ xs.length ∧ Pv i σ H, ⟨xs.length, by omega, by omega, h0⟩, ?_⟩
  rintro i left σ H ⟨rfl, hi, p⟩
  have q := hl i σ H hi p
  by_cases hlt : i < xs.length
  · refine .inr ⟨⟨xs, xs[i], q, List.getElem?_eq_getElem hlt⟩, Pv (i + 1), fun σ' H' p' => ⟨xs.length - (i + 1), by omega, rfl, hlt, p'⟩, fun x H' y => ?_⟩
    obtain ⟨T, x2, e1, hT, e2, y⟩ := y
    subst e1; subst e2
    exact hs i x2 σ H T (y xs q) p hT
  · obtain rfl : i = xs.length := Nat.le_antisymm hi (by omega)
    exact .inl ⟨⟨xs, q, Nat.le_refl _⟩, hd σ H p⟩
/-- an empty tuple of the program -/
def etB (K : PySem.W.Frag) (p : Addr) : Bool := match K.lookup p with
  | some ⟨.type c, _, .seq its _, _⟩ => decide (c = "tuple") && its.isEmpty
  | _ => false
theorem etB_ok {K : PySem.W.Frag} {p : Addr} (h : etB K p = true) (H : Hp) : SqT K H p [] := by
  unfold etB at h
  split at h
  · rename_i c od its n osl q
    simp only [Bool.and_eq_true, decide_eq_true_eq, Array.isEmpty_iff] at h
    obtain ⟨rfl, rfl⟩ := h
    exact .inr ⟨_, _, n, q, rfl, rfl, Nat.zero_le _, .nil⟩
  · cases h
/-! lists of tuples of ints -/
inductive TkAll (H : Hp) : List V → List (List Int) → Prop
  | nil : TkAll H [] []
  | cons {r : Addr} {t : List Int} {vs : List V} {ts : List (List Int)} : H r = some (.tup (t.map V.int)) → TkAll H vs ts → TkAll H (.ref r :: vs) (t :: ts)
namespace TkAll
variable {H G : Hp} {vs us : List V} {ts ws : List (List Int)}
theorem len (h : TkAll H vs ts) : vs.length = ts.length := by
  induction h with
  | nil => rfl
  | cons _ _ ih => exact congrArg (· + 1) ih
theorem same (h : TkAll H vs ts) (s : Same H G) : TkAll G vs ts := by
  induction h with
  | nil => exact .nil
  | cons e _ ih => exact .cons (s _ _ e) ih
theorem put {m : Addr} {l : List V} {o : HO} (h : TkAll H vs ts) (hm : H m = some (.lst l)) : TkAll (upd H m o) vs ts := by
  induction h with
  | nil => exact .nil
  | cons e _ ih =>
    refine .cons ?_ ih
    rw [upd_ne ?_]
    · exact e
    · intro z
      rw [z, hm] at e
      cases e
theorem append (h : TkAll H vs ts) (g : TkAll H us ws) : TkAll H (vs ++ us) (ts ++ ws) := by
  induction h with
  | nil => exact g
  | cons e _ ih => exact .cons e ih
theorem take (h : TkAll H vs ts) (n : Nat) : TkAll H (vs.take n) (ts.take n) := by
  induction h generalizing n with
  | nil =>
    rw [List.take_nil, List.take_nil]
    exact .nil
  | cons e _ ih =>
    cases n with
    | zero => exact .nil
    | succ n => exact .cons e (ih n)
theorem drop (h : TkAll H vs ts) (n : Nat) : TkAll H (vs.drop n) (ts.drop n) := by
  induction h generalizing n with
  | nil =>
    rw [List.drop_nil, List.drop_nil]
    exact .nil
  | cons e g ih =>
    cases n with
    | zero => exact .cons e g
    | succ n => exact ih n
theorem get (h : TkAll H vs ts) {i : Nat} {x : V} (hx : vs[i]? = some x) : ∃ r t, x = .ref r ∧ ts[i]? = some t ∧ H r = some (.tup (t.map V.int)) := by
  induction h generalizing i with
  | nil => cases hx
  | cons e _ ih =>
    cases i with
    | zero =>
      cases hx
      exact ⟨_, _, rfl, rfl, e⟩
    | succ i => exact ih hx
theorem dp {K : PySem.W.Frag} (h : TkAll H vs ts) : DpAll K H vs (ts.map fun t => .tuple (t.map PyData.int)) := by
  induction h with
  | nil => exact .nil
  | cons e _ ih => exact .cons (.tup (SqT.of e) (dpAll_ints _)) ih
end TkAll
theorem plainAl_toks : ∀ ts : List (List Int), plainAl (ts.map fun t => .tuple (t.map PyData.int)) = true
  | [] => by simp [plainAl]
  | t :: r => by simp [plainAl, plain, plainAl_toks r, plainAl_ints t]
theorem depthAll_toks : ∀ ts : List (List Int), PyData.depthAll (ts.map fun t => .tuple (t.map PyData.int)) ≤ 2
  | [] => by simp [PyData.depthAll]
  | t :: r => by
    have := depthAll_toks r
    have := depthAll_ints' t
    simp only [List.map_cons, PyData.depthAll, PyData.depth]
    omega
theorem dq_toks {K : PySem.W.Frag} {H : Hp} {a : Addr} {vs : List V} {ts : List (List Int)} (h : SqL K H a vs) (g : TkAll H vs ts) : Dq K H (.ref a) (.list (ts.map fun t => .tuple (t.map PyData.int))) := ⟨.lst h g.dp, by simp only [plain]; exact plainAl_toks ts, by
  have := depthAll_toks ts
  simp only [PyData.depth]
  omega⟩
/-! xs[i] op= e, i from the front -/
def rGetL (K : PySem.W.Frag) : V → V → Hp → VK → Prop := fun a b H Q => ∃ (p : Addr) (xs : List V) (i : Int) (v : V), a = .ref p ∧ b = .int i ∧ SqL K H p xs ∧ 0 ≤ i ∧ atI xs i = some v ∧ Q v H
theorem x_getL {K : PySem.W.Frag} {a b : V} {H : Hp} {Q : VK} : rGetL K a b H Q = ∃ (p : Addr) (xs : List V) (i : Int) (v : V), a = .ref p ∧ b = .int i ∧ SqL K H p xs ∧ 0 ≤ i ∧ atI xs i = some v ∧ Q v H := rfl
theorem getL {X : Cx} (K : PySem.W.Frag) (e : X.K = K := by rfl) : PGet X (rGetL K) := by
  subst e
  intro pins s σ H o i ov iv Q I ro ri h
  obtain ⟨p, xs, k, z, rfl, rfl, hq, h0, he, q⟩ := h
  cases ro
  obtain ⟨t, rfl⟩ := ri
  obtain ⟨its, r, pl, hz⟩ := I.list hq
  obtain ⟨j, g1, g2, g3, g4, g5⟩ := atI_get he
  obtain ⟨w, ew, rw'⟩ := r.get g2
  have hn := line63
  have hj : k.toNat = j := by
    rw [seqIndex_of h0 g5] at g1
    exact Option.some.inj g1
  exact PySem.wpAny_getItem_list pl.isList h0 (by omega) (by rw [hj]; simpa using ew) ⟨z, H, I, rw', q⟩
theorem x_augS {to ti te : TE} {tget : V → V → Hp → VK → Prop} {tip : TIp} {tset : TSet} {D : Ends} {σ : L2.St} {H : Hp} : tAugS to ti te tget tip tset D σ H = to σ H (fun o H1 => ti σ H1 (fun i H2 => tget o i H2 (fun x H3 => te σ H3 (fun y H4 => tip x y H4 (fun z H5 => tset o i z H5 (fun H6 => D.nx σ H6)))))) := rfl
/-! replicated, pairs of lists -/
theorem rep_one {n : Nat} {x : Int} : (List.replicate n [V.int x]).flatten = (List.replicate n x).map V.int := by
  rw [List.map_replicate]
  induction n with
  | zero => rfl
  | succ n ih =>
    rw [List.replicate_succ, List.replicate_succ, List.flatten_cons, ih]
    rfl
theorem dq_pair {K : PySem.W.Frag} {H : Hp} {q a b : Addr} {xs ys : List Int} (hq : SqT K H q [.ref a, .ref b]) (ha : SqL K H a (xs.map V.int)) (hb : SqL K H b (ys.map V.int)) : Dq K H (.ref q) (.tuple [.list (xs.map PyData.int), .list (ys.map PyData.int)]) :=
  ⟨.tup hq (.cons (.lst ha (dpAll_ints xs)) (.cons (.lst hb (dpAll_ints ys)) .nil)), by simp [plain, plainAl, plainAl_ints], by
    have := depthAll_ints' xs
    have := depthAll_ints' ys
    simp only [PyData.depth, PyData.depthAll]
    omega⟩
/-! comprehensions of ints over a list of ints, nothing else made -/
theorem take_map_snoc {xs : List Int} {f : Int → Int} {i : Nat} {x : Int} (h : xs[i]? = some x) : (xs.take (i + 1)).map f = (xs.take i).map f ++ [f x] := by
  rw [List.take_add_one, h, List.map_append]
  rfl
theorem comp_intY {K : PySem.W.Frag} {te : TE} {σ : L2.St} {H : Hp} {a : Addr} {xs : List Int} {g : TG} {vs : List Nat} {D : Addr} {Qd : Hp → Prop} (f : Int → Int) (hS : SqL K H a (xs.map V.int)) (hD : H D = none)
    (hs : ∀ i x, xs[i]? = some x → g (.int x) (wipe σ vs) (upd H D (.lst (((xs.take i).map f).map V.int))) fun σ2 H2 => wipe σ2 vs = wipe σ vs ∧ te σ2 H2 (CP D (upd H D (.lst (((xs.take (i + 1)).map f).map V.int)))))
    (hd : Qd (upd H D (.lst ((xs.map f).map V.int)))) : CompI (Itl K a) g tYes te vs σ H D Qd := by
  refine comp_list (xs := xs.map V.int) (fun i H' => H' = upd H D (.lst (((xs.take i).map f).map V.int))) rfl ?_ ?_ ?_
  · rintro i H' _ rfl
    exact (same_upd hD).seq hS
  · rintro i x H' hx rfl
    obtain ⟨z, hz, rfl⟩ := int_at hx
    exact hs i z hz
  · rintro H' rfl
    rw [List.length_map, List.take_length]
    exact hd
theorem cpi {xs : List Int} {f : Int → Int} {i : Nat} {x : Int} {D : Addr} {H : Hp} {y : V} (hx : xs[i]? = some x) (hn : xs.length < 100000) (hy : y = .int (f x)) : CP D (upd H D (.lst (((xs.take (i + 1)).map f).map V.int))) y (upd H D (.lst (((xs.take i).map f).map V.int))) := by
  refine ⟨_, upd_same, ?_, ?_⟩
  · rw [List.length_map, List.length_map, List.length_take, sizeLine_eq]
    omega
  · rw [Bel.upd_upd, take_map_snoc hx, List.map_append, hy]
    rfl
end Bel

namespace Bel
open PySem PySem.Spec PyProof.Rows L2
/-! ### data that never changes: ints, texts, tuples of such -/
mutual
inductive Imm (K : PySem.W.Frag) (H : Hp) : V → PyData → Prop
  | non : Imm K H .non .none
  | bl (b : Bool) : Imm K H (.bl b) (.bool b)
  | int (i : Int) : Imm K H (.int i) (.int i)
  | str (x : Str) : Imm K H (.str x) (.str x)
  | tup {a : Addr} {xs : List V} {ds : List PyData} : SqT K H a xs → ImmL K H xs ds → Imm K H (.ref a) (.tuple ds)
inductive ImmL (K : PySem.W.Frag) (H : Hp) : List V → List PyData → Prop
  | nil : ImmL K H [] []
  | cons {v : V} {vs : List V} {d : PyData} {ds : List PyData} : Imm K H v d → ImmL K H vs ds → ImmL K H (v :: vs) (d :: ds)
end
mutual
theorem Imm.mono {K : PySem.W.Frag} {H H' : Hp} (st : ∀ a xs, SqT K H a xs → SqT K H' a xs) : ∀ {v : V} {d : PyData}, Imm K H v d → Imm K H' v d
  | _, _, .non => .non
  | _, _, .bl b => .bl b
  | _, _, .int i => .int i
  | _, _, .str x => .str x
  | _, _, .tup h g => .tup (st _ _ h) (ImmL.mono st g)
theorem ImmL.mono {K : PySem.W.Frag} {H H' : Hp} (st : ∀ a xs, SqT K H a xs → SqT K H' a xs) : ∀ {vs : List V} {ds : List PyData}, ImmL K H vs ds → ImmL K H' vs ds
  | _, _, .nil => .nil
  | _, _, .cons h g => .cons (Imm.mono st h) (ImmL.mono st g)
end
mutual
theorem Imm.dp {K : PySem.W.Frag} {H : Hp} : ∀ {v : V} {d : PyData}, Imm K H v d → Dp K H v d
  | _, _, .non => .non
  | _, _, .bl b => .bl b
  | _, _, .int i => .int i
  | _, _, .str x => .str x
  | _, _, .tup h g => .tup h (ImmL.dp g)
theorem ImmL.dp {K : PySem.W.Frag} {H : Hp} : ∀ {vs : List V} {ds : List PyData}, ImmL K H vs ds → DpAll K H vs ds
  | _, _, .nil => .nil
  | _, _, .cons h g => .cons (Imm.dp h) (ImmL.dp g)
end
namespace ImmL
variable {K : PySem.W.Frag} {H : Hp} {vs us : List V} {ds es : List PyData}
theorem len : ∀ {vs : List V} {ds : List PyData}, ImmL K H vs ds → vs.length = ds.length
  | _, _, .nil => rfl
  | _, _, .cons _ g => congrArg (· + 1) (len g)
theorem append : ∀ {vs : List V} {ds : List PyData}, ImmL K H vs ds → ImmL K H us es → ImmL K H (vs ++ us) (ds ++ es)
  | _, _, .nil, g => g
  | _, _, .cons h k, g => .cons h (append k g)
theorem one {x : V} {d : PyData} (h : Imm K H x d) : ImmL K H [x] [d] := .cons h .nil
theorem snoc {x : V} {d : PyData} (g : ImmL K H vs ds) (h : Imm K H x d) : ImmL K H (vs ++ [x]) (ds ++ [d]) := g.append (.one h)
theorem get : ∀ {vs : List V} {ds : List PyData} {i : Nat} {x : V}, ImmL K H vs ds → vs[i]? = some x → ∃ d, ds[i]? = some d ∧ Imm K H x d
  | _, _, _, _, .nil, e => by cases e
  | _, _, 0, _, .cons h _, e => by
    cases e
    exact ⟨_, rfl, h⟩
  | _, _, i + 1, _, .cons _ g, e => get (i := i) g e
theorem at_ : ∀ {vs : List V} {ds : List PyData} {i : Nat} {d : PyData}, ImmL K H vs ds → ds[i]? = some d → ∃ x, vs[i]? = some x ∧ Imm K H x d
  | _, _, _, _, .nil, e => by cases e
  | _, _, 0, _, .cons h _, e => by
    cases e
    exact ⟨_, rfl, h⟩
  | _, _, i + 1, _, .cons _ g, e => at_ (i := i) g e
theorem take : ∀ {vs : List V} {ds : List PyData} (n : Nat), ImmL K H vs ds → ImmL K H (vs.take n) (ds.take n)
  | _, _, n, .nil => by
    rw [List.take_nil, List.take_nil]
    exact .nil
  | _, _, 0, .cons _ _ => .nil
  | _, _, n + 1, .cons h g => .cons h (take n g)
theorem drop : ∀ {vs : List V} {ds : List PyData} (n : Nat), ImmL K H vs ds → ImmL K H (vs.drop n) (ds.drop n)
  | _, _, n, .nil => by
    rw [List.drop_nil, List.drop_nil]
    exact .nil
  | _, _, 0, .cons h g => .cons h g
  | _, _, n + 1, .cons _ g => drop n g
theorem of_is : ∀ ns : List Int, ImmL K H (ns.map V.int) (ns.map PyData.int)
  | [] => .nil
  | n :: r => .cons (.int n) (of_is r)
theorem of_ints : ∀ {ns : List Int} {vs : List V}, ImmL K H vs (ns.map PyData.int) → vs = ns.map V.int
  | [], _, .nil => rfl
  | _ :: _, _, .cons (.int _) g => by rw [of_ints g]; rfl
theorem rev : ∀ {vs : List V} {ds : List PyData}, ImmL K H vs ds → ImmL K H vs.reverse ds.reverse
  | _, _, .nil => .nil
  | _, _, .cons h g => by
    rw [List.reverse_cons, List.reverse_cons]
    exact (rev g).snoc h
theorem set : ∀ {vs : List V} {ds : List PyData} {x : V} {d : PyData} (i : Nat), Imm K H x d → ImmL K H vs ds → ImmL K H (vs.set i x) (ds.set i d)
  | _, _, _, _, _, _, .nil => .nil
  | _, _, _, _, 0, h, .cons _ g => .cons h g
  | _, _, _, _, i + 1, h, .cons k g => .cons k (set i h g)
end ImmL
theorem Imm.of_int {K : PySem.W.Frag} {H : Hp} {v : V} {i : Int} (h : Imm K H v (.int i)) : v = .int i := by
  cases h
  rfl
theorem Imm.of_str {K : PySem.W.Frag} {H : Hp} {v : V} {x : Str} (h : Imm K H v (.str x)) : v = .str x := by
  cases h
  rfl
theorem Imm.of_tup {K : PySem.W.Frag} {H : Hp} {v : V} {ds : List PyData} (h : Imm K H v (.tuple ds)) : ∃ a xs, v = .ref a ∧ SqT K H a xs ∧ ImmL K H xs ds := by
  cases h with
  | tup h g => exact ⟨_, _, rfl, h, g⟩
theorem Imm.of_ints {K : PySem.W.Frag} {H : Hp} {v : V} {ns : List Int} (h : Imm K H v (.tuple (ns.map PyData.int))) : ∃ a, v = .ref a ∧ SqT K H a (ns.map V.int) := by
  cases h with
  | tup h g => exact ⟨_, rfl, ImmL.of_ints g ▸ h⟩
/-- a tuple of ints -/
abbrev tI (ns : List Int) : PyData := .tuple (ns.map PyData.int)
theorem Imm.of_is {K : PySem.W.Frag} {H : Hp} {a : Addr} {ns : List Int} (h : SqT K H a (ns.map V.int)) : Imm K H (.ref a) (tI ns) := .tup h (ImmL.of_is ns)
/-! ### what is owned -/
inductive As where
  | pt (a : Addr) (o : HO)
  | im (v : V) (d : PyData)
  | ims (vs : List V) (ds : List PyData)
  | objs (ps : List (Addr × HO))
  | tab (a : Addr)
/-- the name that the one lambda's code object bears -/
def qLam : Str := "_formed_rows.<locals>.<lambda>"
def As.holds (K : PySem.W.Frag) (B H : Hp) : As → Prop
  | .pt a o => H a = some o ∧ B a = none
  | .im v d => Imm K H v d
  | .ims vs ds => ImmL K H vs ds
  | .objs ps => ∀ q ∈ ps, H q.1 = some q.2 ∧ B q.1 = none
  | .tab a => LamX.TabS H a qLam ∧ B a = none
/-- addresses -/
def As.ad : As → List Addr
  | .pt a _ => [a]
  | .objs ps => ps.map Prod.fst
  | .tab a => [a]
  | _ => []
def ads (l : List As) : List Addr := l.flatMap As.ad
structure Own (K : PySem.W.Frag) (B H : Hp) (l : List As) : Prop where
  same : Same B H
  nd : (ads l).Nodup
  all : ∀ x ∈ l, x.holds K B H
/-- may be changed -/
def mutb : HO → Bool
  | .tup _ => false
  | .frz _ _ => false
  | .ext _ => false
  | _ => true
theorem tabS_upd {H : Hp} {P a : Addr} {q : Str} {o o' : HO} (h : H a = some o) (m : mutb o = true) (n : P ≠ a) (t : LamX.TabS H P q) : LamX.TabS (upd H a o') P q := by
  obtain ⟨ps, h1, h2, h3⟩ := t
  refine ⟨ps, by rw [upd_ne n]; exact h1, h2, fun pos cv hc => ?_⟩
  obtain ⟨c, e1, e2⟩ := h3 pos cv hc
  refine ⟨c, e1, ?_⟩
  rw [upd_ne fun z => ?_]
  · exact e2
  · rw [← z, e2] at h
    cases h
    cases m
theorem tabS_some {H : Hp} {P : Addr} {q : Str} (t : LamX.TabS H P q) : ∃ o, H P = some o := by
  obtain ⟨ps, h1, _⟩ := t
  exact ⟨_, h1⟩
theorem tabS_keep {H H' : Hp} {P : Addr} {q : Str} (t : LamX.TabS H P q) (k : ∀ o, H P = some o → H' P = some o) (e : ∀ b o, H b = some o → mutb o = false → H' b = some o) : LamX.TabS H' P q := by
  obtain ⟨ps, h1, h2, h3⟩ := t
  refine ⟨ps, k _ h1, h2, fun pos cv hc => ?_⟩
  obtain ⟨c, e1, e2⟩ := h3 pos cv hc
  exact ⟨c, e1, e _ _ e2 rfl⟩
theorem sqT_upd {K : PySem.W.Frag} {H : Hp} {a b : Addr} {o o' : HO} {xs : List V} (h : H b = some o) (m : mutb o = true) (g : SqT K H a xs) : SqT K (upd H b o') a xs := by
  rcases g with (g | ⟨u, g⟩) | g
  · refine .inl (.inl ?_)
    rw [upd_ne ?_]
    · exact g
    · rintro rfl
      rw [g] at h
      cases h
      cases m
  · refine .inl (.inr ⟨u, ?_⟩)
    rw [upd_ne ?_]
    · exact g
    · rintro rfl
      rw [g] at h
      cases h
      cases m
  · exact .inr g
inductive Put : List As → Addr → HO → HO → List As → Prop
  | here {l : List As} {a : Addr} {o o' : HO} : Put (.pt a o :: l) a o o' (.pt a o' :: l)
  | there {l l' : List As} {x : As} {a : Addr} {o o' : HO} : Put l a o o' l' → Put (x :: l) a o o' (x :: l')
theorem Put.mem {l l' : List As} {a : Addr} {o o' : HO} (p : Put l a o o' l') : As.pt a o ∈ l := by
  induction p with
  | here => exact .head _
  | there _ ih => exact .tail _ ih
theorem Put.ads {l l' : List As} {a : Addr} {o o' : HO} (p : Put l a o o' l') : ads l' = ads l := by
  induction p with
  | here => rfl
  | there _ ih =>
    unfold Bel.ads at ih ⊢
    rw [List.flatMap_cons, List.flatMap_cons, ih]
theorem mem_ads {l : List As} {a : Addr} {o : HO} (h : As.pt a o ∈ l) : a ∈ ads l := List.mem_flatMap.mpr ⟨_, h, List.mem_singleton.mpr rfl⟩
theorem Put.old {l l' : List As} {a : Addr} {o o' : HO} (p : Put l a o o' l') (nd : (Bel.ads l).Nodup) : ∀ x ∈ l', x = .pt a o' ∨ (x ∈ l ∧ a ∉ x.ad) := by
  induction p with
  | @here l a o o' =>
    intro x hx
    rcases List.mem_cons.mp hx with e | h
    · exact .inl e
    · refine .inr ⟨.tail _ h, fun z => ?_⟩
      unfold Bel.ads at nd
      rw [List.flatMap_cons] at nd
      exact (List.nodup_append.mp nd).2.2 a (List.mem_singleton.mpr rfl) a (List.mem_flatMap.mpr ⟨x, h, z⟩) rfl
  | @there l l' y a o o' q ih =>
    intro x hx
    unfold Bel.ads at nd
    rw [List.flatMap_cons] at nd
    have nd2 := List.nodup_append.mp nd
    rcases List.mem_cons.mp hx with e | h
    · subst e
      refine .inr ⟨.head _, fun z => ?_⟩
      exact nd2.2.2 a z a (mem_ads q.mem) rfl
    · rcases ih nd2.2.1 x h with e | ⟨g, z⟩
      · exact .inl e
      · exact .inr ⟨.tail _ g, z⟩
theorem ads_sub {l l' : List As} (s : l'.Sublist l) : (ads l').Sublist (ads l) := by
  unfold ads
  induction s with
  | slnil => exact List.Sublist.refl _
  | cons y _ ih =>
    rw [List.flatMap_cons]
    exact ih.trans (List.sublist_append_right _ _)
  | cons_cons y _ ih =>
    rw [List.flatMap_cons, List.flatMap_cons]
    exact (List.Sublist.refl _).append ih
namespace Own
variable {K : PySem.W.Frag} {B H H' : Hp} {l l' : List As} {a : Addr} {o o' : HO}
theorem start : Own K H H [] := ⟨Same.refl H, List.nodup_nil, fun _ h => nomatch h⟩
theorem get (L : Own K B H l) (m : As.pt a o ∈ l) : H a = some o := (L.all _ m).1
theorem fresh (L : Own K B H l) (m : As.pt a o ∈ l) : B a = none := (L.all _ m).2
theorem imm (L : Own K B H l) {v : V} {d : PyData} (m : As.im v d ∈ l) : Imm K H v d := L.all _ m
theorem imms (L : Own K B H l) {vs : List V} {ds : List PyData} (m : As.ims vs ds ∈ l) : ImmL K H vs ds := L.all _ m
theorem sq (L : Own K B H l) {xs : List V} (h : SqL K B a xs) : SqL K H a xs := L.same.seq h
theorem sqT (L : Own K B H l) {xs : List V} (h : SqT K B a xs) : SqT K H a xs := Same.seqT L.same h
theorem base (L : Own K B H l) {o : HO} (h : B a = some o) : H a = some o := L.same _ _ h
theorem holds_same {x : As} (s : Same H H') (h : x.holds K B H) : x.holds K B H' := by
  cases x with
  | pt a o => exact ⟨s _ _ h.1, h.2⟩
  | im v d => exact Imm.mono (fun _ _ g => Same.seqT s g) h
  | ims v d => exact ImmL.mono (fun _ _ g => Same.seqT s g) h
  | objs ps => exact fun q m => ⟨s _ _ (h q m).1, (h q m).2⟩
  | tab a => exact ⟨h.1.ext s, h.2⟩
theorem call (L : Own K B H l) (s : Same H H') : Own K B H' l := ⟨L.same.trans s, L.nd, fun x hx => holds_same s (L.all x hx)⟩
theorem add0 (L : Own K B H l) {H1 : Hp} {p : Addr} {o : HO} (s : Same H H1) (hp : H p = none) (hl : H1 p = some o) : Own K B H1 (.pt p o :: l) := by
  refine ⟨L.same.trans s, ?_, fun x hx => ?_⟩
  · refine List.nodup_append.mpr ⟨List.nodup_cons.mpr ⟨List.not_mem_nil, List.nodup_nil⟩, L.nd, fun b hb c hc e => ?_⟩
    obtain rfl := List.mem_singleton.mp hb
    subst e
    obtain ⟨x, hx, hb⟩ := List.mem_flatMap.mp hc
    cases x with
    | pt a o =>
      obtain rfl := List.mem_singleton.mp hb
      have := (L.all _ hx).1
      rw [hp] at this
      cases this
    | im _ _ => cases hb
    | ims _ _ => cases hb
    | objs ps =>
      obtain ⟨q, m, e⟩ := List.mem_map.mp hb
      have := (L.all _ hx q m).1
      rw [e, hp] at this
      cases this
    | tab a =>
      obtain rfl := List.mem_singleton.mp hb
      obtain ⟨o, this⟩ := tabS_some (L.all _ hx).1
      rw [hp] at this
      cases this
  · rcases List.mem_cons.mp hx with e | h
    · rw [e]
      exact ⟨hl, L.same.free hp⟩
    · exact holds_same s (L.all x h)
theorem add (L : Own K B H l) {y : As} (h : y.holds K B H) (n : ∀ b ∈ y.ad, b ∉ ads l) (nob : ∀ ps, y = .objs ps → (ps.map Prod.fst).Nodup := by intro _ h; cases h) : Own K B H (y :: l) := by
  refine ⟨L.same, ?_, fun x hx => ?_⟩
  · unfold ads
    rw [List.flatMap_cons]
    refine List.nodup_append.mpr ⟨?_, L.nd, fun b hb c hc e => n b hb (e ▸ hc)⟩
    cases y with
    | pt a o => exact List.nodup_cons.mpr ⟨List.not_mem_nil, List.nodup_nil⟩
    | im _ _ => exact List.nodup_nil
    | ims _ _ => exact List.nodup_nil
    | objs ps => exact nob ps rfl
    | tab a => exact List.nodup_cons.mpr ⟨List.not_mem_nil, List.nodup_nil⟩
  · rcases List.mem_cons.mp hx with e | h'
    · rw [e]
      exact h
    · exact L.all x h'
theorem addIm (L : Own K B H l) {v : V} {d : PyData} (h : Imm K H v d) : Own K B H (.im v d :: l) := L.add h (fun _ h => nomatch h)
theorem addIms (L : Own K B H l) {vs : List V} {ds : List PyData} (h : ImmL K H vs ds) : Own K B H (.ims vs ds :: l) := L.add h (fun _ h => nomatch h)
theorem ad_some (L : Own K B H l) {b : Addr} (h : b ∈ ads l) : ∃ o, H b = some o := by
  obtain ⟨x, hx, hb⟩ := List.mem_flatMap.mp h
  cases x with
  | pt a o =>
    rw [List.mem_singleton.mp hb]
    exact ⟨o, (L.all _ hx).1⟩
  | im _ _ => cases hb
  | ims _ _ => cases hb
  | objs ps =>
    obtain ⟨q, m, e⟩ := List.mem_map.mp hb
    rw [← e]
    exact ⟨q.2, (L.all _ hx q m).1⟩
  | tab a =>
    rw [List.mem_singleton.mp hb]
    exact tabS_some (L.all _ hx).1
theorem ad_fresh (L : Own K B H l) {b : Addr} (h : b ∈ ads l) : B b = none := by
  obtain ⟨x, hx, hb⟩ := List.mem_flatMap.mp h
  cases x with
  | pt a o =>
    rw [List.mem_singleton.mp hb]
    exact (L.all _ hx).2
  | im _ _ => cases hb
  | ims _ _ => cases hb
  | objs ps =>
    obtain ⟨q, m, e⟩ := List.mem_map.mp hb
    rw [← e]
    exact (L.all _ hx q m).2
  | tab a =>
    rw [List.mem_singleton.mp hb]
    exact (L.all _ hx).2
/-- a call that made what l' says -/
theorem calls (L : Own K B H l) (M : Own K H H' l') : Own K B H' (l' ++ l) := by
  refine ⟨L.same.trans M.same, ?_, fun x hx => ?_⟩
  · unfold ads
    rw [List.flatMap_append]
    refine List.nodup_append.mpr ⟨M.nd, L.nd, fun b hb c hc e => ?_⟩
    obtain ⟨o, h⟩ := L.ad_some (e ▸ hc : b ∈ ads l)
    rw [M.ad_fresh hb] at h
    cases h
  · rcases List.mem_append.mp hx with h | h
    · have := M.all x h
      cases x with
      | pt a o => exact ⟨this.1, L.same.free this.2⟩
      | im _ _ => exact this
      | ims _ _ => exact this
      | objs ps => exact fun q m => ⟨(this q m).1, L.same.free (this q m).2⟩
      | tab a => exact ⟨this.1, L.same.free this.2⟩
    · exact holds_same M.same (L.all x h)
theorem c0 (L : Own K B H l) (M : Own K H H' []) : Own K B H' l := L.calls M
theorem c1 {x : As} (L : Own K B H l) (M : Own K H H' [x]) : Own K B H' (x :: l) := L.calls M
theorem c2 {x y : As} (L : Own K B H l) (M : Own K H H' [x, y]) : Own K B H' (x :: y :: l) := L.calls M
theorem c3 {x y z : As} (L : Own K B H l) (M : Own K H H' [x, y, z]) : Own K B H' (x :: y :: z :: l) := L.calls M
theorem new (L : Own K B H l) {p : Addr} (h : H p = none) (o : HO) : Own K B (upd H p o) (.pt p o :: l) := by
  refine (L.call (same_upd h)).add ⟨upd_same, L.same.free h⟩ fun b hb hn => ?_
  obtain rfl := List.mem_singleton.mp hb
  obtain ⟨u, e⟩ := L.ad_some hn
  rw [h] at e
  cases e
theorem put (L : Own K B H l) (m : mutb o = true) (p : Put l a o o' l') : Own K B (upd H a o') l' := by
  have ha := L.get p.mem
  have hB := L.fresh p.mem
  refine ⟨same_put L.same hB, p.ads ▸ L.nd, fun x hx => ?_⟩
  rcases p.old L.nd x hx with e | ⟨h, n⟩
  · subst e
    exact ⟨upd_same, hB⟩
  · have q := L.all x h
    cases x with
    | pt b u =>
      refine ⟨?_, q.2⟩
      rw [upd_ne fun e => n (List.mem_singleton.mpr e.symm)]
      exact q.1
    | im _ _ => exact Imm.mono (fun _ _ g => sqT_upd ha m g) q
    | ims _ _ => exact ImmL.mono (fun _ _ g => sqT_upd ha m g) q
    | objs ps =>
      refine fun r hr => ⟨?_, (q r hr).2⟩
      rw [upd_ne fun e => n (by rw [← e]; exact List.mem_map.mpr ⟨r, hr, rfl⟩)]
      exact (q r hr).1
    | tab b => exact ⟨tabS_upd ha m (fun e => n (List.mem_singleton.mpr e.symm)) q.1, q.2⟩
theorem drop1 {x : As} (L : Own K B H (x :: l)) : Own K B H l := by
  refine ⟨L.same, ?_, fun y hy => L.all y (.tail _ hy)⟩
  have := L.nd
  unfold ads at this
  rw [List.flatMap_cons] at this
  exact (List.nodup_append.mp this).2.1
theorem sub (L : Own K B H l) (s : l'.Sublist l) : Own K B H l' := by
  refine ⟨L.same, ?_, fun y hy => L.all y (s.subset hy)⟩
  exact List.Nodup.sublist (ads_sub s) L.nd
theorem perm (L : Own K B H l) (s : l.Perm l') : Own K B H l' := ⟨L.same, (s.flatMap_right _).nodup_iff.mp L.nd, fun x hx => L.all x (s.mem_iff.mpr hx)⟩
theorem rebase {B' : Hp} (L : Own K B H l) (s : Same B' B) : Own K B' H l := by
  refine ⟨s.trans L.same, L.nd, fun x hx => ?_⟩
  have q := L.all x hx
  cases x with
  | pt a o => exact ⟨q.1, s.free q.2⟩
  | im _ _ => exact q
  | ims _ _ => exact q
  | objs ps => exact fun r hr => ⟨(q r hr).1, s.free (q r hr).2⟩
  | tab a => exact ⟨q.1, s.free q.2⟩
end Own
/-! ### without some cells: what a call may change -/
def delL (H : Hp) (as : List Addr) : Hp := fun b => if b ∈ as then none else H b
theorem delL_in {H : Hp} {as : List Addr} {b : Addr} (h : b ∈ as) : delL H as b = none := if_pos h
theorem delL_out {H : Hp} {as : List Addr} {b : Addr} (h : b ∉ as) : delL H as b = H b := if_neg h
/-- taken out of l: the cells of l1; what stays: l0 -/
theorem Own.muts {K : PySem.W.Frag} {B H H' : Hp} {l1 l0 l' : List As} (L : Own K B H (l1 ++ l0)) (m : ∀ a o, As.pt a o ∈ l1 → mutb o = true) (M : Own K (delL H (ads l1)) H' l') (mo : ∀ ps, As.objs ps ∈ l1 → ∀ q ∈ ps, mutb q.2 = true := by intro ps h; exact absurd h (by simp)) : Own K B H' (l' ++ l0) := by
  have nd := L.nd
  unfold ads at nd
  rw [List.flatMap_append] at nd
  have nd := List.nodup_append.mp nd
  have key : ∀ b o, H b = some o → b ∉ ads l1 → H' b = some o := fun b o h n => M.same b o ((delL_out n).trans h)
  have hB : Same B H' := fun b o h => by
    refine key b o (L.same b o h) fun z => ?_
    have : B b = none := L.ad_fresh (by unfold ads; rw [List.flatMap_append]; exact List.mem_append_left _ z)
    rw [h] at this
    cases this
  have no : ∀ a o, H a = some o → mutb o = false → a ∉ ads l1 := fun a o h e z => by
    obtain ⟨x, hx, hb⟩ := List.mem_flatMap.mp z
    cases x with
    | pt b u =>
      obtain rfl := List.mem_singleton.mp hb
      have := L.get (List.mem_append_left _ hx)
      rw [h] at this
      cases this
      rw [m _ _ hx] at e
      cases e
    | im _ _ => cases hb
    | ims _ _ => cases hb
    | objs ps =>
      obtain ⟨q, mq, eq⟩ := List.mem_map.mp hb
      have := (L.all _ (List.mem_append_left _ hx) q mq).1
      rw [eq, h] at this
      cases this
      rw [mo ps hx q mq] at e
      cases e
    | tab b =>
      obtain rfl := List.mem_singleton.mp hb
      obtain ⟨⟨qs, this, _⟩, _⟩ := L.all _ (List.mem_append_left _ hx)
      rw [h] at this
      cases this
      cases e
  have hT : ∀ a xs, SqT K H a xs → SqT K H' a xs := by
    intro a xs g
    rcases g with (g | ⟨u, g⟩) | g
    · exact .inl (.inl (key _ _ g (no _ _ g rfl)))
    · exact .inl (.inr ⟨u, key _ _ g (no _ _ g rfl)⟩)
    · exact .inr g
  refine ⟨hB, ?_, fun x hx => ?_⟩
  · unfold ads
    rw [List.flatMap_append]
    refine List.nodup_append.mpr ⟨M.nd, nd.2.1, fun b hb c hc e => ?_⟩
    subst e
    obtain ⟨o, h⟩ := L.ad_some (b := b) (by unfold ads; rw [List.flatMap_append]; exact List.mem_append_right _ hc)
    have f := M.ad_fresh hb
    by_cases z : b ∈ ads l1
    · exact nd.2.2 b z b hc rfl
    · rw [delL_out z, h] at f
      cases f
  · rcases List.mem_append.mp hx with h | h
    · have q := M.all x h
      cases x with
      | pt a o =>
        refine ⟨q.1, ?_⟩
        have f := q.2
        by_cases z : a ∈ ads l1
        · exact L.ad_fresh (by unfold ads; rw [List.flatMap_append]; exact List.mem_append_left _ z)
        · rw [delL_out z] at f
          exact L.same.free f
      | im _ _ => exact q
      | ims _ _ => exact q
      | objs ps =>
        refine fun r hr => ⟨(q r hr).1, ?_⟩
        have f := (q r hr).2
        by_cases z : r.1 ∈ ads l1
        · exact L.ad_fresh (by unfold ads; rw [List.flatMap_append]; exact List.mem_append_left _ z)
        · rw [delL_out z] at f
          exact L.same.free f
      | tab a =>
        refine ⟨q.1, ?_⟩
        have f := q.2
        by_cases z : a ∈ ads l1
        · exact L.ad_fresh (by unfold ads; rw [List.flatMap_append]; exact List.mem_append_left _ z)
        · rw [delL_out z] at f
          exact L.same.free f
    · have q := L.all x (List.mem_append_right _ h)
      cases x with
      | pt a o =>
        refine ⟨key a o q.1 fun z => ?_, q.2⟩
        exact nd.2.2 a z a (mem_ads h) rfl
      | im _ _ => exact Imm.mono hT q
      | ims _ _ => exact ImmL.mono hT q
      | objs ps =>
        refine fun r hr => ⟨key r.1 r.2 (q r hr).1 fun z => ?_, (q r hr).2⟩
        exact nd.2.2 r.1 z r.1 (List.mem_flatMap.mpr ⟨_, h, List.mem_map.mpr ⟨r, hr, rfl⟩⟩) rfl
      | tab a =>
        refine ⟨tabS_keep q.1 (fun o e => key _ _ e fun z => ?_) fun b o e f => key _ _ e (no _ _ e f), q.2⟩
        exact nd.2.2 a z a (List.mem_flatMap.mpr ⟨_, h, List.mem_singleton.mpr rfl⟩) rfl
/-- the cells of l0 alone are changed by the def: its base is without them -/
theorem Own.enter {K : PySem.W.Frag} {B H : Hp} {l0 : List As} (L : Own K B H l0) : Own K (delL H (ads l0)) H l0 := by
  refine ⟨fun b o h => ?_, L.nd, fun x hx => ?_⟩
  · by_cases z : b ∈ ads l0
    · rw [delL_in z] at h
      cases h
    · rw [delL_out z] at h
      exact h
  · have q := L.all x hx
    cases x with
    | pt a o => exact ⟨q.1, delL_in (mem_ads hx)⟩
    | im _ _ => exact q
    | ims _ _ => exact q
    | objs ps => exact fun r hr => ⟨(q r hr).1, delL_in (List.mem_flatMap.mpr ⟨_, hx, List.mem_map.mpr ⟨r, hr, rfl⟩⟩)⟩
    | tab a => exact ⟨q.1, delL_in (List.mem_flatMap.mpr ⟨_, hx, List.mem_singleton.mpr rfl⟩)⟩
/-! ### steps that make and change, the heap told by what is owned -/
def NewO (H : Hp) (o : HO) (Q : VK) : Prop := ∀ p : Addr, H p = none → Q (.ref p) (upd H p o)
def AppO (H : Hp) (p : Addr) (y : V) (Q : VK) : Prop := ∃ xs, H p = some (.lst xs) ∧ xs.length < sizeLine ∧ Q .non (upd H p (.lst (xs ++ [y])))
def SetO (H : Hp) (p : Addr) (k : Int) (v : V) (QH : Hp → Prop) : Prop := ∃ xs j, H p = some (.lst xs) ∧ ixN xs.length k = some j ∧ QH (upd H p (.lst (xs.set j v)))
section
variable {K : PySem.W.Frag} {B H : Hp} {l l' : List As} {o : HO} {Q : VK} {QH : Hp → Prop} {p : Addr} {xs : List V} {y : V} {k : Int} {j : Nat}
theorem newO (L : Own K B H l) (h : ∀ p H', Own K B H' (.pt p o :: l) → Q (.ref p) H') : NewO H o Q := fun p hp => h p _ (L.new hp o)
theorem appO (L : Own K B H l) (pp : Put l p (.lst xs) (.lst (xs ++ [y])) l') (hs : xs.length < sizeLine) (h : ∀ H', Own K B H' l' → Q .non H') : AppO H p y Q := ⟨xs, L.get pp.mem, hs, h _ (L.put rfl pp)⟩
theorem setO (L : Own K B H l) (pp : Put l p (.lst xs) (.lst (xs.set k.toNat y)) l') (h0 : 0 ≤ k) (h1 : k < xs.length) (h : ∀ H', Own K B H' l' → QH H') : SetO H p k y QH := ⟨xs, _, L.get pp.mem, ixN_ok h0 h1, h _ (L.put rfl pp)⟩
theorem g_newO (h : NewO H o Q) : NewO H o Q := h
theorem g_appO (h : AppO H p y Q) : AppO H p y Q := h
theorem g_setO (h : SetO H p k y QH) : SetO H p k y QH := h
end
section
variable {K : PySem.W.Frag} {H : Hp} {Q : VK} {a b v : V} {vs : List V} {l : TA} {σ : L2.St} {lo hi : Option Int} {QH : Hp → Prop}
theorem n_tup : tTup l σ H Q = l σ H (fun xs H1 => xs.length ≤ sizeLine ∧ NewO H1 (.tup xs) Q) := rfl
theorem n_lst : tLst l σ H Q = l σ H (fun xs H1 => xs.length ≤ sizeLine ∧ NewO H1 (.lst xs) Q) := rfl
theorem n_rSlL : rSlL K a lo hi H Q = ∃ p xs, a = .ref p ∧ SqL K H p xs ∧ NewO H (.lst (cutV xs lo hi)) Q := rfl
theorem n_rCat : rCat a b H Q = ∃ l m xs zs, a = .ref l ∧ b = .ref m ∧ H l = some (.lst xs) ∧ H m = some (.lst zs) ∧ xs.length + zs.length ≤ sizeLine ∧ NewO H (.lst (xs ++ zs)) Q := rfl
theorem n_rRep : rRep a b H Q = ∃ l k xs, a = .ref l ∧ b = .int k ∧ H l = some (.lst xs) ∧ -(2 ^ 63) ≤ k ∧ k < 2 ^ 63 ∧ xs.length * k.toNat ≤ sizeLine ∧ NewO H (.lst (List.replicate k.toNat xs).flatten) Q := by first | rfl | (unfold rRep; rfl)
theorem n_rApp : rAppend a vs H Q = ∃ l y, a = .ref l ∧ vs = [y] ∧ AppO H l y Q := propext ⟨fun ⟨l, xs, y, e1, e2, h⟩ => ⟨l, y, e1, e2, xs, h⟩, fun ⟨l, y, e1, e2, xs, h⟩ => ⟨l, xs, y, e1, e2, h⟩⟩
theorem n_setL {o i' : V} : rSetL o i' v H QH = ∃ p k, o = .ref p ∧ i' = .int k ∧ SetO H p k v QH := propext ⟨fun ⟨p, xs, k, j, e1, e2, h⟩ => ⟨p, k, e1, e2, xs, j, h⟩, fun ⟨p, k, e1, e2, xs, j, h⟩ => ⟨p, xs, k, j, e1, e2, h⟩⟩
/-- list(..) -/
def rLs (K : PySem.W.Frag) (xs : List V) (H : Hp) (Q : VK) : Prop := ∃ p ys, xs = [.ref p] ∧ (SqL K H p ys ∨ SqT K H p ys) ∧ NewO H (.lst ys) Q
theorem n_rLs {xs : List V} : rLs K xs H Q = ∃ p ys, xs = [.ref p] ∧ (SqL K H p ys ∨ SqT K H p ys) ∧ NewO H (.lst ys) Q := rfl
end
theorem lsK {X : Cx} (K : PySem.W.Frag) (h : X.K = K := by rfl) : CallR X (.type "list") (rLs K) := h ▸ call_list_of
/-! comprehensions -/
def EndC (D : Addr) (N : Hp → Prop) (y : V) (H4 : Hp) : Prop := ∃ acc, H4 D = some (.lst acc) ∧ acc.length < sizeLine ∧ N (upd H4 D (.lst (acc ++ [y])))
theorem endC {K : PySem.W.Frag} {B H : Hp} {l l' : List As} {D : Addr} {N : Hp → Prop} {y : V} {acc : List V} (L : Own K B H l) (pp : Put l D (.lst acc) (.lst (acc ++ [y])) l') (hs : acc.length < sizeLine) (h : ∀ H', Own K B H' l' → N H') : ∃ acc, H D = some (.lst acc) ∧ acc.length < sizeLine ∧ N (upd H D (.lst (acc ++ [y]))) := ⟨acc, L.get pp.mem, hs, h _ (L.put rfl pp)⟩
theorem mem_here {α : Type} {x : α} {l : List α} : x ∈ x :: l := List.Mem.head _
theorem mem_there {α : Type} {x y : α} {l : List α} (h : x ∈ l) : x ∈ y :: l := List.Mem.tail _ h
/-! lists of ints -/
abbrev pI (a : Addr) (ns : List Int) : As := .pt a (.lst (ns.map V.int))
theorem appI {K : PySem.W.Frag} {B H : Hp} {l l' : List As} {Q : VK} {p : Addr} {ns : List Int} {y : Int} (L : Own K B H l) (pp : Put l p (.lst (ns.map V.int)) (.lst ((ns ++ [y]).map V.int)) l') (hs : ns.length < sizeLine) (h : ∀ H', Own K B H' l' → Q .non H') : AppO H p (.int y) Q :=
  ⟨ns.map V.int, L.get pp.mem, by rw [List.length_map]; exact hs, by
    have e : ns.map V.int ++ [V.int y] = (ns ++ [y]).map V.int := by rw [List.map_append]; rfl
    rw [e]
    exact h _ (L.put rfl pp)⟩
theorem setI {K : PySem.W.Frag} {B H : Hp} {l l' : List As} {QH : Hp → Prop} {p : Addr} {ns : List Int} {k y : Int} (L : Own K B H l) (pp : Put l p (.lst (ns.map V.int)) (.lst ((ns.set k.toNat y).map V.int)) l') (h0 : 0 ≤ k) (h1 : k < ns.length) (h : ∀ H', Own K B H' l' → QH H') : SetO H p k (.int y) QH :=
  ⟨ns.map V.int, k.toNat, L.get pp.mem, ixN_ok h0 (by rw [List.length_map]; exact h1), by
    rw [set_ints]
    exact h _ (L.put rfl pp)⟩
theorem ints_cat {xs ys : List Int} : xs.map V.int ++ ys.map V.int = (xs ++ ys).map V.int := List.map_append.symm
theorem ints_app1 {xs : List Int} {y : Int} : xs.map V.int ++ [V.int y] = (xs ++ [y]).map V.int := by rw [List.map_append]; rfl
theorem ints_len {xs : List Int} : (xs.map V.int).length = xs.length := List.length_map ..
theorem ints_take {xs : List Int} {n : Nat} : (xs.map V.int).take n = (xs.take n).map V.int := List.map_take.symm
theorem ints_drop {xs : List Int} {n : Nat} : (xs.map V.int).drop n = (xs.drop n).map V.int := List.map_drop.symm
/-! comprehensions of ints -/
/-- the end of a turn: the list goes on as ys -/
def CQ (K : PySem.W.Frag) (B : Hp) (D : Addr) (l : List As) (ys : List Int) (y : V) (H4 : Hp) : Prop := ∃ acc, H4 D = some (.lst acc) ∧ acc.length < sizeLine ∧ Own K B (upd H4 D (.lst (acc ++ [y]))) (.pt D (.lst (ys.map V.int)) :: l)
theorem cq {K : PySem.W.Frag} {B H : Hp} {D : Addr} {l : List As} {ys : List Int} {y : Int} (L : Own K B H (.pt D (.lst (ys.map V.int)) :: l)) (hn : ys.length < 100000) : CQ K B D l (ys ++ [y]) (.int y) H := by
  refine ⟨_, L.get (.head _), line_map (Nat.le_of_lt hn) (by decide), ?_⟩
  have := L.put (o' := .lst (ys.map V.int ++ [V.int y])) rfl .here
  rw [List.map_append]
  exact this
theorem g_cq {K : PySem.W.Frag} {B H : Hp} {D : Addr} {l : List As} {ys : List Int} {y : V} (h : CQ K B D l ys y H) : CQ K B D l ys y H := h
section
variable {K : PySem.W.Frag} {B H : Hp} {l : List As} {te : TE} {tA : TT} {σ : L2.St} {lo : Int} {n : Nat} {g : TG} {vs : List Nat} {Q : Addr → Hp → Prop}
/-- over a range -/
theorem compRi (f : Nat → Int) (L : Own K B H l) (hn : n < 100000)
    (hs : ∀ i D H1, i < n → Own K B H1 (.pt D (.lst ((rngL f i).map V.int)) :: l) → g (.int (lo + i)) (wipe σ vs) H1 fun σ2 H2 => wipe σ2 vs = wipe σ vs ∧ te σ2 H2 (CQ K B D l (rngL f i ++ [f i])))
    (hd : ∀ D H', Own K B H' (.pt D (.lst ((rngL f n).map V.int)) :: l) → Q D H') : ∀ D, H D = none → CompI (Itr lo n) g tYes te vs σ H D (Q D) := by
  intro D hD
  refine comp_range (fun i H' => Own K B H' (.pt D (.lst ((rngL f i).map V.int)) :: l)) (L.new hD _) (fun i H' hi h => ?_) (fun H' h => hd D H' h)
  have := hs i D H' hi h
  unfold CQ at this
  rw [← rngL_succ] at this
  exact this
/-- over a range, with a test -/
theorem compRt (f : Nat → Int) (p : Nat → Bool) (L : Own K B H l) (hn : n < 100000)
    (hs : ∀ i D H1, i < n → Own K B H1 (.pt D (.lst ((((List.range i).filter p).map f).map V.int)) :: l) → g (.int (lo + i)) (wipe σ vs) H1 fun σ2 H2 => wipe σ2 vs = wipe σ vs ∧ tA σ2 H2 fun b H3 =>
      if b = true then te σ2 H3 (CQ K B D l (((List.range (i + 1)).filter p).map f)) else Own K B H3 (.pt D (.lst ((((List.range (i + 1)).filter p).map f).map V.int)) :: l))
    (hd : ∀ D H', Own K B H' (.pt D (.lst ((((List.range n).filter p).map f).map V.int)) :: l) → Q D H') : ∀ D, H D = none → CompI (Itr lo n) g tA te vs σ H D (Q D) := by
  intro D hD
  exact comp_range (fun i H' => Own K B H' (.pt D (.lst ((((List.range i).filter p).map f).map V.int)) :: l)) (L.new hD _) (fun i H' hi h => hs i D H' hi h) (fun H' h => hd D H' h)
/-- over a list of ints -/
theorem compLi {a : Addr} {xs : List Int} (f : Int → Int) (L : Own K B H l) (hS : SqL K H a (xs.map V.int)) (hn : xs.length < 100000)
    (hs : ∀ i x D H1, xs[i]? = some x → Own K B H1 (.pt D (.lst (((xs.take i).map f).map V.int)) :: l) → g (.int x) (wipe σ vs) H1 fun σ2 H2 => wipe σ2 vs = wipe σ vs ∧ te σ2 H2 (CQ K B D l ((xs.take i).map f ++ [f x])))
    (hk : ∀ H', Own K B H' l → SqL K H' a (xs.map V.int))
    (hd : ∀ D H', Own K B H' (.pt D (.lst ((xs.map f).map V.int)) :: l) → Q D H') : ∀ D, H D = none → CompI (Itl K a) g tYes te vs σ H D (Q D) := by
  intro D hD
  refine comp_list (xs := xs.map V.int) (fun i H' => Own K B H' (.pt D (.lst (((xs.take i).map f).map V.int)) :: l)) (L.new hD _) (fun i H' _ h => hk H' h.drop1) (fun i x H' hx h => ?_) (fun H' h => ?_)
  · obtain ⟨z, hz, rfl⟩ := int_at hx
    have := hs i z D H' hz h
    unfold CQ at this
    rw [← take_map_snoc hz] at this
    exact this
  · rw [List.length_map, List.take_length] at h
    exact hd D H' h
/-- over a list of ints, with a test -/
theorem compLt {a : Addr} {xs : List Int} (f : Int → Int) (p : Int → Bool) (L : Own K B H l) (hS : SqL K H a (xs.map V.int)) (hn : xs.length < 100000)
    (hs : ∀ i x D H1, xs[i]? = some x → Own K B H1 (.pt D (.lst ((((xs.take i).filter p).map f).map V.int)) :: l) → g (.int x) (wipe σ vs) H1 fun σ2 H2 => wipe σ2 vs = wipe σ vs ∧ tA σ2 H2 fun b H3 =>
      if b = true then te σ2 H3 (CQ K B D l (((xs.take (i + 1)).filter p).map f)) else Own K B H3 (.pt D (.lst ((((xs.take (i + 1)).filter p).map f).map V.int)) :: l))
    (hk : ∀ H', Own K B H' l → SqL K H' a (xs.map V.int))
    (hd : ∀ D H', Own K B H' (.pt D (.lst (((xs.filter p).map f).map V.int)) :: l) → Q D H') : ∀ D, H D = none → CompI (Itl K a) g tA te vs σ H D (Q D) := by
  intro D hD
  refine comp_list (xs := xs.map V.int) (fun i H' => Own K B H' (.pt D (.lst ((((xs.take i).filter p).map f).map V.int)) :: l)) (L.new hD _) (fun i H' _ h => hk H' h.drop1) (fun i x H' hx h => ?_) (fun H' h => ?_)
  · obtain ⟨z, hz, rfl⟩ := int_at hx
    exact hs i z D H' hz h
  · rw [List.length_map, List.take_length] at h
    exact hd D H' h
end
/-! ranges with a step, reversed ranges -/
theorem x_irng3 {l : TA} {σ : L2.St} {H : Hp} {R : It → Hp → Prop} : iRng3 l σ H R = l σ H (fun vs H1 => ∃ (i j c : Int) (n : Nat), vs = [.int i, .int j, .int c] ∧ RgC i j c n ∧ R (Itc i c n) H1) := rfl
theorem x_irevR {tr : L2.St → Hp → (Int → Int → Hp → Prop) → Prop} {σ : L2.St} {H : Hp} {R : It → Hp → Prop} : iRevR tr σ H R = tr σ H (fun a b H1 => (-(2 ^ 62) ≤ a ∧ a < 2 ^ 62 ∧ -(2 ^ 62) ≤ b ∧ b < 2 ^ 62) ∧ R (Itc (a + (((b - a).toNat : Nat) : Int) - 1) (-1) (b - a).toNat) H1) := by
  unfold iRevR
  congr 1
  funext a b H1
  simp only [and_assoc]
theorem x_rg1 {te : TE} {σ : L2.St} {H : Hp} {Q : Int → Int → Hp → Prop} : tRg1 te σ H Q = te σ H (fun x H1 => ∃ n, x = .int n ∧ Q 0 n H1) := rfl
theorem x_rg2 {ta tb : TE} {σ : L2.St} {H : Hp} {Q : Int → Int → Hp → Prop} : tRg2 ta tb σ H Q = ta σ H (fun x H1 => tb σ H1 (fun y H2 => ∃ i j, x = .int i ∧ y = .int j ∧ Q i j H2)) := rfl
theorem rgNeg {i j : Int} {P : Nat → Prop} (h : -(2 ^ 62) ≤ i ∧ i < 2 ^ 62 ∧ -(2 ^ 62) ≤ j ∧ j < 2 ^ 62) (q : P (i - j).toNat) : ∃ n, RgC i j (-1) n ∧ P n := ⟨_, RgC.neg h.1 h.2.1 h.2.2.1 h.2.2.2, q⟩
theorem loop_rangeC {t : TS} {D : Ends} {σ : L2.St} {H : Hp} {lo c : Int} {n : Nat} {g : TG} (Pv : Nat → L2.St → Hp → Prop) (h0 : Pv 0 σ H)
    (hs : ∀ i σ H, i < n → Pv i σ H → g (.int (lo + (i : Nat) * c)) σ H fun σ2 H2 => t { D with nx := Pv (i + 1), ct := Pv (i + 1), bk := D.nx } σ2 H2) (hd : ∀ σ H, Pv n σ H → D.nx σ H) : LoopI (Itc lo c n) g t D σ H := for_rangeC Pv h0 hs hd
theorem comp_rangeC {te : TE} {tA : TT} {σ : L2.St} {H : Hp} {lo c : Int} {n : Nat} {g : TG} {vs : List Nat} {D : Addr} {Qd : Hp → Prop} (Pv : Nat → Hp → Prop) (h0 : Pv 0 (upd H D (.lst [])))
    (hs : ∀ i H, i < n → Pv i H → g (.int (lo + (i : Nat) * c)) (wipe σ vs) H fun σ2 H2 => wipe σ2 vs = wipe σ vs ∧ tA σ2 H2 fun b H3 =>
      if b = true then te σ2 H3 fun y H4 => ∃ acc, H4 D = some (.lst acc) ∧ acc.length < sizeLine ∧ Pv (i + 1) (upd H4 D (.lst (acc ++ [y]))) else Pv (i + 1) H3) (hd : ∀ H, Pv n H → Qd H) : CompI (Itc lo c n) g tA te vs σ H D Qd := by
  refine ⟨fun i left H => left = n - i ∧ i ≤ n ∧ Pv i H, ⟨n, by omega, by omega, h0⟩, ?_⟩
  rintro i left H ⟨rfl, hi, p⟩
  by_cases hlt : i < n
  · refine .inr ⟨hlt, Pv (i + 1), fun H' p' => ⟨n - (i + 1), by omega, rfl, hlt, p'⟩, fun x H' y => ?_⟩
    obtain ⟨e1, e2⟩ := y
    subst e1; subst e2
    exact hs i H' hlt p
  · obtain rfl : i = n := Nat.le_antisymm hi (by omega)
    exact .inl ⟨Nat.le_refl _, hd H p⟩
section
variable {K : PySem.W.Frag} {B H : Hp} {l : List As} {te : TE} {tA : TT} {σ : L2.St} {lo c : Int} {n : Nat} {g : TG} {vs : List Nat} {Q : Addr → Hp → Prop}
/-- over a range with a step, with a test -/
theorem compRtc (f : Nat → Int) (p : Nat → Bool) (L : Own K B H l) (hn : n < 100000)
    (hs : ∀ i D H1, i < n → Own K B H1 (pI D (((List.range i).filter p).map f) :: l) → g (.int (lo + (i : Nat) * c)) (wipe σ vs) H1 fun σ2 H2 => wipe σ2 vs = wipe σ vs ∧ tA σ2 H2 fun b H3 =>
      if b = true then te σ2 H3 (CQ K B D l (((List.range (i + 1)).filter p).map f)) else Own K B H3 (pI D (((List.range (i + 1)).filter p).map f) :: l))
    (hd : ∀ D H', Own K B H' (pI D (((List.range n).filter p).map f) :: l) → Q D H') : ∀ D, H D = none → CompI (Itc lo c n) g tA te vs σ H D (Q D) := by
  intro D hD
  exact comp_rangeC (fun i H' => Own K B H' (pI D (((List.range i).filter p).map f) :: l)) (L.new hD _) (fun i H' hi h => hs i D H' hi h) (fun H' h => hd D H' h)
end
theorem filt_snoc {f : Nat → Int} {p : Nat → Bool} {i : Nat} : ((List.range (i + 1)).filter p).map f = if p i = true then ((List.range i).filter p).map f ++ [f i] else ((List.range i).filter p).map f := by
  rw [List.range_succ, List.filter_append, List.map_append]
  by_cases h : p i = true
  · rw [if_pos h, List.filter_cons_of_pos h]
    rfl
  · rw [if_neg h, List.filter_cons_of_neg h]
    exact List.append_nil _
/-- the turn of a comprehension with a test -/
theorem ct_yes {K : PySem.W.Frag} {B H : Hp} {l : List As} {D : Addr} {f : Nat → Int} {p : Nat → Bool} {i : Nat} {y : Int} (L : Own K B H (pI D (((List.range i).filter p).map f) :: l)) (hn : i < 100000) (hp : p i = true) (hy : y = f i) : CQ K B D l (((List.range (i + 1)).filter p).map f) (.int y) H := by
  rw [filt_snoc, if_pos hp, hy]
  refine cq L ?_
  rw [List.length_map]
  have := List.length_filter_le p (List.range i)
  rw [List.length_range] at this
  omega
theorem ct_no {K : PySem.W.Frag} {B H : Hp} {l : List As} {D : Addr} {f : Nat → Int} {p : Nat → Bool} {i : Nat} (L : Own K B H (pI D (((List.range i).filter p).map f) :: l)) (hp : ¬ p i = true) : Own K B H (pI D (((List.range (i + 1)).filter p).map f) :: l) := by
  rw [filt_snoc, if_neg hp]
  exact L
theorem filtL_snoc {xs : List Int} {f : Int → Int} {p : Int → Bool} {i : Nat} {x : Int} (h : xs[i]? = some x) : ((xs.take (i + 1)).filter p).map f = if p x = true then ((xs.take i).filter p).map f ++ [f x] else ((xs.take i).filter p).map f := by
  rw [List.take_add_one, h, List.filter_append, List.map_append]
  by_cases h : p x = true
  · rw [if_pos h]
    show _ ++ (List.filter p [x]).map f = _
    rw [List.filter_cons_of_pos h]
    rfl
  · rw [if_neg h]
    show _ ++ (List.filter p [x]).map f = _
    rw [List.filter_cons_of_neg h]
    exact List.append_nil _
theorem cl_yes {K : PySem.W.Frag} {B H : Hp} {l : List As} {D : Addr} {xs : List Int} {f : Int → Int} {p : Int → Bool} {i : Nat} {x y : Int} (L : Own K B H (pI D (((xs.take i).filter p).map f) :: l)) (hx : xs[i]? = some x) (hn : xs.length < 100000) (hp : p x = true) (hy : y = f x) : CQ K B D l (((xs.take (i + 1)).filter p).map f) (.int y) H := by
  rw [filtL_snoc hx, if_pos hp, hy]
  refine cq L ?_
  rw [List.length_map]
  have := List.length_filter_le p (xs.take i)
  rw [List.length_take] at this
  omega
theorem cl_no {K : PySem.W.Frag} {B H : Hp} {l : List As} {D : Addr} {xs : List Int} {f : Int → Int} {p : Int → Bool} {i : Nat} {x : Int} (L : Own K B H (pI D (((xs.take i).filter p).map f) :: l)) (hx : xs[i]? = some x) (hp : ¬ p x = true) : Own K B H (pI D (((xs.take (i + 1)).filter p).map f) :: l) := by
  rw [filtL_snoc hx, if_neg hp]
  exact L
/-! slices -/
theorem cut_ii {xs : List V} {i j : Int} (h0 : 0 ≤ i) (h1 : 0 ≤ j) : cutV xs (some i) (some j) = (xs.drop i.toNat).take (j.toNat - i.toNat) := by
  obtain ⟨i, rfl⟩ := Int.eq_ofNat_of_zero_le h0
  obtain ⟨j, rfl⟩ := Int.eq_ofNat_of_zero_le h1
  unfold cutV
  rw [HT.sIx_nat, HT.sIx_nat, Int.toNat_natCast, Int.toNat_natCast]
  by_cases h : i ≤ xs.length
  · rw [Nat.min_eq_left h]
    by_cases k : j ≤ xs.length
    · rw [Nat.min_eq_left k]
    · rw [Nat.min_eq_right (by omega), List.take_of_length_le (by rw [List.length_drop]; omega), List.take_of_length_le (by rw [List.length_drop]; omega)]
  · rw [show min i xs.length = xs.length by omega, List.drop_of_length_le (Nat.le_refl _), List.drop_of_length_le (show xs.length ≤ i by omega), List.take_nil, List.take_nil]
theorem cut_in {xs : List V} {i : Int} (h0 : 0 ≤ i) : cutV xs (some i) none = xs.drop i.toNat := by
  obtain ⟨i, rfl⟩ := Int.eq_ofNat_of_zero_le h0
  unfold cutV
  rw [HT.sIx_nat, HT.sIx_none, Int.toNat_natCast]
  by_cases h : i ≤ xs.length
  · rw [Nat.min_eq_left h]
    exact List.take_of_length_le (by rw [List.length_drop]; exact Nat.le_refl _)
  · rw [Nat.min_eq_right (by omega), List.drop_of_length_le (Nat.le_refl _), List.drop_of_length_le (show xs.length ≤ i by omega), List.take_nil]
theorem cut_ni {xs : List V} {j : Int} (h1 : 0 ≤ j) : cutV xs none (some j) = xs.take j.toNat := by
  obtain ⟨j, rfl⟩ := Int.eq_ofNat_of_zero_le h1
  unfold cutV
  rw [HT.sIx_nat, HT.sIx_none, Int.toNat_natCast, List.drop_zero, Nat.sub_zero]
  by_cases k : j ≤ xs.length
  · rw [Nat.min_eq_left k]
  · rw [Nat.min_eq_right (by omega), List.take_of_length_le (Nat.le_refl _), List.take_of_length_le (show xs.length ≤ j by omega)]
/-! == of lists of ints -/
theorem eqd_ints {K : PySem.W.Frag} {H : Hp} {a b : Addr} {xs ys : List Int} {Q : VK} (h1 : SqL K H a (xs.map V.int)) (h2 : SqL K H b (ys.map V.int)) (q : Q (.bl (decide (xs = ys))) H) : rEqD K (.ref a) (.ref b) H Q := by
  refine eqd (dq_lst h1) (dq_lst h2) fun r e => ?_
  have : r = decide (xs = ys) := by
    rw [PyData.list.injEq, map_int_inj] at e
    by_cases c : xs = ys
    · rw [decide_eq_true c, e.mpr c]
    · rw [decide_eq_false c]
      cases r with
      | false => rfl
      | true => exact absurd (e.mp rfl) c
  rw [this]
  exact q
theorem ned_ints {K : PySem.W.Frag} {H : Hp} {a b : Addr} {xs ys : List Int} {Q : VK} (h1 : SqL K H a (xs.map V.int)) (h2 : SqL K H b (ys.map V.int)) (q : Q (.bl (!decide (xs = ys))) H) : rNeD K (.ref a) (.ref b) H Q := by
  refine ned (dq_lst h1) (dq_lst h2) fun r e => ?_
  have : r = decide (xs = ys) := by
    rw [PyData.list.injEq, map_int_inj] at e
    by_cases c : xs = ys
    · rw [decide_eq_true c, e.mpr c]
    · rw [decide_eq_false c]
      cases r with
      | false => rfl
      | true => exact absurd (e.mp rfl) c
  rw [this]
  exact q
theorem ite_d {A B p : Prop} {_ : Decidable p} (h1 : p → A) (h2 : ¬ p → B) : if decide p = true then A else B := by
  by_cases c : p
  · rw [if_pos (decide_eq_true c)]
    exact h1 c
  · rw [if_neg (by rw [decide_eq_false c]; decide)]
    exact h2 c
theorem ite_nd {A B p : Prop} {_ : Decidable p} (h1 : ¬ p → A) (h2 : p → B) : if (!decide p) = true then A else B := by
  by_cases c : p
  · rw [if_neg (by rw [decide_eq_true c]; decide)]
    exact h2 c
  · rw [if_pos (by rw [decide_eq_false c]; rfl)]
    exact h1 c
/-! tuples of ints -/
def tupI (ns : List Int) : HO := .tup (ns.map V.int)
theorem t_i1 {x : Int} : HO.tup [.int x] = tupI [x] := rfl
theorem t_i2 {x y : Int} : HO.tup [.int x, .int y] = tupI [x, y] := rfl
theorem t_i3 {x y z : Int} : HO.tup [.int x, .int y, .int z] = tupI [x, y, z] := rfl
theorem t_i4 {x y z u : Int} : HO.tup [.int x, .int y, .int z, .int u] = tupI [x, y, z, u] := rfl
theorem t_i5 {x y z u v : Int} : HO.tup [.int x, .int y, .int z, .int u, .int v] = tupI [x, y, z, u, v] := rfl
abbrev pT (a : Addr) (ns : List Int) : As := .pt a (tupI ns)
theorem sqT_tupI {K : PySem.W.Frag} {H : Hp} {p : Addr} {ns : List Int} (h : H p = some (tupI ns)) : SqT K H p (ns.map V.int) := SqT.of h
theorem Own.imT {K : PySem.W.Frag} {B H : Hp} {l : List As} {p : Addr} {ns : List Int} (L : Own K B H l) (m : As.im (.ref p) (tI ns) ∈ l) : SqT K H p (ns.map V.int) := by
  obtain ⟨a, e, h⟩ := Imm.of_ints (L.imm m)
  cases e
  exact h
theorem Own.imI {K : PySem.W.Frag} {B H : Hp} {l : List As} {p : Addr} {ns : List Int} (L : Own K B H l) (m : As.pt p (tupI ns) ∈ l) : Imm K H (.ref p) (tI ns) := Imm.of_is (SqT.of (L.get m))
section
variable {K : PySem.W.Frag} {H : Hp} {a b : Addr} {xs ys : List Int} {Q : VK}
theorem eqdT_ints (h1 : SqT K H a (xs.map V.int)) (h2 : SqT K H b (ys.map V.int)) (q : Q (.bl (decide (xs = ys))) H) : rEqD K (.ref a) (.ref b) H Q := by
  refine eqd (dq_tup h1) (dq_tup h2) fun r e => ?_
  have : r = decide (xs = ys) := by
    rw [PyData.tuple.injEq, map_int_inj] at e
    by_cases c : xs = ys
    · rw [decide_eq_true c, e.mpr c]
    · rw [decide_eq_false c]
      cases r with
      | false => rfl
      | true => exact absurd (e.mp rfl) c
  rw [this]
  exact q
theorem nedT_ints (h1 : SqT K H a (xs.map V.int)) (h2 : SqT K H b (ys.map V.int)) (q : Q (.bl (!decide (xs = ys))) H) : rNeD K (.ref a) (.ref b) H Q := by
  refine ned (dq_tup h1) (dq_tup h2) fun r e => ?_
  have : r = decide (xs = ys) := by
    rw [PyData.tuple.injEq, map_int_inj] at e
    by_cases c : xs = ys
    · rw [decide_eq_true c, e.mpr c]
    · rw [decide_eq_false c]
      cases r with
      | false => rfl
      | true => exact absurd (e.mp rfl) c
  rw [this]
  exact q
/-! isinstance of what is read -/
theorem isi_sqT {c : String} {r : Bool} {vs : List V} (h : kitB "tuple" c = some r) (hl : SqT K H a vs) (q : Q (.bl r) H) : rIsi K [.ref a, .ty c] H Q := by
  rcases hl with (g | ⟨o, g⟩) | ⟨o, its, n, g, c1, _⟩
  · exact ⟨_, _, _, _, r, rfl, .ty c, .base (.tup g), kit_ty h, q⟩
  · exact ⟨_, _, _, _, r, rfl, .ty c, .fTuple g, kit_ty h, q⟩
  · exact ⟨_, _, _, _, r, rfl, .ty c, .kTuple g c1, kit_ty h, q⟩
theorem isi_sqL {c : String} {r : Bool} {vs : List V} (h : kitB "list" c = some r) (hl : SqL K H a vs) (q : Q (.bl r) H) : rIsi K [.ref a, .ty c] H Q := by
  rcases hl with (g | ⟨o, g⟩) | ⟨o, its, n, g, c1, _⟩
  · exact ⟨_, _, _, _, r, rfl, .ty c, .base (.lst g), kit_ty h, q⟩
  · exact ⟨_, _, _, _, r, rfl, .ty c, .base (.frz g), kit_ty h, q⟩
  · exact ⟨_, _, _, _, r, rfl, .ty c, .kList g c1, kit_ty h, q⟩
theorem isi_non {c : String} {r : Bool} (h : kitB "NoneType" c = some r) (q : Q (.bl r) H) : rIsi K [.non, .ty c] H Q := ⟨_, _, _, _, r, rfl, .ty c, .base .non, kit_ty h, q⟩
theorem isi_bl {c : String} {r x : Bool} (h : kitB "bool" c = some r) (q : Q (.bl r) H) : rIsi K [.bl x, .ty c] H Q := ⟨_, _, _, _, r, rfl, .ty c, .base (.bl x), kit_ty h, q⟩
theorem isi_str {c : String} {r : Bool} {x : Str} (h : kitB "str" c = some r) (q : Q (.bl r) H) : rIsi K [.str x, .ty c] H Q := ⟨_, _, _, _, r, rfl, .ty c, .base (.str x), kit_ty h, q⟩
end
theorem g_sum {K : PySem.W.Frag} {H : Hp} {vs : List V} {Q : VK} (h : rSum K vs H Q) : rSum K vs H Q := h
theorem sum_call {K : PySem.W.Frag} {H : Hp} {a : Addr} {ns : List Int} {Q : VK} (h : SqL K H a (ns.map V.int)) (q : Q (.int ns.sum) H) : rSum K [.ref a] H Q := ⟨a, ns, rfl, h, q⟩
/-! an error caught: its dict is what is new -/
theorem caught {K : PySem.W.Frag} {B H H' : Hp} {l : List As} {d : Addr} {n : Int} {C : Value} {P : Hp → Prop} (L : Own K B H l) (s : Same H H') (hd : H' d = none) (h : ∀ G, Own K B G (.pt d (.xd [("at", .int n)]) :: l) → P G) : P (upd H' d (.xd [("at", .int n)])) := h _ ((L.call s).new hd _)
theorem maxK {X : Cx} (K : PySem.W.Frag) (hc : X.calm = true) (h : X.K = K := by rfl) : CallR X (.builtin "max") (rMax K) := h ▸ cr_max hc
theorem minK {X : Cx} (K : PySem.W.Frag) (hc : X.calm = true) (h : X.K = K := by rfl) : CallR X (.builtin "min") (rMin K) := h ▸ cr_min hc
theorem g_max {K : PySem.W.Frag} {H : Hp} {vs : List V} {Q : VK} (h : rMax K vs H Q) : rMax K vs H Q := h
theorem max_call {K : PySem.W.Frag} {H : Hp} {a : Addr} {ns : List Int} {Q : VK} (h : SqL K H a (ns.map V.int)) (n : 0 < ns.length) (q : ∀ m, m ∈ ns → (∀ y, y ∈ ns → y ≤ m) → Q (.int m) H) : rMax K [.ref a] H Q := ⟨a, ns, rfl, h, n, q⟩
theorem and_low (a k : Nat) : Builtin.bitAnd (a : Int) (2 ^ k - 1) = ((a % 2 ^ k : Nat) : Int) := by
  have e : ((2 : Int) ^ k - 1) = ((2 ^ k - 1 : Nat) : Int) := by
    have := Nat.two_pow_pos k
    rw [Int.natCast_sub (by omega), Int.natCast_pow]
    rfl
  rw [e]
  show ((a &&& (2 ^ k - 1) : Nat) : Int) = _
  rw [Nat.and_two_pow_sub_one_eq_mod]
theorem and255 {x : Int} (h : 0 ≤ x) : Builtin.bitAnd x 255 = x % 256 := by
  obtain ⟨a, rfl⟩ := Int.eq_ofNat_of_zero_le h
  exact and_low a 8
theorem and1 {x : Int} (h : 0 ≤ x) : Builtin.bitAnd x 1 = x % 2 := by
  obtain ⟨a, rfl⟩ := Int.eq_ofNat_of_zero_le h
  exact and_low a 1
theorem andK {x : Int} (h : 0 ≤ x) (k : Nat) : Builtin.bitAnd x (2 ^ k - 1) = x % 2 ^ k := by
  obtain ⟨a, rfl⟩ := Int.eq_ofNat_of_zero_le h
  rw [and_low a k, Int.natCast_emod, Int.natCast_pow]
  rfl
/-! a < b < c < d -/
def tChain3 (r r' r'' : R2) (ta tb tc td : TE) : TT := fun σ H Q => ta σ H fun x H1 => tb σ H1 fun y H2 => r x y H2 fun z H3 => ∃ k, z = .bl k ∧
  (if k = true then tc σ H3 fun u H4 => r' y u H4 fun z' H5 => ∃ k', z' = .bl k' ∧ (if k' = true then td σ H5 fun u' H6 => r'' u u' H6 fun z'' H7 => ∃ k'', z'' = .bl k'' ∧ Q k'' H7 else Q false H5) else Q false H3)
theorem pt_chain3 {X : Cx} {o1 o2 o3 : CmpOp} {r r' r'' : R2} {a b c d : Expr} {ta tb tc td : TE} {pos : Pos} (h1 : OpR X (compareOp o1) r) (h2 : OpR X (compareOp o2) r') (h3 : OpR X (compareOp o3) r'') (ha : PE X a ta) (hb : PE X b tb) (hc : PE X c tc) (hd : PE X d td)
    (marks : lastMarks [o1, o2, o3] [b, c, d] = false := by with_unfolding_all rfl) : PT X (.Compare a [o1, o2, o3] [b, c, d] pos) (tChain3 r r' r'' ta tb tc td) := by
  refine ⟨fun pn sh st Hs Qv hin hq => isTrue_chain (thn (ha.run pn sh st Hs _ hin hq) fun va s1 ha1 => ?_) marks⟩
  obtain ⟨x, G1, in1, r1, q1⟩ := ha1
  refine test_link (thn (hb.run pn s1 st G1 _ in1 q1) fun vb s2 hb1 => ?_)
  obtain ⟨y, G2, in2, r2, q2⟩ := hb1
  refine thn (h1 pn s2 st G2 x y va vb _ in2 r1 r2 q2) fun vt s3 ht => ?_
  obtain ⟨z, G3, in3, r3, k, e, q3⟩ := ht
  subst e
  cases r3
  refine wpAny_truthy_bool ?_
  cases k with
  | false => exact ite_ff ⟨G3, in3, q3⟩
  | true =>
    refine ite_tt (test_link (thn (hc.run pn s3 st G3 _ in3 q3) fun vc s4 hc1 => ?_))
    obtain ⟨u, G4, in4, r4, q4⟩ := hc1
    refine thn (h2 pn s4 st G4 y u vb vc _ in4 r2 r4 q4) fun vt s5 ht => ?_
    obtain ⟨z', G5, in5, r5, k', e, q5⟩ := ht
    subst e
    cases r5
    refine wpAny_truthy_bool ?_
    cases k' with
    | false => exact ite_ff ⟨G5, in5, q5⟩
    | true =>
      refine ite_tt (test_last (thn (hd.run pn s5 st G5 _ in5 q5) fun vd s6 hd1 => ?_))
      obtain ⟨u', G6, in6, r6, q6⟩ := hd1
      refine thn (h3 pn s6 st G6 u u' vc vd _ in6 r4 r6 q6) fun vt s7 ht => ?_
      obtain ⟨z'', G7, in7, r7, k'', e, q7⟩ := ht
      subst e
      cases r7
      exact wpAny_truthy_bool ⟨G7, in7, q7⟩
theorem x_chain3 {r r' r'' : R2} {ta tb tc td : TE} {σ : L2.St} {H : Hp} {Q : Bool → Hp → Prop} : tChain3 r r' r'' ta tb tc td σ H Q = ta σ H (fun x H1 => tb σ H1 (fun y H2 => r x y H2 (fun z H3 => ∃ k, z = .bl k ∧
  SelT k (fun σ' H' Q' => tc σ' H' (fun u H4 => r' y u H4 (fun z' H5 => ∃ k', z' = .bl k' ∧ SelT k' (fun σ'' H'' Q'' => td σ'' H'' (fun u' H6 => r'' u u' H6 (fun z'' H7 => ∃ k'', z'' = .bl k'' ∧ Q'' k'' H7))) (tK false) σ' H5 Q'))) (tK false) σ H3 Q))) := by
  unfold tChain3
  congr 1
  funext x H1
  congr 1
  funext y H2
  congr 1
  funext z H3
  congr 1
  funext k
  cases k with
  | false => rfl
  | true =>
    refine congrArg (z = V.bl true ∧ ·) ?_
    show tc σ H3 _ = tc σ H3 _
    congr 1
    funext u H4
    congr 1
    funext z' H5
    congr 1
    funext k'
    cases k' <;> rfl
theorem sel_nd {t u : TS} {D : Ends} {σ : L2.St} {H : Hp} {p : Prop} {_ : Decidable p} (h1 : ¬ p → t D σ H) (h2 : p → u D σ H) : Sel (!decide p) t u D σ H := by
  by_cases c : p
  · rw [decide_eq_true c]
    exact h2 c
  · rw [decide_eq_false c]
    exact h1 c
/-! a text and an int -/
def tupS (s : Str) (n : Int) : HO := .tup [.str s, .int n]
theorem t_s1 {s : Str} {n : Int} : HO.tup [.str s, .int n] = tupS s n := rfl
theorem sqT_tupS {K : PySem.W.Frag} {H : Hp} {p : Addr} {s : Str} {n : Int} (h : H p = some (tupS s n)) : SqT K H p [.str s, .int n] := SqT.of h
theorem dq_tupS {K : PySem.W.Frag} {H : Hp} {p : Addr} {s : Str} {n : Int} (h : SqT K H p [.str s, .int n]) (l : (PyData.str s).canLay0 = true) : Dq K H (.ref p) (.tuple [.str s, .int n]) :=
  ⟨.tup h (.cons (.str s) (.cons (.int n) .nil)), by simp [plain, plainAl, l], by simp [PyData.depth, PyData.depthAll]⟩
end Bel

namespace Bel
open PySem PySem.Spec PyProof.Rows L2
/-! ### classes: what the text must say of one, and its methods -/
structure ClsF (K : PySem.W.Frag) (C : Str) (fs : List Str) : Prop where
  cl : Cls K (He.ga K C)
  na : ∀ f ∈ fs, NoAttr K (He.ga K C) f
structure Mth (P : Program) (w : World) (K : PySem.W.Frag) (base : Heap) (mg : Str → Option Value) (k : Nat) (C m : Str) (ps : List Str) (sp : Sp) (dvs : List V) : Prop where
  ex : ∃ (fd : FuncData) (ds : List Value), FnOk P w K mg base (L2N.CX P w) k (He.ma K (He.ga K C) m) fd ps sp ∧ Meth K (He.ga K C) m (He.ma K (He.ga K C) m) ∧ Cls K (He.ga K C) ∧ Binds K fd ps ds ∧ Vals dvs ds
structure Mkr (P : Program) (w : World) (K : PySem.W.Frag) (base : Heap) (mg : Str → Option Value) (k : Nat) (C : Str) (ps : List Str) (sp : Sp) (dvs : List V) : Prop where
  ex : ∃ (fd : FuncData) (ds : List Value), FnOk P w K mg base (L2N.CX P w) k (He.ma K (He.ga K C) "__init__") fd ps sp ∧ Mk K (He.ga K C) (He.ma K (He.ga K C) "__init__") ∧ mg C = some (.ref (He.ga K C)) ∧ Binds K fd ps ds ∧ Vals dvs ds
/-- o.m(..), what is raised taken by W -/
def tMW (C : Addr) (m : Str) (sp : Sp) (dvs : List V) (W : WX) (ta : TE) (t : TA) : TE := fun σ H Q => ta σ H fun x H1 => ∃ a dx fs, x = .ref a ∧ H1 a = some (.ins C dx fs) ∧ fs.lookup m = none ∧ t σ H1 fun vs H2 => sp (x :: (vs ++ dvs)) H2 Q (WE W σ)
/-- C(..), what is raised taken by W -/
def tKW (C : Addr) (sp : Sp) (dvs : List V) (W : WX) (t : TA) : TE := fun σ H Q => t σ H fun vs H1 => ∀ x dx, H1 x = none → H1 dx = none → dx ≠ x → sp (.ref x :: (vs ++ dvs)) (upd (upd H1 dx (.own x)) x (.ins C dx [])) (fun v H2 => v = .non ∧ Q (.ref x) H2) (WE W σ)
section
variable {X : Cx} {K : PySem.W.Frag} {k : Nat} {C m : Str} {ps : List Str} {sp : Sp} {dvs : List V} {p apos pos : Pos} {o e : Expr} {es : List Expr} {ta : TE} {t : TA} {W : WX} {pl : Sem Bool}
theorem pe_mt (c : Mth X.prog X.w K X.base X.mg k C m ps sp dvs) (hr : Room k X.A) (ho : PE X o ta) (ha : PA X (e :: es) t)
    (h1 : starEach (e :: es) X.env = (false, eval e X.env) :: starEach es X.env := by rfl) (h2 : (backTo pos (starEach es X.env)).any (·.1) = false := by rfl)
    (h3 : eval (.Call (.Attribute o m apos) (e :: es) [] pos) X.env = (do
      let ov ← eval o X.env
      standAt apos.atName
      let (f, first) ← holding [ov] (getMethod ov m pl)
      callWith pos f first (backTo pos (starEach (e :: es) X.env)) (backToKw pos (keywordEach [] X.env))) := by rfl) (hK : X.K = K := by rfl) :
    PE X (.Call (.Attribute o m apos) (e :: es) [] pos) (tMeth (He.ga K C) m sp dvs E0 ta t) := by
  subst hK
  obtain ⟨fd, ds, F, me, cl, hb, hd⟩ := c.ex
  exact pe_meth ho cl me F hr hb hd passN ha h1 h2 h3
theorem pe_mt0 (c : Mth X.prog X.w K X.base X.mg k C m ps sp dvs) (hr : Room k X.A) (ho : PE X o ta)
    (h3 : eval (.Call (.Attribute o m apos) [] [] pos) X.env = (do
      let ov ← eval o X.env
      standAt apos.atName
      let (f, first) ← holding [ov] (getMethod ov m pl)
      callWith pos f first (backTo pos (starEach [] X.env)) (backToKw pos (keywordEach [] X.env))) := by rfl) (hK : X.K = K := by rfl) :
    PE X (.Call (.Attribute o m apos) [] [] pos) (tMeth (He.ga K C) m sp dvs E0 ta tNil) := by
  subst hK
  obtain ⟨fd, ds, F, me, cl, hb, hd⟩ := c.ex
  exact pe_meth0 ho cl me F hr hb hd passN h3
theorem pe_mtS (c : Mth X.prog X.w K X.base X.mg k C m ps sp dvs) (hr : Room k X.A) (tk : L2N.Takes X W) (ho : PE X o ta) (ha : PA X (e :: es) t)
    (h1 : starEach (e :: es) X.env = (false, eval e X.env) :: starEach es X.env := by rfl) (h2 : (backTo pos (starEach es X.env)).any (·.1) = false := by rfl)
    (h3 : eval (.Call (.Attribute o m apos) (e :: es) [] pos) X.env = (do
      let ov ← eval o X.env
      standAt apos.atName
      let (f, first) ← holding [ov] (getMethod ov m pl)
      callWith pos f first (backTo pos (starEach (e :: es) X.env)) (backToKw pos (keywordEach [] X.env))) := by rfl) (hK : X.K = K := by rfl) :
    PE X (.Call (.Attribute o m apos) (e :: es) [] pos) (tMW (He.ga K C) m sp dvs W ta t) := by
  subst hK
  obtain ⟨fd, dl, ok, me, cl, hb, hd⟩ := c.ex
  refine ⟨fun pn sh st Hs Qv hin hq => PySem.W.methodCall_KW (pl := pl) (thn (ho.run pn sh st Hs _ hin hq) fun ov sh1 hx => ?_) h3⟩
  obtain ⟨x, G, in1, rx, a, dx, fs, ex, at_, no, hq2⟩ := hx
  subst ex
  cases rx
  refine getmeth_ok in1 at_ cl me no (PySem.W.callWith_K (first := [.ref a]) (h₀ := X.base) in1.ok.mod.kin me.kp (thn (ha.run pos pn sh1 st G _ in1 hq2) fun us sh2 hy => ?_) h1 h2)
  obtain ⟨av, G2, in2, rel, pr⟩ := hy
  exact ⟨in2.kIn, run_fnD (args := .ref a :: us) (av := .ref a :: av) hr in2 (.cons rfl rel) hd ok hb (L2N.passAt tk st) pr⟩
theorem pe_mtS0 (c : Mth X.prog X.w K X.base X.mg k C m ps sp dvs) (hr : Room k X.A) (tk : L2N.Takes X W) (ho : PE X o ta)
    (h3 : eval (.Call (.Attribute o m apos) [] [] pos) X.env = (do
      let ov ← eval o X.env
      standAt apos.atName
      let (f, first) ← holding [ov] (getMethod ov m pl)
      callWith pos f first (backTo pos (starEach [] X.env)) (backToKw pos (keywordEach [] X.env))) := by rfl) (hK : X.K = K := by rfl) :
    PE X (.Call (.Attribute o m apos) [] [] pos) (tMW (He.ga K C) m sp dvs W ta tNil) := by
  subst hK
  obtain ⟨fd, dl, ok, me, cl, hb, hd⟩ := c.ex
  refine ⟨fun pn sh st Hs Qv hin hq => PySem.W.methodCall_KW (pl := pl) (thn (ho.run pn sh st Hs _ hin hq) fun ov sh1 hx => ?_) h3⟩
  obtain ⟨x, G, in1, rx, a, dx, fs, ex, at_, no, pr⟩ := hx
  subst ex
  cases rx
  exact getmeth_ok in1 at_ cl me no (PySem.W.callWith_K0 (first := [.ref a]) in1.kIn me.kp (run_fnD (args := [.ref a]) (av := [.ref a]) hr in1 (.cons rfl .nil) hd ok hb (L2N.passAt tk st) pr))
theorem pe_mk (c : Mkr X.prog X.w K X.base X.mg k C ps sp dvs) (hr : Room (k + 1) X.A) (hg : Gl X C) (ha : PA X (e :: es) t)
    (hdb : (C == ("__debug__" : Str)) = false := by decide) (h1 : starEach (e :: es) X.env = (false, eval e X.env) :: starEach es X.env := by rfl) (h2 : (backTo pos (starEach es X.env)).any (·.1) = false := by rfl) (hK : X.K = K := by rfl) :
    PE X (.Call (.Name C p) (e :: es) [] pos) (tMake (He.ga K C) sp dvs E0 t) := by
  subst hK
  obtain ⟨fd, ds, F, mk, hm, hb, hd⟩ := c.ex
  exact pe_make mk F hr hg hm hb hd passN ha hdb h1 h2
theorem pe_mk0 (c : Mkr X.prog X.w K X.base X.mg k C ps sp dvs) (hr : Room (k + 1) X.A) (hg : Gl X C) (hdb : (C == ("__debug__" : Str)) = false := by decide) (hK : X.K = K := by rfl) :
    PE X (.Call (.Name C p) [] [] pos) (tMake (He.ga K C) sp dvs E0 tNil) := by
  subst hK
  obtain ⟨fd, ds, F, mk, hm, hb, hd⟩ := c.ex
  exact pe_make0 mk F hr hg hm hb hd passN hdb
theorem run_mkW {f C : Addr} {fd : FuncData} {dl : List Value} {Ex : XK} {pn : List (Addr × Obj)} {st : L2.St} {Hs : Hp} {sh : Shared} {Qv : VK} {args : List Value} {av : List V} (mk : Mk X.K C f) (hr : Room (k + 1) X.A) (hin : Inv X pn st Hs sh) (rel : Vals av args) (hd : Vals dvs dl)
    (ok : FnOk X.prog X.w X.K X.mg X.base (L2N.CX X.prog X.w) k f fd ps sp) (hb : Binds X.K fd ps dl) (out : PassesAt (L2N.CX X.prog X.w) X st Ex)
    (h : ∀ x dx, Hs x = none → Hs dx = none → dx ≠ x → sp (.ref x :: (av ++ dvs)) (upd (upd Hs dx (.own x)) x (.ins C dx [])) (fun v H2 => v = .non ∧ Qv (.ref x) H2) Ex) :
    wpAny (model X.prog X.w) X.A (call (.ref C) args) (EP X pn st Qv) X.xe sh := by
  have hq := h (sh.heap.objs.size + 1) sh.heap.objs.size (hin.hok.fresh (Nat.le_succ _)) (hin.hok.fresh (Nat.le_refl _)) (Nat.ne_of_lt (Nat.lt_succ_self _))
  have born := Inv.made (C := C) hin
  have rel2 : Vals (V.ref (sh.heap.objs.size + 1) :: (av ++ dvs)) (Value.ref (sh.heap.objs.size + 1) :: (args ++ dl)) := .cons rfl (rel.append hd)
  have size : (Value.ref (sh.heap.objs.size + 1) :: args ++ dl).length = ps.length := rel2.length.symm.trans (ok.len _ _ _ _ hq)
  refine wpAny_call (make_map (f := f) hin.kIn mk.makes mk.init (beq_iff_eq.mp mk.fn) (codeAny_mono (ok.run _ X.stack _ _ ⟨Value.ref (sh.heap.objs.size + 1) :: args, []⟩ (Value.ref (sh.heap.objs.size + 1) :: (args ++ dl)) _ _ Ex (hr.make C args [])
    (born.env0.make C args []) (hb _ (Value.ref (sh.heap.objs.size + 1) :: args) born.kIn size) rel2 hq) fun res sh2 fin => ?_))
  rcases res with er | fl
  · exact out pn _ _ er sh2 born fin
  · cases fl with
    | ret u =>
      obtain ⟨v, H', in3, rv, ev, q3⟩ := born.after fin
      subst ev
      exact ⟨rv, ⟨V.ref (sh.heap.objs.size + 1), H', in3, rfl, q3⟩⟩
    | next => exact fin.elim
    | brk => exact fin.elim
    | cont => exact fin.elim
theorem pe_mkS (c : Mkr X.prog X.w K X.base X.mg k C ps sp dvs) (hr : Room (k + 1) X.A) (tk : L2N.Takes X W) (hg : Gl X C) (ha : PA X (e :: es) t)
    (hdb : (C == ("__debug__" : Str)) = false := by decide) (h1 : starEach (e :: es) X.env = (false, eval e X.env) :: starEach es X.env := by rfl) (h2 : (backTo pos (starEach es X.env)).any (·.1) = false := by rfl) (hK : X.K = K := by rfl) :
    PE X (.Call (.Name C p) (e :: es) [] pos) (tKW (He.ga K C) sp dvs W t) := by
  subst hK
  obtain ⟨fd, dl, ok, mk, hm, hb, hd⟩ := c.ex
  refine ⟨fun pn sh st Hs Qv hin hq => wpAny_Call_Name_kw (ld_glob hin hg hm ?_ hdb)⟩
  refine PySem.W.callWith_K (h₀ := X.base) hin.ok.mod.kin mk.kp (thn (ha.run pos pn sh st Hs _ hin hq) fun us sh1 hy => ?_) h1 h2
  obtain ⟨av, G, in1, rel, pr⟩ := hy
  exact ⟨in1.kIn, run_mkW mk hr in1 rel hd ok hb (L2N.passAt tk st) pr⟩
end
theorem in_of {X : Cx} {op : Operator} {t : TIp} (h : PIp X op t) : InOp X op t := fun pn s σ H x y u v Q I r1 r2 z => h pn s σ H x y u v Q I r1 r2 z
/-! ### readings -/
def FldO (K : PySem.W.Frag) (H : Hp) (a : Addr) (f : Str) (Q : VK) : Prop := ∃ C dx fs v, H a = some (.ins C dx fs) ∧ Cls K C ∧ NoAttr K C f ∧ fs.lookup f = some v ∧ Q v H
def FldC (K : PySem.W.Frag) (H : Hp) (a : Addr) (f : Str) (R : Addr → V → Prop) : Prop := ∃ C dx fs v, H a = some (.ins C dx fs) ∧ Cls K C ∧ NoAttr K C f ∧ fs.lookup f = some v ∧ R C v
def PutC (H : Hp) (a C : Addr) (f : Str) (y : V) (QH : Hp → Prop) : Prop := ∃ dx fs, H a = some (.ins C dx fs) ∧ fs.length < 1000 ∧ QH (upd H a (.ins C dx (putF f y fs)))
def StoO (K : PySem.W.Frag) (H : Hp) (a : Addr) (f : Str) (y : V) (QH : Hp → Prop) : Prop := ∃ C dx fs, H a = some (.ins C dx fs) ∧ Cls K C ∧ NoAttr K C f ∧ fs.length < 1000 ∧ QH (upd H a (.ins C dx (putF f y fs)))
def MetO (H : Hp) (a C : Addr) (m : Str) (P : Prop) : Prop := ∃ dx fs, H a = some (.ins C dx fs) ∧ fs.lookup m = none ∧ P
def MakO (H : Hp) (C : Addr) (P : Addr → Hp → Prop) : Prop := ∀ x dx, H x = none → H dx = none → dx ≠ x → P x (upd (upd H dx (.own x)) x (.ins C dx []))
section
variable {K : PySem.W.Frag} {ta tv : TE} {t : TA} {f m : Str} {σ : L2.St} {H : Hp} {Q : VK} {D : Ends} {C : Addr} {sp : Sp} {dvs : List V} {E : XK} {W : WX} {rd : V → V → Hp → VK → Prop}
theorem n_fld : tFld K ta f σ H Q = ta σ H (fun x H1 => ∃ a, x = .ref a ∧ FldO K H1 a f Q) := by
  unfold tFld FldO
  congr 1
  funext x H1
  refine propext ⟨fun ⟨a, C, dx, fs, v, e1, h⟩ => ⟨a, e1, C, dx, fs, v, h⟩, fun ⟨a, e1, C, dx, fs, v, h⟩ => ⟨a, C, dx, fs, v, e1, h⟩⟩
theorem n_sfld : sFld K ta tv f D σ H = tv σ H (fun y H1 => ta σ H1 (fun x H2 => ∃ a, x = .ref a ∧ StoO K H2 a f y (fun H' => D.nx σ H'))) := by
  unfold sFld StoO
  congr 1
  funext y H1
  congr 1
  funext x H2
  refine propext ⟨fun ⟨a, C, dx, fs, e1, h⟩ => ⟨a, e1, C, dx, fs, h⟩, fun ⟨a, e1, C, dx, fs, h⟩ => ⟨a, C, dx, fs, e1, h⟩⟩
theorem n_aug : sFldAug K ta tv rd f D σ H = ta σ H (fun x H1 => ∃ a, x = .ref a ∧ FldC K H1 a f (fun C v => tv σ H1 (fun y H2 => rd v y H2 (fun z H3 => PutC H3 a C f z (fun H' => D.nx σ H'))))) := by
  unfold sFldAug FldC PutC
  congr 1
  funext x H1
  refine propext ⟨fun ⟨a, C, dx, fs, v, e1, h⟩ => ⟨a, e1, C, dx, fs, v, h⟩, fun ⟨a, e1, C, dx, fs, v, h⟩ => ⟨a, C, dx, fs, v, e1, h⟩⟩
theorem n_meth : tMeth C m sp dvs E ta t σ H Q = ta σ H (fun x H1 => ∃ a, x = .ref a ∧ MetO H1 a C m (t σ H1 (fun vs H2 => sp (x :: (vs ++ dvs)) H2 Q E))) := by
  unfold tMeth MetO
  congr 1
  funext x H1
  refine propext ⟨fun ⟨a, dx, fs, e1, e2, e3, h⟩ => ⟨a, e1, dx, fs, e2, e3, h⟩, fun ⟨a, e1, dx, fs, e2, e3, h⟩ => ⟨a, dx, fs, e1, e2, e3, h⟩⟩
theorem n_mw : tMW C m sp dvs W ta t σ H Q = ta σ H (fun x H1 => ∃ a, x = .ref a ∧ MetO H1 a C m (t σ H1 (fun vs H2 => sp (x :: (vs ++ dvs)) H2 Q (WE W σ)))) := by
  unfold tMW MetO
  congr 1
  funext x H1
  refine propext ⟨fun ⟨a, dx, fs, e1, e2, e3, h⟩ => ⟨a, e1, dx, fs, e2, e3, h⟩, fun ⟨a, e1, dx, fs, e2, e3, h⟩ => ⟨a, dx, fs, e1, e2, e3, h⟩⟩
theorem n_make : tMake C sp dvs E t σ H Q = t σ H (fun vs H1 => MakO H1 C (fun x H2 => sp (.ref x :: (vs ++ dvs)) H2 (fun v H3 => v = .non ∧ Q (.ref x) H3) E)) := rfl
theorem n_kw : tKW C sp dvs W t σ H Q = t σ H (fun vs H1 => MakO H1 C (fun x H2 => sp (.ref x :: (vs ++ dvs)) H2 (fun v H3 => v = .non ∧ Q (.ref x) H3) (WE W σ))) := rfl
end
section
variable {K : PySem.W.Frag} {B H : Hp} {l l' : List As} {a C dx : Addr} {f m : Str} {fs fs' : List (Str × V)} {v y : V} {Q : VK} {QH : Hp → Prop} {P : Prop}
theorem g_fldO (h : FldO K H a f Q) : FldO K H a f Q := h
theorem g_fldC {R : Addr → V → Prop} (h : FldC K H a f R) : FldC K H a f R := h
theorem g_putC (h : PutC H a C f y QH) : PutC H a C f y QH := h
theorem fldC {R : Addr → V → Prop} {Cn : Str} {ns : List Str} (ha : H a = some (.ins (He.ga K Cn) dx fs)) (tc : ClsF K Cn ns) (hf : f ∈ ns) (lk : fs.lookup f = some v) (q : R (He.ga K Cn) v) : FldC K H a f R := ⟨_, _, _, _, ha, tc.cl, tc.na f hf, lk, q⟩
theorem putC (L : Own K B H l) (pp : Put l a (.ins C dx fs) (.ins C dx fs') l') (e : putF f y fs = fs') (hn : fs.length < 1000) (h : ∀ H', Own K B H' l' → QH H') : PutC H a C f y QH := by
  subst e
  exact ⟨_, _, L.get pp.mem, hn, h _ (L.put rfl pp)⟩
theorem g_stoO (h : StoO K H a f y QH) : StoO K H a f y QH := h
theorem g_metO (h : MetO H a C m P) : MetO H a C m P := h
theorem g_makO {P : Addr → Hp → Prop} (h : MakO H C P) : MakO H C P := h
theorem fldO {Cn : Str} {ns : List Str} (ha : H a = some (.ins (He.ga K Cn) dx fs)) (tc : ClsF K Cn ns) (hf : f ∈ ns) (lk : fs.lookup f = some v) (q : Q v H) : FldO K H a f Q := ⟨_, _, _, _, ha, tc.cl, tc.na f hf, lk, q⟩
theorem stoO {Cn : Str} {ns : List Str} (L : Own K B H l) (pp : Put l a (.ins (He.ga K Cn) dx fs) (.ins (He.ga K Cn) dx fs') l') (e : putF f y fs = fs') (tc : ClsF K Cn ns) (hf : f ∈ ns) (hn : fs.length < 1000) (h : ∀ H', Own K B H' l' → QH H') : StoO K H a f y QH := by
  subst e
  exact ⟨_, _, _, L.get pp.mem, tc.cl, tc.na f hf, hn, h _ (L.put rfl pp)⟩
theorem metO (ha : H a = some (.ins C dx fs)) (lk : fs.lookup m = none) (q : P) : MetO H a C m P := ⟨_, _, ha, lk, q⟩
theorem makO {P : Addr → Hp → Prop} (L : Own K B H l) (h : ∀ x dx H', Own K B H' (.pt x (.ins C dx []) :: .pt dx (.own x) :: l) → P x H') : MakO H C P := by
  intro x dx hx hd hn
  refine h x dx _ ((L.new hd _).new ?_ _)
  rw [upd_ne (Ne.symm hn)]
  exact hx
end
/-! lookups in written lists of fields -/
theorem lk_here {k : Str} {v : V} {l : List (Str × V)} : List.lookup k ((k, v) :: l) = some v := by
  show (match k == k with | true => some v | false => List.lookup k l) = some v
  rw [beq_self_eq_true]
theorem lk_skip {k g : Str} {v : V} {l : List (Str × V)} (h : (k == g) = false) : List.lookup k ((g, v) :: l) = List.lookup k l := by
  show (match k == g with | true => some v | false => List.lookup k l) = _
  rw [h]
theorem lk_nil {k : Str} : List.lookup k ([] : List (Str × V)) = none := rfl
theorem pf_nil {k : Str} {v : V} : putF k v [] = [(k, v)] := rfl
theorem pf_here {k : Str} {u v : V} {l : List (Str × V)} : putF k v ((k, u) :: l) = (k, v) :: l := if_pos rfl
theorem pf_skip {k g : Str} {u v : V} {l : List (Str × V)} (h : (k == g) = false) : putF k v ((g, u) :: l) = (g, u) :: putF k v l := if_neg fun e => by
  rw [e, beq_self_eq_true] at h
  cases h
/-! ### calls that change cells -/
inductive Take : List As → Addr → HO → List As → Prop
  | here {l : List As} {a : Addr} {o : HO} : Take (.pt a o :: l) a o l
  | there {l l' : List As} {x : As} {a : Addr} {o : HO} : Take l a o l' → Take (x :: l) a o (x :: l')
theorem Take.perm {l l' : List As} {a : Addr} {o : HO} (t : Take l a o l') : l.Perm (.pt a o :: l') := by
  induction t with
  | here => exact List.Perm.refl _
  | there _ ih => exact (List.Perm.cons _ ih).trans (List.Perm.swap _ _ _)
theorem Own.mut1 {K : PySem.W.Frag} {B H H' : Hp} {l l0 l' : List As} {a : Addr} {o : HO} (L : Own K B H l) (t : Take l a o l0) (M : Own K (delL H [a]) H' l') (m : mutb o = true := by rfl) : Own K B H' (l' ++ l0) := by
  refine Own.muts (l1 := [.pt a o]) (L.perm t.perm) (fun b u h => ?_) M
  cases List.mem_singleton.mp h
  exact m
theorem Own.mut2 {K : PySem.W.Frag} {B H H' : Hp} {l l1 l0 l' : List As} {a b : Addr} {o u : HO} (L : Own K B H l) (t : Take l a o l1) (t2 : Take l1 b u l0) (M : Own K (delL H [a, b]) H' l') (m : mutb o = true := by rfl) (m2 : mutb u = true := by rfl) : Own K B H' (l' ++ l0) := by
  refine Own.muts (l1 := [.pt a o, .pt b u]) (L.perm (t.perm.trans (List.Perm.cons _ t2.perm))) (fun c w h => ?_) M
  rcases List.mem_cons.mp h with e | h
  · cases e
    exact m
  · cases List.mem_singleton.mp h
    exact m2
/-- inside a def that changes the cells of l alone -/
theorem Own.in1 {K : PySem.W.Frag} {H : Hp} {a : Addr} {o : HO} (h : H a = some o) : Own K (delL H [a]) H [.pt a o] := by
  refine ⟨fun b u e => ?_, ?_, fun x hx => ?_⟩
  · by_cases z : b ∈ [a]
    · rw [delL_in z] at e
      cases e
    · rw [delL_out z] at e
      exact e
  · exact List.nodup_cons.mpr ⟨List.not_mem_nil, List.nodup_nil⟩
  · rw [List.mem_singleton.mp hx]
    exact ⟨h, delL_in (.head _)⟩
theorem Own.in2 {K : PySem.W.Frag} {H : Hp} {a b : Addr} {o u : HO} (h : H a = some o) (h2 : H b = some u) (n : a ≠ b) : Own K (delL H [a, b]) H [.pt a o, .pt b u] := by
  refine ⟨fun c w e => ?_, ?_, fun x hx => ?_⟩
  · by_cases z : c ∈ [a, b]
    · rw [delL_in z] at e
      cases e
    · rw [delL_out z] at e
      exact e
  · exact List.nodup_cons.mpr ⟨fun z => n (List.mem_singleton.mp z), List.nodup_cons.mpr ⟨List.not_mem_nil, List.nodup_nil⟩⟩
  · rcases List.mem_cons.mp hx with e | hx
    · rw [e]
      exact ⟨h, delL_in (.head _)⟩
    · rw [List.mem_singleton.mp hx]
      exact ⟨h2, delL_in (.tail _ (.head _))⟩
theorem delL_sq {K : PySem.W.Frag} {H : Hp} {a b : Addr} {o : HO} {xs : List V} (h : SqL K H b xs) (e : H a = some o) (n : ∀ ys, o ≠ .lst ys) (n2 : ∀ w u, o ≠ .frz w u) : SqL K (delL H [a]) b xs := by
  rcases h with (g | ⟨w, g⟩) | g
  · refine .inl (.inl ?_)
    rw [delL_out]
    · exact g
    · intro z
      rw [List.mem_singleton.mp z, e] at g
      cases g
      exact n _ rfl
  · refine .inl (.inr ⟨w, ?_⟩)
    rw [delL_out]
    · exact g
    · intro z
      rw [List.mem_singleton.mp z, e] at g
      cases g
      exact n2 _ _ rfl
  · exact .inr g
/-! what is needed, in another order -/
inductive Pick : List As → List As → Prop
  | nil {l : List As} : Pick l []
  | cons {l l1 l' : List As} {a : Addr} {o : HO} : Take l a o l1 → Pick l1 l' → Pick l (.pt a o :: l')
  | im {l l' : List As} {v : V} {d : PyData} : As.im v d ∈ l → Pick l l' → Pick l (.im v d :: l')
  | ims {l l' : List As} {vs : List V} {ds : List PyData} : As.ims vs ds ∈ l → Pick l l' → Pick l (.ims vs ds :: l')
theorem Own.pick0 {K : PySem.W.Frag} {B H : Hp} {l l' : List As} (p : Pick l l') : Own K B H l → Own K B H l' := by
  induction p with
  | nil => exact fun L => L.sub (List.nil_sublist _)
  | @cons l l1 l' a o t q ih =>
    intro L
    have L1 := L.perm t.perm
    have L2 := ih L1.drop1
    refine L2.add (L1.all _ (.head _)) fun b hb hn => ?_
    obtain rfl := List.mem_singleton.mp hb
    have nd := L1.nd
    unfold ads at nd
    rw [List.flatMap_cons] at nd
    have dis := (List.nodup_append.mp nd).2.2 b hb
    have sub : ∀ {l l' : List As}, Pick l l' → ∀ x ∈ ads l', x ∈ ads l := by
      intro l l' p
      induction p with
      | nil => exact fun x m => nomatch m
      | @cons l l1 l' a o t q ih2 =>
        intro x m
        have e : ads (As.pt a o :: l') = a :: ads l' := rfl
        rw [e] at m
        have pe : (ads l).Perm (a :: ads l1) := t.perm.flatMap_right _
        rcases List.mem_cons.mp m with h | h
        · exact pe.mem_iff.mpr (h ▸ .head _)
        · exact pe.mem_iff.mpr (.tail _ (ih2 x h))
      | im _ _ ih2 => exact fun x m => ih2 x m
      | ims _ _ ih2 => exact fun x m => ih2 x m
    exact dis b (sub q b hn) rfl
  | im h _ ih => exact fun L => (ih L).addIm (L.imm h)
  | ims h _ ih => exact fun L => (ih L).addIms (L.imms h)
theorem Own.pick {K : PySem.W.Frag} {B H : Hp} {l l' : List As} (L : Own K B H l) (p : Pick l l') : Own K B H l' := Own.pick0 p L
end Bel
namespace Bel
open PySem PySem.Spec PyProof.Rows L2
/-! ### methods called where an exception is handled -/
structure MthH (P : Program) (w : World) (K : PySem.W.Frag) (base : Heap) (mg : Str → Option Value) (k : Nat) (C m : Str) (ps : List Str) (sp : Sp) : Prop where
  ex : ∃ fd : FuncData, L2H.FnH P w K mg base (L2N.CX P w) k (He.ma K (He.ga K C) m) fd ps sp ∧ Meth K (He.ga K C) m (He.ma K (He.ga K C) m) ∧ Cls K (He.ga K C) ∧ Binds K fd ps []
theorem okN {P : Program} {w : World} {K : PySem.W.Frag} {mg : Str → Option Value} {base : Heap} {x qual : Str} {params : Arguments} {body : List Stmt} {scope : Scope} {f : Addr} {fd : FuncData} {N ps : List Str} {k : Nat} {sp : Sp}
    (F : FunD K x qual params body scope [] [] f fd) (S : FnScope N ps scope) (len : ∀ vs H Q E, sp vs H Q E → vs.length = ps.length)
    (go : ∀ (cd : Value) (A : Around) (outer : List Env) (s : Shared) (H : Hp) (vs : List V) (Q : VK) (E : XK) (p : Addr × Obj), L2H.RoomH k (A.deeper (envOfC qual scope s.heap.objs.size f cd)) → sp vs H Q E →
      ∃ t, PSs (L2H.cxH (L2N.CX P w) P w K mg base N qual scope f cd A outer s H E p) body t ∧ t { nx := fun _ H' => Q .non H', rt := Q } (L2.start N vs) H) :
    L2H.FnH P w K mg base (L2N.CX P w) (k + 1) f fd ps sp := by
  obtain ⟨_, _, _, _, _, _, _, cd, _, _, rfl, at_, code, _, _⟩ := F.ex
  exact L2H.fn_ofH at_ code S len fun A outer s H vs Q E p _ room want => go cd A outer s H vs Q E p room want
theorem hotC_of {X : Cx} {a : Addr} {oe : Obj} {cls : Value} {d : Option Addr} {pn : List (Addr × Obj)} (hz : L2N.Zn cls d oe) (hf : ∃ vs, oe.data = .fields vs) : L2H.HotC (X.suite a ((a, oe) :: pn)) := by
  obtain ⟨vs, e⟩ := hf
  exact ⟨(a, oe), ⟨rfl, vs, e, hz.2.2 vs e⟩, .head _⟩
theorem pe_mtH0 {X : Cx} {K : PySem.W.Frag} {k : Nat} {C m : Str} {ps : List Str} {sp : Sp} {o : Expr} {ta : TE} {apos pos : Pos} {pl : Sem Bool} (c : MthH X.prog X.w K X.base X.mg k C m ps sp) (hr : L2H.RoomH k X.A) (hot : L2H.HotC X) (ho : PE X o ta)
    (h3 : eval (.Call (.Attribute o m apos) [] [] pos) X.env = (do
      let ov ← eval o X.env
      standAt apos.atName
      let (f, first) ← holding [ov] (getMethod ov m pl)
      callWith pos f first (backTo pos (starEach [] X.env)) (backToKw pos (keywordEach [] X.env))) := by rfl) (hK : X.K = K := by rfl) :
    PE X (.Call (.Attribute o m apos) [] [] pos) (tMeth (He.ga K C) m sp [] E0 ta tNil) := by
  subst hK
  obtain ⟨fd, F, me, cl, hb⟩ := c.ex
  refine ⟨fun pn sh st Hs Qv hin hq => PySem.W.methodCall_KW (pl := pl) (thn (ho.run pn sh st Hs _ hin hq) fun ov sh1 hx => ?_) h3⟩
  obtain ⟨x, G, in1, rx, a, dx, fs, ex, at_, no, pr⟩ := hx
  subst ex
  cases rx
  have out : ∀ σ, PassesAt (L2N.CX X.prog X.w) X σ E0 := fun σ pins H s e s' _ z => by
    obtain ⟨_, _, _, _, _, _, _, _, _, _, _, _, f⟩ := z
    cases f
  exact getmeth_ok in1 at_ cl me no (PySem.W.callWith_K0 (first := [.ref a]) in1.kIn me.kp (L2H.run_fnH (E := fun _ => E0) (us := [.ref a]) (vs := [.ref a]) F hr hot hb (out st) in1 (.cons rfl .nil) pr))
end Bel

namespace Bel
open PySem PySem.Spec PyProof.Rows L2
/-! ### dicts: made, filled, asked -/
def DPO (H : Hp) (a : Addr) (y v : V) (QH : Hp → Prop) : Prop := ∃ H4, DPut H a y v H4 ∧ QH H4
def DGO (H : Hp) (a : Addr) (y : V) (Q : VK) : Prop := ∃ v, DGet H a y (some v) ∧ Q v H
def DIO (H : Hp) (a : Addr) (y : V) (Q : VK) : Prop := ∃ o, DGet H a y o ∧ Q (.bl o.isSome) H
section
variable {K : PySem.W.Frag} {td ty tv : TE} {σ : L2.St} {H : Hp} {Q : VK} {D : Ends}
theorem n_dput : sDPut td ty tv D σ H = tv σ H (fun v H1 => td σ H1 (fun x H2 => ty σ H2 (fun y H3 => ∃ a, x = .ref a ∧ DPO H3 a y v (fun H4 => D.nx σ H4)))) := by
  unfold sDPut DPO
  congr 1
  funext v H1
  congr 1
  funext x H2
  congr 1
  funext y H3
  refine propext ⟨fun ⟨a, H4, e, h⟩ => ⟨a, e, H4, h⟩, fun ⟨a, e, H4, h⟩ => ⟨a, H4, e, h⟩⟩
theorem n_dget : tDGet td ty σ H Q = td σ H (fun x H1 => ty σ H1 (fun y H2 => ∃ a, x = .ref a ∧ DGO H2 a y Q)) := by
  unfold tDGet DGO
  congr 1
  funext x H1
  congr 1
  funext y H2
  refine propext ⟨fun ⟨a, v, e, h⟩ => ⟨a, e, v, h⟩, fun ⟨a, e, v, h⟩ => ⟨a, v, e, h⟩⟩
theorem n_din : tDIn ty td σ H Q = ty σ H (fun y H1 => td σ H1 (fun x H2 => ∃ a, x = .ref a ∧ DIO H2 a y Q)) := by
  unfold tDIn DIO
  congr 1
  funext y H1
  congr 1
  funext x H2
  refine propext ⟨fun ⟨a, v, e, h⟩ => ⟨a, e, v, h⟩, fun ⟨a, e, v, h⟩ => ⟨a, v, e, h⟩⟩
def IsDO (H : Hp) (a : Addr) (P : Prop) : Prop := IsD H a ∧ P
def DG2 (H : Hp) (a : Addr) (y z : V) (Q : VK) : Prop := ∃ o, DGet H a y o ∧ Q (o.getD z) H
theorem n_dget2 {tx : TE} : tDGet2 td ty tx σ H Q = td σ H (fun x H1 => ∃ a, x = .ref a ∧ IsDO H1 a (ty σ H1 (fun y H2 => tx σ H2 (fun z H3 => DG2 H3 a y z Q)))) := rfl
theorem n_glst {n : Nat} {gs : TGs} {v : V} {QG : L2.St → Hp → Prop} : gLst K n gs v σ H QG = ∃ a xs, v = .ref a ∧ SqL K H a xs ∧ xs.length = n ∧ gs xs σ H QG := rfl
theorem n_dnew : tDNewK σ H Q = NewO H (.dK []) Q := rfl
end
section
variable {K : PySem.W.Frag} {B H : Hp} {l l' : List As} {a : Addr} {kvs : List (Key × V)} {i : Int} {v y : V} {Q : VK} {QH : Hp → Prop}
theorem g_dputO (h : DPO H a y v QH) : DPO H a y v QH := h
theorem g_dgetO (h : DGO H a y Q) : DGO H a y Q := h
theorem g_dinO (h : DIO H a y Q) : DIO H a y Q := h
theorem dputI (L : Own K B H l) (pp : Put l a (.dK kvs) (.dK (putK kvs (.inl i) v)) l') (hl : kvs.length < sizeLine) (h : ∀ H', Own K B H' l' → QH H') : DPO H a (.int i) v QH := ⟨_, DPut.k (k := .inl i) (L.get pp.mem) hl, h _ (L.put rfl pp)⟩
theorem dgetI (e : H a = some (.dK kvs)) (h : valV kvs (.inl i) = some v) (q : Q v H) : DGO H a (.int i) Q := ⟨v, h ▸ DGet.k (k := .inl i) e, q⟩
theorem g_isDO {P : Prop} (h : IsDO H a P) : IsDO H a P := h
theorem g_dg2 {z : V} (h : DG2 H a y z Q) : DG2 H a y z Q := h
theorem isDO {P : Prop} (e : H a = some (.dK kvs)) (p : P) : IsDO H a P := ⟨.inl ⟨kvs, .inl e⟩, p⟩
theorem dg2I {z : V} (e : H a = some (.dK kvs)) (q : Q ((valV kvs (.inl i)).getD z) H) : DG2 H a (.int i) z Q := ⟨_, DGet.k (k := .inl i) e, q⟩
theorem dinI (e : H a = some (.dK kvs)) (q : Q (.bl (valV kvs (.inl i)).isSome) H) : DIO H a (.int i) Q := ⟨_, DGet.k (k := .inl i) e, q⟩
end
end Bel

/-! ### isinstance of a caught error whose object has a dict -/
namespace PySem.W
open PySem PySem.Spec PySem.Calls PyProof.Rows
section
variable {prog : Program} {w : World} {A : Around} {E : Value → Shared → Prop} {s : Shared} {K : Frag} {x D : Addr} {ox : Obj} {od : Option Obj}
theorem bel_find {C : Addr} {name : Str} {a g : Value} (hc : (clsIn K C).isSome = true) (ha : findIn K (.ref C) name = some (some a))
    (hg : specialIn K a "__get__" = some (some g)) (ht : takesIn K a = some true) : findObj K C od name = some (.bind g a) := by
  cases e : clsIn K C with
  | none =>
    rw [e] at hc
    cases hc
  | some cd =>
    simp [findObj, e, ha, hg, ht]
theorem bel_class {Q : Option Value → Shared → Prop} (F : L2.ExcC K D) (X : K.In s.heap) (I : InstAt s.heap x ox D od)
    (h : Q (some (.ref D)) { s with toks := s.toks + 1 }) :
    wpAny (model prog w) A (getAttr? (.ref x) "__class__") Q E s := by
  obtain ⟨own, kept, sub0, dic, cla, get0, tak, mro⟩ := F
  have some_ : (clsIn K D).isSome = true := by
    obtain ⟨_, e, _⟩ := any_some dic
    rw [e]
    rfl
  obtain ⟨hp, g, d, t, os⟩ := s
  have l0 := I.type (M := model prog w)
  have l1 := looks_findIn (M := model prog w) X own
  have l2 := looks_findIn (M := model prog w) X kept
  have l3 := looks_find (M := model prog w) X I (bel_find some_ cla get0 tak)
  have isB : Looks (model prog w) hp (isInstance (.ref x) (.type "BaseException")) true :=
    l0.andThen (looks_subIn X sub0)
  have no : (Value.builtin "BaseException.__getattribute__" == Value.builtin "object.__getattribute__") = false := by
    decide +kernel
  have no2 : (onTheHeap (Value.ref D) && (Value.builtin "BaseException.__getattribute__" == Value.builtin "object.__getattribute__")) = false := by
    rw [no]
    rfl
  unfold getAttr? getAttrBy? getAttrBy
  refine wpAny_bind (wpAny_mkText (wpAny_bind (wpAny_attempt (wpAny_holding
    (wpAny_bind (l0.at (wpAny_bind (l1.at ?_))))))))
  show wpAny _ _ (if (onTheHeap (Value.ref D) && _) = true then _ else _) _ _ _
  rw [no2]
  rw [if_neg Bool.false_ne_true]
  unfold getAttrByItsOwn hookBefore
  refine wpAny_bind ?_
  rw [if_pos (show onTheHeap (.ref D) = true from rfl)]
  refine l2.at (wpAny_bind (wpAny_attempt (wpAny_holding ?_)))
  unfold callGetattribute
  rw [show (false && onTheHeap (.builtin "BaseException.__getattribute__")) = false from rfl]
  rw [if_neg Bool.false_ne_true]
  unfold boundAndCalled
  rw [F.excAttr_ValueError.ga.bind (.ref x)]
  refine wpAny_bind (wpAny_pure ?_)
  show wpAny _ _ (call (.builtin "BaseException.__getattribute__") [_, _]) _ _ _
  refine wpAny_call (codeAny_call_builtin
    F.excAttr_ValueError.ga.plain F.entry_bexc_ga ?_)
  refine @check_slot (model prog w) _ _ ⟨hp, g, d, t + 1, os⟩ "BaseException.__getattribute__"
    "BaseException" "__getattribute__" (.ref x) [.str "__class__" t] [] _
    (by decide +kernel) (by decide +kernel) isB (F.args_bexc_ga _ _) ?_
  unfold Builtin.«object.__getattribute__»
  refine wpAny_bind (wpAny_of_eq (a := ((Value.ref x : Value), [Value.str "__class__" t]))
    (by first | rfl | (simp only [slotArgs]; rfl)) ?_)
  refine wpAny_bind (wpAny_pure (wpAny_bind (l0.at (wpAny_bind (l3.at ?_)))))
  show wpAny _ _ (holding [_] (call (.builtin "getset_descriptor.__get__") [_, _, _]) >>= ret) _ _ _
  refine wpAny_bind (wpAny_holding (wpAny_call
    (class_get (s := ⟨hp, g, d, t + 1, os⟩) (ox := ox) (od := od) X I mro ?_)))
  refine wpAny_pure ?_
  show wpAny _ _ (handedOut (.ref D)) _ _ _
  rw [handedOut_of (v := .ref D) rfl]
  first
    | exact wpAny_pure (wpAny_pure h)
    | exact wpAny_pure h
    | exact wpAny_pure (wpAny_bind (wpAny_pure (wpAny_pure h)))
end
end PySem.W
namespace PySem.W
open PySem PySem.Spec PySem.Calls PyProof.Rows
theorem bel_kit {K : Frag} {x D : Addr} {ox : Obj} {od : Option Obj} (F : L2.ExcC K D) : KitX K (.ref x) (.ref D) (fun h => InstAt h x ox D od) := by
  have cls : ∃ c d cd sl, K.lookup D = some ⟨c, d, .cls cd, sl⟩ := by
    obtain ⟨cd, e, _⟩ := any_some F.hd
    unfold clsIn at e
    split at e
    · rename_i c d cd sl there
      exact ⟨c, d, cd, sl, there⟩
    · cases e
  obtain ⟨c, d, cd, sl, there⟩ := cls
  refine ⟨fun _ _ _ I => I.type, fun _ _ X _ => ?_, fun h tp dd its n sl' X at_ => ?_, fun X I k => bel_class F X I k⟩
  · intro A Q E s k q
    unfold isType loadHead
    exact wpAny_bind (wpAny_loadPart (k _ _ (X _ _ there)) (wpAny_pure q))
  · apply Bool.eq_false_iff.mpr
    intro q
    cases Value.ref.inj (beq_iff_eq.mp q)
    cases (X _ _ there).symm.trans at_
end PySem.W
namespace Bel
open PySem PySem.Spec PyProof.Rows L2
/-- isinstance(e, c) of the error that the suite holds -/
def rIsX (K : PySem.W.Frag) (a : Addr) (cls : Value) (d : Option Addr) : List V → Hp → VK → Prop := fun xs H Q => ∃ (c : V) (cv : Value) (b : Bool) (D dd : Addr) (fs : List (Str × V)), xs = [.ref a, c] ∧ cls = .ref D ∧ d = some dd ∧ H dd = some (.xd fs) ∧ ExcC K D ∧
  (∀ u, RelV c u → u = cv) ∧ PySem.W.kitOne K (.ref D) cv = some b ∧ Q (.bl b) H
theorem call_isX {X : Cx} {a : Addr} {oe : Obj} {cls : Value} {d : Option Addr} {pn : List (Addr × Obj)} (hz : L2N.Zn cls d oe) (hf : ∃ vs, oe.data = .fields vs) : CallR (X.suite a ((a, oe) :: pn)) (.builtin "isinstance") (rIsX X.K a cls d) := by
  intro pins s σ H xs us Q I r h
  obtain ⟨c, cv, b, D, dd, fs, rfl, rfl, rfl, hx, F, same, e, q⟩ := h
  obtain ⟨u1, u2, rfl, r1, r2⟩ := vals2 r
  cases r1
  cases same _ r2
  obtain ⟨here, _⟩ := I.pin (a, oe) (List.mem_append_left _ (.head _))
  obtain ⟨vs, hv⟩ := hf
  obtain ⟨_, ⟨od, _, _, ho, _⟩, _⟩ := (show ObjOk X.prog X.w H s.heap dd (.xd fs) from I.hok dd _ hx)
  have J : PySem.W.InstAt s.heap a oe D (some od) :=
    ⟨here, hz.1, by unfold PySem.W.notCls; rw [hv], by rw [hz.2.1]; exact ho⟩
  exact PySem.W.kia_one (PySem.W.bel_kit F) I.kIn J e (fun z => nomatch z) fun tk => ⟨.bl b, H, I.tok tk, rfl, q⟩
end Bel
namespace Bel
open PySem PySem.Spec PyProof.Rows L2
/-! ### tuples in a constant tuple -/
def elA (x : Str) (i : Nat) (K : PySem.W.Frag) : Addr := match K.lookup (He.ga K x) with
  | some ⟨_, _, .seq its _, _⟩ => (match its.toList[i]? with
    | some (.ref a) => a
    | _ => 0)
  | _ => 0
def tpB (K : PySem.W.Frag) (a : Addr) (vs : List He.Dv) : Bool := match K.lookup a with
  | some ⟨.type c, _, .seq its _, _⟩ => decide (c = "tuple") && (decide (its.size ≤ sizeLine) && He.relAll (vs.map (He.Dv.v K)) its.toList)
  | _ => false
theorem tpB_ok {K : PySem.W.Frag} {a : Addr} {vs : List He.Dv} (h : tpB K a vs = true) (H : Hp) : SqT K H a (vs.map (He.Dv.v K)) := by
  unfold tpB at h
  split at h
  · rename_i c d its n sl at_
    obtain ⟨e1, h⟩ := ba h
    obtain ⟨e2, e3⟩ := ba h
    exact .inr ⟨_, its, n, at_, by rw [of_decide_eq_true e1], rfl, of_decide_eq_true e2, He.relAll_ok e3⟩
  · cases h
/-! ### what isinstance of an error asks of its class -/
def exCB (K : PySem.W.Frag) (x : Str) : Bool :=
  decide (PySem.W.findIn K (.ref (He.ga K x)) "__getattribute__" = some (some (.builtin "BaseException.__getattribute__"))) &&
  (decide (PySem.W.findIn K (.ref (He.ga K x)) "__getattr__" = some none) &&
  (decide (PySem.W.subIn K (.ref (He.ga K x)) (.type "BaseException") = some true) &&
  (PySem.W.hasDictIn K (He.ga K x) &&
  (decide (PySem.W.findIn K (.ref (He.ga K x)) "__class__" = some (some (.builtin "object.__class__"))) &&
  (decide (PySem.W.specialIn K (.builtin "object.__class__") "__get__" = some (some (.builtin "getset_descriptor.__get__"))) &&
  (decide (PySem.W.takesIn K (.builtin "object.__class__") = some true) &&
  decide (PySem.W.mroIn K (He.ga K x) (.type "object") = some true)))))))
theorem exCB_ok {K : PySem.W.Frag} {x : Str} (c : exCB K x = true) : ExcC K (He.ga K x) := by
  obtain ⟨a1, c⟩ := ba c
  obtain ⟨a2, c⟩ := ba c
  obtain ⟨a3, c⟩ := ba c
  obtain ⟨a4, c⟩ := ba c
  obtain ⟨a5, c⟩ := ba c
  obtain ⟨a6, c⟩ := ba c
  obtain ⟨a7, a8⟩ := ba c
  exact ⟨of_decide_eq_true a1, of_decide_eq_true a2, of_decide_eq_true a3, a4, of_decide_eq_true a5, of_decide_eq_true a6, of_decide_eq_true a7, of_decide_eq_true a8⟩
theorem isX {X : Cx} (K : PySem.W.Frag) {a : Addr} {oe : Obj} {cls : Value} {d : Option Addr} {pn : List (Addr × Obj)} (hz : L2N.Zn cls d oe) (hf : ∃ vs, oe.data = .fields vs) (h : X.K = K := by rfl) : CallR (X.suite a ((a, oe) :: pn)) (.builtin "isinstance") (rIsX K a cls d) := h ▸ call_isX hz hf
end Bel

namespace Bel
open PySem PySem.Spec PyProof.Rows L2
theorem g_asl {n : Nat} {es : List Expr} {env : Env} {B : Prop} (h : n = (assignEach es env).length ∧ B) : n = (assignEach es env).length ∧ B := h
/-! where the error's class lies below the clause's -/
theorem as_base {K : PySem.W.Frag} {x b : Str} {i : Nat} {ts : Addr → Value → Option Addr → TS} {Wout : WX} {D : Ends} {σ : L2.St} {H : Hp} {d : Option Addr} (e : PySem.W.exmOne K (.ref (He.ga K x)) (.ref (He.ga K b)) = some true)
    (h : ∀ a, H a = none → ts a (.ref (He.ga K x)) d { nx := fun σ' H' => D.nx (σ'.set i none) H', rt := D.rt, bk := fun σ' H' => D.bk (σ'.set i none) H', ct := fun σ' H' => D.ct (σ'.set i none) H' } (σ.set i (some (.ref a))) H) :
    wAs K (.ref (He.ga K b)) i ts Wout D (.ref (He.ga K x)) d σ H := ⟨true, e, fun _ => h, fun z => nomatch z⟩
/-! lists of ints from behind -/
theorem atI_end {xs : List Int} (h : 0 < xs.length) : atI (xs.map V.int) (-1) = some (.int (xs.getD (xs.length - 1) 0)) := by
  obtain ⟨ys, y, rfl⟩ : ∃ ys y, xs = ys ++ [y] := ⟨xs.dropLast, xs.getLast (List.length_pos_iff.mp h), (List.dropLast_concat_getLast _).symm⟩
  rw [List.map_append]
  have e : (ys ++ [y]).getD ((ys ++ [y]).length - 1) 0 = y := by
    rw [List.getD_eq_getElem?_getD, List.length_append, List.length_singleton, Nat.add_sub_cancel, List.getElem?_append_right (Nat.le_refl _), Nat.sub_self]
    rfl
  rw [e]
  exact atI_last _ _
theorem isi_ii {K : PySem.W.Frag} {H : Hp} {Q : VK} {j : Int} (q : Q (.bl true) H) : rIsi K [.int j, .ty "int"] H Q := isi_int (b := true) rfl q
theorem isi_ib {K : PySem.W.Frag} {H : Hp} {Q : VK} {j : Int} (q : Q (.bl false) H) : rIsi K [.int j, .ty "bool"] H Q := isi_int (b := false) rfl q
/-! x += list, xs[::-1], tuple(list) -/
def ExtO (H : Hp) (p : Addr) (zs : List V) (Q : VK) : Prop := ∃ xs, H p = some (.lst xs) ∧ xs.length + zs.length ≤ sizeLine ∧ Q (.ref p) (upd H p (.lst (xs ++ zs)))
section
variable {K : PySem.W.Frag} {B H : Hp} {l l' : List As} {Q : VK} {p : Addr} {x y : V}
theorem ip_ext {X : Cx} : PIp X .Add rExt2 := iop_ext
theorem n_ext : rExt2 x y H Q = ∃ l b, x = .ref l ∧ y = .ref b ∧ ∃ zs, H b = some (.lst zs) ∧ ExtO H l zs Q := propext ⟨fun ⟨l, b, xs, zs, e1, e2, h1, h2, h3, h4⟩ => ⟨l, b, e1, e2, zs, h2, xs, h1, h3, h4⟩, fun ⟨l, b, e1, e2, zs, h2, xs, h1, h3, h4⟩ => ⟨l, b, xs, zs, e1, e2, h1, h2, h3, h4⟩⟩
theorem g_extO {zs : List V} (h : ExtO H p zs Q) : ExtO H p zs Q := h
theorem extO {xs zs : List V} (L : Own K B H l) (pp : Put l p (.lst xs) (.lst (xs ++ zs)) l') (hs : xs.length + zs.length ≤ sizeLine) (h : ∀ H', Own K B H' l' → Q (.ref p) H') : ExtO H p zs Q := ⟨xs, L.get pp.mem, hs, h _ (L.put rfl pp)⟩
theorem extI {xs zs : List Int} (L : Own K B H l) (pp : Put l p (.lst (xs.map V.int)) (.lst ((xs ++ zs).map V.int)) l') (hs : xs.length + zs.length ≤ sizeLine) (h : ∀ H', Own K B H' l' → Q (.ref p) H') : ExtO H p (zs.map V.int) Q :=
  ⟨xs.map V.int, L.get pp.mem, by rw [List.length_map, List.length_map]; exact hs, by
    have e : xs.map V.int ++ zs.map V.int = (xs ++ zs).map V.int := List.map_append.symm
    rw [e]
    exact h _ (L.put rfl pp)⟩
theorem n_revL {te : TE} {σ : L2.St} : tRevL K te σ H Q = te σ H (fun x H1 => ∃ a xs, x = .ref a ∧ SqL K H1 a xs ∧ NewO H1 (.lst xs.reverse) Q) := rfl
theorem ints_rev {xs : List Int} : (xs.map V.int).reverse = xs.reverse.map V.int := List.map_reverse.symm
def rTp (K : PySem.W.Frag) (xs : List V) (H : Hp) (Q : VK) : Prop := ∃ p ys, xs = [.ref p] ∧ ((SqL K H p ys ∧ NewO H (.tup ys) Q) ∨ (SqT K H p ys ∧ Q (.ref p) H))
theorem n_rTp {xs : List V} : rTp K xs H Q = ∃ p, xs = [.ref p] ∧ ∃ ys, ((SqL K H p ys ∧ NewO H (.tup ys) Q) ∨ (SqT K H p ys ∧ Q (.ref p) H)) := propext ⟨fun ⟨p, ys, e, h⟩ => ⟨p, e, ys, h⟩, fun ⟨p, e, ys, h⟩ => ⟨p, ys, e, h⟩⟩
theorem g_tp {P : List V → Prop} {R : Prop} (h : ∃ ys, ((SqL K H p ys ∧ P ys) ∨ (SqT K H p ys ∧ R))) : ∃ ys, ((SqL K H p ys ∧ P ys) ∨ (SqT K H p ys ∧ R)) := h
theorem tp_l {P : List V → Prop} {R : Prop} {ys : List V} (h : SqL K H p ys) (q : P ys) : ∃ ys, ((SqL K H p ys ∧ P ys) ∨ (SqT K H p ys ∧ R)) := ⟨ys, .inl ⟨h, q⟩⟩
theorem tp_t {P : List V → Prop} {R : Prop} {ys : List V} (h : SqT K H p ys) (q : R) : ∃ ys, ((SqL K H p ys ∧ P ys) ∨ (SqT K H p ys ∧ R)) := ⟨ys, .inr ⟨h, q⟩⟩
theorem t_im {ns : List Int} : HO.tup (ns.map V.int) = tupI ns := rfl
end
theorem tpK {X : Cx} (K : PySem.W.Frag) (h : X.K = K := by rfl) : CallR X (.type "tuple") (rTp K) := h ▸ call_tuple_of
/-! ranges with a step upwards -/
theorem rgSize_pos {i j c : Int} (hc : 0 < c) : Builtin.Range.rangeSize i j c = (((j - i + c - 1) / c).toNat : Int) := by
  unfold Builtin.Range.rangeSize
  rw [if_pos hc]
  by_cases h : i < j
  · rw [if_pos h]
    have e : (j - i + c - 1) / c = (j - i - 1) / c + 1 := by
      rw [show j - i + c - 1 = (j - i - 1) + 1 * c by omega, Int.add_mul_ediv_right _ _ (by omega)]
    have p : 0 ≤ (j - i - 1) / c := Int.ediv_nonneg (by omega) (by omega)
    rw [e]
    omega
  · rw [if_neg h]
    have e : (j - i + c - 1) / c ≤ 0 := by
      have : (j - i + c - 1) / c ≤ (c - 1) / c := Int.ediv_le_ediv hc (by omega)
      have z : (c - 1) / c = 0 := Int.ediv_eq_zero_of_lt (by omega) (by omega)
      omega
    omega
theorem RgC.pos {i j c : Int} (hc : 0 < c) (hc' : c < 1073741824) (h1 : -(2 ^ 30) ≤ i) (h2 : i < 2 ^ 30) (h3 : -(2 ^ 30) ≤ j) (h4 : j < 2 ^ 30) : RgC i j c ((j - i + c - 1) / c).toNat := by
  refine ⟨by omega, by omega, ?_, rgSize_pos hc⟩
  unfold Builtin.Range.small
  rw [rgSize_pos hc]
  have b1 : (j - i + c - 1) / c ≤ 2 ^ 32 := by
    by_cases z : 0 ≤ j - i + c - 1
    · exact Int.le_trans (Int.ediv_le_self _ z) (by omega)
    · exact Int.le_trans (Int.ediv_le_of_le_mul hc (b := 0) (by omega)) (by decide)
  simp only [Builtin.Range.rangeFitsLong, Bool.and_eq_true, Bool.or_eq_true, decide_eq_true_eq, beq_iff_eq]
  rw [if_pos (show c > 0 from hc)]
  simp only [Bool.and_eq_true, decide_eq_true_eq]
  repeat' apply And.intro
  all_goals omega
/-- a comprehension of ints over a range with a step -/
theorem compCi {K : PySem.W.Frag} {B H : Hp} {l : List As} {te : TE} {σ : L2.St} {lo c : Int} {n : Nat} {g : TG} {vs : List Nat} {Q : Addr → Hp → Prop} (f : Nat → Int) (L : Own K B H l) (hn : n < 100000)
    (hs : ∀ i D H1, i < n → Own K B H1 (pI D (rngL f i) :: l) → g (.int (lo + (i : Nat) * c)) (wipe σ vs) H1 fun σ2 H2 => wipe σ2 vs = wipe σ vs ∧ te σ2 H2 (CQ K B D l (rngL f i ++ [f i])))
    (hd : ∀ D H', Own K B H' (pI D (rngL f n) :: l) → Q D H') : ∀ D, H D = none → CompI (Itc lo c n) g tYes te vs σ H D (Q D) := by
  intro D hD
  refine comp_rangeC (fun i H' => Own K B H' (pI D (rngL f i) :: l)) (L.new hD _) (fun i H' hi h => ?_) (fun H' h => hd D H' h)
  have := hs i D H' hi h
  unfold CQ at this
  rw [← rngL_succ] at this
  exact this
theorem rgPos {i j c : Int} {P : Nat → Prop} (hc : 0 < c) (hc' : c < 1073741824) (h1 : -(2 ^ 30) ≤ i) (h2 : i < 2 ^ 30) (h3 : -(2 ^ 30) ≤ j) (h4 : j < 2 ^ 30) (q : P ((j - i + c - 1) / c).toNat) : ∃ n, RgC i j c n ∧ P n := ⟨_, RgC.pos hc hc' h1 h2 h3 h4, q⟩
theorem g_asqT {K : PySem.W.Frag} {H : Hp} {a : Addr} {B : Prop} (h : (∃ x, SqT K H a x) ∧ B) : (∃ x, SqT K H a x) ∧ B := h
theorem and_sqT {K : PySem.W.Frag} {H : Hp} {a : Addr} {xs : List V} {B : Prop} (h : SqT K H a xs) (q : B) : (∃ x, SqT K H a x) ∧ B := ⟨⟨xs, h⟩, q⟩
theorem pg_tupK {X : Cx} {pos : Pos} {es : List Expr} {k : Nat} {t : TGs} (K : PySem.W.Frag) (n : Nat) (hc : X.calm = true) (h : PGs X es t) (hK : X.K = K := by rfl)
    (hn : (assignEach es X.env).length = n := by rfl) (hst : (assignEach es X.env).findIdx? (·.1) = none := by rfl) : PG X (.Tuple es k pos) (gTup K n t) := by
  subst hK
  exact pg_tup hc h hn hst
theorem inV_ints {c : Int} {xs : List Int} : inV (.int c) (xs.map V.int) = decide (c ∈ xs) := by
  unfold inV
  rw [Bool.eq_iff_iff, decide_eq_true_iff, List.any_eq_true]
  constructor
  · rintro ⟨y, m, e⟩
    obtain ⟨z, mz, rfl⟩ := List.mem_map.mp m
    have : z = c := by simpa [eqV] using e
    exact this ▸ mz
  · intro m
    exact ⟨.int c, List.mem_map.mpr ⟨c, m, rfl⟩, by simp [eqV]⟩
theorem flat_ints {xs : List Int} : (xs.map V.int).all flatV = true := by
  rw [List.all_eq_true]
  intro y m
  obtain ⟨z, _, rfl⟩ := List.mem_map.mp m
  rfl
theorem in_ints {K : PySem.W.Frag} {H : Hp} {Q : VK} {p : Addr} {c : Int} {xs : List Int} (h : SqL K H p (xs.map V.int)) (q : Q (.bl (decide (c ∈ xs))) H) : rIn K false (.int c) (.ref p) H Q := ⟨p, _, rfl, .inl h, rfl, flat_ints, by
  rw [inV_ints]
  exact q⟩
theorem notIn_ints {K : PySem.W.Frag} {H : Hp} {Q : VK} {p : Addr} {c : Int} {xs : List Int} (h : SqL K H p (xs.map V.int)) (q : Q (.bl (!decide (c ∈ xs))) H) : rIn K true (.int c) (.ref p) H Q := ⟨p, _, rfl, .inl h, rfl, flat_ints, by
  rw [inV_ints]
  exact q⟩
end Bel

namespace Bel
open PySem PySem.Spec PyProof.Rows L2
/-! ### many owned cells -/
theorem Own.conv {K : PySem.W.Frag} {B H : Hp} {l l' : List As} (L : Own K B H l) (e : (ads l').Perm (ads l)) (h : ∀ x ∈ l', x.holds K B H) : Own K B H l' := ⟨L.same, e.nodup_iff.mpr L.nd, h⟩
theorem ads_cons {x : As} {l : List As} : ads (x :: l) = x.ad ++ ads l := by
  unfold ads
  rw [List.flatMap_cons]
section
variable {K : PySem.W.Frag} {B H : Hp} {l l' : List As} {p : Addr} {o o' : HO} {ps qs : List (Addr × HO)}
theorem Own.objs0 (L : Own K B H l) : Own K B H (.objs [] :: l) := L.conv (by rw [ads_cons]; exact List.Perm.refl _) fun x m => by
  rcases List.mem_cons.mp m with rfl | m
  · exact fun q h => nomatch h
  · exact L.all x m
theorem Own.obj (L : Own K B H l) (m : As.objs ps ∈ l) (h : (p, o) ∈ ps) : H p = some o := (L.all _ m _ h).1
/-- one more, behind -/
theorem Own.objIn (L : Own K B H (.pt p o :: .objs ps :: l)) : Own K B H (.objs (ps ++ [(p, o)]) :: l) := by
  refine L.conv ?_ fun x m => ?_
  · rw [ads_cons, ads_cons, ads_cons]
    show ((ps ++ [(p, o)]).map Prod.fst ++ ads l).Perm ([p] ++ (ps.map Prod.fst ++ ads l))
    rw [List.map_append, List.append_assoc]
    exact List.perm_append_comm_assoc _ _ _
  · rcases List.mem_cons.mp m with rfl | m
    · intro q hq
      rcases List.mem_append.mp hq with hq | hq
      · exact L.all (.objs ps) (.tail _ (.head _)) q hq
      · rw [List.mem_singleton.mp hq]
        exact L.all (.pt p o) (.head _)
    · exact L.all x (.tail _ (.tail _ m))
/-- one of them alone -/
theorem Own.objOut (L : Own K B H (.objs (ps ++ (p, o) :: qs) :: l)) : Own K B H (.pt p o :: .objs (ps ++ qs) :: l) := by
  refine L.conv ?_ fun x m => ?_
  · rw [ads_cons, ads_cons, ads_cons]
    show ([p] ++ ((ps ++ qs).map Prod.fst ++ ads l)).Perm ((ps ++ (p, o) :: qs).map Prod.fst ++ ads l)
    rw [List.map_append, List.map_append, List.map_cons]
    refine List.Perm.symm ?_
    rw [← List.append_assoc [p]]
    exact List.Perm.append_right _ List.perm_middle
  · rcases List.mem_cons.mp m with rfl | m
    · exact L.all (.objs _) (.head _) (p, o) (List.mem_append_right _ (.head _))
    · rcases List.mem_cons.mp m with rfl | m
      · intro q hq
        refine L.all (.objs _) (.head _) q ?_
        rcases List.mem_append.mp hq with hq | hq
        · exact List.mem_append_left _ hq
        · exact List.mem_append_right _ (.tail _ hq)
      · exact L.all x (.tail _ m)
theorem Own.objBack (L : Own K B H (.pt p o :: .objs (ps ++ qs) :: l)) : Own K B H (.objs (ps ++ (p, o) :: qs) :: l) := by
  refine L.conv ?_ fun x m => ?_
  · rw [ads_cons, ads_cons, ads_cons]
    show ((ps ++ (p, o) :: qs).map Prod.fst ++ ads l).Perm ([p] ++ ((ps ++ qs).map Prod.fst ++ ads l))
    rw [List.map_append, List.map_append, List.map_cons, ← List.append_assoc [p]]
    exact List.Perm.append_right _ List.perm_middle
  · rcases List.mem_cons.mp m with rfl | m
    · intro q hq
      rcases List.mem_append.mp hq with hq | hq
      · exact L.all (.objs _) (.tail _ (.head _)) q (List.mem_append_left _ hq)
      · rcases List.mem_cons.mp hq with rfl | hq
        · exact L.all (.pt p o) (.head _)
        · exact L.all (.objs _) (.tail _ (.head _)) q (List.mem_append_right _ hq)
    · exact L.all x (.tail _ (.tail _ m))
end
/-- taken to the front -/
inductive TakeA : List As → As → List As → Prop
  | here {l : List As} {x : As} : TakeA (x :: l) x l
  | there {l l' : List As} {x y : As} : TakeA l x l' → TakeA (y :: l) x (y :: l')
theorem TakeA.perm {l l' : List As} {x : As} (t : TakeA l x l') : l.Perm (x :: l') := by
  induction t with
  | here => exact List.Perm.refl _
  | there _ ih => exact (List.Perm.cons _ ih).trans (List.Perm.swap _ _ _)
theorem Own.front {K : PySem.W.Frag} {B H : Hp} {l l' : List As} {x : As} (L : Own K B H l) (t : TakeA l x l') : Own K B H (x :: l') := L.perm t.perm
/-! lists of lists of ints: places and contents -/
abbrev PL := List (Addr × List Int)
def oI (pl : PL) : List (Addr × HO) := pl.map fun q => (q.1, .lst (q.2.map V.int))
def rfs (pl : PL) : List V := pl.map fun q => V.ref q.1
def cts (pl : PL) : List (List Int) := pl.map Prod.snd
theorem oI_snoc {pl : PL} {p : Addr} {xs : List Int} : oI (pl ++ [(p, xs)]) = oI pl ++ [(p, .lst (xs.map V.int))] := by
  unfold oI
  rw [List.map_append]
  rfl
theorem rfs_snoc {pl : PL} {p : Addr} {xs : List Int} : rfs pl ++ [V.ref p] = rfs (pl ++ [(p, xs)]) := by
  unfold rfs
  rw [List.map_append]
  rfl
theorem cts_snoc {pl : PL} {p : Addr} {xs : List Int} : cts (pl ++ [(p, xs)]) = cts pl ++ [xs] := by
  unfold cts
  rw [List.map_append]
  rfl
theorem rfs_len {pl : PL} : (rfs pl).length = pl.length := List.length_map ..
theorem cts_len {pl : PL} : (cts pl).length = pl.length := List.length_map ..
theorem rfs_at {pl : PL} {i : Nat} {x : V} (h : (rfs pl)[i]? = some x) : ∃ p xs, pl[i]? = some (p, xs) ∧ x = .ref p := by
  unfold rfs at h
  rw [List.getElem?_map] at h
  cases e : pl[i]? with
  | none =>
    rw [e] at h
    cases h
  | some q =>
    rw [e] at h
    exact ⟨q.1, q.2, rfl, (Option.some.inj h).symm⟩
theorem cts_at {pl : PL} {i : Nat} {p : Addr} {xs : List Int} (h : pl[i]? = some (p, xs)) : (cts pl)[i]? = some xs := by
  unfold cts
  rw [List.getElem?_map, h]
  rfl
theorem oI_at {pl : PL} {i : Nat} {p : Addr} {xs : List Int} (h : pl[i]? = some (p, xs)) : (p, HO.lst (xs.map V.int)) ∈ oI pl := List.mem_map.mpr ⟨(p, xs), List.mem_of_getElem? h, rfl⟩
abbrev pO (pl : PL) : As := .objs (oI pl)
theorem Own.lls {K : PySem.W.Frag} {B H : Hp} {l : List As} {pl : PL} {i : Nat} {p : Addr} {xs : List Int} (L : Own K B H l) (m : pO pl ∈ l) (h : pl[i]? = some (p, xs)) : H p = some (.lst (xs.map V.int)) := L.obj m (oI_at h)
theorem Own.llsIn {K : PySem.W.Frag} {B H : Hp} {l : List As} {pl : PL} {p : Addr} {xs : List Int} (L : Own K B H (pI p xs :: pO pl :: l)) : Own K B H (pO (pl ++ [(p, xs)]) :: l) := by
  have := L.objIn
  rw [← oI_snoc] at this
  exact this
theorem Own.llsOut {K : PySem.W.Frag} {B H : Hp} {l : List As} {pl ql : PL} {p : Addr} {xs : List Int} (L : Own K B H (pO (pl ++ (p, xs) :: ql) :: l)) : Own K B H (pI p xs :: pO (pl ++ ql) :: l) := by
  have e : oI (pl ++ (p, xs) :: ql) = oI pl ++ (p, .lst (xs.map V.int)) :: oI ql := by
    unfold oI
    rw [List.map_append]
    rfl
  have e2 : oI (pl ++ ql) = oI pl ++ oI ql := List.map_append
  unfold pO at *
  rw [e] at L
  rw [e2]
  exact L.objOut
theorem Own.llsBack {K : PySem.W.Frag} {B H : Hp} {l : List As} {pl ql : PL} {p : Addr} {xs : List Int} (L : Own K B H (pI p xs :: pO (pl ++ ql) :: l)) : Own K B H (pO (pl ++ (p, xs) :: ql) :: l) := by
  have e : oI (pl ++ (p, xs) :: ql) = oI pl ++ (p, .lst (xs.map V.int)) :: oI ql := by
    unfold oI
    rw [List.map_append]
    rfl
  have e2 : oI (pl ++ ql) = oI pl ++ oI ql := List.map_append
  unfold pO at *
  rw [e]
  rw [e2] at L
  exact L.objBack
/-- a list of them is equal to a list of them -/
def dLL (xss : List (List Int)) : PyData := .list (xss.map fun xs => .list (xs.map PyData.int))
theorem dLL_inj {a b : List (List Int)} : dLL a = dLL b ↔ a = b := by
  refine ⟨fun h => ?_, fun h => by rw [h]⟩
  unfold dLL at h
  rw [PyData.list.injEq] at h
  induction a generalizing b with
  | nil =>
    cases b with
    | nil => rfl
    | cons _ _ => cases h
  | cons x r ih =>
    cases b with
    | nil => cases h
    | cons y s =>
      rw [List.map_cons, List.map_cons, List.cons.injEq, PyData.list.injEq, map_int_inj] at h
      rw [h.1, ih h.2]
theorem plain_dLL : ∀ xss : List (List Int), plainAl (xss.map fun xs => PyData.list (xs.map PyData.int)) = true
  | [] => by simp [plainAl]
  | x :: r => by simp [plainAl, plain, plain_dLL r, plainAl_ints]
theorem depth_dLL : ∀ xss : List (List Int), PyData.depthAll (xss.map fun xs => PyData.list (xs.map PyData.int)) ≤ 2
  | [] => by simp [PyData.depthAll]
  | x :: r => by
    have := depth_dLL r
    have := depthAll_ints' x
    simp only [List.map_cons, PyData.depthAll, PyData.depth]
    omega
theorem dq_lls {K : PySem.W.Frag} {B H : Hp} {l : List As} {D : Addr} {pl : PL} (L : Own K B H l) (m : pO pl ∈ l) (h : SqL K H D (rfs pl)) : Dq K H (.ref D) (dLL (cts pl)) := by
  have key : ∀ ql : PL, (∀ q ∈ ql, H q.1 = some (.lst (q.2.map V.int))) → DpAll K H (rfs ql) ((cts ql).map fun xs => PyData.list (xs.map PyData.int)) := by
    intro ql
    induction ql with
    | nil => exact fun _ => .nil
    | cons q r ih => exact fun hq => .cons (.lst (SqL.of (hq q (.head _))) (dpAll_ints _)) (ih fun x hx => hq x (.tail _ hx))
  refine ⟨.lst h (key pl fun q hq => ?_), ?_, ?_⟩
  · exact L.obj m (List.mem_map.mpr ⟨q, hq, rfl⟩)
  · show plain (.list _) = true
    simp only [plain]
    exact plain_dLL _
  · have := depth_dLL (cts pl)
    show (PyData.list _).depth ≤ 64
    simp only [PyData.depth]
    omega
theorem dq_nils {K : PySem.W.Frag} {H : Hp} {D : Addr} (h : SqL K H D []) : Dq K H (.ref D) (dLL []) := ⟨.lst h .nil, by show plain (.list []) = true; simp [plain, plainAl], by show (PyData.list []).depth ≤ 64; simp [PyData.depth, PyData.depthAll]⟩
section
variable {K : PySem.W.Frag} {H : Hp} {a b : V} {xs ys : List (List Int)} {Q : VK}
theorem eqd_lls (h1 : Dq K H a (dLL xs)) (h2 : Dq K H b (dLL ys)) (q : Q (.bl (decide (xs = ys))) H) : rEqD K a b H Q := by
  refine eqd h1 h2 fun r e => ?_
  have : r = decide (xs = ys) := by
    rw [dLL_inj] at e
    by_cases c : xs = ys
    · rw [decide_eq_true c, e.mpr c]
    · rw [decide_eq_false c]
      cases r with
      | false => rfl
      | true => exact absurd (e.mp rfl) c
  rw [this]
  exact q
theorem ned_lls (h1 : Dq K H a (dLL xs)) (h2 : Dq K H b (dLL ys)) (q : Q (.bl (!decide (xs = ys))) H) : rNeD K a b H Q := by
  refine ned h1 h2 fun r e => ?_
  have : r = decide (xs = ys) := by
    rw [dLL_inj] at e
    by_cases c : xs = ys
    · rw [decide_eq_true c, e.mpr c]
    · rw [decide_eq_false c]
      cases r with
      | false => rfl
      | true => exact absurd (e.mp rfl) c
  rw [this]
  exact q
end
/-- one clause without a name, for a class above -/
theorem many_base {K : PySem.W.Frag} {x b : Str} {ts : Addr → Value → Option Addr → TS} {Wout : WX} {D : Ends} {σ : L2.St} {H : Hp} {d : Option Addr} (e : PySem.W.exmOne K (.ref (He.ga K x)) (.ref (He.ga K b)) = some true)
    (h : ∀ a, H a = none → ts a (.ref (He.ga K x)) d D σ H) : wMany K Wout D [(.ref (He.ga K b), ts)] (.ref (He.ga K x)) d σ H := ⟨true, e, fun _ => h, fun z => nomatch z⟩
/-! comprehensions that make lists of ints -/
/-- the end of a turn: one list more -/
def CLe (K : PySem.W.Frag) (B : Hp) (D : Addr) (l : List As) (R : PL → Prop) (y : V) (H4 : Hp) : Prop :=
  ∃ acc, H4 D = some (.lst acc) ∧ acc.length < sizeLine ∧ ∃ ql, Own K B (upd H4 D (.lst (acc ++ [y]))) (.pt D (.lst (rfs ql)) :: pO ql :: l) ∧ R ql
theorem cle {K : PySem.W.Frag} {B : Hp} {D : Addr} {l : List As} {R : PL → Prop} {ql : PL} {p : Addr} {ys : List Int} {H4 : Hp} (L : Own K B H4 (pI p ys :: .pt D (.lst (rfs ql)) :: pO ql :: l)) (hn : ql.length < 100000) (r : R (ql ++ [(p, ys)])) : CLe K B D l R (.ref p) H4 := by
  refine ⟨rfs ql, L.get (mem_there mem_here), by rw [rfs_len, sizeLine_eq]; omega, ql ++ [(p, ys)], ?_, r⟩
  have L2 := L.put (o' := .lst (rfs ql ++ [V.ref p])) rfl (.there .here)
  rw [rfs_snoc (xs := ys)] at L2 ⊢
  exact ((L2.perm (List.Perm.cons _ (List.Perm.swap _ _ _))).llsIn).perm (List.Perm.swap _ _ _)
theorem compLL {K : PySem.W.Frag} {B H : Hp} {l : List As} {te : TE} {σ : L2.St} {a : Addr} {xs : List V} {g : TG} {vs : List Nat} {Q : Addr → Hp → Prop} (R : Nat → PL → Prop) (L : Own K B H l) (h0 : R 0 [])
    (hk : ∀ H', Own K B H' l → SqL K H' a xs)
    (hs : ∀ i x D ql H1, xs[i]? = some x → R i ql → Own K B H1 (.pt D (.lst (rfs ql)) :: pO ql :: l) → g x (wipe σ vs) H1 fun σ2 H2 => wipe σ2 vs = wipe σ vs ∧ te σ2 H2 (CLe K B D l (R (i + 1))))
    (hd : ∀ D ql H', R xs.length ql → Own K B H' (.pt D (.lst (rfs ql)) :: pO ql :: l) → Q D H') : ∀ D, H D = none → CompI (Itl K a) g tYes te vs σ H D (Q D) := by
  intro D hD
  refine comp_list (xs := xs) (fun i H' => ∃ ql, Own K B H' (.pt D (.lst (rfs ql)) :: pO ql :: l) ∧ R i ql) ⟨[], (((L.new hD (.lst [])).objs0).perm (List.Perm.swap _ _ _)), h0⟩ (fun i H' _ ⟨_, h, _⟩ => hk H' h.drop1.drop1) (fun i x H' hx ⟨ql, h, r⟩ => ?_) (fun H' ⟨ql, h, r⟩ => hd D ql H' r h)
  exact hs i x D ql H' hx r h
theorem dq_llsS {K : PySem.W.Frag} {B H : Hp} {l : List As} {D : Addr} {pl ql : PL} (L : Own K B H l) (m : pO pl ∈ l) (h : SqL K H D (rfs ql)) (sub : ∀ q ∈ ql, q ∈ pl) : Dq K H (.ref D) (dLL (cts ql)) := by
  have key : ∀ ql : PL, (∀ q ∈ ql, H q.1 = some (.lst (q.2.map V.int))) → DpAll K H (rfs ql) ((cts ql).map fun xs => PyData.list (xs.map PyData.int)) := by
    intro ql
    induction ql with
    | nil => exact fun _ => .nil
    | cons q r ih => exact fun hq => .cons (.lst (SqL.of (hq q (.head _))) (dpAll_ints _)) (ih fun x hx => hq x (.tail _ hx))
  refine ⟨.lst h (key ql fun q hq => ?_), ?_, ?_⟩
  · exact L.obj m (List.mem_map.mpr ⟨q, sub q hq, rfl⟩)
  · show plain (.list _) = true
    simp only [plain]
    exact plain_dLL _
  · have := depth_dLL (cts ql)
    show (PyData.list _).depth ≤ 64
    simp only [PyData.depth]
    omega
theorem rfs_take {pl : PL} {n : Nat} : (rfs pl).take n = rfs (pl.take n) := List.map_take.symm
theorem rfs_drop {pl : PL} {n : Nat} : (rfs pl).drop n = rfs (pl.drop n) := List.map_drop.symm
theorem cts_takeN {pl : PL} {n : Nat} : cts (pl.take n) = (cts pl).take n := List.map_take
end Bel

namespace Bel
open PySem PySem.Spec PyProof.Rows L2
/-! ### dict(d): a copy -/
def rDcp : List V → Hp → VK → Prop := fun xs H Q => ∃ (a : Addr) (kvs : List (Key × V)), xs = [.ref a] ∧ Rd H a (.dK kvs) ∧ ∀ p, H p = none → Q (.ref p) (upd H p (.dK kvs))
theorem dcK {X : Cx} : CallR X (.type "dict") rDcp := call_dictD
def DCp (H : Hp) (a : Addr) (Q : VK) : Prop := ∃ kvs, Rd H a (.dK kvs) ∧ NewO H (.dK kvs) Q
theorem n_dcp {xs : List V} {H : Hp} {Q : VK} : rDcp xs H Q = ∃ a, xs = [.ref a] ∧ DCp H a Q := propext ⟨fun ⟨a, kvs, e, h, q⟩ => ⟨a, e, kvs, h, q⟩, fun ⟨a, e, kvs, h, q⟩ => ⟨a, kvs, e, h, q⟩⟩
theorem g_dcp {H : Hp} {a : Addr} {Q : VK} (h : DCp H a Q) : DCp H a Q := h
theorem dcpI {H : Hp} {a : Addr} {Q : VK} {kvs : List (Key × V)} (e : H a = some (.dK kvs)) (q : NewO H (.dK kvs) Q) : DCp H a Q := ⟨kvs, .inl e, q⟩
/-! ### x in (a, b) for tuples of ints -/
theorem inT_ints {K : PySem.W.Frag} {H : Hp} {Q : VK} {p : Addr} {c : Int} {xs : List Int} (h : SqT K H p (xs.map V.int)) (q : Q (.bl (decide (c ∈ xs))) H) : rIn K false (.int c) (.ref p) H Q := ⟨p, _, rfl, .inr h, rfl, flat_ints, by
  rw [inV_ints]
  exact q⟩
theorem notInT_ints {K : PySem.W.Frag} {H : Hp} {Q : VK} {p : Addr} {c : Int} {xs : List Int} (h : SqT K H p (xs.map V.int)) (q : Q (.bl (!decide (c ∈ xs))) H) : rIn K true (.int c) (.ref p) H Q := ⟨p, _, rfl, .inr h, rfl, flat_ints, by
  rw [inV_ints]
  exact q⟩
theorem selE_gen {c : Bool} {t u : TE} {σ : L2.St} {H : Hp} {Q : VK} (h : ∀ kont, Q = kont → SelE c t u σ H kont) : SelE c t u σ H Q := h Q rfl
/-! ### lists of tuples of ints -/
theorem oneT {K : PySem.W.Frag} {B H : Hp} {l : List As} (L : Own K B H l) {v : V} {t : List Int} (m : As.im v (tI t) ∈ l) : Own K B H (.ims [v] ([t].map tI) :: l) := L.addIms (ImmL.one (L.imm m))
theorem twoT {K : PySem.W.Frag} {B H : Hp} {l : List As} (L : Own K B H l) {v u : V} {t r : List Int} (m : As.im v (tI t) ∈ l) (m2 : As.im u (tI r) ∈ l) : Own K B H (.ims [v, u] ([t, r].map tI) :: l) := L.addIms (.cons (L.imm m) (ImmL.one (L.imm m2)))
theorem nilT {K : PySem.W.Frag} {B H : Hp} {l : List As} (L : Own K B H l) : Own K B H (.ims [] (([] : List (List Int)).map tI) :: l) := L.addIms .nil
theorem newT {K : PySem.W.Frag} {B H : Hp} {l : List As} {p : Addr} {ns : List Int} (L : Own K B H l) (m : As.pt p (tupI ns) ∈ l) : Own K B H (.im (.ref p) (tI ns) :: l) := L.addIm (L.imI m)
theorem catT {K : PySem.W.Frag} {B H : Hp} {l : List As} {vs us : List V} {ts rs : List (List Int)} (L : Own K B H l) (m : As.ims vs (ts.map tI) ∈ l) (m2 : As.ims us (rs.map tI) ∈ l) : Own K B H (.ims (vs ++ us) ((ts ++ rs).map tI) :: l) := L.addIms (by
  rw [List.map_append]
  exact ImmL.append (L.imms m) (L.imms m2))
theorem lenT {K : PySem.W.Frag} {B H : Hp} {l : List As} {vs : List V} {ts : List (List Int)} (L : Own K B H l) (m : As.ims vs (ts.map tI) ∈ l) : vs.length = ts.length := by
  have := (L.imms m).len
  rw [List.length_map] at this
  exact this
theorem dq_tks {K : PySem.W.Frag} {H : Hp} {a : Addr} {vs : List V} {ts : List (List Int)} (h : SqL K H a vs) (g : ImmL K H vs (ts.map tI)) : Dq K H (.ref a) (.list (ts.map fun t => .tuple (t.map PyData.int))) := ⟨.lst h g.dp, by simp only [Bel.plain]; exact plainAl_toks ts, by
  have := depthAll_toks ts
  simp only [PyData.depth]
  omega⟩
/-- an item of a list of tuples -/
theorem itemT {K : PySem.W.Frag} {B H : Hp} {l : List As} {vs : List V} {ts : List (List Int)} (L : Own K B H l) (m : As.ims vs (ts.map tI) ∈ l) {k : Nat} {v : V} (hx : vs[k]? = some v) : ∃ t r, ts[k]? = some t ∧ v = .ref r ∧ SqT K H r (t.map V.int) := by
  obtain ⟨dd, hdd, im⟩ := ImmL.get (L.imms m) hx
  rw [List.getElem?_map] at hdd
  obtain ⟨tt, htt, rfl⟩ := Option.map_eq_some_iff.mp hdd
  obtain ⟨r, rfl, hr⟩ := Imm.of_ints im
  exact ⟨tt, r, htt, rfl, hr⟩
end Bel

namespace Bel
open PySem PySem.Spec PyProof.Rows L2
/-! ### a dict of the module with ints for keys -/
/-- the address that stands at the entry i of the module's dict x -/
def dvA (x : Str) (i : Nat) (K : PySem.W.Frag) : Addr := match K.lookup (He.ga K x) with
  | some ⟨_, _, .dict es _, _⟩ => (match es.toList[i]? with
    | some e => (match e.val with
      | .ref a => a
      | _ => 0)
    | _ => 0)
  | _ => 0
def entB (K : PySem.W.Frag) : List DictEntry → List (Int × He.Dv) → Bool
  | [], [] => true
  | e :: r, q :: s => (match e.key with
    | .int i _ => decide (i = q.1)
    | _ => false) && (decide (e.hash = hashInt q.1) && (He.relB (q.2.v K) e.val && entB K r s))
  | _, _ => false
def gdB (K : PySem.W.Frag) (x : Str) (kvs : List (Int × He.Dv)) : Bool := match K.lookup (He.ga K x) with
  | some ⟨.type c, none, .dict es _, sl⟩ => decide (c = "dict") && (sl.isEmpty && (!(He.ga K x == sysModules) && (entB K es.toList kvs && decide ((kvs.map (·.1)).Nodup))))
  | _ => false
/-- its entries, as the walk sees them -/
def gkv (K : PySem.W.Frag) (kvs : List (Int × He.Dv)) : List (Key × V) := kvs.map fun q => (Sum.inl q.1, q.2.v K)
theorem entB_ok {P : Program} {w : World} {K : PySem.W.Frag} : ∀ {es : List DictEntry} {kvs : List (Int × He.Dv)}, entB K es kvs = true →
    ∃ vs, KV (gkv K kvs) vs ∧ Pairs (mixKind P w) es vs ∧ (∀ e ∈ es, ∃ k, (mixKind P w).is k e.key = true ∧ e.hash = (mixKind P w).hash k) ∧ vs.map (·.1) = kvs.map fun q => Sum.inl q.1
  | [], [], _ => ⟨[], .nil, .nil, (fun _ h => nomatch h), rfl⟩
  | [], _ :: _, h => by cases h
  | _ :: _, [], h => by cases h
  | e :: r, q :: s, h => by
    unfold entB at h
    obtain ⟨h1, h⟩ := ba h
    obtain ⟨h2, h⟩ := ba h
    obtain ⟨h3, h4⟩ := ba h
    obtain ⟨vs, g1, g2, g3, g4⟩ := entB_ok (P := P) (w := w) h4
    have hk : (mixKind P w).is (Sum.inl q.1) e.key = true := by
      cases ek : e.key with
      | int i t =>
        rw [ek] at h1
        have := of_decide_eq_true h1
        subst this
        exact mixKind_int P w _ t
      | _ =>
        rw [ek] at h1
        cases h1
    refine ⟨(Sum.inl q.1, e.val) :: vs, .cons ⟨rfl, He.relB_ok h3⟩ g1, .cons hk rfl g2, fun e' he => ?_, ?_⟩
    · rcases List.mem_cons.mp he with rfl | he
      · exact ⟨_, hk, of_decide_eq_true h2⟩
      · exact g3 e' he
    · rw [List.map_cons, List.map_cons, g4]
/-- what a dict of the module tells -/
structure GDct (K : PySem.W.Frag) (x : Str) (kvs : List (Int × He.Dv)) : Prop where
  low : (He.ga K x == sysModules) = false
  get : ∀ (P : Program) (w : World) (h : Heap), K.In h → ∃ vs, KV (gkv K kvs) vs ∧ h.DictOf (mixKind P w) (He.ga K x) vs
theorem gdB_ok {K : PySem.W.Frag} {x : Str} {kvs : List (Int × He.Dv)} (c : gdB K x kvs = true) : GDct K x kvs := by
  unfold gdB at c
  split at c
  · rename_i c' es ep sl at_
    obtain ⟨c1, c⟩ := ba c
    obtain ⟨c2, c⟩ := ba c
    obtain ⟨c3, c⟩ := ba c
    obtain ⟨c4, c5⟩ := ba c
    have e1 := of_decide_eq_true c1
    subst e1
    have e2 : sl = #[] := Array.isEmpty_iff.mp c2
    subst e2
    refine ⟨?_, fun P w h X => ?_⟩
    · cases z : He.ga K x == sysModules with
      | false => rfl
      | true =>
        rw [z] at c3
        cases c3
    · obtain ⟨vs, g1, g2, g3, g4⟩ := entB_ok (P := P) (w := w) c4
      refine ⟨vs, g1, _, es, ep, X _ _ at_, ⟨rfl, rfl, rfl⟩, rfl, fun e he => g3 e (by simpa using he), g2, ?_⟩
      rw [g4]
      have hn := of_decide_eq_true c5
      have : (kvs.map fun q => (Sum.inl q.1 : Key)) = (kvs.map (·.1)).map Sum.inl := by
        rw [List.map_map]
        rfl
      rw [this]
      exact List.Pairwise.map _ (fun a b n e => n (Sum.inl.inj e)) hn
  · cases c
/-- d.get(k, e), d the module's -/
def tGget (K : PySem.W.Frag) (x : Str) (kvs : List (Int × He.Dv)) (td ty tx : TE) : TE := fun σ H Q => td σ H fun v H1 => v = .ref (He.ga K x) ∧ ty σ H1 fun y H2 => tx σ H2 fun z H3 => ∃ i, y = .int i ∧ Q ((valV (gkv K kvs) (.inl i)).getD z) H3
theorem pe_gget2 {X : Cx} {x : Str} {kvs : List (Int × He.Dv)} {o e f : Expr} {td ty tx : TE} {apos cpos : Pos} (K : PySem.W.Frag) (D : GDct K x kvs) (ho : PE X o td) (he : PE X e ty) (hf : PE X f tx) (m : M2 X o "get" apos e f cpos) (hK : X.K = K := by rfl) :
    PE X (.Call (.Attribute o "get" apos) [e, f] [] cpos) (tGget K x kvs td ty tx) := by
  subst hK
  refine ⟨fun pins s σ H Q I h => ?_⟩
  refine wpAny_Call_method m.base m.few m.line PySem.F.plainAttrs_dict PySem.F.slot_dict_get PySem.F.type_dict_get (thn (ho.run pins s σ H _ I h) fun u s1 ⟨v, H1, I1, rx, ex, q1⟩ => ?_)
  subst ex
  obtain rfl : u = Value.ref (He.ga X.K x) := rx
  obtain ⟨vs, rel, dd⟩ := D.get X.prog X.w s1.heap I1.kIn
  refine ⟨dd.typeIs, fun b q => ?_, ?_⟩
  · cases q
    obtain ⟨ob, _, _, h1, h2, _⟩ := dd
    exact ⟨ob, h1, h2.2.1⟩
  rw [m.trees]
  refine Calls.callWith_builtin rfl (Calls.evalArgs_plain (Calls.spliced_cons (thn (he.run pins s1 σ H1 _ I1 q1) fun iv s2 ⟨y, H2, I2, ry, q2⟩ =>
    Calls.spliced_cons (thn (hf.run pins s2 σ H2 _ I2 q2) fun fv s3 ⟨z, H3, I3, rz, i, ey, q3⟩ => Calls.spliced_nil ?_))))
  subst ey
  obtain ⟨vs, rel, dd⟩ := D.get X.prog X.w s3.heap I3.kIn
  refine call_meetsIn PySem.F.slot_dict_get dd.typeIs PySem.F.entry_dict_get (PySem.F.args_dict_get_3 _ _ _) (meets_dict_get_default (mixKind X.prog X.w) (He.ga X.K x) (kV_is (k := Sum.inl i) ry) D.low fv) ⟨_, dd.mapOf, ?_⟩
  exact ⟨_, H3, I3.tok _, (rel.val (Sum.inl i)).getD rz, q3⟩
theorem n_gget {K : PySem.W.Frag} {x : Str} {kvs : List (Int × He.Dv)} {td ty tx : TE} {σ : L2.St} {H : Hp} {Q : VK} : tGget K x kvs td ty tx σ H Q = td σ H (fun v H1 => v = .ref (He.ga K x) ∧ ty σ H1 (fun y H2 => tx σ H2 (fun z H3 => ∃ i, y = .int i ∧ Q ((valV (gkv K kvs) (.inl i)).getD z) H3))) := rfl
end Bel
namespace Bel
open PySem PySem.Spec PyProof.Rows L2
/-! ### comprehensions that make tuples of ints -/
def CTe (K : PySem.W.Frag) (B : Hp) (D : Addr) (l : List As) (R : List (List Int) → Prop) (y : V) (H4 : Hp) : Prop :=
  ∃ acc, H4 D = some (.lst acc) ∧ acc.length < sizeLine ∧ ∃ vs ts, Own K B (upd H4 D (.lst (acc ++ [y]))) (.pt D (.lst vs) :: .ims vs (ts.map tI) :: l) ∧ R ts
theorem cte {K : PySem.W.Frag} {B : Hp} {D : Addr} {l : List As} {R : List (List Int) → Prop} {vs : List V} {ts : List (List Int)} {v : V} {t : List Int} {H4 : Hp} (L : Own K B H4 (.im v (tI t) :: .pt D (.lst vs) :: .ims vs (ts.map tI) :: l)) (hn : ts.length < 100000) (r : R (ts ++ [t])) : CTe K B D l R v H4 := by
  have hl := lenT L (vs := vs) (ts := ts) (mem_there (mem_there mem_here))
  refine ⟨vs, L.get (mem_there mem_here), by rw [sizeLine_eq]; omega, vs ++ [v], ts ++ [t], ?_, r⟩
  have L2 := L.put (o' := .lst (vs ++ [v])) rfl (.there .here)
  have L3 := L2.addIms (vs := vs ++ [v]) (ds := (ts ++ [t]).map tI) (by
    rw [List.map_append]
    exact ImmL.snoc (L2.imms (vs := vs) (ds := ts.map tI) (mem_there (mem_there mem_here))) (L2.imm (v := v) (d := tI t) mem_here))
  have L4 := L3.sub (l' := .ims (vs ++ [v]) ((ts ++ [t]).map tI) :: .pt D (.lst (vs ++ [v])) :: l) (List.Sublist.cons_cons _ (List.Sublist.cons _ (List.Sublist.cons_cons _ (List.Sublist.cons _ (List.Sublist.refl _)))))
  exact L4.perm (List.Perm.swap _ _ _)
theorem compLT {K : PySem.W.Frag} {B H : Hp} {l : List As} {te : TE} {σ : L2.St} {a : Addr} {xs : List V} {g : TG} {vs : List Nat} {Q : Addr → Hp → Prop} (R : Nat → List (List Int) → Prop) (L : Own K B H l) (h0 : R 0 [])
    (hk : ∀ H', Own K B H' l → SqL K H' a xs)
    (hs : ∀ i x D us ts H1, xs[i]? = some x → R i ts → Own K B H1 (.pt D (.lst us) :: .ims us (ts.map tI) :: l) → g x (wipe σ vs) H1 fun σ2 H2 => wipe σ2 vs = wipe σ vs ∧ te σ2 H2 (CTe K B D l (R (i + 1))))
    (hd : ∀ D us ts H', R xs.length ts → Own K B H' (.pt D (.lst us) :: .ims us (ts.map tI) :: l) → Q D H') : ∀ D, H D = none → CompI (Itl K a) g tYes te vs σ H D (Q D) := by
  intro D hD
  refine comp_list (xs := xs) (fun i H' => ∃ us ts, Own K B H' (.pt D (.lst us) :: .ims us (ts.map tI) :: l) ∧ R i ts) ⟨[], [], ((L.new hD (.lst [])).addIms (vs := []) (ds := ([] : List (List Int)).map tI) .nil).perm (List.Perm.swap _ _ _), h0⟩ (fun i H' _ ⟨_, _, h, _⟩ => hk H' h.drop1.drop1) (fun i x H' hx ⟨us, ts, h, r⟩ => ?_) (fun H' ⟨us, ts, h, r⟩ => hd D us ts H' r h)
  exact hs i x D us ts H' hx r h
theorem comp_enum {K : PySem.W.Frag} {te : TE} {tA : TT} {σ : L2.St} {H : Hp} {a : Addr} {xs : List V} {g : TG} {vs : List Nat} {D : Addr} {Qd : Hp → Prop} (Pv : Nat → Hp → Prop) (h0 : Pv 0 (upd H D (.lst []))) (hl : ∀ i H, i ≤ xs.length → Pv i H → SqL K H a xs)
    (hs : ∀ i x H T, xs[i]? = some x → Pv i H → H T = none → g (.ref T) (wipe σ vs) (upd H T (.tup [.int (i : Nat), x])) fun σ2 H2 => wipe σ2 vs = wipe σ vs ∧ tA σ2 H2 fun b H3 =>
      if b = true then te σ2 H3 fun y H4 => ∃ acc, H4 D = some (.lst acc) ∧ acc.length < sizeLine ∧ Pv (i + 1) (upd H4 D (.lst (acc ++ [y]))) else Pv (i + 1) H3) (hd : ∀ H, Pv xs.length H → Qd H) : CompI (Ite K a) g tA te vs σ H D Qd := by
  refine ⟨fun i left H => left = xs.length - i ∧ i ≤ xs.length ∧ Pv i H, ⟨xs.length, by omega, by omega, h0⟩, ?_⟩
  rintro i left H ⟨rfl, hi, p⟩
  have q := hl i H hi p
  by_cases hlt : i < xs.length
  · refine .inr ⟨⟨xs, xs[i], q, List.getElem?_eq_getElem hlt⟩, Pv (i + 1), fun G p' => ⟨xs.length - (i + 1), by omega, rfl, hlt, p'⟩, fun x H' y => ?_⟩
    obtain ⟨T, x2, e1, hT, e2, y⟩ := y
    subst e1; subst e2
    exact hs i x2 H T (y xs q) p hT
  · obtain rfl : i = xs.length := Nat.le_antisymm hi (by omega)
    exact .inl ⟨⟨xs, q, Nat.le_refl _⟩, hd H p⟩
theorem compET {K : PySem.W.Frag} {B H : Hp} {l : List As} {te : TE} {σ : L2.St} {a : Addr} {xs : List V} {g : TG} {vs : List Nat} {Q : Addr → Hp → Prop} (R : Nat → List (List Int) → Prop) (L : Own K B H l) (h0 : R 0 [])
    (hk : ∀ H', Own K B H' l → SqL K H' a xs)
    (hs : ∀ i x D us ts T H1, xs[i]? = some x → R i ts → Own K B H1 (.pt T (.tup [.int (i : Nat), x]) :: .pt D (.lst us) :: .ims us (ts.map tI) :: l) → g (.ref T) (wipe σ vs) H1 fun σ2 H2 => wipe σ2 vs = wipe σ vs ∧ te σ2 H2 (CTe K B D l (R (i + 1))))
    (hd : ∀ D us ts H', R xs.length ts → Own K B H' (.pt D (.lst us) :: .ims us (ts.map tI) :: l) → Q D H') : ∀ D, H D = none → CompI (Ite K a) g tYes te vs σ H D (Q D) := by
  intro D hD
  refine comp_enum (xs := xs) (fun i H' => ∃ us ts, Own K B H' (.pt D (.lst us) :: .ims us (ts.map tI) :: l) ∧ R i ts) ⟨[], [], ((L.new hD (.lst [])).addIms (vs := []) (ds := ([] : List (List Int)).map tI) .nil).perm (List.Perm.swap _ _ _), h0⟩ (fun i H' _ ⟨_, _, h, _⟩ => hk H' h.drop1.drop1) (fun i x H' T hx ⟨us, ts, h, r⟩ hT => ?_) (fun H' ⟨us, ts, h, r⟩ => hd D us ts H' r h)
  exact hs i x D us ts T _ hx r (h.new hT _)
/-! ### `<` of tuples of ints -/
theorem n_rLtT {K : PySem.W.Frag} {x y : V} {H : Hp} {Q : VK} : rLtT K x y H Q = ∃ a b ns ms, x = .ref a ∧ y = .ref b ∧ SqT K H a (ns.map V.int) ∧ SqT K H b (ms.map V.int) ∧ Q (.bl (HT.lexLt ns ms)) H := by
  first | rfl | (unfold rLtT; rfl)
theorem ltT_ints {K : PySem.W.Frag} {x y : V} {H : Hp} {Q : VK} {a b : Addr} {ns ms : List Int} (hx : x = .ref a) (hy : y = .ref b) (h1 : SqT K H a (ns.map V.int)) (h2 : SqT K H b (ms.map V.int)) (q : Q (.bl (HT.lexLt ns ms)) H) : rLtT K x y H Q := by
  rw [n_rLtT]
  exact ⟨a, b, ns, ms, hx, hy, h1, h2, q⟩
end Bel

namespace Bel
open PySem PySem.Spec PyProof.Rows L2 LamX
/-! ### sorted(xs, key=lambda item: item[0]) -/
section
variable {prog : Program} {w : World} {A : Around} {s : Shared}
/-- lambda x: x[0], called with a tuple whose first is an int -/
theorem turn0 {f a c' : Addr} {q x : Str} {params : Arguments} {scope : Scope} {pm ctv : Value} {its : List Value} {i : Int} {t : Tok} {j : Nat} {p1 p2 p3 : Pos}
    (hd : A.depth < recursionLimit) (lim : s.heap.NoLimit)
    (hf : s.heap.get? f = some (PySem.W.kla_obj "<lambda>" q params (.Subscript (.Name x p1) (.Constant (.int 0) j p2) p3) scope [] pm c' ctv))
    (hc : s.heap.CodeRec (.ref c') q)
    (hb : ∀ v, bindArgs (PySem.W.kla_fn "<lambda>" q params (.Subscript (.Name x p1) (.Constant (.int 0) j p2) p3) scope [] pm (.ref c') ctv) ⟨[v], []⟩ = pure [(x, v)])
    (hk : scope.kind = .function) (hco : scope.isCoroutine = false) (hg : scope.isGenerator = false) (hl : scope.names.lookup x = some .local) (hn : ∀ y ∈ scope.names, y.2 ≠ .cell)
    (ht : IsTup s.heap a its.toArray) (h0 : its[0]? = some (.int i t)) (hz : its.length ≤ sizeLine) (hdb : (x == ("__debug__" : Str)) = false) :
    wpAny (model prog w) A (call (.ref f) [.ref a]) (PySem.W.KeyPure (.int i) s) (fun _ _ => False) s := by
  refine wpAny_call ?_
  refine PySem.W.kla_callFunE hd hf rfl hco hg rfl hc ?_
  rw [hb]
  refine wpAny_pure (wpAny_newFunctionEnv hn (fun y hy => ?_) (fun h₁ hns hsb => ⟨lim.fresh _ hsb, ?_⟩) hk)
  · obtain rfl := List.mem_singleton.mp hy
    exact hl
  have kp : ∀ b o, s.heap.get? b = some o → h₁.get? b = some o := fun b o e => hsb.extBut b o (Nat.ne_of_lt (Heap.lt_size e)) (Heap.get?_push_of_some _ e)
  refine PySem.W.kla_codeExpr ?_
  refine Subscript_ ?_
  refine wpAny_Name (wpAny_loadName_local (v := .ref a) hk hl hns (by simp) ?_) hdb
  refine wpAny_Constant_int ?_
  have ht1 : IsTup h₁ a its.toArray := by
    obtain ⟨o, e, hc, n, hd⟩ := ht
    exact ⟨o, kp _ _ e, hc, n, hd⟩
  refine subscriptTail_builtinR (x := .int i t) ht1.typeIs slot_tuple_getitem.lookup (getItem_tuple (j := 0) ht1 (by decide) (by decide) ?_ (by simpa using h0) ⟨rfl, ?_⟩) (by with_unfolding_all rfl)
  · cases its with
    | nil => cases h0
    | cons u r => 
      rw [seqIndex_of (by decide) (by simp)]
      rfl
  · exact ⟨h₁, _, rfl, kp, .int i t⟩
end
/-- two ints -/
abbrev tI2 (p : Int × Int) : PyData := tI [p.1, p.2]
/-- all but the table's cell stays -/
def KeepP (P : Addr) (H H' : Hp) : Prop := ∀ b o, b ≠ P → H b = some o → H' b = some o
def leP (a b : Int × Int) : Bool := decide (a.1 ≤ b.1)
def tSortK (K : PySem.W.Frag) (P : Addr) (q : Str) (te : TA) : TE := fun σ H Q => te σ H fun xs H0 => ∃ (a : Addr) (vs : List V) (ps : List (Int × Int)), xs = [.ref a] ∧ SqL K H0 a vs ∧ ImmL K H0 vs (ps.map tI2) ∧ TabS H0 P q ∧
  ∀ (H1 : Hp) (vs' : List V) (p : Addr), KeepP P H0 H1 → TabS H1 P q → ImmL K H1 vs' ((ps.mergeSort leP).map tI2) → H1 p = none → Q (.ref p) (upd H1 p (.lst vs'))
theorem keep_sqL {K : PySem.W.Frag} {H H' : Hp} {P a : Addr} {qs : Array Value} {xs : List V} (hq : H P = some (.tbl qs)) (e : KeepP P H H') (h : SqL K H a xs) : SqL K H' a xs := by
  rcases h with (g | ⟨o, g⟩) | g
  · exact .inl (.inl (e _ _ (fun z => by rw [z, hq] at g; cases g) g))
  · exact .inl (.inr ⟨o, e _ _ (fun z => by rw [z, hq] at g; cases g) g⟩)
  · exact .inr g
theorem keep_sqT {K : PySem.W.Frag} {H H' : Hp} {P a : Addr} {qs : Array Value} {xs : List V} (hq : H P = some (.tbl qs)) (e : KeepP P H H') (h : SqT K H a xs) : SqT K H' a xs := by
  rcases h with (g | ⟨o, g⟩) | g
  · exact .inl (.inl (e _ _ (fun z => by rw [z, hq] at g; cases g) g))
  · exact .inl (.inr ⟨o, e _ _ (fun z => by rw [z, hq] at g; cases g) g⟩)
  · exact .inr g
/-- the value is a tuple that stands for the pair -/
def PairV (K : PySem.W.Frag) (H : Hp) (u : Value) (p : Int × Int) : Prop := ∃ a, u = .ref a ∧ SqT K H a [.int p.1, .int p.2]
theorem pairs_each {K : PySem.W.Frag} {H : Hp} : ∀ {vs : List V} {us : List Value} {ps : List (Int × Int)}, Vals vs us → ImmL K H vs (ps.map tI2) → PySem.W.EachIs (PairV K H) us ps
  | _, _, [], .nil, .nil => .nil
  | _, _, p :: ps, .cons r rs, .cons h hs => by
    obtain ⟨a, rfl, g⟩ := Imm.of_ints (ns := [p.1, p.2]) h
    cases r
    exact .cons ⟨a, rfl, g⟩ (pairs_each rs hs)
theorem each_pairs {K : PySem.W.Frag} {H : Hp} : ∀ {us : List Value} {ps : List (Int × Int)}, PySem.W.EachIs (PairV K H) us ps → ∃ vs : List V, Vals vs us ∧ ImmL K H vs (ps.map tI2)
  | _, _, .nil => ⟨[], .nil, .nil⟩
  | _, _, .cons (b := p) ⟨a, e, g⟩ r => by
    obtain ⟨vs, h1, h2⟩ := each_pairs r
    exact ⟨.ref a :: vs, .cons (by rw [e]; rfl) h1, .cons (Imm.of_is (ns := [p.1, p.2]) g) h2⟩
/-- a lambda is made: what stands elsewhere than at its maker's table stays -/
theorem mkLam {X : Cx} {pins : List (Addr × Obj)} {σ : L2.St} {H : Hp} {s : Shared} {c P : Addr} {params : Arguments} {body : Expr} {scope : Scope} {pos : Pos} {E : Value → Shared → Prop} {Q : Value → Shared → Prop} (I : Inv X pins σ H s)
    (B : TabB X.base X.mg c P) (hcode : X.env.code = .ref c) (hT : TabS H P (X.env.qual ++ "<lambda>")) (hdef : defaultsOf params X.env = ([], [])) (hfree : ∀ y ∈ scope.names, y.2 = .free → ∃ c, X.env.cells.lookup y.1 = some c)
    (h : ∀ (f c' : Addr) (pm ctv : Value) (H1 : Hp) (s' : Shared), Inv X pins σ H1 s' → KeepP P H H1 → TabS H1 P (X.env.qual ++ "<lambda>") →
      s'.heap.get? f = some (PySem.W.kla_obj "<lambda>" (X.env.qual ++ "<lambda>") params body scope (cloFrom X.env.cells scope.names []) pm c' ctv) → H1 c' = some (CodeO c' (X.env.qual ++ "<lambda>")) → Q (.ref f) s') :
    wpAny (model X.prog X.w) X.A (eval (.Lambda params body scope pos) X.env) Q E s := by
  obtain ⟨qs, hq, tr, am⟩ := hT
  have bt := B.bm.keeps I.bk
  have there : s.heap.get? P = some { cls := .none, data := .fields qs } := I.hok P _ hq
  refine PySem.W.kla_eval hdef ?_
  rcases fnd : codeAmong pos qs.toList with _ | cv
  · refine PySem.W.kla_makeFunction (ps := qs) (c := c) (P := P) (mg := X.mg) (closure_ok hfree) I.ok.glob (I.mod.glob.keeps I.bk) hcode (B.code.keeps I.bk) there tr fnd B.gP bt fun cn cl g tk ex ge lt rc tb => ?_
    obtain ⟨c2, o2, us, t2, e2, z1, z2, z3⟩ := rc
    cases e2
    have free : H cn = none := I.hok.fresh ge
    have J := inv_table (t' := tk) (more := #[rawInt pos.line, rawInt pos.col, .ref cn]) (q := X.env.qual ++ "<lambda>") (h' := g.push (PySem.W.kla_obj "<lambda>" (X.env.qual ++ "<lambda>") params body scope (cloFrom X.env.cells scope.names []) ((X.mg "__name__").getD .none) cn cl)) I hq
      (fun b o n e => Heap.get?_push_of_some _ (ex b o n e)) (Heap.get?_push_of_some _ tb) ge ⟨o2, us, t2, Heap.get?_push_of_some _ z1, z2, z3⟩
    have kp : KeepP P H (upd (upd H P (.tbl (qs ++ #[rawInt pos.line, rawInt pos.col, .ref cn]))) cn (CodeO cn (X.env.qual ++ "<lambda>"))) := fun b o n e => by
      rw [upd_ne (ne_of_none e free), upd_ne n]
      exact e
    refine h _ cn _ cl _ _ J kp ⟨_, by rw [upd_ne (ne_of_none hq free), upd_same], ?_, fun p2 v2 e2 => ?_⟩ (Heap.get?_push_size _ rfl) upd_same
    · rw [show (qs ++ #[rawInt pos.line, rawInt pos.col, Value.ref cn]).toList = qs.toList ++ [rawInt pos.line, rawInt pos.col, .ref cn] by simp]
      exact PySem.TriplesOk_snoc _ _ _ _ tr
    · rw [show (qs ++ #[rawInt pos.line, rawInt pos.col, Value.ref cn]).toList = qs.toList ++ [rawInt pos.line, rawInt pos.col, .ref cn] by simp] at e2
      rcases among_app _ tr e2 with z | z
      · obtain ⟨c0, y1, y2⟩ := am p2 v2 z
        refine ⟨c0, y1, kp _ _ (fun z => ?_) y2⟩
        rw [z, hq] at y2
        exact codeO_ne _ (Option.some.inj y2).symm
      · exact ⟨cn, z, upd_same⟩
  · obtain ⟨cn, e, co⟩ := am pos cv fnd
    subst e
    refine PySem.W.kla_makeFunctionHit (ps := qs) (c := c) (P := P) (mg := X.mg) (closure_ok hfree) I.ok.glob (I.mod.glob.keeps I.bk) hcode (B.code.keeps I.bk) there tr fnd bt fun cl g tk ex _ => ?_
    exact h _ cn _ cl H _ (I.kept (t' := tk) fun b o e => Heap.get?_push_of_some _ (ex b o e)) (fun _ _ _ e => e) ⟨qs, hq, tr, am⟩ (Heap.get?_push_size _ rfl) co
section
variable {X : Cx} {c P : Addr} {k : Nat} {params : Arguments} {scope : Scope} {x : Str} {j : Nat} {e : Expr} {te : TA} {p p1 p2 p3 lpos kpos pos : Pos}
theorem pe_sortLam (hr : Room k X.A) (hg : Gl X "sorted") (hm : X.mg "sorted" = none) (TB : TabB X.base X.mg c P) (hcode : X.env.code = .ref c) (he : PA X [e] te)
    (hdef : defaultsOf params X.env = ([], []))
    (hb : ∀ (q : Str) (pm cv ctv v : Value), bindArgs (PySem.W.kla_fn "<lambda>" q params (.Subscript (.Name x p1) (.Constant (.int 0) j p2) p3) scope [] pm cv ctv) ⟨[v], []⟩ = pure [(x, v)])
    (hk : scope.kind = .function) (hco : scope.isCoroutine = false) (hgn : scope.isGenerator = false) (hl : scope.names.lookup x = some .local) (hn : ∀ y ∈ scope.names, y.2 ≠ .cell) (hnf : ∀ y ∈ scope.names, y.2 ≠ .free) (hdb : (x == ("__debug__" : Str)) = false)
    (hst : backTo pos (starEach [e] X.env) = (false, eval e X.env) :: backTo pos (starEach [] X.env) := by rfl) (hpl : (backTo pos (starEach [e] X.env)).any (·.1) = false := by rfl)
    (hcl : cloFrom X.env.cells scope.names [] = [] := by rfl) :
    PE X (.Call (.Name "sorted" p) [e] [⟨some "key", .Lambda params (.Subscript (.Name x p1) (.Constant (.int 0) j p2) p3) scope lpos, kpos⟩] pos) (tSortK X.K P (X.env.qual ++ "<lambda>") te) := by
  refine ⟨fun pins s σ H Q I h => ?_⟩
  refine wpAny_Call_Name_kw (ld_blt I hg hm rfl ?_ (by decide) (by decide))
  refine PyProof.Rows.callWith_kw (thn (he.run pos pins s σ H _ I h) fun us s1 ⟨xs, H1, I1, r1, q1⟩ => ?_) hst hpl rfl rfl
  obtain ⟨a, vs, ps, rfl, hS, hI, hT, q⟩ := q1
  obtain rfl := Vals.ref1 r1
  show wpAny _ _ (evalAll ((do let v ← eval (.Lambda params (.Subscript (.Name x p1) (.Constant (.int 0) j p2) p3) scope lpos) X.env; standAt pos; pure v) :: [])) _ _ s1
  refine wpAny_evalAll_cons (wpAny_bind ?_)
  obtain ⟨qs, hq, hq2⟩ := hT
  refine mkLam I1 TB hcode ⟨qs, hq, hq2⟩ hdef (fun y hy z => absurd z (hnf y hy)) fun f c' pm ctv H2 s2 I2 eN hT2 hf hco2 => ?_
  refine wpAny_bind (wpAny_standAt (wpAny_pure ?_))
  refine wpAny_evalAll_nil ?_
  rw [hcl] at hf
  have hS2 := keep_sqL hq eN hS
  have hI2 : ImmL X.K H2 vs (ps.map tI2) := ImmL.mono (fun _ _ g => keep_sqT hq eN g) hI
  obtain ⟨its, rv, hl2, hz⟩ := I2.list hS2
  have ev := pairs_each rv hI2
  obtain ⟨⟨oc, cvs, ct, hoc, hdc, hvc⟩, _, _⟩ := I2.hok c' _ hco2
  have hlenI : its.length ≤ sizeLine := by rw [← rv.length]; exact hz
  have hun := hr.un
  have hdp := hr.dp
  show wpAny _ _ (call (.builtin "sorted") [.ref a] [(Str.ofString "key", .ref f)]) _ _ s2
  refine PySem.W.sorted_key_data (b := false) (fun y : Int × Int => .int y.1) hl2.isList ev (PySem.W.AllAlike.of fun _ _ => by simp [PySem.W.alike]) (PySem.W.Sortable.others fun _ => ⟨by simp, by simp⟩) (by rw [← ev.length]; exact hlenI) (fun y _ => by simp only [PyData.depth]; omega) (PyProof.Rows.ksk_s1 _ _) (fun _ => PyProof.Rows.ksk_l1 _ _) (fun _ => ksk_t1 _ _) ?_ ?_
  · rintro v y ⟨t, rfl, gt⟩ hy hh tk kp
    obtain ⟨vs2, rv2, ht2, hz2⟩ := I2.tuple gt
    obtain ⟨u0, r0, rfl, e0, e1⟩ : ∃ u0 u1, vs2 = [u0, u1] ∧ RelV (.int y.1) u0 ∧ RelV (.int y.2) u1 := vals2 rv2
    obtain ⟨tk0, rfl⟩ := e0
    refine turn0 (s := { s2 with heap := hh, toks := tk }) (t := tk0) (its := [_, r0]) ?_ (I2.nolimit.keeps kp) (kp _ _ hf) ⟨c', oc, cvs, ct, rfl, kp _ _ hoc, hdc, hvc⟩ (fun v => hb _ _ _ _ v) hk hco hgn hl hn ?_ rfl (by rw [sizeLine_eq]; show 2 ≤ _; omega) hdb
    · show X.A.depth < _
      omega
    · obtain ⟨o, e, hc, n, hd⟩ := ht2
      exact ⟨o, kp _ _ e, hc, n, hd⟩
  · intro out ep h' tk kp fr hD hlo eo
    rw [PySem.W.dataLe_int (β := Int × Int) (fun y => y.1)] at eo
    obtain ⟨vs', rv', hI'⟩ := each_pairs eo
    have hlv : vs'.length ≤ sizeLine := by
      rw [rv'.length, hlo, ← ev.length]
      exact hlenI
    exact ⟨.ref _, upd H2 (s2.heap.objs.size + 1) (.lst vs'), I2.laid (t' := tk) kp (Nat.le_succ _) ⟨hlv, out, ep, rv', hD⟩, rfl, q H2 vs' _ eN hT2 hI' (I2.hok.fresh (Nat.le_succ _))⟩
end
/-! ### the def that makes the lambda, its table -/
abbrev tabD : He.Defn := ("_formed_rows", none)
def tabP (K : PySem.W.Frag) : Addr := (He.cT K tabD).2
class TBC (K : PySem.W.Frag) (mg : Str → Option Value) (base : Heap) : Prop where
  tb : TabB base mg (He.cT K tabD).1 (tabP K)
theorem pe_sortLamK (K : PySem.W.Frag) {X : Cx} {k : Nat} {params : Arguments} {scope : Scope} {x : Str} {j : Nat} {e : Expr} {te : TA} {p p1 p2 p3 lpos kpos pos : Pos} (mg : Str → Option Value) (base : Heap) [TBC K mg base] (hr : Room k X.A) (hg : Gl X "sorted") (hm : X.mg "sorted" = none) (hcode : X.env.code = .ref (He.codeOf K tabD)) (he : PA X [e] te)
    (hdef : defaultsOf params X.env = ([], []))
    (hb : ∀ (q : Str) (pm cv ctv v : Value), bindArgs (PySem.W.kla_fn "<lambda>" q params (.Subscript (.Name x p1) (.Constant (.int 0) j p2) p3) scope [] pm cv ctv) ⟨[v], []⟩ = pure [(x, v)])
    (hk : scope.kind = .function) (hco : scope.isCoroutine = false) (hgn : scope.isGenerator = false) (hl : scope.names.lookup x = some .local) (hn : ∀ y ∈ scope.names, y.2 ≠ .cell) (hnf : ∀ y ∈ scope.names, y.2 ≠ .free) (hdb : (x == ("__debug__" : Str)) = false)
    (h1 : X.K = K := by rfl) (h2 : X.mg = mg := by rfl) (h3 : X.base = base := by rfl) (hq : X.env.qual ++ "<lambda>" = qLam := by rfl)
    (hst : backTo pos (starEach [e] X.env) = (false, eval e X.env) :: backTo pos (starEach [] X.env) := by rfl) (hpl : (backTo pos (starEach [e] X.env)).any (·.1) = false := by rfl)
    (hcl : cloFrom X.env.cells scope.names [] = [] := by rfl) :
    PE X (.Call (.Name "sorted" p) [e] [⟨some "key", .Lambda params (.Subscript (.Name x p1) (.Constant (.int 0) j p2) p3) scope lpos, kpos⟩] pos) (tSortK K (tabP K) qLam te) := by
  subst h1 h2 h3
  rw [← hq]
  exact pe_sortLam hr hg hm TBC.tb hcode he hdef hb hk hco hgn hl hn hnf hdb hst hpl hcl
theorem okT {P : Program} {w : World} {K : PySem.W.Frag} {mg : Str → Option Value} {base : Heap} {x qual : Str} {params : Arguments} {body : List Stmt} {scope : Scope} {dvs : List V} {kws : List (Str × V)} {fd : FuncData} {CX : CXT} {N ps : List Str} {k : Nat} {sp : Sp} (F : FunD K x qual params body scope dvs kws (He.ga K x) fd) (S : FnScope N ps scope) (len : ∀ vs H Q E, sp vs H Q E → vs.length = ps.length)
    (hbody : ∀ (A : Around) (outer : List Env) (s : Shared) (H : Hp) (vs : List V) (Q : VK) (E : XK), Room k (A.deeper (envOfC qual scope s.heap.objs.size (He.ga K x) (.ref (He.codeOf K (x, none))))) → sp vs H Q E →
      ∃ t, PSs (cxOf CX P w K mg base N qual scope (He.ga K x) (.ref (He.codeOf K (x, none))) A outer s H E) body t ∧ t { nx := fun _ H' => Q .non H', rt := Q } (start N vs) H) : FnOk P w K mg base CX (k + 1) (He.ga K x) fd ps sp := by
  obtain ⟨oc, od, dV, kV, doc, pm, an, cdv, ct, osl, rfl, lk, hcd, _, _⟩ := F.ex
  obtain ⟨c, rfl⟩ := He.codeIn_ref hcd
  have e : He.codeOf K (x, none) = c := He.codeOf_eq (p := (x, none)) lk rfl
  rw [e] at hbody
  exact fn_of lk hcd S len fun A outer s H vs Q E hr hsp => hbody A outer s H vs Q E hr hsp
namespace Own
variable {K : PySem.W.Frag} {B H H' : Hp} {l l' : List As} {P : Addr}
theorem startT (t : TabS H P qLam) : Own K (delL H [P]) H [.tab P] := Own.enter (B := fun _ => none) (l0 := [.tab P]) ⟨(fun _ _ h => nomatch h), by simp [ads, As.ad], fun x hx => by
  rw [List.mem_singleton.mp hx]
  exact ⟨t, rfl⟩⟩
theorem tabS (L : Own K B H l) (m : As.tab P ∈ l) : TabS H P qLam := (L.all _ m).1
/-- a call that may write the table -/
theorem callT {l0 : List As} (L : Own K B H l) (t : TakeA l (.tab P) l0) (M : Own K (delL H [P]) H' l') : Own K B H' (l' ++ l0) :=
  Own.muts (l1 := [.tab P]) (L.perm t.perm) (fun a o h => by cases List.mem_singleton.mp h) M (fun ps h => by cases List.mem_singleton.mp h)
/-- a step that writes the table and keeps all else -/
theorem keepT (L : Own K B H l) (m : As.tab P ∈ l) (e : KeepP P H H') (t : TabS H' P qLam) : Own K B H' l := by
  obtain ⟨l0, tk⟩ : ∃ l0, l.Perm (.tab P :: l0) := by
    obtain ⟨u, v, rfl⟩ := List.append_of_mem m
    exact ⟨u ++ v, List.perm_middle⟩
  have L1 := L.perm tk
  have M : Own K (delL H [P]) H' [.tab P] := ⟨fun b o h => by
      by_cases z : b ∈ [P]
      · rw [delL_in z] at h
        cases h
      · rw [delL_out z] at h
        exact e b o (fun y => z (by rw [y]; exact List.mem_singleton.mpr rfl)) h, by simp [ads, As.ad], fun x hx => by
    rw [List.mem_singleton.mp hx]
    exact ⟨t, delL_in (List.mem_singleton.mpr rfl)⟩⟩
  exact (L1.callT .here M).perm tk.symm
end Own
theorem del_sqL {K : PySem.W.Frag} {H : Hp} {P a : Addr} {q : Str} {xs : List V} (t : TabS H P q) (h : SqL K H a xs) : SqL K (delL H [P]) a xs := by
  obtain ⟨qs, hq, _⟩ := t
  exact keep_sqL hq (fun b o n e => (delL_out (by simpa using n)).trans e) h
theorem del_sqT {K : PySem.W.Frag} {H : Hp} {P a : Addr} {q : Str} {xs : List V} (t : TabS H P q) (h : SqT K H a xs) : SqT K (delL H [P]) a xs := by
  obtain ⟨qs, hq, _⟩ := t
  exact keep_sqT hq (fun b o n e => (delL_out (by simpa using n)).trans e) h
theorem del_imms {K : PySem.W.Frag} {H : Hp} {P : Addr} {q : Str} {vs : List V} {ds : List PyData} (t : TabS H P q) (h : ImmL K H vs ds) : ImmL K (delL H [P]) vs ds := ImmL.mono (fun _ _ g => del_sqT t g) h
theorem del_imm {K : PySem.W.Frag} {H : Hp} {P : Addr} {q : Str} {v : V} {d : PyData} (t : TabS H P q) (h : Imm K H v d) : Imm K (delL H [P]) v d := Imm.mono (fun _ _ g => del_sqT t g) h
/-- the sorted call's reading, from what is owned -/
def SrtK (K : PySem.W.Frag) (P : Addr) (H0 : Hp) (x : V) (Q : VK) : Prop := ∃ (a : Addr) (vs : List V) (ps : List (Int × Int)), x = .ref a ∧ SqL K H0 a vs ∧ ImmL K H0 vs (ps.map tI2) ∧ TabS H0 P qLam ∧
  ∀ (H1 : Hp) (vs' : List V) (p : Addr), KeepP P H0 H1 → TabS H1 P qLam → ImmL K H1 vs' ((ps.mergeSort leP).map tI2) → H1 p = none → Q (.ref p) (upd H1 p (.lst vs'))
theorem x_sortK {K : PySem.W.Frag} {P : Addr} {te : TE} {σ : L2.St} {H : Hp} {Q : VK} : tSortK K P qLam (tCons te tNil) σ H Q = te σ H fun x H0 => SrtK K P H0 x Q := by
  show te σ H _ = te σ H _
  congr 1
  funext x H0
  refine propext ⟨?_, ?_⟩
  · rintro ⟨a, vs, ps, e, h1, h2, h3, h4⟩
    cases e
    exact ⟨a, vs, ps, rfl, h1, h2, h3, h4⟩
  · rintro ⟨a, vs, ps, e, h1, h2, h3, h4⟩
    subst e
    exact ⟨a, vs, ps, rfl, h1, h2, h3, h4⟩
theorem srtK {K : PySem.W.Frag} {B H : Hp} {l : List As} {P a : Addr} {vs : List V} {ps : List (Int × Int)} {Q : VK} (L : Own K B H l) (m : As.tab P ∈ l) (hS : SqL K H a vs) (hI : ImmL K H vs (ps.map tI2)) (h : ∀ p vs' H', Own K B H' (.pt p (.lst vs') :: .ims vs' ((ps.mergeSort leP).map tI2) :: l) → Q (.ref p) H') : SrtK K P H (.ref a) Q :=
  ⟨a, vs, ps, rfl, hS, hI, L.tabS m, fun H1 vs' p k t i hp => h p vs' _ (((L.keepT m k t).addIms i).new hp _)⟩
/-! ### comprehensions over enumerate -/
theorem comp_enumI {K : PySem.W.Frag} {B H : Hp} {l : List As} {te : TE} {tA : TT} {σ : L2.St} {a : Addr} {xs : List Int} {g : TG} {vs : List Nat} {Q : Addr → Hp → Prop} (hk : ∀ H', Own K B H' l → SqL K H' a (xs.map V.int)) (Pv : Nat → Addr → List As → Prop) (L : Own K B H l) (h0 : ∀ D, Pv 0 D (.pt D (.lst []) :: l)) (hsub : ∀ i D m H', Pv i D m → Own K B H' m → Own K B H' l)
    (hs : ∀ i x D m T H1, xs[i]? = some x → Pv i D m → Own K B H1 (.pt T (tupI [(i : Int), x]) :: m) → g (.ref T) (wipe σ vs) H1 fun σ2 H2 => wipe σ2 vs = wipe σ vs ∧ tA σ2 H2 fun b H3 =>
      if b = true then te σ2 H3 fun y H4 => ∃ acc, H4 D = some (.lst acc) ∧ acc.length < sizeLine ∧ ∃ m2, Pv (i + 1) D m2 ∧ Own K B (upd H4 D (.lst (acc ++ [y]))) m2 else ∃ m2, Pv (i + 1) D m2 ∧ Own K B H3 m2)
    (hd : ∀ D m H', Pv xs.length D m → Own K B H' m → Q D H') : ∀ D, H D = none → CompI (Ite K a) g tA te vs σ H D (Q D) := by
  intro D hD
  refine comp_enum (xs := xs.map V.int) (fun i H' => ∃ m, Pv i D m ∧ Own K B H' m) ⟨_, h0 D, L.new hD _⟩ (fun i H' _ ⟨m, p, h⟩ => hk H' (hsub i D m H' p h)) (fun i x H' T hx ⟨m, p, h⟩ hT => ?_) (fun H' ⟨m, p, h⟩ => ?_)
  · obtain ⟨z, hz, rfl⟩ := int_at hx
    exact hs i z D m T _ hz p (h.new hT (tupI [(i : Int), z]))
  · rw [List.length_map] at p
    exact hd D m H' p h
/-! ### lists of lists of pairs: places, cells, contents -/
abbrev RL := List (Addr × List V × List (Int × Int))
def rR (pl : RL) : List V := pl.map fun q => V.ref q.1
def rO (pl : RL) : List (Addr × HO) := pl.map fun q => (q.1, .lst q.2.1)
def rV (pl : RL) : List V := pl.flatMap fun q => q.2.1
def rD (pl : RL) : List PyData := pl.flatMap fun q => q.2.2.map tI2
def rC (pl : RL) : List (List (Int × Int)) := pl.map fun q => q.2.2
def rOk (pl : RL) : Prop := ∀ q ∈ pl, q.2.1.length = q.2.2.length
abbrev pRO (pl : RL) : As := .objs (rO pl)
abbrev pRI (pl : RL) : As := .ims (rV pl) (rD pl)
theorem rR_snoc {pl : RL} {q : Addr × List V × List (Int × Int)} : rR (pl ++ [q]) = rR pl ++ [V.ref q.1] := by
  unfold rR
  rw [List.map_append]
  rfl
theorem rO_snoc {pl : RL} {q : Addr × List V × List (Int × Int)} : rO (pl ++ [q]) = rO pl ++ [(q.1, .lst q.2.1)] := by
  unfold rO
  rw [List.map_append]
  rfl
theorem rC_snoc {pl : RL} {q : Addr × List V × List (Int × Int)} : rC (pl ++ [q]) = rC pl ++ [q.2.2] := by
  unfold rC
  rw [List.map_append]
  rfl
theorem rR_len {pl : RL} : (rR pl).length = pl.length := List.length_map ..
theorem rC_len {pl : RL} : (rC pl).length = pl.length := List.length_map ..
theorem immL_split {K : PySem.W.Frag} {H : Hp} : ∀ {vs us : List V} {ds es : List PyData}, vs.length = ds.length → ImmL K H (vs ++ us) (ds ++ es) → ImmL K H vs ds ∧ ImmL K H us es
  | [], _, [], _, _, h => ⟨.nil, h⟩
  | _ :: vs, us, _ :: ds, es, e, .cons h g => by
    obtain ⟨h1, h2⟩ := immL_split (by simpa using e) g
    exact ⟨.cons h h1, h2⟩
theorem rows_imm {K : PySem.W.Frag} {H : Hp} : ∀ {pl : RL}, rOk pl → ImmL K H (rV pl) (rD pl) → ∀ q ∈ pl, ImmL K H q.2.1 (q.2.2.map tI2)
  | [], _, _, _, h => nomatch h
  | p :: pl, ok, g, q, m => by
    obtain ⟨h1, h2⟩ := immL_split (vs := p.2.1) (ds := p.2.2.map tI2) (by rw [List.length_map]; exact ok p (.head _)) g
    rcases List.mem_cons.mp m with rfl | m
    · exact h1
    · exact rows_imm (fun r hr => ok r (.tail _ hr)) h2 q m
theorem imm_rows {K : PySem.W.Frag} {H : Hp} : ∀ {pl : RL}, (∀ q ∈ pl, ImmL K H q.2.1 (q.2.2.map tI2)) → ImmL K H (rV pl) (rD pl)
  | [], _ => .nil
  | p :: pl, h => by
    have h1 := h p (.head _)
    have h2 := imm_rows (pl := pl) fun q m => h q (.tail _ m)
    exact ImmL.append h1 h2
theorem imm_ok {K : PySem.W.Frag} {H : Hp} {pl : RL} (h : ∀ q ∈ pl, ImmL K H q.2.1 (q.2.2.map tI2)) : rOk pl := fun q m => by
  have := (h q m).len
  rwa [List.length_map] at this
theorem objsPerm {K : PySem.W.Frag} {B H : Hp} {l : List As} {ps qs : List (Addr × HO)} (p : ps.Perm qs) (L : Own K B H (.objs ps :: l)) : Own K B H (.objs qs :: l) := by
  refine ⟨L.same, ?_, fun x hx => ?_⟩
  · have := L.nd
    unfold ads at this ⊢
    rw [List.flatMap_cons] at this ⊢
    exact (List.Perm.append_right _ (p.map Prod.fst)).nodup_iff.mp this
  · rcases List.mem_cons.mp hx with e | h
    · rw [e]
      exact fun q m => L.all _ (.head _) q (p.mem_iff.mpr m)
    · exact L.all x (.tail _ h)
/-- one row more -/
theorem rowIn {K : PySem.W.Frag} {B H : Hp} {l : List As} {pl : RL} {p : Addr} {vs : List V} {ps : List (Int × Int)} (ok : rOk pl) (L : Own K B H (.pt p (.lst vs) :: .ims vs (ps.map tI2) :: pRO pl :: pRI pl :: l)) : rOk (pl ++ [(p, vs, ps)]) ∧ Own K B H (pRO (pl ++ [(p, vs, ps)]) :: pRI (pl ++ [(p, vs, ps)]) :: l) := by
  have h1 : ImmL K H vs (ps.map tI2) := L.imms (.tail _ (.head _))
  have h2 : ImmL K H (rV pl) (rD pl) := L.imms (.tail _ (.tail _ (.tail _ (.head _))))
  have h3 : ∀ q ∈ pl ++ [(p, vs, ps)], ImmL K H q.2.1 (q.2.2.map tI2) := fun q m => by
    rcases List.mem_append.mp m with m | m
    · exact rows_imm ok h2 q m
    · rw [List.mem_singleton.mp m]
      exact h1
  have M : Own K B H (.pt p (.lst vs) :: pRO pl :: l) := L.sub (List.Sublist.cons_cons _ (List.Sublist.cons _ (List.Sublist.cons_cons _ (List.Sublist.cons _ (List.Sublist.refl _)))))
  refine ⟨imm_ok h3, ?_⟩
  have M2 := M.objIn
  rw [← rO_snoc (q := (p, vs, ps))] at M2
  exact (M2.addIms (imm_rows h3)).perm (List.Perm.swap _ _ _)
/-- turned round -/
theorem rowsRev {K : PySem.W.Frag} {B H : Hp} {l : List As} {pl : RL} (ok : rOk pl) (L : Own K B H (pRO pl :: pRI pl :: l)) : rOk pl.reverse ∧ Own K B H (pRO pl.reverse :: pRI pl.reverse :: l) := by
  have h2 : ImmL K H (rV pl) (rD pl) := L.imms (.tail _ (.head _))
  have h3 : ∀ q ∈ pl.reverse, ImmL K H q.2.1 (q.2.2.map tI2) := fun q m => rows_imm ok h2 q (List.mem_reverse.mp m)
  have M : Own K B H (pRO pl :: l) := L.sub (List.Sublist.cons_cons _ (List.Sublist.cons _ (List.Sublist.refl _)))
  have M2 : Own K B H (pRO pl.reverse :: l) := objsPerm (by unfold rO; rw [List.map_reverse]; exact (List.reverse_perm _).symm) M
  exact ⟨imm_ok h3, (M2.addIms (imm_rows h3)).perm (List.Perm.swap _ _ _)⟩
/-- a row's cell and its items -/
theorem rowAt {K : PySem.W.Frag} {B H : Hp} {l : List As} {pl : RL} {q : Addr × List V × List (Int × Int)} (ok : rOk pl) (L : Own K B H l) (m : pRO pl ∈ l) (m2 : pRI pl ∈ l) (h : q ∈ pl) : H q.1 = some (.lst q.2.1) ∧ ImmL K H q.2.1 (q.2.2.map tI2) :=
  ⟨L.obj m (List.mem_map.mpr ⟨q, h, rfl⟩), rows_imm ok (L.imms m2) q h⟩
/-! ### picking, tables and many cells too -/
inductive PickA : List As → List As → Prop
  | nil {l : List As} : PickA l []
  | any {l l1 l' : List As} {x : As} : TakeA l x l1 → PickA l1 l' → PickA l (x :: l')
  | im {l l' : List As} {v : V} {d : PyData} : As.im v d ∈ l → PickA l l' → PickA l (.im v d :: l')
  | ims {l l' : List As} {vs : List V} {ds : List PyData} : As.ims vs ds ∈ l → PickA l l' → PickA l (.ims vs ds :: l')
theorem PickA.ads {l l' : List As} (p : PickA l l') : ∃ r, (Bel.ads l).Perm (Bel.ads l' ++ r) := by
  induction p with
  | @nil l => exact ⟨Bel.ads l, List.Perm.refl _⟩
  | @any l l1 l' x t q ih =>
    obtain ⟨r, h⟩ := ih
    refine ⟨r, (t.perm.flatMap_right _).trans ?_⟩
    rw [show Bel.ads (x :: l') = x.ad ++ Bel.ads l' from List.flatMap_cons, List.append_assoc]
    exact List.Perm.append_left _ h
  | im _ _ ih => exact ih
  | ims _ _ ih => exact ih
theorem PickA.mem {l l' : List As} (p : PickA l l') : ∀ x ∈ l', x ∈ l := by
  induction p with
  | nil => exact fun x h => nomatch h
  | any t q ih =>
    intro x h
    rcases List.mem_cons.mp h with rfl | h
    · exact t.perm.mem_iff.mpr (.head _)
    · exact t.perm.mem_iff.mpr (.tail _ (ih x h))
  | im m _ ih =>
    intro x h
    rcases List.mem_cons.mp h with rfl | h
    · exact m
    · exact ih x h
  | ims m _ ih =>
    intro x h
    rcases List.mem_cons.mp h with rfl | h
    · exact m
    · exact ih x h
theorem Own.pickA {K : PySem.W.Frag} {B H : Hp} {l l' : List As} (L : Own K B H l) (p : PickA l l') : Own K B H l' := by
  obtain ⟨r, h⟩ := p.ads
  exact ⟨L.same, (List.nodup_append.mp (h.nodup_iff.mp L.nd)).1, fun x m => L.all x (p.mem x m)⟩
theorem Own.callT2 {K : PySem.W.Frag} {B H H' : Hp} {l l0 : List As} {P : Addr} {x : As} (L : Own K B H l) (t : TakeA l (.tab P) l0) (M : Own K (delL H [P]) H' [x, .tab P]) : Own K B H' (x :: .tab P :: l0) := L.callT t M
theorem Own.callT4 {K : PySem.W.Frag} {B H H' : Hp} {l l0 : List As} {P : Addr} {x y z : As} (L : Own K B H l) (t : TakeA l (.tab P) l0) (M : Own K (delL H [P]) H' [x, y, z, .tab P]) : Own K B H' (x :: y :: z :: .tab P :: l0) := L.callT t M
/-! ### sorted(xs), xs tuples of ints -/
def leL (a b : List Int) : Bool := decide (a ≤ b)
theorem leL_data : PySem.W.dataLe false (fun t : List Int => tI t) = leL := by
  funext p q
  show (!PySem.W.dataLt (.tuple (q.map .int)) (.tuple (p.map .int))) = _
  rw [PySem.W.dataLt_tuple]
  show (!PySem.W.rowLt (q.map .int) (p.map .int)) = _
  rw [PySem.W.dataLt_ints]
  unfold leL
  by_cases h : q < p
  · rw [decide_eq_true h, decide_eq_false fun r => List.not_lt.mpr r h]
    rfl
  · rw [decide_eq_false h, decide_eq_true (List.not_lt.mp h)]
    rfl
def rSrtT (K : PySem.W.Frag) : List V → Hp → VK → Prop := fun xs H Q => ∃ (a : Addr) (vs : List V) (ts : List (List Int)), xs = [.ref a] ∧ SqL K H a vs ∧ ImmL K H vs (ts.map tI) ∧ (∀ t ∈ ts, t ≠ []) ∧
  ∀ (vs' : List V) (p : Addr), ImmL K H vs' ((ts.mergeSort leL).map tI) → H p = none → Q (.ref p) (upd H p (.lst vs'))
def TupV (K : PySem.W.Frag) (H : Hp) (u : Value) (t : List Int) : Prop := ∃ a, u = .ref a ∧ SqT K H a (t.map V.int)
theorem tups_each {K : PySem.W.Frag} {H : Hp} : ∀ {vs : List V} {us : List Value} {ts : List (List Int)}, Vals vs us → ImmL K H vs (ts.map tI) → PySem.W.EachIs (TupV K H) us ts
  | _, _, [], .nil, .nil => .nil
  | _, _, t :: ts, .cons r rs, .cons h hs => by
    obtain ⟨a, rfl, g⟩ := Imm.of_ints h
    cases r
    exact .cons ⟨a, rfl, g⟩ (tups_each rs hs)
theorem each_tups {K : PySem.W.Frag} {H : Hp} : ∀ {us : List Value} {ts : List (List Int)}, PySem.W.EachIs (TupV K H) us ts → ∃ vs : List V, Vals vs us ∧ ImmL K H vs (ts.map tI)
  | _, _, .nil => ⟨[], .nil, .nil⟩
  | _, _, .cons ⟨a, e, g⟩ r => by
    obtain ⟨vs, h1, h2⟩ := each_tups r
    exact ⟨.ref a :: vs, .cons (by rw [e]; rfl) h1, .cons (Imm.of_is g) h2⟩
theorem reads_ints {h : Heap} : ∀ {t : List Int} {us : List Value}, Vals (t.map V.int) us → ReadsAll h us (t.map PyData.int) []
  | [], _, .nil => .nil
  | _ :: _, _, .cons ⟨_, e⟩ r => by
    cases e
    exact ReadsAll.cons (as := []) (bs := []) (.int _ _) (reads_ints r)
theorem tups_reads {X : Cx} {pins : List (Addr × Obj)} {σ : L2.St} {H : Hp} {s : Shared} (I : Inv X pins σ H s) : ∀ {us : List Value} {ts : List (List Int)}, PySem.W.EachIs (TupV X.K H) us ts → PySem.W.EachIs (fun v t => ∃ as, Reads s.heap v (tI t) as) us ts
  | _, _, .nil => .nil
  | _, _, .cons ⟨a, e, g⟩ r => by
    obtain ⟨its, rv, ⟨o, ho, hc, n, hd⟩, _⟩ := I.tuple g
    exact .cons ⟨[], by rw [e]; exact .tuple ho hc hd (reads_ints rv)⟩ (tups_reads I r)
theorem srtTK {X : Cx} (K : PySem.W.Frag) (hu : X.A.units + 64 < cLine) (h : X.K = K := by rfl) : CallR X (.builtin "sorted") (rSrtT K) := by
  subst h
  intro pins s σ H xs us Q I r hq
  obtain ⟨a, vs, ts, rfl, hS, hI, hne, q⟩ := hq
  obtain rfl := Vals.ref1 r
  obtain ⟨its, rv, hl, hz⟩ := I.list hS
  have ev := tups_each rv hI
  have ne : ∀ t ∈ ts, ∃ x r, tI t = .tuple (x :: r) := fun t ht => by
    cases t with
    | nil => exact absurd rfl (hne _ ht)
    | cons x r => exact ⟨.int x, r.map PyData.int, rfl⟩
  refine PySem.W.sorted_data (enc := fun t : List Int => tI t) hl.isList ev (tups_reads I ev) (PySem.W.AllAlike.of fun x y => ?_) (.inl fun d hd => ?_) (by rw [← ev.length, ← rv.length]; exact hz) (fun t _ => ?_) fun out hlo eo => ?_
  · show PySem.W.alike (.tuple _) (.tuple _) = true
    rw [PySem.W.alike]
    exact PySem.W.alike_ints x y
  · obtain ⟨t, ht, rfl⟩ := List.mem_map.mp hd
    exact ne t ht
  · have := depthAll_ints' t
    simp only [PyData.depth]
    omega
  · rw [leL_data] at eo
    obtain ⟨vs', rv', hI'⟩ := each_tups eo
    obtain ⟨ep, he'⟩ := PyProof.Rows.sortedAll_at s.heap its (List.toArray out)
    have hlv : vs'.length ≤ sizeLine := by
      rw [rv'.length, hlo, ← ev.length, ← rv.length]
      exact hz
    exact ⟨.ref _, upd H (s.heap.objs.size + 1) (.lst vs'), I.laid (t' := s.toks) (fun _ _ => PyProof.Rows.sortedAll_old) (Nat.le_succ _) ⟨hlv, out, ep, rv', he'⟩, rfl, q vs' _ hI' (I.hok.fresh (Nat.le_succ _))⟩
/-- the reading, from what is owned -/
def SrtT (K : PySem.W.Frag) (H : Hp) (x : V) (Q : VK) : Prop := rSrtT K [x] H Q
theorem g_srtT {K : PySem.W.Frag} {H : Hp} {x : V} {Q : VK} : rSrtT K [x] H Q = SrtT K H x Q := rfl
theorem srtT {K : PySem.W.Frag} {B H : Hp} {l : List As} {a : Addr} {vs : List V} {ts : List (List Int)} {Q : VK} (L : Own K B H l) (hS : SqL K H a vs) (m : As.ims vs (ts.map tI) ∈ l) (hne : ∀ t ∈ ts, t ≠ []) (h : ∀ p vs' H', Own K B H' (.pt p (.lst vs') :: .ims vs' ((ts.mergeSort leL).map tI) :: l) → Q (.ref p) H') : rSrtT K [.ref a] H Q :=
  ⟨a, vs, ts, rfl, hS, L.imms m, hne, fun vs' p i hp => h p vs' _ ((L.addIms i).new hp _)⟩
end Bel

namespace K13
open PySem PySem.Spec PyProof.Rows L2 Bel LamX
abbrev topS (i : Nat) : Stmt := PySem.Challenge.pw_bellows_k13_shortest_of_few.main.body.getD i (.Pass ⟨0, 0, 0, 0⟩)
abbrev s__law_draws : Stmt := topS 23
abbrev N__law_draws : List Str := ["script", "draws", "k", "rest", "turn", "mixed"]
theorem sc__law_draws : FnScope N__law_draws ["script"] (defScope s__law_draws) := ⟨rfl, rfl, rfl, by decide +kernel, rfl, by decide +kernel, by decide +kernel⟩
abbrev s__law_at : Stmt := topS 24
abbrev N__law_at : List Str := ["draws", "k", "many"]
theorem sc__law_at : FnScope N__law_at ["draws", "k", "many"] (defScope s__law_at) := ⟨rfl, rfl, rfl, by decide +kernel, rfl, by decide +kernel, by decide +kernel⟩
abbrev s__law_is_integer : Stmt := topS 25
abbrev N__law_is_integer : List Str := ["actual"]
theorem sc__law_is_integer : FnScope N__law_is_integer ["actual"] (defScope s__law_is_integer) := ⟨rfl, rfl, rfl, by decide +kernel, rfl, by decide +kernel, by decide +kernel⟩
abbrev s__law_is_row : Stmt := topS 26
abbrev N__law_is_row : List Str := ["actual", "item"]
theorem sc__law_is_row : FnScope N__law_is_row ["actual"] (defScope s__law_is_row) := ⟨rfl, rfl, rfl, by decide +kernel, rfl, by decide +kernel, by decide +kernel⟩
abbrev s__weight_of : Stmt := topS 9
abbrev N__weight_of : List Str := ["length"]
theorem sc__weight_of : FnScope N__weight_of ["length"] (defScope s__weight_of) := ⟨rfl, rfl, rfl, by decide +kernel, rfl, by decide +kernel, by decide +kernel⟩
abbrev s_weight : Stmt := topS 7
abbrev N_weight : List Str := ["lengths", "length"]
theorem sc_weight : FnScope N_weight ["lengths"] (defScope s_weight) := ⟨rfl, rfl, rfl, by decide +kernel, rfl, by decide +kernel, by decide +kernel⟩
abbrev s_is_oversubscribed : Stmt := topS 8
abbrev N_is_oversubscribed : List Str := ["lengths"]
theorem sc_is_oversubscribed : FnScope N_is_oversubscribed ["lengths"] (defScope s_is_oversubscribed) := ⟨rfl, rfl, rfl, by decide +kernel, rfl, by decide +kernel, by decide +kernel⟩
abbrev s__used : Stmt := topS 17
abbrev N__used : List Str := ["counts"]
theorem sc__used : FnScope N__used ["counts"] (defScope s__used) := ⟨rfl, rfl, rfl, by decide +kernel, rfl, by decide +kernel, by decide +kernel⟩
abbrev s__check_range : Stmt := topS 16
abbrev N__check_range : List Str := ["counts", "most", "index", "count"]
theorem sc__check_range : FnScope N__check_range ["counts", "most"] (defScope s__check_range) := ⟨rfl, rfl, rfl, by decide +kernel, rfl, by decide +kernel, by decide +kernel⟩
abbrev s__taken_from_first : Stmt := topS 18
abbrev N__taken_from_first : List Str := ["counts"]
theorem sc__taken_from_first : FnScope N__taken_from_first ["counts"] (defScope s__taken_from_first) := ⟨rfl, rfl, rfl, by decide +kernel, rfl, by decide +kernel, by decide +kernel⟩
abbrev s__lengths_without_rows : Stmt := topS 19
abbrev N__lengths_without_rows : List Str := ["counts", "count"]
theorem sc__lengths_without_rows : FnScope N__lengths_without_rows ["counts"] (defScope s__lengths_without_rows) := ⟨rfl, rfl, rfl, by decide +kernel, rfl, by decide +kernel, by decide +kernel⟩
abbrev s__formed_rows : Stmt := topS 20
abbrev N__formed_rows : List Str := ["counts", "most", "symbols", "symbol", "count", "rows", "pairs", "_", "row", "k"]
theorem sc__formed_rows : FnScope N__formed_rows ["counts", "most"] (defScope s__formed_rows) := ⟨rfl, rfl, rfl, by decide +kernel, rfl, by decide +kernel, by decide +kernel⟩
abbrev s_certificate : Stmt := topS 14
abbrev N_certificate : List Str := ["counts", "most", "many"]
theorem sc_certificate : FnScope N_certificate ["counts", "most"] (defScope s_certificate) := ⟨rfl, rfl, rfl, by decide +kernel, rfl, by decide +kernel, by decide +kernel⟩
abbrev s_shortest : Stmt := topS 13
abbrev N_shortest : List Str := ["counts", "most", "rows", "lengths", "taken", "row", "pairs", "_", "symbol"]
theorem sc_shortest : FnScope N_shortest ["counts", "most"] (defScope s_shortest) := ⟨rfl, rfl, rfl, by decide +kernel, rfl, by decide +kernel, by decide +kernel⟩
abbrev s_cost : Stmt := topS 12
abbrev N_cost : List Str := ["lengths", "counts", "length", "count"]
theorem sc_cost : FnScope N_cost ["lengths", "counts"] (defScope s_cost) := ⟨rfl, rfl, rfl, by decide +kernel, rfl, by decide +kernel, by decide +kernel⟩
abbrev s__serve : Stmt := topS 21
abbrev N__serve : List Str := ["lengths", "counts", "most", "length", "count"]
theorem sc__serve : FnScope N__serve ["lengths", "counts", "most"] (defScope s__serve) := ⟨rfl, rfl, rfl, by decide +kernel, rfl, by decide +kernel, by decide +kernel⟩
abbrev s_check_lengths : Stmt := topS 15
abbrev N_check_lengths : List Str := ["counts", "most", "lengths", "rows", "taken", "value", "_"]
theorem sc_check_lengths : FnScope N_check_lengths ["counts", "most", "lengths", "rows"] (defScope s_check_lengths) := ⟨rfl, rfl, rfl, by decide +kernel, rfl, by decide +kernel, by decide +kernel⟩
abbrev s__law_serves : Stmt := topS 27
abbrev N__law_serves : List Str := ["counts", "most", "lengths", "total", "k"]
theorem sc__law_serves : FnScope N__law_serves ["counts", "most", "lengths"] (defScope s__law_serves) := ⟨rfl, rfl, rfl, by decide +kernel, rfl, by decide +kernel, by decide +kernel⟩
abbrev s__law_cost : Stmt := topS 28
abbrev N__law_cost : List Str := ["counts", "lengths", "total", "k"]
theorem sc__law_cost : FnScope N__law_cost ["counts", "lengths"] (defScope s__law_cost) := ⟨rfl, rfl, rfl, by decide +kernel, rfl, by decide +kernel, by decide +kernel⟩
abbrev s__law_narrow : Stmt := topS 29
abbrev N__law_narrow : List Str := ["counts", "most", "told", "e"]
theorem sc__law_narrow : FnScope N__law_narrow ["counts", "most"] (defScope s__law_narrow) := ⟨rfl, rfl, rfl, by decide +kernel, rfl, by decide +kernel, by decide +kernel⟩
abbrev s_law : Stmt := topS 30
abbrev N_law : List Str := ["script", "draws", "most", "counts", "k", "count", "used", "kept", "zeros", "lengths", "rows", "least", "base", "total", "number", "rest", "other"]
theorem sc_law : FnScope N_law ["script"] (defScope s_law) := ⟨rfl, rfl, rfl, by decide +kernel, rfl, by decide +kernel, by decide +kernel⟩
abbrev s_BellowsError___init__ : Stmt := inClass (topS 1) 0
abbrev N_BellowsError___init__ : List Str := ["self", "at"]
theorem sc_BellowsError___init__ : FnScope N_BellowsError___init__ ["self", "at"] (defScope s_BellowsError___init__) := ⟨rfl, rfl, rfl, by decide +kernel, rfl, by decide +kernel, by decide +kernel⟩
theorem st__law_draws {v0 : V} : L2.start N__law_draws [v0] = [some v0, none, none, none, none, none] := rfl
theorem st__law_at {v0 v1 v2 : V} : L2.start N__law_at [v0, v1, v2] = [some v0, some v1, some v2] := rfl
theorem st__law_is_integer {v0 : V} : L2.start N__law_is_integer [v0] = [some v0] := rfl
theorem st__law_is_row {v0 : V} : L2.start N__law_is_row [v0] = [some v0, none] := rfl
theorem st__weight_of {v0 : V} : L2.start N__weight_of [v0] = [some v0] := rfl
theorem st_weight {v0 : V} : L2.start N_weight [v0] = [some v0, none] := rfl
theorem st_is_oversubscribed {v0 : V} : L2.start N_is_oversubscribed [v0] = [some v0] := rfl
theorem st__used {v0 : V} : L2.start N__used [v0] = [some v0] := rfl
theorem st__check_range {v0 v1 : V} : L2.start N__check_range [v0, v1] = [some v0, some v1, none, none] := rfl
theorem st__taken_from_first {v0 : V} : L2.start N__taken_from_first [v0] = [some v0] := rfl
theorem st__lengths_without_rows {v0 : V} : L2.start N__lengths_without_rows [v0] = [some v0, none] := rfl
theorem st__formed_rows {v0 v1 : V} : L2.start N__formed_rows [v0, v1] = [some v0, some v1, none, none, none, none, none, none, none, none] := rfl
theorem st_certificate {v0 v1 : V} : L2.start N_certificate [v0, v1] = [some v0, some v1, none] := rfl
theorem st_shortest {v0 v1 : V} : L2.start N_shortest [v0, v1] = [some v0, some v1, none, none, none, none, none, none, none] := rfl
theorem st_cost {v0 v1 : V} : L2.start N_cost [v0, v1] = [some v0, some v1, none, none] := rfl
theorem st__serve {v0 v1 v2 : V} : L2.start N__serve [v0, v1, v2] = [some v0, some v1, some v2, none, none] := rfl
theorem st_check_lengths {v0 v1 v2 v3 : V} : L2.start N_check_lengths [v0, v1, v2, v3] = [some v0, some v1, some v2, some v3, none, none, none] := rfl
theorem st__law_serves {v0 v1 v2 : V} : L2.start N__law_serves [v0, v1, v2] = [some v0, some v1, some v2, none, none] := rfl
theorem st__law_cost {v0 v1 : V} : L2.start N__law_cost [v0, v1] = [some v0, some v1, none, none] := rfl
theorem st__law_narrow {v0 v1 : V} : L2.start N__law_narrow [v0, v1] = [some v0, some v1, none, none] := rfl
theorem st_law {v0 : V} : L2.start N_law [v0] = [some v0, none, none, none, none, none, none, none, none, none, none, none, none, none, none, none, none] := rfl
structure Tx (K : PySem.W.Frag) (mg : Str → Option Value) : Prop where
  b_abs : mg "abs" = none
  b_bool : mg "bool" = none
  b_enumerate : mg "enumerate" = none
  b_int : mg "int" = none
  b_isinstance : mg "isinstance" = none
  b_len : mg "len" = none
  b_list : mg "list" = none
  b_min : mg "min" = none
  b_range : mg "range" = none
  b_sorted : mg "sorted" = none
  b_sum : mg "sum" = none
  b_zip : mg "zip" = none
  c_MOST_BITS : ∃ u, mg "MOST_BITS" = some u ∧ RelV (.int (15)) u
  c_FULL_WEIGHT : ∃ u, mg "FULL_WEIGHT" = some u ∧ RelV (.int (32768)) u
  c__PAIR : ∃ u, mg "_PAIR" = some u ∧ RelV (.int (-1)) u
  x_OutOfRange : ExF K mg "OutOfRange"
  x_TooNarrow : ExF K mg "TooNarrow"
  d__law_draws : mg "_law_draws" = some (.ref (He.ga K "_law_draws")) ∧ ∃ fd, FunD K "_law_draws" "_law_draws" (defArgs s__law_draws) (defBody s__law_draws) (defScope s__law_draws) [] [] (He.ga K "_law_draws") fd
  d__law_at : mg "_law_at" = some (.ref (He.ga K "_law_at")) ∧ ∃ fd, FunD K "_law_at" "_law_at" (defArgs s__law_at) (defBody s__law_at) (defScope s__law_at) [] [] (He.ga K "_law_at") fd
  d__law_is_integer : mg "_law_is_integer" = some (.ref (He.ga K "_law_is_integer")) ∧ ∃ fd, FunD K "_law_is_integer" "_law_is_integer" (defArgs s__law_is_integer) (defBody s__law_is_integer) (defScope s__law_is_integer) [] [] (He.ga K "_law_is_integer") fd
  d__law_is_row : mg "_law_is_row" = some (.ref (He.ga K "_law_is_row")) ∧ ∃ fd, FunD K "_law_is_row" "_law_is_row" (defArgs s__law_is_row) (defBody s__law_is_row) (defScope s__law_is_row) [] [] (He.ga K "_law_is_row") fd
  d__weight_of : mg "_weight_of" = some (.ref (He.ga K "_weight_of")) ∧ ∃ fd, FunD K "_weight_of" "_weight_of" (defArgs s__weight_of) (defBody s__weight_of) (defScope s__weight_of) [] [] (He.ga K "_weight_of") fd
  d_weight : mg "weight" = some (.ref (He.ga K "weight")) ∧ ∃ fd, FunD K "weight" "weight" (defArgs s_weight) (defBody s_weight) (defScope s_weight) [] [] (He.ga K "weight") fd
  d_is_oversubscribed : mg "is_oversubscribed" = some (.ref (He.ga K "is_oversubscribed")) ∧ ∃ fd, FunD K "is_oversubscribed" "is_oversubscribed" (defArgs s_is_oversubscribed) (defBody s_is_oversubscribed) (defScope s_is_oversubscribed) [] [] (He.ga K "is_oversubscribed") fd
  d__used : mg "_used" = some (.ref (He.ga K "_used")) ∧ ∃ fd, FunD K "_used" "_used" (defArgs s__used) (defBody s__used) (defScope s__used) [] [] (He.ga K "_used") fd
  d__check_range : mg "_check_range" = some (.ref (He.ga K "_check_range")) ∧ ∃ fd, FunD K "_check_range" "_check_range" (defArgs s__check_range) (defBody s__check_range) (defScope s__check_range) [] [] (He.ga K "_check_range") fd
  d__taken_from_first : mg "_taken_from_first" = some (.ref (He.ga K "_taken_from_first")) ∧ ∃ fd, FunD K "_taken_from_first" "_taken_from_first" (defArgs s__taken_from_first) (defBody s__taken_from_first) (defScope s__taken_from_first) [] [] (He.ga K "_taken_from_first") fd
  d__lengths_without_rows : mg "_lengths_without_rows" = some (.ref (He.ga K "_lengths_without_rows")) ∧ ∃ fd, FunD K "_lengths_without_rows" "_lengths_without_rows" (defArgs s__lengths_without_rows) (defBody s__lengths_without_rows) (defScope s__lengths_without_rows) [] [] (He.ga K "_lengths_without_rows") fd
  d__formed_rows : mg "_formed_rows" = some (.ref (He.ga K "_formed_rows")) ∧ ∃ fd, FunD K "_formed_rows" "_formed_rows" (defArgs s__formed_rows) (defBody s__formed_rows) (defScope s__formed_rows) [] [] (He.ga K "_formed_rows") fd
  d_certificate : mg "certificate" = some (.ref (He.ga K "certificate")) ∧ ∃ fd, FunD K "certificate" "certificate" (defArgs s_certificate) (defBody s_certificate) (defScope s_certificate) [] [] (He.ga K "certificate") fd
  d_shortest : mg "shortest" = some (.ref (He.ga K "shortest")) ∧ ∃ fd, FunD K "shortest" "shortest" (defArgs s_shortest) (defBody s_shortest) (defScope s_shortest) [] [] (He.ga K "shortest") fd
  d_cost : mg "cost" = some (.ref (He.ga K "cost")) ∧ ∃ fd, FunD K "cost" "cost" (defArgs s_cost) (defBody s_cost) (defScope s_cost) [] [] (He.ga K "cost") fd
  d__serve : mg "_serve" = some (.ref (He.ga K "_serve")) ∧ ∃ fd, FunD K "_serve" "_serve" (defArgs s__serve) (defBody s__serve) (defScope s__serve) [] [] (He.ga K "_serve") fd
  d_check_lengths : mg "check_lengths" = some (.ref (He.ga K "check_lengths")) ∧ ∃ fd, FunD K "check_lengths" "check_lengths" (defArgs s_check_lengths) (defBody s_check_lengths) (defScope s_check_lengths) [] [] (He.ga K "check_lengths") fd
  d__law_serves : mg "_law_serves" = some (.ref (He.ga K "_law_serves")) ∧ ∃ fd, FunD K "_law_serves" "_law_serves" (defArgs s__law_serves) (defBody s__law_serves) (defScope s__law_serves) [] [] (He.ga K "_law_serves") fd
  d__law_cost : mg "_law_cost" = some (.ref (He.ga K "_law_cost")) ∧ ∃ fd, FunD K "_law_cost" "_law_cost" (defArgs s__law_cost) (defBody s__law_cost) (defScope s__law_cost) [] [] (He.ga K "_law_cost") fd
  d__law_narrow : mg "_law_narrow" = some (.ref (He.ga K "_law_narrow")) ∧ ∃ fd, FunD K "_law_narrow" "_law_narrow" (defArgs s__law_narrow) (defBody s__law_narrow) (defScope s__law_narrow) [] [] (He.ga K "_law_narrow") fd
  d_law : mg "law" = some (.ref (He.ga K "law")) ∧ ∃ fd, FunD K "law" "law" (defArgs s_law) (defBody s_law) (defScope s_law) [] [] (He.ga K "law") fd
  i_init : PySem.W.typeIn K (.ref (He.ma K (He.ga K "BellowsError") "__init__")) = some (.type "function") ∧ ∃ fd, FunD K "__init__" "BellowsError.__init__" (defArgs s_BellowsError___init__) (defBody s_BellowsError___init__) (defScope s_BellowsError___init__) [] [] (He.ma K (He.ga K "BellowsError") "__init__") fd
section
variable {P : Program} {w : World} {K : PySem.W.Frag} {mg : Str → Option Value} {base : Heap}
theorem ok_init (T : Tx K mg) : InitOk P w K mg base := by
  obtain ⟨ti, fd, F⟩ := T.i_init
  refine ⟨fd, F.ok sc_BellowsError___init__ (fun vs H Q E h => ?_) (fun cdv A outer s H vs Q E hr h => ⟨_, PSs.nox (pss_one (ps_ost (pv 0) (pv 1))), ?_⟩), F.bindsN (fun _ _ _ _ _ _ us hl => match us, hl with | [_, _], _ => rfl), ti⟩
  · obtain ⟨_, _, _, rfl, _⟩ := h
    rfl
  · obtain ⟨a, C, v, rfl, h1, h2, h3, q⟩ := h
    exact ⟨_, rfl, _, rfl, a, C, rfl, h1, h2, .inl ⟨h3, q⟩⟩
end
end K13

namespace K13
open PySem PySem.Spec PyProof.Rows L2 Bel LamX
local macro_rules | `(tactic| wtm_at "xs") => `(tactic| simp only [x_next, x_seq, x_brk, x_cont, x_drop, x_ret, x_retN, x_if, sel_t, sel_f, selE_t, selE_f, selT_t, selT_f, selC_t, selC_f, x_test, x_tB, x_op, x_un, x_var, x_c, x_cb, x_nil, x_cons, x_rI, x_rI0, x_rU, x_rEq, x_rNe, x_rIxL, x_rIxT, x_rSlL, x_rCat, x_rRep, x_rApp, x_bm, x_bm0, x_sl, x_nopart, x_part, x_tup, x_lst, x_call, x_callS, x_asg, x_gname, x_gtup, x_gnil, x_gcons, x_gsub, x_setL, x_aug, x_ipI, x_ipC, x_bits, x_getL, x_augS, x_and, x_or, x_not, x_k, x_andV, x_orV, x_notV, x_ife, x_chain, x_for, x_ilist, x_itup, x_ienum, x_irng1, x_irng2, x_irev, x_lc, x_yes, wipe_nil, wipe_cons, List.map_cons, List.map_nil, x_misc, x_misc2, x_rz, lookup_at, Bool.not_true, Bool.not_false, decide_true, decide_false, not_true, not_false_eq_true, and_assoc, exists_and_left, exists_eq_left', exists_eq_left, exists_eq', exists_eq_right', exists_eq_right, V.int.injEq, V.ref.injEq, V.bl.injEq, V.str.injEq, List.cons.injEq, and_true, true_and, and_self, Option.some.injEq, List.cons_append, List.nil_append, List.append_nil, List.getElem?_cons_zero, List.getElem?_cons_succ, List.set_cons_zero, List.set_cons_succ, reduceCtorEq, false_and, and_false, exists_false, exists_const, or_false, false_or, scal_ii, scal_bb, scal_ss, List.length_cons, List.length_nil, Int.reduceToNat, Int.reducePow])
local macro_rules | `(tactic| k_call_by "xs" $h:term) => `(tactic| simp only [$h:term, x_next, x_seq, x_brk, x_cont, x_drop, x_ret, x_retN, x_if, sel_t, sel_f, selE_t, selE_f, selT_t, selT_f, selC_t, selC_f, x_test, x_tB, x_op, x_un, x_var, x_c, x_cb, x_nil, x_cons, x_rI, x_rI0, x_rU, x_rEq, x_rNe, x_rIxL, x_rIxT, x_rSlL, x_rCat, x_rRep, x_rApp, x_bm, x_bm0, x_sl, x_nopart, x_part, x_tup, x_lst, x_call, x_callS, x_asg, x_gname, x_gtup, x_gnil, x_gcons, x_gsub, x_setL, x_aug, x_ipI, x_ipC, x_bits, x_getL, x_augS, x_and, x_or, x_not, x_k, x_andV, x_orV, x_notV, x_ife, x_chain, x_for, x_ilist, x_itup, x_ienum, x_irng1, x_irng2, x_irev, x_lc, x_yes, wipe_nil, wipe_cons, List.map_cons, List.map_nil, x_misc, x_misc2, x_rz, lookup_at, Bool.not_true, Bool.not_false, decide_true, decide_false, not_true, not_false_eq_true, and_assoc, exists_and_left, exists_eq_left', exists_eq_left, exists_eq', exists_eq_right', exists_eq_right, V.int.injEq, V.ref.injEq, V.bl.injEq, V.str.injEq, List.cons.injEq, and_true, true_and, and_self, Option.some.injEq, List.cons_append, List.nil_append, List.append_nil, List.getElem?_cons_zero, List.getElem?_cons_succ, List.set_cons_zero, List.set_cons_succ, reduceCtorEq, false_and, and_false, exists_false, exists_const, or_false, false_or, scal_ii, scal_bb, scal_ss, List.length_cons, List.length_nil, Int.reduceToNat, Int.reducePow])
local macro_rules | `(tactic| wtm_at "hp") => `(tactic| first | (with_reducible assumption) | exact upd_same | (refine upd_keep (by with_reducible assumption) ?_; wtm_at "hp") | (refine Same.get (by with_reducible assumption) ?_; wtm_at "hp") | (refine upd_other (by first | (with_reducible assumption) | exact Ne.symm (by with_reducible assumption)) ?_; wtm_at "hp"))
local macro_rules | `(tactic| wtm_at "sq") => `(tactic| first | (with_reducible assumption) | exact SqL.of (by wtm_at "hp") | exact SqT.of (by wtm_at "hp") | (refine Same.seq (same_upd (by with_reducible assumption)) ?_; wtm_at "sq") | (refine Same.seq (by with_reducible assumption) ?_; wtm_at "sq") | (refine Same.seqT (same_upd (by with_reducible assumption)) ?_; wtm_at "sq") | (refine Same.seqT (by with_reducible assumption) ?_; wtm_at "sq"))
local macro_rules | `(tactic| wtm_at "cl") => `(tactic| first | (with_reducible assumption) | omega | (exact cmul_r (by omega) (by omega)) | (exact cmul_l (by omega) (by omega)) | (exact cdiv_ok (by omega) (by omega)) | (exact cpow_ok (by decide)) | (exact ⟨by omega, by omega, by omega⟩) | decide | (exact ⟨by omega, by omega⟩) | (simp only [List.length_append, List.length_map, List.length_set, List.length_cons, List.length_nil, rngL_len, sizeLine_eq]; omega) | wtm_at "hp" | wtm_at "sq")
local macro_rules | `(tactic| wtm_at "pf") => `(tactic| first | (with_reducible assumption) | omega | (simp only [List.length_append, List.length_map, List.length_set, List.length_cons, List.length_nil, rngL_len]; omega) | (with_reducible rfl) | (with_reducible trivial) | (with_reducible decide))
local macro_rules | `(tactic| wtm_at "st") => `(tactic| first | ((with_reducible refine g_isi ?_); first | (with_reducible refine isi_ii ?_) | (with_reducible refine isi_ib ?_) | (refine isi_int rfl ?_) | (refine isi_lst rfl (by wtm_at "hp") ?_) | (refine isi_tup rfl (by wtm_at "hp") ?_)) | ((with_reducible refine g_ned ?_); refine ned_f (dq_lst (by wtm_at "sq")) (dq_lst (by wtm_at "sq")) ?_) | ((with_reducible refine g_eqd ?_); refine eqd_t (dq_lst (by wtm_at "sq")) (dq_lst (by wtm_at "sq")) ?_) | ((with_reducible refine g_tyv ?_); refine and_tyv (by wtm_at "sq") ?_) | ((with_reducible refine g_asq ?_); refine and_sq (by wtm_at "sq") ?_) | ((with_reducible refine g_lst ?_); refine ex_lst (by wtm_at "hp") ?_) | ((with_reducible refine g_or ?_); first | (refine ex_or (by wtm_at "sq") ?_) | (refine ex_ort (by wtm_at "sq") ?_)) | ((with_reducible refine g_sq ?_); refine ex_sq (by wtm_at "sq") ?_) | ((with_reducible refine g_sqt ?_); refine ex_sqt (by wtm_at "sq") ?_) | ((with_reducible refine gd_sel ?_); first | (refine sel_p (by wtm_at "pf") ?_) | (refine sel_n (by wtm_at "pf") ?_)) | ((with_reducible refine gn_sel ?_); first | (refine selN_p (by wtm_at "pf") ?_) | (refine selN_n (by wtm_at "pf") ?_)) | ((with_reducible refine gd_selT ?_); first | (refine selT_p (by wtm_at "pf") ?_) | (refine selT_n (by wtm_at "pf") ?_)) | ((with_reducible refine gn_selT ?_); first | (refine selTN_p (by wtm_at "pf") ?_) | (refine selTN_n (by wtm_at "pf") ?_)) | ((with_reducible refine gd_selE ?_); first | (refine selE_p (by wtm_at "pf") ?_) | (refine selE_n (by wtm_at "pf") ?_)) | ((with_reducible refine gn_selE ?_); first | (refine selEN_p (by wtm_at "pf") ?_) | (refine selEN_n (by wtm_at "pf") ?_)) | ((with_reducible refine g_xf ?_); refine xf_at rfl (by wtm_at "hp") ?_) | ((with_reducible refine g_atI ?_); refine ex_at (by first | exact rfl | exact atI_int (by omega) (by wtm_at "pf") | exact atI_end (by wtm_at "pf")) ?_) | ((with_reducible refine g_and ?_); refine And.intro (by wtm_at "cl") ?_) | ((with_reducible refine g_new ?_); intro _ _))
local macro_rules | `(tactic| wtm_at "go") => `(tactic| repeat (first | wtm_at "xs" | wtm_at "st"))
local macro_rules | `(tactic| wtm_at "xo") => `(tactic| simp only [x_next, x_seq, x_brk, x_cont, x_drop, x_ret, x_retN, x_if, sel_t, sel_f, selE_t, selE_f, selT_t, selT_f, selC_t, selC_f, x_test, x_tB, x_op, x_un, x_var, x_c, x_cb, x_nil, x_cons, x_rI, x_rI0, x_rU, x_rEq, x_rNe, x_rIxL, x_rIxT, n_rSlL, n_rCat, n_rRep, n_rApp, x_bm, x_bm0, x_sl, x_nopart, x_part, n_tup, n_lst, x_call, x_callS, x_asg, x_gname, x_gtup, x_gnil, x_gcons, x_gsub, n_setL, x_aug, x_ipI, x_ipC, x_bits, x_getL, x_augS, x_and, x_or, x_not, x_k, x_andV, x_orV, x_notV, x_ife, x_chain, x_for, x_ilist, x_itup, x_ienum, x_irng1, x_irng2, x_irev, x_lc, x_yes, wipe_nil, wipe_cons, List.map_cons, List.map_nil, x_misc, x_misc2, x_rz, lookup_at, Bool.not_true, Bool.not_false, decide_true, decide_false, not_true, not_false_eq_true, and_assoc, exists_and_left, exists_eq_left', exists_eq_left, exists_eq', exists_eq_right', exists_eq_right, V.int.injEq, V.ref.injEq, V.bl.injEq, V.str.injEq, List.cons.injEq, and_true, true_and, and_self, Option.some.injEq, List.cons_append, List.nil_append, List.append_nil, List.getElem?_cons_zero, List.getElem?_cons_succ, List.set_cons_zero, List.set_cons_succ, reduceCtorEq, false_and, and_false, exists_false, exists_const, or_false, false_or, scal_ii, scal_bb, scal_ss, List.length_cons, List.length_nil, Int.reduceToNat, Int.reducePow, n_fld, n_sfld, n_aug, n_meth, n_mw, n_make, n_kw, n_rLs, n_dcp, x_sortK, n_gget, n_rLtT, n_ext, n_revL, n_rTp, t_im, ints_rev, t_s1, t_i1, t_i2, t_i3, t_i4, t_i5, x_chain3, x_irng3, x_irevR, x_rg1, x_rg2, ints_cat, ints_app1, ints_len, ints_take, ints_drop, rep_one])
local macro_rules | `(tactic| k_call_by "xo" $h:term) => `(tactic| simp only [$h:term, x_next, x_seq, x_brk, x_cont, x_drop, x_ret, x_retN, x_if, sel_t, sel_f, selE_t, selE_f, selT_t, selT_f, selC_t, selC_f, x_test, x_tB, x_op, x_un, x_var, x_c, x_cb, x_nil, x_cons, x_rI, x_rI0, x_rU, x_rEq, x_rNe, x_rIxL, x_rIxT, n_rSlL, n_rCat, n_rRep, n_rApp, x_bm, x_bm0, x_sl, x_nopart, x_part, n_tup, n_lst, x_call, x_callS, x_asg, x_gname, x_gtup, x_gnil, x_gcons, x_gsub, n_setL, x_aug, x_ipI, x_ipC, x_bits, x_getL, x_augS, x_and, x_or, x_not, x_k, x_andV, x_orV, x_notV, x_ife, x_chain, x_for, x_ilist, x_itup, x_ienum, x_irng1, x_irng2, x_irev, x_lc, x_yes, wipe_nil, wipe_cons, List.map_cons, List.map_nil, x_misc, x_misc2, x_rz, lookup_at, Bool.not_true, Bool.not_false, decide_true, decide_false, not_true, not_false_eq_true, and_assoc, exists_and_left, exists_eq_left', exists_eq_left, exists_eq', exists_eq_right', exists_eq_right, V.int.injEq, V.ref.injEq, V.bl.injEq, V.str.injEq, List.cons.injEq, and_true, true_and, and_self, Option.some.injEq, List.cons_append, List.nil_append, List.append_nil, List.getElem?_cons_zero, List.getElem?_cons_succ, List.set_cons_zero, List.set_cons_succ, reduceCtorEq, false_and, and_false, exists_false, exists_const, or_false, false_or, scal_ii, scal_bb, scal_ss, List.length_cons, List.length_nil, Int.reduceToNat, Int.reducePow, n_fld, n_sfld, n_aug, n_meth, n_mw, n_make, n_kw, n_rLs, n_dcp, x_sortK, n_gget, n_rLtT, n_ext, n_revL, n_rTp, t_im, ints_rev, t_s1, t_i1, t_i2, t_i3, t_i4, t_i5, x_chain3, x_irng3, x_irevR, x_rg1, x_rg2, ints_cat, ints_app1, ints_len, ints_take, ints_drop, rep_one])
local macro_rules | `(tactic| wtm_at "mem") => `(tactic| first | (with_reducible exact mem_here) | (with_reducible refine mem_there ?_; wtm_at "mem"))
local macro_rules | `(tactic| wtm_at "pp") => `(tactic| first | (with_reducible exact Put.here) | (with_reducible apply Put.there; wtm_at "pp"))
local macro_rules | `(tactic| wtm_at "ho") => `(tactic| first | (with_reducible assumption) | exact Own.get (by with_reducible assumption) (by wtm_at "mem") | exact Own.base (by with_reducible assumption) (by with_reducible assumption))
local macro_rules | `(tactic| wtm_at "qo") => `(tactic| first | (with_reducible assumption) | exact SqL.of (by wtm_at "ho") | exact sqT_tupI (by wtm_at "ho") | exact sqT_tupS (by wtm_at "ho") | exact SqT.of (by wtm_at "ho") | exact Own.imT (by with_reducible assumption) (by wtm_at "mem") | exact Own.sq (by with_reducible assumption) (by with_reducible assumption) | exact Own.sqT (by with_reducible assumption) (by with_reducible assumption))
local macro_rules | `(tactic| wtm_at "sub") => `(tactic| first | exact List.nil_sublist _ | (with_reducible refine List.Sublist.cons_cons _ ?_; wtm_at "sub") | (refine List.Sublist.cons _ ?_; wtm_at "sub"))
local macro_rules | `(tactic| wtm_at "co") => `(tactic| first | (with_reducible assumption) | omega | (exact cmul_r (by omega) (by omega)) | (exact cmul_l (by omega) (by omega)) | (exact cdiv_ok (by omega) (by omega)) | (exact cpow_ok (by decide)) | (exact ⟨by omega, by omega, by omega⟩) | decide | (exact ⟨by omega, by omega⟩) | (simp only [List.length_append, List.length_map, List.length_set, List.length_cons, List.length_nil, rngL_len, sizeLine_eq]; omega) | wtm_at "ho" | wtm_at "qo")
local macro_rules | `(tactic| wtm_at "so") => `(tactic| first | ((with_reducible refine g_dcp ?_); refine dcpI (by wtm_at "ho") ?_) | ((with_reducible refine g_asl ?_); refine And.intro (by rfl) ?_) | ((with_reducible refine g_asqT ?_); refine and_sqT (by wtm_at "qo") ?_) | ((with_reducible refine g_extO ?_); first | (refine extI (by with_reducible assumption) (by wtm_at "pp") (by wtm_at "co") (fun _ _ => ?_)) | (refine extO (by with_reducible assumption) (by wtm_at "pp") (by wtm_at "co") (fun _ _ => ?_))) | ((with_reducible refine g_tp ?_); first | (refine tp_l (by wtm_at "qo") ?_) | (refine tp_t (by wtm_at "qo") ?_)) | ((with_reducible refine g_fldO ?_); refine fldO (by wtm_at "ho") (by with_reducible assumption) (by wtm_at "mem") (by wtm_at "lk") ?_) | ((with_reducible refine g_fldC ?_); refine fldC (by wtm_at "ho") (by with_reducible assumption) (by wtm_at "mem") (by wtm_at "lk") ?_) | ((with_reducible refine g_putC ?_); refine putC (by with_reducible assumption) (by wtm_at "pp") (by wtm_at "pu") (by wtm_at "co") (fun _ _ => ?_)) | ((with_reducible refine g_stoO ?_); refine stoO (by with_reducible assumption) (by wtm_at "pp") (by wtm_at "pu") (by with_reducible assumption) (by wtm_at "mem") (by wtm_at "co") (fun _ _ => ?_)) | ((with_reducible refine g_metO ?_); refine metO (by wtm_at "ho") (by wtm_at "ln") ?_) | ((with_reducible refine g_makO ?_); refine makO (by with_reducible assumption) (fun _ _ _ _ => ?_)) | ((with_reducible refine g_sum ?_); refine sum_call (by wtm_at "qo") ?_) | ((with_reducible refine g_cq ?_); exact cq (by with_reducible assumption) (by simp only [rngL_len, List.length_map, List.length_take]; omega)) | ((with_reducible refine g_newO ?_); refine newO (by with_reducible assumption) (fun _ _ _ => ?_)) | ((with_reducible refine g_appO ?_); refine appI (by with_reducible assumption) (by wtm_at "pp") (by wtm_at "co") (fun _ _ => ?_)) | ((with_reducible refine g_setO ?_); refine setI (by with_reducible assumption) (by wtm_at "pp") (by omega) (by wtm_at "co") (fun _ _ => ?_)) | ((with_reducible refine g_appO ?_); refine appO (by with_reducible assumption) (by wtm_at "pp") (by wtm_at "co") (fun _ _ => ?_)) | ((with_reducible refine g_setO ?_); refine setO (by with_reducible assumption) (by wtm_at "pp") (by omega) (by wtm_at "co") (fun _ _ => ?_)) | ((with_reducible refine g_isi ?_); first | (with_reducible refine isi_ii ?_) | (with_reducible refine isi_ib ?_) | (refine isi_int rfl ?_) | (refine isi_sqL rfl (by wtm_at "qo") ?_) | (refine isi_sqT rfl (by wtm_at "qo") ?_) | (refine isi_bl rfl ?_) | (refine isi_non rfl ?_) | (refine isi_str rfl ?_)) | ((with_reducible refine g_ned ?_); first | (refine ned_f (dq_lst (by wtm_at "qo")) (dq_lst (by wtm_at "qo")) ?_) | (refine ned_ints (by wtm_at "qo") (by wtm_at "qo") ?_) | (refine nedT_ints (by wtm_at "qo") (by wtm_at "qo") ?_)) | ((with_reducible refine g_eqd ?_); first | (refine eqd_t (dq_lst (by wtm_at "qo")) (dq_lst (by wtm_at "qo")) ?_) | (refine eqd_ints (by wtm_at "qo") (by wtm_at "qo") ?_) | (refine eqdT_ints (by wtm_at "qo") (by wtm_at "qo") ?_)) | ((with_reducible refine g_tyv ?_); refine and_tyv (by wtm_at "qo") ?_) | ((with_reducible refine g_asq ?_); refine and_sq (by wtm_at "qo") ?_) | ((with_reducible refine g_lst ?_); refine ex_lst (by wtm_at "ho") ?_) | ((with_reducible refine g_or ?_); first | (refine ex_or (by wtm_at "qo") ?_) | (refine ex_ort (by wtm_at "qo") ?_)) | ((with_reducible refine g_sq ?_); refine ex_sq (by wtm_at "qo") ?_) | ((with_reducible refine g_sqt ?_); refine ex_sqt (by wtm_at "qo") ?_) | ((with_reducible refine gd_sel ?_); first | (refine sel_p (by wtm_at "pf") ?_) | (refine sel_n (by wtm_at "pf") ?_)) | ((with_reducible refine gn_sel ?_); first | (refine selN_p (by wtm_at "pf") ?_) | (refine selN_n (by wtm_at "pf") ?_)) | ((with_reducible refine gd_selT ?_); first | (refine selT_p (by wtm_at "pf") ?_) | (refine selT_n (by wtm_at "pf") ?_)) | ((with_reducible refine gn_selT ?_); first | (refine selTN_p (by wtm_at "pf") ?_) | (refine selTN_n (by wtm_at "pf") ?_)) | ((with_reducible refine gd_selE ?_); first | (refine selE_p (by wtm_at "pf") ?_) | (refine selE_n (by wtm_at "pf") ?_)) | ((with_reducible refine gn_selE ?_); first | (refine selEN_p (by wtm_at "pf") ?_) | (refine selEN_n (by wtm_at "pf") ?_)) | ((with_reducible refine g_xf ?_); refine xf_at rfl (by wtm_at "ho") ?_) | ((with_reducible refine g_atI ?_); refine ex_at (by first | exact rfl | exact atI_int (by omega) (by wtm_at "pf") | exact atI_end (by wtm_at "pf")) ?_) | ((with_reducible refine g_and ?_); refine And.intro (by wtm_at "co") ?_))
local macro_rules | `(tactic| wtm_at "oo") => `(tactic| repeat (first | wtm_at "xo" | wtm_at "so"))
local macro_rules | `(tactic| wtm_at "cR") => `(tactic| (refine' compRi _ (by with_reducible assumption) (by omega) (fun _ _ _ _ _ => ?_) (fun _ _ _ => ?_); rotate_left; focus (wtm_at "oo")))

local macro_rules | `(tactic| wtm_at "lk") => `(tactic| first | (with_reducible exact lk_here) | (simp only [lk_here, lk_skip, lk_nil]; first | done | exact rfl))
local macro_rules | `(tactic| wtm_at "ln") => `(tactic| first | (with_reducible exact lk_nil) | (simp only [lk_skip, lk_nil]; done))
local macro_rules | `(tactic| wtm_at "pu") => `(tactic| first | (with_reducible exact pf_nil) | (simp only [pf_nil, pf_here, pf_skip]; first | done | exact rfl))
local macro_rules | `(tactic| wtm_at "tk") => `(tactic| first | (with_reducible exact Take.here) | (exact Take.here) | ((with_reducible apply Take.there); wtm_at "tk"))
local macro_rules | `(tactic| wtm_at "pk") => `(tactic| first | exact Pick.nil | ((with_reducible refine' Pick.cons ?tk1 ?pk1); (case tk1 => wtm_at "tk"); (case pk1 => wtm_at "pk")) | ((with_reducible refine Pick.im (by wtm_at "mem") ?_); wtm_at "pk") | ((with_reducible refine Pick.ims (by wtm_at "mem") ?_); wtm_at "pk"))

local macro_rules | `(tactic| wtm_at "ta") => `(tactic| first | (with_reducible exact TakeA.here) | ((with_reducible apply TakeA.there); wtm_at "ta"))
local macro_rules | `(tactic| wtm_at "tb") => `(tactic| first | (exact TakeA.here) | ((with_reducible apply TakeA.there); wtm_at "tb"))
local macro_rules | `(tactic| wtm_at "pa") => `(tactic| first | exact PickA.nil | ((with_reducible refine PickA.im (by wtm_at "mem") ?_); wtm_at "pa") | ((with_reducible refine PickA.ims (by wtm_at "mem") ?_); wtm_at "pa") | ((with_reducible refine' PickA.any ?tk1 ?pk1); (case tk1 => first | wtm_at "ta" | wtm_at "tb"); (case pk1 => wtm_at "pa")))
section
variable {P : Program} {w : World} {K : PySem.W.Frag} {mg : Str → Option Value} {base : Heap} [TBC K mg base]
def atD (ds : List Int) (k many : Int) : Int := if k < ds.length then ds.getD k.toNat 0 % many else 0
theorem atD_lo {ds : List Int} {k many : Int} (hm : 0 < many) : 0 ≤ atD ds k many := by
  unfold atD
  split
  · exact Int.emod_nonneg _ (by omega)
  · exact Int.le_refl 0
theorem atD_hi {ds : List Int} {k many : Int} (hm : 0 < many) : atD ds k many < many := by
  unfold atD
  split
  · exact Int.emod_lt_of_pos _ hm
  · exact hm
def sp__law_at (K : PySem.W.Frag) : Sp := fun vs H Q _ => ∃ (a : Addr) (ds : List Int) (k many : Int), vs = [.ref a, .int k, .int many] ∧ SqL K H a (ds.map V.int) ∧ 0 ≤ k ∧ 0 < many ∧ Q (.int (atD ds k many)) H
theorem ok__law_at (T : Tx K mg) : Cl P w K mg base 1 "_law_at" ["draws", "k", "many"] (sp__law_at K) [] := by
  obtain ⟨gm, fd, F⟩ := T.d__law_at
  refine ⟨_, fd, [], F.ok sc__law_at (fun vs H Q E h => ?_) (fun cdv A outer s H vs Q E hr h => ⟨_, (PSs.nox (pss_cons (ps_if (pt_cmpR op_lt (pv 1) (pe_callB (lenK K) rfl T.b_len (by decide +kernel) (pa_cons (pv 0) pa_nil)) (nomark _))
 (pss_one (ps_ret (by exact (pe_op op_mod (pe_callTy call_int1 rfl T.b_int (by decide +kernel) (pa_cons (pe_ix (ixl K) (pv 0) (pv 1) (fun _ _ => rfl)) pa_nil)) (pv 2)))))
 pss_nil)
 (pss_one (ps_ret (by exact pe_int))))), ?_⟩), gm, F.kp, F.bindsN (fun _ _ _ _ _ _ us hl => match us, hl with | [_, _, _], _ => rfl), .nil⟩
  · first | (obtain ⟨rfl, _⟩ := h; rfl) | (obtain ⟨_, rfl, _⟩ := h; rfl) | (obtain ⟨_, _, rfl, _⟩ := h; rfl) | (obtain ⟨_, _, _, rfl, _⟩ := h; rfl) | (obtain ⟨_, _, _, _, rfl, _⟩ := h; rfl) | (obtain ⟨_, _, _, _, _, rfl, _⟩ := h; rfl) | (obtain ⟨_, _, _, _, _, _, rfl, _⟩ := h; rfl) | (obtain ⟨_, _, _, _, _, _, _, rfl, _⟩ := h; rfl) | (obtain ⟨_, _, _, _, _, _, _, _, rfl, _⟩ := h; rfl) | (obtain ⟨_, _, _, _, _, _, _, _, _, rfl, _⟩ := h; rfl) | (obtain ⟨_, _, _, _, _, _, _, _, _, _, rfl, _⟩ := h; rfl) | (obtain ⟨_, _, _, _, _, _, _, _, _, _, _, rfl, _⟩ := h; rfl) | (obtain ⟨_, _, _, _, _, _, _, _, _, _, _, _, rfl, _⟩ := h; rfl) | (obtain ⟨_, _, _, _, _, _, _, _, _, _, _, _, _, rfl, _⟩ := h; rfl) | (obtain ⟨_, _, _, _, _, _, _, _, _, _, _, _, _, _, rfl, _⟩ := h; rfl) | (obtain ⟨_, _, _, _, _, _, _, _, _, _, _, _, _, _, _, rfl, _⟩ := h; rfl) | (obtain ⟨_, _, _, _, _, _, _, _, _, _, _, _, _, _, _, _, rfl, _⟩ := h; rfl) | (obtain ⟨_, _, _, _, _, _, _, _, _, _, _, _, _, _, _, _, _, rfl, _⟩ := h; rfl) | (obtain ⟨_, _, _, _, _, _, _, _, _, _, _, _, _, _, _, _, _, _, rfl, _⟩ := h; rfl) | (obtain ⟨_, _, _, _, _, _, _, _, _, _, _, _, _, _, _, _, _, _, _, rfl, _⟩ := h; rfl) | (obtain ⟨_, _, _, _, _, _, _, _, _, _, _, _, _, _, _, _, _, _, _, _, rfl, _⟩ := h; rfl) | (obtain ⟨_, _, _, _, _, _, _, _, _, _, _, _, _, _, _, _, _, _, _, _, _, rfl, _⟩ := h; rfl)
  · obtain ⟨a, ds, k, many, rfl, hS, h0, hm, q⟩ := h
    k_call_by "xs" st__law_at
    refine ⟨_, .inl hS, sel_d (fun h1 => ?_) (fun h1 => ?_)⟩
    · wtm_at "xs"
      rw [List.length_map] at h1
      refine ⟨_, hS, _, atI_int h0 h1, ?_⟩
      wtm_at "xs"
      unfold atD at q
      rw [if_pos h1] at q
      exact ⟨hm, q⟩
    · wtm_at "xs"
      rw [List.length_map] at h1
      unfold atD at q
      rw [if_neg h1] at q
      exact q
theorem g_at {K : PySem.W.Frag} {H : Hp} {vs : List V} {Q : VK} {E : XK} (h : sp__law_at K vs H Q E) : sp__law_at K vs H Q E := h
theorem at_call {K : PySem.W.Frag} {H : Hp} {a : Addr} {ds : List Int} {k many : Int} {Q : VK} {E : XK} (hS : SqL K H a (ds.map V.int)) (h0 : 0 ≤ k) (hm : 0 < many) (q : 0 ≤ atD ds k many → atD ds k many < many → Q (.int (atD ds k many)) H) : sp__law_at K [.ref a, .int k, .int many] H Q E := ⟨a, ds, k, many, rfl, hS, h0, hm, q (atD_lo hm) (atD_hi hm)⟩
/-- the draws: all that is asked of them -/
structure Drawn (ds : List Int) : Prop where
  lo : ∀ d ∈ ds, 0 ≤ d
  hi : ∀ d ∈ ds, d < 65536
  len : ds.length ≤ 3780
def sp__law_draws (K : PySem.W.Frag) : Sp := fun vs H Q _ => ∃ (a : Addr) (ns : List Int), vs = [.ref a] ∧ SqL K H a (ns.map V.int) ∧ ns.length ≤ 63 ∧ ∀ ds p H', Drawn ds → Same H H' → H p = none → H' p = some (.lst (ds.map V.int)) → Q (.ref p) H'
structure DrI (a p : Addr) (H : Hp) (most : Nat) (H' : Hp) (ds : List Int) : Prop where
  same : Same H H'
  at_ : H' p = some (.lst (ds.map V.int))
  lo : ∀ d ∈ ds, 0 ≤ d
  hi : ∀ d ∈ ds, d < 65536
  len : ds.length ≤ most
theorem DrI.put {a p : Addr} {H : Hp} {most : Nat} {H' : Hp} {ds : List Int} (I : DrI a p H most H' ds) (hp : H p = none) {x : Int} (h0 : 0 ≤ x) (h1 : x < 65536) {m2 : Nat} (hm : most + 1 ≤ m2) : DrI a p H m2 (upd H' p (.lst (ds.map V.int ++ [.int x]))) (ds ++ [x]) := by
  refine ⟨same_put I.same hp, ?_, ?_, ?_, ?_⟩
  · rw [upd_same, List.map_append]
    rfl
  · intro d hd
    rcases List.mem_append.mp hd with h | h
    · exact I.lo d h
    · rw [List.mem_singleton.mp h]
      exact h0
  · intro d hd
    rcases List.mem_append.mp hd with h | h
    · exact I.hi d h
    · rw [List.mem_singleton.mp h]
      exact h1
  · rw [List.length_append, List.length_singleton]
    have := I.len
    omega
theorem DrI.mono {a p : Addr} {H : Hp} {most m2 : Nat} {H' : Hp} {ds : List Int} (I : DrI a p H most H' ds) (h : most ≤ m2) : DrI a p H m2 H' ds := ⟨I.same, I.at_, I.lo, I.hi, Nat.le_trans I.len h⟩
theorem ok__law_draws (T : Tx K mg) : Cl P w K mg base 1 "_law_draws" ["script"] (sp__law_draws K) [] := by
  obtain ⟨gm, fd, F⟩ := T.d__law_draws
  refine ⟨_, fd, [], F.ok sc__law_draws (fun vs H Q E h => ?_) (fun cdv A outer s H vs Q E hr h => ⟨_, (PSs.nox (pss_cons (ps_set (i := 1) sc__law_draws.nd rfl (Or.inl rfl) (by exact (pe_lst pa_nil)))
 (pss_cons (ps_for PassesOwn.never rfl (pi_range1 rfl T.b_range (pa_cons (pe_callB (call_min2 rfl) rfl T.b_min (by decide +kernel) (pa_cons pe_int (pa_cons (pe_callB (lenK K) rfl T.b_len (by decide +kernel) (pa_cons (pv 0) pa_nil)) pa_nil))) pa_nil)) (pg_name (i := 2) sc__law_draws.nd rfl (Or.inl rfl))
 (pss_cons (ps_set (i := 3) sc__law_draws.nd rfl (Or.inl rfl) (by exact (pe_callB call_abs rfl T.b_abs (by decide +kernel) (pa_cons (pe_ix (ixl K) (pv 0) (pv 2) (fun _ _ => rfl)) pa_nil))))
 (pss_one (ps_if (pt_cmpR op_ge (pv 3) (pe_op op_pow pe_int pe_int) (nomark _))
 (pss_one (ps_for PassesOwn.never rfl (pi_range1 rfl T.b_range (pa_cons pe_int pa_nil)) (pg_name (i := 4) sc__law_draws.nd rfl (Or.inl rfl))
 (pss_one (ps_if (pt_cmpR op_gt (pv 3) pe_int (nomark _))
 (pss_cons (ps_expr (pe_bm PySem.F.plainAttrs_list PySem.F.slot_list_append PySem.F.type_list_append mt_append (pv 1) (pa_cons (pe_op op_mod (pe_callTy call_int1 rfl T.b_int (by decide +kernel) (pa_cons (pv 3) pa_nil)) pe_int) pa_nil)))
 (pss_one (ps_set (i := 3) sc__law_draws.nd rfl (Or.inl rfl) (by exact (pe_op op_fdiv (pv 3) pe_int)))))
 pss_nil))))
 (pss_cons (ps_set (i := 5) sc__law_draws.nd rfl (Or.inl rfl) (by exact (pe_op op_mod (pe_callTy call_int1 rfl T.b_int (by decide +kernel) (pa_cons (pe_op op_add (pe_op op_mul (pv 3) pe_int) (pe_op op_mul (pe_op op_add (pv 2) pe_int) pe_int)) pa_nil)) pe_int)))
 (pss_cons (ps_set (i := 5) sc__law_draws.nd rfl (Or.inl rfl) (by exact (pe_op op_mod (pe_callTy call_int1 rfl T.b_int (by decide +kernel) (pa_cons (pe_op op_add (pe_op op_add (pe_op op_mul (pv 5) pe_int) (pe_op op_mul pe_int (pv 2))) pe_int) pa_nil)) pe_int)))
 (pss_cons (ps_expr (pe_bm PySem.F.plainAttrs_list PySem.F.slot_list_append PySem.F.type_list_append mt_append (pv 1) (pa_cons (pe_op op_mod (pe_callTy call_int1 rfl T.b_int (by decide +kernel) (pa_cons (pv 5) pa_nil)) pe_int) pa_nil)))
 (pss_one (ps_expr (pe_bm PySem.F.plainAttrs_list PySem.F.slot_list_append PySem.F.type_list_append mt_append (pv 1) (pa_cons (pe_op op_mod (pe_callTy call_int1 rfl T.b_int (by decide +kernel) (pa_cons (pe_op op_fdiv (pv 5) pe_int) pa_nil)) pe_int) pa_nil)))))))))))
 (pss_one (ps_ret (by exact (pv 1))))))), ?_⟩), gm, F.kp, F.bindsN (fun _ _ _ _ _ _ us hl => match us, hl with | [_], _ => rfl), .nil⟩
  · first | (obtain ⟨rfl, _⟩ := h; rfl) | (obtain ⟨_, rfl, _⟩ := h; rfl) | (obtain ⟨_, _, rfl, _⟩ := h; rfl) | (obtain ⟨_, _, _, rfl, _⟩ := h; rfl) | (obtain ⟨_, _, _, _, rfl, _⟩ := h; rfl) | (obtain ⟨_, _, _, _, _, rfl, _⟩ := h; rfl) | (obtain ⟨_, _, _, _, _, _, rfl, _⟩ := h; rfl) | (obtain ⟨_, _, _, _, _, _, _, rfl, _⟩ := h; rfl) | (obtain ⟨_, _, _, _, _, _, _, _, rfl, _⟩ := h; rfl) | (obtain ⟨_, _, _, _, _, _, _, _, _, rfl, _⟩ := h; rfl) | (obtain ⟨_, _, _, _, _, _, _, _, _, _, rfl, _⟩ := h; rfl) | (obtain ⟨_, _, _, _, _, _, _, _, _, _, _, rfl, _⟩ := h; rfl) | (obtain ⟨_, _, _, _, _, _, _, _, _, _, _, _, rfl, _⟩ := h; rfl) | (obtain ⟨_, _, _, _, _, _, _, _, _, _, _, _, _, rfl, _⟩ := h; rfl) | (obtain ⟨_, _, _, _, _, _, _, _, _, _, _, _, _, _, rfl, _⟩ := h; rfl) | (obtain ⟨_, _, _, _, _, _, _, _, _, _, _, _, _, _, _, rfl, _⟩ := h; rfl) | (obtain ⟨_, _, _, _, _, _, _, _, _, _, _, _, _, _, _, _, rfl, _⟩ := h; rfl) | (obtain ⟨_, _, _, _, _, _, _, _, _, _, _, _, _, _, _, _, _, rfl, _⟩ := h; rfl) | (obtain ⟨_, _, _, _, _, _, _, _, _, _, _, _, _, _, _, _, _, _, rfl, _⟩ := h; rfl) | (obtain ⟨_, _, _, _, _, _, _, _, _, _, _, _, _, _, _, _, _, _, _, rfl, _⟩ := h; rfl) | (obtain ⟨_, _, _, _, _, _, _, _, _, _, _, _, _, _, _, _, _, _, _, _, rfl, _⟩ := h; rfl) | (obtain ⟨_, _, _, _, _, _, _, _, _, _, _, _, _, _, _, _, _, _, _, _, _, rfl, _⟩ := h; rfl)
  · obtain ⟨a, ns, rfl, hS, hlen, q⟩ := h
    k_call_by "xs" st__law_draws
    refine ⟨Nat.zero_le _, fun p hp => ⟨_, .inl ((same_upd hp).seq hS), ?_⟩⟩
    have hj : (if (((ns.map V.int).length : Nat) : Int) < 63 then (((ns.map V.int).length : Nat) : Int) else 63) = (ns.length : Int) := by
      rw [List.length_map]
      split <;> omega
    rw [hj]
    refine ⟨by omega, by omega, loop_range (fun i σ H' => ∃ ds y2 y3 y4 y5, σ = [some (.ref a), some (.ref p), y2, y3, y4, y5] ∧ DrI a p H (60 * i) H' ds) ⟨[], none, none, none, none, rfl, same_upd hp, upd_same, by simp, by simp, Nat.zero_le _⟩ ?_ ?_⟩
    · rintro i σ H' hi ⟨ds, y2, y3, y4, y5, rfl, I⟩
      rw [Int.toNat_natCast] at hi
      wtm_at "xs"
      have hi2 : (0 : Int) + (i : Nat) < (ns.length : Nat) := by omega
      refine ⟨_, I.same.seq hS, _, atI_int (by omega) hi2, ?_⟩
      wtm_at "xs"
      refine ⟨⟨by decide, by decide, by decide⟩, sel_d (fun h1 => ?_) (fun h1 => ?_)⟩
      · wtm_at "xs"
        refine ⟨by decide, by decide, loop_range (fun j σ H2 => ∃ ds y3 y4, σ = [some (.ref a), some (.ref p), some (.int (0 + (i : Nat))), some (.int y3), y4, y5] ∧ DrI a p H (60 * i + j) H2 ds) ⟨_, _, _, rfl, I⟩ ?_ ?_⟩
        · rintro j σ H2 hj2 ⟨ds2, z3, z4, rfl, J⟩
          wtm_at "xs"
          refine sel_d (fun h2 => ?_) (fun h2 => ?_)
          · wtm_at "xs"
            have hj3 : j < 60 := hj2
            refine ⟨tyv (SqL.of J.at_), by decide, _, J.at_, line_map J.len (by omega), ⟨by decide, by decide⟩, ?_⟩
            exact ⟨_, J.put hp (Int.emod_nonneg _ (by decide)) (Int.emod_lt_of_pos _ (by decide)) (Nat.le_refl _)⟩
          · wtm_at "xs"
            exact ⟨_, J.mono (Nat.le_succ _)⟩
        · rintro σ H2 ⟨ds2, z3, z4, rfl, J⟩
          wtm_at "xs"
          exact ⟨_, J.mono (by show 60 * i + (60 : Int).toNat ≤ 60 * (i + 1); omega)⟩
      · wtm_at "xs"
        refine ⟨.inr ⟨by decide, by decide⟩, .inr ⟨by decide, by decide⟩, by decide, .inr ⟨by decide, by decide⟩, .inl ⟨by decide, by decide⟩, by decide, tyv (SqL.of I.at_), by decide, _, I.at_, line_map I.len (by omega), ?_⟩
        generalize (_ : Int) % 2147483629 = M
        have J := I.put hp (x := M % 65536) (Int.emod_nonneg _ (by decide)) (Int.emod_lt_of_pos _ (by decide)) (Nat.le_refl _)
        have L := J.put hp (x := M / 65536 % 32768) (Int.emod_nonneg _ (by decide)) (Int.lt_trans (Int.emod_lt_of_pos _ (by decide)) (by decide : (32768 : Int) < 65536)) (m2 := 60 * (i + 1)) (by omega)
        rw [List.map_append] at L
        refine ⟨tyv (SqL.of upd_same), ⟨by decide, by decide⟩, by decide, _, upd_same, ?_, _, L⟩
        have := line_map J.len (by omega)
        rw [List.map_append] at this
        exact this
    · rintro σ H' ⟨ds, y2, y3, y4, y5, rfl, I⟩
      rw [Int.toNat_natCast] at I
      wtm_at "xs"
      exact q ds p H' ⟨I.lo, I.hi, Nat.le_trans I.len (by omega)⟩ I.same hp I.at_


end
end K13

namespace K13
open PySem PySem.Spec PyProof.Rows L2 Bel LamX
local macro_rules | `(tactic| wtm_at "xs") => `(tactic| simp only [x_next, x_seq, x_brk, x_cont, x_drop, x_ret, x_retN, x_if, sel_t, sel_f, selE_t, selE_f, selT_t, selT_f, selC_t, selC_f, x_test, x_tB, x_op, x_un, x_var, x_c, x_cb, x_nil, x_cons, x_rI, x_rI0, x_rU, x_rEq, x_rNe, x_rIxL, x_rIxT, x_rSlL, x_rCat, x_rRep, x_rApp, x_bm, x_bm0, x_sl, x_nopart, x_part, x_tup, x_lst, x_call, x_callS, x_asg, x_gname, x_gtup, x_gnil, x_gcons, x_gsub, x_setL, x_aug, x_ipI, x_ipC, x_bits, x_getL, x_augS, x_and, x_or, x_not, x_k, x_andV, x_orV, x_notV, x_ife, x_chain, x_for, x_ilist, x_itup, x_ienum, x_irng1, x_irng2, x_irev, x_lc, x_yes, wipe_nil, wipe_cons, List.map_cons, List.map_nil, x_misc, x_misc2, x_rz, lookup_at, Bool.not_true, Bool.not_false, decide_true, decide_false, not_true, not_false_eq_true, and_assoc, exists_and_left, exists_eq_left', exists_eq_left, exists_eq', exists_eq_right', exists_eq_right, V.int.injEq, V.ref.injEq, V.bl.injEq, V.str.injEq, List.cons.injEq, and_true, true_and, and_self, Option.some.injEq, List.cons_append, List.nil_append, List.append_nil, List.getElem?_cons_zero, List.getElem?_cons_succ, List.set_cons_zero, List.set_cons_succ, reduceCtorEq, false_and, and_false, exists_false, exists_const, or_false, false_or, scal_ii, scal_bb, scal_ss, List.length_cons, List.length_nil, Int.reduceToNat, Int.reducePow])
local macro_rules | `(tactic| k_call_by "xs" $h:term) => `(tactic| simp only [$h:term, x_next, x_seq, x_brk, x_cont, x_drop, x_ret, x_retN, x_if, sel_t, sel_f, selE_t, selE_f, selT_t, selT_f, selC_t, selC_f, x_test, x_tB, x_op, x_un, x_var, x_c, x_cb, x_nil, x_cons, x_rI, x_rI0, x_rU, x_rEq, x_rNe, x_rIxL, x_rIxT, x_rSlL, x_rCat, x_rRep, x_rApp, x_bm, x_bm0, x_sl, x_nopart, x_part, x_tup, x_lst, x_call, x_callS, x_asg, x_gname, x_gtup, x_gnil, x_gcons, x_gsub, x_setL, x_aug, x_ipI, x_ipC, x_bits, x_getL, x_augS, x_and, x_or, x_not, x_k, x_andV, x_orV, x_notV, x_ife, x_chain, x_for, x_ilist, x_itup, x_ienum, x_irng1, x_irng2, x_irev, x_lc, x_yes, wipe_nil, wipe_cons, List.map_cons, List.map_nil, x_misc, x_misc2, x_rz, lookup_at, Bool.not_true, Bool.not_false, decide_true, decide_false, not_true, not_false_eq_true, and_assoc, exists_and_left, exists_eq_left', exists_eq_left, exists_eq', exists_eq_right', exists_eq_right, V.int.injEq, V.ref.injEq, V.bl.injEq, V.str.injEq, List.cons.injEq, and_true, true_and, and_self, Option.some.injEq, List.cons_append, List.nil_append, List.append_nil, List.getElem?_cons_zero, List.getElem?_cons_succ, List.set_cons_zero, List.set_cons_succ, reduceCtorEq, false_and, and_false, exists_false, exists_const, or_false, false_or, scal_ii, scal_bb, scal_ss, List.length_cons, List.length_nil, Int.reduceToNat, Int.reducePow])
local macro_rules | `(tactic| wtm_at "hp") => `(tactic| first | (with_reducible assumption) | exact upd_same | (refine upd_keep (by with_reducible assumption) ?_; wtm_at "hp") | (refine Same.get (by with_reducible assumption) ?_; wtm_at "hp") | (refine upd_other (by first | (with_reducible assumption) | exact Ne.symm (by with_reducible assumption)) ?_; wtm_at "hp"))
local macro_rules | `(tactic| wtm_at "sq") => `(tactic| first | (with_reducible assumption) | exact SqL.of (by wtm_at "hp") | exact SqT.of (by wtm_at "hp") | (refine Same.seq (same_upd (by with_reducible assumption)) ?_; wtm_at "sq") | (refine Same.seq (by with_reducible assumption) ?_; wtm_at "sq") | (refine Same.seqT (same_upd (by with_reducible assumption)) ?_; wtm_at "sq") | (refine Same.seqT (by with_reducible assumption) ?_; wtm_at "sq"))
local macro_rules | `(tactic| wtm_at "cl") => `(tactic| first | (with_reducible assumption) | omega | (exact cmul_r (by omega) (by omega)) | (exact cmul_l (by omega) (by omega)) | (exact cdiv_ok (by omega) (by omega)) | (exact cpow_ok (by decide)) | (exact ⟨by omega, by omega, by omega⟩) | decide | (exact ⟨by omega, by omega⟩) | (simp only [List.length_append, List.length_map, List.length_set, List.length_cons, List.length_nil, rngL_len, sizeLine_eq]; omega) | wtm_at "hp" | wtm_at "sq")
local macro_rules | `(tactic| wtm_at "pf") => `(tactic| first | (with_reducible assumption) | omega | (simp only [List.length_append, List.length_map, List.length_set, List.length_cons, List.length_nil, rngL_len]; omega) | (with_reducible rfl) | (with_reducible trivial) | (with_reducible decide))
local macro_rules | `(tactic| wtm_at "st") => `(tactic| first | ((with_reducible refine g_at ?_); refine at_call (by wtm_at "sq") (by omega) (by omega) (fun _ _ => ?_)) | ((with_reducible refine g_isi ?_); first | (with_reducible refine isi_ii ?_) | (with_reducible refine isi_ib ?_) | (refine isi_int rfl ?_) | (refine isi_lst rfl (by wtm_at "hp") ?_) | (refine isi_tup rfl (by wtm_at "hp") ?_)) | ((with_reducible refine g_ned ?_); refine ned_f (dq_lst (by wtm_at "sq")) (dq_lst (by wtm_at "sq")) ?_) | ((with_reducible refine g_eqd ?_); refine eqd_t (dq_lst (by wtm_at "sq")) (dq_lst (by wtm_at "sq")) ?_) | ((with_reducible refine g_tyv ?_); refine and_tyv (by wtm_at "sq") ?_) | ((with_reducible refine g_asq ?_); refine and_sq (by wtm_at "sq") ?_) | ((with_reducible refine g_lst ?_); refine ex_lst (by wtm_at "hp") ?_) | ((with_reducible refine g_or ?_); first | (refine ex_or (by wtm_at "sq") ?_) | (refine ex_ort (by wtm_at "sq") ?_)) | ((with_reducible refine g_sq ?_); refine ex_sq (by wtm_at "sq") ?_) | ((with_reducible refine g_sqt ?_); refine ex_sqt (by wtm_at "sq") ?_) | ((with_reducible refine gd_sel ?_); first | (refine sel_p (by wtm_at "pf") ?_) | (refine sel_n (by wtm_at "pf") ?_)) | ((with_reducible refine gn_sel ?_); first | (refine selN_p (by wtm_at "pf") ?_) | (refine selN_n (by wtm_at "pf") ?_)) | ((with_reducible refine gd_selT ?_); first | (refine selT_p (by wtm_at "pf") ?_) | (refine selT_n (by wtm_at "pf") ?_)) | ((with_reducible refine gn_selT ?_); first | (refine selTN_p (by wtm_at "pf") ?_) | (refine selTN_n (by wtm_at "pf") ?_)) | ((with_reducible refine gd_selE ?_); first | (refine selE_p (by wtm_at "pf") ?_) | (refine selE_n (by wtm_at "pf") ?_)) | ((with_reducible refine gn_selE ?_); first | (refine selEN_p (by wtm_at "pf") ?_) | (refine selEN_n (by wtm_at "pf") ?_)) | ((with_reducible refine g_xf ?_); refine xf_at rfl (by wtm_at "hp") ?_) | ((with_reducible refine g_atI ?_); refine ex_at (by first | exact rfl | exact atI_int (by omega) (by wtm_at "pf") | exact atI_end (by wtm_at "pf")) ?_) | ((with_reducible refine g_and ?_); refine And.intro (by wtm_at "cl") ?_) | ((with_reducible refine g_new ?_); intro _ _))
local macro_rules | `(tactic| wtm_at "go") => `(tactic| repeat (first | wtm_at "xs" | wtm_at "st"))
local macro_rules | `(tactic| wtm_at "xo") => `(tactic| simp only [x_next, x_seq, x_brk, x_cont, x_drop, x_ret, x_retN, x_if, sel_t, sel_f, selE_t, selE_f, selT_t, selT_f, selC_t, selC_f, x_test, x_tB, x_op, x_un, x_var, x_c, x_cb, x_nil, x_cons, x_rI, x_rI0, x_rU, x_rEq, x_rNe, x_rIxL, x_rIxT, n_rSlL, n_rCat, n_rRep, n_rApp, x_bm, x_bm0, x_sl, x_nopart, x_part, n_tup, n_lst, x_call, x_callS, x_asg, x_gname, x_gtup, x_gnil, x_gcons, x_gsub, n_setL, x_aug, x_ipI, x_ipC, x_bits, x_getL, x_augS, x_and, x_or, x_not, x_k, x_andV, x_orV, x_notV, x_ife, x_chain, x_for, x_ilist, x_itup, x_ienum, x_irng1, x_irng2, x_irev, x_lc, x_yes, wipe_nil, wipe_cons, List.map_cons, List.map_nil, x_misc, x_misc2, x_rz, lookup_at, Bool.not_true, Bool.not_false, decide_true, decide_false, not_true, not_false_eq_true, and_assoc, exists_and_left, exists_eq_left', exists_eq_left, exists_eq', exists_eq_right', exists_eq_right, V.int.injEq, V.ref.injEq, V.bl.injEq, V.str.injEq, List.cons.injEq, and_true, true_and, and_self, Option.some.injEq, List.cons_append, List.nil_append, List.append_nil, List.getElem?_cons_zero, List.getElem?_cons_succ, List.set_cons_zero, List.set_cons_succ, reduceCtorEq, false_and, and_false, exists_false, exists_const, or_false, false_or, scal_ii, scal_bb, scal_ss, List.length_cons, List.length_nil, Int.reduceToNat, Int.reducePow, n_fld, n_sfld, n_aug, n_meth, n_mw, n_make, n_kw, n_rLs, n_dcp, x_sortK, n_gget, n_rLtT, n_ext, n_revL, n_rTp, t_im, ints_rev, t_s1, t_i1, t_i2, t_i3, t_i4, t_i5, x_chain3, x_irng3, x_irevR, x_rg1, x_rg2, ints_cat, ints_app1, ints_len, ints_take, ints_drop, rep_one])
local macro_rules | `(tactic| k_call_by "xo" $h:term) => `(tactic| simp only [$h:term, x_next, x_seq, x_brk, x_cont, x_drop, x_ret, x_retN, x_if, sel_t, sel_f, selE_t, selE_f, selT_t, selT_f, selC_t, selC_f, x_test, x_tB, x_op, x_un, x_var, x_c, x_cb, x_nil, x_cons, x_rI, x_rI0, x_rU, x_rEq, x_rNe, x_rIxL, x_rIxT, n_rSlL, n_rCat, n_rRep, n_rApp, x_bm, x_bm0, x_sl, x_nopart, x_part, n_tup, n_lst, x_call, x_callS, x_asg, x_gname, x_gtup, x_gnil, x_gcons, x_gsub, n_setL, x_aug, x_ipI, x_ipC, x_bits, x_getL, x_augS, x_and, x_or, x_not, x_k, x_andV, x_orV, x_notV, x_ife, x_chain, x_for, x_ilist, x_itup, x_ienum, x_irng1, x_irng2, x_irev, x_lc, x_yes, wipe_nil, wipe_cons, List.map_cons, List.map_nil, x_misc, x_misc2, x_rz, lookup_at, Bool.not_true, Bool.not_false, decide_true, decide_false, not_true, not_false_eq_true, and_assoc, exists_and_left, exists_eq_left', exists_eq_left, exists_eq', exists_eq_right', exists_eq_right, V.int.injEq, V.ref.injEq, V.bl.injEq, V.str.injEq, List.cons.injEq, and_true, true_and, and_self, Option.some.injEq, List.cons_append, List.nil_append, List.append_nil, List.getElem?_cons_zero, List.getElem?_cons_succ, List.set_cons_zero, List.set_cons_succ, reduceCtorEq, false_and, and_false, exists_false, exists_const, or_false, false_or, scal_ii, scal_bb, scal_ss, List.length_cons, List.length_nil, Int.reduceToNat, Int.reducePow, n_fld, n_sfld, n_aug, n_meth, n_mw, n_make, n_kw, n_rLs, n_dcp, x_sortK, n_gget, n_rLtT, n_ext, n_revL, n_rTp, t_im, ints_rev, t_s1, t_i1, t_i2, t_i3, t_i4, t_i5, x_chain3, x_irng3, x_irevR, x_rg1, x_rg2, ints_cat, ints_app1, ints_len, ints_take, ints_drop, rep_one])
local macro_rules | `(tactic| wtm_at "mem") => `(tactic| first | (with_reducible exact mem_here) | (with_reducible refine mem_there ?_; wtm_at "mem"))
local macro_rules | `(tactic| wtm_at "pp") => `(tactic| first | (with_reducible exact Put.here) | (with_reducible apply Put.there; wtm_at "pp"))
local macro_rules | `(tactic| wtm_at "ho") => `(tactic| first | (with_reducible assumption) | exact Own.get (by with_reducible assumption) (by wtm_at "mem") | exact Own.base (by with_reducible assumption) (by with_reducible assumption))
local macro_rules | `(tactic| wtm_at "qo") => `(tactic| first | (with_reducible assumption) | exact SqL.of (by wtm_at "ho") | exact sqT_tupI (by wtm_at "ho") | exact sqT_tupS (by wtm_at "ho") | exact SqT.of (by wtm_at "ho") | exact Own.imT (by with_reducible assumption) (by wtm_at "mem") | exact Own.sq (by with_reducible assumption) (by with_reducible assumption) | exact Own.sqT (by with_reducible assumption) (by with_reducible assumption))
local macro_rules | `(tactic| wtm_at "sub") => `(tactic| first | exact List.nil_sublist _ | (with_reducible refine List.Sublist.cons_cons _ ?_; wtm_at "sub") | (refine List.Sublist.cons _ ?_; wtm_at "sub"))
local macro_rules | `(tactic| wtm_at "co") => `(tactic| first | (with_reducible assumption) | omega | (exact cmul_r (by omega) (by omega)) | (exact cmul_l (by omega) (by omega)) | (exact cdiv_ok (by omega) (by omega)) | (exact cpow_ok (by decide)) | (exact ⟨by omega, by omega, by omega⟩) | decide | (exact ⟨by omega, by omega⟩) | (simp only [List.length_append, List.length_map, List.length_set, List.length_cons, List.length_nil, rngL_len, sizeLine_eq]; omega) | wtm_at "ho" | wtm_at "qo")
local macro_rules | `(tactic| wtm_at "so") => `(tactic| first | ((with_reducible refine g_dcp ?_); refine dcpI (by wtm_at "ho") ?_) | ((with_reducible refine g_asl ?_); refine And.intro (by rfl) ?_) | ((with_reducible refine g_asqT ?_); refine and_sqT (by wtm_at "qo") ?_) | ((with_reducible refine g_extO ?_); first | (refine extI (by with_reducible assumption) (by wtm_at "pp") (by wtm_at "co") (fun _ _ => ?_)) | (refine extO (by with_reducible assumption) (by wtm_at "pp") (by wtm_at "co") (fun _ _ => ?_))) | ((with_reducible refine g_tp ?_); first | (refine tp_l (by wtm_at "qo") ?_) | (refine tp_t (by wtm_at "qo") ?_)) | ((with_reducible refine g_fldO ?_); refine fldO (by wtm_at "ho") (by with_reducible assumption) (by wtm_at "mem") (by wtm_at "lk") ?_) | ((with_reducible refine g_fldC ?_); refine fldC (by wtm_at "ho") (by with_reducible assumption) (by wtm_at "mem") (by wtm_at "lk") ?_) | ((with_reducible refine g_putC ?_); refine putC (by with_reducible assumption) (by wtm_at "pp") (by wtm_at "pu") (by wtm_at "co") (fun _ _ => ?_)) | ((with_reducible refine g_stoO ?_); refine stoO (by with_reducible assumption) (by wtm_at "pp") (by wtm_at "pu") (by with_reducible assumption) (by wtm_at "mem") (by wtm_at "co") (fun _ _ => ?_)) | ((with_reducible refine g_metO ?_); refine metO (by wtm_at "ho") (by wtm_at "ln") ?_) | ((with_reducible refine g_makO ?_); refine makO (by with_reducible assumption) (fun _ _ _ _ => ?_)) | ((with_reducible refine g_sum ?_); refine sum_call (by wtm_at "qo") ?_) | ((with_reducible refine g_cq ?_); exact cq (by with_reducible assumption) (by simp only [rngL_len, List.length_map, List.length_take]; omega)) | ((with_reducible refine g_newO ?_); refine newO (by with_reducible assumption) (fun _ _ _ => ?_)) | ((with_reducible refine g_appO ?_); refine appI (by with_reducible assumption) (by wtm_at "pp") (by wtm_at "co") (fun _ _ => ?_)) | ((with_reducible refine g_setO ?_); refine setI (by with_reducible assumption) (by wtm_at "pp") (by omega) (by wtm_at "co") (fun _ _ => ?_)) | ((with_reducible refine g_appO ?_); refine appO (by with_reducible assumption) (by wtm_at "pp") (by wtm_at "co") (fun _ _ => ?_)) | ((with_reducible refine g_setO ?_); refine setO (by with_reducible assumption) (by wtm_at "pp") (by omega) (by wtm_at "co") (fun _ _ => ?_)) | ((with_reducible refine g_at ?_); refine at_call (by wtm_at "qo") (by omega) (by omega) (fun _ _ => ?_)) | ((with_reducible refine g_isi ?_); first | (with_reducible refine isi_ii ?_) | (with_reducible refine isi_ib ?_) | (refine isi_int rfl ?_) | (refine isi_sqL rfl (by wtm_at "qo") ?_) | (refine isi_sqT rfl (by wtm_at "qo") ?_) | (refine isi_bl rfl ?_) | (refine isi_non rfl ?_) | (refine isi_str rfl ?_)) | ((with_reducible refine g_ned ?_); first | (refine ned_f (dq_lst (by wtm_at "qo")) (dq_lst (by wtm_at "qo")) ?_) | (refine ned_ints (by wtm_at "qo") (by wtm_at "qo") ?_) | (refine nedT_ints (by wtm_at "qo") (by wtm_at "qo") ?_)) | ((with_reducible refine g_eqd ?_); first | (refine eqd_t (dq_lst (by wtm_at "qo")) (dq_lst (by wtm_at "qo")) ?_) | (refine eqd_ints (by wtm_at "qo") (by wtm_at "qo") ?_) | (refine eqdT_ints (by wtm_at "qo") (by wtm_at "qo") ?_)) | ((with_reducible refine g_tyv ?_); refine and_tyv (by wtm_at "qo") ?_) | ((with_reducible refine g_asq ?_); refine and_sq (by wtm_at "qo") ?_) | ((with_reducible refine g_lst ?_); refine ex_lst (by wtm_at "ho") ?_) | ((with_reducible refine g_or ?_); first | (refine ex_or (by wtm_at "qo") ?_) | (refine ex_ort (by wtm_at "qo") ?_)) | ((with_reducible refine g_sq ?_); refine ex_sq (by wtm_at "qo") ?_) | ((with_reducible refine g_sqt ?_); refine ex_sqt (by wtm_at "qo") ?_) | ((with_reducible refine gd_sel ?_); first | (refine sel_p (by wtm_at "pf") ?_) | (refine sel_n (by wtm_at "pf") ?_)) | ((with_reducible refine gn_sel ?_); first | (refine selN_p (by wtm_at "pf") ?_) | (refine selN_n (by wtm_at "pf") ?_)) | ((with_reducible refine gd_selT ?_); first | (refine selT_p (by wtm_at "pf") ?_) | (refine selT_n (by wtm_at "pf") ?_)) | ((with_reducible refine gn_selT ?_); first | (refine selTN_p (by wtm_at "pf") ?_) | (refine selTN_n (by wtm_at "pf") ?_)) | ((with_reducible refine gd_selE ?_); first | (refine selE_p (by wtm_at "pf") ?_) | (refine selE_n (by wtm_at "pf") ?_)) | ((with_reducible refine gn_selE ?_); first | (refine selEN_p (by wtm_at "pf") ?_) | (refine selEN_n (by wtm_at "pf") ?_)) | ((with_reducible refine g_xf ?_); refine xf_at rfl (by wtm_at "ho") ?_) | ((with_reducible refine g_atI ?_); refine ex_at (by first | exact rfl | exact atI_int (by omega) (by wtm_at "pf") | exact atI_end (by wtm_at "pf")) ?_) | ((with_reducible refine g_and ?_); refine And.intro (by wtm_at "co") ?_))
local macro_rules | `(tactic| wtm_at "oo") => `(tactic| repeat (first | wtm_at "xo" | wtm_at "so"))
local macro_rules | `(tactic| wtm_at "cR") => `(tactic| (refine' compRi _ (by with_reducible assumption) (by omega) (fun _ _ _ _ _ => ?_) (fun _ _ _ => ?_); rotate_left; focus (wtm_at "oo")))

local macro_rules | `(tactic| wtm_at "lk") => `(tactic| first | (with_reducible exact lk_here) | (simp only [lk_here, lk_skip, lk_nil]; first | done | exact rfl))
local macro_rules | `(tactic| wtm_at "ln") => `(tactic| first | (with_reducible exact lk_nil) | (simp only [lk_skip, lk_nil]; done))
local macro_rules | `(tactic| wtm_at "pu") => `(tactic| first | (with_reducible exact pf_nil) | (simp only [pf_nil, pf_here, pf_skip]; first | done | exact rfl))
local macro_rules | `(tactic| wtm_at "tk") => `(tactic| first | (with_reducible exact Take.here) | (exact Take.here) | ((with_reducible apply Take.there); wtm_at "tk"))
local macro_rules | `(tactic| wtm_at "pk") => `(tactic| first | exact Pick.nil | ((with_reducible refine' Pick.cons ?tk1 ?pk1); (case tk1 => wtm_at "tk"); (case pk1 => wtm_at "pk")) | ((with_reducible refine Pick.im (by wtm_at "mem") ?_); wtm_at "pk") | ((with_reducible refine Pick.ims (by wtm_at "mem") ?_); wtm_at "pk"))

local macro_rules | `(tactic| wtm_at "ta") => `(tactic| first | (with_reducible exact TakeA.here) | ((with_reducible apply TakeA.there); wtm_at "ta"))
local macro_rules | `(tactic| wtm_at "tb") => `(tactic| first | (exact TakeA.here) | ((with_reducible apply TakeA.there); wtm_at "tb"))
local macro_rules | `(tactic| wtm_at "pa") => `(tactic| first | exact PickA.nil | ((with_reducible refine PickA.im (by wtm_at "mem") ?_); wtm_at "pa") | ((with_reducible refine PickA.ims (by wtm_at "mem") ?_); wtm_at "pa") | ((with_reducible refine' PickA.any ?tk1 ?pk1); (case tk1 => first | wtm_at "ta" | wtm_at "tb"); (case pk1 => wtm_at "pa")))
section
variable {P : Program} {w : World} {K : PySem.W.Frag} {mg : Str → Option Value} {base : Heap} [TBC K mg base]
def sp__law_is_integer (K : PySem.W.Frag) : Sp := fun vs H Q _ => ∃ (i : Int), vs = [.int i] ∧ Q (.bl true) H
theorem ok__law_is_integer (T : Tx K mg) : Cl P w K mg base 1 "_law_is_integer" ["actual"] (sp__law_is_integer K) [] := by
  obtain ⟨gm, fd, F⟩ := T.d__law_is_integer
  refine ⟨_, fd, [], F.ok sc__law_is_integer (fun vs H Q E h => ?_) (fun cdv A outer s H vs Q E hr h => ⟨_, (PSs.nox (pss_one (ps_ret (by exact (pe_and (pe_callB (isiK K) rfl T.b_isinstance (by decide +kernel) (pa_cons (pv 0) (pa_cons (pe_bltn (v := .ty "int") rfl T.b_int (by decide +kernel) rfl) pa_nil))) (pe_one (pe_not (pe_callB (isiK K) rfl T.b_isinstance (by decide +kernel) (pa_cons (pv 0) (pa_cons (pe_bltn (v := .ty "bool") rfl T.b_bool (by decide +kernel) rfl) pa_nil)))))))))), ?_⟩), gm, F.kp, F.bindsN (fun _ _ _ _ _ _ us hl => match us, hl with | [_], _ => rfl), .nil⟩
  · first | (obtain ⟨rfl, _⟩ := h; rfl) | (obtain ⟨_, rfl, _⟩ := h; rfl) | (obtain ⟨_, _, rfl, _⟩ := h; rfl) | (obtain ⟨_, _, _, rfl, _⟩ := h; rfl) | (obtain ⟨_, _, _, _, rfl, _⟩ := h; rfl) | (obtain ⟨_, _, _, _, _, rfl, _⟩ := h; rfl) | (obtain ⟨_, _, _, _, _, _, rfl, _⟩ := h; rfl) | (obtain ⟨_, _, _, _, _, _, _, rfl, _⟩ := h; rfl) | (obtain ⟨_, _, _, _, _, _, _, _, rfl, _⟩ := h; rfl) | (obtain ⟨_, _, _, _, _, _, _, _, _, rfl, _⟩ := h; rfl) | (obtain ⟨_, _, _, _, _, _, _, _, _, _, rfl, _⟩ := h; rfl) | (obtain ⟨_, _, _, _, _, _, _, _, _, _, _, rfl, _⟩ := h; rfl) | (obtain ⟨_, _, _, _, _, _, _, _, _, _, _, _, rfl, _⟩ := h; rfl) | (obtain ⟨_, _, _, _, _, _, _, _, _, _, _, _, _, rfl, _⟩ := h; rfl) | (obtain ⟨_, _, _, _, _, _, _, _, _, _, _, _, _, _, rfl, _⟩ := h; rfl) | (obtain ⟨_, _, _, _, _, _, _, _, _, _, _, _, _, _, _, rfl, _⟩ := h; rfl) | (obtain ⟨_, _, _, _, _, _, _, _, _, _, _, _, _, _, _, _, rfl, _⟩ := h; rfl) | (obtain ⟨_, _, _, _, _, _, _, _, _, _, _, _, _, _, _, _, _, rfl, _⟩ := h; rfl) | (obtain ⟨_, _, _, _, _, _, _, _, _, _, _, _, _, _, _, _, _, _, rfl, _⟩ := h; rfl) | (obtain ⟨_, _, _, _, _, _, _, _, _, _, _, _, _, _, _, _, _, _, _, rfl, _⟩ := h; rfl) | (obtain ⟨_, _, _, _, _, _, _, _, _, _, _, _, _, _, _, _, _, _, _, _, rfl, _⟩ := h; rfl) | (obtain ⟨_, _, _, _, _, _, _, _, _, _, _, _, _, _, _, _, _, _, _, _, _, rfl, _⟩ := h; rfl)
  · obtain ⟨i, rfl, q⟩ := h
    k_call_by "xs" st__law_is_integer
    refine isi_int rfl ?_
    wtm_at "xs"
    refine isi_int rfl ?_
    wtm_at "xs"
    exact q
theorem g_int {K : PySem.W.Frag} {H : Hp} {vs : List V} {Q : VK} {E : XK} (h : sp__law_is_integer K vs H Q E) : sp__law_is_integer K vs H Q E := h
theorem int_call {K : PySem.W.Frag} {H : Hp} {i : Int} {Q : VK} {E : XK} (q : Q (.bl true) H) : sp__law_is_integer K [.int i] H Q E := ⟨i, rfl, q⟩


end
end K13

namespace K13
open PySem PySem.Spec PyProof.Rows L2 Bel LamX
local macro_rules | `(tactic| wtm_at "xs") => `(tactic| simp only [x_next, x_seq, x_brk, x_cont, x_drop, x_ret, x_retN, x_if, sel_t, sel_f, selE_t, selE_f, selT_t, selT_f, selC_t, selC_f, x_test, x_tB, x_op, x_un, x_var, x_c, x_cb, x_nil, x_cons, x_rI, x_rI0, x_rU, x_rEq, x_rNe, x_rIxL, x_rIxT, x_rSlL, x_rCat, x_rRep, x_rApp, x_bm, x_bm0, x_sl, x_nopart, x_part, x_tup, x_lst, x_call, x_callS, x_asg, x_gname, x_gtup, x_gnil, x_gcons, x_gsub, x_setL, x_aug, x_ipI, x_ipC, x_bits, x_getL, x_augS, x_and, x_or, x_not, x_k, x_andV, x_orV, x_notV, x_ife, x_chain, x_for, x_ilist, x_itup, x_ienum, x_irng1, x_irng2, x_irev, x_lc, x_yes, wipe_nil, wipe_cons, List.map_cons, List.map_nil, x_misc, x_misc2, x_rz, lookup_at, Bool.not_true, Bool.not_false, decide_true, decide_false, not_true, not_false_eq_true, and_assoc, exists_and_left, exists_eq_left', exists_eq_left, exists_eq', exists_eq_right', exists_eq_right, V.int.injEq, V.ref.injEq, V.bl.injEq, V.str.injEq, List.cons.injEq, and_true, true_and, and_self, Option.some.injEq, List.cons_append, List.nil_append, List.append_nil, List.getElem?_cons_zero, List.getElem?_cons_succ, List.set_cons_zero, List.set_cons_succ, reduceCtorEq, false_and, and_false, exists_false, exists_const, or_false, false_or, scal_ii, scal_bb, scal_ss, List.length_cons, List.length_nil, Int.reduceToNat, Int.reducePow])
local macro_rules | `(tactic| k_call_by "xs" $h:term) => `(tactic| simp only [$h:term, x_next, x_seq, x_brk, x_cont, x_drop, x_ret, x_retN, x_if, sel_t, sel_f, selE_t, selE_f, selT_t, selT_f, selC_t, selC_f, x_test, x_tB, x_op, x_un, x_var, x_c, x_cb, x_nil, x_cons, x_rI, x_rI0, x_rU, x_rEq, x_rNe, x_rIxL, x_rIxT, x_rSlL, x_rCat, x_rRep, x_rApp, x_bm, x_bm0, x_sl, x_nopart, x_part, x_tup, x_lst, x_call, x_callS, x_asg, x_gname, x_gtup, x_gnil, x_gcons, x_gsub, x_setL, x_aug, x_ipI, x_ipC, x_bits, x_getL, x_augS, x_and, x_or, x_not, x_k, x_andV, x_orV, x_notV, x_ife, x_chain, x_for, x_ilist, x_itup, x_ienum, x_irng1, x_irng2, x_irev, x_lc, x_yes, wipe_nil, wipe_cons, List.map_cons, List.map_nil, x_misc, x_misc2, x_rz, lookup_at, Bool.not_true, Bool.not_false, decide_true, decide_false, not_true, not_false_eq_true, and_assoc, exists_and_left, exists_eq_left', exists_eq_left, exists_eq', exists_eq_right', exists_eq_right, V.int.injEq, V.ref.injEq, V.bl.injEq, V.str.injEq, List.cons.injEq, and_true, true_and, and_self, Option.some.injEq, List.cons_append, List.nil_append, List.append_nil, List.getElem?_cons_zero, List.getElem?_cons_succ, List.set_cons_zero, List.set_cons_succ, reduceCtorEq, false_and, and_false, exists_false, exists_const, or_false, false_or, scal_ii, scal_bb, scal_ss, List.length_cons, List.length_nil, Int.reduceToNat, Int.reducePow])
local macro_rules | `(tactic| wtm_at "hp") => `(tactic| first | (with_reducible assumption) | exact upd_same | (refine upd_keep (by with_reducible assumption) ?_; wtm_at "hp") | (refine Same.get (by with_reducible assumption) ?_; wtm_at "hp") | (refine upd_other (by first | (with_reducible assumption) | exact Ne.symm (by with_reducible assumption)) ?_; wtm_at "hp"))
local macro_rules | `(tactic| wtm_at "sq") => `(tactic| first | (with_reducible assumption) | exact SqL.of (by wtm_at "hp") | exact SqT.of (by wtm_at "hp") | (refine Same.seq (same_upd (by with_reducible assumption)) ?_; wtm_at "sq") | (refine Same.seq (by with_reducible assumption) ?_; wtm_at "sq") | (refine Same.seqT (same_upd (by with_reducible assumption)) ?_; wtm_at "sq") | (refine Same.seqT (by with_reducible assumption) ?_; wtm_at "sq"))
local macro_rules | `(tactic| wtm_at "cl") => `(tactic| first | (with_reducible assumption) | omega | (exact cmul_r (by omega) (by omega)) | (exact cmul_l (by omega) (by omega)) | (exact cdiv_ok (by omega) (by omega)) | (exact cpow_ok (by decide)) | (exact ⟨by omega, by omega, by omega⟩) | decide | (exact ⟨by omega, by omega⟩) | (simp only [List.length_append, List.length_map, List.length_set, List.length_cons, List.length_nil, rngL_len, sizeLine_eq]; omega) | wtm_at "hp" | wtm_at "sq")
local macro_rules | `(tactic| wtm_at "pf") => `(tactic| first | (with_reducible assumption) | omega | (simp only [List.length_append, List.length_map, List.length_set, List.length_cons, List.length_nil, rngL_len]; omega) | (with_reducible rfl) | (with_reducible trivial) | (with_reducible decide))
local macro_rules | `(tactic| wtm_at "st") => `(tactic| first | ((with_reducible refine g_at ?_); refine at_call (by wtm_at "sq") (by omega) (by omega) (fun _ _ => ?_)) | ((with_reducible refine g_int ?_); refine int_call ?_) | ((with_reducible refine g_isi ?_); first | (with_reducible refine isi_ii ?_) | (with_reducible refine isi_ib ?_) | (refine isi_int rfl ?_) | (refine isi_lst rfl (by wtm_at "hp") ?_) | (refine isi_tup rfl (by wtm_at "hp") ?_)) | ((with_reducible refine g_ned ?_); refine ned_f (dq_lst (by wtm_at "sq")) (dq_lst (by wtm_at "sq")) ?_) | ((with_reducible refine g_eqd ?_); refine eqd_t (dq_lst (by wtm_at "sq")) (dq_lst (by wtm_at "sq")) ?_) | ((with_reducible refine g_tyv ?_); refine and_tyv (by wtm_at "sq") ?_) | ((with_reducible refine g_asq ?_); refine and_sq (by wtm_at "sq") ?_) | ((with_reducible refine g_lst ?_); refine ex_lst (by wtm_at "hp") ?_) | ((with_reducible refine g_or ?_); first | (refine ex_or (by wtm_at "sq") ?_) | (refine ex_ort (by wtm_at "sq") ?_)) | ((with_reducible refine g_sq ?_); refine ex_sq (by wtm_at "sq") ?_) | ((with_reducible refine g_sqt ?_); refine ex_sqt (by wtm_at "sq") ?_) | ((with_reducible refine gd_sel ?_); first | (refine sel_p (by wtm_at "pf") ?_) | (refine sel_n (by wtm_at "pf") ?_)) | ((with_reducible refine gn_sel ?_); first | (refine selN_p (by wtm_at "pf") ?_) | (refine selN_n (by wtm_at "pf") ?_)) | ((with_reducible refine gd_selT ?_); first | (refine selT_p (by wtm_at "pf") ?_) | (refine selT_n (by wtm_at "pf") ?_)) | ((with_reducible refine gn_selT ?_); first | (refine selTN_p (by wtm_at "pf") ?_) | (refine selTN_n (by wtm_at "pf") ?_)) | ((with_reducible refine gd_selE ?_); first | (refine selE_p (by wtm_at "pf") ?_) | (refine selE_n (by wtm_at "pf") ?_)) | ((with_reducible refine gn_selE ?_); first | (refine selEN_p (by wtm_at "pf") ?_) | (refine selEN_n (by wtm_at "pf") ?_)) | ((with_reducible refine g_xf ?_); refine xf_at rfl (by wtm_at "hp") ?_) | ((with_reducible refine g_atI ?_); refine ex_at (by first | exact rfl | exact atI_int (by omega) (by wtm_at "pf") | exact atI_end (by wtm_at "pf")) ?_) | ((with_reducible refine g_and ?_); refine And.intro (by wtm_at "cl") ?_) | ((with_reducible refine g_new ?_); intro _ _))
local macro_rules | `(tactic| wtm_at "go") => `(tactic| repeat (first | wtm_at "xs" | wtm_at "st"))
local macro_rules | `(tactic| wtm_at "xo") => `(tactic| simp only [x_next, x_seq, x_brk, x_cont, x_drop, x_ret, x_retN, x_if, sel_t, sel_f, selE_t, selE_f, selT_t, selT_f, selC_t, selC_f, x_test, x_tB, x_op, x_un, x_var, x_c, x_cb, x_nil, x_cons, x_rI, x_rI0, x_rU, x_rEq, x_rNe, x_rIxL, x_rIxT, n_rSlL, n_rCat, n_rRep, n_rApp, x_bm, x_bm0, x_sl, x_nopart, x_part, n_tup, n_lst, x_call, x_callS, x_asg, x_gname, x_gtup, x_gnil, x_gcons, x_gsub, n_setL, x_aug, x_ipI, x_ipC, x_bits, x_getL, x_augS, x_and, x_or, x_not, x_k, x_andV, x_orV, x_notV, x_ife, x_chain, x_for, x_ilist, x_itup, x_ienum, x_irng1, x_irng2, x_irev, x_lc, x_yes, wipe_nil, wipe_cons, List.map_cons, List.map_nil, x_misc, x_misc2, x_rz, lookup_at, Bool.not_true, Bool.not_false, decide_true, decide_false, not_true, not_false_eq_true, and_assoc, exists_and_left, exists_eq_left', exists_eq_left, exists_eq', exists_eq_right', exists_eq_right, V.int.injEq, V.ref.injEq, V.bl.injEq, V.str.injEq, List.cons.injEq, and_true, true_and, and_self, Option.some.injEq, List.cons_append, List.nil_append, List.append_nil, List.getElem?_cons_zero, List.getElem?_cons_succ, List.set_cons_zero, List.set_cons_succ, reduceCtorEq, false_and, and_false, exists_false, exists_const, or_false, false_or, scal_ii, scal_bb, scal_ss, List.length_cons, List.length_nil, Int.reduceToNat, Int.reducePow, n_fld, n_sfld, n_aug, n_meth, n_mw, n_make, n_kw, n_rLs, n_dcp, x_sortK, n_gget, n_rLtT, n_ext, n_revL, n_rTp, t_im, ints_rev, t_s1, t_i1, t_i2, t_i3, t_i4, t_i5, x_chain3, x_irng3, x_irevR, x_rg1, x_rg2, ints_cat, ints_app1, ints_len, ints_take, ints_drop, rep_one])
local macro_rules | `(tactic| k_call_by "xo" $h:term) => `(tactic| simp only [$h:term, x_next, x_seq, x_brk, x_cont, x_drop, x_ret, x_retN, x_if, sel_t, sel_f, selE_t, selE_f, selT_t, selT_f, selC_t, selC_f, x_test, x_tB, x_op, x_un, x_var, x_c, x_cb, x_nil, x_cons, x_rI, x_rI0, x_rU, x_rEq, x_rNe, x_rIxL, x_rIxT, n_rSlL, n_rCat, n_rRep, n_rApp, x_bm, x_bm0, x_sl, x_nopart, x_part, n_tup, n_lst, x_call, x_callS, x_asg, x_gname, x_gtup, x_gnil, x_gcons, x_gsub, n_setL, x_aug, x_ipI, x_ipC, x_bits, x_getL, x_augS, x_and, x_or, x_not, x_k, x_andV, x_orV, x_notV, x_ife, x_chain, x_for, x_ilist, x_itup, x_ienum, x_irng1, x_irng2, x_irev, x_lc, x_yes, wipe_nil, wipe_cons, List.map_cons, List.map_nil, x_misc, x_misc2, x_rz, lookup_at, Bool.not_true, Bool.not_false, decide_true, decide_false, not_true, not_false_eq_true, and_assoc, exists_and_left, exists_eq_left', exists_eq_left, exists_eq', exists_eq_right', exists_eq_right, V.int.injEq, V.ref.injEq, V.bl.injEq, V.str.injEq, List.cons.injEq, and_true, true_and, and_self, Option.some.injEq, List.cons_append, List.nil_append, List.append_nil, List.getElem?_cons_zero, List.getElem?_cons_succ, List.set_cons_zero, List.set_cons_succ, reduceCtorEq, false_and, and_false, exists_false, exists_const, or_false, false_or, scal_ii, scal_bb, scal_ss, List.length_cons, List.length_nil, Int.reduceToNat, Int.reducePow, n_fld, n_sfld, n_aug, n_meth, n_mw, n_make, n_kw, n_rLs, n_dcp, x_sortK, n_gget, n_rLtT, n_ext, n_revL, n_rTp, t_im, ints_rev, t_s1, t_i1, t_i2, t_i3, t_i4, t_i5, x_chain3, x_irng3, x_irevR, x_rg1, x_rg2, ints_cat, ints_app1, ints_len, ints_take, ints_drop, rep_one])
local macro_rules | `(tactic| wtm_at "mem") => `(tactic| first | (with_reducible exact mem_here) | (with_reducible refine mem_there ?_; wtm_at "mem"))
local macro_rules | `(tactic| wtm_at "pp") => `(tactic| first | (with_reducible exact Put.here) | (with_reducible apply Put.there; wtm_at "pp"))
local macro_rules | `(tactic| wtm_at "ho") => `(tactic| first | (with_reducible assumption) | exact Own.get (by with_reducible assumption) (by wtm_at "mem") | exact Own.base (by with_reducible assumption) (by with_reducible assumption))
local macro_rules | `(tactic| wtm_at "qo") => `(tactic| first | (with_reducible assumption) | exact SqL.of (by wtm_at "ho") | exact sqT_tupI (by wtm_at "ho") | exact sqT_tupS (by wtm_at "ho") | exact SqT.of (by wtm_at "ho") | exact Own.imT (by with_reducible assumption) (by wtm_at "mem") | exact Own.sq (by with_reducible assumption) (by with_reducible assumption) | exact Own.sqT (by with_reducible assumption) (by with_reducible assumption))
local macro_rules | `(tactic| wtm_at "sub") => `(tactic| first | exact List.nil_sublist _ | (with_reducible refine List.Sublist.cons_cons _ ?_; wtm_at "sub") | (refine List.Sublist.cons _ ?_; wtm_at "sub"))
local macro_rules | `(tactic| wtm_at "co") => `(tactic| first | (with_reducible assumption) | omega | (exact cmul_r (by omega) (by omega)) | (exact cmul_l (by omega) (by omega)) | (exact cdiv_ok (by omega) (by omega)) | (exact cpow_ok (by decide)) | (exact ⟨by omega, by omega, by omega⟩) | decide | (exact ⟨by omega, by omega⟩) | (simp only [List.length_append, List.length_map, List.length_set, List.length_cons, List.length_nil, rngL_len, sizeLine_eq]; omega) | wtm_at "ho" | wtm_at "qo")
local macro_rules | `(tactic| wtm_at "so") => `(tactic| first | ((with_reducible refine g_dcp ?_); refine dcpI (by wtm_at "ho") ?_) | ((with_reducible refine g_asl ?_); refine And.intro (by rfl) ?_) | ((with_reducible refine g_asqT ?_); refine and_sqT (by wtm_at "qo") ?_) | ((with_reducible refine g_extO ?_); first | (refine extI (by with_reducible assumption) (by wtm_at "pp") (by wtm_at "co") (fun _ _ => ?_)) | (refine extO (by with_reducible assumption) (by wtm_at "pp") (by wtm_at "co") (fun _ _ => ?_))) | ((with_reducible refine g_tp ?_); first | (refine tp_l (by wtm_at "qo") ?_) | (refine tp_t (by wtm_at "qo") ?_)) | ((with_reducible refine g_fldO ?_); refine fldO (by wtm_at "ho") (by with_reducible assumption) (by wtm_at "mem") (by wtm_at "lk") ?_) | ((with_reducible refine g_fldC ?_); refine fldC (by wtm_at "ho") (by with_reducible assumption) (by wtm_at "mem") (by wtm_at "lk") ?_) | ((with_reducible refine g_putC ?_); refine putC (by with_reducible assumption) (by wtm_at "pp") (by wtm_at "pu") (by wtm_at "co") (fun _ _ => ?_)) | ((with_reducible refine g_stoO ?_); refine stoO (by with_reducible assumption) (by wtm_at "pp") (by wtm_at "pu") (by with_reducible assumption) (by wtm_at "mem") (by wtm_at "co") (fun _ _ => ?_)) | ((with_reducible refine g_metO ?_); refine metO (by wtm_at "ho") (by wtm_at "ln") ?_) | ((with_reducible refine g_makO ?_); refine makO (by with_reducible assumption) (fun _ _ _ _ => ?_)) | ((with_reducible refine g_sum ?_); refine sum_call (by wtm_at "qo") ?_) | ((with_reducible refine g_cq ?_); exact cq (by with_reducible assumption) (by simp only [rngL_len, List.length_map, List.length_take]; omega)) | ((with_reducible refine g_newO ?_); refine newO (by with_reducible assumption) (fun _ _ _ => ?_)) | ((with_reducible refine g_appO ?_); refine appI (by with_reducible assumption) (by wtm_at "pp") (by wtm_at "co") (fun _ _ => ?_)) | ((with_reducible refine g_setO ?_); refine setI (by with_reducible assumption) (by wtm_at "pp") (by omega) (by wtm_at "co") (fun _ _ => ?_)) | ((with_reducible refine g_appO ?_); refine appO (by with_reducible assumption) (by wtm_at "pp") (by wtm_at "co") (fun _ _ => ?_)) | ((with_reducible refine g_setO ?_); refine setO (by with_reducible assumption) (by wtm_at "pp") (by omega) (by wtm_at "co") (fun _ _ => ?_)) | ((with_reducible refine g_at ?_); refine at_call (by wtm_at "qo") (by omega) (by omega) (fun _ _ => ?_)) | ((with_reducible refine g_int ?_); refine int_call ?_) | ((with_reducible refine g_isi ?_); first | (with_reducible refine isi_ii ?_) | (with_reducible refine isi_ib ?_) | (refine isi_int rfl ?_) | (refine isi_sqL rfl (by wtm_at "qo") ?_) | (refine isi_sqT rfl (by wtm_at "qo") ?_) | (refine isi_bl rfl ?_) | (refine isi_non rfl ?_) | (refine isi_str rfl ?_)) | ((with_reducible refine g_ned ?_); first | (refine ned_f (dq_lst (by wtm_at "qo")) (dq_lst (by wtm_at "qo")) ?_) | (refine ned_ints (by wtm_at "qo") (by wtm_at "qo") ?_) | (refine nedT_ints (by wtm_at "qo") (by wtm_at "qo") ?_)) | ((with_reducible refine g_eqd ?_); first | (refine eqd_t (dq_lst (by wtm_at "qo")) (dq_lst (by wtm_at "qo")) ?_) | (refine eqd_ints (by wtm_at "qo") (by wtm_at "qo") ?_) | (refine eqdT_ints (by wtm_at "qo") (by wtm_at "qo") ?_)) | ((with_reducible refine g_tyv ?_); refine and_tyv (by wtm_at "qo") ?_) | ((with_reducible refine g_asq ?_); refine and_sq (by wtm_at "qo") ?_) | ((with_reducible refine g_lst ?_); refine ex_lst (by wtm_at "ho") ?_) | ((with_reducible refine g_or ?_); first | (refine ex_or (by wtm_at "qo") ?_) | (refine ex_ort (by wtm_at "qo") ?_)) | ((with_reducible refine g_sq ?_); refine ex_sq (by wtm_at "qo") ?_) | ((with_reducible refine g_sqt ?_); refine ex_sqt (by wtm_at "qo") ?_) | ((with_reducible refine gd_sel ?_); first | (refine sel_p (by wtm_at "pf") ?_) | (refine sel_n (by wtm_at "pf") ?_)) | ((with_reducible refine gn_sel ?_); first | (refine selN_p (by wtm_at "pf") ?_) | (refine selN_n (by wtm_at "pf") ?_)) | ((with_reducible refine gd_selT ?_); first | (refine selT_p (by wtm_at "pf") ?_) | (refine selT_n (by wtm_at "pf") ?_)) | ((with_reducible refine gn_selT ?_); first | (refine selTN_p (by wtm_at "pf") ?_) | (refine selTN_n (by wtm_at "pf") ?_)) | ((with_reducible refine gd_selE ?_); first | (refine selE_p (by wtm_at "pf") ?_) | (refine selE_n (by wtm_at "pf") ?_)) | ((with_reducible refine gn_selE ?_); first | (refine selEN_p (by wtm_at "pf") ?_) | (refine selEN_n (by wtm_at "pf") ?_)) | ((with_reducible refine g_xf ?_); refine xf_at rfl (by wtm_at "ho") ?_) | ((with_reducible refine g_atI ?_); refine ex_at (by first | exact rfl | exact atI_int (by omega) (by wtm_at "pf") | exact atI_end (by wtm_at "pf")) ?_) | ((with_reducible refine g_and ?_); refine And.intro (by wtm_at "co") ?_))
local macro_rules | `(tactic| wtm_at "oo") => `(tactic| repeat (first | wtm_at "xo" | wtm_at "so"))
local macro_rules | `(tactic| wtm_at "cR") => `(tactic| (refine' compRi _ (by with_reducible assumption) (by omega) (fun _ _ _ _ _ => ?_) (fun _ _ _ => ?_); rotate_left; focus (wtm_at "oo")))

local macro_rules | `(tactic| wtm_at "lk") => `(tactic| first | (with_reducible exact lk_here) | (simp only [lk_here, lk_skip, lk_nil]; first | done | exact rfl))
local macro_rules | `(tactic| wtm_at "ln") => `(tactic| first | (with_reducible exact lk_nil) | (simp only [lk_skip, lk_nil]; done))
local macro_rules | `(tactic| wtm_at "pu") => `(tactic| first | (with_reducible exact pf_nil) | (simp only [pf_nil, pf_here, pf_skip]; first | done | exact rfl))
local macro_rules | `(tactic| wtm_at "tk") => `(tactic| first | (with_reducible exact Take.here) | (exact Take.here) | ((with_reducible apply Take.there); wtm_at "tk"))
local macro_rules | `(tactic| wtm_at "pk") => `(tactic| first | exact Pick.nil | ((with_reducible refine' Pick.cons ?tk1 ?pk1); (case tk1 => wtm_at "tk"); (case pk1 => wtm_at "pk")) | ((with_reducible refine Pick.im (by wtm_at "mem") ?_); wtm_at "pk") | ((with_reducible refine Pick.ims (by wtm_at "mem") ?_); wtm_at "pk"))

local macro_rules | `(tactic| wtm_at "ta") => `(tactic| first | (with_reducible exact TakeA.here) | ((with_reducible apply TakeA.there); wtm_at "ta"))
local macro_rules | `(tactic| wtm_at "tb") => `(tactic| first | (exact TakeA.here) | ((with_reducible apply TakeA.there); wtm_at "tb"))
local macro_rules | `(tactic| wtm_at "pa") => `(tactic| first | exact PickA.nil | ((with_reducible refine PickA.im (by wtm_at "mem") ?_); wtm_at "pa") | ((with_reducible refine PickA.ims (by wtm_at "mem") ?_); wtm_at "pa") | ((with_reducible refine' PickA.any ?tk1 ?pk1); (case tk1 => first | wtm_at "ta" | wtm_at "tb"); (case pk1 => wtm_at "pa")))
section
variable {P : Program} {w : World} {K : PySem.W.Frag} {mg : Str → Option Value} {base : Heap} [TBC K mg base]
def sp__law_is_row (K : PySem.W.Frag) : Sp := fun vs H Q _ => ∃ (a : Addr) (ns : List Int), vs = [.ref a] ∧ H a = some (.lst (ns.map V.int)) ∧ Q (.bl true) H
theorem ok__law_is_row (T : Tx K mg) : Cl P w K mg base 2 "_law_is_row" ["actual"] (sp__law_is_row K) [] := by
  obtain ⟨gm, fd, F⟩ := T.d__law_is_row
  refine ⟨_, fd, [], F.ok sc__law_is_row (fun vs H Q E h => ?_) (fun cdv A outer s H vs Q E hr h => ⟨_, (PSs.nox (pss_cons (ps_if (pt_not (pt_val (pe_callB (isiK K) rfl T.b_isinstance (by decide +kernel) (pa_cons (pv 0) (pa_cons (pe_bltn (v := .ty "list") rfl T.b_list (by decide +kernel) rfl) pa_nil)))))
 (pss_one (ps_ret (by exact pe_bl)))
 pss_nil)
 (pss_cons (ps_for PassesOwn.never rfl (pi_list (pv 0)) (pg_name (i := 1) sc__law_is_row.nd rfl (Or.inl rfl))
 (pss_one (ps_if (pt_not (pt_val (pe_cl (ok__law_is_integer (K := K) (mg := mg) (base := base) T) (hr.mono (by decide)) rfl (pa_cons (pv 1) pa_nil))))
 (pss_one (ps_ret (by exact pe_bl)))
 pss_nil)))
 (pss_one (ps_ret (by exact pe_bl)))))), ?_⟩), gm, F.kp, F.bindsN (fun _ _ _ _ _ _ us hl => match us, hl with | [_], _ => rfl), .nil⟩
  · first | (obtain ⟨rfl, _⟩ := h; rfl) | (obtain ⟨_, rfl, _⟩ := h; rfl) | (obtain ⟨_, _, rfl, _⟩ := h; rfl) | (obtain ⟨_, _, _, rfl, _⟩ := h; rfl) | (obtain ⟨_, _, _, _, rfl, _⟩ := h; rfl) | (obtain ⟨_, _, _, _, _, rfl, _⟩ := h; rfl) | (obtain ⟨_, _, _, _, _, _, rfl, _⟩ := h; rfl) | (obtain ⟨_, _, _, _, _, _, _, rfl, _⟩ := h; rfl) | (obtain ⟨_, _, _, _, _, _, _, _, rfl, _⟩ := h; rfl) | (obtain ⟨_, _, _, _, _, _, _, _, _, rfl, _⟩ := h; rfl) | (obtain ⟨_, _, _, _, _, _, _, _, _, _, rfl, _⟩ := h; rfl) | (obtain ⟨_, _, _, _, _, _, _, _, _, _, _, rfl, _⟩ := h; rfl) | (obtain ⟨_, _, _, _, _, _, _, _, _, _, _, _, rfl, _⟩ := h; rfl) | (obtain ⟨_, _, _, _, _, _, _, _, _, _, _, _, _, rfl, _⟩ := h; rfl) | (obtain ⟨_, _, _, _, _, _, _, _, _, _, _, _, _, _, rfl, _⟩ := h; rfl) | (obtain ⟨_, _, _, _, _, _, _, _, _, _, _, _, _, _, _, rfl, _⟩ := h; rfl) | (obtain ⟨_, _, _, _, _, _, _, _, _, _, _, _, _, _, _, _, rfl, _⟩ := h; rfl) | (obtain ⟨_, _, _, _, _, _, _, _, _, _, _, _, _, _, _, _, _, rfl, _⟩ := h; rfl) | (obtain ⟨_, _, _, _, _, _, _, _, _, _, _, _, _, _, _, _, _, _, rfl, _⟩ := h; rfl) | (obtain ⟨_, _, _, _, _, _, _, _, _, _, _, _, _, _, _, _, _, _, _, rfl, _⟩ := h; rfl) | (obtain ⟨_, _, _, _, _, _, _, _, _, _, _, _, _, _, _, _, _, _, _, _, rfl, _⟩ := h; rfl) | (obtain ⟨_, _, _, _, _, _, _, _, _, _, _, _, _, _, _, _, _, _, _, _, _, rfl, _⟩ := h; rfl)
  · obtain ⟨a, ns, rfl, hl, q⟩ := h
    k_call_by "xs" st__law_is_row
    refine isi_lst rfl hl ?_
    wtm_at "xs"
    refine ⟨⟨_, SqL.of hl⟩, loop_list (xs := ns.map V.int) (fun i σ H' => ∃ y, σ = [some (.ref a), y] ∧ H' = H) ⟨_, rfl, rfl⟩ (fun i σ H' _ ⟨y, _, e⟩ => by rw [e]; exact SqL.of hl) ?_ ?_⟩
    · rintro i x σ H' hx ⟨y, rfl, rfl⟩
      obtain ⟨z, hz, rfl⟩ := int_at hx
      wtm_at "xs"
      refine ⟨z, rfl, ?_⟩
      wtm_at "xs"
    · rintro σ H' ⟨y, rfl, rfl⟩
      wtm_at "xs"
      exact q
theorem g_row {K : PySem.W.Frag} {H : Hp} {vs : List V} {Q : VK} {E : XK} (h : sp__law_is_row K vs H Q E) : sp__law_is_row K vs H Q E := h
theorem row_call {K : PySem.W.Frag} {H : Hp} {a : Addr} {ns : List Int} {Q : VK} {E : XK} (h : H a = some (.lst (ns.map V.int))) (q : Q (.bl true) H) : sp__law_is_row K [.ref a] H Q E := ⟨a, ns, rfl, h, q⟩


end
end K13

namespace K13
open PySem PySem.Spec PyProof.Rows L2 Bel LamX
local macro_rules | `(tactic| wtm_at "xs") => `(tactic| simp only [x_next, x_seq, x_brk, x_cont, x_drop, x_ret, x_retN, x_if, sel_t, sel_f, selE_t, selE_f, selT_t, selT_f, selC_t, selC_f, x_test, x_tB, x_op, x_un, x_var, x_c, x_cb, x_nil, x_cons, x_rI, x_rI0, x_rU, x_rEq, x_rNe, x_rIxL, x_rIxT, x_rSlL, x_rCat, x_rRep, x_rApp, x_bm, x_bm0, x_sl, x_nopart, x_part, x_tup, x_lst, x_call, x_callS, x_asg, x_gname, x_gtup, x_gnil, x_gcons, x_gsub, x_setL, x_aug, x_ipI, x_ipC, x_bits, x_getL, x_augS, x_and, x_or, x_not, x_k, x_andV, x_orV, x_notV, x_ife, x_chain, x_for, x_ilist, x_itup, x_ienum, x_irng1, x_irng2, x_irev, x_lc, x_yes, wipe_nil, wipe_cons, List.map_cons, List.map_nil, x_misc, x_misc2, x_rz, lookup_at, Bool.not_true, Bool.not_false, decide_true, decide_false, not_true, not_false_eq_true, and_assoc, exists_and_left, exists_eq_left', exists_eq_left, exists_eq', exists_eq_right', exists_eq_right, V.int.injEq, V.ref.injEq, V.bl.injEq, V.str.injEq, List.cons.injEq, and_true, true_and, and_self, Option.some.injEq, List.cons_append, List.nil_append, List.append_nil, List.getElem?_cons_zero, List.getElem?_cons_succ, List.set_cons_zero, List.set_cons_succ, reduceCtorEq, false_and, and_false, exists_false, exists_const, or_false, false_or, scal_ii, scal_bb, scal_ss, List.length_cons, List.length_nil, Int.reduceToNat, Int.reducePow])
local macro_rules | `(tactic| k_call_by "xs" $h:term) => `(tactic| simp only [$h:term, x_next, x_seq, x_brk, x_cont, x_drop, x_ret, x_retN, x_if, sel_t, sel_f, selE_t, selE_f, selT_t, selT_f, selC_t, selC_f, x_test, x_tB, x_op, x_un, x_var, x_c, x_cb, x_nil, x_cons, x_rI, x_rI0, x_rU, x_rEq, x_rNe, x_rIxL, x_rIxT, x_rSlL, x_rCat, x_rRep, x_rApp, x_bm, x_bm0, x_sl, x_nopart, x_part, x_tup, x_lst, x_call, x_callS, x_asg, x_gname, x_gtup, x_gnil, x_gcons, x_gsub, x_setL, x_aug, x_ipI, x_ipC, x_bits, x_getL, x_augS, x_and, x_or, x_not, x_k, x_andV, x_orV, x_notV, x_ife, x_chain, x_for, x_ilist, x_itup, x_ienum, x_irng1, x_irng2, x_irev, x_lc, x_yes, wipe_nil, wipe_cons, List.map_cons, List.map_nil, x_misc, x_misc2, x_rz, lookup_at, Bool.not_true, Bool.not_false, decide_true, decide_false, not_true, not_false_eq_true, and_assoc, exists_and_left, exists_eq_left', exists_eq_left, exists_eq', exists_eq_right', exists_eq_right, V.int.injEq, V.ref.injEq, V.bl.injEq, V.str.injEq, List.cons.injEq, and_true, true_and, and_self, Option.some.injEq, List.cons_append, List.nil_append, List.append_nil, List.getElem?_cons_zero, List.getElem?_cons_succ, List.set_cons_zero, List.set_cons_succ, reduceCtorEq, false_and, and_false, exists_false, exists_const, or_false, false_or, scal_ii, scal_bb, scal_ss, List.length_cons, List.length_nil, Int.reduceToNat, Int.reducePow])
local macro_rules | `(tactic| wtm_at "hp") => `(tactic| first | (with_reducible assumption) | exact upd_same | (refine upd_keep (by with_reducible assumption) ?_; wtm_at "hp") | (refine Same.get (by with_reducible assumption) ?_; wtm_at "hp") | (refine upd_other (by first | (with_reducible assumption) | exact Ne.symm (by with_reducible assumption)) ?_; wtm_at "hp"))
local macro_rules | `(tactic| wtm_at "sq") => `(tactic| first | (with_reducible assumption) | exact SqL.of (by wtm_at "hp") | exact SqT.of (by wtm_at "hp") | (refine Same.seq (same_upd (by with_reducible assumption)) ?_; wtm_at "sq") | (refine Same.seq (by with_reducible assumption) ?_; wtm_at "sq") | (refine Same.seqT (same_upd (by with_reducible assumption)) ?_; wtm_at "sq") | (refine Same.seqT (by with_reducible assumption) ?_; wtm_at "sq"))
local macro_rules | `(tactic| wtm_at "cl") => `(tactic| first | (with_reducible assumption) | omega | (exact cmul_r (by omega) (by omega)) | (exact cmul_l (by omega) (by omega)) | (exact cdiv_ok (by omega) (by omega)) | (exact cpow_ok (by decide)) | (exact ⟨by omega, by omega, by omega⟩) | decide | (exact ⟨by omega, by omega⟩) | (simp only [List.length_append, List.length_map, List.length_set, List.length_cons, List.length_nil, rngL_len, sizeLine_eq]; omega) | wtm_at "hp" | wtm_at "sq")
local macro_rules | `(tactic| wtm_at "pf") => `(tactic| first | (with_reducible assumption) | omega | (simp only [List.length_append, List.length_map, List.length_set, List.length_cons, List.length_nil, rngL_len]; omega) | (with_reducible rfl) | (with_reducible trivial) | (with_reducible decide))
local macro_rules | `(tactic| wtm_at "st") => `(tactic| first | ((with_reducible refine g_at ?_); refine at_call (by wtm_at "sq") (by omega) (by omega) (fun _ _ => ?_)) | ((with_reducible refine g_row ?_); refine row_call (by wtm_at "hp") ?_) | ((with_reducible refine g_int ?_); refine int_call ?_) | ((with_reducible refine g_isi ?_); first | (with_reducible refine isi_ii ?_) | (with_reducible refine isi_ib ?_) | (refine isi_int rfl ?_) | (refine isi_lst rfl (by wtm_at "hp") ?_) | (refine isi_tup rfl (by wtm_at "hp") ?_)) | ((with_reducible refine g_ned ?_); refine ned_f (dq_lst (by wtm_at "sq")) (dq_lst (by wtm_at "sq")) ?_) | ((with_reducible refine g_eqd ?_); refine eqd_t (dq_lst (by wtm_at "sq")) (dq_lst (by wtm_at "sq")) ?_) | ((with_reducible refine g_tyv ?_); refine and_tyv (by wtm_at "sq") ?_) | ((with_reducible refine g_asq ?_); refine and_sq (by wtm_at "sq") ?_) | ((with_reducible refine g_lst ?_); refine ex_lst (by wtm_at "hp") ?_) | ((with_reducible refine g_or ?_); first | (refine ex_or (by wtm_at "sq") ?_) | (refine ex_ort (by wtm_at "sq") ?_)) | ((with_reducible refine g_sq ?_); refine ex_sq (by wtm_at "sq") ?_) | ((with_reducible refine g_sqt ?_); refine ex_sqt (by wtm_at "sq") ?_) | ((with_reducible refine gd_sel ?_); first | (refine sel_p (by wtm_at "pf") ?_) | (refine sel_n (by wtm_at "pf") ?_)) | ((with_reducible refine gn_sel ?_); first | (refine selN_p (by wtm_at "pf") ?_) | (refine selN_n (by wtm_at "pf") ?_)) | ((with_reducible refine gd_selT ?_); first | (refine selT_p (by wtm_at "pf") ?_) | (refine selT_n (by wtm_at "pf") ?_)) | ((with_reducible refine gn_selT ?_); first | (refine selTN_p (by wtm_at "pf") ?_) | (refine selTN_n (by wtm_at "pf") ?_)) | ((with_reducible refine gd_selE ?_); first | (refine selE_p (by wtm_at "pf") ?_) | (refine selE_n (by wtm_at "pf") ?_)) | ((with_reducible refine gn_selE ?_); first | (refine selEN_p (by wtm_at "pf") ?_) | (refine selEN_n (by wtm_at "pf") ?_)) | ((with_reducible refine g_xf ?_); refine xf_at rfl (by wtm_at "hp") ?_) | ((with_reducible refine g_atI ?_); refine ex_at (by first | exact rfl | exact atI_int (by omega) (by wtm_at "pf") | exact atI_end (by wtm_at "pf")) ?_) | ((with_reducible refine g_and ?_); refine And.intro (by wtm_at "cl") ?_) | ((with_reducible refine g_new ?_); intro _ _))
local macro_rules | `(tactic| wtm_at "go") => `(tactic| repeat (first | wtm_at "xs" | wtm_at "st"))
local macro_rules | `(tactic| wtm_at "xo") => `(tactic| simp only [x_next, x_seq, x_brk, x_cont, x_drop, x_ret, x_retN, x_if, sel_t, sel_f, selE_t, selE_f, selT_t, selT_f, selC_t, selC_f, x_test, x_tB, x_op, x_un, x_var, x_c, x_cb, x_nil, x_cons, x_rI, x_rI0, x_rU, x_rEq, x_rNe, x_rIxL, x_rIxT, n_rSlL, n_rCat, n_rRep, n_rApp, x_bm, x_bm0, x_sl, x_nopart, x_part, n_tup, n_lst, x_call, x_callS, x_asg, x_gname, x_gtup, x_gnil, x_gcons, x_gsub, n_setL, x_aug, x_ipI, x_ipC, x_bits, x_getL, x_augS, x_and, x_or, x_not, x_k, x_andV, x_orV, x_notV, x_ife, x_chain, x_for, x_ilist, x_itup, x_ienum, x_irng1, x_irng2, x_irev, x_lc, x_yes, wipe_nil, wipe_cons, List.map_cons, List.map_nil, x_misc, x_misc2, x_rz, lookup_at, Bool.not_true, Bool.not_false, decide_true, decide_false, not_true, not_false_eq_true, and_assoc, exists_and_left, exists_eq_left', exists_eq_left, exists_eq', exists_eq_right', exists_eq_right, V.int.injEq, V.ref.injEq, V.bl.injEq, V.str.injEq, List.cons.injEq, and_true, true_and, and_self, Option.some.injEq, List.cons_append, List.nil_append, List.append_nil, List.getElem?_cons_zero, List.getElem?_cons_succ, List.set_cons_zero, List.set_cons_succ, reduceCtorEq, false_and, and_false, exists_false, exists_const, or_false, false_or, scal_ii, scal_bb, scal_ss, List.length_cons, List.length_nil, Int.reduceToNat, Int.reducePow, n_fld, n_sfld, n_aug, n_meth, n_mw, n_make, n_kw, n_rLs, n_dcp, x_sortK, n_gget, n_rLtT, n_ext, n_revL, n_rTp, t_im, ints_rev, t_s1, t_i1, t_i2, t_i3, t_i4, t_i5, x_chain3, x_irng3, x_irevR, x_rg1, x_rg2, ints_cat, ints_app1, ints_len, ints_take, ints_drop, rep_one])
local macro_rules | `(tactic| k_call_by "xo" $h:term) => `(tactic| simp only [$h:term, x_next, x_seq, x_brk, x_cont, x_drop, x_ret, x_retN, x_if, sel_t, sel_f, selE_t, selE_f, selT_t, selT_f, selC_t, selC_f, x_test, x_tB, x_op, x_un, x_var, x_c, x_cb, x_nil, x_cons, x_rI, x_rI0, x_rU, x_rEq, x_rNe, x_rIxL, x_rIxT, n_rSlL, n_rCat, n_rRep, n_rApp, x_bm, x_bm0, x_sl, x_nopart, x_part, n_tup, n_lst, x_call, x_callS, x_asg, x_gname, x_gtup, x_gnil, x_gcons, x_gsub, n_setL, x_aug, x_ipI, x_ipC, x_bits, x_getL, x_augS, x_and, x_or, x_not, x_k, x_andV, x_orV, x_notV, x_ife, x_chain, x_for, x_ilist, x_itup, x_ienum, x_irng1, x_irng2, x_irev, x_lc, x_yes, wipe_nil, wipe_cons, List.map_cons, List.map_nil, x_misc, x_misc2, x_rz, lookup_at, Bool.not_true, Bool.not_false, decide_true, decide_false, not_true, not_false_eq_true, and_assoc, exists_and_left, exists_eq_left', exists_eq_left, exists_eq', exists_eq_right', exists_eq_right, V.int.injEq, V.ref.injEq, V.bl.injEq, V.str.injEq, List.cons.injEq, and_true, true_and, and_self, Option.some.injEq, List.cons_append, List.nil_append, List.append_nil, List.getElem?_cons_zero, List.getElem?_cons_succ, List.set_cons_zero, List.set_cons_succ, reduceCtorEq, false_and, and_false, exists_false, exists_const, or_false, false_or, scal_ii, scal_bb, scal_ss, List.length_cons, List.length_nil, Int.reduceToNat, Int.reducePow, n_fld, n_sfld, n_aug, n_meth, n_mw, n_make, n_kw, n_rLs, n_dcp, x_sortK, n_gget, n_rLtT, n_ext, n_revL, n_rTp, t_im, ints_rev, t_s1, t_i1, t_i2, t_i3, t_i4, t_i5, x_chain3, x_irng3, x_irevR, x_rg1, x_rg2, ints_cat, ints_app1, ints_len, ints_take, ints_drop, rep_one])
local macro_rules | `(tactic| wtm_at "mem") => `(tactic| first | (with_reducible exact mem_here) | (with_reducible refine mem_there ?_; wtm_at "mem"))
local macro_rules | `(tactic| wtm_at "pp") => `(tactic| first | (with_reducible exact Put.here) | (with_reducible apply Put.there; wtm_at "pp"))
local macro_rules | `(tactic| wtm_at "ho") => `(tactic| first | (with_reducible assumption) | exact Own.get (by with_reducible assumption) (by wtm_at "mem") | exact Own.base (by with_reducible assumption) (by with_reducible assumption))
local macro_rules | `(tactic| wtm_at "qo") => `(tactic| first | (with_reducible assumption) | exact SqL.of (by wtm_at "ho") | exact sqT_tupI (by wtm_at "ho") | exact sqT_tupS (by wtm_at "ho") | exact SqT.of (by wtm_at "ho") | exact Own.imT (by with_reducible assumption) (by wtm_at "mem") | exact Own.sq (by with_reducible assumption) (by with_reducible assumption) | exact Own.sqT (by with_reducible assumption) (by with_reducible assumption))
local macro_rules | `(tactic| wtm_at "sub") => `(tactic| first | exact List.nil_sublist _ | (with_reducible refine List.Sublist.cons_cons _ ?_; wtm_at "sub") | (refine List.Sublist.cons _ ?_; wtm_at "sub"))
local macro_rules | `(tactic| wtm_at "co") => `(tactic| first | (with_reducible assumption) | omega | (exact cmul_r (by omega) (by omega)) | (exact cmul_l (by omega) (by omega)) | (exact cdiv_ok (by omega) (by omega)) | (exact cpow_ok (by decide)) | (exact ⟨by omega, by omega, by omega⟩) | decide | (exact ⟨by omega, by omega⟩) | (simp only [List.length_append, List.length_map, List.length_set, List.length_cons, List.length_nil, rngL_len, sizeLine_eq]; omega) | wtm_at "ho" | wtm_at "qo")
local macro_rules | `(tactic| wtm_at "so") => `(tactic| first | ((with_reducible refine g_dcp ?_); refine dcpI (by wtm_at "ho") ?_) | ((with_reducible refine g_asl ?_); refine And.intro (by rfl) ?_) | ((with_reducible refine g_asqT ?_); refine and_sqT (by wtm_at "qo") ?_) | ((with_reducible refine g_extO ?_); first | (refine extI (by with_reducible assumption) (by wtm_at "pp") (by wtm_at "co") (fun _ _ => ?_)) | (refine extO (by with_reducible assumption) (by wtm_at "pp") (by wtm_at "co") (fun _ _ => ?_))) | ((with_reducible refine g_tp ?_); first | (refine tp_l (by wtm_at "qo") ?_) | (refine tp_t (by wtm_at "qo") ?_)) | ((with_reducible refine g_fldO ?_); refine fldO (by wtm_at "ho") (by with_reducible assumption) (by wtm_at "mem") (by wtm_at "lk") ?_) | ((with_reducible refine g_fldC ?_); refine fldC (by wtm_at "ho") (by with_reducible assumption) (by wtm_at "mem") (by wtm_at "lk") ?_) | ((with_reducible refine g_putC ?_); refine putC (by with_reducible assumption) (by wtm_at "pp") (by wtm_at "pu") (by wtm_at "co") (fun _ _ => ?_)) | ((with_reducible refine g_stoO ?_); refine stoO (by with_reducible assumption) (by wtm_at "pp") (by wtm_at "pu") (by with_reducible assumption) (by wtm_at "mem") (by wtm_at "co") (fun _ _ => ?_)) | ((with_reducible refine g_metO ?_); refine metO (by wtm_at "ho") (by wtm_at "ln") ?_) | ((with_reducible refine g_makO ?_); refine makO (by with_reducible assumption) (fun _ _ _ _ => ?_)) | ((with_reducible refine g_sum ?_); refine sum_call (by wtm_at "qo") ?_) | ((with_reducible refine g_cq ?_); exact cq (by with_reducible assumption) (by simp only [rngL_len, List.length_map, List.length_take]; omega)) | ((with_reducible refine g_newO ?_); refine newO (by with_reducible assumption) (fun _ _ _ => ?_)) | ((with_reducible refine g_appO ?_); refine appI (by with_reducible assumption) (by wtm_at "pp") (by wtm_at "co") (fun _ _ => ?_)) | ((with_reducible refine g_setO ?_); refine setI (by with_reducible assumption) (by wtm_at "pp") (by omega) (by wtm_at "co") (fun _ _ => ?_)) | ((with_reducible refine g_appO ?_); refine appO (by with_reducible assumption) (by wtm_at "pp") (by wtm_at "co") (fun _ _ => ?_)) | ((with_reducible refine g_setO ?_); refine setO (by with_reducible assumption) (by wtm_at "pp") (by omega) (by wtm_at "co") (fun _ _ => ?_)) | ((with_reducible refine g_at ?_); refine at_call (by wtm_at "qo") (by omega) (by omega) (fun _ _ => ?_)) | ((with_reducible refine g_row ?_); refine row_call (by wtm_at "ho") ?_) | ((with_reducible refine g_int ?_); refine int_call ?_) | ((with_reducible refine g_isi ?_); first | (with_reducible refine isi_ii ?_) | (with_reducible refine isi_ib ?_) | (refine isi_int rfl ?_) | (refine isi_sqL rfl (by wtm_at "qo") ?_) | (refine isi_sqT rfl (by wtm_at "qo") ?_) | (refine isi_bl rfl ?_) | (refine isi_non rfl ?_) | (refine isi_str rfl ?_)) | ((with_reducible refine g_ned ?_); first | (refine ned_f (dq_lst (by wtm_at "qo")) (dq_lst (by wtm_at "qo")) ?_) | (refine ned_ints (by wtm_at "qo") (by wtm_at "qo") ?_) | (refine nedT_ints (by wtm_at "qo") (by wtm_at "qo") ?_)) | ((with_reducible refine g_eqd ?_); first | (refine eqd_t (dq_lst (by wtm_at "qo")) (dq_lst (by wtm_at "qo")) ?_) | (refine eqd_ints (by wtm_at "qo") (by wtm_at "qo") ?_) | (refine eqdT_ints (by wtm_at "qo") (by wtm_at "qo") ?_)) | ((with_reducible refine g_tyv ?_); refine and_tyv (by wtm_at "qo") ?_) | ((with_reducible refine g_asq ?_); refine and_sq (by wtm_at "qo") ?_) | ((with_reducible refine g_lst ?_); refine ex_lst (by wtm_at "ho") ?_) | ((with_reducible refine g_or ?_); first | (refine ex_or (by wtm_at "qo") ?_) | (refine ex_ort (by wtm_at "qo") ?_)) | ((with_reducible refine g_sq ?_); refine ex_sq (by wtm_at "qo") ?_) | ((with_reducible refine g_sqt ?_); refine ex_sqt (by wtm_at "qo") ?_) | ((with_reducible refine gd_sel ?_); first | (refine sel_p (by wtm_at "pf") ?_) | (refine sel_n (by wtm_at "pf") ?_)) | ((with_reducible refine gn_sel ?_); first | (refine selN_p (by wtm_at "pf") ?_) | (refine selN_n (by wtm_at "pf") ?_)) | ((with_reducible refine gd_selT ?_); first | (refine selT_p (by wtm_at "pf") ?_) | (refine selT_n (by wtm_at "pf") ?_)) | ((with_reducible refine gn_selT ?_); first | (refine selTN_p (by wtm_at "pf") ?_) | (refine selTN_n (by wtm_at "pf") ?_)) | ((with_reducible refine gd_selE ?_); first | (refine selE_p (by wtm_at "pf") ?_) | (refine selE_n (by wtm_at "pf") ?_)) | ((with_reducible refine gn_selE ?_); first | (refine selEN_p (by wtm_at "pf") ?_) | (refine selEN_n (by wtm_at "pf") ?_)) | ((with_reducible refine g_xf ?_); refine xf_at rfl (by wtm_at "ho") ?_) | ((with_reducible refine g_atI ?_); refine ex_at (by first | exact rfl | exact atI_int (by omega) (by wtm_at "pf") | exact atI_end (by wtm_at "pf")) ?_) | ((with_reducible refine g_and ?_); refine And.intro (by wtm_at "co") ?_))
local macro_rules | `(tactic| wtm_at "oo") => `(tactic| repeat (first | wtm_at "xo" | wtm_at "so"))
local macro_rules | `(tactic| wtm_at "cR") => `(tactic| (refine' compRi _ (by with_reducible assumption) (by omega) (fun _ _ _ _ _ => ?_) (fun _ _ _ => ?_); rotate_left; focus (wtm_at "oo")))

local macro_rules | `(tactic| wtm_at "lk") => `(tactic| first | (with_reducible exact lk_here) | (simp only [lk_here, lk_skip, lk_nil]; first | done | exact rfl))
local macro_rules | `(tactic| wtm_at "ln") => `(tactic| first | (with_reducible exact lk_nil) | (simp only [lk_skip, lk_nil]; done))
local macro_rules | `(tactic| wtm_at "pu") => `(tactic| first | (with_reducible exact pf_nil) | (simp only [pf_nil, pf_here, pf_skip]; first | done | exact rfl))
local macro_rules | `(tactic| wtm_at "tk") => `(tactic| first | (with_reducible exact Take.here) | (exact Take.here) | ((with_reducible apply Take.there); wtm_at "tk"))
local macro_rules | `(tactic| wtm_at "pk") => `(tactic| first | exact Pick.nil | ((with_reducible refine' Pick.cons ?tk1 ?pk1); (case tk1 => wtm_at "tk"); (case pk1 => wtm_at "pk")) | ((with_reducible refine Pick.im (by wtm_at "mem") ?_); wtm_at "pk") | ((with_reducible refine Pick.ims (by wtm_at "mem") ?_); wtm_at "pk"))

local macro_rules | `(tactic| wtm_at "ta") => `(tactic| first | (with_reducible exact TakeA.here) | ((with_reducible apply TakeA.there); wtm_at "ta"))
local macro_rules | `(tactic| wtm_at "tb") => `(tactic| first | (exact TakeA.here) | ((with_reducible apply TakeA.there); wtm_at "tb"))
local macro_rules | `(tactic| wtm_at "pa") => `(tactic| first | exact PickA.nil | ((with_reducible refine PickA.im (by wtm_at "mem") ?_); wtm_at "pa") | ((with_reducible refine PickA.ims (by wtm_at "mem") ?_); wtm_at "pa") | ((with_reducible refine' PickA.any ?tk1 ?pk1); (case tk1 => first | wtm_at "ta" | wtm_at "tb"); (case pk1 => wtm_at "pa")))
section
variable {P : Program} {w : World} {K : PySem.W.Frag} {mg : Str → Option Value} {base : Heap} [TBC K mg base]
/-! ### weights of code lengths -/
def wt (l : Int) : Int := if l = 0 then 0 else 32768 / 2 ^ l.toNat
structure okLen (ls : List Int) : Prop where
  lo : ∀ l ∈ ls, 0 ≤ l
  hi : ∀ l ∈ ls, l ≤ 15
  len : ls.length ≤ 400
def wts (ls : List Int) : Int := (ls.map wt).sum
def sp__weight_of (K : PySem.W.Frag) : Sp := fun vs H Q _ => ∃ (l : Int), vs = [.int l] ∧ 0 ≤ l ∧ Q (.int (wt l)) H
theorem ok__weight_of (T : Tx K mg) : Cl P w K mg base 1 "_weight_of" ["length"] (sp__weight_of K) [] := by
  obtain ⟨gm, fd, F⟩ := T.d__weight_of
  refine ⟨_, fd, [], F.ok sc__weight_of (fun vs H Q E h => ?_) (fun cdv A outer s H vs Q E hr h => ⟨_, (PSs.nox (pss_cons (ps_if (pt_cmpR op_eq (pv 0) pe_int (nomark _))
 (pss_one (ps_ret (by exact pe_int)))
 pss_nil)
 (pss_one (ps_ret (by exact (pe_op op_shr (pe_gc rfl T.c_FULL_WEIGHT) (pv 0))))))), ?_⟩), gm, F.kp, F.bindsN (fun _ _ _ _ _ _ us hl => match us, hl with | [_], _ => rfl), .nil⟩
  · first | (obtain ⟨rfl, _⟩ := h; rfl) | (obtain ⟨_, rfl, _⟩ := h; rfl) | (obtain ⟨_, _, rfl, _⟩ := h; rfl) | (obtain ⟨_, _, _, rfl, _⟩ := h; rfl) | (obtain ⟨_, _, _, _, rfl, _⟩ := h; rfl) | (obtain ⟨_, _, _, _, _, rfl, _⟩ := h; rfl) | (obtain ⟨_, _, _, _, _, _, rfl, _⟩ := h; rfl) | (obtain ⟨_, _, _, _, _, _, _, rfl, _⟩ := h; rfl) | (obtain ⟨_, _, _, _, _, _, _, _, rfl, _⟩ := h; rfl) | (obtain ⟨_, _, _, _, _, _, _, _, _, rfl, _⟩ := h; rfl) | (obtain ⟨_, _, _, _, _, _, _, _, _, _, rfl, _⟩ := h; rfl) | (obtain ⟨_, _, _, _, _, _, _, _, _, _, _, rfl, _⟩ := h; rfl) | (obtain ⟨_, _, _, _, _, _, _, _, _, _, _, _, rfl, _⟩ := h; rfl) | (obtain ⟨_, _, _, _, _, _, _, _, _, _, _, _, _, rfl, _⟩ := h; rfl) | (obtain ⟨_, _, _, _, _, _, _, _, _, _, _, _, _, _, rfl, _⟩ := h; rfl) | (obtain ⟨_, _, _, _, _, _, _, _, _, _, _, _, _, _, _, rfl, _⟩ := h; rfl) | (obtain ⟨_, _, _, _, _, _, _, _, _, _, _, _, _, _, _, _, rfl, _⟩ := h; rfl) | (obtain ⟨_, _, _, _, _, _, _, _, _, _, _, _, _, _, _, _, _, rfl, _⟩ := h; rfl) | (obtain ⟨_, _, _, _, _, _, _, _, _, _, _, _, _, _, _, _, _, _, rfl, _⟩ := h; rfl) | (obtain ⟨_, _, _, _, _, _, _, _, _, _, _, _, _, _, _, _, _, _, _, rfl, _⟩ := h; rfl) | (obtain ⟨_, _, _, _, _, _, _, _, _, _, _, _, _, _, _, _, _, _, _, _, rfl, _⟩ := h; rfl) | (obtain ⟨_, _, _, _, _, _, _, _, _, _, _, _, _, _, _, _, _, _, _, _, _, rfl, _⟩ := h; rfl)
  · obtain ⟨l, rfl, h0, q⟩ := h
    k_call_by "xs" st__weight_of
    unfold wt at q
    refine sel_d (fun c => ?_) (fun c => ?_)
    · rw [if_pos c] at q
      wtm_at "go"
      exact q
    · rw [if_neg c] at q
      wtm_at "go"
      exact q


end
end K13

namespace K13
open PySem PySem.Spec PyProof.Rows L2 Bel LamX
local macro_rules | `(tactic| wtm_at "xs") => `(tactic| simp only [x_next, x_seq, x_brk, x_cont, x_drop, x_ret, x_retN, x_if, sel_t, sel_f, selE_t, selE_f, selT_t, selT_f, selC_t, selC_f, x_test, x_tB, x_op, x_un, x_var, x_c, x_cb, x_nil, x_cons, x_rI, x_rI0, x_rU, x_rEq, x_rNe, x_rIxL, x_rIxT, x_rSlL, x_rCat, x_rRep, x_rApp, x_bm, x_bm0, x_sl, x_nopart, x_part, x_tup, x_lst, x_call, x_callS, x_asg, x_gname, x_gtup, x_gnil, x_gcons, x_gsub, x_setL, x_aug, x_ipI, x_ipC, x_bits, x_getL, x_augS, x_and, x_or, x_not, x_k, x_andV, x_orV, x_notV, x_ife, x_chain, x_for, x_ilist, x_itup, x_ienum, x_irng1, x_irng2, x_irev, x_lc, x_yes, wipe_nil, wipe_cons, List.map_cons, List.map_nil, x_misc, x_misc2, x_rz, lookup_at, Bool.not_true, Bool.not_false, decide_true, decide_false, not_true, not_false_eq_true, and_assoc, exists_and_left, exists_eq_left', exists_eq_left, exists_eq', exists_eq_right', exists_eq_right, V.int.injEq, V.ref.injEq, V.bl.injEq, V.str.injEq, List.cons.injEq, and_true, true_and, and_self, Option.some.injEq, List.cons_append, List.nil_append, List.append_nil, List.getElem?_cons_zero, List.getElem?_cons_succ, List.set_cons_zero, List.set_cons_succ, reduceCtorEq, false_and, and_false, exists_false, exists_const, or_false, false_or, scal_ii, scal_bb, scal_ss, List.length_cons, List.length_nil, Int.reduceToNat, Int.reducePow])
local macro_rules | `(tactic| k_call_by "xs" $h:term) => `(tactic| simp only [$h:term, x_next, x_seq, x_brk, x_cont, x_drop, x_ret, x_retN, x_if, sel_t, sel_f, selE_t, selE_f, selT_t, selT_f, selC_t, selC_f, x_test, x_tB, x_op, x_un, x_var, x_c, x_cb, x_nil, x_cons, x_rI, x_rI0, x_rU, x_rEq, x_rNe, x_rIxL, x_rIxT, x_rSlL, x_rCat, x_rRep, x_rApp, x_bm, x_bm0, x_sl, x_nopart, x_part, x_tup, x_lst, x_call, x_callS, x_asg, x_gname, x_gtup, x_gnil, x_gcons, x_gsub, x_setL, x_aug, x_ipI, x_ipC, x_bits, x_getL, x_augS, x_and, x_or, x_not, x_k, x_andV, x_orV, x_notV, x_ife, x_chain, x_for, x_ilist, x_itup, x_ienum, x_irng1, x_irng2, x_irev, x_lc, x_yes, wipe_nil, wipe_cons, List.map_cons, List.map_nil, x_misc, x_misc2, x_rz, lookup_at, Bool.not_true, Bool.not_false, decide_true, decide_false, not_true, not_false_eq_true, and_assoc, exists_and_left, exists_eq_left', exists_eq_left, exists_eq', exists_eq_right', exists_eq_right, V.int.injEq, V.ref.injEq, V.bl.injEq, V.str.injEq, List.cons.injEq, and_true, true_and, and_self, Option.some.injEq, List.cons_append, List.nil_append, List.append_nil, List.getElem?_cons_zero, List.getElem?_cons_succ, List.set_cons_zero, List.set_cons_succ, reduceCtorEq, false_and, and_false, exists_false, exists_const, or_false, false_or, scal_ii, scal_bb, scal_ss, List.length_cons, List.length_nil, Int.reduceToNat, Int.reducePow])
local macro_rules | `(tactic| wtm_at "hp") => `(tactic| first | (with_reducible assumption) | exact upd_same | (refine upd_keep (by with_reducible assumption) ?_; wtm_at "hp") | (refine Same.get (by with_reducible assumption) ?_; wtm_at "hp") | (refine upd_other (by first | (with_reducible assumption) | exact Ne.symm (by with_reducible assumption)) ?_; wtm_at "hp"))
local macro_rules | `(tactic| wtm_at "sq") => `(tactic| first | (with_reducible assumption) | exact SqL.of (by wtm_at "hp") | exact SqT.of (by wtm_at "hp") | (refine Same.seq (same_upd (by with_reducible assumption)) ?_; wtm_at "sq") | (refine Same.seq (by with_reducible assumption) ?_; wtm_at "sq") | (refine Same.seqT (same_upd (by with_reducible assumption)) ?_; wtm_at "sq") | (refine Same.seqT (by with_reducible assumption) ?_; wtm_at "sq"))
local macro_rules | `(tactic| wtm_at "cl") => `(tactic| first | (with_reducible assumption) | omega | (exact cmul_r (by omega) (by omega)) | (exact cmul_l (by omega) (by omega)) | (exact cdiv_ok (by omega) (by omega)) | (exact cpow_ok (by decide)) | (exact ⟨by omega, by omega, by omega⟩) | decide | (exact ⟨by omega, by omega⟩) | (simp only [List.length_append, List.length_map, List.length_set, List.length_cons, List.length_nil, rngL_len, sizeLine_eq]; omega) | wtm_at "hp" | wtm_at "sq")
local macro_rules | `(tactic| wtm_at "pf") => `(tactic| first | (with_reducible assumption) | omega | (simp only [List.length_append, List.length_map, List.length_set, List.length_cons, List.length_nil, rngL_len]; omega) | (with_reducible rfl) | (with_reducible trivial) | (with_reducible decide))
local macro_rules | `(tactic| wtm_at "st") => `(tactic| first | ((with_reducible refine g_at ?_); refine at_call (by wtm_at "sq") (by omega) (by omega) (fun _ _ => ?_)) | ((with_reducible refine g_row ?_); refine row_call (by wtm_at "hp") ?_) | ((with_reducible refine g_int ?_); refine int_call ?_) | ((with_reducible refine g_isi ?_); first | (with_reducible refine isi_ii ?_) | (with_reducible refine isi_ib ?_) | (refine isi_int rfl ?_) | (refine isi_lst rfl (by wtm_at "hp") ?_) | (refine isi_tup rfl (by wtm_at "hp") ?_)) | ((with_reducible refine g_ned ?_); refine ned_f (dq_lst (by wtm_at "sq")) (dq_lst (by wtm_at "sq")) ?_) | ((with_reducible refine g_eqd ?_); refine eqd_t (dq_lst (by wtm_at "sq")) (dq_lst (by wtm_at "sq")) ?_) | ((with_reducible refine g_tyv ?_); refine and_tyv (by wtm_at "sq") ?_) | ((with_reducible refine g_asq ?_); refine and_sq (by wtm_at "sq") ?_) | ((with_reducible refine g_lst ?_); refine ex_lst (by wtm_at "hp") ?_) | ((with_reducible refine g_or ?_); first | (refine ex_or (by wtm_at "sq") ?_) | (refine ex_ort (by wtm_at "sq") ?_)) | ((with_reducible refine g_sq ?_); refine ex_sq (by wtm_at "sq") ?_) | ((with_reducible refine g_sqt ?_); refine ex_sqt (by wtm_at "sq") ?_) | ((with_reducible refine gd_sel ?_); first | (refine sel_p (by wtm_at "pf") ?_) | (refine sel_n (by wtm_at "pf") ?_)) | ((with_reducible refine gn_sel ?_); first | (refine selN_p (by wtm_at "pf") ?_) | (refine selN_n (by wtm_at "pf") ?_)) | ((with_reducible refine gd_selT ?_); first | (refine selT_p (by wtm_at "pf") ?_) | (refine selT_n (by wtm_at "pf") ?_)) | ((with_reducible refine gn_selT ?_); first | (refine selTN_p (by wtm_at "pf") ?_) | (refine selTN_n (by wtm_at "pf") ?_)) | ((with_reducible refine gd_selE ?_); first | (refine selE_p (by wtm_at "pf") ?_) | (refine selE_n (by wtm_at "pf") ?_)) | ((with_reducible refine gn_selE ?_); first | (refine selEN_p (by wtm_at "pf") ?_) | (refine selEN_n (by wtm_at "pf") ?_)) | ((with_reducible refine g_xf ?_); refine xf_at rfl (by wtm_at "hp") ?_) | ((with_reducible refine g_atI ?_); refine ex_at (by first | exact rfl | exact atI_int (by omega) (by wtm_at "pf") | exact atI_end (by wtm_at "pf")) ?_) | ((with_reducible refine g_and ?_); refine And.intro (by wtm_at "cl") ?_) | ((with_reducible refine g_new ?_); intro _ _))
local macro_rules | `(tactic| wtm_at "go") => `(tactic| repeat (first | wtm_at "xs" | wtm_at "st"))
local macro_rules | `(tactic| wtm_at "xo") => `(tactic| simp only [x_next, x_seq, x_brk, x_cont, x_drop, x_ret, x_retN, x_if, sel_t, sel_f, selE_t, selE_f, selT_t, selT_f, selC_t, selC_f, x_test, x_tB, x_op, x_un, x_var, x_c, x_cb, x_nil, x_cons, x_rI, x_rI0, x_rU, x_rEq, x_rNe, x_rIxL, x_rIxT, n_rSlL, n_rCat, n_rRep, n_rApp, x_bm, x_bm0, x_sl, x_nopart, x_part, n_tup, n_lst, x_call, x_callS, x_asg, x_gname, x_gtup, x_gnil, x_gcons, x_gsub, n_setL, x_aug, x_ipI, x_ipC, x_bits, x_getL, x_augS, x_and, x_or, x_not, x_k, x_andV, x_orV, x_notV, x_ife, x_chain, x_for, x_ilist, x_itup, x_ienum, x_irng1, x_irng2, x_irev, x_lc, x_yes, wipe_nil, wipe_cons, List.map_cons, List.map_nil, x_misc, x_misc2, x_rz, lookup_at, Bool.not_true, Bool.not_false, decide_true, decide_false, not_true, not_false_eq_true, and_assoc, exists_and_left, exists_eq_left', exists_eq_left, exists_eq', exists_eq_right', exists_eq_right, V.int.injEq, V.ref.injEq, V.bl.injEq, V.str.injEq, List.cons.injEq, and_true, true_and, and_self, Option.some.injEq, List.cons_append, List.nil_append, List.append_nil, List.getElem?_cons_zero, List.getElem?_cons_succ, List.set_cons_zero, List.set_cons_succ, reduceCtorEq, false_and, and_false, exists_false, exists_const, or_false, false_or, scal_ii, scal_bb, scal_ss, List.length_cons, List.length_nil, Int.reduceToNat, Int.reducePow, n_fld, n_sfld, n_aug, n_meth, n_mw, n_make, n_kw, n_rLs, n_dcp, x_sortK, n_gget, n_rLtT, n_ext, n_revL, n_rTp, t_im, ints_rev, t_s1, t_i1, t_i2, t_i3, t_i4, t_i5, x_chain3, x_irng3, x_irevR, x_rg1, x_rg2, ints_cat, ints_app1, ints_len, ints_take, ints_drop, rep_one])
local macro_rules | `(tactic| k_call_by "xo" $h:term) => `(tactic| simp only [$h:term, x_next, x_seq, x_brk, x_cont, x_drop, x_ret, x_retN, x_if, sel_t, sel_f, selE_t, selE_f, selT_t, selT_f, selC_t, selC_f, x_test, x_tB, x_op, x_un, x_var, x_c, x_cb, x_nil, x_cons, x_rI, x_rI0, x_rU, x_rEq, x_rNe, x_rIxL, x_rIxT, n_rSlL, n_rCat, n_rRep, n_rApp, x_bm, x_bm0, x_sl, x_nopart, x_part, n_tup, n_lst, x_call, x_callS, x_asg, x_gname, x_gtup, x_gnil, x_gcons, x_gsub, n_setL, x_aug, x_ipI, x_ipC, x_bits, x_getL, x_augS, x_and, x_or, x_not, x_k, x_andV, x_orV, x_notV, x_ife, x_chain, x_for, x_ilist, x_itup, x_ienum, x_irng1, x_irng2, x_irev, x_lc, x_yes, wipe_nil, wipe_cons, List.map_cons, List.map_nil, x_misc, x_misc2, x_rz, lookup_at, Bool.not_true, Bool.not_false, decide_true, decide_false, not_true, not_false_eq_true, and_assoc, exists_and_left, exists_eq_left', exists_eq_left, exists_eq', exists_eq_right', exists_eq_right, V.int.injEq, V.ref.injEq, V.bl.injEq, V.str.injEq, List.cons.injEq, and_true, true_and, and_self, Option.some.injEq, List.cons_append, List.nil_append, List.append_nil, List.getElem?_cons_zero, List.getElem?_cons_succ, List.set_cons_zero, List.set_cons_succ, reduceCtorEq, false_and, and_false, exists_false, exists_const, or_false, false_or, scal_ii, scal_bb, scal_ss, List.length_cons, List.length_nil, Int.reduceToNat, Int.reducePow, n_fld, n_sfld, n_aug, n_meth, n_mw, n_make, n_kw, n_rLs, n_dcp, x_sortK, n_gget, n_rLtT, n_ext, n_revL, n_rTp, t_im, ints_rev, t_s1, t_i1, t_i2, t_i3, t_i4, t_i5, x_chain3, x_irng3, x_irevR, x_rg1, x_rg2, ints_cat, ints_app1, ints_len, ints_take, ints_drop, rep_one])
local macro_rules | `(tactic| wtm_at "mem") => `(tactic| first | (with_reducible exact mem_here) | (with_reducible refine mem_there ?_; wtm_at "mem"))
local macro_rules | `(tactic| wtm_at "pp") => `(tactic| first | (with_reducible exact Put.here) | (with_reducible apply Put.there; wtm_at "pp"))
local macro_rules | `(tactic| wtm_at "ho") => `(tactic| first | (with_reducible assumption) | exact Own.get (by with_reducible assumption) (by wtm_at "mem") | exact Own.base (by with_reducible assumption) (by with_reducible assumption))
local macro_rules | `(tactic| wtm_at "qo") => `(tactic| first | (with_reducible assumption) | exact SqL.of (by wtm_at "ho") | exact sqT_tupI (by wtm_at "ho") | exact sqT_tupS (by wtm_at "ho") | exact SqT.of (by wtm_at "ho") | exact Own.imT (by with_reducible assumption) (by wtm_at "mem") | exact Own.sq (by with_reducible assumption) (by with_reducible assumption) | exact Own.sqT (by with_reducible assumption) (by with_reducible assumption))
local macro_rules | `(tactic| wtm_at "sub") => `(tactic| first | exact List.nil_sublist _ | (with_reducible refine List.Sublist.cons_cons _ ?_; wtm_at "sub") | (refine List.Sublist.cons _ ?_; wtm_at "sub"))
local macro_rules | `(tactic| wtm_at "co") => `(tactic| first | (with_reducible assumption) | omega | (exact cmul_r (by omega) (by omega)) | (exact cmul_l (by omega) (by omega)) | (exact cdiv_ok (by omega) (by omega)) | (exact cpow_ok (by decide)) | (exact ⟨by omega, by omega, by omega⟩) | decide | (exact ⟨by omega, by omega⟩) | (simp only [List.length_append, List.length_map, List.length_set, List.length_cons, List.length_nil, rngL_len, sizeLine_eq]; omega) | wtm_at "ho" | wtm_at "qo")
local macro_rules | `(tactic| wtm_at "so") => `(tactic| first | ((with_reducible refine g_dcp ?_); refine dcpI (by wtm_at "ho") ?_) | ((with_reducible refine g_asl ?_); refine And.intro (by rfl) ?_) | ((with_reducible refine g_asqT ?_); refine and_sqT (by wtm_at "qo") ?_) | ((with_reducible refine g_extO ?_); first | (refine extI (by with_reducible assumption) (by wtm_at "pp") (by wtm_at "co") (fun _ _ => ?_)) | (refine extO (by with_reducible assumption) (by wtm_at "pp") (by wtm_at "co") (fun _ _ => ?_))) | ((with_reducible refine g_tp ?_); first | (refine tp_l (by wtm_at "qo") ?_) | (refine tp_t (by wtm_at "qo") ?_)) | ((with_reducible refine g_fldO ?_); refine fldO (by wtm_at "ho") (by with_reducible assumption) (by wtm_at "mem") (by wtm_at "lk") ?_) | ((with_reducible refine g_fldC ?_); refine fldC (by wtm_at "ho") (by with_reducible assumption) (by wtm_at "mem") (by wtm_at "lk") ?_) | ((with_reducible refine g_putC ?_); refine putC (by with_reducible assumption) (by wtm_at "pp") (by wtm_at "pu") (by wtm_at "co") (fun _ _ => ?_)) | ((with_reducible refine g_stoO ?_); refine stoO (by with_reducible assumption) (by wtm_at "pp") (by wtm_at "pu") (by with_reducible assumption) (by wtm_at "mem") (by wtm_at "co") (fun _ _ => ?_)) | ((with_reducible refine g_metO ?_); refine metO (by wtm_at "ho") (by wtm_at "ln") ?_) | ((with_reducible refine g_makO ?_); refine makO (by with_reducible assumption) (fun _ _ _ _ => ?_)) | ((with_reducible refine g_sum ?_); refine sum_call (by wtm_at "qo") ?_) | ((with_reducible refine g_cq ?_); exact cq (by with_reducible assumption) (by simp only [rngL_len, List.length_map, List.length_take]; omega)) | ((with_reducible refine g_newO ?_); refine newO (by with_reducible assumption) (fun _ _ _ => ?_)) | ((with_reducible refine g_appO ?_); refine appI (by with_reducible assumption) (by wtm_at "pp") (by wtm_at "co") (fun _ _ => ?_)) | ((with_reducible refine g_setO ?_); refine setI (by with_reducible assumption) (by wtm_at "pp") (by omega) (by wtm_at "co") (fun _ _ => ?_)) | ((with_reducible refine g_appO ?_); refine appO (by with_reducible assumption) (by wtm_at "pp") (by wtm_at "co") (fun _ _ => ?_)) | ((with_reducible refine g_setO ?_); refine setO (by with_reducible assumption) (by wtm_at "pp") (by omega) (by wtm_at "co") (fun _ _ => ?_)) | ((with_reducible refine g_at ?_); refine at_call (by wtm_at "qo") (by omega) (by omega) (fun _ _ => ?_)) | ((with_reducible refine g_row ?_); refine row_call (by wtm_at "ho") ?_) | ((with_reducible refine g_int ?_); refine int_call ?_) | ((with_reducible refine g_isi ?_); first | (with_reducible refine isi_ii ?_) | (with_reducible refine isi_ib ?_) | (refine isi_int rfl ?_) | (refine isi_sqL rfl (by wtm_at "qo") ?_) | (refine isi_sqT rfl (by wtm_at "qo") ?_) | (refine isi_bl rfl ?_) | (refine isi_non rfl ?_) | (refine isi_str rfl ?_)) | ((with_reducible refine g_ned ?_); first | (refine ned_f (dq_lst (by wtm_at "qo")) (dq_lst (by wtm_at "qo")) ?_) | (refine ned_ints (by wtm_at "qo") (by wtm_at "qo") ?_) | (refine nedT_ints (by wtm_at "qo") (by wtm_at "qo") ?_)) | ((with_reducible refine g_eqd ?_); first | (refine eqd_t (dq_lst (by wtm_at "qo")) (dq_lst (by wtm_at "qo")) ?_) | (refine eqd_ints (by wtm_at "qo") (by wtm_at "qo") ?_) | (refine eqdT_ints (by wtm_at "qo") (by wtm_at "qo") ?_)) | ((with_reducible refine g_tyv ?_); refine and_tyv (by wtm_at "qo") ?_) | ((with_reducible refine g_asq ?_); refine and_sq (by wtm_at "qo") ?_) | ((with_reducible refine g_lst ?_); refine ex_lst (by wtm_at "ho") ?_) | ((with_reducible refine g_or ?_); first | (refine ex_or (by wtm_at "qo") ?_) | (refine ex_ort (by wtm_at "qo") ?_)) | ((with_reducible refine g_sq ?_); refine ex_sq (by wtm_at "qo") ?_) | ((with_reducible refine g_sqt ?_); refine ex_sqt (by wtm_at "qo") ?_) | ((with_reducible refine gd_sel ?_); first | (refine sel_p (by wtm_at "pf") ?_) | (refine sel_n (by wtm_at "pf") ?_)) | ((with_reducible refine gn_sel ?_); first | (refine selN_p (by wtm_at "pf") ?_) | (refine selN_n (by wtm_at "pf") ?_)) | ((with_reducible refine gd_selT ?_); first | (refine selT_p (by wtm_at "pf") ?_) | (refine selT_n (by wtm_at "pf") ?_)) | ((with_reducible refine gn_selT ?_); first | (refine selTN_p (by wtm_at "pf") ?_) | (refine selTN_n (by wtm_at "pf") ?_)) | ((with_reducible refine gd_selE ?_); first | (refine selE_p (by wtm_at "pf") ?_) | (refine selE_n (by wtm_at "pf") ?_)) | ((with_reducible refine gn_selE ?_); first | (refine selEN_p (by wtm_at "pf") ?_) | (refine selEN_n (by wtm_at "pf") ?_)) | ((with_reducible refine g_xf ?_); refine xf_at rfl (by wtm_at "ho") ?_) | ((with_reducible refine g_atI ?_); refine ex_at (by first | exact rfl | exact atI_int (by omega) (by wtm_at "pf") | exact atI_end (by wtm_at "pf")) ?_) | ((with_reducible refine g_and ?_); refine And.intro (by wtm_at "co") ?_))
local macro_rules | `(tactic| wtm_at "oo") => `(tactic| repeat (first | wtm_at "xo" | wtm_at "so"))
local macro_rules | `(tactic| wtm_at "cR") => `(tactic| (refine' compRi _ (by with_reducible assumption) (by omega) (fun _ _ _ _ _ => ?_) (fun _ _ _ => ?_); rotate_left; focus (wtm_at "oo")))

local macro_rules | `(tactic| wtm_at "lk") => `(tactic| first | (with_reducible exact lk_here) | (simp only [lk_here, lk_skip, lk_nil]; first | done | exact rfl))
local macro_rules | `(tactic| wtm_at "ln") => `(tactic| first | (with_reducible exact lk_nil) | (simp only [lk_skip, lk_nil]; done))
local macro_rules | `(tactic| wtm_at "pu") => `(tactic| first | (with_reducible exact pf_nil) | (simp only [pf_nil, pf_here, pf_skip]; first | done | exact rfl))
local macro_rules | `(tactic| wtm_at "tk") => `(tactic| first | (with_reducible exact Take.here) | (exact Take.here) | ((with_reducible apply Take.there); wtm_at "tk"))
local macro_rules | `(tactic| wtm_at "pk") => `(tactic| first | exact Pick.nil | ((with_reducible refine' Pick.cons ?tk1 ?pk1); (case tk1 => wtm_at "tk"); (case pk1 => wtm_at "pk")) | ((with_reducible refine Pick.im (by wtm_at "mem") ?_); wtm_at "pk") | ((with_reducible refine Pick.ims (by wtm_at "mem") ?_); wtm_at "pk"))

local macro_rules | `(tactic| wtm_at "ta") => `(tactic| first | (with_reducible exact TakeA.here) | ((with_reducible apply TakeA.there); wtm_at "ta"))
local macro_rules | `(tactic| wtm_at "tb") => `(tactic| first | (exact TakeA.here) | ((with_reducible apply TakeA.there); wtm_at "tb"))
local macro_rules | `(tactic| wtm_at "pa") => `(tactic| first | exact PickA.nil | ((with_reducible refine PickA.im (by wtm_at "mem") ?_); wtm_at "pa") | ((with_reducible refine PickA.ims (by wtm_at "mem") ?_); wtm_at "pa") | ((with_reducible refine' PickA.any ?tk1 ?pk1); (case tk1 => first | wtm_at "ta" | wtm_at "tb"); (case pk1 => wtm_at "pa")))
section
variable {P : Program} {w : World} {K : PySem.W.Frag} {mg : Str → Option Value} {base : Heap} [TBC K mg base]
def sp_weight (K : PySem.W.Frag) : Sp := fun vs H Q _ => ∃ (a : Addr) (ls : List Int), vs = [.ref a] ∧ SqL K H a (ls.map V.int) ∧ okLen ls ∧ ∀ H', Same H H' → Q (.int (wts ls)) H'
theorem ok_weight (T : Tx K mg) : Cl P w K mg base 2 "weight" ["lengths"] (sp_weight K) [] := by
  obtain ⟨gm, fd, F⟩ := T.d_weight
  refine ⟨_, fd, [], F.ok sc_weight (fun vs H Q E h => ?_) (fun cdv A outer s H vs Q E hr h => ⟨_, (PSs.nox (pss_one (ps_ret (by exact (pe_callB (sumK K rfl) rfl T.b_sum (by decide +kernel) (pa_cons (pe_lc (own := [("length", 1)]) (g := (gName 1)) (tt := tYes) rfl sc_weight.nd (pi_list (pv 0)) (blkOk_by (own := [("length", 1)]) (N := N_weight) (sc := defScope s_weight) (by decide +kernel)) (fun _ _ _ _ _ => pg_name (i := 1) sc_weight.nd rfl (Or.inl rfl)) (fun _ _ _ _ _ => pts_nil) (fun _ _ _ _ _ => (pe_cl (ok__weight_of (K := K) (mg := mg) (base := base) T) (hr.mono (by decide)) rfl (pa_cons (pv 1) pa_nil)))) pa_nil)))))), ?_⟩), gm, F.kp, F.bindsN (fun _ _ _ _ _ _ us hl => match us, hl with | [_], _ => rfl), .nil⟩
  · first | (obtain ⟨rfl, _⟩ := h; rfl) | (obtain ⟨_, rfl, _⟩ := h; rfl) | (obtain ⟨_, _, rfl, _⟩ := h; rfl) | (obtain ⟨_, _, _, rfl, _⟩ := h; rfl) | (obtain ⟨_, _, _, _, rfl, _⟩ := h; rfl) | (obtain ⟨_, _, _, _, _, rfl, _⟩ := h; rfl) | (obtain ⟨_, _, _, _, _, _, rfl, _⟩ := h; rfl) | (obtain ⟨_, _, _, _, _, _, _, rfl, _⟩ := h; rfl) | (obtain ⟨_, _, _, _, _, _, _, _, rfl, _⟩ := h; rfl) | (obtain ⟨_, _, _, _, _, _, _, _, _, rfl, _⟩ := h; rfl) | (obtain ⟨_, _, _, _, _, _, _, _, _, _, rfl, _⟩ := h; rfl) | (obtain ⟨_, _, _, _, _, _, _, _, _, _, _, rfl, _⟩ := h; rfl) | (obtain ⟨_, _, _, _, _, _, _, _, _, _, _, _, rfl, _⟩ := h; rfl) | (obtain ⟨_, _, _, _, _, _, _, _, _, _, _, _, _, rfl, _⟩ := h; rfl) | (obtain ⟨_, _, _, _, _, _, _, _, _, _, _, _, _, _, rfl, _⟩ := h; rfl) | (obtain ⟨_, _, _, _, _, _, _, _, _, _, _, _, _, _, _, rfl, _⟩ := h; rfl) | (obtain ⟨_, _, _, _, _, _, _, _, _, _, _, _, _, _, _, _, rfl, _⟩ := h; rfl) | (obtain ⟨_, _, _, _, _, _, _, _, _, _, _, _, _, _, _, _, _, rfl, _⟩ := h; rfl) | (obtain ⟨_, _, _, _, _, _, _, _, _, _, _, _, _, _, _, _, _, _, rfl, _⟩ := h; rfl) | (obtain ⟨_, _, _, _, _, _, _, _, _, _, _, _, _, _, _, _, _, _, _, rfl, _⟩ := h; rfl) | (obtain ⟨_, _, _, _, _, _, _, _, _, _, _, _, _, _, _, _, _, _, _, _, rfl, _⟩ := h; rfl) | (obtain ⟨_, _, _, _, _, _, _, _, _, _, _, _, _, _, _, _, _, _, _, _, _, rfl, _⟩ := h; rfl)
  · obtain ⟨a, ls, rfl, hS, hk, q⟩ := h
    k_call_by "xs" st_weight
    refine ⟨⟨_, hS⟩, fun D hD => ?_⟩
    refine comp_intY wt hS hD (fun i x hx => ?_) ?_
    · wtm_at "go"
      exact ⟨x, rfl, hk.lo x (List.mem_of_getElem? hx), cpi hx (by have := hk.len; omega) rfl⟩
    wtm_at "go"
    exact ⟨D, _, rfl, SqL.of upd_same, q _ (same_upd hD)⟩
def sp_is_oversubscribed (K : PySem.W.Frag) : Sp := fun vs H Q _ => ∃ (a : Addr) (ls : List Int), vs = [.ref a] ∧ SqL K H a (ls.map V.int) ∧ okLen ls ∧ ∀ H', Same H H' → Q (.bl (decide (wts ls > 32768))) H'
theorem ok_is_oversubscribed (T : Tx K mg) : Cl P w K mg base 3 "is_oversubscribed" ["lengths"] (sp_is_oversubscribed K) [] := by
  obtain ⟨gm, fd, F⟩ := T.d_is_oversubscribed
  refine ⟨_, fd, [], F.ok sc_is_oversubscribed (fun vs H Q E h => ?_) (fun cdv A outer s H vs Q E hr h => ⟨_, (PSs.nox (pss_one (ps_ret (by exact (pe_cmpR op_gt (pe_cl (ok_weight (K := K) (mg := mg) (base := base) T) (hr.mono (by decide)) rfl (pa_cons (pv 0) pa_nil)) (pe_gc rfl T.c_FULL_WEIGHT) (nomark _)))))), ?_⟩), gm, F.kp, F.bindsN (fun _ _ _ _ _ _ us hl => match us, hl with | [_], _ => rfl), .nil⟩
  · first | (obtain ⟨rfl, _⟩ := h; rfl) | (obtain ⟨_, rfl, _⟩ := h; rfl) | (obtain ⟨_, _, rfl, _⟩ := h; rfl) | (obtain ⟨_, _, _, rfl, _⟩ := h; rfl) | (obtain ⟨_, _, _, _, rfl, _⟩ := h; rfl) | (obtain ⟨_, _, _, _, _, rfl, _⟩ := h; rfl) | (obtain ⟨_, _, _, _, _, _, rfl, _⟩ := h; rfl) | (obtain ⟨_, _, _, _, _, _, _, rfl, _⟩ := h; rfl) | (obtain ⟨_, _, _, _, _, _, _, _, rfl, _⟩ := h; rfl) | (obtain ⟨_, _, _, _, _, _, _, _, _, rfl, _⟩ := h; rfl) | (obtain ⟨_, _, _, _, _, _, _, _, _, _, rfl, _⟩ := h; rfl) | (obtain ⟨_, _, _, _, _, _, _, _, _, _, _, rfl, _⟩ := h; rfl) | (obtain ⟨_, _, _, _, _, _, _, _, _, _, _, _, rfl, _⟩ := h; rfl) | (obtain ⟨_, _, _, _, _, _, _, _, _, _, _, _, _, rfl, _⟩ := h; rfl) | (obtain ⟨_, _, _, _, _, _, _, _, _, _, _, _, _, _, rfl, _⟩ := h; rfl) | (obtain ⟨_, _, _, _, _, _, _, _, _, _, _, _, _, _, _, rfl, _⟩ := h; rfl) | (obtain ⟨_, _, _, _, _, _, _, _, _, _, _, _, _, _, _, _, rfl, _⟩ := h; rfl) | (obtain ⟨_, _, _, _, _, _, _, _, _, _, _, _, _, _, _, _, _, rfl, _⟩ := h; rfl) | (obtain ⟨_, _, _, _, _, _, _, _, _, _, _, _, _, _, _, _, _, _, rfl, _⟩ := h; rfl) | (obtain ⟨_, _, _, _, _, _, _, _, _, _, _, _, _, _, _, _, _, _, _, rfl, _⟩ := h; rfl) | (obtain ⟨_, _, _, _, _, _, _, _, _, _, _, _, _, _, _, _, _, _, _, _, rfl, _⟩ := h; rfl) | (obtain ⟨_, _, _, _, _, _, _, _, _, _, _, _, _, _, _, _, _, _, _, _, _, rfl, _⟩ := h; rfl)
  · obtain ⟨a, ls, rfl, hS, hk, q⟩ := h
    k_call_by "xs" st_is_oversubscribed
    refine ⟨a, ls, rfl, hS, hk, fun H' s => ?_⟩
    wtm_at "go"
    exact q _ s


end
end K13

namespace K13
open PySem PySem.Spec PyProof.Rows L2 Bel LamX
local macro_rules | `(tactic| wtm_at "xs") => `(tactic| simp only [x_next, x_seq, x_brk, x_cont, x_drop, x_ret, x_retN, x_if, sel_t, sel_f, selE_t, selE_f, selT_t, selT_f, selC_t, selC_f, x_test, x_tB, x_op, x_un, x_var, x_c, x_cb, x_nil, x_cons, x_rI, x_rI0, x_rU, x_rEq, x_rNe, x_rIxL, x_rIxT, x_rSlL, x_rCat, x_rRep, x_rApp, x_bm, x_bm0, x_sl, x_nopart, x_part, x_tup, x_lst, x_call, x_callS, x_asg, x_gname, x_gtup, x_gnil, x_gcons, x_gsub, x_setL, x_aug, x_ipI, x_ipC, x_bits, x_getL, x_augS, x_and, x_or, x_not, x_k, x_andV, x_orV, x_notV, x_ife, x_chain, x_for, x_ilist, x_itup, x_ienum, x_irng1, x_irng2, x_irev, x_lc, x_yes, wipe_nil, wipe_cons, List.map_cons, List.map_nil, x_misc, x_misc2, x_rz, lookup_at, Bool.not_true, Bool.not_false, decide_true, decide_false, not_true, not_false_eq_true, and_assoc, exists_and_left, exists_eq_left', exists_eq_left, exists_eq', exists_eq_right', exists_eq_right, V.int.injEq, V.ref.injEq, V.bl.injEq, V.str.injEq, List.cons.injEq, and_true, true_and, and_self, Option.some.injEq, List.cons_append, List.nil_append, List.append_nil, List.getElem?_cons_zero, List.getElem?_cons_succ, List.set_cons_zero, List.set_cons_succ, reduceCtorEq, false_and, and_false, exists_false, exists_const, or_false, false_or, scal_ii, scal_bb, scal_ss, List.length_cons, List.length_nil, Int.reduceToNat, Int.reducePow])
local macro_rules | `(tactic| k_call_by "xs" $h:term) => `(tactic| simp only [$h:term, x_next, x_seq, x_brk, x_cont, x_drop, x_ret, x_retN, x_if, sel_t, sel_f, selE_t, selE_f, selT_t, selT_f, selC_t, selC_f, x_test, x_tB, x_op, x_un, x_var, x_c, x_cb, x_nil, x_cons, x_rI, x_rI0, x_rU, x_rEq, x_rNe, x_rIxL, x_rIxT, x_rSlL, x_rCat, x_rRep, x_rApp, x_bm, x_bm0, x_sl, x_nopart, x_part, x_tup, x_lst, x_call, x_callS, x_asg, x_gname, x_gtup, x_gnil, x_gcons, x_gsub, x_setL, x_aug, x_ipI, x_ipC, x_bits, x_getL, x_augS, x_and, x_or, x_not, x_k, x_andV, x_orV, x_notV, x_ife, x_chain, x_for, x_ilist, x_itup, x_ienum, x_irng1, x_irng2, x_irev, x_lc, x_yes, wipe_nil, wipe_cons, List.map_cons, List.map_nil, x_misc, x_misc2, x_rz, lookup_at, Bool.not_true, Bool.not_false, decide_true, decide_false, not_true, not_false_eq_true, and_assoc, exists_and_left, exists_eq_left', exists_eq_left, exists_eq', exists_eq_right', exists_eq_right, V.int.injEq, V.ref.injEq, V.bl.injEq, V.str.injEq, List.cons.injEq, and_true, true_and, and_self, Option.some.injEq, List.cons_append, List.nil_append, List.append_nil, List.getElem?_cons_zero, List.getElem?_cons_succ, List.set_cons_zero, List.set_cons_succ, reduceCtorEq, false_and, and_false, exists_false, exists_const, or_false, false_or, scal_ii, scal_bb, scal_ss, List.length_cons, List.length_nil, Int.reduceToNat, Int.reducePow])
local macro_rules | `(tactic| wtm_at "hp") => `(tactic| first | (with_reducible assumption) | exact upd_same | (refine upd_keep (by with_reducible assumption) ?_; wtm_at "hp") | (refine Same.get (by with_reducible assumption) ?_; wtm_at "hp") | (refine upd_other (by first | (with_reducible assumption) | exact Ne.symm (by with_reducible assumption)) ?_; wtm_at "hp"))
local macro_rules | `(tactic| wtm_at "sq") => `(tactic| first | (with_reducible assumption) | exact SqL.of (by wtm_at "hp") | exact SqT.of (by wtm_at "hp") | (refine Same.seq (same_upd (by with_reducible assumption)) ?_; wtm_at "sq") | (refine Same.seq (by with_reducible assumption) ?_; wtm_at "sq") | (refine Same.seqT (same_upd (by with_reducible assumption)) ?_; wtm_at "sq") | (refine Same.seqT (by with_reducible assumption) ?_; wtm_at "sq"))
local macro_rules | `(tactic| wtm_at "cl") => `(tactic| first | (with_reducible assumption) | omega | (exact cmul_r (by omega) (by omega)) | (exact cmul_l (by omega) (by omega)) | (exact cdiv_ok (by omega) (by omega)) | (exact cpow_ok (by decide)) | (exact ⟨by omega, by omega, by omega⟩) | decide | (exact ⟨by omega, by omega⟩) | (simp only [List.length_append, List.length_map, List.length_set, List.length_cons, List.length_nil, rngL_len, sizeLine_eq]; omega) | wtm_at "hp" | wtm_at "sq")
local macro_rules | `(tactic| wtm_at "pf") => `(tactic| first | (with_reducible assumption) | omega | (simp only [List.length_append, List.length_map, List.length_set, List.length_cons, List.length_nil, rngL_len]; omega) | (with_reducible rfl) | (with_reducible trivial) | (with_reducible decide))
local macro_rules | `(tactic| wtm_at "st") => `(tactic| first | ((with_reducible refine g_at ?_); refine at_call (by wtm_at "sq") (by omega) (by omega) (fun _ _ => ?_)) | ((with_reducible refine g_row ?_); refine row_call (by wtm_at "hp") ?_) | ((with_reducible refine g_int ?_); refine int_call ?_) | ((with_reducible refine g_isi ?_); first | (with_reducible refine isi_ii ?_) | (with_reducible refine isi_ib ?_) | (refine isi_int rfl ?_) | (refine isi_lst rfl (by wtm_at "hp") ?_) | (refine isi_tup rfl (by wtm_at "hp") ?_)) | ((with_reducible refine g_ned ?_); refine ned_f (dq_lst (by wtm_at "sq")) (dq_lst (by wtm_at "sq")) ?_) | ((with_reducible refine g_eqd ?_); refine eqd_t (dq_lst (by wtm_at "sq")) (dq_lst (by wtm_at "sq")) ?_) | ((with_reducible refine g_tyv ?_); refine and_tyv (by wtm_at "sq") ?_) | ((with_reducible refine g_asq ?_); refine and_sq (by wtm_at "sq") ?_) | ((with_reducible refine g_lst ?_); refine ex_lst (by wtm_at "hp") ?_) | ((with_reducible refine g_or ?_); first | (refine ex_or (by wtm_at "sq") ?_) | (refine ex_ort (by wtm_at "sq") ?_)) | ((with_reducible refine g_sq ?_); refine ex_sq (by wtm_at "sq") ?_) | ((with_reducible refine g_sqt ?_); refine ex_sqt (by wtm_at "sq") ?_) | ((with_reducible refine gd_sel ?_); first | (refine sel_p (by wtm_at "pf") ?_) | (refine sel_n (by wtm_at "pf") ?_)) | ((with_reducible refine gn_sel ?_); first | (refine selN_p (by wtm_at "pf") ?_) | (refine selN_n (by wtm_at "pf") ?_)) | ((with_reducible refine gd_selT ?_); first | (refine selT_p (by wtm_at "pf") ?_) | (refine selT_n (by wtm_at "pf") ?_)) | ((with_reducible refine gn_selT ?_); first | (refine selTN_p (by wtm_at "pf") ?_) | (refine selTN_n (by wtm_at "pf") ?_)) | ((with_reducible refine gd_selE ?_); first | (refine selE_p (by wtm_at "pf") ?_) | (refine selE_n (by wtm_at "pf") ?_)) | ((with_reducible refine gn_selE ?_); first | (refine selEN_p (by wtm_at "pf") ?_) | (refine selEN_n (by wtm_at "pf") ?_)) | ((with_reducible refine g_xf ?_); refine xf_at rfl (by wtm_at "hp") ?_) | ((with_reducible refine g_atI ?_); refine ex_at (by first | exact rfl | exact atI_int (by omega) (by wtm_at "pf") | exact atI_end (by wtm_at "pf")) ?_) | ((with_reducible refine g_and ?_); refine And.intro (by wtm_at "cl") ?_) | ((with_reducible refine g_new ?_); intro _ _))
local macro_rules | `(tactic| wtm_at "go") => `(tactic| repeat (first | wtm_at "xs" | wtm_at "st"))
local macro_rules | `(tactic| wtm_at "xo") => `(tactic| simp only [x_next, x_seq, x_brk, x_cont, x_drop, x_ret, x_retN, x_if, sel_t, sel_f, selE_t, selE_f, selT_t, selT_f, selC_t, selC_f, x_test, x_tB, x_op, x_un, x_var, x_c, x_cb, x_nil, x_cons, x_rI, x_rI0, x_rU, x_rEq, x_rNe, x_rIxL, x_rIxT, n_rSlL, n_rCat, n_rRep, n_rApp, x_bm, x_bm0, x_sl, x_nopart, x_part, n_tup, n_lst, x_call, x_callS, x_asg, x_gname, x_gtup, x_gnil, x_gcons, x_gsub, n_setL, x_aug, x_ipI, x_ipC, x_bits, x_getL, x_augS, x_and, x_or, x_not, x_k, x_andV, x_orV, x_notV, x_ife, x_chain, x_for, x_ilist, x_itup, x_ienum, x_irng1, x_irng2, x_irev, x_lc, x_yes, wipe_nil, wipe_cons, List.map_cons, List.map_nil, x_misc, x_misc2, x_rz, lookup_at, Bool.not_true, Bool.not_false, decide_true, decide_false, not_true, not_false_eq_true, and_assoc, exists_and_left, exists_eq_left', exists_eq_left, exists_eq', exists_eq_right', exists_eq_right, V.int.injEq, V.ref.injEq, V.bl.injEq, V.str.injEq, List.cons.injEq, and_true, true_and, and_self, Option.some.injEq, List.cons_append, List.nil_append, List.append_nil, List.getElem?_cons_zero, List.getElem?_cons_succ, List.set_cons_zero, List.set_cons_succ, reduceCtorEq, false_and, and_false, exists_false, exists_const, or_false, false_or, scal_ii, scal_bb, scal_ss, List.length_cons, List.length_nil, Int.reduceToNat, Int.reducePow, n_fld, n_sfld, n_aug, n_meth, n_mw, n_make, n_kw, n_rLs, n_dcp, x_sortK, n_gget, n_rLtT, n_ext, n_revL, n_rTp, t_im, ints_rev, t_s1, t_i1, t_i2, t_i3, t_i4, t_i5, x_chain3, x_irng3, x_irevR, x_rg1, x_rg2, ints_cat, ints_app1, ints_len, ints_take, ints_drop, rep_one])
local macro_rules | `(tactic| k_call_by "xo" $h:term) => `(tactic| simp only [$h:term, x_next, x_seq, x_brk, x_cont, x_drop, x_ret, x_retN, x_if, sel_t, sel_f, selE_t, selE_f, selT_t, selT_f, selC_t, selC_f, x_test, x_tB, x_op, x_un, x_var, x_c, x_cb, x_nil, x_cons, x_rI, x_rI0, x_rU, x_rEq, x_rNe, x_rIxL, x_rIxT, n_rSlL, n_rCat, n_rRep, n_rApp, x_bm, x_bm0, x_sl, x_nopart, x_part, n_tup, n_lst, x_call, x_callS, x_asg, x_gname, x_gtup, x_gnil, x_gcons, x_gsub, n_setL, x_aug, x_ipI, x_ipC, x_bits, x_getL, x_augS, x_and, x_or, x_not, x_k, x_andV, x_orV, x_notV, x_ife, x_chain, x_for, x_ilist, x_itup, x_ienum, x_irng1, x_irng2, x_irev, x_lc, x_yes, wipe_nil, wipe_cons, List.map_cons, List.map_nil, x_misc, x_misc2, x_rz, lookup_at, Bool.not_true, Bool.not_false, decide_true, decide_false, not_true, not_false_eq_true, and_assoc, exists_and_left, exists_eq_left', exists_eq_left, exists_eq', exists_eq_right', exists_eq_right, V.int.injEq, V.ref.injEq, V.bl.injEq, V.str.injEq, List.cons.injEq, and_true, true_and, and_self, Option.some.injEq, List.cons_append, List.nil_append, List.append_nil, List.getElem?_cons_zero, List.getElem?_cons_succ, List.set_cons_zero, List.set_cons_succ, reduceCtorEq, false_and, and_false, exists_false, exists_const, or_false, false_or, scal_ii, scal_bb, scal_ss, List.length_cons, List.length_nil, Int.reduceToNat, Int.reducePow, n_fld, n_sfld, n_aug, n_meth, n_mw, n_make, n_kw, n_rLs, n_dcp, x_sortK, n_gget, n_rLtT, n_ext, n_revL, n_rTp, t_im, ints_rev, t_s1, t_i1, t_i2, t_i3, t_i4, t_i5, x_chain3, x_irng3, x_irevR, x_rg1, x_rg2, ints_cat, ints_app1, ints_len, ints_take, ints_drop, rep_one])
local macro_rules | `(tactic| wtm_at "mem") => `(tactic| first | (with_reducible exact mem_here) | (with_reducible refine mem_there ?_; wtm_at "mem"))
local macro_rules | `(tactic| wtm_at "pp") => `(tactic| first | (with_reducible exact Put.here) | (with_reducible apply Put.there; wtm_at "pp"))
local macro_rules | `(tactic| wtm_at "ho") => `(tactic| first | (with_reducible assumption) | exact Own.get (by with_reducible assumption) (by wtm_at "mem") | exact Own.base (by with_reducible assumption) (by with_reducible assumption))
local macro_rules | `(tactic| wtm_at "qo") => `(tactic| first | (with_reducible assumption) | exact SqL.of (by wtm_at "ho") | exact sqT_tupI (by wtm_at "ho") | exact sqT_tupS (by wtm_at "ho") | exact SqT.of (by wtm_at "ho") | exact Own.imT (by with_reducible assumption) (by wtm_at "mem") | exact Own.sq (by with_reducible assumption) (by with_reducible assumption) | exact Own.sqT (by with_reducible assumption) (by with_reducible assumption))
local macro_rules | `(tactic| wtm_at "sub") => `(tactic| first | exact List.nil_sublist _ | (with_reducible refine List.Sublist.cons_cons _ ?_; wtm_at "sub") | (refine List.Sublist.cons _ ?_; wtm_at "sub"))
local macro_rules | `(tactic| wtm_at "co") => `(tactic| first | (with_reducible assumption) | omega | (exact cmul_r (by omega) (by omega)) | (exact cmul_l (by omega) (by omega)) | (exact cdiv_ok (by omega) (by omega)) | (exact cpow_ok (by decide)) | (exact ⟨by omega, by omega, by omega⟩) | decide | (exact ⟨by omega, by omega⟩) | (simp only [List.length_append, List.length_map, List.length_set, List.length_cons, List.length_nil, rngL_len, sizeLine_eq]; omega) | wtm_at "ho" | wtm_at "qo")
local macro_rules | `(tactic| wtm_at "so") => `(tactic| first | ((with_reducible refine g_dcp ?_); refine dcpI (by wtm_at "ho") ?_) | ((with_reducible refine g_asl ?_); refine And.intro (by rfl) ?_) | ((with_reducible refine g_asqT ?_); refine and_sqT (by wtm_at "qo") ?_) | ((with_reducible refine g_extO ?_); first | (refine extI (by with_reducible assumption) (by wtm_at "pp") (by wtm_at "co") (fun _ _ => ?_)) | (refine extO (by with_reducible assumption) (by wtm_at "pp") (by wtm_at "co") (fun _ _ => ?_))) | ((with_reducible refine g_tp ?_); first | (refine tp_l (by wtm_at "qo") ?_) | (refine tp_t (by wtm_at "qo") ?_)) | ((with_reducible refine g_fldO ?_); refine fldO (by wtm_at "ho") (by with_reducible assumption) (by wtm_at "mem") (by wtm_at "lk") ?_) | ((with_reducible refine g_fldC ?_); refine fldC (by wtm_at "ho") (by with_reducible assumption) (by wtm_at "mem") (by wtm_at "lk") ?_) | ((with_reducible refine g_putC ?_); refine putC (by with_reducible assumption) (by wtm_at "pp") (by wtm_at "pu") (by wtm_at "co") (fun _ _ => ?_)) | ((with_reducible refine g_stoO ?_); refine stoO (by with_reducible assumption) (by wtm_at "pp") (by wtm_at "pu") (by with_reducible assumption) (by wtm_at "mem") (by wtm_at "co") (fun _ _ => ?_)) | ((with_reducible refine g_metO ?_); refine metO (by wtm_at "ho") (by wtm_at "ln") ?_) | ((with_reducible refine g_makO ?_); refine makO (by with_reducible assumption) (fun _ _ _ _ => ?_)) | ((with_reducible refine g_sum ?_); refine sum_call (by wtm_at "qo") ?_) | ((with_reducible refine g_cq ?_); exact cq (by with_reducible assumption) (by simp only [rngL_len, List.length_map, List.length_take]; omega)) | ((with_reducible refine g_newO ?_); refine newO (by with_reducible assumption) (fun _ _ _ => ?_)) | ((with_reducible refine g_appO ?_); refine appI (by with_reducible assumption) (by wtm_at "pp") (by wtm_at "co") (fun _ _ => ?_)) | ((with_reducible refine g_setO ?_); refine setI (by with_reducible assumption) (by wtm_at "pp") (by omega) (by wtm_at "co") (fun _ _ => ?_)) | ((with_reducible refine g_appO ?_); refine appO (by with_reducible assumption) (by wtm_at "pp") (by wtm_at "co") (fun _ _ => ?_)) | ((with_reducible refine g_setO ?_); refine setO (by with_reducible assumption) (by wtm_at "pp") (by omega) (by wtm_at "co") (fun _ _ => ?_)) | ((with_reducible refine g_at ?_); refine at_call (by wtm_at "qo") (by omega) (by omega) (fun _ _ => ?_)) | ((with_reducible refine g_row ?_); refine row_call (by wtm_at "ho") ?_) | ((with_reducible refine g_int ?_); refine int_call ?_) | ((with_reducible refine g_isi ?_); first | (with_reducible refine isi_ii ?_) | (with_reducible refine isi_ib ?_) | (refine isi_int rfl ?_) | (refine isi_sqL rfl (by wtm_at "qo") ?_) | (refine isi_sqT rfl (by wtm_at "qo") ?_) | (refine isi_bl rfl ?_) | (refine isi_non rfl ?_) | (refine isi_str rfl ?_)) | ((with_reducible refine g_ned ?_); first | (refine ned_f (dq_lst (by wtm_at "qo")) (dq_lst (by wtm_at "qo")) ?_) | (refine ned_ints (by wtm_at "qo") (by wtm_at "qo") ?_) | (refine nedT_ints (by wtm_at "qo") (by wtm_at "qo") ?_)) | ((with_reducible refine g_eqd ?_); first | (refine eqd_t (dq_lst (by wtm_at "qo")) (dq_lst (by wtm_at "qo")) ?_) | (refine eqd_ints (by wtm_at "qo") (by wtm_at "qo") ?_) | (refine eqdT_ints (by wtm_at "qo") (by wtm_at "qo") ?_)) | ((with_reducible refine g_tyv ?_); refine and_tyv (by wtm_at "qo") ?_) | ((with_reducible refine g_asq ?_); refine and_sq (by wtm_at "qo") ?_) | ((with_reducible refine g_lst ?_); refine ex_lst (by wtm_at "ho") ?_) | ((with_reducible refine g_or ?_); first | (refine ex_or (by wtm_at "qo") ?_) | (refine ex_ort (by wtm_at "qo") ?_)) | ((with_reducible refine g_sq ?_); refine ex_sq (by wtm_at "qo") ?_) | ((with_reducible refine g_sqt ?_); refine ex_sqt (by wtm_at "qo") ?_) | ((with_reducible refine gd_sel ?_); first | (refine sel_p (by wtm_at "pf") ?_) | (refine sel_n (by wtm_at "pf") ?_)) | ((with_reducible refine gn_sel ?_); first | (refine selN_p (by wtm_at "pf") ?_) | (refine selN_n (by wtm_at "pf") ?_)) | ((with_reducible refine gd_selT ?_); first | (refine selT_p (by wtm_at "pf") ?_) | (refine selT_n (by wtm_at "pf") ?_)) | ((with_reducible refine gn_selT ?_); first | (refine selTN_p (by wtm_at "pf") ?_) | (refine selTN_n (by wtm_at "pf") ?_)) | ((with_reducible refine gd_selE ?_); first | (refine selE_p (by wtm_at "pf") ?_) | (refine selE_n (by wtm_at "pf") ?_)) | ((with_reducible refine gn_selE ?_); first | (refine selEN_p (by wtm_at "pf") ?_) | (refine selEN_n (by wtm_at "pf") ?_)) | ((with_reducible refine g_xf ?_); refine xf_at rfl (by wtm_at "ho") ?_) | ((with_reducible refine g_atI ?_); refine ex_at (by first | exact rfl | exact atI_int (by omega) (by wtm_at "pf") | exact atI_end (by wtm_at "pf")) ?_) | ((with_reducible refine g_and ?_); refine And.intro (by wtm_at "co") ?_))
local macro_rules | `(tactic| wtm_at "oo") => `(tactic| repeat (first | wtm_at "xo" | wtm_at "so"))
local macro_rules | `(tactic| wtm_at "cR") => `(tactic| (refine' compRi _ (by with_reducible assumption) (by omega) (fun _ _ _ _ _ => ?_) (fun _ _ _ => ?_); rotate_left; focus (wtm_at "oo")))

local macro_rules | `(tactic| wtm_at "lk") => `(tactic| first | (with_reducible exact lk_here) | (simp only [lk_here, lk_skip, lk_nil]; first | done | exact rfl))
local macro_rules | `(tactic| wtm_at "ln") => `(tactic| first | (with_reducible exact lk_nil) | (simp only [lk_skip, lk_nil]; done))
local macro_rules | `(tactic| wtm_at "pu") => `(tactic| first | (with_reducible exact pf_nil) | (simp only [pf_nil, pf_here, pf_skip]; first | done | exact rfl))
local macro_rules | `(tactic| wtm_at "tk") => `(tactic| first | (with_reducible exact Take.here) | (exact Take.here) | ((with_reducible apply Take.there); wtm_at "tk"))
local macro_rules | `(tactic| wtm_at "pk") => `(tactic| first | exact Pick.nil | ((with_reducible refine' Pick.cons ?tk1 ?pk1); (case tk1 => wtm_at "tk"); (case pk1 => wtm_at "pk")) | ((with_reducible refine Pick.im (by wtm_at "mem") ?_); wtm_at "pk") | ((with_reducible refine Pick.ims (by wtm_at "mem") ?_); wtm_at "pk"))

local macro_rules | `(tactic| wtm_at "ta") => `(tactic| first | (with_reducible exact TakeA.here) | ((with_reducible apply TakeA.there); wtm_at "ta"))
local macro_rules | `(tactic| wtm_at "tb") => `(tactic| first | (exact TakeA.here) | ((with_reducible apply TakeA.there); wtm_at "tb"))
local macro_rules | `(tactic| wtm_at "pa") => `(tactic| first | exact PickA.nil | ((with_reducible refine PickA.im (by wtm_at "mem") ?_); wtm_at "pa") | ((with_reducible refine PickA.ims (by wtm_at "mem") ?_); wtm_at "pa") | ((with_reducible refine' PickA.any ?tk1 ?pk1); (case tk1 => first | wtm_at "ta" | wtm_at "tb"); (case pk1 => wtm_at "pa")))
section
variable {P : Program} {w : World} {K : PySem.W.Frag} {mg : Str → Option Value} {base : Heap} [TBC K mg base]
def bump (xs : List Int) (i : Int) : List Int := xs.set i.toNat (xs.getD i.toNat 0 + 1)
theorem bump_len {xs : List Int} {i : Int} : (bump xs i).length = xs.length := List.length_set ..
theorem bump_put {xs : List Int} {i : Int} : ((xs.map V.int).set i.toNat (V.int (xs.getD i.toNat 0 + 1))) = (bump xs i).map V.int := set_ints


end
end K13

namespace K13
open PySem PySem.Spec PyProof.Rows L2 Bel LamX
local macro_rules | `(tactic| wtm_at "xs") => `(tactic| simp only [x_next, x_seq, x_brk, x_cont, x_drop, x_ret, x_retN, x_if, sel_t, sel_f, selE_t, selE_f, selT_t, selT_f, selC_t, selC_f, x_test, x_tB, x_op, x_un, x_var, x_c, x_cb, x_nil, x_cons, x_rI, x_rI0, x_rU, x_rEq, x_rNe, x_rIxL, x_rIxT, x_rSlL, x_rCat, x_rRep, x_rApp, x_bm, x_bm0, x_sl, x_nopart, x_part, x_tup, x_lst, x_call, x_callS, x_asg, x_gname, x_gtup, x_gnil, x_gcons, x_gsub, x_setL, x_aug, x_ipI, x_ipC, x_bits, x_getL, x_augS, x_and, x_or, x_not, x_k, x_andV, x_orV, x_notV, x_ife, x_chain, x_for, x_ilist, x_itup, x_ienum, x_irng1, x_irng2, x_irev, x_lc, x_yes, wipe_nil, wipe_cons, List.map_cons, List.map_nil, x_misc, x_misc2, x_rz, lookup_at, Bool.not_true, Bool.not_false, decide_true, decide_false, not_true, not_false_eq_true, and_assoc, exists_and_left, exists_eq_left', exists_eq_left, exists_eq', exists_eq_right', exists_eq_right, V.int.injEq, V.ref.injEq, V.bl.injEq, V.str.injEq, List.cons.injEq, and_true, true_and, and_self, Option.some.injEq, List.cons_append, List.nil_append, List.append_nil, List.getElem?_cons_zero, List.getElem?_cons_succ, List.set_cons_zero, List.set_cons_succ, reduceCtorEq, false_and, and_false, exists_false, exists_const, or_false, false_or, scal_ii, scal_bb, scal_ss, List.length_cons, List.length_nil, Int.reduceToNat, Int.reducePow])
local macro_rules | `(tactic| k_call_by "xs" $h:term) => `(tactic| simp only [$h:term, x_next, x_seq, x_brk, x_cont, x_drop, x_ret, x_retN, x_if, sel_t, sel_f, selE_t, selE_f, selT_t, selT_f, selC_t, selC_f, x_test, x_tB, x_op, x_un, x_var, x_c, x_cb, x_nil, x_cons, x_rI, x_rI0, x_rU, x_rEq, x_rNe, x_rIxL, x_rIxT, x_rSlL, x_rCat, x_rRep, x_rApp, x_bm, x_bm0, x_sl, x_nopart, x_part, x_tup, x_lst, x_call, x_callS, x_asg, x_gname, x_gtup, x_gnil, x_gcons, x_gsub, x_setL, x_aug, x_ipI, x_ipC, x_bits, x_getL, x_augS, x_and, x_or, x_not, x_k, x_andV, x_orV, x_notV, x_ife, x_chain, x_for, x_ilist, x_itup, x_ienum, x_irng1, x_irng2, x_irev, x_lc, x_yes, wipe_nil, wipe_cons, List.map_cons, List.map_nil, x_misc, x_misc2, x_rz, lookup_at, Bool.not_true, Bool.not_false, decide_true, decide_false, not_true, not_false_eq_true, and_assoc, exists_and_left, exists_eq_left', exists_eq_left, exists_eq', exists_eq_right', exists_eq_right, V.int.injEq, V.ref.injEq, V.bl.injEq, V.str.injEq, List.cons.injEq, and_true, true_and, and_self, Option.some.injEq, List.cons_append, List.nil_append, List.append_nil, List.getElem?_cons_zero, List.getElem?_cons_succ, List.set_cons_zero, List.set_cons_succ, reduceCtorEq, false_and, and_false, exists_false, exists_const, or_false, false_or, scal_ii, scal_bb, scal_ss, List.length_cons, List.length_nil, Int.reduceToNat, Int.reducePow])
local macro_rules | `(tactic| wtm_at "hp") => `(tactic| first | (with_reducible assumption) | exact upd_same | (refine upd_keep (by with_reducible assumption) ?_; wtm_at "hp") | (refine Same.get (by with_reducible assumption) ?_; wtm_at "hp") | (refine upd_other (by first | (with_reducible assumption) | exact Ne.symm (by with_reducible assumption)) ?_; wtm_at "hp"))
local macro_rules | `(tactic| wtm_at "sq") => `(tactic| first | (with_reducible assumption) | exact SqL.of (by wtm_at "hp") | exact SqT.of (by wtm_at "hp") | (refine Same.seq (same_upd (by with_reducible assumption)) ?_; wtm_at "sq") | (refine Same.seq (by with_reducible assumption) ?_; wtm_at "sq") | (refine Same.seqT (same_upd (by with_reducible assumption)) ?_; wtm_at "sq") | (refine Same.seqT (by with_reducible assumption) ?_; wtm_at "sq"))
local macro_rules | `(tactic| wtm_at "cl") => `(tactic| first | (with_reducible assumption) | omega | (exact cmul_r (by omega) (by omega)) | (exact cmul_l (by omega) (by omega)) | (exact cdiv_ok (by omega) (by omega)) | (exact cpow_ok (by decide)) | (exact ⟨by omega, by omega, by omega⟩) | decide | (exact ⟨by omega, by omega⟩) | (simp only [List.length_append, List.length_map, List.length_set, List.length_cons, List.length_nil, rngL_len, sizeLine_eq]; omega) | wtm_at "hp" | wtm_at "sq")
local macro_rules | `(tactic| wtm_at "pf") => `(tactic| first | (with_reducible assumption) | omega | (simp only [List.length_append, List.length_map, List.length_set, List.length_cons, List.length_nil, rngL_len]; omega) | (with_reducible rfl) | (with_reducible trivial) | (with_reducible decide))
local macro_rules | `(tactic| wtm_at "st") => `(tactic| first | ((with_reducible refine g_at ?_); refine at_call (by wtm_at "sq") (by omega) (by omega) (fun _ _ => ?_)) | ((with_reducible refine g_row ?_); refine row_call (by wtm_at "hp") ?_) | ((with_reducible refine g_int ?_); refine int_call ?_) | ((with_reducible refine g_isi ?_); first | (with_reducible refine isi_ii ?_) | (with_reducible refine isi_ib ?_) | (refine isi_int rfl ?_) | (refine isi_lst rfl (by wtm_at "hp") ?_) | (refine isi_tup rfl (by wtm_at "hp") ?_)) | ((with_reducible refine g_ned ?_); refine ned_f (dq_lst (by wtm_at "sq")) (dq_lst (by wtm_at "sq")) ?_) | ((with_reducible refine g_eqd ?_); refine eqd_t (dq_lst (by wtm_at "sq")) (dq_lst (by wtm_at "sq")) ?_) | ((with_reducible refine g_tyv ?_); refine and_tyv (by wtm_at "sq") ?_) | ((with_reducible refine g_asq ?_); refine and_sq (by wtm_at "sq") ?_) | ((with_reducible refine g_lst ?_); refine ex_lst (by wtm_at "hp") ?_) | ((with_reducible refine g_or ?_); first | (refine ex_or (by wtm_at "sq") ?_) | (refine ex_ort (by wtm_at "sq") ?_)) | ((with_reducible refine g_sq ?_); refine ex_sq (by wtm_at "sq") ?_) | ((with_reducible refine g_sqt ?_); refine ex_sqt (by wtm_at "sq") ?_) | ((with_reducible refine gd_sel ?_); first | (refine sel_p (by wtm_at "pf") ?_) | (refine sel_n (by wtm_at "pf") ?_)) | ((with_reducible refine gn_sel ?_); first | (refine selN_p (by wtm_at "pf") ?_) | (refine selN_n (by wtm_at "pf") ?_)) | ((with_reducible refine gd_selT ?_); first | (refine selT_p (by wtm_at "pf") ?_) | (refine selT_n (by wtm_at "pf") ?_)) | ((with_reducible refine gn_selT ?_); first | (refine selTN_p (by wtm_at "pf") ?_) | (refine selTN_n (by wtm_at "pf") ?_)) | ((with_reducible refine gd_selE ?_); first | (refine selE_p (by wtm_at "pf") ?_) | (refine selE_n (by wtm_at "pf") ?_)) | ((with_reducible refine gn_selE ?_); first | (refine selEN_p (by wtm_at "pf") ?_) | (refine selEN_n (by wtm_at "pf") ?_)) | ((with_reducible refine g_xf ?_); refine xf_at rfl (by wtm_at "hp") ?_) | ((with_reducible refine g_atI ?_); refine ex_at (by first | exact rfl | exact atI_int (by omega) (by wtm_at "pf") | exact atI_end (by wtm_at "pf")) ?_) | ((with_reducible refine g_and ?_); refine And.intro (by wtm_at "cl") ?_) | ((with_reducible refine g_new ?_); intro _ _))
local macro_rules | `(tactic| wtm_at "go") => `(tactic| repeat (first | wtm_at "xs" | wtm_at "st"))
local macro_rules | `(tactic| wtm_at "xo") => `(tactic| simp only [x_next, x_seq, x_brk, x_cont, x_drop, x_ret, x_retN, x_if, sel_t, sel_f, selE_t, selE_f, selT_t, selT_f, selC_t, selC_f, x_test, x_tB, x_op, x_un, x_var, x_c, x_cb, x_nil, x_cons, x_rI, x_rI0, x_rU, x_rEq, x_rNe, x_rIxL, x_rIxT, n_rSlL, n_rCat, n_rRep, n_rApp, x_bm, x_bm0, x_sl, x_nopart, x_part, n_tup, n_lst, x_call, x_callS, x_asg, x_gname, x_gtup, x_gnil, x_gcons, x_gsub, n_setL, x_aug, x_ipI, x_ipC, x_bits, x_getL, x_augS, x_and, x_or, x_not, x_k, x_andV, x_orV, x_notV, x_ife, x_chain, x_for, x_ilist, x_itup, x_ienum, x_irng1, x_irng2, x_irev, x_lc, x_yes, wipe_nil, wipe_cons, List.map_cons, List.map_nil, x_misc, x_misc2, x_rz, lookup_at, Bool.not_true, Bool.not_false, decide_true, decide_false, not_true, not_false_eq_true, and_assoc, exists_and_left, exists_eq_left', exists_eq_left, exists_eq', exists_eq_right', exists_eq_right, V.int.injEq, V.ref.injEq, V.bl.injEq, V.str.injEq, List.cons.injEq, and_true, true_and, and_self, Option.some.injEq, List.cons_append, List.nil_append, List.append_nil, List.getElem?_cons_zero, List.getElem?_cons_succ, List.set_cons_zero, List.set_cons_succ, reduceCtorEq, false_and, and_false, exists_false, exists_const, or_false, false_or, scal_ii, scal_bb, scal_ss, List.length_cons, List.length_nil, Int.reduceToNat, Int.reducePow, n_fld, n_sfld, n_aug, n_meth, n_mw, n_make, n_kw, n_rLs, n_dcp, x_sortK, n_gget, n_rLtT, n_ext, n_revL, n_rTp, t_im, ints_rev, t_s1, t_i1, t_i2, t_i3, t_i4, t_i5, x_chain3, x_irng3, x_irevR, x_rg1, x_rg2, ints_cat, ints_app1, ints_len, ints_take, ints_drop, rep_one])
local macro_rules | `(tactic| k_call_by "xo" $h:term) => `(tactic| simp only [$h:term, x_next, x_seq, x_brk, x_cont, x_drop, x_ret, x_retN, x_if, sel_t, sel_f, selE_t, selE_f, selT_t, selT_f, selC_t, selC_f, x_test, x_tB, x_op, x_un, x_var, x_c, x_cb, x_nil, x_cons, x_rI, x_rI0, x_rU, x_rEq, x_rNe, x_rIxL, x_rIxT, n_rSlL, n_rCat, n_rRep, n_rApp, x_bm, x_bm0, x_sl, x_nopart, x_part, n_tup, n_lst, x_call, x_callS, x_asg, x_gname, x_gtup, x_gnil, x_gcons, x_gsub, n_setL, x_aug, x_ipI, x_ipC, x_bits, x_getL, x_augS, x_and, x_or, x_not, x_k, x_andV, x_orV, x_notV, x_ife, x_chain, x_for, x_ilist, x_itup, x_ienum, x_irng1, x_irng2, x_irev, x_lc, x_yes, wipe_nil, wipe_cons, List.map_cons, List.map_nil, x_misc, x_misc2, x_rz, lookup_at, Bool.not_true, Bool.not_false, decide_true, decide_false, not_true, not_false_eq_true, and_assoc, exists_and_left, exists_eq_left', exists_eq_left, exists_eq', exists_eq_right', exists_eq_right, V.int.injEq, V.ref.injEq, V.bl.injEq, V.str.injEq, List.cons.injEq, and_true, true_and, and_self, Option.some.injEq, List.cons_append, List.nil_append, List.append_nil, List.getElem?_cons_zero, List.getElem?_cons_succ, List.set_cons_zero, List.set_cons_succ, reduceCtorEq, false_and, and_false, exists_false, exists_const, or_false, false_or, scal_ii, scal_bb, scal_ss, List.length_cons, List.length_nil, Int.reduceToNat, Int.reducePow, n_fld, n_sfld, n_aug, n_meth, n_mw, n_make, n_kw, n_rLs, n_dcp, x_sortK, n_gget, n_rLtT, n_ext, n_revL, n_rTp, t_im, ints_rev, t_s1, t_i1, t_i2, t_i3, t_i4, t_i5, x_chain3, x_irng3, x_irevR, x_rg1, x_rg2, ints_cat, ints_app1, ints_len, ints_take, ints_drop, rep_one])
local macro_rules | `(tactic| wtm_at "mem") => `(tactic| first | (with_reducible exact mem_here) | (with_reducible refine mem_there ?_; wtm_at "mem"))
local macro_rules | `(tactic| wtm_at "pp") => `(tactic| first | (with_reducible exact Put.here) | (with_reducible apply Put.there; wtm_at "pp"))
local macro_rules | `(tactic| wtm_at "ho") => `(tactic| first | (with_reducible assumption) | exact Own.get (by with_reducible assumption) (by wtm_at "mem") | exact Own.base (by with_reducible assumption) (by with_reducible assumption))
local macro_rules | `(tactic| wtm_at "qo") => `(tactic| first | (with_reducible assumption) | exact SqL.of (by wtm_at "ho") | exact sqT_tupI (by wtm_at "ho") | exact sqT_tupS (by wtm_at "ho") | exact SqT.of (by wtm_at "ho") | exact Own.imT (by with_reducible assumption) (by wtm_at "mem") | exact Own.sq (by with_reducible assumption) (by with_reducible assumption) | exact Own.sqT (by with_reducible assumption) (by with_reducible assumption))
local macro_rules | `(tactic| wtm_at "sub") => `(tactic| first | exact List.nil_sublist _ | (with_reducible refine List.Sublist.cons_cons _ ?_; wtm_at "sub") | (refine List.Sublist.cons _ ?_; wtm_at "sub"))
local macro_rules | `(tactic| wtm_at "co") => `(tactic| first | (with_reducible assumption) | omega | (exact cmul_r (by omega) (by omega)) | (exact cmul_l (by omega) (by omega)) | (exact cdiv_ok (by omega) (by omega)) | (exact cpow_ok (by decide)) | (exact ⟨by omega, by omega, by omega⟩) | decide | (exact ⟨by omega, by omega⟩) | (simp only [List.length_append, List.length_map, List.length_set, List.length_cons, List.length_nil, rngL_len, sizeLine_eq]; omega) | wtm_at "ho" | wtm_at "qo")
local macro_rules | `(tactic| wtm_at "so") => `(tactic| first | ((with_reducible refine g_dcp ?_); refine dcpI (by wtm_at "ho") ?_) | ((with_reducible refine g_asl ?_); refine And.intro (by rfl) ?_) | ((with_reducible refine g_asqT ?_); refine and_sqT (by wtm_at "qo") ?_) | ((with_reducible refine g_extO ?_); first | (refine extI (by with_reducible assumption) (by wtm_at "pp") (by wtm_at "co") (fun _ _ => ?_)) | (refine extO (by with_reducible assumption) (by wtm_at "pp") (by wtm_at "co") (fun _ _ => ?_))) | ((with_reducible refine g_tp ?_); first | (refine tp_l (by wtm_at "qo") ?_) | (refine tp_t (by wtm_at "qo") ?_)) | ((with_reducible refine g_fldO ?_); refine fldO (by wtm_at "ho") (by with_reducible assumption) (by wtm_at "mem") (by wtm_at "lk") ?_) | ((with_reducible refine g_fldC ?_); refine fldC (by wtm_at "ho") (by with_reducible assumption) (by wtm_at "mem") (by wtm_at "lk") ?_) | ((with_reducible refine g_putC ?_); refine putC (by with_reducible assumption) (by wtm_at "pp") (by wtm_at "pu") (by wtm_at "co") (fun _ _ => ?_)) | ((with_reducible refine g_stoO ?_); refine stoO (by with_reducible assumption) (by wtm_at "pp") (by wtm_at "pu") (by with_reducible assumption) (by wtm_at "mem") (by wtm_at "co") (fun _ _ => ?_)) | ((with_reducible refine g_metO ?_); refine metO (by wtm_at "ho") (by wtm_at "ln") ?_) | ((with_reducible refine g_makO ?_); refine makO (by with_reducible assumption) (fun _ _ _ _ => ?_)) | ((with_reducible refine g_sum ?_); refine sum_call (by wtm_at "qo") ?_) | ((with_reducible refine g_cq ?_); exact cq (by with_reducible assumption) (by simp only [rngL_len, List.length_map, List.length_take]; omega)) | ((with_reducible refine g_newO ?_); refine newO (by with_reducible assumption) (fun _ _ _ => ?_)) | ((with_reducible refine g_appO ?_); refine appI (by with_reducible assumption) (by wtm_at "pp") (by wtm_at "co") (fun _ _ => ?_)) | ((with_reducible refine g_setO ?_); refine setI (by with_reducible assumption) (by wtm_at "pp") (by omega) (by wtm_at "co") (fun _ _ => ?_)) | ((with_reducible refine g_appO ?_); refine appO (by with_reducible assumption) (by wtm_at "pp") (by wtm_at "co") (fun _ _ => ?_)) | ((with_reducible refine g_setO ?_); refine setO (by with_reducible assumption) (by wtm_at "pp") (by omega) (by wtm_at "co") (fun _ _ => ?_)) | ((with_reducible refine g_at ?_); refine at_call (by wtm_at "qo") (by omega) (by omega) (fun _ _ => ?_)) | ((with_reducible refine g_row ?_); refine row_call (by wtm_at "ho") ?_) | ((with_reducible refine g_int ?_); refine int_call ?_) | ((with_reducible refine g_isi ?_); first | (with_reducible refine isi_ii ?_) | (with_reducible refine isi_ib ?_) | (refine isi_int rfl ?_) | (refine isi_sqL rfl (by wtm_at "qo") ?_) | (refine isi_sqT rfl (by wtm_at "qo") ?_) | (refine isi_bl rfl ?_) | (refine isi_non rfl ?_) | (refine isi_str rfl ?_)) | ((with_reducible refine g_ned ?_); first | (refine ned_f (dq_lst (by wtm_at "qo")) (dq_lst (by wtm_at "qo")) ?_) | (refine ned_ints (by wtm_at "qo") (by wtm_at "qo") ?_) | (refine nedT_ints (by wtm_at "qo") (by wtm_at "qo") ?_)) | ((with_reducible refine g_eqd ?_); first | (refine eqd_t (dq_lst (by wtm_at "qo")) (dq_lst (by wtm_at "qo")) ?_) | (refine eqd_ints (by wtm_at "qo") (by wtm_at "qo") ?_) | (refine eqdT_ints (by wtm_at "qo") (by wtm_at "qo") ?_)) | ((with_reducible refine g_tyv ?_); refine and_tyv (by wtm_at "qo") ?_) | ((with_reducible refine g_asq ?_); refine and_sq (by wtm_at "qo") ?_) | ((with_reducible refine g_lst ?_); refine ex_lst (by wtm_at "ho") ?_) | ((with_reducible refine g_or ?_); first | (refine ex_or (by wtm_at "qo") ?_) | (refine ex_ort (by wtm_at "qo") ?_)) | ((with_reducible refine g_sq ?_); refine ex_sq (by wtm_at "qo") ?_) | ((with_reducible refine g_sqt ?_); refine ex_sqt (by wtm_at "qo") ?_) | ((with_reducible refine gd_sel ?_); first | (refine sel_p (by wtm_at "pf") ?_) | (refine sel_n (by wtm_at "pf") ?_)) | ((with_reducible refine gn_sel ?_); first | (refine selN_p (by wtm_at "pf") ?_) | (refine selN_n (by wtm_at "pf") ?_)) | ((with_reducible refine gd_selT ?_); first | (refine selT_p (by wtm_at "pf") ?_) | (refine selT_n (by wtm_at "pf") ?_)) | ((with_reducible refine gn_selT ?_); first | (refine selTN_p (by wtm_at "pf") ?_) | (refine selTN_n (by wtm_at "pf") ?_)) | ((with_reducible refine gd_selE ?_); first | (refine selE_p (by wtm_at "pf") ?_) | (refine selE_n (by wtm_at "pf") ?_)) | ((with_reducible refine gn_selE ?_); first | (refine selEN_p (by wtm_at "pf") ?_) | (refine selEN_n (by wtm_at "pf") ?_)) | ((with_reducible refine g_xf ?_); refine xf_at rfl (by wtm_at "ho") ?_) | ((with_reducible refine g_atI ?_); refine ex_at (by first | exact rfl | exact atI_int (by omega) (by wtm_at "pf") | exact atI_end (by wtm_at "pf")) ?_) | ((with_reducible refine g_and ?_); refine And.intro (by wtm_at "co") ?_))
local macro_rules | `(tactic| wtm_at "oo") => `(tactic| repeat (first | wtm_at "xo" | wtm_at "so"))
local macro_rules | `(tactic| wtm_at "cR") => `(tactic| (refine' compRi _ (by with_reducible assumption) (by omega) (fun _ _ _ _ _ => ?_) (fun _ _ _ => ?_); rotate_left; focus (wtm_at "oo")))

local macro_rules | `(tactic| wtm_at "lk") => `(tactic| first | (with_reducible exact lk_here) | (simp only [lk_here, lk_skip, lk_nil]; first | done | exact rfl))
local macro_rules | `(tactic| wtm_at "ln") => `(tactic| first | (with_reducible exact lk_nil) | (simp only [lk_skip, lk_nil]; done))
local macro_rules | `(tactic| wtm_at "pu") => `(tactic| first | (with_reducible exact pf_nil) | (simp only [pf_nil, pf_here, pf_skip]; first | done | exact rfl))
local macro_rules | `(tactic| wtm_at "tk") => `(tactic| first | (with_reducible exact Take.here) | (exact Take.here) | ((with_reducible apply Take.there); wtm_at "tk"))
local macro_rules | `(tactic| wtm_at "pk") => `(tactic| first | exact Pick.nil | ((with_reducible refine' Pick.cons ?tk1 ?pk1); (case tk1 => wtm_at "tk"); (case pk1 => wtm_at "pk")) | ((with_reducible refine Pick.im (by wtm_at "mem") ?_); wtm_at "pk") | ((with_reducible refine Pick.ims (by wtm_at "mem") ?_); wtm_at "pk"))

local macro_rules | `(tactic| wtm_at "ta") => `(tactic| first | (with_reducible exact TakeA.here) | ((with_reducible apply TakeA.there); wtm_at "ta"))
local macro_rules | `(tactic| wtm_at "tb") => `(tactic| first | (exact TakeA.here) | ((with_reducible apply TakeA.there); wtm_at "tb"))
local macro_rules | `(tactic| wtm_at "pa") => `(tactic| first | exact PickA.nil | ((with_reducible refine PickA.im (by wtm_at "mem") ?_); wtm_at "pa") | ((with_reducible refine PickA.ims (by wtm_at "mem") ?_); wtm_at "pa") | ((with_reducible refine' PickA.any ?tk1 ?pk1); (case tk1 => first | wtm_at "ta" | wtm_at "tb"); (case pk1 => wtm_at "pa")))
section
variable {P : Program} {w : World} {K : PySem.W.Frag} {mg : Str → Option Value} {base : Heap} [TBC K mg base]
/-! counts: how many are used, the range -/
def usedN (cs : List Int) : Nat := cs.length - cs.count 0
theorem usedN_eq {cs : List Int} : ((cs.length : Int) - (cs.count 0 : Nat)) = (usedN cs : Nat) := by
  unfold usedN
  have := List.count_le_length (a := (0 : Int)) (l := cs)
  omega
def sp__used (K : PySem.W.Frag) : Sp := fun vs H Q _ => ∃ (a : Addr) (cs : List Int), vs = [.ref a] ∧ SqL K H a (cs.map V.int) ∧ Q (.int (usedN cs : Nat)) H
theorem ok__used (T : Tx K mg) : Cl P w K mg base 1 "_used" ["counts"] (sp__used K) [] := by
  obtain ⟨gm, fd, F⟩ := T.d__used
  refine ⟨_, fd, [], F.ok sc__used (fun vs H Q E h => ?_) (fun cdv A outer s H vs Q E hr h => ⟨_, (PSs.nox (pss_one (ps_ret (by exact (pe_op op_sub (pe_callB (lenK K) rfl T.b_len (by decide +kernel) (pa_cons (pv 0) pa_nil)) (pe_bm PySem.F.plainAttrs_list PySem.F.slot_list_count PySem.F.type_list_count (cntK K) (pv 0) (pa_cons pe_int pa_nil))))))), ?_⟩), gm, F.kp, F.bindsN (fun _ _ _ _ _ _ us hl => match us, hl with | [_], _ => rfl), .nil⟩
  · first | (obtain ⟨rfl, _⟩ := h; rfl) | (obtain ⟨_, rfl, _⟩ := h; rfl) | (obtain ⟨_, _, rfl, _⟩ := h; rfl) | (obtain ⟨_, _, _, rfl, _⟩ := h; rfl) | (obtain ⟨_, _, _, _, rfl, _⟩ := h; rfl) | (obtain ⟨_, _, _, _, _, rfl, _⟩ := h; rfl) | (obtain ⟨_, _, _, _, _, _, rfl, _⟩ := h; rfl) | (obtain ⟨_, _, _, _, _, _, _, rfl, _⟩ := h; rfl) | (obtain ⟨_, _, _, _, _, _, _, _, rfl, _⟩ := h; rfl) | (obtain ⟨_, _, _, _, _, _, _, _, _, rfl, _⟩ := h; rfl) | (obtain ⟨_, _, _, _, _, _, _, _, _, _, rfl, _⟩ := h; rfl) | (obtain ⟨_, _, _, _, _, _, _, _, _, _, _, rfl, _⟩ := h; rfl) | (obtain ⟨_, _, _, _, _, _, _, _, _, _, _, _, rfl, _⟩ := h; rfl) | (obtain ⟨_, _, _, _, _, _, _, _, _, _, _, _, _, rfl, _⟩ := h; rfl) | (obtain ⟨_, _, _, _, _, _, _, _, _, _, _, _, _, _, rfl, _⟩ := h; rfl) | (obtain ⟨_, _, _, _, _, _, _, _, _, _, _, _, _, _, _, rfl, _⟩ := h; rfl) | (obtain ⟨_, _, _, _, _, _, _, _, _, _, _, _, _, _, _, _, rfl, _⟩ := h; rfl) | (obtain ⟨_, _, _, _, _, _, _, _, _, _, _, _, _, _, _, _, _, rfl, _⟩ := h; rfl) | (obtain ⟨_, _, _, _, _, _, _, _, _, _, _, _, _, _, _, _, _, _, rfl, _⟩ := h; rfl) | (obtain ⟨_, _, _, _, _, _, _, _, _, _, _, _, _, _, _, _, _, _, _, rfl, _⟩ := h; rfl) | (obtain ⟨_, _, _, _, _, _, _, _, _, _, _, _, _, _, _, _, _, _, _, _, rfl, _⟩ := h; rfl) | (obtain ⟨_, _, _, _, _, _, _, _, _, _, _, _, _, _, _, _, _, _, _, _, _, rfl, _⟩ := h; rfl)
  · obtain ⟨a, cs, rfl, hS, q⟩ := h
    k_call_by "xo" st__used
    wtm_at "oo"
    refine ⟨a, cs, 0, rfl, rfl, hS, ?_⟩
    wtm_at "oo"
    rw [usedN_eq]
    exact q
def cOk (x : Int) : Prop := 0 ≤ x ∧ x < 4294967296
def sp__check_range (K : PySem.W.Frag) : Sp := fun vs H Q E => ∃ (a : Addr) (cs : List Int) (m : Int), vs = [.ref a, .int m] ∧ SqL K H a (cs.map V.int) ∧
  (¬ (1 ≤ m ∧ m ≤ 15) → ∀ x, H x = none → E (.ref (He.ga K "OutOfRange")) (some x) (upd H x (.xd [("at", .int (-1))]))) ∧
  (1 ≤ m → m ≤ 15 → (∀ i : Nat, i < cs.length → cOk (cs.getD i 0)) → ∀ H', Own K H H' [] → Q .non H') ∧
  (1 ≤ m → m ≤ 15 → ∀ k : Nat, k < cs.length → (∀ i : Nat, i < k → cOk (cs.getD i 0)) → ¬ cOk (cs.getD k 0) → ∀ H' x, Same H H' → H' x = none → E (.ref (He.ga K "OutOfRange")) (some x) (upd H' x (.xd [("at", .int (k : Nat))])))
theorem ok__check_range (T : Tx K mg) : Cl P w K mg base 3 "_check_range" ["counts", "most"] (sp__check_range K) [] := by
  obtain ⟨gm, fd, F⟩ := T.d__check_range
  refine ⟨_, fd, [], F.ok sc__check_range (fun vs H Q E h => ?_) (fun cdv A outer s H vs Q E hr h => ⟨_, (pss_cons (ps_if (pt_not (pt_chain op_le op_le pe_int (pv 1) (pe_gc rfl T.c_MOST_BITS)))
 (pss_one (ps_raiseB T.x_OutOfRange (ok_init (K := K) (mg := mg) (base := base) T) (hr.mono (by decide)) (L2N.takes_of rfl rfl rfl rfl) (by exact (pa_cons (pe_un un_neg pe_int) pa_nil))))
 pss_nil)
 (pss_one (ps_for (passes_of rfl) rfl (pi_enum (by rfl) T.b_enumerate (pa_cons (pv 0) pa_nil)) (pg_tup (by rfl) (pgs_cons (pg_name (i := 2) sc__check_range.nd rfl (Or.inl rfl)) (pgs_cons (pg_name (i := 3) sc__check_range.nd rfl (Or.inl rfl)) pgs_nil)))
 (pss_one (ps_if (pt_not (pt_chain op_le op_lt pe_int (pv 3) (pe_op op_pow pe_int pe_int)))
 (pss_one (ps_raiseB T.x_OutOfRange (ok_init (K := K) (mg := mg) (base := base) T) (hr.mono (by decide)) (L2N.takes_of rfl rfl rfl rfl) (by exact (pa_cons (pv 2) pa_nil))))
 pss_nil))))), ?_⟩), gm, F.kp, F.bindsN (fun _ _ _ _ _ _ us hl => match us, hl with | [_, _], _ => rfl), .nil⟩
  · first | (obtain ⟨rfl, _⟩ := h; rfl) | (obtain ⟨_, rfl, _⟩ := h; rfl) | (obtain ⟨_, _, rfl, _⟩ := h; rfl) | (obtain ⟨_, _, _, rfl, _⟩ := h; rfl) | (obtain ⟨_, _, _, _, rfl, _⟩ := h; rfl) | (obtain ⟨_, _, _, _, _, rfl, _⟩ := h; rfl) | (obtain ⟨_, _, _, _, _, _, rfl, _⟩ := h; rfl) | (obtain ⟨_, _, _, _, _, _, _, rfl, _⟩ := h; rfl) | (obtain ⟨_, _, _, _, _, _, _, _, rfl, _⟩ := h; rfl) | (obtain ⟨_, _, _, _, _, _, _, _, _, rfl, _⟩ := h; rfl) | (obtain ⟨_, _, _, _, _, _, _, _, _, _, rfl, _⟩ := h; rfl) | (obtain ⟨_, _, _, _, _, _, _, _, _, _, _, rfl, _⟩ := h; rfl) | (obtain ⟨_, _, _, _, _, _, _, _, _, _, _, _, rfl, _⟩ := h; rfl) | (obtain ⟨_, _, _, _, _, _, _, _, _, _, _, _, _, rfl, _⟩ := h; rfl) | (obtain ⟨_, _, _, _, _, _, _, _, _, _, _, _, _, _, rfl, _⟩ := h; rfl) | (obtain ⟨_, _, _, _, _, _, _, _, _, _, _, _, _, _, _, rfl, _⟩ := h; rfl) | (obtain ⟨_, _, _, _, _, _, _, _, _, _, _, _, _, _, _, _, rfl, _⟩ := h; rfl) | (obtain ⟨_, _, _, _, _, _, _, _, _, _, _, _, _, _, _, _, _, rfl, _⟩ := h; rfl) | (obtain ⟨_, _, _, _, _, _, _, _, _, _, _, _, _, _, _, _, _, _, rfl, _⟩ := h; rfl) | (obtain ⟨_, _, _, _, _, _, _, _, _, _, _, _, _, _, _, _, _, _, _, rfl, _⟩ := h; rfl) | (obtain ⟨_, _, _, _, _, _, _, _, _, _, _, _, _, _, _, _, _, _, _, _, rfl, _⟩ := h; rfl) | (obtain ⟨_, _, _, _, _, _, _, _, _, _, _, _, _, _, _, _, _, _, _, _, _, rfl, _⟩ := h; rfl)
  · obtain ⟨a, cs, m, rfl, hS, qe, q, qk⟩ := h
    k_call_by "xo" st__check_range
    have L := Own.start (K := K) (H := H)
    wtm_at "oo"
    by_cases c1 : 1 ≤ m ∧ m ≤ 15
    · obtain ⟨m1, m2⟩ := c1
      wtm_at "oo"
      refine loop_enum (xs := cs.map V.int) (fun i σ H' => ∃ y2 y3, σ = [some (.ref a), some (.int m), y2, y3] ∧ Own K H H' [] ∧ ∀ j : Nat, j < i → cOk (cs.getD j 0)) ⟨none, none, rfl, L, fun j hj => absurd hj (by omega)⟩ (fun i σ H' _ ⟨_, _, _, s, _⟩ => s.sq hS) ?_ ?_
      · rintro i x σ H' T' hx ⟨y2, y3, rfl, L1, hle⟩ hT'
        obtain ⟨z, hz, rfl⟩ := int_at hx
        have hi : i < cs.length := by
          apply Decidable.byContradiction
          intro c
          rw [List.getElem?_eq_none (by omega)] at hz
          cases hz
        have ez : cs.getD i 0 = z := by
          rw [List.getD_eq_getElem?_getD, hz]
          rfl
        have L2 : Own K H _ _ := L1.new hT' (tupI [(i : Int), z])
        clear L1
        show gTup _ _ _ _ _ (upd H' T' (tupI [(i : Int), z])) _
        generalize (upd H' T' (tupI [(i : Int), z])) = G at *
        wtm_at "oo"
        refine selE_d (fun c1 => ?_) (fun c1 => ?_)
        · wtm_at "oo"
          refine sel_nd (fun c2 => ?_) (fun c2 => ?_)
          · wtm_at "oo"
            exact bz T.x_OutOfRange fun x hx => qk m1 m2 i hi hle (by rw [ez]; exact fun z => c2 z.2) G x L2.same hx
          · wtm_at "oo"
            refine ⟨L2.drop1, fun j hj => ?_⟩
            by_cases e : j = i
            · rw [e, ez]
              exact ⟨c1, c2⟩
            · exact hle j (by omega)
        · wtm_at "oo"
          exact bz T.x_OutOfRange fun x hx => qk m1 m2 i hi hle (by rw [ez]; exact fun z => c1 z.1) G x L2.same hx
      · rintro σ H' ⟨y2, y3, rfl, L1, hle⟩
        rw [List.length_map] at hle
        wtm_at "oo"
        exact q m1 m2 hle _ L1
    · have qe := qe c1
      by_cases c2 : 1 ≤ m
      · wtm_at "oo"
        exact bz T.x_OutOfRange qe
      · wtm_at "oo"
        exact bz T.x_OutOfRange qe
def sp__taken_from_first (K : PySem.W.Frag) : Sp := fun vs H Q _ => ∃ (a : Addr) (cs : List Int), vs = [.ref a] ∧ SqL K H a (cs.map V.int) ∧ Q (.int (2 * (usedN cs : Int) - 2)) H
theorem ok__taken_from_first (T : Tx K mg) : Cl P w K mg base 2 "_taken_from_first" ["counts"] (sp__taken_from_first K) [] := by
  obtain ⟨gm, fd, F⟩ := T.d__taken_from_first
  refine ⟨_, fd, [], F.ok sc__taken_from_first (fun vs H Q E h => ?_) (fun cdv A outer s H vs Q E hr h => ⟨_, (PSs.nox (pss_one (ps_ret (by exact (pe_op op_sub (pe_op op_mul pe_int (pe_cl (ok__used (K := K) (mg := mg) (base := base) T) (hr.mono (by decide)) rfl (pa_cons (pv 0) pa_nil))) pe_int))))), ?_⟩), gm, F.kp, F.bindsN (fun _ _ _ _ _ _ us hl => match us, hl with | [_], _ => rfl), .nil⟩
  · first | (obtain ⟨rfl, _⟩ := h; rfl) | (obtain ⟨_, rfl, _⟩ := h; rfl) | (obtain ⟨_, _, rfl, _⟩ := h; rfl) | (obtain ⟨_, _, _, rfl, _⟩ := h; rfl) | (obtain ⟨_, _, _, _, rfl, _⟩ := h; rfl) | (obtain ⟨_, _, _, _, _, rfl, _⟩ := h; rfl) | (obtain ⟨_, _, _, _, _, _, rfl, _⟩ := h; rfl) | (obtain ⟨_, _, _, _, _, _, _, rfl, _⟩ := h; rfl) | (obtain ⟨_, _, _, _, _, _, _, _, rfl, _⟩ := h; rfl) | (obtain ⟨_, _, _, _, _, _, _, _, _, rfl, _⟩ := h; rfl) | (obtain ⟨_, _, _, _, _, _, _, _, _, _, rfl, _⟩ := h; rfl) | (obtain ⟨_, _, _, _, _, _, _, _, _, _, _, rfl, _⟩ := h; rfl) | (obtain ⟨_, _, _, _, _, _, _, _, _, _, _, _, rfl, _⟩ := h; rfl) | (obtain ⟨_, _, _, _, _, _, _, _, _, _, _, _, _, rfl, _⟩ := h; rfl) | (obtain ⟨_, _, _, _, _, _, _, _, _, _, _, _, _, _, rfl, _⟩ := h; rfl) | (obtain ⟨_, _, _, _, _, _, _, _, _, _, _, _, _, _, _, rfl, _⟩ := h; rfl) | (obtain ⟨_, _, _, _, _, _, _, _, _, _, _, _, _, _, _, _, rfl, _⟩ := h; rfl) | (obtain ⟨_, _, _, _, _, _, _, _, _, _, _, _, _, _, _, _, _, rfl, _⟩ := h; rfl) | (obtain ⟨_, _, _, _, _, _, _, _, _, _, _, _, _, _, _, _, _, _, rfl, _⟩ := h; rfl) | (obtain ⟨_, _, _, _, _, _, _, _, _, _, _, _, _, _, _, _, _, _, _, rfl, _⟩ := h; rfl) | (obtain ⟨_, _, _, _, _, _, _, _, _, _, _, _, _, _, _, _, _, _, _, _, rfl, _⟩ := h; rfl) | (obtain ⟨_, _, _, _, _, _, _, _, _, _, _, _, _, _, _, _, _, _, _, _, _, rfl, _⟩ := h; rfl)
  · obtain ⟨a, cs, rfl, hS, q⟩ := h
    k_call_by "xo" st__taken_from_first
    wtm_at "oo"
    refine ⟨a, cs, rfl, hS, ?_⟩
    wtm_at "oo"
    exact q
def noRows (cs : List Int) : List Int := cs.map fun x => min x 1
def sp__lengths_without_rows (K : PySem.W.Frag) : Sp := fun vs H Q _ => ∃ (a : Addr) (cs : List Int), vs = [.ref a] ∧ SqL K H a (cs.map V.int) ∧ cs.length ≤ 10000 ∧ ∀ p H', Own K H H' [pI p (noRows cs)] → Q (.ref p) H'
theorem ok__lengths_without_rows (T : Tx K mg) : Cl P w K mg base 1 "_lengths_without_rows" ["counts"] (sp__lengths_without_rows K) [] := by
  obtain ⟨gm, fd, F⟩ := T.d__lengths_without_rows
  refine ⟨_, fd, [], F.ok sc__lengths_without_rows (fun vs H Q E h => ?_) (fun cdv A outer s H vs Q E hr h => ⟨_, (PSs.nox (pss_one (ps_ret (by exact (pe_lc (own := [("count", 1)]) (g := (gName 1)) (tt := tYes) rfl sc__lengths_without_rows.nd (pi_list (pv 0)) (blkOk_by (own := [("count", 1)]) (N := N__lengths_without_rows) (sc := defScope s__lengths_without_rows) (by decide +kernel)) (fun _ _ _ _ _ => pg_name (i := 1) sc__lengths_without_rows.nd rfl (Or.inl rfl)) (fun _ _ _ _ _ => pts_nil) (fun _ _ _ _ _ => (pe_callB (call_min2 rfl) rfl T.b_min (by decide +kernel) (pa_cons (pv 1) (pa_cons pe_int pa_nil))))))))), ?_⟩), gm, F.kp, F.bindsN (fun _ _ _ _ _ _ us hl => match us, hl with | [_], _ => rfl), .nil⟩
  · first | (obtain ⟨rfl, _⟩ := h; rfl) | (obtain ⟨_, rfl, _⟩ := h; rfl) | (obtain ⟨_, _, rfl, _⟩ := h; rfl) | (obtain ⟨_, _, _, rfl, _⟩ := h; rfl) | (obtain ⟨_, _, _, _, rfl, _⟩ := h; rfl) | (obtain ⟨_, _, _, _, _, rfl, _⟩ := h; rfl) | (obtain ⟨_, _, _, _, _, _, rfl, _⟩ := h; rfl) | (obtain ⟨_, _, _, _, _, _, _, rfl, _⟩ := h; rfl) | (obtain ⟨_, _, _, _, _, _, _, _, rfl, _⟩ := h; rfl) | (obtain ⟨_, _, _, _, _, _, _, _, _, rfl, _⟩ := h; rfl) | (obtain ⟨_, _, _, _, _, _, _, _, _, _, rfl, _⟩ := h; rfl) | (obtain ⟨_, _, _, _, _, _, _, _, _, _, _, rfl, _⟩ := h; rfl) | (obtain ⟨_, _, _, _, _, _, _, _, _, _, _, _, rfl, _⟩ := h; rfl) | (obtain ⟨_, _, _, _, _, _, _, _, _, _, _, _, _, rfl, _⟩ := h; rfl) | (obtain ⟨_, _, _, _, _, _, _, _, _, _, _, _, _, _, rfl, _⟩ := h; rfl) | (obtain ⟨_, _, _, _, _, _, _, _, _, _, _, _, _, _, _, rfl, _⟩ := h; rfl) | (obtain ⟨_, _, _, _, _, _, _, _, _, _, _, _, _, _, _, _, rfl, _⟩ := h; rfl) | (obtain ⟨_, _, _, _, _, _, _, _, _, _, _, _, _, _, _, _, _, rfl, _⟩ := h; rfl) | (obtain ⟨_, _, _, _, _, _, _, _, _, _, _, _, _, _, _, _, _, _, rfl, _⟩ := h; rfl) | (obtain ⟨_, _, _, _, _, _, _, _, _, _, _, _, _, _, _, _, _, _, _, rfl, _⟩ := h; rfl) | (obtain ⟨_, _, _, _, _, _, _, _, _, _, _, _, _, _, _, _, _, _, _, _, rfl, _⟩ := h; rfl) | (obtain ⟨_, _, _, _, _, _, _, _, _, _, _, _, _, _, _, _, _, _, _, _, _, rfl, _⟩ := h; rfl)
  · obtain ⟨a, cs, rfl, hS, hl, q⟩ := h
    k_call_by "xo" st__lengths_without_rows
    have L := Own.start (K := K) (H := H)
    wtm_at "oo"
    refine compLi (fun x => min x 1) L hS (by omega) (fun i x D H1 hx L1 => ?_) (fun H' L1 => L1.sq hS) (fun D H1 L1 => ?_)
    · wtm_at "oo"
      have e : (if 1 < x then (1 : Int) else x) = min x 1 := by
        split <;> omega
      rw [e]
      exact cq L1 (by rw [List.length_map, List.length_take]; omega)
    · exact q _ _ L1


end
end K13

namespace K13
open PySem PySem.Spec PyProof.Rows L2 Bel LamX
local macro_rules | `(tactic| wtm_at "xs") => `(tactic| simp only [x_next, x_seq, x_brk, x_cont, x_drop, x_ret, x_retN, x_if, sel_t, sel_f, selE_t, selE_f, selT_t, selT_f, selC_t, selC_f, x_test, x_tB, x_op, x_un, x_var, x_c, x_cb, x_nil, x_cons, x_rI, x_rI0, x_rU, x_rEq, x_rNe, x_rIxL, x_rIxT, x_rSlL, x_rCat, x_rRep, x_rApp, x_bm, x_bm0, x_sl, x_nopart, x_part, x_tup, x_lst, x_call, x_callS, x_asg, x_gname, x_gtup, x_gnil, x_gcons, x_gsub, x_setL, x_aug, x_ipI, x_ipC, x_bits, x_getL, x_augS, x_and, x_or, x_not, x_k, x_andV, x_orV, x_notV, x_ife, x_chain, x_for, x_ilist, x_itup, x_ienum, x_irng1, x_irng2, x_irev, x_lc, x_yes, wipe_nil, wipe_cons, List.map_cons, List.map_nil, x_misc, x_misc2, x_rz, lookup_at, Bool.not_true, Bool.not_false, decide_true, decide_false, not_true, not_false_eq_true, and_assoc, exists_and_left, exists_eq_left', exists_eq_left, exists_eq', exists_eq_right', exists_eq_right, V.int.injEq, V.ref.injEq, V.bl.injEq, V.str.injEq, List.cons.injEq, and_true, true_and, and_self, Option.some.injEq, List.cons_append, List.nil_append, List.append_nil, List.getElem?_cons_zero, List.getElem?_cons_succ, List.set_cons_zero, List.set_cons_succ, reduceCtorEq, false_and, and_false, exists_false, exists_const, or_false, false_or, scal_ii, scal_bb, scal_ss, List.length_cons, List.length_nil, Int.reduceToNat, Int.reducePow])
local macro_rules | `(tactic| k_call_by "xs" $h:term) => `(tactic| simp only [$h:term, x_next, x_seq, x_brk, x_cont, x_drop, x_ret, x_retN, x_if, sel_t, sel_f, selE_t, selE_f, selT_t, selT_f, selC_t, selC_f, x_test, x_tB, x_op, x_un, x_var, x_c, x_cb, x_nil, x_cons, x_rI, x_rI0, x_rU, x_rEq, x_rNe, x_rIxL, x_rIxT, x_rSlL, x_rCat, x_rRep, x_rApp, x_bm, x_bm0, x_sl, x_nopart, x_part, x_tup, x_lst, x_call, x_callS, x_asg, x_gname, x_gtup, x_gnil, x_gcons, x_gsub, x_setL, x_aug, x_ipI, x_ipC, x_bits, x_getL, x_augS, x_and, x_or, x_not, x_k, x_andV, x_orV, x_notV, x_ife, x_chain, x_for, x_ilist, x_itup, x_ienum, x_irng1, x_irng2, x_irev, x_lc, x_yes, wipe_nil, wipe_cons, List.map_cons, List.map_nil, x_misc, x_misc2, x_rz, lookup_at, Bool.not_true, Bool.not_false, decide_true, decide_false, not_true, not_false_eq_true, and_assoc, exists_and_left, exists_eq_left', exists_eq_left, exists_eq', exists_eq_right', exists_eq_right, V.int.injEq, V.ref.injEq, V.bl.injEq, V.str.injEq, List.cons.injEq, and_true, true_and, and_self, Option.some.injEq, List.cons_append, List.nil_append, List.append_nil, List.getElem?_cons_zero, List.getElem?_cons_succ, List.set_cons_zero, List.set_cons_succ, reduceCtorEq, false_and, and_false, exists_false, exists_const, or_false, false_or, scal_ii, scal_bb, scal_ss, List.length_cons, List.length_nil, Int.reduceToNat, Int.reducePow])
local macro_rules | `(tactic| wtm_at "hp") => `(tactic| first | (with_reducible assumption) | exact upd_same | (refine upd_keep (by with_reducible assumption) ?_; wtm_at "hp") | (refine Same.get (by with_reducible assumption) ?_; wtm_at "hp") | (refine upd_other (by first | (with_reducible assumption) | exact Ne.symm (by with_reducible assumption)) ?_; wtm_at "hp"))
local macro_rules | `(tactic| wtm_at "sq") => `(tactic| first | (with_reducible assumption) | exact SqL.of (by wtm_at "hp") | exact SqT.of (by wtm_at "hp") | (refine Same.seq (same_upd (by with_reducible assumption)) ?_; wtm_at "sq") | (refine Same.seq (by with_reducible assumption) ?_; wtm_at "sq") | (refine Same.seqT (same_upd (by with_reducible assumption)) ?_; wtm_at "sq") | (refine Same.seqT (by with_reducible assumption) ?_; wtm_at "sq"))
local macro_rules | `(tactic| wtm_at "cl") => `(tactic| first | (with_reducible assumption) | omega | (exact cmul_r (by omega) (by omega)) | (exact cmul_l (by omega) (by omega)) | (exact cdiv_ok (by omega) (by omega)) | (exact cpow_ok (by decide)) | (exact ⟨by omega, by omega, by omega⟩) | decide | (exact ⟨by omega, by omega⟩) | (simp only [List.length_append, List.length_map, List.length_set, List.length_cons, List.length_nil, rngL_len, sizeLine_eq]; omega) | wtm_at "hp" | wtm_at "sq")
local macro_rules | `(tactic| wtm_at "pf") => `(tactic| first | (with_reducible assumption) | omega | (simp only [List.length_append, List.length_map, List.length_set, List.length_cons, List.length_nil, rngL_len]; omega) | (with_reducible rfl) | (with_reducible trivial) | (with_reducible decide))
local macro_rules | `(tactic| wtm_at "st") => `(tactic| first | ((with_reducible refine g_at ?_); refine at_call (by wtm_at "sq") (by omega) (by omega) (fun _ _ => ?_)) | ((with_reducible refine g_row ?_); refine row_call (by wtm_at "hp") ?_) | ((with_reducible refine g_int ?_); refine int_call ?_) | ((with_reducible refine g_isi ?_); first | (with_reducible refine isi_ii ?_) | (with_reducible refine isi_ib ?_) | (refine isi_int rfl ?_) | (refine isi_lst rfl (by wtm_at "hp") ?_) | (refine isi_tup rfl (by wtm_at "hp") ?_)) | ((with_reducible refine g_ned ?_); refine ned_f (dq_lst (by wtm_at "sq")) (dq_lst (by wtm_at "sq")) ?_) | ((with_reducible refine g_eqd ?_); refine eqd_t (dq_lst (by wtm_at "sq")) (dq_lst (by wtm_at "sq")) ?_) | ((with_reducible refine g_tyv ?_); refine and_tyv (by wtm_at "sq") ?_) | ((with_reducible refine g_asq ?_); refine and_sq (by wtm_at "sq") ?_) | ((with_reducible refine g_lst ?_); refine ex_lst (by wtm_at "hp") ?_) | ((with_reducible refine g_or ?_); first | (refine ex_or (by wtm_at "sq") ?_) | (refine ex_ort (by wtm_at "sq") ?_)) | ((with_reducible refine g_sq ?_); refine ex_sq (by wtm_at "sq") ?_) | ((with_reducible refine g_sqt ?_); refine ex_sqt (by wtm_at "sq") ?_) | ((with_reducible refine gd_sel ?_); first | (refine sel_p (by wtm_at "pf") ?_) | (refine sel_n (by wtm_at "pf") ?_)) | ((with_reducible refine gn_sel ?_); first | (refine selN_p (by wtm_at "pf") ?_) | (refine selN_n (by wtm_at "pf") ?_)) | ((with_reducible refine gd_selT ?_); first | (refine selT_p (by wtm_at "pf") ?_) | (refine selT_n (by wtm_at "pf") ?_)) | ((with_reducible refine gn_selT ?_); first | (refine selTN_p (by wtm_at "pf") ?_) | (refine selTN_n (by wtm_at "pf") ?_)) | ((with_reducible refine gd_selE ?_); first | (refine selE_p (by wtm_at "pf") ?_) | (refine selE_n (by wtm_at "pf") ?_)) | ((with_reducible refine gn_selE ?_); first | (refine selEN_p (by wtm_at "pf") ?_) | (refine selEN_n (by wtm_at "pf") ?_)) | ((with_reducible refine g_xf ?_); refine xf_at rfl (by wtm_at "hp") ?_) | ((with_reducible refine g_atI ?_); refine ex_at (by first | exact rfl | exact atI_int (by omega) (by wtm_at "pf") | exact atI_end (by wtm_at "pf")) ?_) | ((with_reducible refine g_and ?_); refine And.intro (by wtm_at "cl") ?_) | ((with_reducible refine g_new ?_); intro _ _))
local macro_rules | `(tactic| wtm_at "go") => `(tactic| repeat (first | wtm_at "xs" | wtm_at "st"))
local macro_rules | `(tactic| wtm_at "xo") => `(tactic| simp only [x_next, x_seq, x_brk, x_cont, x_drop, x_ret, x_retN, x_if, sel_t, sel_f, selE_t, selE_f, selT_t, selT_f, selC_t, selC_f, x_test, x_tB, x_op, x_un, x_var, x_c, x_cb, x_nil, x_cons, x_rI, x_rI0, x_rU, x_rEq, x_rNe, x_rIxL, x_rIxT, n_rSlL, n_rCat, n_rRep, n_rApp, x_bm, x_bm0, x_sl, x_nopart, x_part, n_tup, n_lst, x_call, x_callS, x_asg, x_gname, x_gtup, x_gnil, x_gcons, x_gsub, n_setL, x_aug, x_ipI, x_ipC, x_bits, x_getL, x_augS, x_and, x_or, x_not, x_k, x_andV, x_orV, x_notV, x_ife, x_chain, x_for, x_ilist, x_itup, x_ienum, x_irng1, x_irng2, x_irev, x_lc, x_yes, wipe_nil, wipe_cons, List.map_cons, List.map_nil, x_misc, x_misc2, x_rz, lookup_at, Bool.not_true, Bool.not_false, decide_true, decide_false, not_true, not_false_eq_true, and_assoc, exists_and_left, exists_eq_left', exists_eq_left, exists_eq', exists_eq_right', exists_eq_right, V.int.injEq, V.ref.injEq, V.bl.injEq, V.str.injEq, List.cons.injEq, and_true, true_and, and_self, Option.some.injEq, List.cons_append, List.nil_append, List.append_nil, List.getElem?_cons_zero, List.getElem?_cons_succ, List.set_cons_zero, List.set_cons_succ, reduceCtorEq, false_and, and_false, exists_false, exists_const, or_false, false_or, scal_ii, scal_bb, scal_ss, List.length_cons, List.length_nil, Int.reduceToNat, Int.reducePow, n_fld, n_sfld, n_aug, n_meth, n_mw, n_make, n_kw, n_rLs, n_dcp, x_sortK, n_gget, n_rLtT, n_ext, n_revL, n_rTp, t_im, ints_rev, t_s1, t_i1, t_i2, t_i3, t_i4, t_i5, x_chain3, x_irng3, x_irevR, x_rg1, x_rg2, ints_cat, ints_app1, ints_len, ints_take, ints_drop, rep_one])
local macro_rules | `(tactic| k_call_by "xo" $h:term) => `(tactic| simp only [$h:term, x_next, x_seq, x_brk, x_cont, x_drop, x_ret, x_retN, x_if, sel_t, sel_f, selE_t, selE_f, selT_t, selT_f, selC_t, selC_f, x_test, x_tB, x_op, x_un, x_var, x_c, x_cb, x_nil, x_cons, x_rI, x_rI0, x_rU, x_rEq, x_rNe, x_rIxL, x_rIxT, n_rSlL, n_rCat, n_rRep, n_rApp, x_bm, x_bm0, x_sl, x_nopart, x_part, n_tup, n_lst, x_call, x_callS, x_asg, x_gname, x_gtup, x_gnil, x_gcons, x_gsub, n_setL, x_aug, x_ipI, x_ipC, x_bits, x_getL, x_augS, x_and, x_or, x_not, x_k, x_andV, x_orV, x_notV, x_ife, x_chain, x_for, x_ilist, x_itup, x_ienum, x_irng1, x_irng2, x_irev, x_lc, x_yes, wipe_nil, wipe_cons, List.map_cons, List.map_nil, x_misc, x_misc2, x_rz, lookup_at, Bool.not_true, Bool.not_false, decide_true, decide_false, not_true, not_false_eq_true, and_assoc, exists_and_left, exists_eq_left', exists_eq_left, exists_eq', exists_eq_right', exists_eq_right, V.int.injEq, V.ref.injEq, V.bl.injEq, V.str.injEq, List.cons.injEq, and_true, true_and, and_self, Option.some.injEq, List.cons_append, List.nil_append, List.append_nil, List.getElem?_cons_zero, List.getElem?_cons_succ, List.set_cons_zero, List.set_cons_succ, reduceCtorEq, false_and, and_false, exists_false, exists_const, or_false, false_or, scal_ii, scal_bb, scal_ss, List.length_cons, List.length_nil, Int.reduceToNat, Int.reducePow, n_fld, n_sfld, n_aug, n_meth, n_mw, n_make, n_kw, n_rLs, n_dcp, x_sortK, n_gget, n_rLtT, n_ext, n_revL, n_rTp, t_im, ints_rev, t_s1, t_i1, t_i2, t_i3, t_i4, t_i5, x_chain3, x_irng3, x_irevR, x_rg1, x_rg2, ints_cat, ints_app1, ints_len, ints_take, ints_drop, rep_one])
local macro_rules | `(tactic| wtm_at "mem") => `(tactic| first | (with_reducible exact mem_here) | (with_reducible refine mem_there ?_; wtm_at "mem"))
local macro_rules | `(tactic| wtm_at "pp") => `(tactic| first | (with_reducible exact Put.here) | (with_reducible apply Put.there; wtm_at "pp"))
local macro_rules | `(tactic| wtm_at "ho") => `(tactic| first | (with_reducible assumption) | exact Own.get (by with_reducible assumption) (by wtm_at "mem") | exact Own.base (by with_reducible assumption) (by with_reducible assumption))
local macro_rules | `(tactic| wtm_at "qo") => `(tactic| first | (with_reducible assumption) | exact SqL.of (by wtm_at "ho") | exact sqT_tupI (by wtm_at "ho") | exact sqT_tupS (by wtm_at "ho") | exact SqT.of (by wtm_at "ho") | exact Own.imT (by with_reducible assumption) (by wtm_at "mem") | exact Own.sq (by with_reducible assumption) (by with_reducible assumption) | exact Own.sqT (by with_reducible assumption) (by with_reducible assumption))
local macro_rules | `(tactic| wtm_at "sub") => `(tactic| first | exact List.nil_sublist _ | (with_reducible refine List.Sublist.cons_cons _ ?_; wtm_at "sub") | (refine List.Sublist.cons _ ?_; wtm_at "sub"))
local macro_rules | `(tactic| wtm_at "co") => `(tactic| first | (with_reducible assumption) | omega | (exact cmul_r (by omega) (by omega)) | (exact cmul_l (by omega) (by omega)) | (exact cdiv_ok (by omega) (by omega)) | (exact cpow_ok (by decide)) | (exact ⟨by omega, by omega, by omega⟩) | decide | (exact ⟨by omega, by omega⟩) | (simp only [List.length_append, List.length_map, List.length_set, List.length_cons, List.length_nil, rngL_len, sizeLine_eq]; omega) | wtm_at "ho" | wtm_at "qo")
local macro_rules | `(tactic| wtm_at "so") => `(tactic| first | ((with_reducible refine g_dcp ?_); refine dcpI (by wtm_at "ho") ?_) | ((with_reducible refine g_asl ?_); refine And.intro (by rfl) ?_) | ((with_reducible refine g_asqT ?_); refine and_sqT (by wtm_at "qo") ?_) | ((with_reducible refine g_extO ?_); first | (refine extI (by with_reducible assumption) (by wtm_at "pp") (by wtm_at "co") (fun _ _ => ?_)) | (refine extO (by with_reducible assumption) (by wtm_at "pp") (by wtm_at "co") (fun _ _ => ?_))) | ((with_reducible refine g_tp ?_); first | (refine tp_l (by wtm_at "qo") ?_) | (refine tp_t (by wtm_at "qo") ?_)) | ((with_reducible refine g_fldO ?_); refine fldO (by wtm_at "ho") (by with_reducible assumption) (by wtm_at "mem") (by wtm_at "lk") ?_) | ((with_reducible refine g_fldC ?_); refine fldC (by wtm_at "ho") (by with_reducible assumption) (by wtm_at "mem") (by wtm_at "lk") ?_) | ((with_reducible refine g_putC ?_); refine putC (by with_reducible assumption) (by wtm_at "pp") (by wtm_at "pu") (by wtm_at "co") (fun _ _ => ?_)) | ((with_reducible refine g_stoO ?_); refine stoO (by with_reducible assumption) (by wtm_at "pp") (by wtm_at "pu") (by with_reducible assumption) (by wtm_at "mem") (by wtm_at "co") (fun _ _ => ?_)) | ((with_reducible refine g_metO ?_); refine metO (by wtm_at "ho") (by wtm_at "ln") ?_) | ((with_reducible refine g_makO ?_); refine makO (by with_reducible assumption) (fun _ _ _ _ => ?_)) | ((with_reducible refine g_sum ?_); refine sum_call (by wtm_at "qo") ?_) | ((with_reducible refine g_cq ?_); exact cq (by with_reducible assumption) (by simp only [rngL_len, List.length_map, List.length_take]; omega)) | ((with_reducible refine g_newO ?_); refine newO (by with_reducible assumption) (fun _ _ _ => ?_)) | ((with_reducible refine g_appO ?_); refine appI (by with_reducible assumption) (by wtm_at "pp") (by wtm_at "co") (fun _ _ => ?_)) | ((with_reducible refine g_setO ?_); refine setI (by with_reducible assumption) (by wtm_at "pp") (by omega) (by wtm_at "co") (fun _ _ => ?_)) | ((with_reducible refine g_appO ?_); refine appO (by with_reducible assumption) (by wtm_at "pp") (by wtm_at "co") (fun _ _ => ?_)) | ((with_reducible refine g_setO ?_); refine setO (by with_reducible assumption) (by wtm_at "pp") (by omega) (by wtm_at "co") (fun _ _ => ?_)) | ((with_reducible refine g_at ?_); refine at_call (by wtm_at "qo") (by omega) (by omega) (fun _ _ => ?_)) | ((with_reducible refine g_row ?_); refine row_call (by wtm_at "ho") ?_) | ((with_reducible refine g_int ?_); refine int_call ?_) | ((with_reducible refine g_isi ?_); first | (with_reducible refine isi_ii ?_) | (with_reducible refine isi_ib ?_) | (refine isi_int rfl ?_) | (refine isi_sqL rfl (by wtm_at "qo") ?_) | (refine isi_sqT rfl (by wtm_at "qo") ?_) | (refine isi_bl rfl ?_) | (refine isi_non rfl ?_) | (refine isi_str rfl ?_)) | ((with_reducible refine g_ned ?_); first | (refine ned_f (dq_lst (by wtm_at "qo")) (dq_lst (by wtm_at "qo")) ?_) | (refine ned_ints (by wtm_at "qo") (by wtm_at "qo") ?_) | (refine nedT_ints (by wtm_at "qo") (by wtm_at "qo") ?_)) | ((with_reducible refine g_eqd ?_); first | (refine eqd_t (dq_lst (by wtm_at "qo")) (dq_lst (by wtm_at "qo")) ?_) | (refine eqd_ints (by wtm_at "qo") (by wtm_at "qo") ?_) | (refine eqdT_ints (by wtm_at "qo") (by wtm_at "qo") ?_)) | ((with_reducible refine g_tyv ?_); refine and_tyv (by wtm_at "qo") ?_) | ((with_reducible refine g_asq ?_); refine and_sq (by wtm_at "qo") ?_) | ((with_reducible refine g_lst ?_); refine ex_lst (by wtm_at "ho") ?_) | ((with_reducible refine g_or ?_); first | (refine ex_or (by wtm_at "qo") ?_) | (refine ex_ort (by wtm_at "qo") ?_)) | ((with_reducible refine g_sq ?_); refine ex_sq (by wtm_at "qo") ?_) | ((with_reducible refine g_sqt ?_); refine ex_sqt (by wtm_at "qo") ?_) | ((with_reducible refine gd_sel ?_); first | (refine sel_p (by wtm_at "pf") ?_) | (refine sel_n (by wtm_at "pf") ?_)) | ((with_reducible refine gn_sel ?_); first | (refine selN_p (by wtm_at "pf") ?_) | (refine selN_n (by wtm_at "pf") ?_)) | ((with_reducible refine gd_selT ?_); first | (refine selT_p (by wtm_at "pf") ?_) | (refine selT_n (by wtm_at "pf") ?_)) | ((with_reducible refine gn_selT ?_); first | (refine selTN_p (by wtm_at "pf") ?_) | (refine selTN_n (by wtm_at "pf") ?_)) | ((with_reducible refine gd_selE ?_); first | (refine selE_p (by wtm_at "pf") ?_) | (refine selE_n (by wtm_at "pf") ?_)) | ((with_reducible refine gn_selE ?_); first | (refine selEN_p (by wtm_at "pf") ?_) | (refine selEN_n (by wtm_at "pf") ?_)) | ((with_reducible refine g_xf ?_); refine xf_at rfl (by wtm_at "ho") ?_) | ((with_reducible refine g_atI ?_); refine ex_at (by first | exact rfl | exact atI_int (by omega) (by wtm_at "pf") | exact atI_end (by wtm_at "pf")) ?_) | ((with_reducible refine g_and ?_); refine And.intro (by wtm_at "co") ?_))
local macro_rules | `(tactic| wtm_at "oo") => `(tactic| repeat (first | wtm_at "xo" | wtm_at "so"))
local macro_rules | `(tactic| wtm_at "cR") => `(tactic| (refine' compRi _ (by with_reducible assumption) (by omega) (fun _ _ _ _ _ => ?_) (fun _ _ _ => ?_); rotate_left; focus (wtm_at "oo")))

local macro_rules | `(tactic| wtm_at "lk") => `(tactic| first | (with_reducible exact lk_here) | (simp only [lk_here, lk_skip, lk_nil]; first | done | exact rfl))
local macro_rules | `(tactic| wtm_at "ln") => `(tactic| first | (with_reducible exact lk_nil) | (simp only [lk_skip, lk_nil]; done))
local macro_rules | `(tactic| wtm_at "pu") => `(tactic| first | (with_reducible exact pf_nil) | (simp only [pf_nil, pf_here, pf_skip]; first | done | exact rfl))
local macro_rules | `(tactic| wtm_at "tk") => `(tactic| first | (with_reducible exact Take.here) | (exact Take.here) | ((with_reducible apply Take.there); wtm_at "tk"))
local macro_rules | `(tactic| wtm_at "pk") => `(tactic| first | exact Pick.nil | ((with_reducible refine' Pick.cons ?tk1 ?pk1); (case tk1 => wtm_at "tk"); (case pk1 => wtm_at "pk")) | ((with_reducible refine Pick.im (by wtm_at "mem") ?_); wtm_at "pk") | ((with_reducible refine Pick.ims (by wtm_at "mem") ?_); wtm_at "pk"))

local macro_rules | `(tactic| wtm_at "ta") => `(tactic| first | (with_reducible exact TakeA.here) | ((with_reducible apply TakeA.there); wtm_at "ta"))
local macro_rules | `(tactic| wtm_at "tb") => `(tactic| first | (exact TakeA.here) | ((with_reducible apply TakeA.there); wtm_at "tb"))
local macro_rules | `(tactic| wtm_at "pa") => `(tactic| first | exact PickA.nil | ((with_reducible refine PickA.im (by wtm_at "mem") ?_); wtm_at "pa") | ((with_reducible refine PickA.ims (by wtm_at "mem") ?_); wtm_at "pa") | ((with_reducible refine' PickA.any ?tk1 ?pk1); (case tk1 => first | wtm_at "ta" | wtm_at "tb"); (case pk1 => wtm_at "pa")))
section
variable {P : Program} {w : World} {K : PySem.W.Frag} {mg : Str → Option Value} {base : Heap} [TBC K mg base]
/-! the rows that are formed -/
def symsTo (cs : List Int) : Nat → List (Int × Int)
  | 0 => []
  | i + 1 => if 0 < cs.getD i 0 then symsTo cs i ++ [(cs.getD i 0, (i : Int))] else symsTo cs i
def prs (row : List (Int × Int)) (n : Nat) : List (Int × Int) := (List.range n).map fun j : Nat => ((row.getD (2 * j) (0, 0)).1 + (row.getD (2 * j + 1) (0, 0)).1, -1)
def rowN (cs : List Int) : Nat → List (Int × Int)
  | 0 => (symsTo cs cs.length).mergeSort leP
  | t + 1 => (symsTo cs cs.length ++ prs (rowN cs t) ((rowN cs t).length / 2)).mergeSort leP
def later (cs : List Int) : Nat → List (Int × Int)
  | 0 => []
  | t + 1 => prs (rowN cs t) ((rowN cs t).length / 2)
theorem rowN_eq (cs : List Int) (t : Nat) : rowN cs t = (symsTo cs cs.length ++ later cs t).mergeSort leP := by
  cases t with
  | zero => show (symsTo cs cs.length).mergeSort leP = (symsTo cs cs.length ++ []).mergeSort leP; rw [List.append_nil]
  | succ t => rfl
def formed (cs : List Int) (m : Nat) : List (List (Int × Int)) := ((List.range m).map (rowN cs)).reverse
theorem symsTo_len {cs : List Int} : ∀ i, (symsTo cs i).length ≤ i
  | 0 => Nat.le_refl _
  | i + 1 => by
    have := symsTo_len (cs := cs) i
    unfold symsTo
    split
    · rw [List.length_append, List.length_singleton]
      omega
    · omega
theorem prs_len {row : List (Int × Int)} {n : Nat} : (prs row n).length = n := by
  unfold prs
  rw [List.length_map, List.length_range]
theorem rowN_len {cs : List Int} : ∀ t, (rowN cs t).length ≤ 2 * cs.length
  | 0 => by
    have := symsTo_len (cs := cs) cs.length
    unfold rowN
    rw [List.length_mergeSort]
    omega
  | t + 1 => by
    have := symsTo_len (cs := cs) cs.length
    have := rowN_len (cs := cs) t
    unfold rowN
    rw [List.length_mergeSort, List.length_append, prs_len]
    omega
theorem later_len {cs : List Int} (t : Nat) : (later cs t).length ≤ cs.length := by
  cases t with
  | zero => exact Nat.zero_le _
  | succ t =>
    have := rowN_len (cs := cs) t
    unfold later
    rw [prs_len]
    omega
theorem prs_succ {row : List (Int × Int)} {n : Nat} : prs row (n + 1) = prs row n ++ [((row.getD (2 * n) (0, 0)).1 + (row.getD (2 * n + 1) (0, 0)).1, -1)] := by
  unfold prs
  rw [List.range_succ, List.map_append]
  rfl
/-- an item of a list of pairs -/
theorem pairAt {K : PySem.W.Frag} {H : Hp} {vs : List V} {ps : List (Int × Int)} {k : Nat} (h : ImmL K H vs (ps.map tI2)) (hk : k < ps.length) : ∃ r, vs[k]? = some (.ref r) ∧ SqT K H r ([(ps.getD k (0, 0)).1, (ps.getD k (0, 0)).2].map V.int) := by
  obtain ⟨x, hx, im⟩ := ImmL.at_ h (i := k) (d := tI2 ps[k]) (by rw [List.getElem?_map, List.getElem?_eq_getElem hk]; rfl)
  obtain ⟨r, rfl, hr⟩ := Imm.of_ints im
  refine ⟨r, hx, ?_⟩
  rw [List.getD_eq_getElem?_getD, List.getElem?_eq_getElem hk]
  exact hr
theorem snocP {K : PySem.W.Frag} {B H : Hp} {l : List As} {r : Addr} {a b : Int} {vs : List V} {xs : List (Int × Int)} (L : Own K B H l) (m : As.pt r (tupI [a, b]) ∈ l) (m2 : As.ims vs (xs.map tI2) ∈ l) : Own K B H (.ims (vs ++ [.ref r]) ((xs ++ [(a, b)]).map tI2) :: l) := L.addIms (by
  rw [List.map_append]
  exact (L.imms m2).snoc (L.imI m))
def sp__formed_rows (K : PySem.W.Frag) : Sp := fun vs H Q _ => ∃ (a : Addr) (cs : List Int) (m : Nat), vs = [.ref a, .int (m : Nat)] ∧ SqL K H a (cs.map V.int) ∧ cs.length ≤ 10000 ∧ m ≤ 15 ∧ TabS H (tabP K) qLam ∧
  ∀ p pl H', rOk pl → rC pl = formed cs m → Own K (delL H [tabP K]) H' [.pt p (.lst (rR pl)), pRO pl, pRI pl, .tab (tabP K)] → Q (.ref p) H'
theorem ok__formed_rows (T : Tx K mg) : Cl P w K mg base 1 "_formed_rows" ["counts", "most"] (sp__formed_rows K) [] := by
  obtain ⟨gm, fd, F⟩ := T.d__formed_rows
  refine ⟨_, fd, [], okT F sc__formed_rows (fun vs H Q E h => ?_) (fun A outer s H vs Q E hr h => ⟨_, (PSs.nox (pss_cons (ps_setLc (i := 2) (own := [("symbol", 3), ("count", 4)]) (g := (gTup K 2 (gCons (gName 3) (gCons (gName 4) gNil)))) rfl sc__formed_rows.nd rfl rfl (sw_true rfl rfl rfl (by decide +kernel)) (pi_enum (by rfl) T.b_enumerate (pa_cons (pv 0) pa_nil)) (blkOk_by (own := [("symbol", 3), ("count", 4)]) (N := N__formed_rows) (sc := defScope s__formed_rows) (by decide +kernel)) (fun _ _ _ _ _ => (pg_tupK K 2 rfl (pgs_cons (pg_name (i := 3) sc__formed_rows.nd rfl (Or.inl rfl)) (pgs_cons (pg_name (i := 4) sc__formed_rows.nd rfl (Or.inl rfl)) pgs_nil)))) (fun _ _ _ _ _ => pts_one (pt_cmpR op_gt (pv 4) pe_int (nomark _))) (fun _ _ _ _ _ => (pe_tup (pa_cons (pv 4) (pa_cons (pv 3) pa_nil)))))
 (pss_cons (ps_set (i := 5) sc__formed_rows.nd rfl (Or.inl rfl) (by exact (pe_lst pa_nil)))
 (pss_cons (ps_set (i := 6) sc__formed_rows.nd rfl (Or.inl rfl) (by exact (pe_lst pa_nil)))
 (pss_cons (ps_for PassesOwn.never rfl (pi_range1 rfl T.b_range (pa_cons (pv 1) pa_nil)) (pg_name (i := 7) sc__formed_rows.nd rfl (Or.inl rfl))
 (pss_cons (ps_set (i := 8) sc__formed_rows.nd rfl (Or.inr rfl) (by exact (pe_sortLamK K mg base hr rfl T.b_sorted rfl (pa_cons (pe_op op_cat (pv 2) (pv 6)) pa_nil) rfl (fun _ _ _ _ _ => rfl) rfl rfl rfl rfl (by decide) (by decide) (by decide))))
 (pss_cons (ps_setLc (i := 6) (own := [("k", 9)]) (g := (gName 9)) (tt := tYes) rfl sc__formed_rows.nd rfl rfl (sw_true rfl rfl rfl (by decide +kernel)) (pi_range3 rfl T.b_range (pa_cons pe_int (pa_cons (pe_op op_sub (pe_callB (lenK K) rfl T.b_len (by decide +kernel) (pa_cons (pv 8) pa_nil)) pe_int) (pa_cons pe_int pa_nil)))) (blkOk_by (own := [("k", 9)]) (N := N__formed_rows) (sc := defScope s__formed_rows) (by decide +kernel)) (fun _ _ _ _ _ => pg_name (i := 9) sc__formed_rows.nd rfl (Or.inl rfl)) (fun _ _ _ _ _ => pts_nil) (fun _ _ _ _ _ => (pe_tup (pa_cons (pe_op op_add (pe_ix (ixt K) (pe_ix (ixl K) (pv 8) (pv 9) (fun _ _ => rfl)) pe_int (fun _ _ => rfl)) (pe_ix (ixt K) (pe_ix (ixl K) (pv 8) (pe_op op_add (pv 9) pe_int) (fun _ _ => rfl)) pe_int (fun _ _ => rfl))) (pa_cons (pe_gc rfl T.c__PAIR) pa_nil)))))
 (pss_one (ps_expr (pe_bm PySem.F.plainAttrs_list PySem.F.slot_list_append PySem.F.type_list_append mt_append (pv 5) (pa_cons (pv 8) pa_nil)))))))
 (pss_cons (ps_expr (pe_bm0 PySem.F.plainAttrs_list PySem.F.slot_list_reverse PySem.F.type_list_reverse mt_reverse (pv 5)))
 (pss_one (ps_ret (by exact (pv 5)))))))))), ?_⟩), gm, F.kp, F.bindsN (fun _ _ _ _ _ _ us hl => match us, hl with | [_, _], _ => rfl), .nil⟩
  · first | (obtain ⟨rfl, _⟩ := h; rfl) | (obtain ⟨_, rfl, _⟩ := h; rfl) | (obtain ⟨_, _, rfl, _⟩ := h; rfl) | (obtain ⟨_, _, _, rfl, _⟩ := h; rfl) | (obtain ⟨_, _, _, _, rfl, _⟩ := h; rfl) | (obtain ⟨_, _, _, _, _, rfl, _⟩ := h; rfl) | (obtain ⟨_, _, _, _, _, _, rfl, _⟩ := h; rfl) | (obtain ⟨_, _, _, _, _, _, _, rfl, _⟩ := h; rfl) | (obtain ⟨_, _, _, _, _, _, _, _, rfl, _⟩ := h; rfl) | (obtain ⟨_, _, _, _, _, _, _, _, _, rfl, _⟩ := h; rfl) | (obtain ⟨_, _, _, _, _, _, _, _, _, _, rfl, _⟩ := h; rfl) | (obtain ⟨_, _, _, _, _, _, _, _, _, _, _, rfl, _⟩ := h; rfl) | (obtain ⟨_, _, _, _, _, _, _, _, _, _, _, _, rfl, _⟩ := h; rfl) | (obtain ⟨_, _, _, _, _, _, _, _, _, _, _, _, _, rfl, _⟩ := h; rfl) | (obtain ⟨_, _, _, _, _, _, _, _, _, _, _, _, _, _, rfl, _⟩ := h; rfl) | (obtain ⟨_, _, _, _, _, _, _, _, _, _, _, _, _, _, _, rfl, _⟩ := h; rfl) | (obtain ⟨_, _, _, _, _, _, _, _, _, _, _, _, _, _, _, _, rfl, _⟩ := h; rfl) | (obtain ⟨_, _, _, _, _, _, _, _, _, _, _, _, _, _, _, _, _, rfl, _⟩ := h; rfl) | (obtain ⟨_, _, _, _, _, _, _, _, _, _, _, _, _, _, _, _, _, _, rfl, _⟩ := h; rfl) | (obtain ⟨_, _, _, _, _, _, _, _, _, _, _, _, _, _, _, _, _, _, _, rfl, _⟩ := h; rfl) | (obtain ⟨_, _, _, _, _, _, _, _, _, _, _, _, _, _, _, _, _, _, _, _, rfl, _⟩ := h; rfl) | (obtain ⟨_, _, _, _, _, _, _, _, _, _, _, _, _, _, _, _, _, _, _, _, _, rfl, _⟩ := h; rfl)
  · obtain ⟨a, cs, m, rfl, hS0, hl, hm, hT, q⟩ := h
    k_call_by "xo" st__formed_rows
    have L := Own.startT (K := K) hT
    have hS := del_sqL hT hS0
    wtm_at "oo"
    intro D hD
    refine comp_enum (xs := cs.map V.int) (fun i H' => ∃ vs, Own K (delL H [tabP K]) H' [.pt D (.lst vs), .ims vs ((symsTo cs i).map tI2), .tab (tabP K)]) ⟨[], (((L.new hD _).addIms .nil).perm (List.Perm.swap _ _ _))⟩ (fun i H' _ ⟨_, h⟩ => h.sq hS) ?_ ?_
    · rintro i x H1 T1 hx ⟨vs, L1⟩ hT1
      obtain ⟨z, hz, rfl⟩ := int_at hx
      have hi : i < cs.length := by
        apply Decidable.byContradiction
        intro c
        rw [List.getElem?_eq_none (by omega)] at hz
        cases hz
      have ez : cs.getD i 0 = z := by
        rw [List.getD_eq_getElem?_getD, hz]
        rfl
      have lv : vs.length ≤ i := by
        have := (L1.imms (mem_there mem_here)).len
        rw [List.length_map] at this
        rw [this]
        exact symsTo_len i
      have L2 := L1.new hT1 (tupI [(i : Int), z])
      show gTup _ _ _ _ _ (upd H1 T1 (tupI [(i : Int), z])) _
      generalize (upd H1 T1 (tupI [(i : Int), z])) = G at *
      clear L1
      have es : symsTo cs (i + 1) = if 0 < z then symsTo cs i ++ [(z, (i : Int))] else symsTo cs i := by
        rw [← ez]
        rfl
      wtm_at "oo"
      rw [es]
      refine ite_d (fun c => ?_) (fun c => ?_)
      · rw [if_pos c]
        wtm_at "oo"
        rename_i r G2 L3
        have L4 := snocP L3 (a := z) (b := (i : Int)) mem_here (by wtm_at "mem")
        exact ⟨_, (L4.put (o' := .lst (vs ++ [V.ref r])) rfl (.there (.there (.there .here)))).pickA (by wtm_at "pa")⟩
      · rw [if_neg c]
        exact ⟨vs, L2.drop1⟩
    · rintro H1 ⟨svs, L1⟩
      rw [List.length_map] at L1
      have lsv : svs.length ≤ cs.length := by
        have := (L1.imms (mem_there mem_here)).len
        rw [List.length_map] at this
        rw [this]
        exact symsTo_len _
      clear L hD
      wtm_at "oo"
      rename_i rp G1 M1 pp G2 L2
      clear M1 L1
      have z0 : rOk [] := fun _ h => nomatch h
      have L3 : Own K (delL H [tabP K]) G2 [.pt rp (.lst []), .objs [], .ims [] [], .pt pp (.lst []), .ims [] [], .pt D (.lst svs), .ims svs ((symsTo cs cs.length).map tI2), .tab (tabP K)] := by
        have := (L2.objs0).addIms (vs := []) (ds := []) .nil
        exact this.pickA (by wtm_at "pa")
      clear L2
      refine loop_rangeN (m := m) (by omega) (fun t σ H' => ∃ pp pvs pl y7 y8 y9, σ = [some (.ref a), some (.int (m : Nat)), some (.ref D), none, none, some (.ref rp), some (.ref pp), y7, y8, y9] ∧ rOk pl ∧ rC pl = (List.range t).map (rowN cs) ∧
        Own K (delL H [tabP K]) H' [.pt rp (.lst (rR pl)), pRO pl, pRI pl, .pt pp (.lst pvs), .ims pvs ((later cs t).map tI2), .pt D (.lst svs), .ims svs ((symsTo cs cs.length).map tI2), .tab (tabP K)]) ⟨pp, [], [], _, _, _, rfl, z0, rfl, L3⟩ ?_ ?_
      · clear L3
        rintro t σ H3 ht ⟨pp, pvs, pl, y7, y8, y9, rfl, ok, rc, L⟩
        have lpv : pvs.length ≤ cs.length := by
          have := (L.imms (mem_there (mem_there (mem_there (mem_there mem_here))))).len
          rw [List.length_map] at this
          rw [this]
          exact later_len t
        have lpl : pl.length = t := by
          have := congrArg List.length rc
          rwa [rC_len, List.length_map, List.length_range] at this
        wtm_at "oo"
        rename_i cp G3 L2
        have L3 := L2.addIms (vs := svs ++ pvs) (ds := (symsTo cs cs.length ++ later cs t).map tI2) (by
          rw [List.map_append]
          exact ImmL.append (L2.imms (by wtm_at "mem")) (L2.imms (by wtm_at "mem")))
        refine srtK L3 (by wtm_at "mem") (by wtm_at "qo") (L3.imms mem_here) fun sp sv G4 L4 => ?_
        rw [← rowN_eq] at L4
        clear L L2 L3
        have lsv2 : sv.length = (rowN cs t).length := by
          have := (L4.imms (mem_there mem_here)).len
          rwa [List.length_map] at this
        have lrow := rowN_len (cs := cs) t
        wtm_at "oo"
        have nn : ((sv.length : Int) - 1 - 0 + 2 - 1) / 2 = ((rowN cs t).length / 2 : Nat) := by omega
        refine rgPos (by decide) (by decide) (by omega) (by omega) (by omega) (by omega) ?_
        rw [nn, Int.toNat_natCast]
        intro D1 hD1
        refine comp_rangeC (fun j H' => ∃ us, Own K (delL H [tabP K]) H' (.pt D1 (.lst us) :: .ims us ((prs (rowN cs t) j).map tI2) :: [As.pt sp (.lst sv), As.ims sv ((rowN cs t).map tI2), As.pt rp (.lst (rR pl)), pRO pl, pRI pl, As.pt D (.lst svs), As.ims svs ((symsTo cs cs.length).map tI2), As.tab (tabP K)])) ⟨[], ((L4.new hD1 _).addIms (vs := []) (ds := (prs (rowN cs t) 0).map tI2) .nil).pickA (by wtm_at "pa")⟩ ?_ ?_
        · clear L4 hD1
          rintro j H5 hj ⟨us, L⟩
          have lus : us.length = j := by
            have := (L.imms (mem_there mem_here)).len
            rwa [List.length_map, prs_len] at this
          obtain ⟨r1, e1, s1⟩ := pairAt (L.imms (mem_there (mem_there (mem_there mem_here)))) (k := 2 * j) (by omega)
          obtain ⟨r2, e2, s2⟩ := pairAt (L.imms (mem_there (mem_there (mem_there mem_here)))) (k := 2 * j + 1) (by omega)
          have a1 : atI sv (0 + (j : Int) * 2) = some (.ref r1) := by
            rw [show 0 + (j : Int) * 2 = ((2 * j : Nat) : Int) by omega]
            exact atI_nat e1
          have a2 : atI sv (0 + (j : Int) * 2 + 1) = some (.ref r2) := by
            rw [show 0 + (j : Int) * 2 + 1 = ((2 * j + 1 : Nat) : Int) by omega]
            exact atI_nat e2
          wtm_at "oo"
          rw [if_pos trivial]
          refine ex_sq (by wtm_at "qo") (ex_at a1 ?_)
          wtm_at "oo"
          refine ex_at a2 ?_
          wtm_at "oo"
          rename_i r G5 L5
          rw [prs_succ]
          have L6 := snocP L5 mem_here (mem_there (mem_there mem_here))
          exact ⟨us ++ [V.ref r], (L6.put (o' := .lst (us ++ [V.ref r])) rfl (.there (.there .here))).pickA (by wtm_at "pa")⟩
        · rintro H5 ⟨us, L⟩
          clear L4 hD1
          wtm_at "oo"
          refine appO L (.there (.there (.there (.there .here)))) (by rw [rR_len, lpl, sizeLine_eq]; omega) fun H6 L6 => ?_
          have L7 : Own K (delL H [tabP K]) H6 (.pt sp (.lst sv) :: .ims sv ((rowN cs t).map tI2) :: pRO pl :: pRI pl :: [.pt rp (.lst (rR pl ++ [V.ref sp])), .pt D1 (.lst us), .ims us ((prs (rowN cs t) ((rowN cs t).length / 2)).map tI2), .pt D (.lst svs), .ims svs ((symsTo cs cs.length).map tI2), .tab (tabP K)]) := L6.pickA (by wtm_at "pa")
          obtain ⟨ok2, L8⟩ := rowIn ok L7
          rw [← rR_snoc (q := (sp, sv, rowN cs t))] at L8
          refine ⟨us, pl ++ [(sp, sv, rowN cs t)], ok2, by rw [rC_snoc, rc, List.range_succ, List.map_append]; rfl, ?_⟩
          show Own K (delL H [tabP K]) H6 [.pt rp (.lst (rR (pl ++ [(sp, sv, rowN cs t)]))), pRO (pl ++ [(sp, sv, rowN cs t)]), pRI (pl ++ [(sp, sv, rowN cs t)]), .pt D1 (.lst us), .ims us ((prs (rowN cs t) ((rowN cs t).length / 2)).map tI2), .pt D (.lst svs), .ims svs ((symsTo cs cs.length).map tI2), .tab (tabP K)]
          exact L8.pickA (by wtm_at "pa")
      · rintro σ H3 ⟨pp, pvs, pl, y7, y8, y9, rfl, ok, rc, L⟩
        wtm_at "oo"
        refine ⟨rp, rR pl, rfl, rfl, L.get mem_here, ?_⟩
        have L2 := (L.put (o' := .lst (rR pl).reverse) rfl .here).pickA (l' := [pRO pl, pRI pl, .pt rp (.lst (rR pl).reverse), .tab (tabP K)]) (by wtm_at "pa")
        obtain ⟨ok2, L3⟩ := rowsRev ok L2
        refine q rp pl.reverse _ ok2 ?_ ?_
        · unfold formed
          rw [← rc]
          exact List.map_reverse
        · have e : (rR pl).reverse = rR pl.reverse := List.map_reverse.symm
          rw [e] at L3 ⊢
          exact L3.pickA (by wtm_at "pa")


end
end K13

namespace K13
open PySem PySem.Spec PyProof.Rows L2 Bel LamX
local macro_rules | `(tactic| wtm_at "xs") => `(tactic| simp only [x_next, x_seq, x_brk, x_cont, x_drop, x_ret, x_retN, x_if, sel_t, sel_f, selE_t, selE_f, selT_t, selT_f, selC_t, selC_f, x_test, x_tB, x_op, x_un, x_var, x_c, x_cb, x_nil, x_cons, x_rI, x_rI0, x_rU, x_rEq, x_rNe, x_rIxL, x_rIxT, x_rSlL, x_rCat, x_rRep, x_rApp, x_bm, x_bm0, x_sl, x_nopart, x_part, x_tup, x_lst, x_call, x_callS, x_asg, x_gname, x_gtup, x_gnil, x_gcons, x_gsub, x_setL, x_aug, x_ipI, x_ipC, x_bits, x_getL, x_augS, x_and, x_or, x_not, x_k, x_andV, x_orV, x_notV, x_ife, x_chain, x_for, x_ilist, x_itup, x_ienum, x_irng1, x_irng2, x_irev, x_lc, x_yes, wipe_nil, wipe_cons, List.map_cons, List.map_nil, x_misc, x_misc2, x_rz, lookup_at, Bool.not_true, Bool.not_false, decide_true, decide_false, not_true, not_false_eq_true, and_assoc, exists_and_left, exists_eq_left', exists_eq_left, exists_eq', exists_eq_right', exists_eq_right, V.int.injEq, V.ref.injEq, V.bl.injEq, V.str.injEq, List.cons.injEq, and_true, true_and, and_self, Option.some.injEq, List.cons_append, List.nil_append, List.append_nil, List.getElem?_cons_zero, List.getElem?_cons_succ, List.set_cons_zero, List.set_cons_succ, reduceCtorEq, false_and, and_false, exists_false, exists_const, or_false, false_or, scal_ii, scal_bb, scal_ss, List.length_cons, List.length_nil, Int.reduceToNat, Int.reducePow])
local macro_rules | `(tactic| k_call_by "xs" $h:term) => `(tactic| simp only [$h:term, x_next, x_seq, x_brk, x_cont, x_drop, x_ret, x_retN, x_if, sel_t, sel_f, selE_t, selE_f, selT_t, selT_f, selC_t, selC_f, x_test, x_tB, x_op, x_un, x_var, x_c, x_cb, x_nil, x_cons, x_rI, x_rI0, x_rU, x_rEq, x_rNe, x_rIxL, x_rIxT, x_rSlL, x_rCat, x_rRep, x_rApp, x_bm, x_bm0, x_sl, x_nopart, x_part, x_tup, x_lst, x_call, x_callS, x_asg, x_gname, x_gtup, x_gnil, x_gcons, x_gsub, x_setL, x_aug, x_ipI, x_ipC, x_bits, x_getL, x_augS, x_and, x_or, x_not, x_k, x_andV, x_orV, x_notV, x_ife, x_chain, x_for, x_ilist, x_itup, x_ienum, x_irng1, x_irng2, x_irev, x_lc, x_yes, wipe_nil, wipe_cons, List.map_cons, List.map_nil, x_misc, x_misc2, x_rz, lookup_at, Bool.not_true, Bool.not_false, decide_true, decide_false, not_true, not_false_eq_true, and_assoc, exists_and_left, exists_eq_left', exists_eq_left, exists_eq', exists_eq_right', exists_eq_right, V.int.injEq, V.ref.injEq, V.bl.injEq, V.str.injEq, List.cons.injEq, and_true, true_and, and_self, Option.some.injEq, List.cons_append, List.nil_append, List.append_nil, List.getElem?_cons_zero, List.getElem?_cons_succ, List.set_cons_zero, List.set_cons_succ, reduceCtorEq, false_and, and_false, exists_false, exists_const, or_false, false_or, scal_ii, scal_bb, scal_ss, List.length_cons, List.length_nil, Int.reduceToNat, Int.reducePow])
local macro_rules | `(tactic| wtm_at "hp") => `(tactic| first | (with_reducible assumption) | exact upd_same | (refine upd_keep (by with_reducible assumption) ?_; wtm_at "hp") | (refine Same.get (by with_reducible assumption) ?_; wtm_at "hp") | (refine upd_other (by first | (with_reducible assumption) | exact Ne.symm (by with_reducible assumption)) ?_; wtm_at "hp"))
local macro_rules | `(tactic| wtm_at "sq") => `(tactic| first | (with_reducible assumption) | exact SqL.of (by wtm_at "hp") | exact SqT.of (by wtm_at "hp") | (refine Same.seq (same_upd (by with_reducible assumption)) ?_; wtm_at "sq") | (refine Same.seq (by with_reducible assumption) ?_; wtm_at "sq") | (refine Same.seqT (same_upd (by with_reducible assumption)) ?_; wtm_at "sq") | (refine Same.seqT (by with_reducible assumption) ?_; wtm_at "sq"))
local macro_rules | `(tactic| wtm_at "cl") => `(tactic| first | (with_reducible assumption) | omega | (exact cmul_r (by omega) (by omega)) | (exact cmul_l (by omega) (by omega)) | (exact cdiv_ok (by omega) (by omega)) | (exact cpow_ok (by decide)) | (exact ⟨by omega, by omega, by omega⟩) | decide | (exact ⟨by omega, by omega⟩) | (simp only [List.length_append, List.length_map, List.length_set, List.length_cons, List.length_nil, rngL_len, sizeLine_eq]; omega) | wtm_at "hp" | wtm_at "sq")
local macro_rules | `(tactic| wtm_at "pf") => `(tactic| first | (with_reducible assumption) | omega | (simp only [List.length_append, List.length_map, List.length_set, List.length_cons, List.length_nil, rngL_len]; omega) | (with_reducible rfl) | (with_reducible trivial) | (with_reducible decide))
local macro_rules | `(tactic| wtm_at "st") => `(tactic| first | ((with_reducible refine g_at ?_); refine at_call (by wtm_at "sq") (by omega) (by omega) (fun _ _ => ?_)) | ((with_reducible refine g_row ?_); refine row_call (by wtm_at "hp") ?_) | ((with_reducible refine g_int ?_); refine int_call ?_) | ((with_reducible refine g_isi ?_); first | (with_reducible refine isi_ii ?_) | (with_reducible refine isi_ib ?_) | (refine isi_int rfl ?_) | (refine isi_lst rfl (by wtm_at "hp") ?_) | (refine isi_tup rfl (by wtm_at "hp") ?_)) | ((with_reducible refine g_ned ?_); refine ned_f (dq_lst (by wtm_at "sq")) (dq_lst (by wtm_at "sq")) ?_) | ((with_reducible refine g_eqd ?_); refine eqd_t (dq_lst (by wtm_at "sq")) (dq_lst (by wtm_at "sq")) ?_) | ((with_reducible refine g_tyv ?_); refine and_tyv (by wtm_at "sq") ?_) | ((with_reducible refine g_asq ?_); refine and_sq (by wtm_at "sq") ?_) | ((with_reducible refine g_lst ?_); refine ex_lst (by wtm_at "hp") ?_) | ((with_reducible refine g_or ?_); first | (refine ex_or (by wtm_at "sq") ?_) | (refine ex_ort (by wtm_at "sq") ?_)) | ((with_reducible refine g_sq ?_); refine ex_sq (by wtm_at "sq") ?_) | ((with_reducible refine g_sqt ?_); refine ex_sqt (by wtm_at "sq") ?_) | ((with_reducible refine gd_sel ?_); first | (refine sel_p (by wtm_at "pf") ?_) | (refine sel_n (by wtm_at "pf") ?_)) | ((with_reducible refine gn_sel ?_); first | (refine selN_p (by wtm_at "pf") ?_) | (refine selN_n (by wtm_at "pf") ?_)) | ((with_reducible refine gd_selT ?_); first | (refine selT_p (by wtm_at "pf") ?_) | (refine selT_n (by wtm_at "pf") ?_)) | ((with_reducible refine gn_selT ?_); first | (refine selTN_p (by wtm_at "pf") ?_) | (refine selTN_n (by wtm_at "pf") ?_)) | ((with_reducible refine gd_selE ?_); first | (refine selE_p (by wtm_at "pf") ?_) | (refine selE_n (by wtm_at "pf") ?_)) | ((with_reducible refine gn_selE ?_); first | (refine selEN_p (by wtm_at "pf") ?_) | (refine selEN_n (by wtm_at "pf") ?_)) | ((with_reducible refine g_xf ?_); refine xf_at rfl (by wtm_at "hp") ?_) | ((with_reducible refine g_atI ?_); refine ex_at (by first | exact rfl | exact atI_int (by omega) (by wtm_at "pf") | exact atI_end (by wtm_at "pf")) ?_) | ((with_reducible refine g_and ?_); refine And.intro (by wtm_at "cl") ?_) | ((with_reducible refine g_new ?_); intro _ _))
local macro_rules | `(tactic| wtm_at "go") => `(tactic| repeat (first | wtm_at "xs" | wtm_at "st"))
local macro_rules | `(tactic| wtm_at "xo") => `(tactic| simp only [x_next, x_seq, x_brk, x_cont, x_drop, x_ret, x_retN, x_if, sel_t, sel_f, selE_t, selE_f, selT_t, selT_f, selC_t, selC_f, x_test, x_tB, x_op, x_un, x_var, x_c, x_cb, x_nil, x_cons, x_rI, x_rI0, x_rU, x_rEq, x_rNe, x_rIxL, x_rIxT, n_rSlL, n_rCat, n_rRep, n_rApp, x_bm, x_bm0, x_sl, x_nopart, x_part, n_tup, n_lst, x_call, x_callS, x_asg, x_gname, x_gtup, x_gnil, x_gcons, x_gsub, n_setL, x_aug, x_ipI, x_ipC, x_bits, x_getL, x_augS, x_and, x_or, x_not, x_k, x_andV, x_orV, x_notV, x_ife, x_chain, x_for, x_ilist, x_itup, x_ienum, x_irng1, x_irng2, x_irev, x_lc, x_yes, wipe_nil, wipe_cons, List.map_cons, List.map_nil, x_misc, x_misc2, x_rz, lookup_at, Bool.not_true, Bool.not_false, decide_true, decide_false, not_true, not_false_eq_true, and_assoc, exists_and_left, exists_eq_left', exists_eq_left, exists_eq', exists_eq_right', exists_eq_right, V.int.injEq, V.ref.injEq, V.bl.injEq, V.str.injEq, List.cons.injEq, and_true, true_and, and_self, Option.some.injEq, List.cons_append, List.nil_append, List.append_nil, List.getElem?_cons_zero, List.getElem?_cons_succ, List.set_cons_zero, List.set_cons_succ, reduceCtorEq, false_and, and_false, exists_false, exists_const, or_false, false_or, scal_ii, scal_bb, scal_ss, List.length_cons, List.length_nil, Int.reduceToNat, Int.reducePow, n_fld, n_sfld, n_aug, n_meth, n_mw, n_make, n_kw, n_rLs, n_dcp, x_sortK, n_gget, n_rLtT, n_ext, n_revL, n_rTp, t_im, ints_rev, t_s1, t_i1, t_i2, t_i3, t_i4, t_i5, x_chain3, x_irng3, x_irevR, x_rg1, x_rg2, ints_cat, ints_app1, ints_len, ints_take, ints_drop, rep_one])
local macro_rules | `(tactic| k_call_by "xo" $h:term) => `(tactic| simp only [$h:term, x_next, x_seq, x_brk, x_cont, x_drop, x_ret, x_retN, x_if, sel_t, sel_f, selE_t, selE_f, selT_t, selT_f, selC_t, selC_f, x_test, x_tB, x_op, x_un, x_var, x_c, x_cb, x_nil, x_cons, x_rI, x_rI0, x_rU, x_rEq, x_rNe, x_rIxL, x_rIxT, n_rSlL, n_rCat, n_rRep, n_rApp, x_bm, x_bm0, x_sl, x_nopart, x_part, n_tup, n_lst, x_call, x_callS, x_asg, x_gname, x_gtup, x_gnil, x_gcons, x_gsub, n_setL, x_aug, x_ipI, x_ipC, x_bits, x_getL, x_augS, x_and, x_or, x_not, x_k, x_andV, x_orV, x_notV, x_ife, x_chain, x_for, x_ilist, x_itup, x_ienum, x_irng1, x_irng2, x_irev, x_lc, x_yes, wipe_nil, wipe_cons, List.map_cons, List.map_nil, x_misc, x_misc2, x_rz, lookup_at, Bool.not_true, Bool.not_false, decide_true, decide_false, not_true, not_false_eq_true, and_assoc, exists_and_left, exists_eq_left', exists_eq_left, exists_eq', exists_eq_right', exists_eq_right, V.int.injEq, V.ref.injEq, V.bl.injEq, V.str.injEq, List.cons.injEq, and_true, true_and, and_self, Option.some.injEq, List.cons_append, List.nil_append, List.append_nil, List.getElem?_cons_zero, List.getElem?_cons_succ, List.set_cons_zero, List.set_cons_succ, reduceCtorEq, false_and, and_false, exists_false, exists_const, or_false, false_or, scal_ii, scal_bb, scal_ss, List.length_cons, List.length_nil, Int.reduceToNat, Int.reducePow, n_fld, n_sfld, n_aug, n_meth, n_mw, n_make, n_kw, n_rLs, n_dcp, x_sortK, n_gget, n_rLtT, n_ext, n_revL, n_rTp, t_im, ints_rev, t_s1, t_i1, t_i2, t_i3, t_i4, t_i5, x_chain3, x_irng3, x_irevR, x_rg1, x_rg2, ints_cat, ints_app1, ints_len, ints_take, ints_drop, rep_one])
local macro_rules | `(tactic| wtm_at "mem") => `(tactic| first | (with_reducible exact mem_here) | (with_reducible refine mem_there ?_; wtm_at "mem"))
local macro_rules | `(tactic| wtm_at "pp") => `(tactic| first | (with_reducible exact Put.here) | (with_reducible apply Put.there; wtm_at "pp"))
local macro_rules | `(tactic| wtm_at "ho") => `(tactic| first | (with_reducible assumption) | exact Own.get (by with_reducible assumption) (by wtm_at "mem") | exact Own.base (by with_reducible assumption) (by with_reducible assumption))
local macro_rules | `(tactic| wtm_at "qo") => `(tactic| first | (with_reducible assumption) | exact SqL.of (by wtm_at "ho") | exact sqT_tupI (by wtm_at "ho") | exact sqT_tupS (by wtm_at "ho") | exact SqT.of (by wtm_at "ho") | exact Own.imT (by with_reducible assumption) (by wtm_at "mem") | exact Own.sq (by with_reducible assumption) (by with_reducible assumption) | exact Own.sqT (by with_reducible assumption) (by with_reducible assumption))
local macro_rules | `(tactic| wtm_at "sub") => `(tactic| first | exact List.nil_sublist _ | (with_reducible refine List.Sublist.cons_cons _ ?_; wtm_at "sub") | (refine List.Sublist.cons _ ?_; wtm_at "sub"))
local macro_rules | `(tactic| wtm_at "co") => `(tactic| first | (with_reducible assumption) | omega | (exact cmul_r (by omega) (by omega)) | (exact cmul_l (by omega) (by omega)) | (exact cdiv_ok (by omega) (by omega)) | (exact cpow_ok (by decide)) | (exact ⟨by omega, by omega, by omega⟩) | decide | (exact ⟨by omega, by omega⟩) | (simp only [List.length_append, List.length_map, List.length_set, List.length_cons, List.length_nil, rngL_len, sizeLine_eq]; omega) | wtm_at "ho" | wtm_at "qo")
local macro_rules | `(tactic| wtm_at "so") => `(tactic| first | ((with_reducible refine g_dcp ?_); refine dcpI (by wtm_at "ho") ?_) | ((with_reducible refine g_asl ?_); refine And.intro (by rfl) ?_) | ((with_reducible refine g_asqT ?_); refine and_sqT (by wtm_at "qo") ?_) | ((with_reducible refine g_extO ?_); first | (refine extI (by with_reducible assumption) (by wtm_at "pp") (by wtm_at "co") (fun _ _ => ?_)) | (refine extO (by with_reducible assumption) (by wtm_at "pp") (by wtm_at "co") (fun _ _ => ?_))) | ((with_reducible refine g_tp ?_); first | (refine tp_l (by wtm_at "qo") ?_) | (refine tp_t (by wtm_at "qo") ?_)) | ((with_reducible refine g_fldO ?_); refine fldO (by wtm_at "ho") (by with_reducible assumption) (by wtm_at "mem") (by wtm_at "lk") ?_) | ((with_reducible refine g_fldC ?_); refine fldC (by wtm_at "ho") (by with_reducible assumption) (by wtm_at "mem") (by wtm_at "lk") ?_) | ((with_reducible refine g_putC ?_); refine putC (by with_reducible assumption) (by wtm_at "pp") (by wtm_at "pu") (by wtm_at "co") (fun _ _ => ?_)) | ((with_reducible refine g_stoO ?_); refine stoO (by with_reducible assumption) (by wtm_at "pp") (by wtm_at "pu") (by with_reducible assumption) (by wtm_at "mem") (by wtm_at "co") (fun _ _ => ?_)) | ((with_reducible refine g_metO ?_); refine metO (by wtm_at "ho") (by wtm_at "ln") ?_) | ((with_reducible refine g_makO ?_); refine makO (by with_reducible assumption) (fun _ _ _ _ => ?_)) | ((with_reducible refine g_sum ?_); refine sum_call (by wtm_at "qo") ?_) | ((with_reducible refine g_cq ?_); exact cq (by with_reducible assumption) (by simp only [rngL_len, List.length_map, List.length_take]; omega)) | ((with_reducible refine g_newO ?_); refine newO (by with_reducible assumption) (fun _ _ _ => ?_)) | ((with_reducible refine g_appO ?_); refine appI (by with_reducible assumption) (by wtm_at "pp") (by wtm_at "co") (fun _ _ => ?_)) | ((with_reducible refine g_setO ?_); refine setI (by with_reducible assumption) (by wtm_at "pp") (by omega) (by wtm_at "co") (fun _ _ => ?_)) | ((with_reducible refine g_appO ?_); refine appO (by with_reducible assumption) (by wtm_at "pp") (by wtm_at "co") (fun _ _ => ?_)) | ((with_reducible refine g_setO ?_); refine setO (by with_reducible assumption) (by wtm_at "pp") (by omega) (by wtm_at "co") (fun _ _ => ?_)) | ((with_reducible refine g_at ?_); refine at_call (by wtm_at "qo") (by omega) (by omega) (fun _ _ => ?_)) | ((with_reducible refine g_row ?_); refine row_call (by wtm_at "ho") ?_) | ((with_reducible refine g_int ?_); refine int_call ?_) | ((with_reducible refine g_isi ?_); first | (with_reducible refine isi_ii ?_) | (with_reducible refine isi_ib ?_) | (refine isi_int rfl ?_) | (refine isi_sqL rfl (by wtm_at "qo") ?_) | (refine isi_sqT rfl (by wtm_at "qo") ?_) | (refine isi_bl rfl ?_) | (refine isi_non rfl ?_) | (refine isi_str rfl ?_)) | ((with_reducible refine g_ned ?_); first | (refine ned_f (dq_lst (by wtm_at "qo")) (dq_lst (by wtm_at "qo")) ?_) | (refine ned_ints (by wtm_at "qo") (by wtm_at "qo") ?_) | (refine nedT_ints (by wtm_at "qo") (by wtm_at "qo") ?_)) | ((with_reducible refine g_eqd ?_); first | (refine eqd_t (dq_lst (by wtm_at "qo")) (dq_lst (by wtm_at "qo")) ?_) | (refine eqd_ints (by wtm_at "qo") (by wtm_at "qo") ?_) | (refine eqdT_ints (by wtm_at "qo") (by wtm_at "qo") ?_)) | ((with_reducible refine g_tyv ?_); refine and_tyv (by wtm_at "qo") ?_) | ((with_reducible refine g_asq ?_); refine and_sq (by wtm_at "qo") ?_) | ((with_reducible refine g_lst ?_); refine ex_lst (by wtm_at "ho") ?_) | ((with_reducible refine g_or ?_); first | (refine ex_or (by wtm_at "qo") ?_) | (refine ex_ort (by wtm_at "qo") ?_)) | ((with_reducible refine g_sq ?_); refine ex_sq (by wtm_at "qo") ?_) | ((with_reducible refine g_sqt ?_); refine ex_sqt (by wtm_at "qo") ?_) | ((with_reducible refine gd_sel ?_); first | (refine sel_p (by wtm_at "pf") ?_) | (refine sel_n (by wtm_at "pf") ?_)) | ((with_reducible refine gn_sel ?_); first | (refine selN_p (by wtm_at "pf") ?_) | (refine selN_n (by wtm_at "pf") ?_)) | ((with_reducible refine gd_selT ?_); first | (refine selT_p (by wtm_at "pf") ?_) | (refine selT_n (by wtm_at "pf") ?_)) | ((with_reducible refine gn_selT ?_); first | (refine selTN_p (by wtm_at "pf") ?_) | (refine selTN_n (by wtm_at "pf") ?_)) | ((with_reducible refine gd_selE ?_); first | (refine selE_p (by wtm_at "pf") ?_) | (refine selE_n (by wtm_at "pf") ?_)) | ((with_reducible refine gn_selE ?_); first | (refine selEN_p (by wtm_at "pf") ?_) | (refine selEN_n (by wtm_at "pf") ?_)) | ((with_reducible refine g_xf ?_); refine xf_at rfl (by wtm_at "ho") ?_) | ((with_reducible refine g_atI ?_); refine ex_at (by first | exact rfl | exact atI_int (by omega) (by wtm_at "pf") | exact atI_end (by wtm_at "pf")) ?_) | ((with_reducible refine g_and ?_); refine And.intro (by wtm_at "co") ?_))
local macro_rules | `(tactic| wtm_at "oo") => `(tactic| repeat (first | wtm_at "xo" | wtm_at "so"))
local macro_rules | `(tactic| wtm_at "cR") => `(tactic| (refine' compRi _ (by with_reducible assumption) (by omega) (fun _ _ _ _ _ => ?_) (fun _ _ _ => ?_); rotate_left; focus (wtm_at "oo")))

local macro_rules | `(tactic| wtm_at "lk") => `(tactic| first | (with_reducible exact lk_here) | (simp only [lk_here, lk_skip, lk_nil]; first | done | exact rfl))
local macro_rules | `(tactic| wtm_at "ln") => `(tactic| first | (with_reducible exact lk_nil) | (simp only [lk_skip, lk_nil]; done))
local macro_rules | `(tactic| wtm_at "pu") => `(tactic| first | (with_reducible exact pf_nil) | (simp only [pf_nil, pf_here, pf_skip]; first | done | exact rfl))
local macro_rules | `(tactic| wtm_at "tk") => `(tactic| first | (with_reducible exact Take.here) | (exact Take.here) | ((with_reducible apply Take.there); wtm_at "tk"))
local macro_rules | `(tactic| wtm_at "pk") => `(tactic| first | exact Pick.nil | ((with_reducible refine' Pick.cons ?tk1 ?pk1); (case tk1 => wtm_at "tk"); (case pk1 => wtm_at "pk")) | ((with_reducible refine Pick.im (by wtm_at "mem") ?_); wtm_at "pk") | ((with_reducible refine Pick.ims (by wtm_at "mem") ?_); wtm_at "pk"))

local macro_rules | `(tactic| wtm_at "ta") => `(tactic| first | (with_reducible exact TakeA.here) | ((with_reducible apply TakeA.there); wtm_at "ta"))
local macro_rules | `(tactic| wtm_at "tb") => `(tactic| first | (exact TakeA.here) | ((with_reducible apply TakeA.there); wtm_at "tb"))
local macro_rules | `(tactic| wtm_at "pa") => `(tactic| first | exact PickA.nil | ((with_reducible refine PickA.im (by wtm_at "mem") ?_); wtm_at "pa") | ((with_reducible refine PickA.ims (by wtm_at "mem") ?_); wtm_at "pa") | ((with_reducible refine' PickA.any ?tk1 ?pk1); (case tk1 => first | wtm_at "ta" | wtm_at "tb"); (case pk1 => wtm_at "pa")))
section
variable {P : Program} {w : World} {K : PySem.W.Frag} {mg : Str → Option Value} {base : Heap} [TBC K mg base]
/-! the rows and the lengths -/
def cert (cs : List Int) (m : Nat) : List (List (Int × Int)) := if usedN cs < 2 then [] else formed cs m
def allOk (cs : List Int) : Prop := ∀ i : Nat, i < cs.length → cOk (cs.getD i 0)
def sp_certificate (K : PySem.W.Frag) : Sp := fun vs H Q E => ∃ (a : Addr) (cs : List Int) (m : Int), vs = [.ref a, .int m] ∧ SqL K H a (cs.map V.int) ∧ cs.length ≤ 10000 ∧ TabS H (tabP K) qLam ∧
  (¬ (1 ≤ m ∧ m ≤ 15) → ∀ x, H x = none → E (.ref (He.ga K "OutOfRange")) (some x) (upd H x (.xd [("at", .int (-1))]))) ∧
  (1 ≤ m → m ≤ 15 → ∀ k : Nat, k < cs.length → (∀ i : Nat, i < k → cOk (cs.getD i 0)) → ¬ cOk (cs.getD k 0) → ∀ H' x, Same H H' → H' x = none → E (.ref (He.ga K "OutOfRange")) (some x) (upd H' x (.xd [("at", .int (k : Nat))]))) ∧
  (1 ≤ m → m ≤ 15 → allOk cs → 2 ^ m.toNat < (usedN cs : Int) → ∀ H' x, Same H H' → H' x = none → E (.ref (He.ga K "TooNarrow")) (some x) (upd H' x (.xd [("at", .int (usedN cs : Nat))]))) ∧
  (1 ≤ m → m ≤ 15 → allOk cs → (usedN cs : Int) ≤ 2 ^ m.toNat → ∀ p pl H', rOk pl → rC pl = cert cs m.toNat → Own K (delL H [tabP K]) H' [.pt p (.lst (rR pl)), pRO pl, pRI pl, .tab (tabP K)] → Q (.ref p) H')
theorem same_del {H H' : Hp} {as : List Addr} (s : Same H H') : Same (delL H as) H' := fun b o h => by
  by_cases z : b ∈ as
  · rw [delL_in z] at h
    cases h
  · rw [delL_out z] at h
    exact s b o h
theorem ok_certificate (T : Tx K mg) : Cl P w K mg base 4 "certificate" ["counts", "most"] (sp_certificate K) [] := by
  obtain ⟨gm, fd, F⟩ := T.d_certificate
  refine ⟨_, fd, [], F.ok sc_certificate (fun vs H Q E h => ?_) (fun cdv A outer s H vs Q E hr h => ⟨_, (pss_cons (ps_expr (pe_clS (ok__check_range (K := K) (mg := mg) (base := base) T) (hr.mono (by decide)) rfl (L2N.takes_of rfl rfl rfl rfl) (pa_cons (pv 0) (pa_cons (pv 1) pa_nil))))
 (pss_cons (ps_set (i := 2) sc_certificate.nd rfl (Or.inl rfl) (by exact (pe_cl (ok__used (K := K) (mg := mg) (base := base) T) (hr.mono (by decide)) rfl (pa_cons (pv 0) pa_nil))))
 (pss_cons (ps_if (pt_cmpR op_gt (pv 2) (pe_op op_shl pe_int (pv 1)) (nomark _))
 (pss_one (ps_raiseB T.x_TooNarrow (ok_init (K := K) (mg := mg) (base := base) T) (hr.mono (by decide)) (L2N.takes_of rfl rfl rfl rfl) (by exact (pa_cons (pv 2) pa_nil))))
 pss_nil)
 (pss_cons (ps_if (pt_cmpR op_lt (pv 2) pe_int (nomark _))
 (pss_one (ps_ret (by exact (pe_lst pa_nil))))
 pss_nil)
 (pss_one (ps_ret (by exact (pe_cl (ok__formed_rows (K := K) (mg := mg) (base := base) T) (hr.mono (by decide)) rfl (pa_cons (pv 0) (pa_cons (pv 1) pa_nil)))))))))), ?_⟩), gm, F.kp, F.bindsN (fun _ _ _ _ _ _ us hl => match us, hl with | [_, _], _ => rfl), .nil⟩
  · first | (obtain ⟨rfl, _⟩ := h; rfl) | (obtain ⟨_, rfl, _⟩ := h; rfl) | (obtain ⟨_, _, rfl, _⟩ := h; rfl) | (obtain ⟨_, _, _, rfl, _⟩ := h; rfl) | (obtain ⟨_, _, _, _, rfl, _⟩ := h; rfl) | (obtain ⟨_, _, _, _, _, rfl, _⟩ := h; rfl) | (obtain ⟨_, _, _, _, _, _, rfl, _⟩ := h; rfl) | (obtain ⟨_, _, _, _, _, _, _, rfl, _⟩ := h; rfl) | (obtain ⟨_, _, _, _, _, _, _, _, rfl, _⟩ := h; rfl) | (obtain ⟨_, _, _, _, _, _, _, _, _, rfl, _⟩ := h; rfl) | (obtain ⟨_, _, _, _, _, _, _, _, _, _, rfl, _⟩ := h; rfl) | (obtain ⟨_, _, _, _, _, _, _, _, _, _, _, rfl, _⟩ := h; rfl) | (obtain ⟨_, _, _, _, _, _, _, _, _, _, _, _, rfl, _⟩ := h; rfl) | (obtain ⟨_, _, _, _, _, _, _, _, _, _, _, _, _, rfl, _⟩ := h; rfl) | (obtain ⟨_, _, _, _, _, _, _, _, _, _, _, _, _, _, rfl, _⟩ := h; rfl) | (obtain ⟨_, _, _, _, _, _, _, _, _, _, _, _, _, _, _, rfl, _⟩ := h; rfl) | (obtain ⟨_, _, _, _, _, _, _, _, _, _, _, _, _, _, _, _, rfl, _⟩ := h; rfl) | (obtain ⟨_, _, _, _, _, _, _, _, _, _, _, _, _, _, _, _, _, rfl, _⟩ := h; rfl) | (obtain ⟨_, _, _, _, _, _, _, _, _, _, _, _, _, _, _, _, _, _, rfl, _⟩ := h; rfl) | (obtain ⟨_, _, _, _, _, _, _, _, _, _, _, _, _, _, _, _, _, _, _, rfl, _⟩ := h; rfl) | (obtain ⟨_, _, _, _, _, _, _, _, _, _, _, _, _, _, _, _, _, _, _, _, rfl, _⟩ := h; rfl) | (obtain ⟨_, _, _, _, _, _, _, _, _, _, _, _, _, _, _, _, _, _, _, _, _, rfl, _⟩ := h; rfl)
  · obtain ⟨a, cs, m, rfl, hS, hl, hT, e1, e2, e3, q⟩ := h
    k_call_by "xo" st_certificate
    wtm_at "oo"
    refine ⟨a, cs, m, rfl, hS, e1, fun m1 m2 hok H1 M => ?_, e2⟩
    have hS1 := M.sq hS
    have hT1 : TabS H1 (tabP K) qLam := hT.ext M.same
    wtm_at "oo"
    refine ⟨a, cs, rfl, hS1, ?_⟩
    wtm_at "oo"
    obtain ⟨n, rfl⟩ := Int.eq_ofNat_of_zero_le (show 0 ≤ m by omega)
    have L1 : Own K (delL H [tabP K]) H1 [.tab (tabP K)] := (Own.startT (K := K) hT).call M.same
    refine sel_d (fun c => ?_) (fun c => ?_)
    · wtm_at "oo"
      exact bz T.x_TooNarrow fun x hx => e3 m1 m2 hok (by simpa using c) H1 x M.same hx
    · have q := q m1 m2 hok (by simpa using c)
      rw [Int.toNat_natCast] at q
      wtm_at "oo"
      refine sel_d (fun c2 => ?_) (fun c2 => ?_)
      · have ec : cert cs n = [] := if_pos (by omega)
        wtm_at "oo"
        rename_i p G L2
        refine q p [] G (fun _ h => nomatch h) ec.symm ?_
        show Own K (delL H [tabP K]) G [.pt p (.lst []), .objs [], .ims [] [], .tab (tabP K)]
        exact ((L2.objs0).addIms (vs := []) (ds := []) .nil).pickA (by wtm_at "pa")
      · have ec : cert cs n = formed cs n := if_neg (by omega)
        wtm_at "oo"
        refine ⟨a, cs, n, rfl, hS1, hl, by omega, hT1, fun p pl H2 ok rc M2 => ?_⟩
        exact q p pl H2 ok (rc.trans ec.symm) (L1.callT .here M2)
/-! the data of rows -/
def dRR (rows : List (List (Int × Int))) : PyData := .list (rows.map fun r => .list (r.map tI2))
theorem tI2_inj {p q : Int × Int} (h : tI2 p = tI2 q) : p = q := by
  obtain ⟨a, b⟩ := p
  obtain ⟨c, d⟩ := q
  rw [PyData.tuple.injEq, map_int_inj] at h
  cases h
  rfl
theorem map_inj {α β : Type} {f : α → β} (hf : ∀ a b, f a = f b → a = b) : ∀ {xs ys : List α}, xs.map f = ys.map f → xs = ys
  | [], [], _ => rfl
  | [], _ :: _, h => by cases h
  | _ :: _, [], h => by cases h
  | x :: xs, y :: ys, h => by
    rw [List.map_cons, List.map_cons, List.cons.injEq] at h
    rw [hf _ _ h.1, map_inj hf h.2]
theorem dRR_inj {a b : List (List (Int × Int))} : dRR a = dRR b ↔ a = b := by
  refine ⟨fun h => ?_, fun h => by rw [h]⟩
  unfold dRR at h
  rw [PyData.list.injEq] at h
  refine map_inj (fun x y e => ?_) h
  rw [PyData.list.injEq] at e
  exact map_inj (fun _ _ => tI2_inj) e
theorem plain_tI2s : ∀ r : List (Int × Int), plainAl (r.map tI2) = true
  | [] => by simp [plainAl]
  | x :: r => by
    have := plain_tI2s r
    simp [plainAl, Bel.plain, this]
theorem depth_tI2s : ∀ r : List (Int × Int), PyData.depthAll (r.map tI2) ≤ 3
  | [] => by simp [PyData.depthAll]
  | x :: r => by
    have := depth_tI2s r
    simp only [List.map_cons, List.map_nil, PyData.depthAll, PyData.depth]
    omega
theorem plain_rows : ∀ rows : List (List (Int × Int)), plainAl (rows.map fun r => PyData.list (r.map tI2)) = true
  | [] => by simp [plainAl]
  | x :: r => by
    have := plain_rows r
    have h2 := plain_tI2s x
    simp only [List.map_cons, plainAl, Bel.plain, this, h2, Bool.and_self]
theorem depth_rows : ∀ rows : List (List (Int × Int)), PyData.depthAll (rows.map fun r => PyData.list (r.map tI2)) ≤ 5
  | [] => by simp [PyData.depthAll]
  | x :: r => by
    have := depth_rows r
    have := depth_tI2s x
    simp only [List.map_cons, PyData.depthAll, PyData.depth]
    omega
theorem dq_rows {K : PySem.W.Frag} {B H : Hp} {l : List As} {D : Addr} {pl : RL} (ok : rOk pl) (L : Own K B H l) (m : pRO pl ∈ l) (m2 : pRI pl ∈ l) (h : SqL K H D (rR pl)) : Dq K H (.ref D) (dRR (rC pl)) := by
  have key : ∀ ql : RL, (∀ q ∈ ql, q ∈ pl) → DpAll K H (rR ql) ((rC ql).map fun r => PyData.list (r.map tI2)) := by
    intro ql
    induction ql with
    | nil => exact fun _ => .nil
    | cons q r ih =>
      intro hq
      obtain ⟨c1, c2⟩ := rowAt ok L m m2 (hq q (.head _))
      exact .cons (.lst (SqL.of c1) c2.dp) (ih fun x hx => hq x (.tail _ hx))
  refine ⟨.lst h (key pl fun q hq => hq), ?_, ?_⟩
  · show Bel.plain (.list _) = true
    simp only [Bel.plain]
    exact plain_rows _
  · have := depth_rows (rC pl)
    show (PyData.list _).depth ≤ 64
    simp only [PyData.depth]
    omega
section
variable {K : PySem.W.Frag} {H : Hp} {a b : V} {xs ys : List (List (Int × Int))} {Q : VK}
theorem eqd_rows (h1 : Dq K H a (dRR xs)) (h2 : Dq K H b (dRR ys)) (q : Q (.bl (decide (xs = ys))) H) : rEqD K a b H Q := by
  refine eqd h1 h2 fun r e => ?_
  have : r = decide (xs = ys) := by
    rw [dRR_inj] at e
    by_cases c : xs = ys
    · rw [decide_eq_true c, e.mpr c]
    · rw [decide_eq_false c]
      cases r with
      | false => rfl
      | true => exact absurd (e.mp rfl) c
  rw [this]
  exact q
theorem ned_rows (h1 : Dq K H a (dRR xs)) (h2 : Dq K H b (dRR ys)) (q : Q (.bl (!decide (xs = ys))) H) : rNeD K a b H Q := by
  refine ned h1 h2 fun r e => ?_
  have : r = decide (xs = ys) := by
    rw [dRR_inj] at e
    by_cases c : xs = ys
    · rw [decide_eq_true c, e.mpr c]
    · rw [decide_eq_false c]
      cases r with
      | false => rfl
      | true => exact absurd (e.mp rfl) c
  rw [this]
  exact q
end
theorem dq_noRows {K : PySem.W.Frag} {H : Hp} {D : Addr} (h : SqL K H D []) : Dq K H (.ref D) (dRR []) := ⟨.lst h .nil, by show Bel.plain (.list []) = true; simp [Bel.plain, plainAl], by show (PyData.list []).depth ≤ 64; simp [PyData.depth, PyData.depthAll]⟩
/-! what stands in the rows -/
def inRow (cs : List Int) (p : Int × Int) : Prop := p.2 = -1 ∨ ∃ i : Nat, i < cs.length ∧ 0 < cs.getD i 0 ∧ p = (cs.getD i 0, (i : Int))
theorem symsTo_in {cs : List Int} : ∀ i, i ≤ cs.length → ∀ p ∈ symsTo cs i, inRow cs p
  | 0, _, p, h => nomatch h
  | i + 1, hi, p, h => by
    unfold symsTo at h
    split at h
    · rename_i c
      rcases List.mem_append.mp h with h | h
      · exact symsTo_in i (by omega) p h
      · exact .inr ⟨i, by omega, c, List.mem_singleton.mp h⟩
    · exact symsTo_in i (by omega) p h
theorem later_in {cs : List Int} (t : Nat) : ∀ p ∈ later cs t, inRow cs p := by
  cases t with
  | zero => exact fun _ h => nomatch h
  | succ t =>
    intro p h
    unfold later prs at h
    obtain ⟨j, _, rfl⟩ := List.mem_map.mp h
    exact .inl rfl
theorem rowN_in {cs : List Int} (t : Nat) : ∀ p ∈ rowN cs t, inRow cs p := by
  intro p h
  rw [rowN_eq] at h
  have h := (List.mergeSort_perm _ _).mem_iff.mp h
  rcases List.mem_append.mp h with h | h
  · exact symsTo_in _ (Nat.le_refl _) p h
  · exact later_in t p h
theorem formed_in {cs : List Int} {m : Nat} : ∀ r ∈ formed cs m, r.length ≤ 2 * cs.length ∧ ∀ p ∈ r, inRow cs p := by
  intro r h
  unfold formed at h
  obtain ⟨t, _, rfl⟩ := List.mem_map.mp (List.mem_reverse.mp h)
  exact ⟨rowN_len t, rowN_in t⟩


end
end K13

namespace K13
open PySem PySem.Spec PyProof.Rows L2 Bel LamX
local macro_rules | `(tactic| wtm_at "xs") => `(tactic| simp only [x_next, x_seq, x_brk, x_cont, x_drop, x_ret, x_retN, x_if, sel_t, sel_f, selE_t, selE_f, selT_t, selT_f, selC_t, selC_f, x_test, x_tB, x_op, x_un, x_var, x_c, x_cb, x_nil, x_cons, x_rI, x_rI0, x_rU, x_rEq, x_rNe, x_rIxL, x_rIxT, x_rSlL, x_rCat, x_rRep, x_rApp, x_bm, x_bm0, x_sl, x_nopart, x_part, x_tup, x_lst, x_call, x_callS, x_asg, x_gname, x_gtup, x_gnil, x_gcons, x_gsub, x_setL, x_aug, x_ipI, x_ipC, x_bits, x_getL, x_augS, x_and, x_or, x_not, x_k, x_andV, x_orV, x_notV, x_ife, x_chain, x_for, x_ilist, x_itup, x_ienum, x_irng1, x_irng2, x_irev, x_lc, x_yes, wipe_nil, wipe_cons, List.map_cons, List.map_nil, x_misc, x_misc2, x_rz, lookup_at, Bool.not_true, Bool.not_false, decide_true, decide_false, not_true, not_false_eq_true, and_assoc, exists_and_left, exists_eq_left', exists_eq_left, exists_eq', exists_eq_right', exists_eq_right, V.int.injEq, V.ref.injEq, V.bl.injEq, V.str.injEq, List.cons.injEq, and_true, true_and, and_self, Option.some.injEq, List.cons_append, List.nil_append, List.append_nil, List.getElem?_cons_zero, List.getElem?_cons_succ, List.set_cons_zero, List.set_cons_succ, reduceCtorEq, false_and, and_false, exists_false, exists_const, or_false, false_or, scal_ii, scal_bb, scal_ss, List.length_cons, List.length_nil, Int.reduceToNat, Int.reducePow])
local macro_rules | `(tactic| k_call_by "xs" $h:term) => `(tactic| simp only [$h:term, x_next, x_seq, x_brk, x_cont, x_drop, x_ret, x_retN, x_if, sel_t, sel_f, selE_t, selE_f, selT_t, selT_f, selC_t, selC_f, x_test, x_tB, x_op, x_un, x_var, x_c, x_cb, x_nil, x_cons, x_rI, x_rI0, x_rU, x_rEq, x_rNe, x_rIxL, x_rIxT, x_rSlL, x_rCat, x_rRep, x_rApp, x_bm, x_bm0, x_sl, x_nopart, x_part, x_tup, x_lst, x_call, x_callS, x_asg, x_gname, x_gtup, x_gnil, x_gcons, x_gsub, x_setL, x_aug, x_ipI, x_ipC, x_bits, x_getL, x_augS, x_and, x_or, x_not, x_k, x_andV, x_orV, x_notV, x_ife, x_chain, x_for, x_ilist, x_itup, x_ienum, x_irng1, x_irng2, x_irev, x_lc, x_yes, wipe_nil, wipe_cons, List.map_cons, List.map_nil, x_misc, x_misc2, x_rz, lookup_at, Bool.not_true, Bool.not_false, decide_true, decide_false, not_true, not_false_eq_true, and_assoc, exists_and_left, exists_eq_left', exists_eq_left, exists_eq', exists_eq_right', exists_eq_right, V.int.injEq, V.ref.injEq, V.bl.injEq, V.str.injEq, List.cons.injEq, and_true, true_and, and_self, Option.some.injEq, List.cons_append, List.nil_append, List.append_nil, List.getElem?_cons_zero, List.getElem?_cons_succ, List.set_cons_zero, List.set_cons_succ, reduceCtorEq, false_and, and_false, exists_false, exists_const, or_false, false_or, scal_ii, scal_bb, scal_ss, List.length_cons, List.length_nil, Int.reduceToNat, Int.reducePow])
local macro_rules | `(tactic| wtm_at "hp") => `(tactic| first | (with_reducible assumption) | exact upd_same | (refine upd_keep (by with_reducible assumption) ?_; wtm_at "hp") | (refine Same.get (by with_reducible assumption) ?_; wtm_at "hp") | (refine upd_other (by first | (with_reducible assumption) | exact Ne.symm (by with_reducible assumption)) ?_; wtm_at "hp"))
local macro_rules | `(tactic| wtm_at "sq") => `(tactic| first | (with_reducible assumption) | exact SqL.of (by wtm_at "hp") | exact SqT.of (by wtm_at "hp") | (refine Same.seq (same_upd (by with_reducible assumption)) ?_; wtm_at "sq") | (refine Same.seq (by with_reducible assumption) ?_; wtm_at "sq") | (refine Same.seqT (same_upd (by with_reducible assumption)) ?_; wtm_at "sq") | (refine Same.seqT (by with_reducible assumption) ?_; wtm_at "sq"))
local macro_rules | `(tactic| wtm_at "cl") => `(tactic| first | (with_reducible assumption) | omega | (exact cmul_r (by omega) (by omega)) | (exact cmul_l (by omega) (by omega)) | (exact cdiv_ok (by omega) (by omega)) | (exact cpow_ok (by decide)) | (exact ⟨by omega, by omega, by omega⟩) | decide | (exact ⟨by omega, by omega⟩) | (simp only [List.length_append, List.length_map, List.length_set, List.length_cons, List.length_nil, rngL_len, sizeLine_eq]; omega) | wtm_at "hp" | wtm_at "sq")
local macro_rules | `(tactic| wtm_at "pf") => `(tactic| first | (with_reducible assumption) | omega | (simp only [List.length_append, List.length_map, List.length_set, List.length_cons, List.length_nil, rngL_len]; omega) | (with_reducible rfl) | (with_reducible trivial) | (with_reducible decide))
local macro_rules | `(tactic| wtm_at "st") => `(tactic| first | ((with_reducible refine g_at ?_); refine at_call (by wtm_at "sq") (by omega) (by omega) (fun _ _ => ?_)) | ((with_reducible refine g_row ?_); refine row_call (by wtm_at "hp") ?_) | ((with_reducible refine g_int ?_); refine int_call ?_) | ((with_reducible refine g_isi ?_); first | (with_reducible refine isi_ii ?_) | (with_reducible refine isi_ib ?_) | (refine isi_int rfl ?_) | (refine isi_lst rfl (by wtm_at "hp") ?_) | (refine isi_tup rfl (by wtm_at "hp") ?_)) | ((with_reducible refine g_ned ?_); refine ned_f (dq_lst (by wtm_at "sq")) (dq_lst (by wtm_at "sq")) ?_) | ((with_reducible refine g_eqd ?_); refine eqd_t (dq_lst (by wtm_at "sq")) (dq_lst (by wtm_at "sq")) ?_) | ((with_reducible refine g_tyv ?_); refine and_tyv (by wtm_at "sq") ?_) | ((with_reducible refine g_asq ?_); refine and_sq (by wtm_at "sq") ?_) | ((with_reducible refine g_lst ?_); refine ex_lst (by wtm_at "hp") ?_) | ((with_reducible refine g_or ?_); first | (refine ex_or (by wtm_at "sq") ?_) | (refine ex_ort (by wtm_at "sq") ?_)) | ((with_reducible refine g_sq ?_); refine ex_sq (by wtm_at "sq") ?_) | ((with_reducible refine g_sqt ?_); refine ex_sqt (by wtm_at "sq") ?_) | ((with_reducible refine gd_sel ?_); first | (refine sel_p (by wtm_at "pf") ?_) | (refine sel_n (by wtm_at "pf") ?_)) | ((with_reducible refine gn_sel ?_); first | (refine selN_p (by wtm_at "pf") ?_) | (refine selN_n (by wtm_at "pf") ?_)) | ((with_reducible refine gd_selT ?_); first | (refine selT_p (by wtm_at "pf") ?_) | (refine selT_n (by wtm_at "pf") ?_)) | ((with_reducible refine gn_selT ?_); first | (refine selTN_p (by wtm_at "pf") ?_) | (refine selTN_n (by wtm_at "pf") ?_)) | ((with_reducible refine gd_selE ?_); first | (refine selE_p (by wtm_at "pf") ?_) | (refine selE_n (by wtm_at "pf") ?_)) | ((with_reducible refine gn_selE ?_); first | (refine selEN_p (by wtm_at "pf") ?_) | (refine selEN_n (by wtm_at "pf") ?_)) | ((with_reducible refine g_xf ?_); refine xf_at rfl (by wtm_at "hp") ?_) | ((with_reducible refine g_atI ?_); refine ex_at (by first | exact rfl | exact atI_int (by omega) (by wtm_at "pf") | exact atI_end (by wtm_at "pf")) ?_) | ((with_reducible refine g_and ?_); refine And.intro (by wtm_at "cl") ?_) | ((with_reducible refine g_new ?_); intro _ _))
local macro_rules | `(tactic| wtm_at "go") => `(tactic| repeat (first | wtm_at "xs" | wtm_at "st"))
local macro_rules | `(tactic| wtm_at "xo") => `(tactic| simp only [x_next, x_seq, x_brk, x_cont, x_drop, x_ret, x_retN, x_if, sel_t, sel_f, selE_t, selE_f, selT_t, selT_f, selC_t, selC_f, x_test, x_tB, x_op, x_un, x_var, x_c, x_cb, x_nil, x_cons, x_rI, x_rI0, x_rU, x_rEq, x_rNe, x_rIxL, x_rIxT, n_rSlL, n_rCat, n_rRep, n_rApp, x_bm, x_bm0, x_sl, x_nopart, x_part, n_tup, n_lst, x_call, x_callS, x_asg, x_gname, x_gtup, x_gnil, x_gcons, x_gsub, n_setL, x_aug, x_ipI, x_ipC, x_bits, x_getL, x_augS, x_and, x_or, x_not, x_k, x_andV, x_orV, x_notV, x_ife, x_chain, x_for, x_ilist, x_itup, x_ienum, x_irng1, x_irng2, x_irev, x_lc, x_yes, wipe_nil, wipe_cons, List.map_cons, List.map_nil, x_misc, x_misc2, x_rz, lookup_at, Bool.not_true, Bool.not_false, decide_true, decide_false, not_true, not_false_eq_true, and_assoc, exists_and_left, exists_eq_left', exists_eq_left, exists_eq', exists_eq_right', exists_eq_right, V.int.injEq, V.ref.injEq, V.bl.injEq, V.str.injEq, List.cons.injEq, and_true, true_and, and_self, Option.some.injEq, List.cons_append, List.nil_append, List.append_nil, List.getElem?_cons_zero, List.getElem?_cons_succ, List.set_cons_zero, List.set_cons_succ, reduceCtorEq, false_and, and_false, exists_false, exists_const, or_false, false_or, scal_ii, scal_bb, scal_ss, List.length_cons, List.length_nil, Int.reduceToNat, Int.reducePow, n_fld, n_sfld, n_aug, n_meth, n_mw, n_make, n_kw, n_rLs, n_dcp, x_sortK, n_gget, n_rLtT, n_ext, n_revL, n_rTp, t_im, ints_rev, t_s1, t_i1, t_i2, t_i3, t_i4, t_i5, x_chain3, x_irng3, x_irevR, x_rg1, x_rg2, ints_cat, ints_app1, ints_len, ints_take, ints_drop, rep_one])
local macro_rules | `(tactic| k_call_by "xo" $h:term) => `(tactic| simp only [$h:term, x_next, x_seq, x_brk, x_cont, x_drop, x_ret, x_retN, x_if, sel_t, sel_f, selE_t, selE_f, selT_t, selT_f, selC_t, selC_f, x_test, x_tB, x_op, x_un, x_var, x_c, x_cb, x_nil, x_cons, x_rI, x_rI0, x_rU, x_rEq, x_rNe, x_rIxL, x_rIxT, n_rSlL, n_rCat, n_rRep, n_rApp, x_bm, x_bm0, x_sl, x_nopart, x_part, n_tup, n_lst, x_call, x_callS, x_asg, x_gname, x_gtup, x_gnil, x_gcons, x_gsub, n_setL, x_aug, x_ipI, x_ipC, x_bits, x_getL, x_augS, x_and, x_or, x_not, x_k, x_andV, x_orV, x_notV, x_ife, x_chain, x_for, x_ilist, x_itup, x_ienum, x_irng1, x_irng2, x_irev, x_lc, x_yes, wipe_nil, wipe_cons, List.map_cons, List.map_nil, x_misc, x_misc2, x_rz, lookup_at, Bool.not_true, Bool.not_false, decide_true, decide_false, not_true, not_false_eq_true, and_assoc, exists_and_left, exists_eq_left', exists_eq_left, exists_eq', exists_eq_right', exists_eq_right, V.int.injEq, V.ref.injEq, V.bl.injEq, V.str.injEq, List.cons.injEq, and_true, true_and, and_self, Option.some.injEq, List.cons_append, List.nil_append, List.append_nil, List.getElem?_cons_zero, List.getElem?_cons_succ, List.set_cons_zero, List.set_cons_succ, reduceCtorEq, false_and, and_false, exists_false, exists_const, or_false, false_or, scal_ii, scal_bb, scal_ss, List.length_cons, List.length_nil, Int.reduceToNat, Int.reducePow, n_fld, n_sfld, n_aug, n_meth, n_mw, n_make, n_kw, n_rLs, n_dcp, x_sortK, n_gget, n_rLtT, n_ext, n_revL, n_rTp, t_im, ints_rev, t_s1, t_i1, t_i2, t_i3, t_i4, t_i5, x_chain3, x_irng3, x_irevR, x_rg1, x_rg2, ints_cat, ints_app1, ints_len, ints_take, ints_drop, rep_one])
local macro_rules | `(tactic| wtm_at "mem") => `(tactic| first | (with_reducible exact mem_here) | (with_reducible refine mem_there ?_; wtm_at "mem"))
local macro_rules | `(tactic| wtm_at "pp") => `(tactic| first | (with_reducible exact Put.here) | (with_reducible apply Put.there; wtm_at "pp"))
local macro_rules | `(tactic| wtm_at "ho") => `(tactic| first | (with_reducible assumption) | exact Own.get (by with_reducible assumption) (by wtm_at "mem") | exact Own.base (by with_reducible assumption) (by with_reducible assumption))
local macro_rules | `(tactic| wtm_at "qo") => `(tactic| first | (with_reducible assumption) | exact SqL.of (by wtm_at "ho") | exact sqT_tupI (by wtm_at "ho") | exact sqT_tupS (by wtm_at "ho") | exact SqT.of (by wtm_at "ho") | exact Own.imT (by with_reducible assumption) (by wtm_at "mem") | exact Own.sq (by with_reducible assumption) (by with_reducible assumption) | exact Own.sqT (by with_reducible assumption) (by with_reducible assumption))
local macro_rules | `(tactic| wtm_at "sub") => `(tactic| first | exact List.nil_sublist _ | (with_reducible refine List.Sublist.cons_cons _ ?_; wtm_at "sub") | (refine List.Sublist.cons _ ?_; wtm_at "sub"))
local macro_rules | `(tactic| wtm_at "co") => `(tactic| first | (with_reducible assumption) | omega | (exact cmul_r (by omega) (by omega)) | (exact cmul_l (by omega) (by omega)) | (exact cdiv_ok (by omega) (by omega)) | (exact cpow_ok (by decide)) | (exact ⟨by omega, by omega, by omega⟩) | decide | (exact ⟨by omega, by omega⟩) | (simp only [List.length_append, List.length_map, List.length_set, List.length_cons, List.length_nil, rngL_len, sizeLine_eq]; omega) | wtm_at "ho" | wtm_at "qo")
local macro_rules | `(tactic| wtm_at "so") => `(tactic| first | ((with_reducible refine g_dcp ?_); refine dcpI (by wtm_at "ho") ?_) | ((with_reducible refine g_asl ?_); refine And.intro (by rfl) ?_) | ((with_reducible refine g_asqT ?_); refine and_sqT (by wtm_at "qo") ?_) | ((with_reducible refine g_extO ?_); first | (refine extI (by with_reducible assumption) (by wtm_at "pp") (by wtm_at "co") (fun _ _ => ?_)) | (refine extO (by with_reducible assumption) (by wtm_at "pp") (by wtm_at "co") (fun _ _ => ?_))) | ((with_reducible refine g_tp ?_); first | (refine tp_l (by wtm_at "qo") ?_) | (refine tp_t (by wtm_at "qo") ?_)) | ((with_reducible refine g_fldO ?_); refine fldO (by wtm_at "ho") (by with_reducible assumption) (by wtm_at "mem") (by wtm_at "lk") ?_) | ((with_reducible refine g_fldC ?_); refine fldC (by wtm_at "ho") (by with_reducible assumption) (by wtm_at "mem") (by wtm_at "lk") ?_) | ((with_reducible refine g_putC ?_); refine putC (by with_reducible assumption) (by wtm_at "pp") (by wtm_at "pu") (by wtm_at "co") (fun _ _ => ?_)) | ((with_reducible refine g_stoO ?_); refine stoO (by with_reducible assumption) (by wtm_at "pp") (by wtm_at "pu") (by with_reducible assumption) (by wtm_at "mem") (by wtm_at "co") (fun _ _ => ?_)) | ((with_reducible refine g_metO ?_); refine metO (by wtm_at "ho") (by wtm_at "ln") ?_) | ((with_reducible refine g_makO ?_); refine makO (by with_reducible assumption) (fun _ _ _ _ => ?_)) | ((with_reducible refine g_sum ?_); refine sum_call (by wtm_at "qo") ?_) | ((with_reducible refine g_cq ?_); exact cq (by with_reducible assumption) (by simp only [rngL_len, List.length_map, List.length_take]; omega)) | ((with_reducible refine g_newO ?_); refine newO (by with_reducible assumption) (fun _ _ _ => ?_)) | ((with_reducible refine g_appO ?_); refine appI (by with_reducible assumption) (by wtm_at "pp") (by wtm_at "co") (fun _ _ => ?_)) | ((with_reducible refine g_setO ?_); refine setI (by with_reducible assumption) (by wtm_at "pp") (by omega) (by wtm_at "co") (fun _ _ => ?_)) | ((with_reducible refine g_appO ?_); refine appO (by with_reducible assumption) (by wtm_at "pp") (by wtm_at "co") (fun _ _ => ?_)) | ((with_reducible refine g_setO ?_); refine setO (by with_reducible assumption) (by wtm_at "pp") (by omega) (by wtm_at "co") (fun _ _ => ?_)) | ((with_reducible refine g_at ?_); refine at_call (by wtm_at "qo") (by omega) (by omega) (fun _ _ => ?_)) | ((with_reducible refine g_row ?_); refine row_call (by wtm_at "ho") ?_) | ((with_reducible refine g_int ?_); refine int_call ?_) | ((with_reducible refine g_isi ?_); first | (with_reducible refine isi_ii ?_) | (with_reducible refine isi_ib ?_) | (refine isi_int rfl ?_) | (refine isi_sqL rfl (by wtm_at "qo") ?_) | (refine isi_sqT rfl (by wtm_at "qo") ?_) | (refine isi_bl rfl ?_) | (refine isi_non rfl ?_) | (refine isi_str rfl ?_)) | ((with_reducible refine g_ned ?_); first | (refine ned_f (dq_lst (by wtm_at "qo")) (dq_lst (by wtm_at "qo")) ?_) | (refine ned_ints (by wtm_at "qo") (by wtm_at "qo") ?_) | (refine nedT_ints (by wtm_at "qo") (by wtm_at "qo") ?_)) | ((with_reducible refine g_eqd ?_); first | (refine eqd_t (dq_lst (by wtm_at "qo")) (dq_lst (by wtm_at "qo")) ?_) | (refine eqd_ints (by wtm_at "qo") (by wtm_at "qo") ?_) | (refine eqdT_ints (by wtm_at "qo") (by wtm_at "qo") ?_)) | ((with_reducible refine g_tyv ?_); refine and_tyv (by wtm_at "qo") ?_) | ((with_reducible refine g_asq ?_); refine and_sq (by wtm_at "qo") ?_) | ((with_reducible refine g_lst ?_); refine ex_lst (by wtm_at "ho") ?_) | ((with_reducible refine g_or ?_); first | (refine ex_or (by wtm_at "qo") ?_) | (refine ex_ort (by wtm_at "qo") ?_)) | ((with_reducible refine g_sq ?_); refine ex_sq (by wtm_at "qo") ?_) | ((with_reducible refine g_sqt ?_); refine ex_sqt (by wtm_at "qo") ?_) | ((with_reducible refine gd_sel ?_); first | (refine sel_p (by wtm_at "pf") ?_) | (refine sel_n (by wtm_at "pf") ?_)) | ((with_reducible refine gn_sel ?_); first | (refine selN_p (by wtm_at "pf") ?_) | (refine selN_n (by wtm_at "pf") ?_)) | ((with_reducible refine gd_selT ?_); first | (refine selT_p (by wtm_at "pf") ?_) | (refine selT_n (by wtm_at "pf") ?_)) | ((with_reducible refine gn_selT ?_); first | (refine selTN_p (by wtm_at "pf") ?_) | (refine selTN_n (by wtm_at "pf") ?_)) | ((with_reducible refine gd_selE ?_); first | (refine selE_p (by wtm_at "pf") ?_) | (refine selE_n (by wtm_at "pf") ?_)) | ((with_reducible refine gn_selE ?_); first | (refine selEN_p (by wtm_at "pf") ?_) | (refine selEN_n (by wtm_at "pf") ?_)) | ((with_reducible refine g_xf ?_); refine xf_at rfl (by wtm_at "ho") ?_) | ((with_reducible refine g_atI ?_); refine ex_at (by first | exact rfl | exact atI_int (by omega) (by wtm_at "pf") | exact atI_end (by wtm_at "pf")) ?_) | ((with_reducible refine g_and ?_); refine And.intro (by wtm_at "co") ?_))
local macro_rules | `(tactic| wtm_at "oo") => `(tactic| repeat (first | wtm_at "xo" | wtm_at "so"))
local macro_rules | `(tactic| wtm_at "cR") => `(tactic| (refine' compRi _ (by with_reducible assumption) (by omega) (fun _ _ _ _ _ => ?_) (fun _ _ _ => ?_); rotate_left; focus (wtm_at "oo")))

local macro_rules | `(tactic| wtm_at "lk") => `(tactic| first | (with_reducible exact lk_here) | (simp only [lk_here, lk_skip, lk_nil]; first | done | exact rfl))
local macro_rules | `(tactic| wtm_at "ln") => `(tactic| first | (with_reducible exact lk_nil) | (simp only [lk_skip, lk_nil]; done))
local macro_rules | `(tactic| wtm_at "pu") => `(tactic| first | (with_reducible exact pf_nil) | (simp only [pf_nil, pf_here, pf_skip]; first | done | exact rfl))
local macro_rules | `(tactic| wtm_at "tk") => `(tactic| first | (with_reducible exact Take.here) | (exact Take.here) | ((with_reducible apply Take.there); wtm_at "tk"))
local macro_rules | `(tactic| wtm_at "pk") => `(tactic| first | exact Pick.nil | ((with_reducible refine' Pick.cons ?tk1 ?pk1); (case tk1 => wtm_at "tk"); (case pk1 => wtm_at "pk")) | ((with_reducible refine Pick.im (by wtm_at "mem") ?_); wtm_at "pk") | ((with_reducible refine Pick.ims (by wtm_at "mem") ?_); wtm_at "pk"))

local macro_rules | `(tactic| wtm_at "ta") => `(tactic| first | (with_reducible exact TakeA.here) | ((with_reducible apply TakeA.there); wtm_at "ta"))
local macro_rules | `(tactic| wtm_at "tb") => `(tactic| first | (exact TakeA.here) | ((with_reducible apply TakeA.there); wtm_at "tb"))
local macro_rules | `(tactic| wtm_at "pa") => `(tactic| first | exact PickA.nil | ((with_reducible refine PickA.im (by wtm_at "mem") ?_); wtm_at "pa") | ((with_reducible refine PickA.ims (by wtm_at "mem") ?_); wtm_at "pa") | ((with_reducible refine' PickA.any ?tk1 ?pk1); (case tk1 => first | wtm_at "ta" | wtm_at "tb"); (case pk1 => wtm_at "pa")))
section
variable {P : Program} {w : World} {K : PySem.W.Frag} {mg : Str → Option Value} {base : Heap} [TBC K mg base]
/-! the lengths that are taken from the rows -/
def stepS (st : List Int × Nat) (it : Int × Int) : List Int × Nat := if it.2 = -1 then (st.1, st.2 + 1) else (bump st.1 it.2, st.2)
def rowS (st : List Int × Nat) (row : List (Int × Int)) : List Int × Nat :=
  let r := (row.take st.2).foldl stepS (st.1, 0)
  (r.1, 2 * r.2)
def lensS (cs : List Int) (m : Nat) : List Int × Nat := (cert cs m).foldl rowS (List.replicate cs.length 0, 2 * usedN cs - 2)
def shp (cs : List Int) (m : Nat) : List Int := if cert cs m = [] then noRows cs else (lensS cs m).1
theorem stepS_len {st : List Int × Nat} {it : Int × Int} : (stepS st it).1.length = st.1.length := by
  unfold stepS
  split
  · rfl
  · exact bump_len
theorem foldS_len : ∀ (its : List (Int × Int)) (st : List Int × Nat), (its.foldl stepS st).1.length = st.1.length
  | [], _ => rfl
  | it :: its, st => (foldS_len its (stepS st it)).trans stepS_len
theorem rowS_len {st : List Int × Nat} {row : List (Int × Int)} : (rowS st row).1.length = st.1.length := foldS_len _ _
theorem foldR_len : ∀ (rows : List (List (Int × Int))) (st : List Int × Nat), (rows.foldl rowS st).1.length = st.1.length
  | [], _ => rfl
  | r :: rows, st => (foldR_len rows (rowS st r)).trans rowS_len
theorem foldS_snd : ∀ (its : List (Int × Int)) (st : List Int × Nat), (its.foldl stepS st).2 ≤ st.2 + its.length
  | [], _ => Nat.le_refl _
  | it :: its, st => by
    have := foldS_snd its (stepS st it)
    have e : (stepS st it).2 ≤ st.2 + 1 := by
      unfold stepS
      split
      · exact Nat.le_refl _
      · exact Nat.le_succ _
    rw [List.foldl_cons, List.length_cons]
    omega
theorem foldl_snoc {α β : Type} {f : β → α → β} {s : β} {xs : List α} {i : Nat} {x : α} (h : xs[i]? = some x) : (xs.take (i + 1)).foldl f s = f ((xs.take i).foldl f s) x := by
  rw [List.take_add_one, h, List.foldl_append]
  rfl
theorem shp_len {cs : List Int} {m : Nat} : (shp cs m).length = cs.length := by
  unfold shp
  split
  · exact List.length_map ..
  · exact (foldR_len _ _).trans List.length_replicate
def sp_shortest (K : PySem.W.Frag) : Sp := fun vs H Q E => ∃ (a : Addr) (cs : List Int) (m : Int), vs = [.ref a, .int m] ∧ SqL K H a (cs.map V.int) ∧ cs.length ≤ 10000 ∧ TabS H (tabP K) qLam ∧
  (¬ (1 ≤ m ∧ m ≤ 15) → ∀ x, H x = none → E (.ref (He.ga K "OutOfRange")) (some x) (upd H x (.xd [("at", .int (-1))]))) ∧
  (1 ≤ m → m ≤ 15 → ∀ k : Nat, k < cs.length → (∀ i : Nat, i < k → cOk (cs.getD i 0)) → ¬ cOk (cs.getD k 0) → ∀ H' x, Same H H' → H' x = none → E (.ref (He.ga K "OutOfRange")) (some x) (upd H' x (.xd [("at", .int (k : Nat))]))) ∧
  (1 ≤ m → m ≤ 15 → allOk cs → 2 ^ m.toNat < (usedN cs : Int) → ∀ H' x, Same H H' → H' x = none → E (.ref (He.ga K "TooNarrow")) (some x) (upd H' x (.xd [("at", .int (usedN cs : Nat))]))) ∧
  (1 ≤ m → m ≤ 15 → allOk cs → (usedN cs : Int) ≤ 2 ^ m.toNat → ∀ p H', Own K (delL H [tabP K]) H' [pI p (shp cs m.toNat), .tab (tabP K)] → Q (.ref p) H')
theorem ok_shortest (T : Tx K mg) : Cl P w K mg base 5 "shortest" ["counts", "most"] (sp_shortest K) [] := by
  obtain ⟨gm, fd, F⟩ := T.d_shortest
  refine ⟨_, fd, [], F.ok sc_shortest (fun vs H Q E h => ?_) (fun cdv A outer s H vs Q E hr h => ⟨_, (pss_cons (ps_set (i := 2) sc_shortest.nd rfl (Or.inl rfl) (by exact (pe_clS (ok_certificate (K := K) (mg := mg) (base := base) T) (hr.mono (by decide)) rfl (L2N.takes_of rfl rfl rfl rfl) (pa_cons (pv 0) (pa_cons (pv 1) pa_nil)))))
 (pss_cons (ps_if (pt_cmpR (eqK K hr.units) (pv 2) (pe_lst pa_nil) (nomark _))
 (pss_one (ps_ret (by exact (pe_cl (ok__lengths_without_rows (K := K) (mg := mg) (base := base) T) (hr.mono (by decide)) rfl (pa_cons (pv 0) pa_nil)))))
 pss_nil)
 (pss_cons (ps_set (i := 3) sc_shortest.nd rfl (Or.inl rfl) (by exact (pe_op op_rep (pe_lst (pa_cons pe_int pa_nil)) (pe_callB (lenK K) rfl T.b_len (by decide +kernel) (pa_cons (pv 0) pa_nil)))))
 (pss_cons (ps_set (i := 4) sc_shortest.nd rfl (Or.inl rfl) (by exact (pe_cl (ok__taken_from_first (K := K) (mg := mg) (base := base) T) (hr.mono (by decide)) rfl (pa_cons (pv 0) pa_nil))))
 (pss_cons (ps_for (passes_of rfl) rfl (pi_list (pv 2)) (pg_name (i := 5) sc_shortest.nd rfl (Or.inl rfl))
 (pss_cons (ps_set (i := 6) sc_shortest.nd rfl (Or.inl rfl) (by exact pe_int))
 (pss_cons (ps_for (passes_of rfl) rfl (pi_list (pe_slice (slK K) (pv 5) po_none (po_some (pv 4)))) (pg_tup (by rfl) (pgs_cons (pg_name (i := 7) sc_shortest.nd rfl (Or.inl rfl)) (pgs_cons (pg_name (i := 8) sc_shortest.nd rfl (Or.inl rfl)) pgs_nil)))
 (pss_one (ps_if (pt_cmpR op_eq (pv 8) (pe_gc rfl T.c__PAIR) (nomark _))
 (pss_one (ps_aug (i := 6) sc_shortest.nd rfl (Or.inl rfl) (by exact pe_int) ip_add))
 (pss_one (ps_augS (pv 3) (pv 8) (getL K) (by exact pe_int) ip_add set_list)))))
 (pss_one (ps_set (i := 4) sc_shortest.nd rfl (Or.inl rfl) (by exact (pe_op op_mul pe_int (pv 6))))))))
 (pss_one (ps_ret (by exact (pv 3))))))))), ?_⟩), gm, F.kp, F.bindsN (fun _ _ _ _ _ _ us hl => match us, hl with | [_, _], _ => rfl), .nil⟩
  · first | (obtain ⟨rfl, _⟩ := h; rfl) | (obtain ⟨_, rfl, _⟩ := h; rfl) | (obtain ⟨_, _, rfl, _⟩ := h; rfl) | (obtain ⟨_, _, _, rfl, _⟩ := h; rfl) | (obtain ⟨_, _, _, _, rfl, _⟩ := h; rfl) | (obtain ⟨_, _, _, _, _, rfl, _⟩ := h; rfl) | (obtain ⟨_, _, _, _, _, _, rfl, _⟩ := h; rfl) | (obtain ⟨_, _, _, _, _, _, _, rfl, _⟩ := h; rfl) | (obtain ⟨_, _, _, _, _, _, _, _, rfl, _⟩ := h; rfl) | (obtain ⟨_, _, _, _, _, _, _, _, _, rfl, _⟩ := h; rfl) | (obtain ⟨_, _, _, _, _, _, _, _, _, _, rfl, _⟩ := h; rfl) | (obtain ⟨_, _, _, _, _, _, _, _, _, _, _, rfl, _⟩ := h; rfl) | (obtain ⟨_, _, _, _, _, _, _, _, _, _, _, _, rfl, _⟩ := h; rfl) | (obtain ⟨_, _, _, _, _, _, _, _, _, _, _, _, _, rfl, _⟩ := h; rfl) | (obtain ⟨_, _, _, _, _, _, _, _, _, _, _, _, _, _, rfl, _⟩ := h; rfl) | (obtain ⟨_, _, _, _, _, _, _, _, _, _, _, _, _, _, _, rfl, _⟩ := h; rfl) | (obtain ⟨_, _, _, _, _, _, _, _, _, _, _, _, _, _, _, _, rfl, _⟩ := h; rfl) | (obtain ⟨_, _, _, _, _, _, _, _, _, _, _, _, _, _, _, _, _, rfl, _⟩ := h; rfl) | (obtain ⟨_, _, _, _, _, _, _, _, _, _, _, _, _, _, _, _, _, _, rfl, _⟩ := h; rfl) | (obtain ⟨_, _, _, _, _, _, _, _, _, _, _, _, _, _, _, _, _, _, _, rfl, _⟩ := h; rfl) | (obtain ⟨_, _, _, _, _, _, _, _, _, _, _, _, _, _, _, _, _, _, _, _, rfl, _⟩ := h; rfl) | (obtain ⟨_, _, _, _, _, _, _, _, _, _, _, _, _, _, _, _, _, _, _, _, _, rfl, _⟩ := h; rfl)
  · obtain ⟨a, cs, m, rfl, hS0, hl, hT, e1, e2, e3, q⟩ := h
    k_call_by "xo" st_shortest
    wtm_at "oo"
    refine ⟨a, cs, m, rfl, hS0, hl, hT, e1, e2, e3, fun m1 m2 hok hu p pl H1 ok rc L => ?_⟩
    have q := q m1 m2 hok hu
    clear e1 e2 e3
    have hS := del_sqL hT hS0
    have hS1 := L.sq hS
    wtm_at "oo"
    rename_i z G1 L2
    have hin : ∀ q ∈ pl, ∀ it ∈ q.2.2, inRow cs it := fun q hq it hit => by
      have hm : q.2.2 ∈ cert cs m.toNat := by
        rw [← rc]
        exact List.mem_map.mpr ⟨q, hq, rfl⟩
      unfold cert at hm
      split at hm
      · exact nomatch hm
      · exact (formed_in _ hm).2 it hit
    have hlen : ∀ q ∈ pl, q.2.2.length ≤ 2 * cs.length := fun q hq => by
      have hm : q.2.2 ∈ cert cs m.toNat := by
        rw [← rc]
        exact List.mem_map.mpr ⟨q, hq, rfl⟩
      unfold cert at hm
      split at hm
      · exact nomatch hm
      · exact (formed_in _ hm).1
    refine eqd_rows (dq_rows ok L2 (by wtm_at "mem") (by wtm_at "mem") (by wtm_at "qo")) (dq_noRows (by wtm_at "qo")) ?_
    wtm_at "oo"
    refine sel_d (fun c => ?_) (fun c => ?_)
    · wtm_at "oo"
      refine ⟨a, cs, rfl, L2.sq hS, hl, fun p2 H2 M => ?_⟩
      have es : shp cs m.toNat = noRows cs := if_pos (by rw [← rc, c])
      rw [es] at q
      exact q p2 H2 ((L2.c1 M).pickA (by wtm_at "pa"))
    · have es : shp cs m.toNat = (lensS cs m.toNat).1 := if_neg (by rw [← rc]; exact c)
      have used2 : 2 ≤ usedN cs := by
        apply Decidable.byContradiction
        intro c2
        exact c (by rw [rc]; exact if_pos (by omega))
      rw [es] at q
      unfold lensS at q
      wtm_at "oo"
      rename_i z2 G2 M2 lp G3 L3
      clear M2
      have hS3 := L3.sq hS
      refine ⟨a, cs, rfl, hS3, ?_⟩
      wtm_at "oo"
      have L4 : Own K (delL H [tabP K]) G3 [pI lp (List.replicate cs.length 0), .pt p (.lst (rR pl)), pRO pl, pRI pl, .tab (tabP K)] := by
        rw [Int.toNat_natCast] at L3
        exact L3.pickA (by wtm_at "pa")
      clear L3 L2 L
      rw [show 2 * (usedN cs : Int) - 2 = ((2 * usedN cs - 2 : Nat) : Int) by omega]
      refine loop_list (xs := rR pl) (fun i σ H' => ∃ y5 y6 y7 y8, σ = [some (.ref a), some (.int m), some (.ref p), some (.ref lp), some (.int ((((rC pl).take i).foldl rowS (List.replicate cs.length 0, 2 * usedN cs - 2)).2 : Nat)), y5, y6, y7, y8] ∧
        Own K (delL H [tabP K]) H' [pI lp (((rC pl).take i).foldl rowS (List.replicate cs.length 0, 2 * usedN cs - 2)).1, .pt p (.lst (rR pl)), pRO pl, pRI pl, .tab (tabP K)]) ⟨_, _, _, _, rfl, L4⟩ (fun i σ H' _ ⟨_, _, _, _, _, h⟩ => SqL.of (h.get (by wtm_at "mem"))) ?_ ?_
      · clear L4
        rintro i x σ H4 hx ⟨y5, y6, y7, y8, rfl, L⟩
        obtain ⟨qq, hq, rfl⟩ : ∃ qq, pl[i]? = some qq ∧ x = .ref qq.1 := by
          unfold rR at hx
          rw [List.getElem?_map] at hx
          obtain ⟨qq, h1, h2⟩ := Option.map_eq_some_iff.mp hx
          exact ⟨qq, h1, h2.symm⟩
        have hmem := List.mem_of_getElem? hq
        have hr : (rC pl)[i]? = some qq.2.2 := by
          unfold rC
          rw [List.getElem?_map, hq]
          rfl
        rw [foldl_snoc hr]
        have hlS := foldR_len ((rC pl).take i) (List.replicate cs.length 0, 2 * usedN cs - 2)
        rw [List.length_replicate] at hlS
        generalize ((rC pl).take i).foldl rowS (List.replicate cs.length 0, 2 * usedN cs - 2) = st at *
        obtain ⟨ls, tk⟩ := st
        dsimp only at L hlS ⊢
        obtain ⟨ra, vs, ps⟩ := qq
        obtain ⟨hra, him⟩ := rowAt ok L (by wtm_at "mem") (by wtm_at "mem") hmem
        dsimp only at hra him
        have hin := hin _ hmem
        have hlen := hlen _ hmem
        dsimp only at hin hlen
        have hvl : vs.length = ps.length := ok _ hmem
        wtm_at "oo"
        rename_i sl G5 L5
        rw [cut_ni (show (0 : Int) ≤ (tk : Int) by omega), Int.toNat_natCast] at L5
        have him5 : ImmL K G5 (vs.take tk) ((ps.take tk).map tI2) := by
          have := (rowAt ok L5 (by wtm_at "mem") (by wtm_at "mem") hmem).2
          rw [List.map_take]
          exact ImmL.take tk this
        have L6 : Own K (delL H [tabP K]) G5 (.ims (vs.take tk) ((ps.take tk).map tI2) :: _) := L5.addIms him5
        clear L L5 him5 him hra
        have L7 : Own K (delL H [tabP K]) G5 [pI lp ls, .ims (vs.take tk) ((ps.take tk).map tI2), .pt sl (.lst (vs.take tk)), .pt p (.lst (rR pl)), pRO pl, pRI pl, .tab (tabP K)] := L6.pickA (by wtm_at "pa")
        refine loop_list (xs := vs.take tk) (fun j σ H' => ∃ y7 y8, σ = [some (.ref a), some (.int m), some (.ref p), some (.ref lp), some (.int (tk : Nat)), some (.ref ra), some (.int ((((ps.take tk).take j).foldl stepS (ls, 0)).2 : Nat)), y7, y8] ∧
          Own K (delL H [tabP K]) H' [pI lp ((((ps.take tk).take j).foldl stepS (ls, 0)).1), .ims (vs.take tk) ((ps.take tk).map tI2), .pt sl (.lst (vs.take tk)), .pt p (.lst (rR pl)), pRO pl, pRI pl, .tab (tabP K)]) ⟨_, _, rfl, L7⟩ (fun j σ H' _ ⟨_, _, _, h⟩ => SqL.of (h.get (by wtm_at "mem"))) ?_ ?_
        · clear L6 L7
          rintro j x σ H6 hx ⟨y7, y8, rfl, L⟩
          obtain ⟨d, hd, hi⟩ := ImmL.get (L.imms (by wtm_at "mem")) hx
          rw [List.getElem?_map] at hd
          obtain ⟨it, hit, rfl⟩ := Option.map_eq_some_iff.mp hd
          obtain ⟨r, rfl, hr2⟩ := Imm.of_ints (ns := [it.1, it.2]) hi
          have hin := hin it (List.mem_of_mem_take (List.mem_of_getElem? hit))
          rw [foldl_snoc hit]
          have hlS2 := foldS_len ((ps.take tk).take j) (ls, 0)
          dsimp only at hlS2
          generalize ((ps.take tk).take j).foldl stepS (ls, 0) = st at *
          obtain ⟨ms, pr⟩ := st
          dsimp only at L hlS2 ⊢
          clear hx hd hi hit
          obtain ⟨c0, s0⟩ := it
          dsimp only at hr2 hin
          unfold stepS
          dsimp only
          wtm_at "oo"
          refine sel_d (fun c1 => ?_) (fun c1 => ?_)
          · rw [if_pos c1]
            wtm_at "oo"
            exact L
          · rw [if_neg c1]
            obtain ⟨k, hk, _, e⟩ := hin.resolve_left c1
            cases e
            wtm_at "oo"
            assumption
        · rintro σ H6 ⟨y7, y8, rfl, L⟩
          rw [show (vs.take tk).length = (ps.take tk).length by rw [List.length_take, List.length_take, hvl], List.take_length] at L ⊢
          have eR : rowS (ls, tk) ps = (((ps.take tk).foldl stepS (ls, 0)).1, 2 * ((ps.take tk).foldl stepS (ls, 0)).2) := rfl
          rw [eR]
          wtm_at "oo"
          exact L.pickA (by wtm_at "pa")
      · rintro σ H4 ⟨y5, y6, y7, y8, rfl, L⟩
        rw [show (rR pl).length = (rC pl).length by rw [rR_len, rC_len], List.take_length, rc] at L
        wtm_at "oo"
        exact q lp H4 (L.pickA (by wtm_at "pa"))


end
end K13

namespace K13
open PySem PySem.Spec PyProof.Rows L2 Bel LamX
local macro_rules | `(tactic| wtm_at "xs") => `(tactic| simp only [x_next, x_seq, x_brk, x_cont, x_drop, x_ret, x_retN, x_if, sel_t, sel_f, selE_t, selE_f, selT_t, selT_f, selC_t, selC_f, x_test, x_tB, x_op, x_un, x_var, x_c, x_cb, x_nil, x_cons, x_rI, x_rI0, x_rU, x_rEq, x_rNe, x_rIxL, x_rIxT, x_rSlL, x_rCat, x_rRep, x_rApp, x_bm, x_bm0, x_sl, x_nopart, x_part, x_tup, x_lst, x_call, x_callS, x_asg, x_gname, x_gtup, x_gnil, x_gcons, x_gsub, x_setL, x_aug, x_ipI, x_ipC, x_bits, x_getL, x_augS, x_and, x_or, x_not, x_k, x_andV, x_orV, x_notV, x_ife, x_chain, x_for, x_ilist, x_itup, x_ienum, x_irng1, x_irng2, x_irev, x_lc, x_yes, wipe_nil, wipe_cons, List.map_cons, List.map_nil, x_misc, x_misc2, x_rz, lookup_at, Bool.not_true, Bool.not_false, decide_true, decide_false, not_true, not_false_eq_true, and_assoc, exists_and_left, exists_eq_left', exists_eq_left, exists_eq', exists_eq_right', exists_eq_right, V.int.injEq, V.ref.injEq, V.bl.injEq, V.str.injEq, List.cons.injEq, and_true, true_and, and_self, Option.some.injEq, List.cons_append, List.nil_append, List.append_nil, List.getElem?_cons_zero, List.getElem?_cons_succ, List.set_cons_zero, List.set_cons_succ, reduceCtorEq, false_and, and_false, exists_false, exists_const, or_false, false_or, scal_ii, scal_bb, scal_ss, List.length_cons, List.length_nil, Int.reduceToNat, Int.reducePow])
local macro_rules | `(tactic| k_call_by "xs" $h:term) => `(tactic| simp only [$h:term, x_next, x_seq, x_brk, x_cont, x_drop, x_ret, x_retN, x_if, sel_t, sel_f, selE_t, selE_f, selT_t, selT_f, selC_t, selC_f, x_test, x_tB, x_op, x_un, x_var, x_c, x_cb, x_nil, x_cons, x_rI, x_rI0, x_rU, x_rEq, x_rNe, x_rIxL, x_rIxT, x_rSlL, x_rCat, x_rRep, x_rApp, x_bm, x_bm0, x_sl, x_nopart, x_part, x_tup, x_lst, x_call, x_callS, x_asg, x_gname, x_gtup, x_gnil, x_gcons, x_gsub, x_setL, x_aug, x_ipI, x_ipC, x_bits, x_getL, x_augS, x_and, x_or, x_not, x_k, x_andV, x_orV, x_notV, x_ife, x_chain, x_for, x_ilist, x_itup, x_ienum, x_irng1, x_irng2, x_irev, x_lc, x_yes, wipe_nil, wipe_cons, List.map_cons, List.map_nil, x_misc, x_misc2, x_rz, lookup_at, Bool.not_true, Bool.not_false, decide_true, decide_false, not_true, not_false_eq_true, and_assoc, exists_and_left, exists_eq_left', exists_eq_left, exists_eq', exists_eq_right', exists_eq_right, V.int.injEq, V.ref.injEq, V.bl.injEq, V.str.injEq, List.cons.injEq, and_true, true_and, and_self, Option.some.injEq, List.cons_append, List.nil_append, List.append_nil, List.getElem?_cons_zero, List.getElem?_cons_succ, List.set_cons_zero, List.set_cons_succ, reduceCtorEq, false_and, and_false, exists_false, exists_const, or_false, false_or, scal_ii, scal_bb, scal_ss, List.length_cons, List.length_nil, Int.reduceToNat, Int.reducePow])
local macro_rules | `(tactic| wtm_at "hp") => `(tactic| first | (with_reducible assumption) | exact upd_same | (refine upd_keep (by with_reducible assumption) ?_; wtm_at "hp") | (refine Same.get (by with_reducible assumption) ?_; wtm_at "hp") | (refine upd_other (by first | (with_reducible assumption) | exact Ne.symm (by with_reducible assumption)) ?_; wtm_at "hp"))
local macro_rules | `(tactic| wtm_at "sq") => `(tactic| first | (with_reducible assumption) | exact SqL.of (by wtm_at "hp") | exact SqT.of (by wtm_at "hp") | (refine Same.seq (same_upd (by with_reducible assumption)) ?_; wtm_at "sq") | (refine Same.seq (by with_reducible assumption) ?_; wtm_at "sq") | (refine Same.seqT (same_upd (by with_reducible assumption)) ?_; wtm_at "sq") | (refine Same.seqT (by with_reducible assumption) ?_; wtm_at "sq"))
local macro_rules | `(tactic| wtm_at "cl") => `(tactic| first | (with_reducible assumption) | omega | (exact cmul_r (by omega) (by omega)) | (exact cmul_l (by omega) (by omega)) | (exact cdiv_ok (by omega) (by omega)) | (exact cpow_ok (by decide)) | (exact ⟨by omega, by omega, by omega⟩) | decide | (exact ⟨by omega, by omega⟩) | (simp only [List.length_append, List.length_map, List.length_set, List.length_cons, List.length_nil, rngL_len, sizeLine_eq]; omega) | wtm_at "hp" | wtm_at "sq")
local macro_rules | `(tactic| wtm_at "pf") => `(tactic| first | (with_reducible assumption) | omega | (simp only [List.length_append, List.length_map, List.length_set, List.length_cons, List.length_nil, rngL_len]; omega) | (with_reducible rfl) | (with_reducible trivial) | (with_reducible decide))
local macro_rules | `(tactic| wtm_at "st") => `(tactic| first | ((with_reducible refine g_at ?_); refine at_call (by wtm_at "sq") (by omega) (by omega) (fun _ _ => ?_)) | ((with_reducible refine g_row ?_); refine row_call (by wtm_at "hp") ?_) | ((with_reducible refine g_int ?_); refine int_call ?_) | ((with_reducible refine g_isi ?_); first | (with_reducible refine isi_ii ?_) | (with_reducible refine isi_ib ?_) | (refine isi_int rfl ?_) | (refine isi_lst rfl (by wtm_at "hp") ?_) | (refine isi_tup rfl (by wtm_at "hp") ?_)) | ((with_reducible refine g_ned ?_); refine ned_f (dq_lst (by wtm_at "sq")) (dq_lst (by wtm_at "sq")) ?_) | ((with_reducible refine g_eqd ?_); refine eqd_t (dq_lst (by wtm_at "sq")) (dq_lst (by wtm_at "sq")) ?_) | ((with_reducible refine g_tyv ?_); refine and_tyv (by wtm_at "sq") ?_) | ((with_reducible refine g_asq ?_); refine and_sq (by wtm_at "sq") ?_) | ((with_reducible refine g_lst ?_); refine ex_lst (by wtm_at "hp") ?_) | ((with_reducible refine g_or ?_); first | (refine ex_or (by wtm_at "sq") ?_) | (refine ex_ort (by wtm_at "sq") ?_)) | ((with_reducible refine g_sq ?_); refine ex_sq (by wtm_at "sq") ?_) | ((with_reducible refine g_sqt ?_); refine ex_sqt (by wtm_at "sq") ?_) | ((with_reducible refine gd_sel ?_); first | (refine sel_p (by wtm_at "pf") ?_) | (refine sel_n (by wtm_at "pf") ?_)) | ((with_reducible refine gn_sel ?_); first | (refine selN_p (by wtm_at "pf") ?_) | (refine selN_n (by wtm_at "pf") ?_)) | ((with_reducible refine gd_selT ?_); first | (refine selT_p (by wtm_at "pf") ?_) | (refine selT_n (by wtm_at "pf") ?_)) | ((with_reducible refine gn_selT ?_); first | (refine selTN_p (by wtm_at "pf") ?_) | (refine selTN_n (by wtm_at "pf") ?_)) | ((with_reducible refine gd_selE ?_); first | (refine selE_p (by wtm_at "pf") ?_) | (refine selE_n (by wtm_at "pf") ?_)) | ((with_reducible refine gn_selE ?_); first | (refine selEN_p (by wtm_at "pf") ?_) | (refine selEN_n (by wtm_at "pf") ?_)) | ((with_reducible refine g_xf ?_); refine xf_at rfl (by wtm_at "hp") ?_) | ((with_reducible refine g_atI ?_); refine ex_at (by first | exact rfl | exact atI_int (by omega) (by wtm_at "pf") | exact atI_end (by wtm_at "pf")) ?_) | ((with_reducible refine g_and ?_); refine And.intro (by wtm_at "cl") ?_) | ((with_reducible refine g_new ?_); intro _ _))
local macro_rules | `(tactic| wtm_at "go") => `(tactic| repeat (first | wtm_at "xs" | wtm_at "st"))
local macro_rules | `(tactic| wtm_at "xo") => `(tactic| simp only [x_next, x_seq, x_brk, x_cont, x_drop, x_ret, x_retN, x_if, sel_t, sel_f, selE_t, selE_f, selT_t, selT_f, selC_t, selC_f, x_test, x_tB, x_op, x_un, x_var, x_c, x_cb, x_nil, x_cons, x_rI, x_rI0, x_rU, x_rEq, x_rNe, x_rIxL, x_rIxT, n_rSlL, n_rCat, n_rRep, n_rApp, x_bm, x_bm0, x_sl, x_nopart, x_part, n_tup, n_lst, x_call, x_callS, x_asg, x_gname, x_gtup, x_gnil, x_gcons, x_gsub, n_setL, x_aug, x_ipI, x_ipC, x_bits, x_getL, x_augS, x_and, x_or, x_not, x_k, x_andV, x_orV, x_notV, x_ife, x_chain, x_for, x_ilist, x_itup, x_ienum, x_irng1, x_irng2, x_irev, x_lc, x_yes, wipe_nil, wipe_cons, List.map_cons, List.map_nil, x_misc, x_misc2, x_rz, lookup_at, Bool.not_true, Bool.not_false, decide_true, decide_false, not_true, not_false_eq_true, and_assoc, exists_and_left, exists_eq_left', exists_eq_left, exists_eq', exists_eq_right', exists_eq_right, V.int.injEq, V.ref.injEq, V.bl.injEq, V.str.injEq, List.cons.injEq, and_true, true_and, and_self, Option.some.injEq, List.cons_append, List.nil_append, List.append_nil, List.getElem?_cons_zero, List.getElem?_cons_succ, List.set_cons_zero, List.set_cons_succ, reduceCtorEq, false_and, and_false, exists_false, exists_const, or_false, false_or, scal_ii, scal_bb, scal_ss, List.length_cons, List.length_nil, Int.reduceToNat, Int.reducePow, n_fld, n_sfld, n_aug, n_meth, n_mw, n_make, n_kw, n_rLs, n_dcp, x_sortK, n_gget, n_rLtT, n_ext, n_revL, n_rTp, t_im, ints_rev, t_s1, t_i1, t_i2, t_i3, t_i4, t_i5, x_chain3, x_irng3, x_irevR, x_rg1, x_rg2, ints_cat, ints_app1, ints_len, ints_take, ints_drop, rep_one])
local macro_rules | `(tactic| k_call_by "xo" $h:term) => `(tactic| simp only [$h:term, x_next, x_seq, x_brk, x_cont, x_drop, x_ret, x_retN, x_if, sel_t, sel_f, selE_t, selE_f, selT_t, selT_f, selC_t, selC_f, x_test, x_tB, x_op, x_un, x_var, x_c, x_cb, x_nil, x_cons, x_rI, x_rI0, x_rU, x_rEq, x_rNe, x_rIxL, x_rIxT, n_rSlL, n_rCat, n_rRep, n_rApp, x_bm, x_bm0, x_sl, x_nopart, x_part, n_tup, n_lst, x_call, x_callS, x_asg, x_gname, x_gtup, x_gnil, x_gcons, x_gsub, n_setL, x_aug, x_ipI, x_ipC, x_bits, x_getL, x_augS, x_and, x_or, x_not, x_k, x_andV, x_orV, x_notV, x_ife, x_chain, x_for, x_ilist, x_itup, x_ienum, x_irng1, x_irng2, x_irev, x_lc, x_yes, wipe_nil, wipe_cons, List.map_cons, List.map_nil, x_misc, x_misc2, x_rz, lookup_at, Bool.not_true, Bool.not_false, decide_true, decide_false, not_true, not_false_eq_true, and_assoc, exists_and_left, exists_eq_left', exists_eq_left, exists_eq', exists_eq_right', exists_eq_right, V.int.injEq, V.ref.injEq, V.bl.injEq, V.str.injEq, List.cons.injEq, and_true, true_and, and_self, Option.some.injEq, List.cons_append, List.nil_append, List.append_nil, List.getElem?_cons_zero, List.getElem?_cons_succ, List.set_cons_zero, List.set_cons_succ, reduceCtorEq, false_and, and_false, exists_false, exists_const, or_false, false_or, scal_ii, scal_bb, scal_ss, List.length_cons, List.length_nil, Int.reduceToNat, Int.reducePow, n_fld, n_sfld, n_aug, n_meth, n_mw, n_make, n_kw, n_rLs, n_dcp, x_sortK, n_gget, n_rLtT, n_ext, n_revL, n_rTp, t_im, ints_rev, t_s1, t_i1, t_i2, t_i3, t_i4, t_i5, x_chain3, x_irng3, x_irevR, x_rg1, x_rg2, ints_cat, ints_app1, ints_len, ints_take, ints_drop, rep_one])
local macro_rules | `(tactic| wtm_at "mem") => `(tactic| first | (with_reducible exact mem_here) | (with_reducible refine mem_there ?_; wtm_at "mem"))
local macro_rules | `(tactic| wtm_at "pp") => `(tactic| first | (with_reducible exact Put.here) | (with_reducible apply Put.there; wtm_at "pp"))
local macro_rules | `(tactic| wtm_at "ho") => `(tactic| first | (with_reducible assumption) | exact Own.get (by with_reducible assumption) (by wtm_at "mem") | exact Own.base (by with_reducible assumption) (by with_reducible assumption))
local macro_rules | `(tactic| wtm_at "qo") => `(tactic| first | (with_reducible assumption) | exact SqL.of (by wtm_at "ho") | exact sqT_tupI (by wtm_at "ho") | exact sqT_tupS (by wtm_at "ho") | exact SqT.of (by wtm_at "ho") | exact Own.imT (by with_reducible assumption) (by wtm_at "mem") | exact Own.sq (by with_reducible assumption) (by with_reducible assumption) | exact Own.sqT (by with_reducible assumption) (by with_reducible assumption))
local macro_rules | `(tactic| wtm_at "sub") => `(tactic| first | exact List.nil_sublist _ | (with_reducible refine List.Sublist.cons_cons _ ?_; wtm_at "sub") | (refine List.Sublist.cons _ ?_; wtm_at "sub"))
local macro_rules | `(tactic| wtm_at "co") => `(tactic| first | (with_reducible assumption) | omega | (exact cmul_r (by omega) (by omega)) | (exact cmul_l (by omega) (by omega)) | (exact cdiv_ok (by omega) (by omega)) | (exact cpow_ok (by decide)) | (exact ⟨by omega, by omega, by omega⟩) | decide | (exact ⟨by omega, by omega⟩) | (simp only [List.length_append, List.length_map, List.length_set, List.length_cons, List.length_nil, rngL_len, sizeLine_eq]; omega) | wtm_at "ho" | wtm_at "qo")
local macro_rules | `(tactic| wtm_at "so") => `(tactic| first | ((with_reducible refine g_dcp ?_); refine dcpI (by wtm_at "ho") ?_) | ((with_reducible refine g_asl ?_); refine And.intro (by rfl) ?_) | ((with_reducible refine g_asqT ?_); refine and_sqT (by wtm_at "qo") ?_) | ((with_reducible refine g_extO ?_); first | (refine extI (by with_reducible assumption) (by wtm_at "pp") (by wtm_at "co") (fun _ _ => ?_)) | (refine extO (by with_reducible assumption) (by wtm_at "pp") (by wtm_at "co") (fun _ _ => ?_))) | ((with_reducible refine g_tp ?_); first | (refine tp_l (by wtm_at "qo") ?_) | (refine tp_t (by wtm_at "qo") ?_)) | ((with_reducible refine g_fldO ?_); refine fldO (by wtm_at "ho") (by with_reducible assumption) (by wtm_at "mem") (by wtm_at "lk") ?_) | ((with_reducible refine g_fldC ?_); refine fldC (by wtm_at "ho") (by with_reducible assumption) (by wtm_at "mem") (by wtm_at "lk") ?_) | ((with_reducible refine g_putC ?_); refine putC (by with_reducible assumption) (by wtm_at "pp") (by wtm_at "pu") (by wtm_at "co") (fun _ _ => ?_)) | ((with_reducible refine g_stoO ?_); refine stoO (by with_reducible assumption) (by wtm_at "pp") (by wtm_at "pu") (by with_reducible assumption) (by wtm_at "mem") (by wtm_at "co") (fun _ _ => ?_)) | ((with_reducible refine g_metO ?_); refine metO (by wtm_at "ho") (by wtm_at "ln") ?_) | ((with_reducible refine g_makO ?_); refine makO (by with_reducible assumption) (fun _ _ _ _ => ?_)) | ((with_reducible refine g_sum ?_); refine sum_call (by wtm_at "qo") ?_) | ((with_reducible refine g_cq ?_); exact cq (by with_reducible assumption) (by simp only [rngL_len, List.length_map, List.length_take]; omega)) | ((with_reducible refine g_newO ?_); refine newO (by with_reducible assumption) (fun _ _ _ => ?_)) | ((with_reducible refine g_appO ?_); refine appI (by with_reducible assumption) (by wtm_at "pp") (by wtm_at "co") (fun _ _ => ?_)) | ((with_reducible refine g_setO ?_); refine setI (by with_reducible assumption) (by wtm_at "pp") (by omega) (by wtm_at "co") (fun _ _ => ?_)) | ((with_reducible refine g_appO ?_); refine appO (by with_reducible assumption) (by wtm_at "pp") (by wtm_at "co") (fun _ _ => ?_)) | ((with_reducible refine g_setO ?_); refine setO (by with_reducible assumption) (by wtm_at "pp") (by omega) (by wtm_at "co") (fun _ _ => ?_)) | ((with_reducible refine g_at ?_); refine at_call (by wtm_at "qo") (by omega) (by omega) (fun _ _ => ?_)) | ((with_reducible refine g_row ?_); refine row_call (by wtm_at "ho") ?_) | ((with_reducible refine g_int ?_); refine int_call ?_) | ((with_reducible refine g_isi ?_); first | (with_reducible refine isi_ii ?_) | (with_reducible refine isi_ib ?_) | (refine isi_int rfl ?_) | (refine isi_sqL rfl (by wtm_at "qo") ?_) | (refine isi_sqT rfl (by wtm_at "qo") ?_) | (refine isi_bl rfl ?_) | (refine isi_non rfl ?_) | (refine isi_str rfl ?_)) | ((with_reducible refine g_ned ?_); first | (refine ned_f (dq_lst (by wtm_at "qo")) (dq_lst (by wtm_at "qo")) ?_) | (refine ned_ints (by wtm_at "qo") (by wtm_at "qo") ?_) | (refine nedT_ints (by wtm_at "qo") (by wtm_at "qo") ?_)) | ((with_reducible refine g_eqd ?_); first | (refine eqd_t (dq_lst (by wtm_at "qo")) (dq_lst (by wtm_at "qo")) ?_) | (refine eqd_ints (by wtm_at "qo") (by wtm_at "qo") ?_) | (refine eqdT_ints (by wtm_at "qo") (by wtm_at "qo") ?_)) | ((with_reducible refine g_tyv ?_); refine and_tyv (by wtm_at "qo") ?_) | ((with_reducible refine g_asq ?_); refine and_sq (by wtm_at "qo") ?_) | ((with_reducible refine g_lst ?_); refine ex_lst (by wtm_at "ho") ?_) | ((with_reducible refine g_or ?_); first | (refine ex_or (by wtm_at "qo") ?_) | (refine ex_ort (by wtm_at "qo") ?_)) | ((with_reducible refine g_sq ?_); refine ex_sq (by wtm_at "qo") ?_) | ((with_reducible refine g_sqt ?_); refine ex_sqt (by wtm_at "qo") ?_) | ((with_reducible refine gd_sel ?_); first | (refine sel_p (by wtm_at "pf") ?_) | (refine sel_n (by wtm_at "pf") ?_)) | ((with_reducible refine gn_sel ?_); first | (refine selN_p (by wtm_at "pf") ?_) | (refine selN_n (by wtm_at "pf") ?_)) | ((with_reducible refine gd_selT ?_); first | (refine selT_p (by wtm_at "pf") ?_) | (refine selT_n (by wtm_at "pf") ?_)) | ((with_reducible refine gn_selT ?_); first | (refine selTN_p (by wtm_at "pf") ?_) | (refine selTN_n (by wtm_at "pf") ?_)) | ((with_reducible refine gd_selE ?_); first | (refine selE_p (by wtm_at "pf") ?_) | (refine selE_n (by wtm_at "pf") ?_)) | ((with_reducible refine gn_selE ?_); first | (refine selEN_p (by wtm_at "pf") ?_) | (refine selEN_n (by wtm_at "pf") ?_)) | ((with_reducible refine g_xf ?_); refine xf_at rfl (by wtm_at "ho") ?_) | ((with_reducible refine g_atI ?_); refine ex_at (by first | exact rfl | exact atI_int (by omega) (by wtm_at "pf") | exact atI_end (by wtm_at "pf")) ?_) | ((with_reducible refine g_and ?_); refine And.intro (by wtm_at "co") ?_))
local macro_rules | `(tactic| wtm_at "oo") => `(tactic| repeat (first | wtm_at "xo" | wtm_at "so"))
local macro_rules | `(tactic| wtm_at "cR") => `(tactic| (refine' compRi _ (by with_reducible assumption) (by omega) (fun _ _ _ _ _ => ?_) (fun _ _ _ => ?_); rotate_left; focus (wtm_at "oo")))

local macro_rules | `(tactic| wtm_at "lk") => `(tactic| first | (with_reducible exact lk_here) | (simp only [lk_here, lk_skip, lk_nil]; first | done | exact rfl))
local macro_rules | `(tactic| wtm_at "ln") => `(tactic| first | (with_reducible exact lk_nil) | (simp only [lk_skip, lk_nil]; done))
local macro_rules | `(tactic| wtm_at "pu") => `(tactic| first | (with_reducible exact pf_nil) | (simp only [pf_nil, pf_here, pf_skip]; first | done | exact rfl))
local macro_rules | `(tactic| wtm_at "tk") => `(tactic| first | (with_reducible exact Take.here) | (exact Take.here) | ((with_reducible apply Take.there); wtm_at "tk"))
local macro_rules | `(tactic| wtm_at "pk") => `(tactic| first | exact Pick.nil | ((with_reducible refine' Pick.cons ?tk1 ?pk1); (case tk1 => wtm_at "tk"); (case pk1 => wtm_at "pk")) | ((with_reducible refine Pick.im (by wtm_at "mem") ?_); wtm_at "pk") | ((with_reducible refine Pick.ims (by wtm_at "mem") ?_); wtm_at "pk"))

local macro_rules | `(tactic| wtm_at "ta") => `(tactic| first | (with_reducible exact TakeA.here) | ((with_reducible apply TakeA.there); wtm_at "ta"))
local macro_rules | `(tactic| wtm_at "tb") => `(tactic| first | (exact TakeA.here) | ((with_reducible apply TakeA.there); wtm_at "tb"))
local macro_rules | `(tactic| wtm_at "pa") => `(tactic| first | exact PickA.nil | ((with_reducible refine PickA.im (by wtm_at "mem") ?_); wtm_at "pa") | ((with_reducible refine PickA.ims (by wtm_at "mem") ?_); wtm_at "pa") | ((with_reducible refine' PickA.any ?tk1 ?pk1); (case tk1 => first | wtm_at "ta" | wtm_at "tb"); (case pk1 => wtm_at "pa")))
section
variable {P : Program} {w : World} {K : PySem.W.Frag} {mg : Str → Option Value} {base : Heap} [TBC K mg base]
theorem symsTo_up {cs : List Int} : ∀ i, (symsTo cs i).Pairwise (fun p q => p.2 < q.2) ∧ ∀ p ∈ symsTo cs i, p.2 < (i : Int)
  | 0 => ⟨List.Pairwise.nil, fun _ h => nomatch h⟩
  | i + 1 => by
    obtain ⟨h1, h2⟩ := symsTo_up (cs := cs) i
    unfold symsTo
    split
    · refine ⟨List.pairwise_append.mpr ⟨h1, List.pairwise_singleton _ _, fun a ha b hb => ?_⟩, fun p hp => ?_⟩
      · rw [List.mem_singleton.mp hb]
        exact h2 a ha
      · rcases List.mem_append.mp hp with h | h
        · have := h2 p h
          omega
        · rw [List.mem_singleton.mp h]
          show (i : Int) < ((i + 1 : Nat) : Int)
          omega
    · exact ⟨h1, fun p hp => by have := h2 p hp; omega⟩
/-- the row before the t-th one -/
theorem symsTo_used {cs : List Int} (h : ∀ x ∈ cs, 0 ≤ x) : (symsTo cs cs.length).length = usedN cs := by
  have key : ∀ i, i ≤ cs.length → (symsTo cs i).length = i - (cs.take i).count 0 := by
    intro i
    induction i with
    | zero => exact fun _ => rfl
    | succ i ih =>
      intro hi
      have := ih (by omega)
      have hx : cs[i]? = some (cs.getD i 0) := by
        rw [List.getD_eq_getElem?_getD, List.getElem?_eq_getElem (by omega)]
        rfl
      have hc := List.count_le_length (a := (0 : Int)) (l := cs.take i)
      rw [List.length_take] at hc
      have h0 := h _ (List.mem_of_getElem? hx)
      rw [List.take_add_one, hx, List.count_append]
      unfold symsTo
      by_cases c : 0 < cs.getD i 0
      · rw [if_pos c, List.length_append, this]
        have : List.count 0 (some (cs.getD i 0)).toList = 0 := by
          rw [List.count_eq_zero]
          intro hm
          have := List.mem_singleton.mp hm
          omega
        rw [this, List.length_singleton]
        omega
      · rw [if_neg c, this]
        have e : cs.getD i 0 = 0 := by omega
        rw [e]
        show _ = _ - (_ + List.count 0 [(0 : Int)])
        rw [List.count_singleton_self]
        omega
  rw [key _ (Nat.le_refl _), List.take_length]
  rfl
/-- one row ahead of all -/
theorem symsTo_mem {cs : List Int} : ∀ n j : Nat, j < n → 0 < cs.getD j 0 → (cs.getD j 0, (j : Int)) ∈ symsTo cs n
  | n + 1, j, h, h0 => by
    unfold symsTo
    by_cases e : j = n
    · subst e
      rw [if_pos h0]
      exact List.mem_append_right _ (List.mem_singleton.mpr rfl)
    · have := symsTo_mem n j (by omega) h0
      split
      · exact List.mem_append_left _ this
      · exact this
theorem symsTo_of {cs : List Int} : ∀ n : Nat, ∀ p ∈ symsTo cs n, ∃ j : Nat, j < n ∧ 0 < cs.getD j 0 ∧ p = (cs.getD j 0, (j : Int))
  | 0, _, h => nomatch h
  | n + 1, p, h => by
    unfold symsTo at h
    split at h
    · rename_i c
      rcases List.mem_append.mp h with h | h
      · obtain ⟨j, h1, h2, h3⟩ := symsTo_of n p h
        exact ⟨j, by omega, h2, h3⟩
      · exact ⟨n, by omega, c, List.mem_singleton.mp h⟩
    · obtain ⟨j, h1, h2, h3⟩ := symsTo_of n p h
      exact ⟨j, by omega, h2, h3⟩


end
end K13

namespace K13
open PySem PySem.Spec PyProof.Rows L2 Bel LamX
local macro_rules | `(tactic| wtm_at "xs") => `(tactic| simp only [x_next, x_seq, x_brk, x_cont, x_drop, x_ret, x_retN, x_if, sel_t, sel_f, selE_t, selE_f, selT_t, selT_f, selC_t, selC_f, x_test, x_tB, x_op, x_un, x_var, x_c, x_cb, x_nil, x_cons, x_rI, x_rI0, x_rU, x_rEq, x_rNe, x_rIxL, x_rIxT, x_rSlL, x_rCat, x_rRep, x_rApp, x_bm, x_bm0, x_sl, x_nopart, x_part, x_tup, x_lst, x_call, x_callS, x_asg, x_gname, x_gtup, x_gnil, x_gcons, x_gsub, x_setL, x_aug, x_ipI, x_ipC, x_bits, x_getL, x_augS, x_and, x_or, x_not, x_k, x_andV, x_orV, x_notV, x_ife, x_chain, x_for, x_ilist, x_itup, x_ienum, x_irng1, x_irng2, x_irev, x_lc, x_yes, wipe_nil, wipe_cons, List.map_cons, List.map_nil, x_misc, x_misc2, x_rz, lookup_at, Bool.not_true, Bool.not_false, decide_true, decide_false, not_true, not_false_eq_true, and_assoc, exists_and_left, exists_eq_left', exists_eq_left, exists_eq', exists_eq_right', exists_eq_right, V.int.injEq, V.ref.injEq, V.bl.injEq, V.str.injEq, List.cons.injEq, and_true, true_and, and_self, Option.some.injEq, List.cons_append, List.nil_append, List.append_nil, List.getElem?_cons_zero, List.getElem?_cons_succ, List.set_cons_zero, List.set_cons_succ, reduceCtorEq, false_and, and_false, exists_false, exists_const, or_false, false_or, scal_ii, scal_bb, scal_ss, List.length_cons, List.length_nil, Int.reduceToNat, Int.reducePow])
local macro_rules | `(tactic| k_call_by "xs" $h:term) => `(tactic| simp only [$h:term, x_next, x_seq, x_brk, x_cont, x_drop, x_ret, x_retN, x_if, sel_t, sel_f, selE_t, selE_f, selT_t, selT_f, selC_t, selC_f, x_test, x_tB, x_op, x_un, x_var, x_c, x_cb, x_nil, x_cons, x_rI, x_rI0, x_rU, x_rEq, x_rNe, x_rIxL, x_rIxT, x_rSlL, x_rCat, x_rRep, x_rApp, x_bm, x_bm0, x_sl, x_nopart, x_part, x_tup, x_lst, x_call, x_callS, x_asg, x_gname, x_gtup, x_gnil, x_gcons, x_gsub, x_setL, x_aug, x_ipI, x_ipC, x_bits, x_getL, x_augS, x_and, x_or, x_not, x_k, x_andV, x_orV, x_notV, x_ife, x_chain, x_for, x_ilist, x_itup, x_ienum, x_irng1, x_irng2, x_irev, x_lc, x_yes, wipe_nil, wipe_cons, List.map_cons, List.map_nil, x_misc, x_misc2, x_rz, lookup_at, Bool.not_true, Bool.not_false, decide_true, decide_false, not_true, not_false_eq_true, and_assoc, exists_and_left, exists_eq_left', exists_eq_left, exists_eq', exists_eq_right', exists_eq_right, V.int.injEq, V.ref.injEq, V.bl.injEq, V.str.injEq, List.cons.injEq, and_true, true_and, and_self, Option.some.injEq, List.cons_append, List.nil_append, List.append_nil, List.getElem?_cons_zero, List.getElem?_cons_succ, List.set_cons_zero, List.set_cons_succ, reduceCtorEq, false_and, and_false, exists_false, exists_const, or_false, false_or, scal_ii, scal_bb, scal_ss, List.length_cons, List.length_nil, Int.reduceToNat, Int.reducePow])
local macro_rules | `(tactic| wtm_at "hp") => `(tactic| first | (with_reducible assumption) | exact upd_same | (refine upd_keep (by with_reducible assumption) ?_; wtm_at "hp") | (refine Same.get (by with_reducible assumption) ?_; wtm_at "hp") | (refine upd_other (by first | (with_reducible assumption) | exact Ne.symm (by with_reducible assumption)) ?_; wtm_at "hp"))
local macro_rules | `(tactic| wtm_at "sq") => `(tactic| first | (with_reducible assumption) | exact SqL.of (by wtm_at "hp") | exact SqT.of (by wtm_at "hp") | (refine Same.seq (same_upd (by with_reducible assumption)) ?_; wtm_at "sq") | (refine Same.seq (by with_reducible assumption) ?_; wtm_at "sq") | (refine Same.seqT (same_upd (by with_reducible assumption)) ?_; wtm_at "sq") | (refine Same.seqT (by with_reducible assumption) ?_; wtm_at "sq"))
local macro_rules | `(tactic| wtm_at "cl") => `(tactic| first | (with_reducible assumption) | omega | (exact cmul_r (by omega) (by omega)) | (exact cmul_l (by omega) (by omega)) | (exact cdiv_ok (by omega) (by omega)) | (exact cpow_ok (by decide)) | (exact ⟨by omega, by omega, by omega⟩) | decide | (exact ⟨by omega, by omega⟩) | (simp only [List.length_append, List.length_map, List.length_set, List.length_cons, List.length_nil, rngL_len, sizeLine_eq]; omega) | wtm_at "hp" | wtm_at "sq")
local macro_rules | `(tactic| wtm_at "pf") => `(tactic| first | (with_reducible assumption) | omega | (simp only [List.length_append, List.length_map, List.length_set, List.length_cons, List.length_nil, rngL_len]; omega) | (with_reducible rfl) | (with_reducible trivial) | (with_reducible decide))
local macro_rules | `(tactic| wtm_at "st") => `(tactic| first | ((with_reducible refine g_at ?_); refine at_call (by wtm_at "sq") (by omega) (by omega) (fun _ _ => ?_)) | ((with_reducible refine g_row ?_); refine row_call (by wtm_at "hp") ?_) | ((with_reducible refine g_int ?_); refine int_call ?_) | ((with_reducible refine g_isi ?_); first | (with_reducible refine isi_ii ?_) | (with_reducible refine isi_ib ?_) | (refine isi_int rfl ?_) | (refine isi_lst rfl (by wtm_at "hp") ?_) | (refine isi_tup rfl (by wtm_at "hp") ?_)) | ((with_reducible refine g_ned ?_); refine ned_f (dq_lst (by wtm_at "sq")) (dq_lst (by wtm_at "sq")) ?_) | ((with_reducible refine g_eqd ?_); refine eqd_t (dq_lst (by wtm_at "sq")) (dq_lst (by wtm_at "sq")) ?_) | ((with_reducible refine g_tyv ?_); refine and_tyv (by wtm_at "sq") ?_) | ((with_reducible refine g_asq ?_); refine and_sq (by wtm_at "sq") ?_) | ((with_reducible refine g_lst ?_); refine ex_lst (by wtm_at "hp") ?_) | ((with_reducible refine g_or ?_); first | (refine ex_or (by wtm_at "sq") ?_) | (refine ex_ort (by wtm_at "sq") ?_)) | ((with_reducible refine g_sq ?_); refine ex_sq (by wtm_at "sq") ?_) | ((with_reducible refine g_sqt ?_); refine ex_sqt (by wtm_at "sq") ?_) | ((with_reducible refine gd_sel ?_); first | (refine sel_p (by wtm_at "pf") ?_) | (refine sel_n (by wtm_at "pf") ?_)) | ((with_reducible refine gn_sel ?_); first | (refine selN_p (by wtm_at "pf") ?_) | (refine selN_n (by wtm_at "pf") ?_)) | ((with_reducible refine gd_selT ?_); first | (refine selT_p (by wtm_at "pf") ?_) | (refine selT_n (by wtm_at "pf") ?_)) | ((with_reducible refine gn_selT ?_); first | (refine selTN_p (by wtm_at "pf") ?_) | (refine selTN_n (by wtm_at "pf") ?_)) | ((with_reducible refine gd_selE ?_); first | (refine selE_p (by wtm_at "pf") ?_) | (refine selE_n (by wtm_at "pf") ?_)) | ((with_reducible refine gn_selE ?_); first | (refine selEN_p (by wtm_at "pf") ?_) | (refine selEN_n (by wtm_at "pf") ?_)) | ((with_reducible refine g_xf ?_); refine xf_at rfl (by wtm_at "hp") ?_) | ((with_reducible refine g_atI ?_); refine ex_at (by first | exact rfl | exact atI_int (by omega) (by wtm_at "pf") | exact atI_end (by wtm_at "pf")) ?_) | ((with_reducible refine g_and ?_); refine And.intro (by wtm_at "cl") ?_) | ((with_reducible refine g_new ?_); intro _ _))
local macro_rules | `(tactic| wtm_at "go") => `(tactic| repeat (first | wtm_at "xs" | wtm_at "st"))
local macro_rules | `(tactic| wtm_at "xo") => `(tactic| simp only [x_next, x_seq, x_brk, x_cont, x_drop, x_ret, x_retN, x_if, sel_t, sel_f, selE_t, selE_f, selT_t, selT_f, selC_t, selC_f, x_test, x_tB, x_op, x_un, x_var, x_c, x_cb, x_nil, x_cons, x_rI, x_rI0, x_rU, x_rEq, x_rNe, x_rIxL, x_rIxT, n_rSlL, n_rCat, n_rRep, n_rApp, x_bm, x_bm0, x_sl, x_nopart, x_part, n_tup, n_lst, x_call, x_callS, x_asg, x_gname, x_gtup, x_gnil, x_gcons, x_gsub, n_setL, x_aug, x_ipI, x_ipC, x_bits, x_getL, x_augS, x_and, x_or, x_not, x_k, x_andV, x_orV, x_notV, x_ife, x_chain, x_for, x_ilist, x_itup, x_ienum, x_irng1, x_irng2, x_irev, x_lc, x_yes, wipe_nil, wipe_cons, List.map_cons, List.map_nil, x_misc, x_misc2, x_rz, lookup_at, Bool.not_true, Bool.not_false, decide_true, decide_false, not_true, not_false_eq_true, and_assoc, exists_and_left, exists_eq_left', exists_eq_left, exists_eq', exists_eq_right', exists_eq_right, V.int.injEq, V.ref.injEq, V.bl.injEq, V.str.injEq, List.cons.injEq, and_true, true_and, and_self, Option.some.injEq, List.cons_append, List.nil_append, List.append_nil, List.getElem?_cons_zero, List.getElem?_cons_succ, List.set_cons_zero, List.set_cons_succ, reduceCtorEq, false_and, and_false, exists_false, exists_const, or_false, false_or, scal_ii, scal_bb, scal_ss, List.length_cons, List.length_nil, Int.reduceToNat, Int.reducePow, n_fld, n_sfld, n_aug, n_meth, n_mw, n_make, n_kw, n_rLs, n_dcp, x_sortK, n_gget, n_rLtT, n_ext, n_revL, n_rTp, t_im, ints_rev, t_s1, t_i1, t_i2, t_i3, t_i4, t_i5, x_chain3, x_irng3, x_irevR, x_rg1, x_rg2, ints_cat, ints_app1, ints_len, ints_take, ints_drop, rep_one])
local macro_rules | `(tactic| k_call_by "xo" $h:term) => `(tactic| simp only [$h:term, x_next, x_seq, x_brk, x_cont, x_drop, x_ret, x_retN, x_if, sel_t, sel_f, selE_t, selE_f, selT_t, selT_f, selC_t, selC_f, x_test, x_tB, x_op, x_un, x_var, x_c, x_cb, x_nil, x_cons, x_rI, x_rI0, x_rU, x_rEq, x_rNe, x_rIxL, x_rIxT, n_rSlL, n_rCat, n_rRep, n_rApp, x_bm, x_bm0, x_sl, x_nopart, x_part, n_tup, n_lst, x_call, x_callS, x_asg, x_gname, x_gtup, x_gnil, x_gcons, x_gsub, n_setL, x_aug, x_ipI, x_ipC, x_bits, x_getL, x_augS, x_and, x_or, x_not, x_k, x_andV, x_orV, x_notV, x_ife, x_chain, x_for, x_ilist, x_itup, x_ienum, x_irng1, x_irng2, x_irev, x_lc, x_yes, wipe_nil, wipe_cons, List.map_cons, List.map_nil, x_misc, x_misc2, x_rz, lookup_at, Bool.not_true, Bool.not_false, decide_true, decide_false, not_true, not_false_eq_true, and_assoc, exists_and_left, exists_eq_left', exists_eq_left, exists_eq', exists_eq_right', exists_eq_right, V.int.injEq, V.ref.injEq, V.bl.injEq, V.str.injEq, List.cons.injEq, and_true, true_and, and_self, Option.some.injEq, List.cons_append, List.nil_append, List.append_nil, List.getElem?_cons_zero, List.getElem?_cons_succ, List.set_cons_zero, List.set_cons_succ, reduceCtorEq, false_and, and_false, exists_false, exists_const, or_false, false_or, scal_ii, scal_bb, scal_ss, List.length_cons, List.length_nil, Int.reduceToNat, Int.reducePow, n_fld, n_sfld, n_aug, n_meth, n_mw, n_make, n_kw, n_rLs, n_dcp, x_sortK, n_gget, n_rLtT, n_ext, n_revL, n_rTp, t_im, ints_rev, t_s1, t_i1, t_i2, t_i3, t_i4, t_i5, x_chain3, x_irng3, x_irevR, x_rg1, x_rg2, ints_cat, ints_app1, ints_len, ints_take, ints_drop, rep_one])
local macro_rules | `(tactic| wtm_at "mem") => `(tactic| first | (with_reducible exact mem_here) | (with_reducible refine mem_there ?_; wtm_at "mem"))
local macro_rules | `(tactic| wtm_at "pp") => `(tactic| first | (with_reducible exact Put.here) | (with_reducible apply Put.there; wtm_at "pp"))
local macro_rules | `(tactic| wtm_at "ho") => `(tactic| first | (with_reducible assumption) | exact Own.get (by with_reducible assumption) (by wtm_at "mem") | exact Own.base (by with_reducible assumption) (by with_reducible assumption))
local macro_rules | `(tactic| wtm_at "qo") => `(tactic| first | (with_reducible assumption) | exact SqL.of (by wtm_at "ho") | exact sqT_tupI (by wtm_at "ho") | exact sqT_tupS (by wtm_at "ho") | exact SqT.of (by wtm_at "ho") | exact Own.imT (by with_reducible assumption) (by wtm_at "mem") | exact Own.sq (by with_reducible assumption) (by with_reducible assumption) | exact Own.sqT (by with_reducible assumption) (by with_reducible assumption))
local macro_rules | `(tactic| wtm_at "sub") => `(tactic| first | exact List.nil_sublist _ | (with_reducible refine List.Sublist.cons_cons _ ?_; wtm_at "sub") | (refine List.Sublist.cons _ ?_; wtm_at "sub"))
local macro_rules | `(tactic| wtm_at "co") => `(tactic| first | (with_reducible assumption) | omega | (exact cmul_r (by omega) (by omega)) | (exact cmul_l (by omega) (by omega)) | (exact cdiv_ok (by omega) (by omega)) | (exact cpow_ok (by decide)) | (exact ⟨by omega, by omega, by omega⟩) | decide | (exact ⟨by omega, by omega⟩) | (simp only [List.length_append, List.length_map, List.length_set, List.length_cons, List.length_nil, rngL_len, sizeLine_eq]; omega) | wtm_at "ho" | wtm_at "qo")
local macro_rules | `(tactic| wtm_at "so") => `(tactic| first | ((with_reducible refine g_dcp ?_); refine dcpI (by wtm_at "ho") ?_) | ((with_reducible refine g_asl ?_); refine And.intro (by rfl) ?_) | ((with_reducible refine g_asqT ?_); refine and_sqT (by wtm_at "qo") ?_) | ((with_reducible refine g_extO ?_); first | (refine extI (by with_reducible assumption) (by wtm_at "pp") (by wtm_at "co") (fun _ _ => ?_)) | (refine extO (by with_reducible assumption) (by wtm_at "pp") (by wtm_at "co") (fun _ _ => ?_))) | ((with_reducible refine g_tp ?_); first | (refine tp_l (by wtm_at "qo") ?_) | (refine tp_t (by wtm_at "qo") ?_)) | ((with_reducible refine g_fldO ?_); refine fldO (by wtm_at "ho") (by with_reducible assumption) (by wtm_at "mem") (by wtm_at "lk") ?_) | ((with_reducible refine g_fldC ?_); refine fldC (by wtm_at "ho") (by with_reducible assumption) (by wtm_at "mem") (by wtm_at "lk") ?_) | ((with_reducible refine g_putC ?_); refine putC (by with_reducible assumption) (by wtm_at "pp") (by wtm_at "pu") (by wtm_at "co") (fun _ _ => ?_)) | ((with_reducible refine g_stoO ?_); refine stoO (by with_reducible assumption) (by wtm_at "pp") (by wtm_at "pu") (by with_reducible assumption) (by wtm_at "mem") (by wtm_at "co") (fun _ _ => ?_)) | ((with_reducible refine g_metO ?_); refine metO (by wtm_at "ho") (by wtm_at "ln") ?_) | ((with_reducible refine g_makO ?_); refine makO (by with_reducible assumption) (fun _ _ _ _ => ?_)) | ((with_reducible refine g_sum ?_); refine sum_call (by wtm_at "qo") ?_) | ((with_reducible refine g_cq ?_); exact cq (by with_reducible assumption) (by simp only [rngL_len, List.length_map, List.length_take]; omega)) | ((with_reducible refine g_newO ?_); refine newO (by with_reducible assumption) (fun _ _ _ => ?_)) | ((with_reducible refine g_appO ?_); refine appI (by with_reducible assumption) (by wtm_at "pp") (by wtm_at "co") (fun _ _ => ?_)) | ((with_reducible refine g_setO ?_); refine setI (by with_reducible assumption) (by wtm_at "pp") (by omega) (by wtm_at "co") (fun _ _ => ?_)) | ((with_reducible refine g_appO ?_); refine appO (by with_reducible assumption) (by wtm_at "pp") (by wtm_at "co") (fun _ _ => ?_)) | ((with_reducible refine g_setO ?_); refine setO (by with_reducible assumption) (by wtm_at "pp") (by omega) (by wtm_at "co") (fun _ _ => ?_)) | ((with_reducible refine g_at ?_); refine at_call (by wtm_at "qo") (by omega) (by omega) (fun _ _ => ?_)) | ((with_reducible refine g_row ?_); refine row_call (by wtm_at "ho") ?_) | ((with_reducible refine g_int ?_); refine int_call ?_) | ((with_reducible refine g_isi ?_); first | (with_reducible refine isi_ii ?_) | (with_reducible refine isi_ib ?_) | (refine isi_int rfl ?_) | (refine isi_sqL rfl (by wtm_at "qo") ?_) | (refine isi_sqT rfl (by wtm_at "qo") ?_) | (refine isi_bl rfl ?_) | (refine isi_non rfl ?_) | (refine isi_str rfl ?_)) | ((with_reducible refine g_ned ?_); first | (refine ned_f (dq_lst (by wtm_at "qo")) (dq_lst (by wtm_at "qo")) ?_) | (refine ned_ints (by wtm_at "qo") (by wtm_at "qo") ?_) | (refine nedT_ints (by wtm_at "qo") (by wtm_at "qo") ?_)) | ((with_reducible refine g_eqd ?_); first | (refine eqd_t (dq_lst (by wtm_at "qo")) (dq_lst (by wtm_at "qo")) ?_) | (refine eqd_ints (by wtm_at "qo") (by wtm_at "qo") ?_) | (refine eqdT_ints (by wtm_at "qo") (by wtm_at "qo") ?_)) | ((with_reducible refine g_tyv ?_); refine and_tyv (by wtm_at "qo") ?_) | ((with_reducible refine g_asq ?_); refine and_sq (by wtm_at "qo") ?_) | ((with_reducible refine g_lst ?_); refine ex_lst (by wtm_at "ho") ?_) | ((with_reducible refine g_or ?_); first | (refine ex_or (by wtm_at "qo") ?_) | (refine ex_ort (by wtm_at "qo") ?_)) | ((with_reducible refine g_sq ?_); refine ex_sq (by wtm_at "qo") ?_) | ((with_reducible refine g_sqt ?_); refine ex_sqt (by wtm_at "qo") ?_) | ((with_reducible refine gd_sel ?_); first | (refine sel_p (by wtm_at "pf") ?_) | (refine sel_n (by wtm_at "pf") ?_)) | ((with_reducible refine gn_sel ?_); first | (refine selN_p (by wtm_at "pf") ?_) | (refine selN_n (by wtm_at "pf") ?_)) | ((with_reducible refine gd_selT ?_); first | (refine selT_p (by wtm_at "pf") ?_) | (refine selT_n (by wtm_at "pf") ?_)) | ((with_reducible refine gn_selT ?_); first | (refine selTN_p (by wtm_at "pf") ?_) | (refine selTN_n (by wtm_at "pf") ?_)) | ((with_reducible refine gd_selE ?_); first | (refine selE_p (by wtm_at "pf") ?_) | (refine selE_n (by wtm_at "pf") ?_)) | ((with_reducible refine gn_selE ?_); first | (refine selEN_p (by wtm_at "pf") ?_) | (refine selEN_n (by wtm_at "pf") ?_)) | ((with_reducible refine g_xf ?_); refine xf_at rfl (by wtm_at "ho") ?_) | ((with_reducible refine g_atI ?_); refine ex_at (by first | exact rfl | exact atI_int (by omega) (by wtm_at "pf") | exact atI_end (by wtm_at "pf")) ?_) | ((with_reducible refine g_and ?_); refine And.intro (by wtm_at "co") ?_))
local macro_rules | `(tactic| wtm_at "oo") => `(tactic| repeat (first | wtm_at "xo" | wtm_at "so"))
local macro_rules | `(tactic| wtm_at "cR") => `(tactic| (refine' compRi _ (by with_reducible assumption) (by omega) (fun _ _ _ _ _ => ?_) (fun _ _ _ => ?_); rotate_left; focus (wtm_at "oo")))

local macro_rules | `(tactic| wtm_at "lk") => `(tactic| first | (with_reducible exact lk_here) | (simp only [lk_here, lk_skip, lk_nil]; first | done | exact rfl))
local macro_rules | `(tactic| wtm_at "ln") => `(tactic| first | (with_reducible exact lk_nil) | (simp only [lk_skip, lk_nil]; done))
local macro_rules | `(tactic| wtm_at "pu") => `(tactic| first | (with_reducible exact pf_nil) | (simp only [pf_nil, pf_here, pf_skip]; first | done | exact rfl))
local macro_rules | `(tactic| wtm_at "tk") => `(tactic| first | (with_reducible exact Take.here) | (exact Take.here) | ((with_reducible apply Take.there); wtm_at "tk"))
local macro_rules | `(tactic| wtm_at "pk") => `(tactic| first | exact Pick.nil | ((with_reducible refine' Pick.cons ?tk1 ?pk1); (case tk1 => wtm_at "tk"); (case pk1 => wtm_at "pk")) | ((with_reducible refine Pick.im (by wtm_at "mem") ?_); wtm_at "pk") | ((with_reducible refine Pick.ims (by wtm_at "mem") ?_); wtm_at "pk"))

local macro_rules | `(tactic| wtm_at "ta") => `(tactic| first | (with_reducible exact TakeA.here) | ((with_reducible apply TakeA.there); wtm_at "ta"))
local macro_rules | `(tactic| wtm_at "tb") => `(tactic| first | (exact TakeA.here) | ((with_reducible apply TakeA.there); wtm_at "tb"))
local macro_rules | `(tactic| wtm_at "pa") => `(tactic| first | exact PickA.nil | ((with_reducible refine PickA.im (by wtm_at "mem") ?_); wtm_at "pa") | ((with_reducible refine PickA.ims (by wtm_at "mem") ?_); wtm_at "pa") | ((with_reducible refine' PickA.any ?tk1 ?pk1); (case tk1 => first | wtm_at "ta" | wtm_at "tb"); (case pk1 => wtm_at "pa")))
section
variable {P : Program} {w : World} {K : PySem.W.Frag} {mg : Str → Option Value} {base : Heap} [TBC K mg base]
/-! ### the least of all choices of coins -/
def sv (l : List (Int × Int)) : Int := (l.map Prod.fst).sum
theorem sv_app {a b : List (Int × Int)} : sv (a ++ b) = sv a + sv b := by
  unfold sv
  rw [List.map_append, List.sum_append]
theorem sv_cons {p : Int × Int} {a : List (Int × Int)} : sv (p :: a) = p.1 + sv a := by
  unfold sv
  rw [List.map_cons, List.sum_cons]
theorem sum_perm {a b : List Int} (h : a.Perm b) : a.sum = b.sum := by
  induction h with
  | nil => rfl
  | cons x _ ih => rw [List.sum_cons, List.sum_cons, ih]
  | swap x y l => rw [List.sum_cons, List.sum_cons, List.sum_cons, List.sum_cons]; omega
  | trans _ _ h1 h2 => exact h1.trans h2
theorem sv_perm {a b : List (Int × Int)} (h : a.Perm b) : sv a = sv b := sum_perm (h.map Prod.fst)
theorem sv_nonneg : ∀ {a : List (Int × Int)}, (∀ p ∈ a, 0 ≤ p.1) → 0 ≤ sv a
  | [], _ => Int.le_refl _
  | p :: a, h => by
    have h1 := h p (.head _)
    have h2 := sv_nonneg (a := a) fun q hq => h q (.tail _ hq)
    rw [sv_cons]
    omega
theorem min_sum : ∀ {r b c : List (Int × Int)} {k : Nat}, r.Pairwise (fun p q => p.1 ≤ q.1) → (∀ p ∈ r, 0 ≤ p.1) → r.Perm (b ++ c) → k ≤ b.length → sv (r.take k) ≤ sv b
  | [], b, c, k, _, _, pm, _ => by
    have := pm.length_eq
    rw [List.length_append, List.length_nil] at this
    have : b = [] := List.length_eq_zero_iff.mp (by omega)
    subst this
    rw [List.take_nil]
    exact Int.le_refl _
  | x :: r, b, c, 0, _, h0, pm, _ => by
    rw [List.take_zero]
    exact sv_nonneg fun p hp => h0 p (pm.mem_iff.mpr (List.mem_append_left _ hp))
  | x :: r, b, c, k + 1, so, h0, pm, hk => by
    have so2 := List.pairwise_cons.mp so
    have h02 : ∀ p ∈ r, 0 ≤ p.1 := fun p hp => h0 p (.tail _ hp)
    rw [List.take_succ_cons, sv_cons]
    rcases List.mem_append.mp (pm.mem_iff.mp (.head _)) with hx | hx
    · obtain ⟨b1, b2, rfl⟩ := List.append_of_mem hx
      have e : (x :: r).Perm (x :: (b1 ++ b2 ++ c)) := pm.trans (by
        rw [List.append_assoc, List.cons_append, List.append_assoc]
        exact List.perm_middle)
      have ih := min_sum (k := k) so2.2 h02 e.cons_inv (by rw [List.length_append] at hk ⊢; rw [List.length_cons] at hk; omega)
      rw [sv_app, sv_cons]
      rw [sv_app] at ih
      omega
    · obtain ⟨c1, c2, rfl⟩ := List.append_of_mem hx
      have e : (x :: r).Perm (x :: (b ++ (c1 ++ c2))) := pm.trans (by
        rw [← List.append_assoc, ← List.append_assoc]
        exact List.perm_middle)
      have e2 := e.cons_inv
      cases b with
      | nil => exact absurd hk (by simp)
      | cons y b =>
        have hy : y ∈ r := e2.mem_iff.mpr (.head _)
        have hxy := so2.1 y hy
        have e3 : r.Perm (b ++ (y :: (c1 ++ c2))) := e2.trans (List.perm_middle.symm)
        have ih := min_sum (k := k) so2.2 h02 e3 (by rw [List.length_cons] at hk; omega)
        rw [sv_cons]
        omega
theorem rowN_sorted {cs : List Int} (t : Nat) : (rowN cs t).Pairwise (fun p q => p.1 ≤ q.1) := by
  rw [rowN_eq]
  have := List.pairwise_mergeSort (le := leP) (fun a b c h1 h2 => by
    unfold leP at *
    have := of_decide_eq_true h1
    have := of_decide_eq_true h2
    exact decide_eq_true (by omega)) (fun a b => by
    unfold leP
    by_cases h : a.1 ≤ b.1
    · rw [decide_eq_true h]
      rfl
    · rw [decide_eq_true (show b.1 ≤ a.1 by omega), Bool.or_true]) (symsTo cs cs.length ++ later cs t)
  exact this.imp fun h => of_decide_eq_true h
theorem rowN_perm {cs : List Int} (t : Nat) : (rowN cs t).Perm (symsTo cs cs.length ++ later cs t) := by
  rw [rowN_eq]
  exact List.mergeSort_perm _ _
theorem prs_pos {row : List (Int × Int)} {n : Nat} (h : ∀ p ∈ row, 0 ≤ p.1) : ∀ p ∈ prs row n, 0 ≤ p.1 := by
  intro p hp
  unfold prs at hp
  obtain ⟨j, _, rfl⟩ := List.mem_map.mp hp
  have key : ∀ k : Nat, 0 ≤ (row.getD k (0, 0)).1 := fun k => by
    rw [List.getD_eq_getElem?_getD]
    by_cases hk : k < row.length
    · rw [List.getElem?_eq_getElem hk]
      exact h _ (List.getElem_mem hk)
    · rw [List.getElem?_eq_none (by omega)]
      exact Int.le_refl _
  have h1 := key (2 * j)
  have h2 := key (2 * j + 1)
  show 0 ≤ _ + _
  omega
theorem rowN_pos {cs : List Int} : ∀ t, ∀ p ∈ rowN cs t, 0 ≤ p.1
  | 0, p, hp => by
    rcases List.mem_append.mp ((rowN_perm 0).mem_iff.mp hp) with h | h
    · obtain ⟨j, _, h0, rfl⟩ := symsTo_of _ p h
      show 0 ≤ cs.getD j 0
      omega
    · cases h
  | t + 1, p, hp => by
    rcases List.mem_append.mp ((rowN_perm (t + 1)).mem_iff.mp hp) with h | h
    · obtain ⟨j, _, h0, rfl⟩ := symsTo_of _ p h
      show 0 ≤ cs.getD j 0
      omega
    · exact prs_pos (rowN_pos t) p h
theorem prs_take {row : List (Int × Int)} {n j : Nat} (h : j ≤ n) : (prs row n).take j = prs row j := by
  unfold prs
  rw [← List.map_take, List.take_range, Nat.min_eq_left h]
theorem prs_sum {row : List (Int × Int)} : ∀ {j : Nat}, 2 * j ≤ row.length → sv (prs row j) = sv (row.take (2 * j))
  | 0, _ => rfl
  | j + 1, h => by
    have ih := prs_sum (row := row) (j := j) (by omega)
    rw [prs_succ, sv_app, ih, show 2 * (j + 1) = 2 * j + 1 + 1 by omega, List.take_add_one, List.take_add_one, sv_app, sv_app]
    have e1 : row[2 * j]? = some (row.getD (2 * j) (0, 0)) := by
      rw [List.getD_eq_getElem?_getD, List.getElem?_eq_getElem (by omega)]
      rfl
    have e2 : row[2 * j + 1]? = some (row.getD (2 * j + 1) (0, 0)) := by
      rw [List.getD_eq_getElem?_getD, List.getElem?_eq_getElem (by omega)]
      rfl
    rw [e1, e2]
    show _ + (_ + _ + 0) = _ + (_ + 0) + (_ + 0)
    omega
/-- the width and the cost of a choice, row by row -/
def wid (A : Nat → List (Int × Int)) : Nat → Nat
  | 0 => (A 0).length
  | t + 1 => wid A t + (A (t + 1)).length * 2 ^ (t + 1)
def cst (A : Nat → List (Int × Int)) : Nat → Int
  | 0 => sv (A 0)
  | t + 1 => cst A t + sv (A (t + 1))
theorem cst_nonneg {A : Nat → List (Int × Int)} (h : ∀ t, ∀ p ∈ A t, 0 ≤ p.1) : ∀ t, 0 ≤ cst A t
  | 0 => sv_nonneg (h 0)
  | t + 1 => by
    have := cst_nonneg h t
    have := sv_nonneg (h (t + 1))
    show 0 ≤ _ + _
    omega
theorem least_cost {cs : List Int} {A D : Nat → List (Int × Int)} (h : ∀ t, (symsTo cs cs.length).Perm (A t ++ D t)) : ∀ (t k : Nat), k * 2 ^ t ≤ wid A t → k ≤ (rowN cs t).length ∧ sv ((rowN cs t).take k) ≤ cst A t
  | 0, k, hk => by
    have pm : (rowN cs 0).Perm (A 0 ++ D 0) := (rowN_perm 0).trans (by
      show (symsTo cs cs.length ++ []).Perm _
      rw [List.append_nil]
      exact h 0)
    have hk2 : k ≤ (A 0).length := by
      have : k * 1 ≤ (A 0).length := hk
      omega
    exact ⟨by rw [pm.length_eq, List.length_append]; omega, min_sum (rowN_sorted 0) (rowN_pos 0) pm hk2⟩
  | t + 1, k, hk => by
    have hp : ∀ t, ∀ p ∈ A t, 0 ≤ p.1 := fun t p hp => by
      obtain ⟨j, _, h0, rfl⟩ := symsTo_of _ p ((h t).mem_iff.mpr (List.mem_append_left _ hp))
      show 0 ≤ cs.getD j 0
      omega
    have e2 : 2 ^ (t + 1) = 2 * 2 ^ t := by rw [Nat.pow_succ]; omega
    have hw : k * 2 ^ (t + 1) ≤ wid A t + (A (t + 1)).length * 2 ^ (t + 1) := hk
    generalize ha : (A (t + 1)).length = a at hw
    by_cases c : k ≤ a
    · have pm : (rowN cs (t + 1)).Perm (A (t + 1) ++ (D (t + 1) ++ later cs (t + 1))) := (rowN_perm (t + 1)).trans (by
        rw [← List.append_assoc]
        exact List.Perm.append_right _ (h (t + 1)))
      have := min_sum (k := k) (rowN_sorted (t + 1)) (rowN_pos (t + 1)) pm (by omega)
      have h2 := cst_nonneg hp t
      refine ⟨by rw [pm.length_eq, List.length_append]; omega, ?_⟩
      show _ ≤ cst A t + sv (A (t + 1))
      omega
    · obtain ⟨j, rfl⟩ : ∃ j, k = a + j := ⟨k - a, by omega⟩
      have hj : (2 * j) * 2 ^ t ≤ wid A t := by
        rw [Nat.add_mul, e2] at hw
        have : 2 * j * 2 ^ t = j * (2 * 2 ^ t) := by rw [Nat.mul_comm 2 j, Nat.mul_assoc]
        omega
      obtain ⟨h1, h2⟩ := least_cost h t (2 * j) hj
      have hl : later cs (t + 1) = prs (rowN cs t) ((rowN cs t).length / 2) := rfl
      have hjl : j ≤ (rowN cs t).length / 2 := by omega
      have pm : (rowN cs (t + 1)).Perm ((A (t + 1) ++ (later cs (t + 1)).take j) ++ (D (t + 1) ++ (later cs (t + 1)).drop j)) := (rowN_perm (t + 1)).trans (by
        have q1 : (symsTo cs cs.length ++ later cs (t + 1)).Perm ((A (t + 1) ++ D (t + 1)) ++ ((later cs (t + 1)).take j ++ (later cs (t + 1)).drop j)) := by
          rw [List.take_append_drop]
          exact List.Perm.append_right _ (h (t + 1))
        refine q1.trans ?_
        rw [List.append_assoc, List.append_assoc]
        refine List.Perm.append_left _ ?_
        rw [← List.append_assoc, ← List.append_assoc]
        exact List.Perm.append_right _ List.perm_append_comm)
      have hlen : (A (t + 1) ++ (later cs (t + 1)).take j).length = a + j := by
        rw [List.length_append, ha, List.length_take, hl, prs_len]
        omega
      have := min_sum (k := a + j) (rowN_sorted (t + 1)) (rowN_pos (t + 1)) pm (by omega)
      rw [sv_app, hl, prs_take hjl, prs_sum (by omega)] at this
      refine ⟨by rw [pm.length_eq, List.length_append, hlen]; omega, ?_⟩
      show _ ≤ cst A t + sv (A (t + 1))
      omega
/-! ### what shortest takes from the rows -/
def zs (f : Int × Int → Int) (l : List (Int × Int)) : Int := (l.map f).sum
theorem zs_app {f : Int × Int → Int} {a b : List (Int × Int)} : zs f (a ++ b) = zs f a + zs f b := by
  unfold zs
  rw [List.map_append, List.sum_append]
theorem zs_cons {f : Int × Int → Int} {p : Int × Int} {a : List (Int × Int)} : zs f (p :: a) = f p + zs f a := by
  unfold zs
  rw [List.map_cons, List.sum_cons]
theorem zs_perm {f : Int × Int → Int} {a b : List (Int × Int)} (h : a.Perm b) : zs f a = zs f b := sum_perm (h.map f)
theorem zs_congr {f g : Int × Int → Int} {a : List (Int × Int)} (h : ∀ p ∈ a, f p = g p) : zs f a = zs g a := by
  unfold zs
  rw [List.map_congr_left h]
theorem zs_add {f g : Int × Int → Int} : ∀ {a : List (Int × Int)}, zs (fun p => f p + g p) a = zs f a + zs g a
  | [] => rfl
  | p :: a => by
    have := zs_add (f := f) (g := g) (a := a)
    rw [zs_cons, zs_cons, zs_cons]
    omega
theorem zs_const {c : Int} : ∀ {a : List (Int × Int)}, zs (fun _ => c) a = a.length * c
  | [] => by
    show (0 : Int) = ((0 : Nat) : Int) * c
    rw [Int.natCast_zero, Int.zero_mul]
  | p :: a => by
    have := zs_const (c := c) (a := a)
    rw [zs_cons, this, List.length_cons, Int.natCast_add, Int.add_mul]
    omega
theorem zs_le {f g : Int × Int → Int} : ∀ {a : List (Int × Int)}, (∀ p ∈ a, f p ≤ g p) → zs f a ≤ zs g a
  | [], _ => Int.le_refl _
  | p :: a, h => by
    have h1 := h p (.head _)
    have h2 := zs_le (f := f) (g := g) (a := a) fun q hq => h q (.tail _ hq)
    rw [zs_cons, zs_cons]
    omega
def isS (p : Int × Int) : Bool := decide (p.2 ≠ -1)
def notS (p : Int × Int) : Bool := !isS p
theorem foldl_step : ∀ (its : List (Int × Int)) (ls : List Int) (q : Nat), its.foldl stepS (ls, q) = ((its.filter isS).foldl (fun l p => bump l p.2) ls, q + (its.filter notS).length)
  | [], _, _ => rfl
  | it :: its, ls, q => by
    rw [List.foldl_cons]
    by_cases c : it.2 = -1
    · have e : stepS (ls, q) it = (ls, q + 1) := if_pos c
      have e1 : isS it = false := decide_eq_false (fun h => h c)
      have e2 : notS it = true := by unfold notS; rw [e1]; rfl
      rw [e, foldl_step, List.filter_cons_of_neg (by rw [e1]; decide), List.filter_cons_of_pos e2, List.length_cons]
      congr 1
      omega
    · have e : stepS (ls, q) it = (bump ls it.2, q) := if_neg c
      have e1 : isS it = true := decide_eq_true c
      have e2 : notS it = false := by unfold notS; rw [e1]; rfl
      rw [e, foldl_step, List.filter_cons_of_pos e1, List.filter_cons_of_neg (by rw [e2]; decide), List.foldl_cons]
theorem symsTo_isS {cs : List Int} : (symsTo cs cs.length).filter isS = symsTo cs cs.length := by
  refine List.filter_eq_self.mpr fun p hp => ?_
  obtain ⟨j, _, _, rfl⟩ := symsTo_of _ p hp
  refine decide_eq_true ?_
  show (j : Int) ≠ -1
  omega
theorem later_notS {cs : List Int} (t : Nat) : ∀ p ∈ later cs t, p.2 = -1 := by
  cases t with
  | zero => exact fun _ h => nomatch h
  | succ t =>
    intro p h
    unfold later prs at h
    obtain ⟨j, _, rfl⟩ := List.mem_map.mp h
    rfl
theorem later_isS {cs : List Int} (t : Nat) : (later cs t).filter isS = [] := by
  refine List.filter_eq_nil_iff.mpr fun p hp h => ?_
  exact (of_decide_eq_true h) (later_notS t p hp)
theorem later_notS2 {cs : List Int} (t : Nat) : (later cs t).filter notS = later cs t := by
  refine List.filter_eq_self.mpr fun p hp => ?_
  unfold notS isS
  rw [decide_eq_false (fun h => h (later_notS t p hp))]
  rfl
theorem symsTo_notS {cs : List Int} : (symsTo cs cs.length).filter notS = [] := by
  refine List.filter_eq_nil_iff.mpr fun p hp h => ?_
  obtain ⟨j, _, _, rfl⟩ := symsTo_of _ p hp
  unfold notS isS at h
  rw [decide_eq_true (show ((j : Int) ≠ -1) by omega)] at h
  cases h
theorem rowN_syms {cs : List Int} (t : Nat) : ((rowN cs t).filter isS).Perm (symsTo cs cs.length) := by
  have := (rowN_perm (cs := cs) t).filter isS
  rw [List.filter_append, symsTo_isS, later_isS, List.append_nil] at this
  exact this
theorem rowN_gt {cs : List Int} : ∀ t, ∀ p ∈ rowN cs t, 0 < p.1
  | 0, p, hp => by
    rcases List.mem_append.mp ((rowN_perm 0).mem_iff.mp hp) with h | h
    · obtain ⟨j, _, h0, rfl⟩ := symsTo_of _ p h
      exact h0
    · cases h
  | t + 1, p, hp => by
    rcases List.mem_append.mp ((rowN_perm (t + 1)).mem_iff.mp hp) with h | h
    · obtain ⟨j, _, h0, rfl⟩ := symsTo_of _ p h
      exact h0
    · unfold later prs at h
      obtain ⟨j, hj, rfl⟩ := List.mem_map.mp h
      have hj := List.mem_range.mp hj
      have key : ∀ k : Nat, k < (rowN cs t).length → 0 < ((rowN cs t).getD k (0, 0)).1 := fun k hk => by
        rw [List.getD_eq_getElem?_getD, List.getElem?_eq_getElem hk]
        exact rowN_gt t _ (List.getElem_mem hk)
      have h1 := key (2 * j) (by omega)
      have h2 := key (2 * j + 1) (by omega)
      show 0 < _ + _
      omega
theorem prs_sorted {row : List (Int × Int)} {n : Nat} (h : row.Pairwise fun p q => p.1 ≤ q.1) (hn : 2 * n ≤ row.length) : (prs row n).Pairwise fun p q => p.1 ≤ q.1 := by
  unfold prs
  rw [List.pairwise_map]
  have hm : ∀ i ∈ List.range n, i < n := fun i hi => List.mem_range.mp hi
  refine List.pairwise_iff_getElem.mpr fun i j hi hj hij => ?_
  rw [List.length_range] at hi hj
  rw [List.getElem_range, List.getElem_range]
  have key : ∀ a b : Nat, a < b → b < row.length → (row.getD a (0, 0)).1 ≤ (row.getD b (0, 0)).1 := fun a b hab hb => by
    rw [List.getD_eq_getElem?_getD, List.getD_eq_getElem?_getD, List.getElem?_eq_getElem hb, List.getElem?_eq_getElem (by omega)]
    exact List.pairwise_iff_getElem.mp h a b (by omega) hb hab
  have h1 := key (2 * i) (2 * j) (by omega) (by omega)
  have h2 := key (2 * i + 1) (2 * j + 1) (by omega) (by omega)
  show _ + _ ≤ _ + _
  omega
theorem later_sorted {cs : List Int} (t : Nat) : (later cs t).Pairwise fun p q => p.1 ≤ q.1 := by
  cases t with
  | zero => exact List.Pairwise.nil
  | succ t => exact prs_sorted (rowN_sorted t) (by omega)
theorem rowN_pairs {cs : List Int} (t : Nat) : (rowN cs t).filter notS = later cs t := by
  have h1 : (later cs t).Sublist (rowN cs t) := by
    rw [rowN_eq]
    refine List.sublist_mergeSort (le := leP) (fun a b c h1 h2 => by
      unfold leP at *
      have := of_decide_eq_true h1
      have := of_decide_eq_true h2
      exact decide_eq_true (by omega)) (fun a b => by
      unfold leP
      by_cases h : a.1 ≤ b.1
      · rw [decide_eq_true h]
        rfl
      · rw [decide_eq_true (show b.1 ≤ a.1 by omega), Bool.or_true]) ((later_sorted t).imp fun h => decide_eq_true h) (List.sublist_append_right _ _)
  have h2 := h1.filter notS
  rw [later_notS2] at h2
  refine (h2.eq_of_length ?_).symm
  have := ((rowN_perm (cs := cs) t).filter notS).length_eq
  rw [List.filter_append, symsTo_notS, List.nil_append, later_notS2] at this
  exact this.symm
/-- the symbols that a row's first k items hold -/
def bs (cs : List Int) (t k : Nat) : List (Int × Int) := ((rowN cs t).take k).filter isS
def ds (cs : List Int) (t k : Nat) : List (Int × Int) := ((rowN cs t).drop k).filter isS
def pn (cs : List Int) (t k : Nat) : Nat := (((rowN cs t).take k).filter notS).length
theorem bs_ds {cs : List Int} (t k : Nat) : (symsTo cs cs.length).Perm (bs cs t k ++ ds cs t k) := by
  unfold bs ds
  rw [← List.filter_append, List.take_append_drop]
  exact (rowN_syms t).symm
theorem pn_take {cs : List Int} (t k : Nat) : ((rowN cs t).take k).filter notS = (later cs t).take (pn cs t k) := by
  have h := congrArg (List.filter notS) (List.take_append_drop k (rowN cs t))
  rw [List.filter_append, rowN_pairs] at h
  rw [← h]
  exact List.take_left.symm
theorem pn_le {cs : List Int} (t k : Nat) : pn cs t k ≤ (later cs t).length := by
  have := congrArg List.length (pn_take (cs := cs) t k)
  rw [List.length_take] at this
  have e : pn cs t k = (((rowN cs t).take k).filter notS).length := rfl
  omega
theorem bs_pn {cs : List Int} (t k : Nat) (h : k ≤ (rowN cs t).length) : (bs cs t k).length + pn cs t k = k := by
  have := (List.filter_append_perm isS ((rowN cs t).take k)).length_eq
  rw [List.length_append, List.length_take] at this
  show (bs cs t k).length + (((rowN cs t).take k).filter fun x => !isS x).length = k
  unfold bs
  omega
/-- what one row takes is taken in the row ahead of it -/
theorem bs_nest {cs : List Int} (t k : Nat) : ∀ p ∈ bs cs t (2 * pn cs (t + 1) k), p ∈ bs cs (t + 1) k := by
  intro p hp
  obtain ⟨hp1, hp2⟩ := List.mem_filter.mp hp
  have hS : p ∈ symsTo cs cs.length := (rowN_syms t).mem_iff.mp (List.mem_filter.mpr ⟨List.mem_of_mem_take hp1, hp2⟩)
  obtain ⟨i, hi, rfl⟩ := List.getElem_of_mem hp1
  rw [List.length_take] at hi
  have hq := pn_le (cs := cs) (t + 1) k
  have hl : (later cs (t + 1)).length = (rowN cs t).length / 2 := prs_len
  rw [List.getElem_take] at hS hp2 ⊢
  generalize hx : (rowN cs t)[i] = x at hS hp2 ⊢
  -- the pair that holds it
  have key : ∀ a : Nat, a < (rowN cs t).length → 0 < ((rowN cs t).getD a (0, 0)).1 := fun a ha => by
    rw [List.getD_eq_getElem?_getD, List.getElem?_eq_getElem ha]
    exact rowN_gt t _ (List.getElem_mem ha)
  have hxi : (rowN cs t).getD i (0, 0) = x := by
    rw [List.getD_eq_getElem?_getD, List.getElem?_eq_getElem (by omega), ← hx]
    rfl
  have hy : ∃ y ∈ (rowN cs (t + 1)).take k, x.1 < y.1 := by
    have hm : (((rowN cs t).getD (2 * (i / 2)) (0, 0)).1 + ((rowN cs t).getD (2 * (i / 2) + 1) (0, 0)).1, (-1 : Int)) ∈ (later cs (t + 1)).take (pn cs (t + 1) k) := by
      have e : (later cs (t + 1)).take (pn cs (t + 1) k) = prs (rowN cs t) (pn cs (t + 1) k) := prs_take (by omega)
      rw [e]
      exact List.mem_map.mpr ⟨i / 2, List.mem_range.mpr (by omega), rfl⟩
    rw [← pn_take] at hm
    refine ⟨_, (List.mem_filter.mp hm).1, ?_⟩
    have h1 := key (2 * (i / 2)) (by omega)
    have h2 := key (2 * (i / 2) + 1) (by omega)
    show x.1 < _ + _
    rw [← hxi] at *
    rcases Nat.mod_two_eq_zero_or_one i with c | c
    · rw [show 2 * (i / 2) = i by omega] at *
      omega
    · rw [show 2 * (i / 2) + 1 = i by omega] at *
      omega
  obtain ⟨y, hy1, hy2⟩ := hy
  have hX : x ∈ rowN cs (t + 1) := (List.mem_filter.mp ((rowN_syms (t + 1)).mem_iff.mpr hS)).1
  refine List.mem_filter.mpr ⟨?_, hp2⟩
  have hs := rowN_sorted (cs := cs) (t + 1)
  rw [← List.take_append_drop k (rowN cs (t + 1))] at hX hs
  rcases List.mem_append.mp hX with h | h
  · exact h
  · have := (List.pairwise_append.mp hs).2.2 y hy1 x h
    omega
theorem bump_get {xs : List Int} {i j : Nat} (hj : j < xs.length) : (bump xs (i : Int)).getD j 0 = xs.getD j 0 + if i = j then 1 else 0 := by
  unfold bump
  rw [Int.toNat_natCast, List.getD_eq_getElem?_getD, List.getElem?_set]
  by_cases c : i = j
  · subst c
    rw [if_pos rfl, if_pos hj, if_pos rfl]
    rfl
  · rw [if_neg c, if_neg c, ← List.getD_eq_getElem?_getD]
    omega
theorem bumps_len : ∀ {B : List (Int × Int)} {ls : List Int}, (B.foldl (fun l p => bump l p.2) ls).length = ls.length
  | [], _ => rfl
  | p :: B, ls => (bumps_len (B := B) (ls := bump ls p.2)).trans bump_len
theorem bumps_get : ∀ {B : List (Int × Int)} {ls : List Int} {j : Nat}, (∀ p ∈ B, 0 ≤ p.2) → (B.Pairwise fun p q => p.2 ≠ q.2) → j < ls.length → (B.foldl (fun l p => bump l p.2) ls).getD j 0 = ls.getD j 0 + if (j : Int) ∈ B.map Prod.snd then 1 else 0
  | [], ls, j, _, _, _ => by
    rw [if_neg (by exact fun h => nomatch h)]
    show ls.getD j 0 = _
    omega
  | p :: B, ls, j, h0, hd, hj => by
    obtain ⟨hd1, hd2⟩ := List.pairwise_cons.mp hd
    rw [List.foldl_cons, bumps_get (fun q hq => h0 q (.tail _ hq)) hd2 (by rw [bump_len]; exact hj)]
    have hp := h0 p (.head _)
    obtain ⟨i, hi⟩ : ∃ i : Nat, p.2 = (i : Int) := ⟨p.2.toNat, by omega⟩
    rw [hi, bump_get hj, List.map_cons]
    by_cases c : i = j
    · subst c
      rw [if_pos rfl, if_neg, if_pos (by rw [hi]; exact .head _)]
      · omega
      · intro h
        obtain ⟨q, hq, e⟩ := List.mem_map.mp h
        exact hd1 q hq (by omega)
    · rw [if_neg c]
      by_cases c2 : (j : Int) ∈ B.map Prod.snd
      · rw [if_pos c2, if_pos (.tail _ c2)]
        omega
      · rw [if_neg c2, if_neg]
        · omega
        · intro h
          rcases List.mem_cons.mp h with h | h
          · omega
          · exact c2 h
theorem syms_apart {cs : List Int} : (symsTo cs cs.length).Pairwise fun p q => p.2 ≠ q.2 := (symsTo_up _).1.imp fun h => by omega
theorem bsds_apart {cs : List Int} (t k : Nat) : (bs cs t k ++ ds cs t k).Pairwise fun p q => p.2 ≠ q.2 := (bs_ds t k).pairwise syms_apart fun h => Ne.symm h
/-- the room that lengths leave, and what they cost -/
def phi (cs : List Int) (m : Nat) (ls : List Int) : Int := zs (fun p => ((2 ^ (m - (ls.getD p.2.toNat 0).toNat) : Nat) : Int)) (symsTo cs cs.length)
def cstL (cs ls : List Int) : Int := zs (fun p => p.1 * ls.getD p.2.toNat 0) (symsTo cs cs.length)
theorem sv_zs {l : List (Int × Int)} : sv l = zs Prod.fst l := rfl
theorem sv_parts {l : List (Int × Int)} : sv l = sv (l.filter isS) + sv (l.filter notS) := by
  rw [← sv_app]
  exact (sv_perm (List.filter_append_perm isS l)).symm
theorem step_row {cs ls : List Int} {t k m : Nat} (tm : t < m) (ll : ls.length = cs.length) (hk : k ≤ (rowN cs t).length)
    (h1 : ∀ p ∈ bs cs t k, ls.getD p.2.toNat 0 = ((m - 1 - t : Nat) : Int))
    (h2 : ∀ j, 0 ≤ ls.getD j 0 ∧ ls.getD j 0 ≤ ((m - 1 - t : Nat) : Int))
    (h3 : ∀ j, cs.getD j 0 ≤ 0 → ls.getD j 0 = 0) :
    ∃ ls' : List Int, rowS (ls, k) (rowN cs t) = (ls', 2 * pn cs t k) ∧ ls'.length = cs.length
      ∧ (∀ p ∈ bs cs t k, ls'.getD p.2.toNat 0 = ((m - t : Nat) : Int))
      ∧ (∀ j, 0 ≤ ls'.getD j 0 ∧ ls'.getD j 0 ≤ ((m - t : Nat) : Int))
      ∧ (∀ j, cs.getD j 0 ≤ 0 → ls'.getD j 0 = 0)
      ∧ phi cs m ls' + (bs cs t k).length * ((2 ^ t : Nat) : Int) = phi cs m ls
      ∧ cstL cs ls' = cstL cs ls + sv (bs cs t k) := by
  have hp : ∀ p ∈ bs cs t k ++ ds cs t k, ∃ j : Nat, j < cs.length ∧ 0 < cs.getD j 0 ∧ p = (cs.getD j 0, (j : Int)) := fun p h => symsTo_of _ p ((bs_ds t k).mem_iff.mpr h)
  have hap := List.pairwise_append.mp (bsds_apart (cs := cs) t k)
  have hget : ∀ j, j < cs.length → ((bs cs t k).foldl (fun l p => bump l p.2) ls).getD j 0 = ls.getD j 0 + if (j : Int) ∈ (bs cs t k).map Prod.snd then 1 else 0 := fun j hj => bumps_get (fun p h => by
    obtain ⟨i, _, _, rfl⟩ := hp p (List.mem_append_left _ h)
    show (0 : Int) ≤ (i : Int)
    omega) hap.1 (by omega)
  have hB : ∀ p ∈ bs cs t k, ((bs cs t k).foldl (fun l p => bump l p.2) ls).getD p.2.toNat 0 = ls.getD p.2.toNat 0 + 1 := fun p h => by
    obtain ⟨i, hi, _, rfl⟩ := hp p (List.mem_append_left _ h)
    show List.getD _ (i : Int).toNat 0 = _
    rw [Int.toNat_natCast, hget i hi, if_pos (List.mem_map.mpr ⟨_, h, rfl⟩)]
  have hD : ∀ p ∈ ds cs t k, ((bs cs t k).foldl (fun l p => bump l p.2) ls).getD p.2.toNat 0 = ls.getD p.2.toNat 0 := fun p h => by
    obtain ⟨i, hi, _, rfl⟩ := hp p (List.mem_append_right _ h)
    show List.getD _ (i : Int).toNat 0 = _
    rw [Int.toNat_natCast, hget i hi, if_neg]
    · omega
    · intro hm
      obtain ⟨q, hq, e⟩ := List.mem_map.mp hm
      exact hap.2.2 q hq _ h e
  have hlen : ((bs cs t k).foldl (fun l p => bump l p.2) ls).length = cs.length := bumps_len.trans ll
  have er : rowS (ls, k) (rowN cs t) = ((bs cs t k).foldl (fun l p => bump l p.2) ls, 2 * pn cs t k) := by
    unfold rowS
    rw [foldl_step]
    show (_, 2 * (0 + _)) = _
    rw [Nat.zero_add]
    rfl
  have hin : ∀ j : Nat, (j : Int) ∈ (bs cs t k).map Prod.snd → 0 < cs.getD j 0 ∧ ls.getD j 0 = ((m - 1 - t : Nat) : Int) := fun j h => by
    obtain ⟨q, hq, e⟩ := List.mem_map.mp h
    have := h1 q hq
    obtain ⟨i, hi, h0, rfl⟩ := hp q (List.mem_append_left _ hq)
    have e : i = j := by
      have : (i : Int) = j := e
      omega
    subst e
    exact ⟨h0, by rw [← this]; rfl⟩
  generalize (bs cs t k).foldl (fun l p => bump l p.2) ls = ls' at *
  refine ⟨ls', er, hlen, fun p h => ?_, fun j => ?_, fun j h => ?_, ?_, ?_⟩
  · rw [hB p h, h1 p h]
    omega
  · by_cases hj : j < cs.length
    · rw [hget j hj]
      have := h2 j
      by_cases c : (j : Int) ∈ (bs cs t k).map Prod.snd
      · rw [if_pos c]
        omega
      · rw [if_neg c]
        omega
    · rw [List.getD_eq_getElem?_getD, List.getElem?_eq_none (by omega)]
      show (0 : Int) ≤ 0 ∧ (0 : Int) ≤ _
      omega
  · by_cases hj : j < cs.length
    · rw [hget j hj, if_neg, h3 j h]
      · omega
      · intro c
        have := (hin j c).1
        omega
    · rw [List.getD_eq_getElem?_getD, List.getElem?_eq_none (by omega)]
      rfl
  · unfold phi
    rw [zs_perm (bs_ds t k), zs_perm (bs_ds t k), zs_app, zs_app]
    have eD : zs (fun p => ((2 ^ (m - (ls'.getD p.2.toNat 0).toNat) : Nat) : Int)) (ds cs t k) = zs (fun p => ((2 ^ (m - (ls.getD p.2.toNat 0).toNat) : Nat) : Int)) (ds cs t k) := zs_congr fun p h => by
      rw [hD p h]
    have e1 : zs (fun p => ((2 ^ (m - (ls'.getD p.2.toNat 0).toNat) : Nat) : Int)) (bs cs t k) = (bs cs t k).length * ((2 ^ t : Nat) : Int) := by
      rw [← zs_const]
      refine zs_congr fun p h => ?_
      rw [hB p h, h1 p h, show m - (((m - 1 - t : Nat) : Int) + 1).toNat = t by omega]
    have e2 : zs (fun p => ((2 ^ (m - (ls.getD p.2.toNat 0).toNat) : Nat) : Int)) (bs cs t k) = (bs cs t k).length * ((2 ^ (t + 1) : Nat) : Int) := by
      rw [← zs_const]
      refine zs_congr fun p h => ?_
      rw [h1 p h, show m - (((m - 1 - t : Nat) : Int)).toNat = t + 1 by omega]
    rw [eD, e1, e2, Nat.pow_succ, Int.natCast_mul]
    generalize ((2 ^ t : Nat) : Int) = w
    rw [← Int.mul_assoc, Int.mul_comm (_ * w)]
    show _ + _ + _ = (2 : Int) * (_ * w) + _
    omega
  · unfold cstL
    rw [zs_perm (bs_ds t k), zs_perm (bs_ds t k), zs_app, zs_app]
    have eD : zs (fun p => p.1 * ls'.getD p.2.toNat 0) (ds cs t k) = zs (fun p => p.1 * ls.getD p.2.toNat 0) (ds cs t k) := zs_congr fun p h => by
      rw [hD p h]
    have eB : zs (fun p => p.1 * ls'.getD p.2.toNat 0) (bs cs t k) = zs (fun p => p.1 * ls.getD p.2.toNat 0 + p.1) (bs cs t k) := zs_congr fun p h => by
      rw [hB p h, Int.mul_add, Int.mul_one]
    rw [eD, eB, zs_add, sv_zs]
    show _ + zs Prod.fst _ + _ = _
    omega
theorem formed_succ {cs : List Int} {t : Nat} : formed cs (t + 1) = rowN cs t :: formed cs t := by
  unfold formed
  rw [List.range_succ, List.map_append, List.reverse_append]
  rfl
theorem rows_take {cs : List Int} {m : Nat} : ∀ {t k : Nat} {ls : List Int}, t < m → ls.length = cs.length → k ≤ (rowN cs t).length →
    (∀ p ∈ bs cs t k, ls.getD p.2.toNat 0 = ((m - 1 - t : Nat) : Int)) →
    (∀ j, 0 ≤ ls.getD j 0 ∧ ls.getD j 0 ≤ ((m - 1 - t : Nat) : Int)) →
    (∀ j, cs.getD j 0 ≤ 0 → ls.getD j 0 = 0) →
    phi cs m ls = ((2 ^ m + k * 2 ^ t : Nat) : Int) →
    (∀ j, 0 ≤ ((formed cs (t + 1)).foldl rowS (ls, k)).1.getD j 0 ∧ ((formed cs (t + 1)).foldl rowS (ls, k)).1.getD j 0 ≤ (m : Int))
    ∧ (∀ j, cs.getD j 0 ≤ 0 → ((formed cs (t + 1)).foldl rowS (ls, k)).1.getD j 0 = 0)
    ∧ phi cs m ((formed cs (t + 1)).foldl rowS (ls, k)).1 = ((2 ^ m : Nat) : Int)
    ∧ cstL cs ((formed cs (t + 1)).foldl rowS (ls, k)).1 = cstL cs ls + sv ((rowN cs t).take k)
  | 0, k, ls, tm, ll, hk, h1, h2, h3, h4 => by
    obtain ⟨ls', e, l', g1, g2, g3, g4, g5⟩ := step_row tm ll hk h1 h2 h3
    have hb := bs_pn (cs := cs) 0 k hk
    have hq : pn cs 0 k = 0 := Nat.le_zero.mp (pn_le 0 k)
    have hps : ((rowN cs 0).take k).filter notS = [] := List.length_eq_zero_iff.mp hq
    rw [formed_succ, List.foldl_cons, e]
    show (∀ j, 0 ≤ ls'.getD j 0 ∧ ls'.getD j 0 ≤ (m : Int)) ∧ (∀ j, cs.getD j 0 ≤ 0 → ls'.getD j 0 = 0) ∧ phi cs m ls' = _ ∧ cstL cs ls' = _
    refine ⟨fun j => ?_, g3, ?_, ?_⟩
    · have := g2 j
      omega
    · rw [h4, show (bs cs 0 k).length = k by omega] at g4
      rw [Nat.pow_zero] at g4
      omega
    · rw [g5, sv_parts (l := (rowN cs 0).take k), hps]
      show _ = _ + (_ + 0)
      unfold bs
      omega
  | t + 1, k, ls, tm, ll, hk, h1, h2, h3, h4 => by
    obtain ⟨ls', e, l', g1, g2, g3, g4, g5⟩ := step_row tm ll hk h1 h2 h3
    have hb := bs_pn (cs := cs) (t + 1) k hk
    have hq := pn_le (cs := cs) (t + 1) k
    have hl : (later cs (t + 1)).length = (rowN cs t).length / 2 := prs_len
    have em : m - (t + 1) = m - 1 - t := by omega
    rw [em] at g1 g2
    have ih := rows_take (t := t) (k := 2 * pn cs (t + 1) k) (ls := ls') (by omega) l' (by omega) (fun p h => g1 p (bs_nest t k p h)) g2 g3 (by
      rw [h4] at g4
      have : (k : Int) = (bs cs (t + 1) k).length + pn cs (t + 1) k := by omega
      rw [Int.natCast_add, Int.natCast_mul, this, Int.add_mul] at g4
      have e2 : ((2 * pn cs (t + 1) k * 2 ^ t : Nat) : Int) = (pn cs (t + 1) k : Int) * ((2 ^ (t + 1) : Nat) : Int) := by
        rw [← Int.natCast_mul, Nat.pow_succ, Nat.mul_comm 2, Nat.mul_assoc, Nat.mul_comm 2]
      rw [Int.natCast_add, e2]
      omega)
    rw [formed_succ, List.foldl_cons, e]
    refine ⟨ih.1, ih.2.1, ih.2.2.1, ?_⟩
    rw [ih.2.2.2, g5, sv_parts (l := (rowN cs (t + 1)).take k), pn_take]
    have e3 : sv ((later cs (t + 1)).take (pn cs (t + 1) k)) = sv ((rowN cs t).take (2 * pn cs (t + 1) k)) := by
      show sv ((prs (rowN cs t) ((rowN cs t).length / 2)).take _) = _
      rw [prs_take (by omega), prs_sum (by omega)]
    rw [e3]
    unfold bs
    omega
theorem filt_len {q : Int × Int → Bool} {x : Int} : ∀ {l : List (Int × Int)}, ((l.filter q).length : Int) * x = zs (fun p => if q p = true then x else 0) l
  | [] => by
    show ((0 : Nat) : Int) * x = 0
    rw [Int.natCast_zero, Int.zero_mul]
  | p :: l => by
    have ih := filt_len (q := q) (x := x) (l := l)
    rw [zs_cons, ← ih]
    by_cases c : q p = true
    · rw [List.filter_cons_of_pos c, if_pos c, List.length_cons, Int.natCast_add, Int.add_mul]
      omega
    · rw [List.filter_cons_of_neg c, if_neg c]
      omega
theorem filt_sv {q : Int × Int → Bool} : ∀ {l : List (Int × Int)}, sv (l.filter q) = zs (fun p => if q p = true then p.1 else 0) l
  | [] => rfl
  | p :: l => by
    have ih := filt_sv (q := q) (l := l)
    rw [zs_cons, ← ih]
    by_cases c : q p = true
    · rw [List.filter_cons_of_pos c, if_pos c, sv_cons]
    · rw [List.filter_cons_of_neg c, if_neg c]
      omega
/-- the symbols whose length reaches into a row -/
def pickL (cs : List Int) (m : Nat) (L : Int × Int → Nat) (t : Nat) : List (Int × Int) := (symsTo cs cs.length).filter fun p => decide (m ≤ t + L p)
theorem pick_wid {cs : List Int} {m : Nat} {L : Int × Int → Nat} (h : ∀ p ∈ symsTo cs cs.length, L p ≤ m) : ∀ t, ((wid (pickL cs m L) t : Nat) : Int) = zs (fun p => if m ≤ t + L p then ((2 ^ (t + 1) : Nat) : Int) - ((2 ^ (m - L p) : Nat) : Int) else 0) (symsTo cs cs.length)
  | 0 => by
    show (((pickL cs m L 0).length : Nat) : Int) = _
    have := filt_len (q := fun p => decide (m ≤ 0 + L p)) (x := 1) (l := symsTo cs cs.length)
    rw [Int.mul_one] at this
    refine this.trans (zs_congr fun p hp => ?_)
    have := h p hp
    by_cases c : m ≤ 0 + L p
    · rw [if_pos (decide_eq_true c), if_pos c, show m - L p = 0 by omega]
      rfl
    · rw [if_neg (by rw [decide_eq_false c]; decide), if_neg c]
  | t + 1 => by
    have ih := pick_wid h t
    show ((wid (pickL cs m L) t + (pickL cs m L (t + 1)).length * 2 ^ (t + 1) : Nat) : Int) = _
    have := filt_len (q := fun p => decide (m ≤ t + 1 + L p)) (x := ((2 ^ (t + 1) : Nat) : Int)) (l := symsTo cs cs.length)
    rw [Int.natCast_add, ih, Int.natCast_mul]
    refine (congrArg (fun z => _ + z) this).trans ?_
    rw [← zs_add]
    refine zs_congr fun p hp => ?_
    have := h p hp
    have e2 : 2 ^ (t + 1 + 1) = 2 * 2 ^ (t + 1) := by rw [Nat.pow_succ 2 (t + 1)]; omega
    by_cases c : m ≤ t + L p
    · rw [if_pos c, if_pos (decide_eq_true (by omega)), if_pos (by omega), e2]
      omega
    · rw [if_neg c]
      by_cases c2 : m ≤ t + 1 + L p
      · rw [if_pos (decide_eq_true c2), if_pos c2, e2, show m - L p = t + 1 by omega]
        omega
      · rw [if_neg (by rw [decide_eq_false c2]; decide), if_neg c2]
        omega
theorem pick_cst {cs : List Int} {m : Nat} {L : Int × Int → Nat} (h : ∀ p ∈ symsTo cs cs.length, L p ≤ m) : ∀ t, cst (pickL cs m L) t = zs (fun p => p.1 * ((t + 1 + L p - m : Nat) : Int)) (symsTo cs cs.length)
  | 0 => by
    show sv (pickL cs m L 0) = _
    refine filt_sv.trans (zs_congr fun p hp => ?_)
    have := h p hp
    by_cases c : m ≤ 0 + L p
    · rw [if_pos (decide_eq_true c), show 0 + 1 + L p - m = 1 by omega]
      omega
    · rw [if_neg (by rw [decide_eq_false c]; decide), show 0 + 1 + L p - m = 0 by omega]
      omega
  | t + 1 => by
    have ih := pick_cst h t
    show cst (pickL cs m L) t + sv (pickL cs m L (t + 1)) = _
    rw [ih]
    refine (congrArg (fun z => _ + z) filt_sv).trans ?_
    rw [← zs_add]
    refine zs_congr fun p hp => ?_
    by_cases c : m ≤ t + 1 + L p
    · rw [if_pos (decide_eq_true c), show t + 1 + 1 + L p - m = t + 1 + L p - m + 1 by omega, Int.natCast_add, Int.mul_add]
      omega
    · rw [if_neg (by rw [decide_eq_false c]; decide), show t + 1 + 1 + L p - m = 0 by omega, show t + 1 + L p - m = 0 by omega]
      omega
theorem least_serve {cs : List Int} {m : Nat} {l : List Int} (hm : 1 ≤ m) (hn : 1 ≤ (symsTo cs cs.length).length) (h : ∀ j, 0 ≤ l.getD j 0 ∧ l.getD j 0 ≤ (m : Int)) (hf : phi cs m l ≤ ((2 ^ m : Nat) : Int)) :
    2 * (symsTo cs cs.length).length - 2 ≤ (rowN cs (m - 1)).length ∧ sv ((rowN cs (m - 1)).take (2 * (symsTo cs cs.length).length - 2)) ≤ cstL cs l := by
  have hL : ∀ p ∈ symsTo cs cs.length, (fun p : Int × Int => (l.getD p.2.toNat 0).toNat) p ≤ m := fun p _ => by
    have := h p.2.toNat
    show (l.getD p.2.toNat 0).toNat ≤ m
    omega
  have hw := pick_wid hL (m - 1)
  have hc := pick_cst hL (m - 1)
  have e1 : zs (fun p : Int × Int => if m ≤ m - 1 + (l.getD p.2.toNat 0).toNat then ((2 ^ (m - 1 + 1) : Nat) : Int) - ((2 ^ (m - (l.getD p.2.toNat 0).toNat) : Nat) : Int) else 0) (symsTo cs cs.length) + phi cs m l = (symsTo cs cs.length).length * ((2 ^ m : Nat) : Int) := by
    unfold phi
    rw [← zs_add, ← zs_const]
    refine zs_congr fun p hp => ?_
    rw [show m - 1 + 1 = m by omega]
    by_cases c : m ≤ m - 1 + (l.getD p.2.toNat 0).toNat
    · rw [if_pos c]
      omega
    · rw [if_neg c, show (l.getD p.2.toNat 0).toNat = 0 by omega]
      show (0 : Int) + ((2 ^ (m - 0) : Nat) : Int) = _
      rw [Nat.sub_zero]
      omega
  have e2 : zs (fun p : Int × Int => p.1 * ((m - 1 + 1 + (l.getD p.2.toNat 0).toNat - m : Nat) : Int)) (symsTo cs cs.length) = cstL cs l := by
    unfold cstL
    refine zs_congr fun p hp => ?_
    have := h p.2.toNat
    rw [show m - 1 + 1 + (l.getD p.2.toNat 0).toNat - m = (l.getD p.2.toNat 0).toNat by omega, Int.toNat_of_nonneg this.1]
  have key := least_cost (cs := cs) (A := pickL cs m fun p => (l.getD p.2.toNat 0).toNat) (D := fun t => (symsTo cs cs.length).filter fun p => !decide (m ≤ t + (l.getD p.2.toNat 0).toNat)) (fun t => (List.filter_append_perm _ _).symm) (m - 1) (2 * (symsTo cs cs.length).length - 2) (by
    have hp : 2 ^ m = 2 * 2 ^ (m - 1) := by
      obtain ⟨n, rfl⟩ : ∃ n, m = n + 1 := ⟨m - 1, by omega⟩
      rw [Nat.pow_succ, Nat.add_sub_cancel]
      omega
    generalize (symsTo cs cs.length).length = N at *
    generalize wid _ _ = W at *
    generalize zs _ _ = Z at *
    generalize phi cs m l = F at *
    rw [hp] at *
    generalize 2 ^ (m - 1) = x at *
    obtain ⟨n, rfl⟩ : ∃ n, N = n + 1 := ⟨N - 1, by omega⟩
    rw [show 2 * (n + 1) - 2 = 2 * n by omega, Nat.mul_comm 2 n, Nat.mul_assoc]
    rw [Int.natCast_add, Int.add_mul, ← Int.natCast_mul] at e1
    omega)
  refine ⟨key.1, ?_⟩
  have := key.2
  rw [hc] at this
  exact Int.le_trans this (Int.le_of_eq e2)
/-- shortest's lengths serve, they leave no room, and no serving lengths cost less -/
theorem short_best {cs : List Int} {m : Nat} (h0 : ∀ x ∈ cs, 0 ≤ x) (hm : 1 ≤ m) (hu : 2 ≤ usedN cs) (hu2 : usedN cs ≤ 2 ^ m) :
    (lensS cs m).1.length = cs.length ∧ (∀ j, 0 ≤ (lensS cs m).1.getD j 0 ∧ (lensS cs m).1.getD j 0 ≤ (m : Int))
    ∧ (∀ j, cs.getD j 0 ≤ 0 → (lensS cs m).1.getD j 0 = 0) ∧ (∀ j, 0 < cs.getD j 0 → 1 ≤ (lensS cs m).1.getD j 0)
    ∧ phi cs m (lensS cs m).1 = ((2 ^ m : Nat) : Int)
    ∧ cstL cs (lensS cs m).1 = sv ((rowN cs (m - 1)).take (2 * usedN cs - 2))
    ∧ ∀ l : List Int, (∀ j, 0 ≤ l.getD j 0 ∧ l.getD j 0 ≤ (m : Int)) → phi cs m l ≤ ((2 ^ m : Nat) : Int) → sv ((rowN cs (m - 1)).take (2 * usedN cs - 2)) ≤ cstL cs l := by
  have hN := symsTo_used h0
  have hz : ∀ j, (List.replicate cs.length (0 : Int)).getD j 0 = 0 := fun j => by
    rw [List.getD_eq_getElem?_getD, List.getElem?_replicate]
    split <;> rfl
  have hfull : 2 * usedN cs - 2 ≤ (rowN cs (m - 1)).length := by
    have hg : ∀ p ∈ symsTo cs cs.length, (List.replicate cs.length (m : Int)).getD p.2.toNat 0 = (m : Int) := fun p hp => by
      obtain ⟨j, hj, _, rfl⟩ := symsTo_of _ p hp
      show List.getD _ (j : Int).toNat 0 = _
      rw [Int.toNat_natCast, List.getD_eq_getElem?_getD, List.getElem?_replicate, if_pos hj]
      rfl
    have := least_serve (cs := cs) (m := m) (l := List.replicate cs.length (m : Int)) hm (by omega) (fun j => by
      rw [List.getD_eq_getElem?_getD, List.getElem?_replicate]
      split
      · show (0 : Int) ≤ (m : Int) ∧ (m : Int) ≤ m
        omega
      · show (0 : Int) ≤ 0 ∧ (0 : Int) ≤ m
        omega) (by
      have e : phi cs m (List.replicate cs.length (m : Int)) = (symsTo cs cs.length).length * 1 := by
        unfold phi
        rw [← zs_const]
        refine zs_congr fun p hp => ?_
        rw [hg p hp, Int.toNat_natCast, Nat.sub_self]
        rfl
      rw [e, hN]
      omega)
    rw [hN] at this
    exact this.1
  have hc : cert cs m = formed cs (m - 1 + 1) := by
    unfold cert
    rw [if_neg (by omega), show m - 1 + 1 = m by omega]
  have main := rows_take (cs := cs) (m := m) (t := m - 1) (k := 2 * usedN cs - 2) (ls := List.replicate cs.length 0) (by omega) (List.length_replicate ..) hfull (fun p _ => by
      rw [hz, show m - 1 - (m - 1) = 0 by omega]
      rfl) (fun j => by rw [hz]; omega) (fun j _ => hz j) (by
      have e : phi cs m (List.replicate cs.length 0) = (symsTo cs cs.length).length * ((2 ^ m : Nat) : Int) := by
        unfold phi
        rw [← zs_const]
        refine zs_congr fun p hp => ?_
        rw [hz]
        rfl
      have hp : 2 ^ m = 2 * 2 ^ (m - 1) := by
        obtain ⟨n, rfl⟩ : ∃ n, m = n + 1 := ⟨m - 1, by omega⟩
        rw [Nat.pow_succ, Nat.add_sub_cancel]
        omega
      rw [e, hN, hp]
      generalize 2 ^ (m - 1) = x
      obtain ⟨n, hn⟩ : ∃ n, usedN cs = n + 1 := ⟨usedN cs - 1, by omega⟩
      rw [hn, show 2 * (n + 1) - 2 = 2 * n by omega, ← Int.natCast_mul, Nat.add_mul, Nat.mul_assoc 2 n, Nat.mul_left_comm 2 n]
      omega)
  rw [← hc] at main
  have ec : cstL cs (List.replicate cs.length 0) = 0 := by
    unfold cstL
    have : zs (fun p : Int × Int => p.1 * (List.replicate cs.length (0 : Int)).getD p.2.toNat 0) (symsTo cs cs.length) = zs (fun _ => 0) (symsTo cs cs.length) := zs_congr fun p _ => by
      rw [hz, Int.mul_zero]
    rw [this, zs_const, Int.mul_zero]
  obtain ⟨m1, m2, m3, m4⟩ := main
  rw [ec, Int.zero_add] at m4
  have el : (lensS cs m).1.length = cs.length := (foldR_len _ _).trans (List.length_replicate ..)
  change ∀ j, 0 ≤ (lensS cs m).1.getD j 0 ∧ (lensS cs m).1.getD j 0 ≤ (m : Int) at m1
  change ∀ j, cs.getD j 0 ≤ 0 → (lensS cs m).1.getD j 0 = 0 at m2
  change phi cs m (lensS cs m).1 = _ at m3
  change cstL cs (lensS cs m).1 = _ at m4
  refine ⟨el, m1, m2, fun j hj => ?_, m3, m4, fun l h hf => ?_⟩
  · have hb := m1 j
    refine Classical.byContradiction fun hne => ?_
    have hz0 : (lensS cs m).1.getD j 0 = 0 := by omega
    have hjn : j < cs.length := by
      refine Classical.byContradiction fun hc => ?_
      rw [List.getD_eq_getElem?_getD, List.getElem?_eq_none (by omega)] at hj
      exact absurd hj (by decide)
    obtain ⟨a, b, hab⟩ := List.append_of_mem (symsTo_mem cs.length j hjn hj)
    have hlen := congrArg List.length hab
    rw [hN, List.length_append, List.length_cons] at hlen
    have pos : ∀ l' : List (Int × Int), (l'.length : Int) ≤ zs (fun p => ((2 ^ (m - ((lensS cs m).1.getD p.2.toNat 0).toNat) : Nat) : Int)) l' := fun l' => by
      have := zs_const (c := 1) (a := l')
      rw [Int.mul_one] at this
      rw [← this]
      refine zs_le fun p _ => ?_
      have := Nat.pow_pos (n := m - ((lensS cs m).1.getD p.2.toNat 0).toNat) (show 0 < 2 by decide)
      omega
    have ha := pos a
    have hbb := pos b
    unfold phi at m3
    rw [hab, zs_app, zs_cons] at m3
    have e : ((2 ^ (m - ((lensS cs m).1.getD ((j : Int)).toNat 0).toNat) : Nat) : Int) = ((2 ^ m : Nat) : Int) := by
      rw [Int.toNat_natCast, hz0]
      rfl
    have m3' : _ + (((2 ^ (m - ((lensS cs m).1.getD ((j : Int)).toNat 0).toNat) : Nat) : Int) + _) = _ := m3
    rw [e] at m3'
    omega
  · have := least_serve (cs := cs) (m := m) (l := l) hm (by omega) h hf
    rw [hN] at this
    exact this.2


end
end K13

namespace K13
open PySem PySem.Spec PyProof.Rows L2 Bel LamX
local macro_rules | `(tactic| wtm_at "xs") => `(tactic| simp only [x_next, x_seq, x_brk, x_cont, x_drop, x_ret, x_retN, x_if, sel_t, sel_f, selE_t, selE_f, selT_t, selT_f, selC_t, selC_f, x_test, x_tB, x_op, x_un, x_var, x_c, x_cb, x_nil, x_cons, x_rI, x_rI0, x_rU, x_rEq, x_rNe, x_rIxL, x_rIxT, x_rSlL, x_rCat, x_rRep, x_rApp, x_bm, x_bm0, x_sl, x_nopart, x_part, x_tup, x_lst, x_call, x_callS, x_asg, x_gname, x_gtup, x_gnil, x_gcons, x_gsub, x_setL, x_aug, x_ipI, x_ipC, x_bits, x_getL, x_augS, x_and, x_or, x_not, x_k, x_andV, x_orV, x_notV, x_ife, x_chain, x_for, x_ilist, x_itup, x_ienum, x_irng1, x_irng2, x_irev, x_lc, x_yes, wipe_nil, wipe_cons, List.map_cons, List.map_nil, x_misc, x_misc2, x_rz, lookup_at, Bool.not_true, Bool.not_false, decide_true, decide_false, not_true, not_false_eq_true, and_assoc, exists_and_left, exists_eq_left', exists_eq_left, exists_eq', exists_eq_right', exists_eq_right, V.int.injEq, V.ref.injEq, V.bl.injEq, V.str.injEq, List.cons.injEq, and_true, true_and, and_self, Option.some.injEq, List.cons_append, List.nil_append, List.append_nil, List.getElem?_cons_zero, List.getElem?_cons_succ, List.set_cons_zero, List.set_cons_succ, reduceCtorEq, false_and, and_false, exists_false, exists_const, or_false, false_or, scal_ii, scal_bb, scal_ss, List.length_cons, List.length_nil, Int.reduceToNat, Int.reducePow])
local macro_rules | `(tactic| k_call_by "xs" $h:term) => `(tactic| simp only [$h:term, x_next, x_seq, x_brk, x_cont, x_drop, x_ret, x_retN, x_if, sel_t, sel_f, selE_t, selE_f, selT_t, selT_f, selC_t, selC_f, x_test, x_tB, x_op, x_un, x_var, x_c, x_cb, x_nil, x_cons, x_rI, x_rI0, x_rU, x_rEq, x_rNe, x_rIxL, x_rIxT, x_rSlL, x_rCat, x_rRep, x_rApp, x_bm, x_bm0, x_sl, x_nopart, x_part, x_tup, x_lst, x_call, x_callS, x_asg, x_gname, x_gtup, x_gnil, x_gcons, x_gsub, x_setL, x_aug, x_ipI, x_ipC, x_bits, x_getL, x_augS, x_and, x_or, x_not, x_k, x_andV, x_orV, x_notV, x_ife, x_chain, x_for, x_ilist, x_itup, x_ienum, x_irng1, x_irng2, x_irev, x_lc, x_yes, wipe_nil, wipe_cons, List.map_cons, List.map_nil, x_misc, x_misc2, x_rz, lookup_at, Bool.not_true, Bool.not_false, decide_true, decide_false, not_true, not_false_eq_true, and_assoc, exists_and_left, exists_eq_left', exists_eq_left, exists_eq', exists_eq_right', exists_eq_right, V.int.injEq, V.ref.injEq, V.bl.injEq, V.str.injEq, List.cons.injEq, and_true, true_and, and_self, Option.some.injEq, List.cons_append, List.nil_append, List.append_nil, List.getElem?_cons_zero, List.getElem?_cons_succ, List.set_cons_zero, List.set_cons_succ, reduceCtorEq, false_and, and_false, exists_false, exists_const, or_false, false_or, scal_ii, scal_bb, scal_ss, List.length_cons, List.length_nil, Int.reduceToNat, Int.reducePow])
local macro_rules | `(tactic| wtm_at "hp") => `(tactic| first | (with_reducible assumption) | exact upd_same | (refine upd_keep (by with_reducible assumption) ?_; wtm_at "hp") | (refine Same.get (by with_reducible assumption) ?_; wtm_at "hp") | (refine upd_other (by first | (with_reducible assumption) | exact Ne.symm (by with_reducible assumption)) ?_; wtm_at "hp"))
local macro_rules | `(tactic| wtm_at "sq") => `(tactic| first | (with_reducible assumption) | exact SqL.of (by wtm_at "hp") | exact SqT.of (by wtm_at "hp") | (refine Same.seq (same_upd (by with_reducible assumption)) ?_; wtm_at "sq") | (refine Same.seq (by with_reducible assumption) ?_; wtm_at "sq") | (refine Same.seqT (same_upd (by with_reducible assumption)) ?_; wtm_at "sq") | (refine Same.seqT (by with_reducible assumption) ?_; wtm_at "sq"))
local macro_rules | `(tactic| wtm_at "cl") => `(tactic| first | (with_reducible assumption) | omega | (exact cmul_r (by omega) (by omega)) | (exact cmul_l (by omega) (by omega)) | (exact cdiv_ok (by omega) (by omega)) | (exact cpow_ok (by decide)) | (exact ⟨by omega, by omega, by omega⟩) | decide | (exact ⟨by omega, by omega⟩) | (simp only [List.length_append, List.length_map, List.length_set, List.length_cons, List.length_nil, rngL_len, sizeLine_eq]; omega) | wtm_at "hp" | wtm_at "sq")
local macro_rules | `(tactic| wtm_at "pf") => `(tactic| first | (with_reducible assumption) | omega | (simp only [List.length_append, List.length_map, List.length_set, List.length_cons, List.length_nil, rngL_len]; omega) | (with_reducible rfl) | (with_reducible trivial) | (with_reducible decide))
local macro_rules | `(tactic| wtm_at "st") => `(tactic| first | ((with_reducible refine g_at ?_); refine at_call (by wtm_at "sq") (by omega) (by omega) (fun _ _ => ?_)) | ((with_reducible refine g_row ?_); refine row_call (by wtm_at "hp") ?_) | ((with_reducible refine g_int ?_); refine int_call ?_) | ((with_reducible refine g_isi ?_); first | (with_reducible refine isi_ii ?_) | (with_reducible refine isi_ib ?_) | (refine isi_int rfl ?_) | (refine isi_lst rfl (by wtm_at "hp") ?_) | (refine isi_tup rfl (by wtm_at "hp") ?_)) | ((with_reducible refine g_ned ?_); refine ned_f (dq_lst (by wtm_at "sq")) (dq_lst (by wtm_at "sq")) ?_) | ((with_reducible refine g_eqd ?_); refine eqd_t (dq_lst (by wtm_at "sq")) (dq_lst (by wtm_at "sq")) ?_) | ((with_reducible refine g_tyv ?_); refine and_tyv (by wtm_at "sq") ?_) | ((with_reducible refine g_asq ?_); refine and_sq (by wtm_at "sq") ?_) | ((with_reducible refine g_lst ?_); refine ex_lst (by wtm_at "hp") ?_) | ((with_reducible refine g_or ?_); first | (refine ex_or (by wtm_at "sq") ?_) | (refine ex_ort (by wtm_at "sq") ?_)) | ((with_reducible refine g_sq ?_); refine ex_sq (by wtm_at "sq") ?_) | ((with_reducible refine g_sqt ?_); refine ex_sqt (by wtm_at "sq") ?_) | ((with_reducible refine gd_sel ?_); first | (refine sel_p (by wtm_at "pf") ?_) | (refine sel_n (by wtm_at "pf") ?_)) | ((with_reducible refine gn_sel ?_); first | (refine selN_p (by wtm_at "pf") ?_) | (refine selN_n (by wtm_at "pf") ?_)) | ((with_reducible refine gd_selT ?_); first | (refine selT_p (by wtm_at "pf") ?_) | (refine selT_n (by wtm_at "pf") ?_)) | ((with_reducible refine gn_selT ?_); first | (refine selTN_p (by wtm_at "pf") ?_) | (refine selTN_n (by wtm_at "pf") ?_)) | ((with_reducible refine gd_selE ?_); first | (refine selE_p (by wtm_at "pf") ?_) | (refine selE_n (by wtm_at "pf") ?_)) | ((with_reducible refine gn_selE ?_); first | (refine selEN_p (by wtm_at "pf") ?_) | (refine selEN_n (by wtm_at "pf") ?_)) | ((with_reducible refine g_xf ?_); refine xf_at rfl (by wtm_at "hp") ?_) | ((with_reducible refine g_atI ?_); refine ex_at (by first | exact rfl | exact atI_int (by omega) (by wtm_at "pf") | exact atI_end (by wtm_at "pf")) ?_) | ((with_reducible refine g_and ?_); refine And.intro (by wtm_at "cl") ?_) | ((with_reducible refine g_new ?_); intro _ _))
local macro_rules | `(tactic| wtm_at "go") => `(tactic| repeat (first | wtm_at "xs" | wtm_at "st"))
local macro_rules | `(tactic| wtm_at "xo") => `(tactic| simp only [x_next, x_seq, x_brk, x_cont, x_drop, x_ret, x_retN, x_if, sel_t, sel_f, selE_t, selE_f, selT_t, selT_f, selC_t, selC_f, x_test, x_tB, x_op, x_un, x_var, x_c, x_cb, x_nil, x_cons, x_rI, x_rI0, x_rU, x_rEq, x_rNe, x_rIxL, x_rIxT, n_rSlL, n_rCat, n_rRep, n_rApp, x_bm, x_bm0, x_sl, x_nopart, x_part, n_tup, n_lst, x_call, x_callS, x_asg, x_gname, x_gtup, x_gnil, x_gcons, x_gsub, n_setL, x_aug, x_ipI, x_ipC, x_bits, x_getL, x_augS, x_and, x_or, x_not, x_k, x_andV, x_orV, x_notV, x_ife, x_chain, x_for, x_ilist, x_itup, x_ienum, x_irng1, x_irng2, x_irev, x_lc, x_yes, wipe_nil, wipe_cons, List.map_cons, List.map_nil, x_misc, x_misc2, x_rz, lookup_at, Bool.not_true, Bool.not_false, decide_true, decide_false, not_true, not_false_eq_true, and_assoc, exists_and_left, exists_eq_left', exists_eq_left, exists_eq', exists_eq_right', exists_eq_right, V.int.injEq, V.ref.injEq, V.bl.injEq, V.str.injEq, List.cons.injEq, and_true, true_and, and_self, Option.some.injEq, List.cons_append, List.nil_append, List.append_nil, List.getElem?_cons_zero, List.getElem?_cons_succ, List.set_cons_zero, List.set_cons_succ, reduceCtorEq, false_and, and_false, exists_false, exists_const, or_false, false_or, scal_ii, scal_bb, scal_ss, List.length_cons, List.length_nil, Int.reduceToNat, Int.reducePow, n_fld, n_sfld, n_aug, n_meth, n_mw, n_make, n_kw, n_rLs, n_dcp, x_sortK, n_gget, n_rLtT, n_ext, n_revL, n_rTp, t_im, ints_rev, t_s1, t_i1, t_i2, t_i3, t_i4, t_i5, x_chain3, x_irng3, x_irevR, x_rg1, x_rg2, ints_cat, ints_app1, ints_len, ints_take, ints_drop, rep_one])
local macro_rules | `(tactic| k_call_by "xo" $h:term) => `(tactic| simp only [$h:term, x_next, x_seq, x_brk, x_cont, x_drop, x_ret, x_retN, x_if, sel_t, sel_f, selE_t, selE_f, selT_t, selT_f, selC_t, selC_f, x_test, x_tB, x_op, x_un, x_var, x_c, x_cb, x_nil, x_cons, x_rI, x_rI0, x_rU, x_rEq, x_rNe, x_rIxL, x_rIxT, n_rSlL, n_rCat, n_rRep, n_rApp, x_bm, x_bm0, x_sl, x_nopart, x_part, n_tup, n_lst, x_call, x_callS, x_asg, x_gname, x_gtup, x_gnil, x_gcons, x_gsub, n_setL, x_aug, x_ipI, x_ipC, x_bits, x_getL, x_augS, x_and, x_or, x_not, x_k, x_andV, x_orV, x_notV, x_ife, x_chain, x_for, x_ilist, x_itup, x_ienum, x_irng1, x_irng2, x_irev, x_lc, x_yes, wipe_nil, wipe_cons, List.map_cons, List.map_nil, x_misc, x_misc2, x_rz, lookup_at, Bool.not_true, Bool.not_false, decide_true, decide_false, not_true, not_false_eq_true, and_assoc, exists_and_left, exists_eq_left', exists_eq_left, exists_eq', exists_eq_right', exists_eq_right, V.int.injEq, V.ref.injEq, V.bl.injEq, V.str.injEq, List.cons.injEq, and_true, true_and, and_self, Option.some.injEq, List.cons_append, List.nil_append, List.append_nil, List.getElem?_cons_zero, List.getElem?_cons_succ, List.set_cons_zero, List.set_cons_succ, reduceCtorEq, false_and, and_false, exists_false, exists_const, or_false, false_or, scal_ii, scal_bb, scal_ss, List.length_cons, List.length_nil, Int.reduceToNat, Int.reducePow, n_fld, n_sfld, n_aug, n_meth, n_mw, n_make, n_kw, n_rLs, n_dcp, x_sortK, n_gget, n_rLtT, n_ext, n_revL, n_rTp, t_im, ints_rev, t_s1, t_i1, t_i2, t_i3, t_i4, t_i5, x_chain3, x_irng3, x_irevR, x_rg1, x_rg2, ints_cat, ints_app1, ints_len, ints_take, ints_drop, rep_one])
local macro_rules | `(tactic| wtm_at "mem") => `(tactic| first | (with_reducible exact mem_here) | (with_reducible refine mem_there ?_; wtm_at "mem"))
local macro_rules | `(tactic| wtm_at "pp") => `(tactic| first | (with_reducible exact Put.here) | (with_reducible apply Put.there; wtm_at "pp"))
local macro_rules | `(tactic| wtm_at "ho") => `(tactic| first | (with_reducible assumption) | exact Own.get (by with_reducible assumption) (by wtm_at "mem") | exact Own.base (by with_reducible assumption) (by with_reducible assumption))
local macro_rules | `(tactic| wtm_at "qo") => `(tactic| first | (with_reducible assumption) | exact SqL.of (by wtm_at "ho") | exact sqT_tupI (by wtm_at "ho") | exact sqT_tupS (by wtm_at "ho") | exact SqT.of (by wtm_at "ho") | exact Own.imT (by with_reducible assumption) (by wtm_at "mem") | exact Own.sq (by with_reducible assumption) (by with_reducible assumption) | exact Own.sqT (by with_reducible assumption) (by with_reducible assumption))
local macro_rules | `(tactic| wtm_at "sub") => `(tactic| first | exact List.nil_sublist _ | (with_reducible refine List.Sublist.cons_cons _ ?_; wtm_at "sub") | (refine List.Sublist.cons _ ?_; wtm_at "sub"))
local macro_rules | `(tactic| wtm_at "co") => `(tactic| first | (with_reducible assumption) | omega | (exact cmul_r (by omega) (by omega)) | (exact cmul_l (by omega) (by omega)) | (exact cdiv_ok (by omega) (by omega)) | (exact cpow_ok (by decide)) | (exact ⟨by omega, by omega, by omega⟩) | decide | (exact ⟨by omega, by omega⟩) | (simp only [List.length_append, List.length_map, List.length_set, List.length_cons, List.length_nil, rngL_len, sizeLine_eq]; omega) | wtm_at "ho" | wtm_at "qo")
local macro_rules | `(tactic| wtm_at "so") => `(tactic| first | ((with_reducible refine g_dcp ?_); refine dcpI (by wtm_at "ho") ?_) | ((with_reducible refine g_asl ?_); refine And.intro (by rfl) ?_) | ((with_reducible refine g_asqT ?_); refine and_sqT (by wtm_at "qo") ?_) | ((with_reducible refine g_extO ?_); first | (refine extI (by with_reducible assumption) (by wtm_at "pp") (by wtm_at "co") (fun _ _ => ?_)) | (refine extO (by with_reducible assumption) (by wtm_at "pp") (by wtm_at "co") (fun _ _ => ?_))) | ((with_reducible refine g_tp ?_); first | (refine tp_l (by wtm_at "qo") ?_) | (refine tp_t (by wtm_at "qo") ?_)) | ((with_reducible refine g_fldO ?_); refine fldO (by wtm_at "ho") (by with_reducible assumption) (by wtm_at "mem") (by wtm_at "lk") ?_) | ((with_reducible refine g_fldC ?_); refine fldC (by wtm_at "ho") (by with_reducible assumption) (by wtm_at "mem") (by wtm_at "lk") ?_) | ((with_reducible refine g_putC ?_); refine putC (by with_reducible assumption) (by wtm_at "pp") (by wtm_at "pu") (by wtm_at "co") (fun _ _ => ?_)) | ((with_reducible refine g_stoO ?_); refine stoO (by with_reducible assumption) (by wtm_at "pp") (by wtm_at "pu") (by with_reducible assumption) (by wtm_at "mem") (by wtm_at "co") (fun _ _ => ?_)) | ((with_reducible refine g_metO ?_); refine metO (by wtm_at "ho") (by wtm_at "ln") ?_) | ((with_reducible refine g_makO ?_); refine makO (by with_reducible assumption) (fun _ _ _ _ => ?_)) | ((with_reducible refine g_sum ?_); refine sum_call (by wtm_at "qo") ?_) | ((with_reducible refine g_cq ?_); exact cq (by with_reducible assumption) (by simp only [rngL_len, List.length_map, List.length_take]; omega)) | ((with_reducible refine g_newO ?_); refine newO (by with_reducible assumption) (fun _ _ _ => ?_)) | ((with_reducible refine g_appO ?_); refine appI (by with_reducible assumption) (by wtm_at "pp") (by wtm_at "co") (fun _ _ => ?_)) | ((with_reducible refine g_setO ?_); refine setI (by with_reducible assumption) (by wtm_at "pp") (by omega) (by wtm_at "co") (fun _ _ => ?_)) | ((with_reducible refine g_appO ?_); refine appO (by with_reducible assumption) (by wtm_at "pp") (by wtm_at "co") (fun _ _ => ?_)) | ((with_reducible refine g_setO ?_); refine setO (by with_reducible assumption) (by wtm_at "pp") (by omega) (by wtm_at "co") (fun _ _ => ?_)) | ((with_reducible refine g_at ?_); refine at_call (by wtm_at "qo") (by omega) (by omega) (fun _ _ => ?_)) | ((with_reducible refine g_row ?_); refine row_call (by wtm_at "ho") ?_) | ((with_reducible refine g_int ?_); refine int_call ?_) | ((with_reducible refine g_isi ?_); first | (with_reducible refine isi_ii ?_) | (with_reducible refine isi_ib ?_) | (refine isi_int rfl ?_) | (refine isi_sqL rfl (by wtm_at "qo") ?_) | (refine isi_sqT rfl (by wtm_at "qo") ?_) | (refine isi_bl rfl ?_) | (refine isi_non rfl ?_) | (refine isi_str rfl ?_)) | ((with_reducible refine g_ned ?_); first | (refine ned_f (dq_lst (by wtm_at "qo")) (dq_lst (by wtm_at "qo")) ?_) | (refine ned_ints (by wtm_at "qo") (by wtm_at "qo") ?_) | (refine nedT_ints (by wtm_at "qo") (by wtm_at "qo") ?_)) | ((with_reducible refine g_eqd ?_); first | (refine eqd_t (dq_lst (by wtm_at "qo")) (dq_lst (by wtm_at "qo")) ?_) | (refine eqd_ints (by wtm_at "qo") (by wtm_at "qo") ?_) | (refine eqdT_ints (by wtm_at "qo") (by wtm_at "qo") ?_)) | ((with_reducible refine g_tyv ?_); refine and_tyv (by wtm_at "qo") ?_) | ((with_reducible refine g_asq ?_); refine and_sq (by wtm_at "qo") ?_) | ((with_reducible refine g_lst ?_); refine ex_lst (by wtm_at "ho") ?_) | ((with_reducible refine g_or ?_); first | (refine ex_or (by wtm_at "qo") ?_) | (refine ex_ort (by wtm_at "qo") ?_)) | ((with_reducible refine g_sq ?_); refine ex_sq (by wtm_at "qo") ?_) | ((with_reducible refine g_sqt ?_); refine ex_sqt (by wtm_at "qo") ?_) | ((with_reducible refine gd_sel ?_); first | (refine sel_p (by wtm_at "pf") ?_) | (refine sel_n (by wtm_at "pf") ?_)) | ((with_reducible refine gn_sel ?_); first | (refine selN_p (by wtm_at "pf") ?_) | (refine selN_n (by wtm_at "pf") ?_)) | ((with_reducible refine gd_selT ?_); first | (refine selT_p (by wtm_at "pf") ?_) | (refine selT_n (by wtm_at "pf") ?_)) | ((with_reducible refine gn_selT ?_); first | (refine selTN_p (by wtm_at "pf") ?_) | (refine selTN_n (by wtm_at "pf") ?_)) | ((with_reducible refine gd_selE ?_); first | (refine selE_p (by wtm_at "pf") ?_) | (refine selE_n (by wtm_at "pf") ?_)) | ((with_reducible refine gn_selE ?_); first | (refine selEN_p (by wtm_at "pf") ?_) | (refine selEN_n (by wtm_at "pf") ?_)) | ((with_reducible refine g_xf ?_); refine xf_at rfl (by wtm_at "ho") ?_) | ((with_reducible refine g_atI ?_); refine ex_at (by first | exact rfl | exact atI_int (by omega) (by wtm_at "pf") | exact atI_end (by wtm_at "pf")) ?_) | ((with_reducible refine g_and ?_); refine And.intro (by wtm_at "co") ?_))
local macro_rules | `(tactic| wtm_at "oo") => `(tactic| repeat (first | wtm_at "xo" | wtm_at "so"))
local macro_rules | `(tactic| wtm_at "cR") => `(tactic| (refine' compRi _ (by with_reducible assumption) (by omega) (fun _ _ _ _ _ => ?_) (fun _ _ _ => ?_); rotate_left; focus (wtm_at "oo")))

local macro_rules | `(tactic| wtm_at "lk") => `(tactic| first | (with_reducible exact lk_here) | (simp only [lk_here, lk_skip, lk_nil]; first | done | exact rfl))
local macro_rules | `(tactic| wtm_at "ln") => `(tactic| first | (with_reducible exact lk_nil) | (simp only [lk_skip, lk_nil]; done))
local macro_rules | `(tactic| wtm_at "pu") => `(tactic| first | (with_reducible exact pf_nil) | (simp only [pf_nil, pf_here, pf_skip]; first | done | exact rfl))
local macro_rules | `(tactic| wtm_at "tk") => `(tactic| first | (with_reducible exact Take.here) | (exact Take.here) | ((with_reducible apply Take.there); wtm_at "tk"))
local macro_rules | `(tactic| wtm_at "pk") => `(tactic| first | exact Pick.nil | ((with_reducible refine' Pick.cons ?tk1 ?pk1); (case tk1 => wtm_at "tk"); (case pk1 => wtm_at "pk")) | ((with_reducible refine Pick.im (by wtm_at "mem") ?_); wtm_at "pk") | ((with_reducible refine Pick.ims (by wtm_at "mem") ?_); wtm_at "pk"))

local macro_rules | `(tactic| wtm_at "ta") => `(tactic| first | (with_reducible exact TakeA.here) | ((with_reducible apply TakeA.there); wtm_at "ta"))
local macro_rules | `(tactic| wtm_at "tb") => `(tactic| first | (exact TakeA.here) | ((with_reducible apply TakeA.there); wtm_at "tb"))
local macro_rules | `(tactic| wtm_at "pa") => `(tactic| first | exact PickA.nil | ((with_reducible refine PickA.im (by wtm_at "mem") ?_); wtm_at "pa") | ((with_reducible refine PickA.ims (by wtm_at "mem") ?_); wtm_at "pa") | ((with_reducible refine' PickA.any ?tk1 ?pk1); (case tk1 => first | wtm_at "ta" | wtm_at "tb"); (case pk1 => wtm_at "pa")))
section
variable {P : Program} {w : World} {K : PySem.W.Frag} {mg : Str → Option Value} {base : Heap} [TBC K mg base]
/-! ### a truth value that is, or is not, another -/
theorem op_nb {X : Cx} : OpR X (compareOp .IsNot) (fun x y H Q => ∃ a b : Bool, x = .bl a ∧ y = .bl b ∧ Q (.bl (!decide (a = b))) H) := by
  rintro pins s σ H x y v u Q I rx ry ⟨a, b, rfl, rfl, q⟩
  obtain rfl : v = Value.bool a := rx
  obtain rfl : u = Value.bool b := ry
  cases a <;> cases b
  · exact wpAny_isNot_self rfl ⟨.bl false, H, I, rfl, q⟩
  · exact wpAny_isNot_other rfl (by intro z; cases z) ⟨.bl true, H, I, rfl, q⟩
  · exact wpAny_isNot_other rfl (by intro z; cases z) ⟨.bl true, H, I, rfl, q⟩
  · exact wpAny_isNot_self rfl ⟨.bl false, H, I, rfl, q⟩
theorem op_yb {X : Cx} : OpR X (compareOp .Is) (fun x y H Q => ∃ a b : Bool, x = .bl a ∧ y = .bl b ∧ Q (.bl (decide (a = b))) H) := by
  rintro pins s σ H x y v u Q I rx ry ⟨a, b, rfl, rfl, q⟩
  obtain rfl : v = Value.bool a := rx
  obtain rfl : u = Value.bool b := ry
  cases a <;> cases b
  · exact wpAny_is_self rfl ⟨.bl true, H, I, rfl, q⟩
  · exact wpAny_is_other rfl (by intro z; cases z) ⟨.bl false, H, I, rfl, q⟩
  · exact wpAny_is_other rfl (by intro z; cases z) ⟨.bl false, H, I, rfl, q⟩
  · exact wpAny_is_self rfl ⟨.bl true, H, I, rfl, q⟩
/-! ### zip of two lists of ints -/
theorem x_izip {K : PySem.W.Frag} {l : TA} {σ : L2.St} {H : Hp} {R : It → Hp → Prop} : iZip K l σ H R = l σ H (fun vs H1 => ∃ (a b : Addr) (xs ys : List V), vs = [.ref a, .ref b] ∧ SqL K H1 a xs ∧ SqL K H1 b ys ∧ R (Itz K a b) H1) := rfl
theorem loop_zip {K : PySem.W.Frag} {t : TS} {D : Ends} {σ : L2.St} {H : Hp} {a b : Addr} {xs ys : List Int} {g : TG} (hn : xs.length = ys.length) (Pv : Nat → L2.St → Hp → Prop) (h0 : Pv 0 σ H) (hl : ∀ i σ H, i ≤ xs.length → Pv i σ H → SqL K H a (xs.map V.int) ∧ SqL K H b (ys.map V.int))
    (hs : ∀ i x y σ H T, xs[i]? = some x → ys[i]? = some y → Pv i σ H → H T = none → g (.ref T) σ (upd H T (tupI [x, y])) fun σ2 H2 => t { D with nx := Pv (i + 1), ct := Pv (i + 1), bk := D.nx } σ2 H2) (hd : ∀ σ H, Pv xs.length σ H → D.nx σ H) : LoopI (Itz K a b) g t D σ H := by
  refine ⟨fun i left σ H => left = xs.length - i ∧ i ≤ xs.length ∧ Pv i σ H, ⟨xs.length, by omega, by omega, h0⟩, ?_⟩
  rintro i left σ H ⟨rfl, hi, p⟩
  have q := hl i σ H hi p
  by_cases hlt : i < xs.length
  · have e1 : (xs.map V.int)[i]? = some (.int xs[i]) := by rw [List.getElem?_map, List.getElem?_eq_getElem hlt]; rfl
    have e2 : (ys.map V.int)[i]? = some (.int (ys[i]'(by omega))) := by rw [List.getElem?_map, List.getElem?_eq_getElem (by omega)]; rfl
    refine .inr ⟨⟨_, _, _, _, q.1, q.2, e1, e2⟩, Pv (i + 1), fun σ' H' p' => ⟨xs.length - (i + 1), by omega, rfl, hlt, p'⟩, fun x H' y => ?_⟩
    obtain ⟨T, x, y, rfl, hT, rfl, hx, hy⟩ := y
    obtain ⟨z, hz, rfl⟩ := int_at (hx _ q.1)
    obtain ⟨u, hu, rfl⟩ := int_at (hy _ q.2)
    exact hs i z u σ H T hz hu p hT
  · obtain rfl : i = xs.length := Nat.le_antisymm hi (by omega)
    exact .inl ⟨⟨_, _, q.1, q.2, by rw [List.length_map, List.length_map]; omega⟩, hd σ H p⟩
theorem comp_zip {K : PySem.W.Frag} {te : TE} {tA : TT} {σ : L2.St} {H : Hp} {a b : Addr} {xs ys : List Int} {g : TG} {vs : List Nat} {D : Addr} {Qd : Hp → Prop} (hn : xs.length = ys.length) (Pv : Nat → Hp → Prop) (h0 : Pv 0 (upd H D (.lst []))) (hl : ∀ i H, i ≤ xs.length → Pv i H → SqL K H a (xs.map V.int) ∧ SqL K H b (ys.map V.int))
    (hs : ∀ i x y H T, xs[i]? = some x → ys[i]? = some y → Pv i H → H T = none → g (.ref T) (wipe σ vs) (upd H T (tupI [x, y])) fun σ2 H2 => wipe σ2 vs = wipe σ vs ∧ tA σ2 H2 fun b H3 =>
      if b = true then te σ2 H3 fun y H4 => ∃ acc, H4 D = some (.lst acc) ∧ acc.length < sizeLine ∧ Pv (i + 1) (upd H4 D (.lst (acc ++ [y]))) else Pv (i + 1) H3) (hd : ∀ H, Pv xs.length H → Qd H) : CompI (Itz K a b) g tA te vs σ H D Qd := by
  refine ⟨fun i left H => left = xs.length - i ∧ i ≤ xs.length ∧ Pv i H, ⟨xs.length, by omega, by omega, h0⟩, ?_⟩
  rintro i left H ⟨rfl, hi, p⟩
  have q := hl i H hi p
  by_cases hlt : i < xs.length
  · have e1 : (xs.map V.int)[i]? = some (.int xs[i]) := by rw [List.getElem?_map, List.getElem?_eq_getElem hlt]; rfl
    have e2 : (ys.map V.int)[i]? = some (.int (ys[i]'(by omega))) := by rw [List.getElem?_map, List.getElem?_eq_getElem (by omega)]; rfl
    refine .inr ⟨⟨_, _, _, _, q.1, q.2, e1, e2⟩, Pv (i + 1), fun G p' => ⟨xs.length - (i + 1), by omega, rfl, hlt, p'⟩, fun x H' y => ?_⟩
    obtain ⟨T, x, y, rfl, hT, rfl, hx, hy⟩ := y
    obtain ⟨z, hz, rfl⟩ := int_at (hx _ q.1)
    obtain ⟨u, hu, rfl⟩ := int_at (hy _ q.2)
    exact hs i z u H T hz hu p hT
  · obtain rfl : i = xs.length := Nat.le_antisymm hi (by omega)
    exact .inl ⟨⟨_, _, q.1, q.2, by rw [List.length_map, List.length_map]; omega⟩, hd H p⟩
theorem take_zipWith {f : Int → Int → Int} : ∀ {xs ys : List Int} {i : Nat} {x y : Int}, xs[i]? = some x → ys[i]? = some y → List.zipWith f (xs.take (i + 1)) (ys.take (i + 1)) = List.zipWith f (xs.take i) (ys.take i) ++ [f x y]
  | a :: xs, b :: ys, 0, x, y, hx, hy => by
    cases hx
    cases hy
    simp
  | a :: xs, b :: ys, i + 1, x, y, hx, hy => by
    have := take_zipWith (f := f) (xs := xs) (ys := ys) (i := i) (by simpa using hx) (by simpa using hy)
    rw [List.take_succ_cons, List.take_succ_cons, List.take_succ_cons, List.take_succ_cons, List.zipWith_cons_cons, List.zipWith_cons_cons, this]
    rfl
/-! ### what lengths cost -/
def prodS (ls cs : List Int) : Int := (List.zipWith (fun l c => l * c) ls cs).sum
def sp_cost (K : PySem.W.Frag) : Sp := fun vs H Q _ => ∃ (a b : Addr) (ls cs : List Int), vs = [.ref a, .ref b] ∧ SqL K H a (ls.map V.int) ∧ SqL K H b (cs.map V.int) ∧ ls.length = cs.length ∧ cs.length ≤ 10000 ∧ (∀ l ∈ ls, 0 ≤ l ∧ l ≤ 15) ∧ ∀ H', Own K H H' [] → Q (.int (prodS ls cs)) H'
theorem ok_cost (T : Tx K mg) : Cl P w K mg base 1 "cost" ["lengths", "counts"] (sp_cost K) [] := by
  obtain ⟨gm, fd, F⟩ := T.d_cost
  refine ⟨_, fd, [], F.ok sc_cost (fun vs H Q E h => ?_) (fun cdv A outer s H vs Q E hr h => ⟨_, (PSs.nox (pss_one (ps_ret (by exact (pe_callB (sumK K rfl) rfl T.b_sum (by decide +kernel) (pa_cons (pe_lc (own := [("length", 2), ("count", 3)]) (g := (gTup K 2 (gCons (gName 2) (gCons (gName 3) gNil)))) (tt := tYes) rfl sc_cost.nd (pi_zip (by rfl) T.b_zip (pa_cons (pv 0) (pa_cons (pv 1) pa_nil))) (blkOk_by (own := [("length", 2), ("count", 3)]) (N := N_cost) (sc := defScope s_cost) (by decide +kernel)) (fun _ _ _ _ _ => (pg_tupK K 2 rfl (pgs_cons (pg_name (i := 2) sc_cost.nd rfl (Or.inl rfl)) (pgs_cons (pg_name (i := 3) sc_cost.nd rfl (Or.inl rfl)) pgs_nil)))) (fun _ _ _ _ _ => pts_nil) (fun _ _ _ _ _ => (pe_op op_mul (pv 2) (pv 3)))) pa_nil)))))), ?_⟩), gm, F.kp, F.bindsN (fun _ _ _ _ _ _ us hl => match us, hl with | [_, _], _ => rfl), .nil⟩
  · first | (obtain ⟨rfl, _⟩ := h; rfl) | (obtain ⟨_, rfl, _⟩ := h; rfl) | (obtain ⟨_, _, rfl, _⟩ := h; rfl) | (obtain ⟨_, _, _, rfl, _⟩ := h; rfl) | (obtain ⟨_, _, _, _, rfl, _⟩ := h; rfl) | (obtain ⟨_, _, _, _, _, rfl, _⟩ := h; rfl) | (obtain ⟨_, _, _, _, _, _, rfl, _⟩ := h; rfl) | (obtain ⟨_, _, _, _, _, _, _, rfl, _⟩ := h; rfl) | (obtain ⟨_, _, _, _, _, _, _, _, rfl, _⟩ := h; rfl) | (obtain ⟨_, _, _, _, _, _, _, _, _, rfl, _⟩ := h; rfl) | (obtain ⟨_, _, _, _, _, _, _, _, _, _, rfl, _⟩ := h; rfl) | (obtain ⟨_, _, _, _, _, _, _, _, _, _, _, rfl, _⟩ := h; rfl) | (obtain ⟨_, _, _, _, _, _, _, _, _, _, _, _, rfl, _⟩ := h; rfl) | (obtain ⟨_, _, _, _, _, _, _, _, _, _, _, _, _, rfl, _⟩ := h; rfl) | (obtain ⟨_, _, _, _, _, _, _, _, _, _, _, _, _, _, rfl, _⟩ := h; rfl) | (obtain ⟨_, _, _, _, _, _, _, _, _, _, _, _, _, _, _, rfl, _⟩ := h; rfl) | (obtain ⟨_, _, _, _, _, _, _, _, _, _, _, _, _, _, _, _, rfl, _⟩ := h; rfl) | (obtain ⟨_, _, _, _, _, _, _, _, _, _, _, _, _, _, _, _, _, rfl, _⟩ := h; rfl) | (obtain ⟨_, _, _, _, _, _, _, _, _, _, _, _, _, _, _, _, _, _, rfl, _⟩ := h; rfl) | (obtain ⟨_, _, _, _, _, _, _, _, _, _, _, _, _, _, _, _, _, _, _, rfl, _⟩ := h; rfl) | (obtain ⟨_, _, _, _, _, _, _, _, _, _, _, _, _, _, _, _, _, _, _, _, rfl, _⟩ := h; rfl) | (obtain ⟨_, _, _, _, _, _, _, _, _, _, _, _, _, _, _, _, _, _, _, _, _, rfl, _⟩ := h; rfl)
  · obtain ⟨a, b, ls, cs, rfl, hA, hB, hn, hl, hr15, q⟩ := h
    k_call_by "xo" st_cost
    have L := Own.start (K := K) (H := H)
    rw [x_izip]
    wtm_at "oo"
    intro D hD
    refine comp_zip hn (fun i H' => Own K H H' [pI D (List.zipWith (fun l c => l * c) (ls.take i) (cs.take i))]) (L.new hD _) (fun i H' _ h => ⟨h.sq hA, h.sq hB⟩) ?_ ?_
    · rintro i x y H1 T1 hx hy L1 hT1
      have L2 := L1.new hT1 (tupI [x, y])
      show gTup _ _ _ _ _ (upd H1 T1 (tupI [x, y])) _
      generalize (upd H1 T1 (tupI [x, y])) = G at *
      clear L1
      wtm_at "oo"
      rw [if_pos trivial, take_zipWith hx hy]
      have hx15 := hr15 x (List.mem_of_getElem? hx)
      refine ⟨cmul_l (by omega) (by omega), _, L2.get (.tail _ (.head _)), ?_, ?_⟩
      · rw [List.length_map, List.length_zipWith, List.length_take, List.length_take, sizeLine_eq]
        omega
      · have := (L2.put (o' := .lst ((List.zipWith (fun l c => l * c) (ls.take i) (cs.take i)).map V.int ++ [V.int (x * y)])) rfl (.there .here)).drop1
        show Own K H _ [As.pt D (.lst ((_ ++ [x * y]).map V.int))]
        rw [List.map_append]
        exact this
    · rintro H1 L1
      rw [List.take_length, hn, List.take_length] at L1
      wtm_at "oo"
      exact q _ L1.drop1


end
end K13

namespace K13
open PySem PySem.Spec PyProof.Rows L2 Bel LamX
local macro_rules | `(tactic| wtm_at "xs") => `(tactic| simp only [x_next, x_seq, x_brk, x_cont, x_drop, x_ret, x_retN, x_if, sel_t, sel_f, selE_t, selE_f, selT_t, selT_f, selC_t, selC_f, x_test, x_tB, x_op, x_un, x_var, x_c, x_cb, x_nil, x_cons, x_rI, x_rI0, x_rU, x_rEq, x_rNe, x_rIxL, x_rIxT, x_rSlL, x_rCat, x_rRep, x_rApp, x_bm, x_bm0, x_sl, x_nopart, x_part, x_tup, x_lst, x_call, x_callS, x_asg, x_gname, x_gtup, x_gnil, x_gcons, x_gsub, x_setL, x_aug, x_ipI, x_ipC, x_bits, x_getL, x_augS, x_and, x_or, x_not, x_k, x_andV, x_orV, x_notV, x_ife, x_chain, x_for, x_ilist, x_itup, x_ienum, x_irng1, x_irng2, x_irev, x_lc, x_yes, wipe_nil, wipe_cons, List.map_cons, List.map_nil, x_misc, x_misc2, x_rz, lookup_at, Bool.not_true, Bool.not_false, decide_true, decide_false, not_true, not_false_eq_true, and_assoc, exists_and_left, exists_eq_left', exists_eq_left, exists_eq', exists_eq_right', exists_eq_right, V.int.injEq, V.ref.injEq, V.bl.injEq, V.str.injEq, List.cons.injEq, and_true, true_and, and_self, Option.some.injEq, List.cons_append, List.nil_append, List.append_nil, List.getElem?_cons_zero, List.getElem?_cons_succ, List.set_cons_zero, List.set_cons_succ, reduceCtorEq, false_and, and_false, exists_false, exists_const, or_false, false_or, scal_ii, scal_bb, scal_ss, List.length_cons, List.length_nil, Int.reduceToNat, Int.reducePow])
local macro_rules | `(tactic| k_call_by "xs" $h:term) => `(tactic| simp only [$h:term, x_next, x_seq, x_brk, x_cont, x_drop, x_ret, x_retN, x_if, sel_t, sel_f, selE_t, selE_f, selT_t, selT_f, selC_t, selC_f, x_test, x_tB, x_op, x_un, x_var, x_c, x_cb, x_nil, x_cons, x_rI, x_rI0, x_rU, x_rEq, x_rNe, x_rIxL, x_rIxT, x_rSlL, x_rCat, x_rRep, x_rApp, x_bm, x_bm0, x_sl, x_nopart, x_part, x_tup, x_lst, x_call, x_callS, x_asg, x_gname, x_gtup, x_gnil, x_gcons, x_gsub, x_setL, x_aug, x_ipI, x_ipC, x_bits, x_getL, x_augS, x_and, x_or, x_not, x_k, x_andV, x_orV, x_notV, x_ife, x_chain, x_for, x_ilist, x_itup, x_ienum, x_irng1, x_irng2, x_irev, x_lc, x_yes, wipe_nil, wipe_cons, List.map_cons, List.map_nil, x_misc, x_misc2, x_rz, lookup_at, Bool.not_true, Bool.not_false, decide_true, decide_false, not_true, not_false_eq_true, and_assoc, exists_and_left, exists_eq_left', exists_eq_left, exists_eq', exists_eq_right', exists_eq_right, V.int.injEq, V.ref.injEq, V.bl.injEq, V.str.injEq, List.cons.injEq, and_true, true_and, and_self, Option.some.injEq, List.cons_append, List.nil_append, List.append_nil, List.getElem?_cons_zero, List.getElem?_cons_succ, List.set_cons_zero, List.set_cons_succ, reduceCtorEq, false_and, and_false, exists_false, exists_const, or_false, false_or, scal_ii, scal_bb, scal_ss, List.length_cons, List.length_nil, Int.reduceToNat, Int.reducePow])
local macro_rules | `(tactic| wtm_at "hp") => `(tactic| first | (with_reducible assumption) | exact upd_same | (refine upd_keep (by with_reducible assumption) ?_; wtm_at "hp") | (refine Same.get (by with_reducible assumption) ?_; wtm_at "hp") | (refine upd_other (by first | (with_reducible assumption) | exact Ne.symm (by with_reducible assumption)) ?_; wtm_at "hp"))
local macro_rules | `(tactic| wtm_at "sq") => `(tactic| first | (with_reducible assumption) | exact SqL.of (by wtm_at "hp") | exact SqT.of (by wtm_at "hp") | (refine Same.seq (same_upd (by with_reducible assumption)) ?_; wtm_at "sq") | (refine Same.seq (by with_reducible assumption) ?_; wtm_at "sq") | (refine Same.seqT (same_upd (by with_reducible assumption)) ?_; wtm_at "sq") | (refine Same.seqT (by with_reducible assumption) ?_; wtm_at "sq"))
local macro_rules | `(tactic| wtm_at "cl") => `(tactic| first | (with_reducible assumption) | omega | (exact cmul_r (by omega) (by omega)) | (exact cmul_l (by omega) (by omega)) | (exact cdiv_ok (by omega) (by omega)) | (exact cpow_ok (by decide)) | (exact ⟨by omega, by omega, by omega⟩) | decide | (exact ⟨by omega, by omega⟩) | (simp only [List.length_append, List.length_map, List.length_set, List.length_cons, List.length_nil, rngL_len, sizeLine_eq]; omega) | wtm_at "hp" | wtm_at "sq")
local macro_rules | `(tactic| wtm_at "pf") => `(tactic| first | (with_reducible assumption) | omega | (simp only [List.length_append, List.length_map, List.length_set, List.length_cons, List.length_nil, rngL_len]; omega) | (with_reducible rfl) | (with_reducible trivial) | (with_reducible decide))
local macro_rules | `(tactic| wtm_at "st") => `(tactic| first | ((with_reducible refine g_at ?_); refine at_call (by wtm_at "sq") (by omega) (by omega) (fun _ _ => ?_)) | ((with_reducible refine g_row ?_); refine row_call (by wtm_at "hp") ?_) | ((with_reducible refine g_int ?_); refine int_call ?_) | ((with_reducible refine g_isi ?_); first | (with_reducible refine isi_ii ?_) | (with_reducible refine isi_ib ?_) | (refine isi_int rfl ?_) | (refine isi_lst rfl (by wtm_at "hp") ?_) | (refine isi_tup rfl (by wtm_at "hp") ?_)) | ((with_reducible refine g_ned ?_); refine ned_f (dq_lst (by wtm_at "sq")) (dq_lst (by wtm_at "sq")) ?_) | ((with_reducible refine g_eqd ?_); refine eqd_t (dq_lst (by wtm_at "sq")) (dq_lst (by wtm_at "sq")) ?_) | ((with_reducible refine g_tyv ?_); refine and_tyv (by wtm_at "sq") ?_) | ((with_reducible refine g_asq ?_); refine and_sq (by wtm_at "sq") ?_) | ((with_reducible refine g_lst ?_); refine ex_lst (by wtm_at "hp") ?_) | ((with_reducible refine g_or ?_); first | (refine ex_or (by wtm_at "sq") ?_) | (refine ex_ort (by wtm_at "sq") ?_)) | ((with_reducible refine g_sq ?_); refine ex_sq (by wtm_at "sq") ?_) | ((with_reducible refine g_sqt ?_); refine ex_sqt (by wtm_at "sq") ?_) | ((with_reducible refine gd_sel ?_); first | (refine sel_p (by wtm_at "pf") ?_) | (refine sel_n (by wtm_at "pf") ?_)) | ((with_reducible refine gn_sel ?_); first | (refine selN_p (by wtm_at "pf") ?_) | (refine selN_n (by wtm_at "pf") ?_)) | ((with_reducible refine gd_selT ?_); first | (refine selT_p (by wtm_at "pf") ?_) | (refine selT_n (by wtm_at "pf") ?_)) | ((with_reducible refine gn_selT ?_); first | (refine selTN_p (by wtm_at "pf") ?_) | (refine selTN_n (by wtm_at "pf") ?_)) | ((with_reducible refine gd_selE ?_); first | (refine selE_p (by wtm_at "pf") ?_) | (refine selE_n (by wtm_at "pf") ?_)) | ((with_reducible refine gn_selE ?_); first | (refine selEN_p (by wtm_at "pf") ?_) | (refine selEN_n (by wtm_at "pf") ?_)) | ((with_reducible refine g_xf ?_); refine xf_at rfl (by wtm_at "hp") ?_) | ((with_reducible refine g_atI ?_); refine ex_at (by first | exact rfl | exact atI_int (by omega) (by wtm_at "pf") | exact atI_end (by wtm_at "pf")) ?_) | ((with_reducible refine g_and ?_); refine And.intro (by wtm_at "cl") ?_) | ((with_reducible refine g_new ?_); intro _ _))
local macro_rules | `(tactic| wtm_at "go") => `(tactic| repeat (first | wtm_at "xs" | wtm_at "st"))
local macro_rules | `(tactic| wtm_at "xo") => `(tactic| simp only [x_next, x_seq, x_brk, x_cont, x_drop, x_ret, x_retN, x_if, sel_t, sel_f, selE_t, selE_f, selT_t, selT_f, selC_t, selC_f, x_test, x_tB, x_op, x_un, x_var, x_c, x_cb, x_nil, x_cons, x_rI, x_rI0, x_rU, x_rEq, x_rNe, x_rIxL, x_rIxT, n_rSlL, n_rCat, n_rRep, n_rApp, x_bm, x_bm0, x_sl, x_nopart, x_part, n_tup, n_lst, x_call, x_callS, x_asg, x_gname, x_gtup, x_gnil, x_gcons, x_gsub, n_setL, x_aug, x_ipI, x_ipC, x_bits, x_getL, x_augS, x_and, x_or, x_not, x_k, x_andV, x_orV, x_notV, x_ife, x_chain, x_for, x_ilist, x_itup, x_ienum, x_irng1, x_irng2, x_irev, x_lc, x_yes, wipe_nil, wipe_cons, List.map_cons, List.map_nil, x_misc, x_misc2, x_rz, lookup_at, Bool.not_true, Bool.not_false, decide_true, decide_false, not_true, not_false_eq_true, and_assoc, exists_and_left, exists_eq_left', exists_eq_left, exists_eq', exists_eq_right', exists_eq_right, V.int.injEq, V.ref.injEq, V.bl.injEq, V.str.injEq, List.cons.injEq, and_true, true_and, and_self, Option.some.injEq, List.cons_append, List.nil_append, List.append_nil, List.getElem?_cons_zero, List.getElem?_cons_succ, List.set_cons_zero, List.set_cons_succ, reduceCtorEq, false_and, and_false, exists_false, exists_const, or_false, false_or, scal_ii, scal_bb, scal_ss, List.length_cons, List.length_nil, Int.reduceToNat, Int.reducePow, n_fld, n_sfld, n_aug, n_meth, n_mw, n_make, n_kw, n_rLs, n_dcp, x_sortK, n_gget, n_rLtT, n_ext, n_revL, n_rTp, t_im, ints_rev, t_s1, t_i1, t_i2, t_i3, t_i4, t_i5, x_chain3, x_irng3, x_irevR, x_rg1, x_rg2, ints_cat, ints_app1, ints_len, ints_take, ints_drop, rep_one])
local macro_rules | `(tactic| k_call_by "xo" $h:term) => `(tactic| simp only [$h:term, x_next, x_seq, x_brk, x_cont, x_drop, x_ret, x_retN, x_if, sel_t, sel_f, selE_t, selE_f, selT_t, selT_f, selC_t, selC_f, x_test, x_tB, x_op, x_un, x_var, x_c, x_cb, x_nil, x_cons, x_rI, x_rI0, x_rU, x_rEq, x_rNe, x_rIxL, x_rIxT, n_rSlL, n_rCat, n_rRep, n_rApp, x_bm, x_bm0, x_sl, x_nopart, x_part, n_tup, n_lst, x_call, x_callS, x_asg, x_gname, x_gtup, x_gnil, x_gcons, x_gsub, n_setL, x_aug, x_ipI, x_ipC, x_bits, x_getL, x_augS, x_and, x_or, x_not, x_k, x_andV, x_orV, x_notV, x_ife, x_chain, x_for, x_ilist, x_itup, x_ienum, x_irng1, x_irng2, x_irev, x_lc, x_yes, wipe_nil, wipe_cons, List.map_cons, List.map_nil, x_misc, x_misc2, x_rz, lookup_at, Bool.not_true, Bool.not_false, decide_true, decide_false, not_true, not_false_eq_true, and_assoc, exists_and_left, exists_eq_left', exists_eq_left, exists_eq', exists_eq_right', exists_eq_right, V.int.injEq, V.ref.injEq, V.bl.injEq, V.str.injEq, List.cons.injEq, and_true, true_and, and_self, Option.some.injEq, List.cons_append, List.nil_append, List.append_nil, List.getElem?_cons_zero, List.getElem?_cons_succ, List.set_cons_zero, List.set_cons_succ, reduceCtorEq, false_and, and_false, exists_false, exists_const, or_false, false_or, scal_ii, scal_bb, scal_ss, List.length_cons, List.length_nil, Int.reduceToNat, Int.reducePow, n_fld, n_sfld, n_aug, n_meth, n_mw, n_make, n_kw, n_rLs, n_dcp, x_sortK, n_gget, n_rLtT, n_ext, n_revL, n_rTp, t_im, ints_rev, t_s1, t_i1, t_i2, t_i3, t_i4, t_i5, x_chain3, x_irng3, x_irevR, x_rg1, x_rg2, ints_cat, ints_app1, ints_len, ints_take, ints_drop, rep_one])
local macro_rules | `(tactic| wtm_at "mem") => `(tactic| first | (with_reducible exact mem_here) | (with_reducible refine mem_there ?_; wtm_at "mem"))
local macro_rules | `(tactic| wtm_at "pp") => `(tactic| first | (with_reducible exact Put.here) | (with_reducible apply Put.there; wtm_at "pp"))
local macro_rules | `(tactic| wtm_at "ho") => `(tactic| first | (with_reducible assumption) | exact Own.get (by with_reducible assumption) (by wtm_at "mem") | exact Own.base (by with_reducible assumption) (by with_reducible assumption))
local macro_rules | `(tactic| wtm_at "qo") => `(tactic| first | (with_reducible assumption) | exact SqL.of (by wtm_at "ho") | exact sqT_tupI (by wtm_at "ho") | exact sqT_tupS (by wtm_at "ho") | exact SqT.of (by wtm_at "ho") | exact Own.imT (by with_reducible assumption) (by wtm_at "mem") | exact Own.sq (by with_reducible assumption) (by with_reducible assumption) | exact Own.sqT (by with_reducible assumption) (by with_reducible assumption))
local macro_rules | `(tactic| wtm_at "sub") => `(tactic| first | exact List.nil_sublist _ | (with_reducible refine List.Sublist.cons_cons _ ?_; wtm_at "sub") | (refine List.Sublist.cons _ ?_; wtm_at "sub"))
local macro_rules | `(tactic| wtm_at "co") => `(tactic| first | (with_reducible assumption) | omega | (exact cmul_r (by omega) (by omega)) | (exact cmul_l (by omega) (by omega)) | (exact cdiv_ok (by omega) (by omega)) | (exact cpow_ok (by decide)) | (exact ⟨by omega, by omega, by omega⟩) | decide | (exact ⟨by omega, by omega⟩) | (simp only [List.length_append, List.length_map, List.length_set, List.length_cons, List.length_nil, rngL_len, sizeLine_eq]; omega) | wtm_at "ho" | wtm_at "qo")
local macro_rules | `(tactic| wtm_at "so") => `(tactic| first | ((with_reducible refine g_dcp ?_); refine dcpI (by wtm_at "ho") ?_) | ((with_reducible refine g_asl ?_); refine And.intro (by rfl) ?_) | ((with_reducible refine g_asqT ?_); refine and_sqT (by wtm_at "qo") ?_) | ((with_reducible refine g_extO ?_); first | (refine extI (by with_reducible assumption) (by wtm_at "pp") (by wtm_at "co") (fun _ _ => ?_)) | (refine extO (by with_reducible assumption) (by wtm_at "pp") (by wtm_at "co") (fun _ _ => ?_))) | ((with_reducible refine g_tp ?_); first | (refine tp_l (by wtm_at "qo") ?_) | (refine tp_t (by wtm_at "qo") ?_)) | ((with_reducible refine g_fldO ?_); refine fldO (by wtm_at "ho") (by with_reducible assumption) (by wtm_at "mem") (by wtm_at "lk") ?_) | ((with_reducible refine g_fldC ?_); refine fldC (by wtm_at "ho") (by with_reducible assumption) (by wtm_at "mem") (by wtm_at "lk") ?_) | ((with_reducible refine g_putC ?_); refine putC (by with_reducible assumption) (by wtm_at "pp") (by wtm_at "pu") (by wtm_at "co") (fun _ _ => ?_)) | ((with_reducible refine g_stoO ?_); refine stoO (by with_reducible assumption) (by wtm_at "pp") (by wtm_at "pu") (by with_reducible assumption) (by wtm_at "mem") (by wtm_at "co") (fun _ _ => ?_)) | ((with_reducible refine g_metO ?_); refine metO (by wtm_at "ho") (by wtm_at "ln") ?_) | ((with_reducible refine g_makO ?_); refine makO (by with_reducible assumption) (fun _ _ _ _ => ?_)) | ((with_reducible refine g_sum ?_); refine sum_call (by wtm_at "qo") ?_) | ((with_reducible refine g_cq ?_); exact cq (by with_reducible assumption) (by simp only [rngL_len, List.length_map, List.length_take]; omega)) | ((with_reducible refine g_newO ?_); refine newO (by with_reducible assumption) (fun _ _ _ => ?_)) | ((with_reducible refine g_appO ?_); refine appI (by with_reducible assumption) (by wtm_at "pp") (by wtm_at "co") (fun _ _ => ?_)) | ((with_reducible refine g_setO ?_); refine setI (by with_reducible assumption) (by wtm_at "pp") (by omega) (by wtm_at "co") (fun _ _ => ?_)) | ((with_reducible refine g_appO ?_); refine appO (by with_reducible assumption) (by wtm_at "pp") (by wtm_at "co") (fun _ _ => ?_)) | ((with_reducible refine g_setO ?_); refine setO (by with_reducible assumption) (by wtm_at "pp") (by omega) (by wtm_at "co") (fun _ _ => ?_)) | ((with_reducible refine g_at ?_); refine at_call (by wtm_at "qo") (by omega) (by omega) (fun _ _ => ?_)) | ((with_reducible refine g_row ?_); refine row_call (by wtm_at "ho") ?_) | ((with_reducible refine g_int ?_); refine int_call ?_) | ((with_reducible refine g_isi ?_); first | (with_reducible refine isi_ii ?_) | (with_reducible refine isi_ib ?_) | (refine isi_int rfl ?_) | (refine isi_sqL rfl (by wtm_at "qo") ?_) | (refine isi_sqT rfl (by wtm_at "qo") ?_) | (refine isi_bl rfl ?_) | (refine isi_non rfl ?_) | (refine isi_str rfl ?_)) | ((with_reducible refine g_ned ?_); first | (refine ned_f (dq_lst (by wtm_at "qo")) (dq_lst (by wtm_at "qo")) ?_) | (refine ned_ints (by wtm_at "qo") (by wtm_at "qo") ?_) | (refine nedT_ints (by wtm_at "qo") (by wtm_at "qo") ?_)) | ((with_reducible refine g_eqd ?_); first | (refine eqd_t (dq_lst (by wtm_at "qo")) (dq_lst (by wtm_at "qo")) ?_) | (refine eqd_ints (by wtm_at "qo") (by wtm_at "qo") ?_) | (refine eqdT_ints (by wtm_at "qo") (by wtm_at "qo") ?_)) | ((with_reducible refine g_tyv ?_); refine and_tyv (by wtm_at "qo") ?_) | ((with_reducible refine g_asq ?_); refine and_sq (by wtm_at "qo") ?_) | ((with_reducible refine g_lst ?_); refine ex_lst (by wtm_at "ho") ?_) | ((with_reducible refine g_or ?_); first | (refine ex_or (by wtm_at "qo") ?_) | (refine ex_ort (by wtm_at "qo") ?_)) | ((with_reducible refine g_sq ?_); refine ex_sq (by wtm_at "qo") ?_) | ((with_reducible refine g_sqt ?_); refine ex_sqt (by wtm_at "qo") ?_) | ((with_reducible refine gd_sel ?_); first | (refine sel_p (by wtm_at "pf") ?_) | (refine sel_n (by wtm_at "pf") ?_)) | ((with_reducible refine gn_sel ?_); first | (refine selN_p (by wtm_at "pf") ?_) | (refine selN_n (by wtm_at "pf") ?_)) | ((with_reducible refine gd_selT ?_); first | (refine selT_p (by wtm_at "pf") ?_) | (refine selT_n (by wtm_at "pf") ?_)) | ((with_reducible refine gn_selT ?_); first | (refine selTN_p (by wtm_at "pf") ?_) | (refine selTN_n (by wtm_at "pf") ?_)) | ((with_reducible refine gd_selE ?_); first | (refine selE_p (by wtm_at "pf") ?_) | (refine selE_n (by wtm_at "pf") ?_)) | ((with_reducible refine gn_selE ?_); first | (refine selEN_p (by wtm_at "pf") ?_) | (refine selEN_n (by wtm_at "pf") ?_)) | ((with_reducible refine g_xf ?_); refine xf_at rfl (by wtm_at "ho") ?_) | ((with_reducible refine g_atI ?_); refine ex_at (by first | exact rfl | exact atI_int (by omega) (by wtm_at "pf") | exact atI_end (by wtm_at "pf")) ?_) | ((with_reducible refine g_and ?_); refine And.intro (by wtm_at "co") ?_))
local macro_rules | `(tactic| wtm_at "oo") => `(tactic| repeat (first | wtm_at "xo" | wtm_at "so"))
local macro_rules | `(tactic| wtm_at "cR") => `(tactic| (refine' compRi _ (by with_reducible assumption) (by omega) (fun _ _ _ _ _ => ?_) (fun _ _ _ => ?_); rotate_left; focus (wtm_at "oo")))

local macro_rules | `(tactic| wtm_at "lk") => `(tactic| first | (with_reducible exact lk_here) | (simp only [lk_here, lk_skip, lk_nil]; first | done | exact rfl))
local macro_rules | `(tactic| wtm_at "ln") => `(tactic| first | (with_reducible exact lk_nil) | (simp only [lk_skip, lk_nil]; done))
local macro_rules | `(tactic| wtm_at "pu") => `(tactic| first | (with_reducible exact pf_nil) | (simp only [pf_nil, pf_here, pf_skip]; first | done | exact rfl))
local macro_rules | `(tactic| wtm_at "tk") => `(tactic| first | (with_reducible exact Take.here) | (exact Take.here) | ((with_reducible apply Take.there); wtm_at "tk"))
local macro_rules | `(tactic| wtm_at "pk") => `(tactic| first | exact Pick.nil | ((with_reducible refine' Pick.cons ?tk1 ?pk1); (case tk1 => wtm_at "tk"); (case pk1 => wtm_at "pk")) | ((with_reducible refine Pick.im (by wtm_at "mem") ?_); wtm_at "pk") | ((with_reducible refine Pick.ims (by wtm_at "mem") ?_); wtm_at "pk"))

local macro_rules | `(tactic| wtm_at "ta") => `(tactic| first | (with_reducible exact TakeA.here) | ((with_reducible apply TakeA.there); wtm_at "ta"))
local macro_rules | `(tactic| wtm_at "tb") => `(tactic| first | (exact TakeA.here) | ((with_reducible apply TakeA.there); wtm_at "tb"))
local macro_rules | `(tactic| wtm_at "pa") => `(tactic| first | exact PickA.nil | ((with_reducible refine PickA.im (by wtm_at "mem") ?_); wtm_at "pa") | ((with_reducible refine PickA.ims (by wtm_at "mem") ?_); wtm_at "pa") | ((with_reducible refine' PickA.any ?tk1 ?pk1); (case tk1 => first | wtm_at "ta" | wtm_at "tb"); (case pk1 => wtm_at "pa")))
section
variable {P : Program} {w : World} {K : PySem.W.Frag} {mg : Str → Option Value} {base : Heap} [TBC K mg base]
/-! ### lengths that serve -/
def okS (cs ls : List Int) (m : Int) (j : Nat) : Prop := 0 ≤ ls.getD j 0 ∧ ls.getD j 0 ≤ m ∧ (ls.getD j 0 = 0 ↔ cs.getD j 0 = 0)
def ServeL (ls cs : List Int) (m : Int) : Prop := ls.length = cs.length ∧ (∀ j, j < cs.length → okS cs ls m j) ∧ wts ls ≤ 32768
theorem getD_of {xs : List Int} {i : Nat} {x : Int} (h : xs[i]? = some x) : xs.getD i 0 = x := by
  rw [List.getD_eq_getElem?_getD, h]
  rfl
theorem lt_of {xs : List Int} {i : Nat} {x : Int} (h : xs[i]? = some x) : i < xs.length := by
  apply Decidable.byContradiction
  intro c
  rw [List.getElem?_eq_none (by omega)] at h
  cases h
theorem selT_nd {tA tB : TT} {σ : L2.St} {H : Hp} {QT : Bool → Hp → Prop} {p : Prop} {_ : Decidable p} (h1 : ¬ p → tA σ H QT) (h2 : p → tB σ H QT) : SelT (!decide p) tA tB σ H QT := selT (fun e => h1 (by simpa using e)) (fun e => h2 (by simpa using e))
def sp__serve (K : PySem.W.Frag) : Sp := fun vs H Q _ => ∃ (a b : Addr) (ls cs : List Int) (m : Int), vs = [.ref a, .ref b, .int m] ∧ SqL K H a (ls.map V.int) ∧ SqL K H b (cs.map V.int) ∧ 1 ≤ m ∧ m ≤ 15 ∧ cs.length ≤ 400 ∧ ∀ (r : Bool) H', (r = true ↔ ServeL ls cs m) → Own K H H' [] → Q (.bl r) H'
theorem ok__serve (T : Tx K mg) : Cl P w K mg base 4 "_serve" ["lengths", "counts", "most"] (sp__serve K) [] := by
  obtain ⟨gm, fd, F⟩ := T.d__serve
  refine ⟨_, fd, [], F.ok sc__serve (fun vs H Q E h => ?_) (fun cdv A outer s H vs Q E hr h => ⟨_, (PSs.nox (pss_cons (ps_if (pt_cmpR op_ne (pe_callB (lenK K) rfl T.b_len (by decide +kernel) (pa_cons (pv 0) pa_nil)) (pe_callB (lenK K) rfl T.b_len (by decide +kernel) (pa_cons (pv 1) pa_nil)) (nomark _))
 (pss_one (ps_ret (by exact pe_bl)))
 pss_nil)
 (pss_cons (ps_for PassesOwn.never rfl (pi_zip (by rfl) T.b_zip (pa_cons (pv 0) (pa_cons (pv 1) pa_nil))) (pg_tup (by rfl) (pgs_cons (pg_name (i := 3) sc__serve.nd rfl (Or.inl rfl)) (pgs_cons (pg_name (i := 4) sc__serve.nd rfl (Or.inl rfl)) pgs_nil)))
 (pss_one (ps_if (PW.pt (pw_or (pt_not (pt_chain op_le op_le pe_int (pv 3) (pv 2))) (pw_or1 (pt_cmpR op_ne (pe_cmpR op_eq (pv 3) pe_int (nomark _)) (pe_cmpR op_eq (pv 4) pe_int (nomark _)) (nomark _)))))
 (pss_one (ps_ret (by exact pe_bl)))
 pss_nil)))
 (pss_one (ps_ret (by exact (pe_not (pe_cl (ok_is_oversubscribed (K := K) (mg := mg) (base := base) T) (hr.mono (by decide)) rfl (pa_cons (pv 0) pa_nil))))))))), ?_⟩), gm, F.kp, F.bindsN (fun _ _ _ _ _ _ us hl => match us, hl with | [_, _, _], _ => rfl), .nil⟩
  · first | (obtain ⟨rfl, _⟩ := h; rfl) | (obtain ⟨_, rfl, _⟩ := h; rfl) | (obtain ⟨_, _, rfl, _⟩ := h; rfl) | (obtain ⟨_, _, _, rfl, _⟩ := h; rfl) | (obtain ⟨_, _, _, _, rfl, _⟩ := h; rfl) | (obtain ⟨_, _, _, _, _, rfl, _⟩ := h; rfl) | (obtain ⟨_, _, _, _, _, _, rfl, _⟩ := h; rfl) | (obtain ⟨_, _, _, _, _, _, _, rfl, _⟩ := h; rfl) | (obtain ⟨_, _, _, _, _, _, _, _, rfl, _⟩ := h; rfl) | (obtain ⟨_, _, _, _, _, _, _, _, _, rfl, _⟩ := h; rfl) | (obtain ⟨_, _, _, _, _, _, _, _, _, _, rfl, _⟩ := h; rfl) | (obtain ⟨_, _, _, _, _, _, _, _, _, _, _, rfl, _⟩ := h; rfl) | (obtain ⟨_, _, _, _, _, _, _, _, _, _, _, _, rfl, _⟩ := h; rfl) | (obtain ⟨_, _, _, _, _, _, _, _, _, _, _, _, _, rfl, _⟩ := h; rfl) | (obtain ⟨_, _, _, _, _, _, _, _, _, _, _, _, _, _, rfl, _⟩ := h; rfl) | (obtain ⟨_, _, _, _, _, _, _, _, _, _, _, _, _, _, _, rfl, _⟩ := h; rfl) | (obtain ⟨_, _, _, _, _, _, _, _, _, _, _, _, _, _, _, _, rfl, _⟩ := h; rfl) | (obtain ⟨_, _, _, _, _, _, _, _, _, _, _, _, _, _, _, _, _, rfl, _⟩ := h; rfl) | (obtain ⟨_, _, _, _, _, _, _, _, _, _, _, _, _, _, _, _, _, _, rfl, _⟩ := h; rfl) | (obtain ⟨_, _, _, _, _, _, _, _, _, _, _, _, _, _, _, _, _, _, _, rfl, _⟩ := h; rfl) | (obtain ⟨_, _, _, _, _, _, _, _, _, _, _, _, _, _, _, _, _, _, _, _, rfl, _⟩ := h; rfl) | (obtain ⟨_, _, _, _, _, _, _, _, _, _, _, _, _, _, _, _, _, _, _, _, _, rfl, _⟩ := h; rfl)
  · obtain ⟨a, b, ls, cs, m, rfl, hA, hB, m1, m2, hl, q⟩ := h
    k_call_by "xo" st__serve
    have L := Own.start (K := K) (H := H)
    wtm_at "oo"
    refine sel_nd (fun c => ?_) (fun c => ?_)
    · wtm_at "oo"
      exact q false H (by simp [ServeL]; omega) L
    · have hn : ls.length = cs.length := by omega
      wtm_at "oo"
      rw [x_izip]
      wtm_at "oo"
      refine loop_zip hn (fun i σ H' => ∃ y3 y4, σ = [some (.ref a), some (.ref b), some (.int m), y3, y4] ∧ Own K H H' [] ∧ ∀ j, j < i → okS cs ls m j) ⟨none, none, rfl, L, fun j hj => absurd hj (by omega)⟩ (fun i σ H' _ ⟨_, _, _, s, _⟩ => ⟨s.sq hA, s.sq hB⟩) ?_ ?_
      · rintro i x y σ H1 T1 hx hy ⟨y3, y4, rfl, L1, hle⟩ hT1
        have L2 := L1.new hT1 (tupI [x, y])
        show gTup _ _ _ _ _ (upd H1 T1 (tupI [x, y])) _
        generalize (upd H1 T1 (tupI [x, y])) = G at *
        clear L1
        have ex := getD_of hx
        have ey := getD_of hy
        have hi := lt_of hy
        wtm_at "oo"
        have bad : ¬ okS cs ls m i → ∀ (H' : Hp), Own K H H' [] → Q (.bl false) H' := fun z H' M => q false H' (by
          refine ⟨fun e => (by cases e), fun e => absurd (e.2.1 i hi) z⟩) M
        have L3 : Own K H G [] := L2.drop1
        unfold okS at bad
        rw [ex, ey] at bad
        have good : 0 ≤ x → x ≤ m → (x = 0 ↔ y = 0) → ∀ j, j < i + 1 → okS cs ls m j := fun z1 z2 z3 j hj => by
          by_cases e : j = i
          · rw [e]
            unfold okS
            rw [ex, ey]
            exact ⟨z1, z2, z3⟩
          · exact hle j (by omega)
        refine selE_d (fun c1 => ?_) (fun c1 => ?_)
        · wtm_at "oo"
          refine selT_nd (fun c2 => ?_) (fun c2 => ?_)
          · wtm_at "oo"
            exact bad (fun z => c2 z.2.1) G L3
          · wtm_at "oo"
            refine sel_nd (fun c3 => ?_) (fun c3 => ?_)
            · wtm_at "oo"
              exact bad (fun z => c3 (by
                by_cases k : x = 0
                · rw [decide_eq_true k, decide_eq_true (z.2.2.mp k)]
                · rw [decide_eq_false k, decide_eq_false (fun e => k (z.2.2.mpr e))])) G L3
            · wtm_at "oo"
              exact good c1 c2 (by
                by_cases k : x = 0
                · rw [decide_eq_true k] at c3
                  exact ⟨fun _ => of_decide_eq_true c3.symm, fun _ => k⟩
                · rw [decide_eq_false k] at c3
                  exact ⟨fun e => absurd e k, fun e => absurd e (of_decide_eq_false c3.symm)⟩)
        · wtm_at "oo"
          exact bad (fun z => c1 z.1) G L3
      · rintro σ H1 ⟨y3, y4, rfl, L1, hle⟩
        wtm_at "oo"
        have hle2 : ∀ x ∈ ls, 0 ≤ x ∧ x ≤ m := fun x hx => by
          obtain ⟨i, hi⟩ := List.mem_iff_getElem?.mp hx
          have := hle i (lt_of hi)
          unfold okS at this
          rw [getD_of hi] at this
          exact ⟨this.1, this.2.1⟩
        refine ⟨a, ls, rfl, L1.sq hA, ⟨fun x hx => (hle2 x hx).1, fun x hx => by have := hle2 x hx; omega, by omega⟩, fun H' s => ?_⟩
        wtm_at "oo"
        refine q _ H' ?_ (L1.call s)
        unfold ServeL
        rw [← hn]
        exact ⟨fun z => ⟨rfl, hle, by simpa using z⟩, fun z => by simpa using z.2.2⟩
/-! ### the check of lengths -/
theorem dq_rowsS {K : PySem.W.Frag} {H : Hp} {D : Addr} {pl : RL} (h : SqL K H D (rR pl)) (hP : ∀ q ∈ pl, SqL K H q.1 q.2.1 ∧ ImmL K H q.2.1 (q.2.2.map tI2)) : Dq K H (.ref D) (dRR (rC pl)) := by
  have key : ∀ ql : RL, (∀ q ∈ ql, q ∈ pl) → DpAll K H (rR ql) ((rC ql).map fun r => PyData.list (r.map tI2)) := by
    intro ql
    induction ql with
    | nil => exact fun _ => .nil
    | cons q r ih =>
      intro hq
      obtain ⟨c1, c2⟩ := hP _ (hq q (.head _))
      exact .cons (.lst c1 c2.dp) (ih fun x hx => hq x (.tail _ hx))
  refine ⟨.lst h (key pl fun q hq => hq), ?_, ?_⟩
  · show Bel.plain (.list _) = true
    simp only [Bel.plain]
    exact plain_rows _
  · have := depth_rows (rC pl)
    show (PyData.list _).depth ≤ 64
    simp only [PyData.depth]
    omega
def Chk (cs : List Int) (m : Int) (ls : List Int) (rows : List (List (Int × Int))) : Prop :=
  if usedN cs < 2 then rows = [] ∧ ls = noRows cs else ServeL ls cs m ∧ rows = formed cs m.toNat ∧ prodS ls cs = sv (((rowN cs (m.toNat - 1)).take (2 * usedN cs - 2)))
def sp_check_lengths (K : PySem.W.Frag) : Sp := fun vs H Q E => ∃ (a b r : Addr) (cs ls : List Int) (m : Int) (pl : RL), vs = [.ref a, .int m, .ref b, .ref r] ∧ SqL K H a (cs.map V.int) ∧ SqL K H b (ls.map V.int) ∧ SqL K H r (rR pl) ∧ (∀ q ∈ pl, SqL K H q.1 q.2.1 ∧ ImmL K H q.2.1 (q.2.2.map tI2)) ∧ cs.length ≤ 400 ∧ TabS H (tabP K) qLam ∧
  (¬ (1 ≤ m ∧ m ≤ 15) → ∀ x, H x = none → E (.ref (He.ga K "OutOfRange")) (some x) (upd H x (.xd [("at", .int (-1))]))) ∧
  (1 ≤ m → m ≤ 15 → ∀ k : Nat, k < cs.length → (∀ i : Nat, i < k → cOk (cs.getD i 0)) → ¬ cOk (cs.getD k 0) → ∀ H' x, Same H H' → H' x = none → E (.ref (He.ga K "OutOfRange")) (some x) (upd H' x (.xd [("at", .int (k : Nat))]))) ∧
  (1 ≤ m → m ≤ 15 → allOk cs → ∀ (x : Bool) H', (x = true ↔ Chk cs m ls (rC pl)) → Own K (delL H [tabP K]) H' [.tab (tabP K)] → Q (.bl x) H')
theorem ok_check_lengths (T : Tx K mg) : Cl P w K mg base 5 "check_lengths" ["counts", "most", "lengths", "rows"] (sp_check_lengths K) [] := by
  obtain ⟨gm, fd, F⟩ := T.d_check_lengths
  refine ⟨_, fd, [], F.ok sc_check_lengths (fun vs H Q E h => ?_) (fun cdv A outer s H vs Q E hr h => ⟨_, (pss_cons (ps_expr (pe_clS (ok__check_range (K := K) (mg := mg) (base := base) T) (hr.mono (by decide)) rfl (L2N.takes_of rfl rfl rfl rfl) (pa_cons (pv 0) (pa_cons (pv 1) pa_nil))))
 (pss_cons (ps_if (pt_cmpR op_lt (pe_cl (ok__used (K := K) (mg := mg) (base := base) T) (hr.mono (by decide)) rfl (pa_cons (pv 0) pa_nil)) pe_int (nomark _))
 (pss_one (ps_ret (by exact (pe_and (pe_cmpR (eqK K hr.units) (pv 3) (pe_lst pa_nil) (nomark _)) (pe_one (pe_cmpR (eqK K hr.units) (pv 2) (pe_cl (ok__lengths_without_rows (K := K) (mg := mg) (base := base) T) (hr.mono (by decide)) rfl (pa_cons (pv 0) pa_nil)) (nomark _)))))))
 pss_nil)
 (pss_cons (ps_if (PW.pt (pw_or (pt_not (pt_val (pe_cl (ok__serve (K := K) (mg := mg) (base := base) T) (hr.mono (by decide)) rfl (pa_cons (pv 2) (pa_cons (pv 0) (pa_cons (pv 1) pa_nil)))))) (pw_or1 (pt_cmpR (neK K hr.units) (pv 3) (pe_cl (ok__formed_rows (K := K) (mg := mg) (base := base) T) (hr.mono (by decide)) rfl (pa_cons (pv 0) (pa_cons (pv 1) pa_nil))) (nomark _)))))
 (pss_one (ps_ret (by exact pe_bl)))
 pss_nil)
 (pss_cons (ps_set (i := 4) sc_check_lengths.nd rfl (Or.inl rfl) (by exact (pe_slice (slK K) (pe_ix (ixl K) (pv 3) pe_int (fun _ _ => rfl)) po_none (po_some (pe_cl (ok__taken_from_first (K := K) (mg := mg) (base := base) T) (hr.mono (by decide)) rfl (pa_cons (pv 0) pa_nil))))))
 (pss_one (ps_ret (by exact (pe_cmpR op_eq (pe_cl (ok_cost (K := K) (mg := mg) (base := base) T) (hr.mono (by decide)) rfl (pa_cons (pv 2) (pa_cons (pv 0) pa_nil))) (pe_callB (sumK K rfl) rfl T.b_sum (by decide +kernel) (pa_cons (pe_lc (own := [("value", 5), ("_", 6)]) (g := (gTup K 2 (gCons (gName 5) (gCons (gName 6) gNil)))) (tt := tYes) rfl sc_check_lengths.nd (pi_list (pv 4)) (blkOk_by (own := [("value", 5), ("_", 6)]) (N := N_check_lengths) (sc := defScope s_check_lengths) (by decide +kernel)) (fun _ _ _ _ _ => (pg_tupK K 2 rfl (pgs_cons (pg_name (i := 5) sc_check_lengths.nd rfl (Or.inl rfl)) (pgs_cons (pg_name (i := 6) sc_check_lengths.nd rfl (Or.inl rfl)) pgs_nil)))) (fun _ _ _ _ _ => pts_nil) (fun _ _ _ _ _ => (pv 5))) pa_nil)) (nomark _))))))))), ?_⟩), gm, F.kp, F.bindsN (fun _ _ _ _ _ _ us hl => match us, hl with | [_, _, _, _], _ => rfl), .nil⟩
  · first | (obtain ⟨rfl, _⟩ := h; rfl) | (obtain ⟨_, rfl, _⟩ := h; rfl) | (obtain ⟨_, _, rfl, _⟩ := h; rfl) | (obtain ⟨_, _, _, rfl, _⟩ := h; rfl) | (obtain ⟨_, _, _, _, rfl, _⟩ := h; rfl) | (obtain ⟨_, _, _, _, _, rfl, _⟩ := h; rfl) | (obtain ⟨_, _, _, _, _, _, rfl, _⟩ := h; rfl) | (obtain ⟨_, _, _, _, _, _, _, rfl, _⟩ := h; rfl) | (obtain ⟨_, _, _, _, _, _, _, _, rfl, _⟩ := h; rfl) | (obtain ⟨_, _, _, _, _, _, _, _, _, rfl, _⟩ := h; rfl) | (obtain ⟨_, _, _, _, _, _, _, _, _, _, rfl, _⟩ := h; rfl) | (obtain ⟨_, _, _, _, _, _, _, _, _, _, _, rfl, _⟩ := h; rfl) | (obtain ⟨_, _, _, _, _, _, _, _, _, _, _, _, rfl, _⟩ := h; rfl) | (obtain ⟨_, _, _, _, _, _, _, _, _, _, _, _, _, rfl, _⟩ := h; rfl) | (obtain ⟨_, _, _, _, _, _, _, _, _, _, _, _, _, _, rfl, _⟩ := h; rfl) | (obtain ⟨_, _, _, _, _, _, _, _, _, _, _, _, _, _, _, rfl, _⟩ := h; rfl) | (obtain ⟨_, _, _, _, _, _, _, _, _, _, _, _, _, _, _, _, rfl, _⟩ := h; rfl) | (obtain ⟨_, _, _, _, _, _, _, _, _, _, _, _, _, _, _, _, _, rfl, _⟩ := h; rfl) | (obtain ⟨_, _, _, _, _, _, _, _, _, _, _, _, _, _, _, _, _, _, rfl, _⟩ := h; rfl) | (obtain ⟨_, _, _, _, _, _, _, _, _, _, _, _, _, _, _, _, _, _, _, rfl, _⟩ := h; rfl) | (obtain ⟨_, _, _, _, _, _, _, _, _, _, _, _, _, _, _, _, _, _, _, _, rfl, _⟩ := h; rfl) | (obtain ⟨_, _, _, _, _, _, _, _, _, _, _, _, _, _, _, _, _, _, _, _, _, rfl, _⟩ := h; rfl)
  · obtain ⟨a, b, r, cs, ls, m, pl, rfl, hS, hB, hR, hP, hl, hT, e1, e2, q⟩ := h
    k_call_by "xo" st_check_lengths
    have hS' := del_sqL hT hS
    have hB' := del_sqL hT hB
    have hR' := del_sqL hT hR
    have hP' : ∀ q ∈ pl, SqL K (delL H [tabP K]) q.1 q.2.1 ∧ ImmL K (delL H [tabP K]) q.2.1 (q.2.2.map tI2) := fun q hq => ⟨del_sqL hT (hP q hq).1, del_imms hT (hP q hq).2⟩
    wtm_at "oo"
    refine ⟨a, cs, m, rfl, hS, e1, fun m1 m2 hok H1 M => ?_, e2⟩
    have hT1 : TabS H1 (tabP K) qLam := hT.ext M.same
    have L1 : Own K (delL H [tabP K]) H1 [.tab (tabP K)] := (Own.startT (K := K) hT).call M.same
    have q := q m1 m2 hok
    clear M e1 e2
    wtm_at "oo"
    refine ⟨a, cs, rfl, L1.sq hS', ?_⟩
    wtm_at "oo"
    have dqR : ∀ H' l, Own K (delL H [tabP K]) H' l → Dq K H' (.ref r) (dRR (rC pl)) := fun H' l L => dq_rowsS (L.sq hR') fun q hq => ⟨L.sq (hP' q hq).1, ImmL.mono (fun _ _ g => L.sqT g) (hP' q hq).2⟩
    refine sel_d (fun c => ?_) (fun c => ?_)
    · have eC : Chk cs m ls (rC pl) ↔ (rC pl = [] ∧ ls = noRows cs) := by
        unfold Chk
        rw [if_pos (by omega)]
      wtm_at "oo"
      rename_i z1 G1 L2
      refine eqd_rows (dqR _ _ L2) (dq_noRows (by wtm_at "qo")) ?_
      wtm_at "oo"
      refine selE_d (fun c1 => ?_) (fun c1 => ?_)
      · wtm_at "oo"
        refine ⟨a, cs, rfl, L2.sq hS', by omega, fun p2 H2 M2 => ?_⟩
        have L3 := L2.c1 M2
        clear M2
        wtm_at "oo"
        refine q _ _ ?_ (L3.pickA (by wtm_at "pa"))
        rw [eC]
        exact ⟨fun e => ⟨c1, of_decide_eq_true e⟩, fun e => decide_eq_true e.2⟩
      · wtm_at "oo"
        exact q false _ ⟨fun e => (by cases e), fun e => absurd (eC.mp e).1 c1⟩ (L2.pickA (by wtm_at "pa"))
    · have eC : Chk cs m ls (rC pl) ↔ (ServeL ls cs m ∧ rC pl = formed cs m.toNat ∧ prodS ls cs = sv ((rowN cs (m.toNat - 1)).take (2 * usedN cs - 2))) := by
        unfold Chk
        rw [if_neg (by omega)]
      wtm_at "oo"
      refine ⟨b, a, ls, cs, m, rfl, L1.sq hB', L1.sq hS', m1, m2, hl, fun sv1 H2 hsv M2 => ?_⟩
      have L2 := L1.call M2.same
      clear M2
      wtm_at "oo"
      obtain ⟨n, rfl⟩ := Int.eq_ofNat_of_zero_le (show 0 ≤ m by omega)
      refine selT (fun c1 => ?_) (fun c1 => ?_)
      · wtm_at "oo"
        have e0 : sv1 = false := by simpa using c1
        exact q false _ ⟨fun e => (by cases e), fun e => absurd (hsv.mpr (eC.mp e).1) (by rw [e0]; decide)⟩ L2
      · have e0 : sv1 = true := by simpa using c1
        have hserve := hsv.mp e0
        wtm_at "oo"
        refine ⟨a, cs, n, rfl, L2.sq hS', by omega, by omega, L2.tabS (by wtm_at "mem"), fun p2 pl2 H3 ok2 rc2 M2 => ?_⟩
        have L3 : Own K (delL H [tabP K]) H3 [.pt p2 (.lst (rR pl2)), pRO pl2, pRI pl2, .tab (tabP K)] := L2.callT .here M2
        clear M2
        wtm_at "oo"
        refine ned_rows (dqR _ _ L3) (dq_rows ok2 L3 (by wtm_at "mem") (by wtm_at "mem") (by wtm_at "qo")) ?_
        rw [rc2]
        wtm_at "oo"
        have L4 : Own K (delL H [tabP K]) H3 [.tab (tabP K)] := L3.pickA (by wtm_at "pa")
        clear L3 L2 L1
        refine sel_nd (fun c2 => ?_) (fun c2 => ?_)
        · wtm_at "oo"
          exact q false _ ⟨fun e => (by cases e), fun e => absurd ((eC.mp e).2.1) (by rw [Int.toNat_natCast]; exact c2)⟩ L4
        · obtain ⟨t, rfl⟩ : ∃ t, n = t + 1 := ⟨n - 1, by omega⟩
          cases pl with
          | nil =>
            rw [formed_succ] at c2
            cases c2
          | cons q0 pr =>
            obtain ⟨q1, qv, qp⟩ := q0
            have eqp : qp = rowN cs t := by
              rw [formed_succ] at c2
              exact (List.cons.inj c2).1
            obtain ⟨hq1, hq2⟩ := hP' _ (.head _)
            dsimp only at hq1 hq2
            subst eqp
            have lq := hq2.len
            rw [List.length_map] at lq
            wtm_at "oo"
            refine ⟨.ref q1, (by have := atI_nat (xs := V.ref q1 :: rR pr) (j := 0) (v := .ref q1) rfl; exact this), ?_⟩
            wtm_at "oo"
            refine ⟨a, cs, rfl, L4.sq hS', ?_⟩
            wtm_at "oo"
            rename_i sl G5 L5
            rw [show 2 * (usedN cs : Int) - 2 = ((2 * usedN cs - 2 : Nat) : Int) by omega, cut_ni (by omega), Int.toNat_natCast] at L5
            have hls : ∀ l ∈ ls, 0 ≤ l ∧ l ≤ 15 := fun x hx => by
              obtain ⟨i, hi⟩ := List.mem_iff_getElem?.mp hx
              have h1 := lt_of hi
              have := hserve.2.1 i (by have := hserve.1; omega)
              unfold okS at this
              rw [getD_of hi] at this
              omega
            refine ⟨b, a, ls, cs, rfl, L5.sq hB', L5.sq hS', hserve.1, by omega, hls, fun H6 M6 => ?_⟩
            have L6 := L5.call M6.same
            clear M6 L5 L4
            wtm_at "oo"
            have himB : ImmL K (delL H [tabP K]) (qv.take (2 * usedN cs - 2)) (((rowN cs t).take (2 * usedN cs - 2)).map tI2) := by
              rw [List.map_take]
              exact ImmL.take _ hq2
            generalize hps : (rowN cs t).take (2 * usedN cs - 2) = ps at *
            generalize qv.take (2 * usedN cs - 2) = us at *
            have lup := himB.len
            rw [List.length_map] at lup
            have lpp : ps.length ≤ 800 := by
              have := rowN_len (cs := cs) t
              rw [← hps, List.length_take]
              omega
            intro D hD
            refine comp_list (xs := us) (fun i H' => Own K (delL H [tabP K]) H' [pI D ((ps.take i).map Prod.fst), .pt sl (.lst us), .tab (tabP K)]) (L6.new hD _) (fun i H' _ h => SqL.of (h.get (by wtm_at "mem"))) ?_ ?_
            · rintro i x H7 hx L7
              obtain ⟨d, hd, hi⟩ := ImmL.get (ImmL.mono (fun _ _ g => L7.sqT g) himB) hx
              rw [List.getElem?_map] at hd
              obtain ⟨it, hit, rfl⟩ := Option.map_eq_some_iff.mp hd
              obtain ⟨r7, rfl, hr2⟩ := Imm.of_ints (ns := [it.1, it.2]) hi
              wtm_at "oo"
              have hit2 : (ps.map Prod.fst)[i]? = some it.1 := by
                rw [List.getElem?_map, hit]
                rfl
              have hip : i < ps.length := by
                apply Decidable.byContradiction
                intro z
                rw [List.getElem?_eq_none (by omega)] at hit
                cases hit
              rw [if_pos trivial]
              refine ⟨_, L7.get (.head _), by rw [List.length_map, List.length_map, List.length_take, sizeLine_eq]; omega, ?_⟩
              have L8 := L7.put (o' := .lst ((((ps.take i).map Prod.fst).map V.int) ++ [V.int it.1])) rfl .here
              have e8 : (ps.take (i + 1)).map Prod.fst = (ps.take i).map Prod.fst ++ [it.1] := by
                rw [List.map_take, List.map_take, List.take_add_one, hit2]
                rfl
              rw [e8]
              show Own K _ _ (As.pt D (.lst ((_ ++ [it.1]).map V.int)) :: _)
              rw [List.map_append]
              exact L8
            · rintro H7 L7
              rw [lup, List.take_length] at L7
              wtm_at "oo"
              refine q _ _ ?_ (L7.pickA (by wtm_at "pa"))
              rw [eC]
              rw [Int.toNat_natCast, Nat.add_sub_cancel, hps]
              exact ⟨fun e => ⟨hserve, c2, of_decide_eq_true e⟩, fun e => decide_eq_true e.2.2⟩


end
end K13

namespace K13
open PySem PySem.Spec PyProof.Rows L2 Bel LamX
local macro_rules | `(tactic| wtm_at "xs") => `(tactic| simp only [x_next, x_seq, x_brk, x_cont, x_drop, x_ret, x_retN, x_if, sel_t, sel_f, selE_t, selE_f, selT_t, selT_f, selC_t, selC_f, x_test, x_tB, x_op, x_un, x_var, x_c, x_cb, x_nil, x_cons, x_rI, x_rI0, x_rU, x_rEq, x_rNe, x_rIxL, x_rIxT, x_rSlL, x_rCat, x_rRep, x_rApp, x_bm, x_bm0, x_sl, x_nopart, x_part, x_tup, x_lst, x_call, x_callS, x_asg, x_gname, x_gtup, x_gnil, x_gcons, x_gsub, x_setL, x_aug, x_ipI, x_ipC, x_bits, x_getL, x_augS, x_and, x_or, x_not, x_k, x_andV, x_orV, x_notV, x_ife, x_chain, x_for, x_ilist, x_itup, x_ienum, x_irng1, x_irng2, x_irev, x_lc, x_yes, wipe_nil, wipe_cons, List.map_cons, List.map_nil, x_misc, x_misc2, x_rz, lookup_at, Bool.not_true, Bool.not_false, decide_true, decide_false, not_true, not_false_eq_true, and_assoc, exists_and_left, exists_eq_left', exists_eq_left, exists_eq', exists_eq_right', exists_eq_right, V.int.injEq, V.ref.injEq, V.bl.injEq, V.str.injEq, List.cons.injEq, and_true, true_and, and_self, Option.some.injEq, List.cons_append, List.nil_append, List.append_nil, List.getElem?_cons_zero, List.getElem?_cons_succ, List.set_cons_zero, List.set_cons_succ, reduceCtorEq, false_and, and_false, exists_false, exists_const, or_false, false_or, scal_ii, scal_bb, scal_ss, List.length_cons, List.length_nil, Int.reduceToNat, Int.reducePow])
local macro_rules | `(tactic| k_call_by "xs" $h:term) => `(tactic| simp only [$h:term, x_next, x_seq, x_brk, x_cont, x_drop, x_ret, x_retN, x_if, sel_t, sel_f, selE_t, selE_f, selT_t, selT_f, selC_t, selC_f, x_test, x_tB, x_op, x_un, x_var, x_c, x_cb, x_nil, x_cons, x_rI, x_rI0, x_rU, x_rEq, x_rNe, x_rIxL, x_rIxT, x_rSlL, x_rCat, x_rRep, x_rApp, x_bm, x_bm0, x_sl, x_nopart, x_part, x_tup, x_lst, x_call, x_callS, x_asg, x_gname, x_gtup, x_gnil, x_gcons, x_gsub, x_setL, x_aug, x_ipI, x_ipC, x_bits, x_getL, x_augS, x_and, x_or, x_not, x_k, x_andV, x_orV, x_notV, x_ife, x_chain, x_for, x_ilist, x_itup, x_ienum, x_irng1, x_irng2, x_irev, x_lc, x_yes, wipe_nil, wipe_cons, List.map_cons, List.map_nil, x_misc, x_misc2, x_rz, lookup_at, Bool.not_true, Bool.not_false, decide_true, decide_false, not_true, not_false_eq_true, and_assoc, exists_and_left, exists_eq_left', exists_eq_left, exists_eq', exists_eq_right', exists_eq_right, V.int.injEq, V.ref.injEq, V.bl.injEq, V.str.injEq, List.cons.injEq, and_true, true_and, and_self, Option.some.injEq, List.cons_append, List.nil_append, List.append_nil, List.getElem?_cons_zero, List.getElem?_cons_succ, List.set_cons_zero, List.set_cons_succ, reduceCtorEq, false_and, and_false, exists_false, exists_const, or_false, false_or, scal_ii, scal_bb, scal_ss, List.length_cons, List.length_nil, Int.reduceToNat, Int.reducePow])
local macro_rules | `(tactic| wtm_at "hp") => `(tactic| first | (with_reducible assumption) | exact upd_same | (refine upd_keep (by with_reducible assumption) ?_; wtm_at "hp") | (refine Same.get (by with_reducible assumption) ?_; wtm_at "hp") | (refine upd_other (by first | (with_reducible assumption) | exact Ne.symm (by with_reducible assumption)) ?_; wtm_at "hp"))
local macro_rules | `(tactic| wtm_at "sq") => `(tactic| first | (with_reducible assumption) | exact SqL.of (by wtm_at "hp") | exact SqT.of (by wtm_at "hp") | (refine Same.seq (same_upd (by with_reducible assumption)) ?_; wtm_at "sq") | (refine Same.seq (by with_reducible assumption) ?_; wtm_at "sq") | (refine Same.seqT (same_upd (by with_reducible assumption)) ?_; wtm_at "sq") | (refine Same.seqT (by with_reducible assumption) ?_; wtm_at "sq"))
local macro_rules | `(tactic| wtm_at "cl") => `(tactic| first | (with_reducible assumption) | omega | (exact cmul_r (by omega) (by omega)) | (exact cmul_l (by omega) (by omega)) | (exact cdiv_ok (by omega) (by omega)) | (exact cpow_ok (by decide)) | (exact ⟨by omega, by omega, by omega⟩) | decide | (exact ⟨by omega, by omega⟩) | (simp only [List.length_append, List.length_map, List.length_set, List.length_cons, List.length_nil, rngL_len, sizeLine_eq]; omega) | wtm_at "hp" | wtm_at "sq")
local macro_rules | `(tactic| wtm_at "pf") => `(tactic| first | (with_reducible assumption) | omega | (simp only [List.length_append, List.length_map, List.length_set, List.length_cons, List.length_nil, rngL_len]; omega) | (with_reducible rfl) | (with_reducible trivial) | (with_reducible decide))
local macro_rules | `(tactic| wtm_at "st") => `(tactic| first | ((with_reducible refine g_at ?_); refine at_call (by wtm_at "sq") (by omega) (by omega) (fun _ _ => ?_)) | ((with_reducible refine g_row ?_); refine row_call (by wtm_at "hp") ?_) | ((with_reducible refine g_int ?_); refine int_call ?_) | ((with_reducible refine g_isi ?_); first | (with_reducible refine isi_ii ?_) | (with_reducible refine isi_ib ?_) | (refine isi_int rfl ?_) | (refine isi_lst rfl (by wtm_at "hp") ?_) | (refine isi_tup rfl (by wtm_at "hp") ?_)) | ((with_reducible refine g_ned ?_); refine ned_f (dq_lst (by wtm_at "sq")) (dq_lst (by wtm_at "sq")) ?_) | ((with_reducible refine g_eqd ?_); refine eqd_t (dq_lst (by wtm_at "sq")) (dq_lst (by wtm_at "sq")) ?_) | ((with_reducible refine g_tyv ?_); refine and_tyv (by wtm_at "sq") ?_) | ((with_reducible refine g_asq ?_); refine and_sq (by wtm_at "sq") ?_) | ((with_reducible refine g_lst ?_); refine ex_lst (by wtm_at "hp") ?_) | ((with_reducible refine g_or ?_); first | (refine ex_or (by wtm_at "sq") ?_) | (refine ex_ort (by wtm_at "sq") ?_)) | ((with_reducible refine g_sq ?_); refine ex_sq (by wtm_at "sq") ?_) | ((with_reducible refine g_sqt ?_); refine ex_sqt (by wtm_at "sq") ?_) | ((with_reducible refine gd_sel ?_); first | (refine sel_p (by wtm_at "pf") ?_) | (refine sel_n (by wtm_at "pf") ?_)) | ((with_reducible refine gn_sel ?_); first | (refine selN_p (by wtm_at "pf") ?_) | (refine selN_n (by wtm_at "pf") ?_)) | ((with_reducible refine gd_selT ?_); first | (refine selT_p (by wtm_at "pf") ?_) | (refine selT_n (by wtm_at "pf") ?_)) | ((with_reducible refine gn_selT ?_); first | (refine selTN_p (by wtm_at "pf") ?_) | (refine selTN_n (by wtm_at "pf") ?_)) | ((with_reducible refine gd_selE ?_); first | (refine selE_p (by wtm_at "pf") ?_) | (refine selE_n (by wtm_at "pf") ?_)) | ((with_reducible refine gn_selE ?_); first | (refine selEN_p (by wtm_at "pf") ?_) | (refine selEN_n (by wtm_at "pf") ?_)) | ((with_reducible refine g_xf ?_); refine xf_at rfl (by wtm_at "hp") ?_) | ((with_reducible refine g_atI ?_); refine ex_at (by first | exact rfl | exact atI_int (by omega) (by wtm_at "pf") | exact atI_end (by wtm_at "pf")) ?_) | ((with_reducible refine g_and ?_); refine And.intro (by wtm_at "cl") ?_) | ((with_reducible refine g_new ?_); intro _ _))
local macro_rules | `(tactic| wtm_at "go") => `(tactic| repeat (first | wtm_at "xs" | wtm_at "st"))
local macro_rules | `(tactic| wtm_at "xo") => `(tactic| simp only [x_next, x_seq, x_brk, x_cont, x_drop, x_ret, x_retN, x_if, sel_t, sel_f, selE_t, selE_f, selT_t, selT_f, selC_t, selC_f, x_test, x_tB, x_op, x_un, x_var, x_c, x_cb, x_nil, x_cons, x_rI, x_rI0, x_rU, x_rEq, x_rNe, x_rIxL, x_rIxT, n_rSlL, n_rCat, n_rRep, n_rApp, x_bm, x_bm0, x_sl, x_nopart, x_part, n_tup, n_lst, x_call, x_callS, x_asg, x_gname, x_gtup, x_gnil, x_gcons, x_gsub, n_setL, x_aug, x_ipI, x_ipC, x_bits, x_getL, x_augS, x_and, x_or, x_not, x_k, x_andV, x_orV, x_notV, x_ife, x_chain, x_for, x_ilist, x_itup, x_ienum, x_irng1, x_irng2, x_irev, x_lc, x_yes, wipe_nil, wipe_cons, List.map_cons, List.map_nil, x_misc, x_misc2, x_rz, lookup_at, Bool.not_true, Bool.not_false, decide_true, decide_false, not_true, not_false_eq_true, and_assoc, exists_and_left, exists_eq_left', exists_eq_left, exists_eq', exists_eq_right', exists_eq_right, V.int.injEq, V.ref.injEq, V.bl.injEq, V.str.injEq, List.cons.injEq, and_true, true_and, and_self, Option.some.injEq, List.cons_append, List.nil_append, List.append_nil, List.getElem?_cons_zero, List.getElem?_cons_succ, List.set_cons_zero, List.set_cons_succ, reduceCtorEq, false_and, and_false, exists_false, exists_const, or_false, false_or, scal_ii, scal_bb, scal_ss, List.length_cons, List.length_nil, Int.reduceToNat, Int.reducePow, n_fld, n_sfld, n_aug, n_meth, n_mw, n_make, n_kw, n_rLs, n_dcp, x_sortK, n_gget, n_rLtT, n_ext, n_revL, n_rTp, t_im, ints_rev, t_s1, t_i1, t_i2, t_i3, t_i4, t_i5, x_chain3, x_irng3, x_irevR, x_rg1, x_rg2, ints_cat, ints_app1, ints_len, ints_take, ints_drop, rep_one])
local macro_rules | `(tactic| k_call_by "xo" $h:term) => `(tactic| simp only [$h:term, x_next, x_seq, x_brk, x_cont, x_drop, x_ret, x_retN, x_if, sel_t, sel_f, selE_t, selE_f, selT_t, selT_f, selC_t, selC_f, x_test, x_tB, x_op, x_un, x_var, x_c, x_cb, x_nil, x_cons, x_rI, x_rI0, x_rU, x_rEq, x_rNe, x_rIxL, x_rIxT, n_rSlL, n_rCat, n_rRep, n_rApp, x_bm, x_bm0, x_sl, x_nopart, x_part, n_tup, n_lst, x_call, x_callS, x_asg, x_gname, x_gtup, x_gnil, x_gcons, x_gsub, n_setL, x_aug, x_ipI, x_ipC, x_bits, x_getL, x_augS, x_and, x_or, x_not, x_k, x_andV, x_orV, x_notV, x_ife, x_chain, x_for, x_ilist, x_itup, x_ienum, x_irng1, x_irng2, x_irev, x_lc, x_yes, wipe_nil, wipe_cons, List.map_cons, List.map_nil, x_misc, x_misc2, x_rz, lookup_at, Bool.not_true, Bool.not_false, decide_true, decide_false, not_true, not_false_eq_true, and_assoc, exists_and_left, exists_eq_left', exists_eq_left, exists_eq', exists_eq_right', exists_eq_right, V.int.injEq, V.ref.injEq, V.bl.injEq, V.str.injEq, List.cons.injEq, and_true, true_and, and_self, Option.some.injEq, List.cons_append, List.nil_append, List.append_nil, List.getElem?_cons_zero, List.getElem?_cons_succ, List.set_cons_zero, List.set_cons_succ, reduceCtorEq, false_and, and_false, exists_false, exists_const, or_false, false_or, scal_ii, scal_bb, scal_ss, List.length_cons, List.length_nil, Int.reduceToNat, Int.reducePow, n_fld, n_sfld, n_aug, n_meth, n_mw, n_make, n_kw, n_rLs, n_dcp, x_sortK, n_gget, n_rLtT, n_ext, n_revL, n_rTp, t_im, ints_rev, t_s1, t_i1, t_i2, t_i3, t_i4, t_i5, x_chain3, x_irng3, x_irevR, x_rg1, x_rg2, ints_cat, ints_app1, ints_len, ints_take, ints_drop, rep_one])
local macro_rules | `(tactic| wtm_at "mem") => `(tactic| first | (with_reducible exact mem_here) | (with_reducible refine mem_there ?_; wtm_at "mem"))
local macro_rules | `(tactic| wtm_at "pp") => `(tactic| first | (with_reducible exact Put.here) | (with_reducible apply Put.there; wtm_at "pp"))
local macro_rules | `(tactic| wtm_at "ho") => `(tactic| first | (with_reducible assumption) | exact Own.get (by with_reducible assumption) (by wtm_at "mem") | exact Own.base (by with_reducible assumption) (by with_reducible assumption))
local macro_rules | `(tactic| wtm_at "qo") => `(tactic| first | (with_reducible assumption) | exact SqL.of (by wtm_at "ho") | exact sqT_tupI (by wtm_at "ho") | exact sqT_tupS (by wtm_at "ho") | exact SqT.of (by wtm_at "ho") | exact Own.imT (by with_reducible assumption) (by wtm_at "mem") | exact Own.sq (by with_reducible assumption) (by with_reducible assumption) | exact Own.sqT (by with_reducible assumption) (by with_reducible assumption))
local macro_rules | `(tactic| wtm_at "sub") => `(tactic| first | exact List.nil_sublist _ | (with_reducible refine List.Sublist.cons_cons _ ?_; wtm_at "sub") | (refine List.Sublist.cons _ ?_; wtm_at "sub"))
local macro_rules | `(tactic| wtm_at "co") => `(tactic| first | (with_reducible assumption) | omega | (exact cmul_r (by omega) (by omega)) | (exact cmul_l (by omega) (by omega)) | (exact cdiv_ok (by omega) (by omega)) | (exact cpow_ok (by decide)) | (exact ⟨by omega, by omega, by omega⟩) | decide | (exact ⟨by omega, by omega⟩) | (simp only [List.length_append, List.length_map, List.length_set, List.length_cons, List.length_nil, rngL_len, sizeLine_eq]; omega) | wtm_at "ho" | wtm_at "qo")
local macro_rules | `(tactic| wtm_at "so") => `(tactic| first | ((with_reducible refine g_dcp ?_); refine dcpI (by wtm_at "ho") ?_) | ((with_reducible refine g_asl ?_); refine And.intro (by rfl) ?_) | ((with_reducible refine g_asqT ?_); refine and_sqT (by wtm_at "qo") ?_) | ((with_reducible refine g_extO ?_); first | (refine extI (by with_reducible assumption) (by wtm_at "pp") (by wtm_at "co") (fun _ _ => ?_)) | (refine extO (by with_reducible assumption) (by wtm_at "pp") (by wtm_at "co") (fun _ _ => ?_))) | ((with_reducible refine g_tp ?_); first | (refine tp_l (by wtm_at "qo") ?_) | (refine tp_t (by wtm_at "qo") ?_)) | ((with_reducible refine g_fldO ?_); refine fldO (by wtm_at "ho") (by with_reducible assumption) (by wtm_at "mem") (by wtm_at "lk") ?_) | ((with_reducible refine g_fldC ?_); refine fldC (by wtm_at "ho") (by with_reducible assumption) (by wtm_at "mem") (by wtm_at "lk") ?_) | ((with_reducible refine g_putC ?_); refine putC (by with_reducible assumption) (by wtm_at "pp") (by wtm_at "pu") (by wtm_at "co") (fun _ _ => ?_)) | ((with_reducible refine g_stoO ?_); refine stoO (by with_reducible assumption) (by wtm_at "pp") (by wtm_at "pu") (by with_reducible assumption) (by wtm_at "mem") (by wtm_at "co") (fun _ _ => ?_)) | ((with_reducible refine g_metO ?_); refine metO (by wtm_at "ho") (by wtm_at "ln") ?_) | ((with_reducible refine g_makO ?_); refine makO (by with_reducible assumption) (fun _ _ _ _ => ?_)) | ((with_reducible refine g_sum ?_); refine sum_call (by wtm_at "qo") ?_) | ((with_reducible refine g_cq ?_); exact cq (by with_reducible assumption) (by simp only [rngL_len, List.length_map, List.length_take]; omega)) | ((with_reducible refine g_newO ?_); refine newO (by with_reducible assumption) (fun _ _ _ => ?_)) | ((with_reducible refine g_appO ?_); refine appI (by with_reducible assumption) (by wtm_at "pp") (by wtm_at "co") (fun _ _ => ?_)) | ((with_reducible refine g_setO ?_); refine setI (by with_reducible assumption) (by wtm_at "pp") (by omega) (by wtm_at "co") (fun _ _ => ?_)) | ((with_reducible refine g_appO ?_); refine appO (by with_reducible assumption) (by wtm_at "pp") (by wtm_at "co") (fun _ _ => ?_)) | ((with_reducible refine g_setO ?_); refine setO (by with_reducible assumption) (by wtm_at "pp") (by omega) (by wtm_at "co") (fun _ _ => ?_)) | ((with_reducible refine g_at ?_); refine at_call (by wtm_at "qo") (by omega) (by omega) (fun _ _ => ?_)) | ((with_reducible refine g_row ?_); refine row_call (by wtm_at "ho") ?_) | ((with_reducible refine g_int ?_); refine int_call ?_) | ((with_reducible refine g_isi ?_); first | (with_reducible refine isi_ii ?_) | (with_reducible refine isi_ib ?_) | (refine isi_int rfl ?_) | (refine isi_sqL rfl (by wtm_at "qo") ?_) | (refine isi_sqT rfl (by wtm_at "qo") ?_) | (refine isi_bl rfl ?_) | (refine isi_non rfl ?_) | (refine isi_str rfl ?_)) | ((with_reducible refine g_ned ?_); first | (refine ned_f (dq_lst (by wtm_at "qo")) (dq_lst (by wtm_at "qo")) ?_) | (refine ned_ints (by wtm_at "qo") (by wtm_at "qo") ?_) | (refine nedT_ints (by wtm_at "qo") (by wtm_at "qo") ?_)) | ((with_reducible refine g_eqd ?_); first | (refine eqd_t (dq_lst (by wtm_at "qo")) (dq_lst (by wtm_at "qo")) ?_) | (refine eqd_ints (by wtm_at "qo") (by wtm_at "qo") ?_) | (refine eqdT_ints (by wtm_at "qo") (by wtm_at "qo") ?_)) | ((with_reducible refine g_tyv ?_); refine and_tyv (by wtm_at "qo") ?_) | ((with_reducible refine g_asq ?_); refine and_sq (by wtm_at "qo") ?_) | ((with_reducible refine g_lst ?_); refine ex_lst (by wtm_at "ho") ?_) | ((with_reducible refine g_or ?_); first | (refine ex_or (by wtm_at "qo") ?_) | (refine ex_ort (by wtm_at "qo") ?_)) | ((with_reducible refine g_sq ?_); refine ex_sq (by wtm_at "qo") ?_) | ((with_reducible refine g_sqt ?_); refine ex_sqt (by wtm_at "qo") ?_) | ((with_reducible refine gd_sel ?_); first | (refine sel_p (by wtm_at "pf") ?_) | (refine sel_n (by wtm_at "pf") ?_)) | ((with_reducible refine gn_sel ?_); first | (refine selN_p (by wtm_at "pf") ?_) | (refine selN_n (by wtm_at "pf") ?_)) | ((with_reducible refine gd_selT ?_); first | (refine selT_p (by wtm_at "pf") ?_) | (refine selT_n (by wtm_at "pf") ?_)) | ((with_reducible refine gn_selT ?_); first | (refine selTN_p (by wtm_at "pf") ?_) | (refine selTN_n (by wtm_at "pf") ?_)) | ((with_reducible refine gd_selE ?_); first | (refine selE_p (by wtm_at "pf") ?_) | (refine selE_n (by wtm_at "pf") ?_)) | ((with_reducible refine gn_selE ?_); first | (refine selEN_p (by wtm_at "pf") ?_) | (refine selEN_n (by wtm_at "pf") ?_)) | ((with_reducible refine g_xf ?_); refine xf_at rfl (by wtm_at "ho") ?_) | ((with_reducible refine g_atI ?_); refine ex_at (by first | exact rfl | exact atI_int (by omega) (by wtm_at "pf") | exact atI_end (by wtm_at "pf")) ?_) | ((with_reducible refine g_and ?_); refine And.intro (by wtm_at "co") ?_))
local macro_rules | `(tactic| wtm_at "oo") => `(tactic| repeat (first | wtm_at "xo" | wtm_at "so"))
local macro_rules | `(tactic| wtm_at "cR") => `(tactic| (refine' compRi _ (by with_reducible assumption) (by omega) (fun _ _ _ _ _ => ?_) (fun _ _ _ => ?_); rotate_left; focus (wtm_at "oo")))

local macro_rules | `(tactic| wtm_at "lk") => `(tactic| first | (with_reducible exact lk_here) | (simp only [lk_here, lk_skip, lk_nil]; first | done | exact rfl))
local macro_rules | `(tactic| wtm_at "ln") => `(tactic| first | (with_reducible exact lk_nil) | (simp only [lk_skip, lk_nil]; done))
local macro_rules | `(tactic| wtm_at "pu") => `(tactic| first | (with_reducible exact pf_nil) | (simp only [pf_nil, pf_here, pf_skip]; first | done | exact rfl))
local macro_rules | `(tactic| wtm_at "tk") => `(tactic| first | (with_reducible exact Take.here) | (exact Take.here) | ((with_reducible apply Take.there); wtm_at "tk"))
local macro_rules | `(tactic| wtm_at "pk") => `(tactic| first | exact Pick.nil | ((with_reducible refine' Pick.cons ?tk1 ?pk1); (case tk1 => wtm_at "tk"); (case pk1 => wtm_at "pk")) | ((with_reducible refine Pick.im (by wtm_at "mem") ?_); wtm_at "pk") | ((with_reducible refine Pick.ims (by wtm_at "mem") ?_); wtm_at "pk"))

local macro_rules | `(tactic| wtm_at "ta") => `(tactic| first | (with_reducible exact TakeA.here) | ((with_reducible apply TakeA.there); wtm_at "ta"))
local macro_rules | `(tactic| wtm_at "tb") => `(tactic| first | (exact TakeA.here) | ((with_reducible apply TakeA.there); wtm_at "tb"))
local macro_rules | `(tactic| wtm_at "pa") => `(tactic| first | exact PickA.nil | ((with_reducible refine PickA.im (by wtm_at "mem") ?_); wtm_at "pa") | ((with_reducible refine PickA.ims (by wtm_at "mem") ?_); wtm_at "pa") | ((with_reducible refine' PickA.any ?tk1 ?pk1); (case tk1 => first | wtm_at "ta" | wtm_at "tb"); (case pk1 => wtm_at "pa")))
section
variable {P : Program} {w : World} {K : PySem.W.Frag} {mg : Str → Option Value} {base : Heap} [TBC K mg base]
theorem wt_of {l : Int} (h : 0 < l) : wt l = 32768 / 2 ^ l.toNat := if_neg (by omega)
theorem used_filter {cs : List Int} (h : ∀ x ∈ cs, 0 ≤ x) : (cs.filter fun x => decide (0 < x)).length = usedN cs := by
  unfold usedN
  induction cs with
  | nil => rfl
  | cons x r ih =>
    have h0 := h x (.head _)
    have ih := ih fun y hy => h y (.tail _ hy)
    have hc := List.count_le_length (a := (0 : Int)) (l := r)
    by_cases c : 0 < x
    · rw [List.filter_cons_of_pos (by simpa using c), List.length_cons, ih, List.length_cons, List.count_cons_of_ne (by omega)]
      omega
    · have e : x = 0 := by omega
      subst e
      rw [List.filter_cons_of_neg (by simp), ih, List.length_cons, List.count_cons_self]
      omega


end
end K13

namespace K13
open PySem PySem.Spec PyProof.Rows L2 Bel LamX
local macro_rules | `(tactic| wtm_at "xs") => `(tactic| simp only [x_next, x_seq, x_brk, x_cont, x_drop, x_ret, x_retN, x_if, sel_t, sel_f, selE_t, selE_f, selT_t, selT_f, selC_t, selC_f, x_test, x_tB, x_op, x_un, x_var, x_c, x_cb, x_nil, x_cons, x_rI, x_rI0, x_rU, x_rEq, x_rNe, x_rIxL, x_rIxT, x_rSlL, x_rCat, x_rRep, x_rApp, x_bm, x_bm0, x_sl, x_nopart, x_part, x_tup, x_lst, x_call, x_callS, x_asg, x_gname, x_gtup, x_gnil, x_gcons, x_gsub, x_setL, x_aug, x_ipI, x_ipC, x_bits, x_getL, x_augS, x_and, x_or, x_not, x_k, x_andV, x_orV, x_notV, x_ife, x_chain, x_for, x_ilist, x_itup, x_ienum, x_irng1, x_irng2, x_irev, x_lc, x_yes, wipe_nil, wipe_cons, List.map_cons, List.map_nil, x_misc, x_misc2, x_rz, lookup_at, Bool.not_true, Bool.not_false, decide_true, decide_false, not_true, not_false_eq_true, and_assoc, exists_and_left, exists_eq_left', exists_eq_left, exists_eq', exists_eq_right', exists_eq_right, V.int.injEq, V.ref.injEq, V.bl.injEq, V.str.injEq, List.cons.injEq, and_true, true_and, and_self, Option.some.injEq, List.cons_append, List.nil_append, List.append_nil, List.getElem?_cons_zero, List.getElem?_cons_succ, List.set_cons_zero, List.set_cons_succ, reduceCtorEq, false_and, and_false, exists_false, exists_const, or_false, false_or, scal_ii, scal_bb, scal_ss, List.length_cons, List.length_nil, Int.reduceToNat, Int.reducePow])
local macro_rules | `(tactic| k_call_by "xs" $h:term) => `(tactic| simp only [$h:term, x_next, x_seq, x_brk, x_cont, x_drop, x_ret, x_retN, x_if, sel_t, sel_f, selE_t, selE_f, selT_t, selT_f, selC_t, selC_f, x_test, x_tB, x_op, x_un, x_var, x_c, x_cb, x_nil, x_cons, x_rI, x_rI0, x_rU, x_rEq, x_rNe, x_rIxL, x_rIxT, x_rSlL, x_rCat, x_rRep, x_rApp, x_bm, x_bm0, x_sl, x_nopart, x_part, x_tup, x_lst, x_call, x_callS, x_asg, x_gname, x_gtup, x_gnil, x_gcons, x_gsub, x_setL, x_aug, x_ipI, x_ipC, x_bits, x_getL, x_augS, x_and, x_or, x_not, x_k, x_andV, x_orV, x_notV, x_ife, x_chain, x_for, x_ilist, x_itup, x_ienum, x_irng1, x_irng2, x_irev, x_lc, x_yes, wipe_nil, wipe_cons, List.map_cons, List.map_nil, x_misc, x_misc2, x_rz, lookup_at, Bool.not_true, Bool.not_false, decide_true, decide_false, not_true, not_false_eq_true, and_assoc, exists_and_left, exists_eq_left', exists_eq_left, exists_eq', exists_eq_right', exists_eq_right, V.int.injEq, V.ref.injEq, V.bl.injEq, V.str.injEq, List.cons.injEq, and_true, true_and, and_self, Option.some.injEq, List.cons_append, List.nil_append, List.append_nil, List.getElem?_cons_zero, List.getElem?_cons_succ, List.set_cons_zero, List.set_cons_succ, reduceCtorEq, false_and, and_false, exists_false, exists_const, or_false, false_or, scal_ii, scal_bb, scal_ss, List.length_cons, List.length_nil, Int.reduceToNat, Int.reducePow])
local macro_rules | `(tactic| wtm_at "hp") => `(tactic| first | (with_reducible assumption) | exact upd_same | (refine upd_keep (by with_reducible assumption) ?_; wtm_at "hp") | (refine Same.get (by with_reducible assumption) ?_; wtm_at "hp") | (refine upd_other (by first | (with_reducible assumption) | exact Ne.symm (by with_reducible assumption)) ?_; wtm_at "hp"))
local macro_rules | `(tactic| wtm_at "sq") => `(tactic| first | (with_reducible assumption) | exact SqL.of (by wtm_at "hp") | exact SqT.of (by wtm_at "hp") | (refine Same.seq (same_upd (by with_reducible assumption)) ?_; wtm_at "sq") | (refine Same.seq (by with_reducible assumption) ?_; wtm_at "sq") | (refine Same.seqT (same_upd (by with_reducible assumption)) ?_; wtm_at "sq") | (refine Same.seqT (by with_reducible assumption) ?_; wtm_at "sq"))
local macro_rules | `(tactic| wtm_at "cl") => `(tactic| first | (with_reducible assumption) | omega | (exact cmul_r (by omega) (by omega)) | (exact cmul_l (by omega) (by omega)) | (exact cdiv_ok (by omega) (by omega)) | (exact cpow_ok (by decide)) | (exact ⟨by omega, by omega, by omega⟩) | decide | (exact ⟨by omega, by omega⟩) | (simp only [List.length_append, List.length_map, List.length_set, List.length_cons, List.length_nil, rngL_len, sizeLine_eq]; omega) | wtm_at "hp" | wtm_at "sq")
local macro_rules | `(tactic| wtm_at "pf") => `(tactic| first | (with_reducible assumption) | omega | (simp only [List.length_append, List.length_map, List.length_set, List.length_cons, List.length_nil, rngL_len]; omega) | (with_reducible rfl) | (with_reducible trivial) | (with_reducible decide))
local macro_rules | `(tactic| wtm_at "st") => `(tactic| first | ((with_reducible refine g_at ?_); refine at_call (by wtm_at "sq") (by omega) (by omega) (fun _ _ => ?_)) | ((with_reducible refine g_row ?_); refine row_call (by wtm_at "hp") ?_) | ((with_reducible refine g_int ?_); refine int_call ?_) | ((with_reducible refine g_isi ?_); first | (with_reducible refine isi_ii ?_) | (with_reducible refine isi_ib ?_) | (refine isi_int rfl ?_) | (refine isi_lst rfl (by wtm_at "hp") ?_) | (refine isi_tup rfl (by wtm_at "hp") ?_)) | ((with_reducible refine g_ned ?_); refine ned_f (dq_lst (by wtm_at "sq")) (dq_lst (by wtm_at "sq")) ?_) | ((with_reducible refine g_eqd ?_); refine eqd_t (dq_lst (by wtm_at "sq")) (dq_lst (by wtm_at "sq")) ?_) | ((with_reducible refine g_tyv ?_); refine and_tyv (by wtm_at "sq") ?_) | ((with_reducible refine g_asq ?_); refine and_sq (by wtm_at "sq") ?_) | ((with_reducible refine g_lst ?_); refine ex_lst (by wtm_at "hp") ?_) | ((with_reducible refine g_or ?_); first | (refine ex_or (by wtm_at "sq") ?_) | (refine ex_ort (by wtm_at "sq") ?_)) | ((with_reducible refine g_sq ?_); refine ex_sq (by wtm_at "sq") ?_) | ((with_reducible refine g_sqt ?_); refine ex_sqt (by wtm_at "sq") ?_) | ((with_reducible refine gd_sel ?_); first | (refine sel_p (by wtm_at "pf") ?_) | (refine sel_n (by wtm_at "pf") ?_)) | ((with_reducible refine gn_sel ?_); first | (refine selN_p (by wtm_at "pf") ?_) | (refine selN_n (by wtm_at "pf") ?_)) | ((with_reducible refine gd_selT ?_); first | (refine selT_p (by wtm_at "pf") ?_) | (refine selT_n (by wtm_at "pf") ?_)) | ((with_reducible refine gn_selT ?_); first | (refine selTN_p (by wtm_at "pf") ?_) | (refine selTN_n (by wtm_at "pf") ?_)) | ((with_reducible refine gd_selE ?_); first | (refine selE_p (by wtm_at "pf") ?_) | (refine selE_n (by wtm_at "pf") ?_)) | ((with_reducible refine gn_selE ?_); first | (refine selEN_p (by wtm_at "pf") ?_) | (refine selEN_n (by wtm_at "pf") ?_)) | ((with_reducible refine g_xf ?_); refine xf_at rfl (by wtm_at "hp") ?_) | ((with_reducible refine g_atI ?_); refine ex_at (by first | exact rfl | exact atI_int (by omega) (by wtm_at "pf") | exact atI_end (by wtm_at "pf")) ?_) | ((with_reducible refine g_and ?_); refine And.intro (by wtm_at "cl") ?_) | ((with_reducible refine g_new ?_); intro _ _))
local macro_rules | `(tactic| wtm_at "go") => `(tactic| repeat (first | wtm_at "xs" | wtm_at "st"))
local macro_rules | `(tactic| wtm_at "xo") => `(tactic| simp only [x_next, x_seq, x_brk, x_cont, x_drop, x_ret, x_retN, x_if, sel_t, sel_f, selE_t, selE_f, selT_t, selT_f, selC_t, selC_f, x_test, x_tB, x_op, x_un, x_var, x_c, x_cb, x_nil, x_cons, x_rI, x_rI0, x_rU, x_rEq, x_rNe, x_rIxL, x_rIxT, n_rSlL, n_rCat, n_rRep, n_rApp, x_bm, x_bm0, x_sl, x_nopart, x_part, n_tup, n_lst, x_call, x_callS, x_asg, x_gname, x_gtup, x_gnil, x_gcons, x_gsub, n_setL, x_aug, x_ipI, x_ipC, x_bits, x_getL, x_augS, x_and, x_or, x_not, x_k, x_andV, x_orV, x_notV, x_ife, x_chain, x_for, x_ilist, x_itup, x_ienum, x_irng1, x_irng2, x_irev, x_lc, x_yes, wipe_nil, wipe_cons, List.map_cons, List.map_nil, x_misc, x_misc2, x_rz, lookup_at, Bool.not_true, Bool.not_false, decide_true, decide_false, not_true, not_false_eq_true, and_assoc, exists_and_left, exists_eq_left', exists_eq_left, exists_eq', exists_eq_right', exists_eq_right, V.int.injEq, V.ref.injEq, V.bl.injEq, V.str.injEq, List.cons.injEq, and_true, true_and, and_self, Option.some.injEq, List.cons_append, List.nil_append, List.append_nil, List.getElem?_cons_zero, List.getElem?_cons_succ, List.set_cons_zero, List.set_cons_succ, reduceCtorEq, false_and, and_false, exists_false, exists_const, or_false, false_or, scal_ii, scal_bb, scal_ss, List.length_cons, List.length_nil, Int.reduceToNat, Int.reducePow, n_fld, n_sfld, n_aug, n_meth, n_mw, n_make, n_kw, n_rLs, n_dcp, x_sortK, n_gget, n_rLtT, n_ext, n_revL, n_rTp, t_im, ints_rev, t_s1, t_i1, t_i2, t_i3, t_i4, t_i5, x_chain3, x_irng3, x_irevR, x_rg1, x_rg2, ints_cat, ints_app1, ints_len, ints_take, ints_drop, rep_one])
local macro_rules | `(tactic| k_call_by "xo" $h:term) => `(tactic| simp only [$h:term, x_next, x_seq, x_brk, x_cont, x_drop, x_ret, x_retN, x_if, sel_t, sel_f, selE_t, selE_f, selT_t, selT_f, selC_t, selC_f, x_test, x_tB, x_op, x_un, x_var, x_c, x_cb, x_nil, x_cons, x_rI, x_rI0, x_rU, x_rEq, x_rNe, x_rIxL, x_rIxT, n_rSlL, n_rCat, n_rRep, n_rApp, x_bm, x_bm0, x_sl, x_nopart, x_part, n_tup, n_lst, x_call, x_callS, x_asg, x_gname, x_gtup, x_gnil, x_gcons, x_gsub, n_setL, x_aug, x_ipI, x_ipC, x_bits, x_getL, x_augS, x_and, x_or, x_not, x_k, x_andV, x_orV, x_notV, x_ife, x_chain, x_for, x_ilist, x_itup, x_ienum, x_irng1, x_irng2, x_irev, x_lc, x_yes, wipe_nil, wipe_cons, List.map_cons, List.map_nil, x_misc, x_misc2, x_rz, lookup_at, Bool.not_true, Bool.not_false, decide_true, decide_false, not_true, not_false_eq_true, and_assoc, exists_and_left, exists_eq_left', exists_eq_left, exists_eq', exists_eq_right', exists_eq_right, V.int.injEq, V.ref.injEq, V.bl.injEq, V.str.injEq, List.cons.injEq, and_true, true_and, and_self, Option.some.injEq, List.cons_append, List.nil_append, List.append_nil, List.getElem?_cons_zero, List.getElem?_cons_succ, List.set_cons_zero, List.set_cons_succ, reduceCtorEq, false_and, and_false, exists_false, exists_const, or_false, false_or, scal_ii, scal_bb, scal_ss, List.length_cons, List.length_nil, Int.reduceToNat, Int.reducePow, n_fld, n_sfld, n_aug, n_meth, n_mw, n_make, n_kw, n_rLs, n_dcp, x_sortK, n_gget, n_rLtT, n_ext, n_revL, n_rTp, t_im, ints_rev, t_s1, t_i1, t_i2, t_i3, t_i4, t_i5, x_chain3, x_irng3, x_irevR, x_rg1, x_rg2, ints_cat, ints_app1, ints_len, ints_take, ints_drop, rep_one])
local macro_rules | `(tactic| wtm_at "mem") => `(tactic| first | (with_reducible exact mem_here) | (with_reducible refine mem_there ?_; wtm_at "mem"))
local macro_rules | `(tactic| wtm_at "pp") => `(tactic| first | (with_reducible exact Put.here) | (with_reducible apply Put.there; wtm_at "pp"))
local macro_rules | `(tactic| wtm_at "ho") => `(tactic| first | (with_reducible assumption) | exact Own.get (by with_reducible assumption) (by wtm_at "mem") | exact Own.base (by with_reducible assumption) (by with_reducible assumption))
local macro_rules | `(tactic| wtm_at "qo") => `(tactic| first | (with_reducible assumption) | exact SqL.of (by wtm_at "ho") | exact sqT_tupI (by wtm_at "ho") | exact sqT_tupS (by wtm_at "ho") | exact SqT.of (by wtm_at "ho") | exact Own.imT (by with_reducible assumption) (by wtm_at "mem") | exact Own.sq (by with_reducible assumption) (by with_reducible assumption) | exact Own.sqT (by with_reducible assumption) (by with_reducible assumption))
local macro_rules | `(tactic| wtm_at "sub") => `(tactic| first | exact List.nil_sublist _ | (with_reducible refine List.Sublist.cons_cons _ ?_; wtm_at "sub") | (refine List.Sublist.cons _ ?_; wtm_at "sub"))
local macro_rules | `(tactic| wtm_at "co") => `(tactic| first | (with_reducible assumption) | omega | (exact cmul_r (by omega) (by omega)) | (exact cmul_l (by omega) (by omega)) | (exact cdiv_ok (by omega) (by omega)) | (exact cpow_ok (by decide)) | (exact ⟨by omega, by omega, by omega⟩) | decide | (exact ⟨by omega, by omega⟩) | (simp only [List.length_append, List.length_map, List.length_set, List.length_cons, List.length_nil, rngL_len, sizeLine_eq]; omega) | wtm_at "ho" | wtm_at "qo")
local macro_rules | `(tactic| wtm_at "so") => `(tactic| first | ((with_reducible refine g_dcp ?_); refine dcpI (by wtm_at "ho") ?_) | ((with_reducible refine g_asl ?_); refine And.intro (by rfl) ?_) | ((with_reducible refine g_asqT ?_); refine and_sqT (by wtm_at "qo") ?_) | ((with_reducible refine g_extO ?_); first | (refine extI (by with_reducible assumption) (by wtm_at "pp") (by wtm_at "co") (fun _ _ => ?_)) | (refine extO (by with_reducible assumption) (by wtm_at "pp") (by wtm_at "co") (fun _ _ => ?_))) | ((with_reducible refine g_tp ?_); first | (refine tp_l (by wtm_at "qo") ?_) | (refine tp_t (by wtm_at "qo") ?_)) | ((with_reducible refine g_fldO ?_); refine fldO (by wtm_at "ho") (by with_reducible assumption) (by wtm_at "mem") (by wtm_at "lk") ?_) | ((with_reducible refine g_fldC ?_); refine fldC (by wtm_at "ho") (by with_reducible assumption) (by wtm_at "mem") (by wtm_at "lk") ?_) | ((with_reducible refine g_putC ?_); refine putC (by with_reducible assumption) (by wtm_at "pp") (by wtm_at "pu") (by wtm_at "co") (fun _ _ => ?_)) | ((with_reducible refine g_stoO ?_); refine stoO (by with_reducible assumption) (by wtm_at "pp") (by wtm_at "pu") (by with_reducible assumption) (by wtm_at "mem") (by wtm_at "co") (fun _ _ => ?_)) | ((with_reducible refine g_metO ?_); refine metO (by wtm_at "ho") (by wtm_at "ln") ?_) | ((with_reducible refine g_makO ?_); refine makO (by with_reducible assumption) (fun _ _ _ _ => ?_)) | ((with_reducible refine g_sum ?_); refine sum_call (by wtm_at "qo") ?_) | ((with_reducible refine g_cq ?_); exact cq (by with_reducible assumption) (by simp only [rngL_len, List.length_map, List.length_take]; omega)) | ((with_reducible refine g_newO ?_); refine newO (by with_reducible assumption) (fun _ _ _ => ?_)) | ((with_reducible refine g_appO ?_); refine appI (by with_reducible assumption) (by wtm_at "pp") (by wtm_at "co") (fun _ _ => ?_)) | ((with_reducible refine g_setO ?_); refine setI (by with_reducible assumption) (by wtm_at "pp") (by omega) (by wtm_at "co") (fun _ _ => ?_)) | ((with_reducible refine g_appO ?_); refine appO (by with_reducible assumption) (by wtm_at "pp") (by wtm_at "co") (fun _ _ => ?_)) | ((with_reducible refine g_setO ?_); refine setO (by with_reducible assumption) (by wtm_at "pp") (by omega) (by wtm_at "co") (fun _ _ => ?_)) | ((with_reducible refine g_at ?_); refine at_call (by wtm_at "qo") (by omega) (by omega) (fun _ _ => ?_)) | ((with_reducible refine g_row ?_); refine row_call (by wtm_at "ho") ?_) | ((with_reducible refine g_int ?_); refine int_call ?_) | ((with_reducible refine g_isi ?_); first | (with_reducible refine isi_ii ?_) | (with_reducible refine isi_ib ?_) | (refine isi_int rfl ?_) | (refine isi_sqL rfl (by wtm_at "qo") ?_) | (refine isi_sqT rfl (by wtm_at "qo") ?_) | (refine isi_bl rfl ?_) | (refine isi_non rfl ?_) | (refine isi_str rfl ?_)) | ((with_reducible refine g_ned ?_); first | (refine ned_f (dq_lst (by wtm_at "qo")) (dq_lst (by wtm_at "qo")) ?_) | (refine ned_ints (by wtm_at "qo") (by wtm_at "qo") ?_) | (refine nedT_ints (by wtm_at "qo") (by wtm_at "qo") ?_)) | ((with_reducible refine g_eqd ?_); first | (refine eqd_t (dq_lst (by wtm_at "qo")) (dq_lst (by wtm_at "qo")) ?_) | (refine eqd_ints (by wtm_at "qo") (by wtm_at "qo") ?_) | (refine eqdT_ints (by wtm_at "qo") (by wtm_at "qo") ?_)) | ((with_reducible refine g_tyv ?_); refine and_tyv (by wtm_at "qo") ?_) | ((with_reducible refine g_asq ?_); refine and_sq (by wtm_at "qo") ?_) | ((with_reducible refine g_lst ?_); refine ex_lst (by wtm_at "ho") ?_) | ((with_reducible refine g_or ?_); first | (refine ex_or (by wtm_at "qo") ?_) | (refine ex_ort (by wtm_at "qo") ?_)) | ((with_reducible refine g_sq ?_); refine ex_sq (by wtm_at "qo") ?_) | ((with_reducible refine g_sqt ?_); refine ex_sqt (by wtm_at "qo") ?_) | ((with_reducible refine gd_sel ?_); first | (refine sel_p (by wtm_at "pf") ?_) | (refine sel_n (by wtm_at "pf") ?_)) | ((with_reducible refine gn_sel ?_); first | (refine selN_p (by wtm_at "pf") ?_) | (refine selN_n (by wtm_at "pf") ?_)) | ((with_reducible refine gd_selT ?_); first | (refine selT_p (by wtm_at "pf") ?_) | (refine selT_n (by wtm_at "pf") ?_)) | ((with_reducible refine gn_selT ?_); first | (refine selTN_p (by wtm_at "pf") ?_) | (refine selTN_n (by wtm_at "pf") ?_)) | ((with_reducible refine gd_selE ?_); first | (refine selE_p (by wtm_at "pf") ?_) | (refine selE_n (by wtm_at "pf") ?_)) | ((with_reducible refine gn_selE ?_); first | (refine selEN_p (by wtm_at "pf") ?_) | (refine selEN_n (by wtm_at "pf") ?_)) | ((with_reducible refine g_xf ?_); refine xf_at rfl (by wtm_at "ho") ?_) | ((with_reducible refine g_atI ?_); refine ex_at (by first | exact rfl | exact atI_int (by omega) (by wtm_at "pf") | exact atI_end (by wtm_at "pf")) ?_) | ((with_reducible refine g_and ?_); refine And.intro (by wtm_at "co") ?_))
local macro_rules | `(tactic| wtm_at "oo") => `(tactic| repeat (first | wtm_at "xo" | wtm_at "so"))
local macro_rules | `(tactic| wtm_at "cR") => `(tactic| (refine' compRi _ (by with_reducible assumption) (by omega) (fun _ _ _ _ _ => ?_) (fun _ _ _ => ?_); rotate_left; focus (wtm_at "oo")))

local macro_rules | `(tactic| wtm_at "lk") => `(tactic| first | (with_reducible exact lk_here) | (simp only [lk_here, lk_skip, lk_nil]; first | done | exact rfl))
local macro_rules | `(tactic| wtm_at "ln") => `(tactic| first | (with_reducible exact lk_nil) | (simp only [lk_skip, lk_nil]; done))
local macro_rules | `(tactic| wtm_at "pu") => `(tactic| first | (with_reducible exact pf_nil) | (simp only [pf_nil, pf_here, pf_skip]; first | done | exact rfl))
local macro_rules | `(tactic| wtm_at "tk") => `(tactic| first | (with_reducible exact Take.here) | (exact Take.here) | ((with_reducible apply Take.there); wtm_at "tk"))
local macro_rules | `(tactic| wtm_at "pk") => `(tactic| first | exact Pick.nil | ((with_reducible refine' Pick.cons ?tk1 ?pk1); (case tk1 => wtm_at "tk"); (case pk1 => wtm_at "pk")) | ((with_reducible refine Pick.im (by wtm_at "mem") ?_); wtm_at "pk") | ((with_reducible refine Pick.ims (by wtm_at "mem") ?_); wtm_at "pk"))

local macro_rules | `(tactic| wtm_at "ta") => `(tactic| first | (with_reducible exact TakeA.here) | ((with_reducible apply TakeA.there); wtm_at "ta"))
local macro_rules | `(tactic| wtm_at "tb") => `(tactic| first | (exact TakeA.here) | ((with_reducible apply TakeA.there); wtm_at "tb"))
local macro_rules | `(tactic| wtm_at "pa") => `(tactic| first | exact PickA.nil | ((with_reducible refine PickA.im (by wtm_at "mem") ?_); wtm_at "pa") | ((with_reducible refine PickA.ims (by wtm_at "mem") ?_); wtm_at "pa") | ((with_reducible refine' PickA.any ?tk1 ?pk1); (case tk1 => first | wtm_at "ta" | wtm_at "tb"); (case pk1 => wtm_at "pa")))
section
variable {P : Program} {w : World} {K : PySem.W.Frag} {mg : Str → Option Value} {base : Heap} [TBC K mg base]
/-! ### sums over the counts, sums over the used symbols -/
theorem zs_to_succ {cs : List Int} {i : Nat} {f : Int × Int → Int} : zs f (symsTo cs (i + 1)) = zs f (symsTo cs i) + if 0 < cs.getD i 0 then f (cs.getD i 0, (i : Int)) else 0 := by
  show zs f (if 0 < cs.getD i 0 then symsTo cs i ++ [(cs.getD i 0, (i : Int))] else symsTo cs i) = _
  by_cases c : 0 < cs.getD i 0
  · rw [if_pos c, if_pos c, zs_app]
    congr 1
    show f _ + 0 = f _
    omega
  · rw [if_neg c, if_neg c]
    omega
theorem getD_some {xs : List Int} {i : Nat} (h : i < xs.length) : xs[i]? = some (xs.getD i 0) := by
  rw [List.getD_eq_getElem?_getD, List.getElem?_eq_getElem h]
  rfl
theorem wt_pow {m l : Int} (h1 : 1 ≤ l) (h2 : l ≤ m) (h3 : m ≤ 15) : wt l = 2 ^ (15 - m.toNat) * ((2 ^ (m.toNat - l.toNat) : Nat) : Int) := by
  obtain ⟨a, rfl⟩ := Int.eq_ofNat_of_zero_le (show 0 ≤ l by omega)
  obtain ⟨b, rfl⟩ := Int.eq_ofNat_of_zero_le (show 0 ≤ m by omega)
  rw [Int.toNat_natCast, Int.toNat_natCast, wt_of (by omega), Int.toNat_natCast, Int.natCast_pow]
  show (2 : Int) ^ 15 / 2 ^ a = 2 ^ (15 - b) * 2 ^ (b - a)
  rw [← Int.pow_add, show 15 - b + (b - a) = 15 - a by omega]
  refine Int.ediv_eq_of_eq_mul_right (Int.ne_of_gt (Int.pow_pos (by decide))) ?_
  rw [← Int.pow_add, show a + (15 - a) = 15 by omega]
theorem wts_phi {cs ls : List Int} {m : Int} (hn : ls.length = cs.length) (m2 : m ≤ 15) (hpos : ∀ x ∈ cs, 0 ≤ x) (h : ∀ j, j < cs.length → okS cs ls m j) : ∀ i, i ≤ cs.length → wts (ls.take i) = 2 ^ (15 - m.toNat) * zs (fun p => ((2 ^ (m.toNat - (ls.getD p.2.toNat 0).toNat) : Nat) : Int)) (symsTo cs i)
  | 0, _ => by
    show (0 : Int) = _ * 0
    rw [Int.mul_zero]
  | i + 1, hi => by
    have ih := wts_phi hn m2 hpos h i (by omega)
    have ho := h i (by omega)
    unfold okS at ho
    have hc := hpos _ (List.mem_of_getElem? (getD_some (xs := cs) (i := i) (by omega)))
    have es : wts (ls.take (i + 1)) = wts (ls.take i) + wt (ls.getD i 0) := by
      unfold wts
      rw [List.take_add_one, getD_some (by omega), List.map_append, List.sum_append]
      show _ + (wt _ + 0) = _
      omega
    rw [es, ih, zs_to_succ, Int.mul_add]
    congr 1
    by_cases c : 0 < cs.getD i 0
    · rw [if_pos c]
      show _ = _ * ((2 ^ (m.toNat - (ls.getD (i : Int).toNat 0).toNat) : Nat) : Int)
      rw [Int.toNat_natCast]
      exact wt_pow (by omega) (by omega) m2
    · rw [if_neg c, Int.mul_zero, ho.2.2.mpr (by omega)]
      rfl
theorem prod_cst {cs ls : List Int} (hn : ls.length = cs.length) (hpos : ∀ x ∈ cs, 0 ≤ x) : ∀ i, i ≤ cs.length → prodS (ls.take i) (cs.take i) = zs (fun p => p.1 * ls.getD p.2.toNat 0) (symsTo cs i)
  | 0, _ => rfl
  | i + 1, hi => by
    have ih := prod_cst hn hpos i (by omega)
    have hc := hpos _ (List.mem_of_getElem? (getD_some (xs := cs) (i := i) (by omega)))
    have es : prodS (ls.take (i + 1)) (cs.take (i + 1)) = prodS (ls.take i) (cs.take i) + ls.getD i 0 * cs.getD i 0 := by
      unfold prodS
      rw [take_zipWith (getD_some (by omega)) (getD_some (by omega)), List.sum_append]
      show _ + (_ + 0) = _
      omega
    rw [es, ih, zs_to_succ]
    congr 1
    by_cases c : 0 < cs.getD i 0
    · rw [if_pos c]
      show _ = cs.getD i 0 * ls.getD (i : Int).toNat 0
      rw [Int.toNat_natCast, Int.mul_comm]
    · rw [if_neg c, show cs.getD i 0 = 0 by omega, Int.mul_zero]
theorem wts_full {cs ls : List Int} {m : Nat} (hn : ls.length = cs.length) (m2 : m ≤ 15) (hpos : ∀ x ∈ cs, 0 ≤ x) (h : ∀ j, j < cs.length → okS cs ls m j) : wts ls = 2 ^ (15 - m) * phi cs m ls := by
  have := wts_phi hn (by omega) hpos h cs.length (Nat.le_refl _)
  rw [← hn, List.take_length, hn] at this
  exact this
theorem prod_full {cs ls : List Int} (hn : ls.length = cs.length) (hpos : ∀ x ∈ cs, 0 ≤ x) : prodS ls cs = cstL cs ls := by
  have := prod_cst hn hpos cs.length (Nat.le_refl _)
  rw [List.take_length, ← hn, List.take_length, hn] at this
  exact this
theorem pow15 {m : Nat} (h : m ≤ 15) : (32768 : Int) = 2 ^ (15 - m) * ((2 ^ m : Nat) : Int) := by
  rw [Int.natCast_pow]
  show (2 : Int) ^ 15 = 2 ^ (15 - m) * 2 ^ m
  rw [← Int.pow_add, show 15 - m + m = 15 by omega]
theorem phi_of {cs ls : List Int} {m : Nat} (m2 : m ≤ 15) (hpos : ∀ x ∈ cs, 0 ≤ x) (h : ServeL ls cs m) : phi cs m ls ≤ ((2 ^ m : Nat) : Int) := by
  have e := wts_full h.1 m2 hpos h.2.1
  have h3 := h.2.2
  rw [e, pow15 m2] at h3
  exact Int.le_of_mul_le_mul_left h3 (Int.pow_pos (by decide))
theorem getD_out {xs : List Int} {j : Nat} (h : xs.length ≤ j) : xs.getD j 0 = 0 := by
  rw [List.getD_eq_getElem?_getD, List.getElem?_eq_none h]
  rfl
theorem serve_in {cs ls : List Int} {m : Nat} (h : ServeL ls cs m) : ∀ j, 0 ≤ ls.getD j 0 ∧ ls.getD j 0 ≤ (m : Int) := fun j => by
  by_cases hj : j < cs.length
  · have := h.2.1 j hj
    unfold okS at this
    omega
  · rw [getD_out (by rw [h.1]; omega)]
    omega
/-- what shortest gives: it serves, it is the least -/
theorem shp_two {cs : List Int} {m : Nat} (hpos : ∀ x ∈ cs, 0 ≤ x) (m1 : 1 ≤ m) (m2 : m ≤ 15) (hu : 2 ≤ usedN cs) (hu2 : usedN cs ≤ 2 ^ m) :
    ServeL (lensS cs m).1 cs m ∧ wts (lensS cs m).1 = 32768 ∧ prodS (lensS cs m).1 cs = sv ((rowN cs (m - 1)).take (2 * usedN cs - 2)) ∧ ∀ l, ServeL l cs m → prodS (lensS cs m).1 cs ≤ prodS l cs := by
  obtain ⟨b1, b2, b3, b4, b5, b6, b7⟩ := short_best hpos m1 hu hu2
  have hok : ∀ j, j < cs.length → okS cs (lensS cs m).1 m j := fun j hj => by
    have h0 := hpos _ (List.mem_of_getElem? (getD_some hj))
    refine ⟨(b2 j).1, (b2 j).2, fun e => ?_, fun e => b3 j (by omega)⟩
    refine Classical.byContradiction fun z => ?_
    have := b4 j (by omega)
    omega
  have hw : wts (lensS cs m).1 = 32768 := by
    rw [wts_full b1 m2 hpos hok, b5, ← pow15 m2]
  have hp := prod_full b1 hpos
  refine ⟨⟨b1, hok, by omega⟩, hw, by rw [hp, b6], fun l hl => ?_⟩
  rw [hp, prod_full hl.1 hpos, b6]
  exact b7 l (serve_in hl) (phi_of m2 hpos hl)
theorem noRows_get {cs : List Int} {j : Nat} (hj : j < cs.length) : (noRows cs).getD j 0 = min (cs.getD j 0) 1 := by
  unfold noRows
  rw [List.getD_eq_getElem?_getD, List.getElem?_map, getD_some hj]
  rfl
theorem one_serve {cs : List Int} {m : Nat} (hpos : ∀ x ∈ cs, 0 ≤ x) (m1 : 1 ≤ m) (m2 : m ≤ 15) (hu : usedN cs < 2) : ServeL (noRows cs) cs m := by
  have hn : (noRows cs).length = cs.length := List.length_map ..
  have hok : ∀ j, j < cs.length → okS cs (noRows cs) m j := fun j hj => by
    have h0 := hpos _ (List.mem_of_getElem? (getD_some hj))
    unfold okS
    rw [noRows_get hj]
    omega
  refine ⟨hn, hok, ?_⟩
  rw [wts_full hn m2 hpos hok]
  have e : phi cs m (noRows cs) = (symsTo cs cs.length).length * ((2 ^ (m - 1) : Nat) : Int) := by
    unfold phi
    rw [← zs_const]
    refine zs_congr fun p hp => ?_
    obtain ⟨j, hj, h0, rfl⟩ := symsTo_of _ p hp
    show ((2 ^ (m - ((noRows cs).getD (j : Int).toNat 0).toNat) : Nat) : Int) = _
    rw [Int.toNat_natCast, noRows_get hj, show min (cs.getD j 0) 1 = 1 by omega]
    rfl
  rw [e, symsTo_used hpos, pow15 m2]
  refine Int.mul_le_mul_of_nonneg_left ?_ (Int.le_of_lt (Int.pow_pos (by decide)))
  have hp : 2 ^ m = 2 * 2 ^ (m - 1) := by
    obtain ⟨n, rfl⟩ : ∃ n, m = n + 1 := ⟨m - 1, by omega⟩
    rw [Nat.pow_succ, Nat.add_sub_cancel]
    omega
  rw [hp, ← Int.natCast_mul]
  generalize 2 ^ (m - 1) = x
  have : usedN cs * x ≤ 1 * x := Nat.mul_le_mul_right _ (by omega)
  omega
theorem one_least {cs l : List Int} {m : Nat} (hpos : ∀ x ∈ cs, 0 ≤ x) (hu : usedN cs < 2) (h : ServeL l cs m) : prodS (noRows cs) cs ≤ prodS l cs ∧ (l = noRows cs ↔ prodS l cs = prodS (noRows cs) cs) := by
  have hn : (noRows cs).length = cs.length := List.length_map ..
  have hl := symsTo_used hpos
  have key : ∀ p ∈ symsTo cs cs.length, p.1 * (noRows cs).getD p.2.toNat 0 = p.1 ∧ p.1 ≤ p.1 * l.getD p.2.toNat 0 ∧ (p.1 * l.getD p.2.toNat 0 = p.1 → l.getD p.2.toNat 0 = 1) := fun p hp => by
    obtain ⟨j, hj, h0, rfl⟩ := symsTo_of _ p hp
    have ho := h.2.1 j hj
    unfold okS at ho
    show cs.getD j 0 * (noRows cs).getD (j : Int).toNat 0 = _ ∧ _ ≤ cs.getD j 0 * l.getD (j : Int).toNat 0 ∧ (cs.getD j 0 * l.getD (j : Int).toNat 0 = _ → l.getD (j : Int).toNat 0 = 1)
    rw [Int.toNat_natCast, noRows_get hj, show min (cs.getD j 0) 1 = 1 by omega, Int.mul_one]
    refine ⟨rfl, ?_, fun e => ?_⟩
    · have := Int.mul_le_mul_of_nonneg_left (show 1 ≤ l.getD j 0 by omega) (Int.le_of_lt h0)
      omega
    · exact Int.eq_of_mul_eq_mul_left (Int.ne_of_gt h0) (by omega)
  rw [prod_full hn hpos, prod_full h.1 hpos]
  have e1 : cstL cs (noRows cs) = zs Prod.fst (symsTo cs cs.length) := zs_congr fun p hp => (key p hp).1
  have e2 : zs Prod.fst (symsTo cs cs.length) ≤ cstL cs l := zs_le fun p hp => (key p hp).2.1
  rw [e1]
  refine ⟨e2, fun e => by rw [e, e1], fun e => ?_⟩
  refine List.ext_getElem? fun j => ?_
  by_cases hj : j < cs.length
  · rw [getD_some (xs := l) (by rw [h.1]; exact hj), getD_some (xs := noRows cs) (by rw [hn]; exact hj), noRows_get hj]
    congr 1
    have ho := h.2.1 j hj
    unfold okS at ho
    have h0 := hpos _ (List.mem_of_getElem? (getD_some hj))
    by_cases c : 0 < cs.getD j 0
    · have hm := symsTo_mem cs.length j hj c
      have hone : symsTo cs cs.length = [(cs.getD j 0, (j : Int))] := by
        obtain ⟨a, b, hab⟩ := List.append_of_mem hm
        have := congrArg List.length hab
        rw [hl, List.length_append, List.length_cons] at this
        have ha : a = [] := List.length_eq_zero_iff.mp (by omega)
        have hb : b = [] := List.length_eq_zero_iff.mp (by omega)
        rw [hab, ha, hb]
        rfl
      have k3 := (key _ hm).2.2
      unfold cstL at e
      rw [hone] at e
      have e' : cs.getD j 0 * l.getD (j : Int).toNat 0 + 0 = cs.getD j 0 + 0 := e
      have k4 := k3 (by show cs.getD j 0 * l.getD (j : Int).toNat 0 = cs.getD j 0; omega)
      have k5 : l.getD (j : Int).toNat 0 = 1 := k4
      rw [Int.toNat_natCast] at k5
      omega
    · have := ho.2.2.mpr (by omega)
      omega
  · rw [List.getElem?_eq_none (by rw [h.1]; omega), List.getElem?_eq_none (by rw [hn]; omega)]
theorem shp_all {cs : List Int} {m : Nat} (hpos : ∀ x ∈ cs, 0 ≤ x) (m1 : 1 ≤ m) (m2 : m ≤ 15) (hu2 : usedN cs ≤ 2 ^ m) :
    ServeL (shp cs m) cs m ∧ (2 ≤ usedN cs → wts (shp cs m) = 32768 ∧ prodS (shp cs m) cs = sv ((rowN cs (m - 1)).take (2 * usedN cs - 2))) ∧
    ∀ l, ServeL l cs m → prodS (shp cs m) cs ≤ prodS l cs ∧ (Chk cs m l (cert cs m) ↔ prodS l cs = prodS (shp cs m) cs) := by
  by_cases c : usedN cs < 2
  · have ec : cert cs m = [] := if_pos c
    have es : shp cs m = noRows cs := if_pos ec
    rw [es, ec]
    refine ⟨one_serve hpos m1 m2 c, fun z => absurd z (by omega), fun l hl => ?_⟩
    obtain ⟨a, b⟩ := one_least hpos c hl
    refine ⟨a, ?_⟩
    unfold Chk
    rw [if_pos c, ← b]
    exact ⟨fun e => e.2, fun e => ⟨rfl, e⟩⟩
  · have ec : cert cs m = formed cs m := if_neg c
    have es : shp cs m = (lensS cs m).1 := if_neg (by
      rw [ec]
      obtain ⟨n, rfl⟩ : ∃ n, m = n + 1 := ⟨m - 1, by omega⟩
      rw [formed_succ]
      exact fun h => by cases h)
    obtain ⟨s1, s2, s3, s4⟩ := shp_two hpos m1 m2 (by omega) hu2
    rw [es, ec]
    refine ⟨s1, fun _ => ⟨s2, s3⟩, fun l hl => ⟨s4 l hl, ?_⟩⟩
    unfold Chk
    rw [if_neg c, Int.toNat_natCast, s3]
    exact ⟨fun e => e.2.2, fun e => ⟨hl, rfl, e⟩⟩


end
end K13

namespace K13
open PySem PySem.Spec PyProof.Rows L2 Bel LamX
local macro_rules | `(tactic| wtm_at "xs") => `(tactic| simp only [x_next, x_seq, x_brk, x_cont, x_drop, x_ret, x_retN, x_if, sel_t, sel_f, selE_t, selE_f, selT_t, selT_f, selC_t, selC_f, x_test, x_tB, x_op, x_un, x_var, x_c, x_cb, x_nil, x_cons, x_rI, x_rI0, x_rU, x_rEq, x_rNe, x_rIxL, x_rIxT, x_rSlL, x_rCat, x_rRep, x_rApp, x_bm, x_bm0, x_sl, x_nopart, x_part, x_tup, x_lst, x_call, x_callS, x_asg, x_gname, x_gtup, x_gnil, x_gcons, x_gsub, x_setL, x_aug, x_ipI, x_ipC, x_bits, x_getL, x_augS, x_and, x_or, x_not, x_k, x_andV, x_orV, x_notV, x_ife, x_chain, x_for, x_ilist, x_itup, x_ienum, x_irng1, x_irng2, x_irev, x_lc, x_yes, wipe_nil, wipe_cons, List.map_cons, List.map_nil, x_misc, x_misc2, x_rz, lookup_at, Bool.not_true, Bool.not_false, decide_true, decide_false, not_true, not_false_eq_true, and_assoc, exists_and_left, exists_eq_left', exists_eq_left, exists_eq', exists_eq_right', exists_eq_right, V.int.injEq, V.ref.injEq, V.bl.injEq, V.str.injEq, List.cons.injEq, and_true, true_and, and_self, Option.some.injEq, List.cons_append, List.nil_append, List.append_nil, List.getElem?_cons_zero, List.getElem?_cons_succ, List.set_cons_zero, List.set_cons_succ, reduceCtorEq, false_and, and_false, exists_false, exists_const, or_false, false_or, scal_ii, scal_bb, scal_ss, List.length_cons, List.length_nil, Int.reduceToNat, Int.reducePow])
local macro_rules | `(tactic| k_call_by "xs" $h:term) => `(tactic| simp only [$h:term, x_next, x_seq, x_brk, x_cont, x_drop, x_ret, x_retN, x_if, sel_t, sel_f, selE_t, selE_f, selT_t, selT_f, selC_t, selC_f, x_test, x_tB, x_op, x_un, x_var, x_c, x_cb, x_nil, x_cons, x_rI, x_rI0, x_rU, x_rEq, x_rNe, x_rIxL, x_rIxT, x_rSlL, x_rCat, x_rRep, x_rApp, x_bm, x_bm0, x_sl, x_nopart, x_part, x_tup, x_lst, x_call, x_callS, x_asg, x_gname, x_gtup, x_gnil, x_gcons, x_gsub, x_setL, x_aug, x_ipI, x_ipC, x_bits, x_getL, x_augS, x_and, x_or, x_not, x_k, x_andV, x_orV, x_notV, x_ife, x_chain, x_for, x_ilist, x_itup, x_ienum, x_irng1, x_irng2, x_irev, x_lc, x_yes, wipe_nil, wipe_cons, List.map_cons, List.map_nil, x_misc, x_misc2, x_rz, lookup_at, Bool.not_true, Bool.not_false, decide_true, decide_false, not_true, not_false_eq_true, and_assoc, exists_and_left, exists_eq_left', exists_eq_left, exists_eq', exists_eq_right', exists_eq_right, V.int.injEq, V.ref.injEq, V.bl.injEq, V.str.injEq, List.cons.injEq, and_true, true_and, and_self, Option.some.injEq, List.cons_append, List.nil_append, List.append_nil, List.getElem?_cons_zero, List.getElem?_cons_succ, List.set_cons_zero, List.set_cons_succ, reduceCtorEq, false_and, and_false, exists_false, exists_const, or_false, false_or, scal_ii, scal_bb, scal_ss, List.length_cons, List.length_nil, Int.reduceToNat, Int.reducePow])
local macro_rules | `(tactic| wtm_at "hp") => `(tactic| first | (with_reducible assumption) | exact upd_same | (refine upd_keep (by with_reducible assumption) ?_; wtm_at "hp") | (refine Same.get (by with_reducible assumption) ?_; wtm_at "hp") | (refine upd_other (by first | (with_reducible assumption) | exact Ne.symm (by with_reducible assumption)) ?_; wtm_at "hp"))
local macro_rules | `(tactic| wtm_at "sq") => `(tactic| first | (with_reducible assumption) | exact SqL.of (by wtm_at "hp") | exact SqT.of (by wtm_at "hp") | (refine Same.seq (same_upd (by with_reducible assumption)) ?_; wtm_at "sq") | (refine Same.seq (by with_reducible assumption) ?_; wtm_at "sq") | (refine Same.seqT (same_upd (by with_reducible assumption)) ?_; wtm_at "sq") | (refine Same.seqT (by with_reducible assumption) ?_; wtm_at "sq"))
local macro_rules | `(tactic| wtm_at "cl") => `(tactic| first | (with_reducible assumption) | omega | (exact cmul_r (by omega) (by omega)) | (exact cmul_l (by omega) (by omega)) | (exact cdiv_ok (by omega) (by omega)) | (exact cpow_ok (by decide)) | (exact ⟨by omega, by omega, by omega⟩) | decide | (exact ⟨by omega, by omega⟩) | (simp only [List.length_append, List.length_map, List.length_set, List.length_cons, List.length_nil, rngL_len, sizeLine_eq]; omega) | wtm_at "hp" | wtm_at "sq")
local macro_rules | `(tactic| wtm_at "pf") => `(tactic| first | (with_reducible assumption) | omega | (simp only [List.length_append, List.length_map, List.length_set, List.length_cons, List.length_nil, rngL_len]; omega) | (with_reducible rfl) | (with_reducible trivial) | (with_reducible decide))
local macro_rules | `(tactic| wtm_at "st") => `(tactic| first | ((with_reducible refine g_at ?_); refine at_call (by wtm_at "sq") (by omega) (by omega) (fun _ _ => ?_)) | ((with_reducible refine g_row ?_); refine row_call (by wtm_at "hp") ?_) | ((with_reducible refine g_int ?_); refine int_call ?_) | ((with_reducible refine g_isi ?_); first | (with_reducible refine isi_ii ?_) | (with_reducible refine isi_ib ?_) | (refine isi_int rfl ?_) | (refine isi_lst rfl (by wtm_at "hp") ?_) | (refine isi_tup rfl (by wtm_at "hp") ?_)) | ((with_reducible refine g_ned ?_); refine ned_f (dq_lst (by wtm_at "sq")) (dq_lst (by wtm_at "sq")) ?_) | ((with_reducible refine g_eqd ?_); refine eqd_t (dq_lst (by wtm_at "sq")) (dq_lst (by wtm_at "sq")) ?_) | ((with_reducible refine g_tyv ?_); refine and_tyv (by wtm_at "sq") ?_) | ((with_reducible refine g_asq ?_); refine and_sq (by wtm_at "sq") ?_) | ((with_reducible refine g_lst ?_); refine ex_lst (by wtm_at "hp") ?_) | ((with_reducible refine g_or ?_); first | (refine ex_or (by wtm_at "sq") ?_) | (refine ex_ort (by wtm_at "sq") ?_)) | ((with_reducible refine g_sq ?_); refine ex_sq (by wtm_at "sq") ?_) | ((with_reducible refine g_sqt ?_); refine ex_sqt (by wtm_at "sq") ?_) | ((with_reducible refine gd_sel ?_); first | (refine sel_p (by wtm_at "pf") ?_) | (refine sel_n (by wtm_at "pf") ?_)) | ((with_reducible refine gn_sel ?_); first | (refine selN_p (by wtm_at "pf") ?_) | (refine selN_n (by wtm_at "pf") ?_)) | ((with_reducible refine gd_selT ?_); first | (refine selT_p (by wtm_at "pf") ?_) | (refine selT_n (by wtm_at "pf") ?_)) | ((with_reducible refine gn_selT ?_); first | (refine selTN_p (by wtm_at "pf") ?_) | (refine selTN_n (by wtm_at "pf") ?_)) | ((with_reducible refine gd_selE ?_); first | (refine selE_p (by wtm_at "pf") ?_) | (refine selE_n (by wtm_at "pf") ?_)) | ((with_reducible refine gn_selE ?_); first | (refine selEN_p (by wtm_at "pf") ?_) | (refine selEN_n (by wtm_at "pf") ?_)) | ((with_reducible refine g_xf ?_); refine xf_at rfl (by wtm_at "hp") ?_) | ((with_reducible refine g_atI ?_); refine ex_at (by first | exact rfl | exact atI_int (by omega) (by wtm_at "pf") | exact atI_end (by wtm_at "pf")) ?_) | ((with_reducible refine g_and ?_); refine And.intro (by wtm_at "cl") ?_) | ((with_reducible refine g_new ?_); intro _ _))
local macro_rules | `(tactic| wtm_at "go") => `(tactic| repeat (first | wtm_at "xs" | wtm_at "st"))
local macro_rules | `(tactic| wtm_at "xo") => `(tactic| simp only [x_next, x_seq, x_brk, x_cont, x_drop, x_ret, x_retN, x_if, sel_t, sel_f, selE_t, selE_f, selT_t, selT_f, selC_t, selC_f, x_test, x_tB, x_op, x_un, x_var, x_c, x_cb, x_nil, x_cons, x_rI, x_rI0, x_rU, x_rEq, x_rNe, x_rIxL, x_rIxT, n_rSlL, n_rCat, n_rRep, n_rApp, x_bm, x_bm0, x_sl, x_nopart, x_part, n_tup, n_lst, x_call, x_callS, x_asg, x_gname, x_gtup, x_gnil, x_gcons, x_gsub, n_setL, x_aug, x_ipI, x_ipC, x_bits, x_getL, x_augS, x_and, x_or, x_not, x_k, x_andV, x_orV, x_notV, x_ife, x_chain, x_for, x_ilist, x_itup, x_ienum, x_irng1, x_irng2, x_irev, x_lc, x_yes, wipe_nil, wipe_cons, List.map_cons, List.map_nil, x_misc, x_misc2, x_rz, lookup_at, Bool.not_true, Bool.not_false, decide_true, decide_false, not_true, not_false_eq_true, and_assoc, exists_and_left, exists_eq_left', exists_eq_left, exists_eq', exists_eq_right', exists_eq_right, V.int.injEq, V.ref.injEq, V.bl.injEq, V.str.injEq, List.cons.injEq, and_true, true_and, and_self, Option.some.injEq, List.cons_append, List.nil_append, List.append_nil, List.getElem?_cons_zero, List.getElem?_cons_succ, List.set_cons_zero, List.set_cons_succ, reduceCtorEq, false_and, and_false, exists_false, exists_const, or_false, false_or, scal_ii, scal_bb, scal_ss, List.length_cons, List.length_nil, Int.reduceToNat, Int.reducePow, n_fld, n_sfld, n_aug, n_meth, n_mw, n_make, n_kw, n_rLs, n_dcp, x_sortK, n_gget, n_rLtT, n_ext, n_revL, n_rTp, t_im, ints_rev, t_s1, t_i1, t_i2, t_i3, t_i4, t_i5, x_chain3, x_irng3, x_irevR, x_rg1, x_rg2, ints_cat, ints_app1, ints_len, ints_take, ints_drop, rep_one])
local macro_rules | `(tactic| k_call_by "xo" $h:term) => `(tactic| simp only [$h:term, x_next, x_seq, x_brk, x_cont, x_drop, x_ret, x_retN, x_if, sel_t, sel_f, selE_t, selE_f, selT_t, selT_f, selC_t, selC_f, x_test, x_tB, x_op, x_un, x_var, x_c, x_cb, x_nil, x_cons, x_rI, x_rI0, x_rU, x_rEq, x_rNe, x_rIxL, x_rIxT, n_rSlL, n_rCat, n_rRep, n_rApp, x_bm, x_bm0, x_sl, x_nopart, x_part, n_tup, n_lst, x_call, x_callS, x_asg, x_gname, x_gtup, x_gnil, x_gcons, x_gsub, n_setL, x_aug, x_ipI, x_ipC, x_bits, x_getL, x_augS, x_and, x_or, x_not, x_k, x_andV, x_orV, x_notV, x_ife, x_chain, x_for, x_ilist, x_itup, x_ienum, x_irng1, x_irng2, x_irev, x_lc, x_yes, wipe_nil, wipe_cons, List.map_cons, List.map_nil, x_misc, x_misc2, x_rz, lookup_at, Bool.not_true, Bool.not_false, decide_true, decide_false, not_true, not_false_eq_true, and_assoc, exists_and_left, exists_eq_left', exists_eq_left, exists_eq', exists_eq_right', exists_eq_right, V.int.injEq, V.ref.injEq, V.bl.injEq, V.str.injEq, List.cons.injEq, and_true, true_and, and_self, Option.some.injEq, List.cons_append, List.nil_append, List.append_nil, List.getElem?_cons_zero, List.getElem?_cons_succ, List.set_cons_zero, List.set_cons_succ, reduceCtorEq, false_and, and_false, exists_false, exists_const, or_false, false_or, scal_ii, scal_bb, scal_ss, List.length_cons, List.length_nil, Int.reduceToNat, Int.reducePow, n_fld, n_sfld, n_aug, n_meth, n_mw, n_make, n_kw, n_rLs, n_dcp, x_sortK, n_gget, n_rLtT, n_ext, n_revL, n_rTp, t_im, ints_rev, t_s1, t_i1, t_i2, t_i3, t_i4, t_i5, x_chain3, x_irng3, x_irevR, x_rg1, x_rg2, ints_cat, ints_app1, ints_len, ints_take, ints_drop, rep_one])
local macro_rules | `(tactic| wtm_at "mem") => `(tactic| first | (with_reducible exact mem_here) | (with_reducible refine mem_there ?_; wtm_at "mem"))
local macro_rules | `(tactic| wtm_at "pp") => `(tactic| first | (with_reducible exact Put.here) | (with_reducible apply Put.there; wtm_at "pp"))
local macro_rules | `(tactic| wtm_at "ho") => `(tactic| first | (with_reducible assumption) | exact Own.get (by with_reducible assumption) (by wtm_at "mem") | exact Own.base (by with_reducible assumption) (by with_reducible assumption))
local macro_rules | `(tactic| wtm_at "qo") => `(tactic| first | (with_reducible assumption) | exact SqL.of (by wtm_at "ho") | exact sqT_tupI (by wtm_at "ho") | exact sqT_tupS (by wtm_at "ho") | exact SqT.of (by wtm_at "ho") | exact Own.imT (by with_reducible assumption) (by wtm_at "mem") | exact Own.sq (by with_reducible assumption) (by with_reducible assumption) | exact Own.sqT (by with_reducible assumption) (by with_reducible assumption))
local macro_rules | `(tactic| wtm_at "sub") => `(tactic| first | exact List.nil_sublist _ | (with_reducible refine List.Sublist.cons_cons _ ?_; wtm_at "sub") | (refine List.Sublist.cons _ ?_; wtm_at "sub"))
local macro_rules | `(tactic| wtm_at "co") => `(tactic| first | (with_reducible assumption) | omega | (exact cmul_r (by omega) (by omega)) | (exact cmul_l (by omega) (by omega)) | (exact cdiv_ok (by omega) (by omega)) | (exact cpow_ok (by decide)) | (exact ⟨by omega, by omega, by omega⟩) | decide | (exact ⟨by omega, by omega⟩) | (simp only [List.length_append, List.length_map, List.length_set, List.length_cons, List.length_nil, rngL_len, sizeLine_eq]; omega) | wtm_at "ho" | wtm_at "qo")
local macro_rules | `(tactic| wtm_at "so") => `(tactic| first | ((with_reducible refine g_dcp ?_); refine dcpI (by wtm_at "ho") ?_) | ((with_reducible refine g_asl ?_); refine And.intro (by rfl) ?_) | ((with_reducible refine g_asqT ?_); refine and_sqT (by wtm_at "qo") ?_) | ((with_reducible refine g_extO ?_); first | (refine extI (by with_reducible assumption) (by wtm_at "pp") (by wtm_at "co") (fun _ _ => ?_)) | (refine extO (by with_reducible assumption) (by wtm_at "pp") (by wtm_at "co") (fun _ _ => ?_))) | ((with_reducible refine g_tp ?_); first | (refine tp_l (by wtm_at "qo") ?_) | (refine tp_t (by wtm_at "qo") ?_)) | ((with_reducible refine g_fldO ?_); refine fldO (by wtm_at "ho") (by with_reducible assumption) (by wtm_at "mem") (by wtm_at "lk") ?_) | ((with_reducible refine g_fldC ?_); refine fldC (by wtm_at "ho") (by with_reducible assumption) (by wtm_at "mem") (by wtm_at "lk") ?_) | ((with_reducible refine g_putC ?_); refine putC (by with_reducible assumption) (by wtm_at "pp") (by wtm_at "pu") (by wtm_at "co") (fun _ _ => ?_)) | ((with_reducible refine g_stoO ?_); refine stoO (by with_reducible assumption) (by wtm_at "pp") (by wtm_at "pu") (by with_reducible assumption) (by wtm_at "mem") (by wtm_at "co") (fun _ _ => ?_)) | ((with_reducible refine g_metO ?_); refine metO (by wtm_at "ho") (by wtm_at "ln") ?_) | ((with_reducible refine g_makO ?_); refine makO (by with_reducible assumption) (fun _ _ _ _ => ?_)) | ((with_reducible refine g_sum ?_); refine sum_call (by wtm_at "qo") ?_) | ((with_reducible refine g_cq ?_); exact cq (by with_reducible assumption) (by simp only [rngL_len, List.length_map, List.length_take]; omega)) | ((with_reducible refine g_newO ?_); refine newO (by with_reducible assumption) (fun _ _ _ => ?_)) | ((with_reducible refine g_appO ?_); refine appI (by with_reducible assumption) (by wtm_at "pp") (by wtm_at "co") (fun _ _ => ?_)) | ((with_reducible refine g_setO ?_); refine setI (by with_reducible assumption) (by wtm_at "pp") (by omega) (by wtm_at "co") (fun _ _ => ?_)) | ((with_reducible refine g_appO ?_); refine appO (by with_reducible assumption) (by wtm_at "pp") (by wtm_at "co") (fun _ _ => ?_)) | ((with_reducible refine g_setO ?_); refine setO (by with_reducible assumption) (by wtm_at "pp") (by omega) (by wtm_at "co") (fun _ _ => ?_)) | ((with_reducible refine g_at ?_); refine at_call (by wtm_at "qo") (by omega) (by omega) (fun _ _ => ?_)) | ((with_reducible refine g_row ?_); refine row_call (by wtm_at "ho") ?_) | ((with_reducible refine g_int ?_); refine int_call ?_) | ((with_reducible refine g_isi ?_); first | (with_reducible refine isi_ii ?_) | (with_reducible refine isi_ib ?_) | (refine isi_int rfl ?_) | (refine isi_sqL rfl (by wtm_at "qo") ?_) | (refine isi_sqT rfl (by wtm_at "qo") ?_) | (refine isi_bl rfl ?_) | (refine isi_non rfl ?_) | (refine isi_str rfl ?_)) | ((with_reducible refine g_ned ?_); first | (refine ned_f (dq_lst (by wtm_at "qo")) (dq_lst (by wtm_at "qo")) ?_) | (refine ned_ints (by wtm_at "qo") (by wtm_at "qo") ?_) | (refine nedT_ints (by wtm_at "qo") (by wtm_at "qo") ?_)) | ((with_reducible refine g_eqd ?_); first | (refine eqd_t (dq_lst (by wtm_at "qo")) (dq_lst (by wtm_at "qo")) ?_) | (refine eqd_ints (by wtm_at "qo") (by wtm_at "qo") ?_) | (refine eqdT_ints (by wtm_at "qo") (by wtm_at "qo") ?_)) | ((with_reducible refine g_tyv ?_); refine and_tyv (by wtm_at "qo") ?_) | ((with_reducible refine g_asq ?_); refine and_sq (by wtm_at "qo") ?_) | ((with_reducible refine g_lst ?_); refine ex_lst (by wtm_at "ho") ?_) | ((with_reducible refine g_or ?_); first | (refine ex_or (by wtm_at "qo") ?_) | (refine ex_ort (by wtm_at "qo") ?_)) | ((with_reducible refine g_sq ?_); refine ex_sq (by wtm_at "qo") ?_) | ((with_reducible refine g_sqt ?_); refine ex_sqt (by wtm_at "qo") ?_) | ((with_reducible refine gd_sel ?_); first | (refine sel_p (by wtm_at "pf") ?_) | (refine sel_n (by wtm_at "pf") ?_)) | ((with_reducible refine gn_sel ?_); first | (refine selN_p (by wtm_at "pf") ?_) | (refine selN_n (by wtm_at "pf") ?_)) | ((with_reducible refine gd_selT ?_); first | (refine selT_p (by wtm_at "pf") ?_) | (refine selT_n (by wtm_at "pf") ?_)) | ((with_reducible refine gn_selT ?_); first | (refine selTN_p (by wtm_at "pf") ?_) | (refine selTN_n (by wtm_at "pf") ?_)) | ((with_reducible refine gd_selE ?_); first | (refine selE_p (by wtm_at "pf") ?_) | (refine selE_n (by wtm_at "pf") ?_)) | ((with_reducible refine gn_selE ?_); first | (refine selEN_p (by wtm_at "pf") ?_) | (refine selEN_n (by wtm_at "pf") ?_)) | ((with_reducible refine g_xf ?_); refine xf_at rfl (by wtm_at "ho") ?_) | ((with_reducible refine g_atI ?_); refine ex_at (by first | exact rfl | exact atI_int (by omega) (by wtm_at "pf") | exact atI_end (by wtm_at "pf")) ?_) | ((with_reducible refine g_and ?_); refine And.intro (by wtm_at "co") ?_))
local macro_rules | `(tactic| wtm_at "oo") => `(tactic| repeat (first | wtm_at "xo" | wtm_at "so"))
local macro_rules | `(tactic| wtm_at "cR") => `(tactic| (refine' compRi _ (by with_reducible assumption) (by omega) (fun _ _ _ _ _ => ?_) (fun _ _ _ => ?_); rotate_left; focus (wtm_at "oo")))

local macro_rules | `(tactic| wtm_at "lk") => `(tactic| first | (with_reducible exact lk_here) | (simp only [lk_here, lk_skip, lk_nil]; first | done | exact rfl))
local macro_rules | `(tactic| wtm_at "ln") => `(tactic| first | (with_reducible exact lk_nil) | (simp only [lk_skip, lk_nil]; done))
local macro_rules | `(tactic| wtm_at "pu") => `(tactic| first | (with_reducible exact pf_nil) | (simp only [pf_nil, pf_here, pf_skip]; first | done | exact rfl))
local macro_rules | `(tactic| wtm_at "tk") => `(tactic| first | (with_reducible exact Take.here) | (exact Take.here) | ((with_reducible apply Take.there); wtm_at "tk"))
local macro_rules | `(tactic| wtm_at "pk") => `(tactic| first | exact Pick.nil | ((with_reducible refine' Pick.cons ?tk1 ?pk1); (case tk1 => wtm_at "tk"); (case pk1 => wtm_at "pk")) | ((with_reducible refine Pick.im (by wtm_at "mem") ?_); wtm_at "pk") | ((with_reducible refine Pick.ims (by wtm_at "mem") ?_); wtm_at "pk"))

local macro_rules | `(tactic| wtm_at "ta") => `(tactic| first | (with_reducible exact TakeA.here) | ((with_reducible apply TakeA.there); wtm_at "ta"))
local macro_rules | `(tactic| wtm_at "tb") => `(tactic| first | (exact TakeA.here) | ((with_reducible apply TakeA.there); wtm_at "tb"))
local macro_rules | `(tactic| wtm_at "pa") => `(tactic| first | exact PickA.nil | ((with_reducible refine PickA.im (by wtm_at "mem") ?_); wtm_at "pa") | ((with_reducible refine PickA.ims (by wtm_at "mem") ?_); wtm_at "pa") | ((with_reducible refine' PickA.any ?tk1 ?pk1); (case tk1 => first | wtm_at "ta" | wtm_at "tb"); (case pk1 => wtm_at "pa")))
section
variable {P : Program} {w : World} {K : PySem.W.Frag} {mg : Str → Option Value} {base : Heap} [TBC K mg base]
theorem usedN_le {cs : List Int} : usedN cs ≤ cs.length := Nat.sub_le _ _
theorem shCall {K : PySem.W.Frag} {H : Hp} {Q : VK} {E : XK} {b : Addr} {cs : List Int} {m : Int} (hS : SqL K H b (cs.map V.int)) (hl : cs.length ≤ 10000) (hT : TabS H (tabP K) qLam) (m1 : 1 ≤ m) (m2 : m ≤ 15) (ok : allOk cs) (u : (usedN cs : Int) ≤ 2 ^ m.toNat)
    (h : ∀ p H', Own K (delL H [tabP K]) H' [pI p (shp cs m.toNat), .tab (tabP K)] → Q (.ref p) H') : sp_shortest K [.ref b, .int m] H Q E :=
  ⟨b, cs, m, rfl, hS, hl, hT, fun z => absurd ⟨m1, m2⟩ z, fun _ _ k hk _ z => absurd (ok k hk) z, fun _ _ _ z => absurd u (by omega), fun _ _ _ _ => h⟩
theorem certCall {K : PySem.W.Frag} {H : Hp} {Q : VK} {E : XK} {b : Addr} {cs : List Int} {m : Int} (hS : SqL K H b (cs.map V.int)) (hl : cs.length ≤ 10000) (hT : TabS H (tabP K) qLam) (m1 : 1 ≤ m) (m2 : m ≤ 15) (ok : allOk cs) (u : (usedN cs : Int) ≤ 2 ^ m.toNat)
    (h : ∀ p pl H', rOk pl → rC pl = cert cs m.toNat → Own K (delL H [tabP K]) H' [.pt p (.lst (rR pl)), pRO pl, pRI pl, .tab (tabP K)] → Q (.ref p) H') : sp_certificate K [.ref b, .int m] H Q E :=
  ⟨b, cs, m, rfl, hS, hl, hT, fun z => absurd ⟨m1, m2⟩ z, fun _ _ k hk _ z => absurd (ok k hk) z, fun _ _ _ z => absurd u (by omega), fun _ _ _ _ => h⟩
theorem chkCall {K : PySem.W.Frag} {H : Hp} {Q : VK} {E : XK} {a b r : Addr} {cs ls : List Int} {m : Int} {pl : RL} (hS : SqL K H a (cs.map V.int)) (hB : SqL K H b (ls.map V.int)) (hR : SqL K H r (rR pl)) (hP : ∀ q ∈ pl, SqL K H q.1 q.2.1 ∧ ImmL K H q.2.1 (q.2.2.map tI2)) (hl : cs.length ≤ 400) (hT : TabS H (tabP K) qLam) (m1 : 1 ≤ m) (m2 : m ≤ 15) (ok : allOk cs)
    (h : ∀ (x : Bool) H', (x = true ↔ Chk cs m ls (rC pl)) → Own K (delL H [tabP K]) H' [.tab (tabP K)] → Q (.bl x) H') : sp_check_lengths K [.ref a, .int m, .ref b, .ref r] H Q E :=
  ⟨a, b, r, cs, ls, m, pl, rfl, hS, hB, hR, hP, hl, hT, fun z => absurd ⟨m1, m2⟩ z, fun _ _ k hk _ z => absurd (ok k hk) z, fun _ _ _ => h⟩


end
end K13

namespace K13
open PySem PySem.Spec PyProof.Rows L2 Bel LamX
local macro_rules | `(tactic| wtm_at "xs") => `(tactic| simp only [x_next, x_seq, x_brk, x_cont, x_drop, x_ret, x_retN, x_if, sel_t, sel_f, selE_t, selE_f, selT_t, selT_f, selC_t, selC_f, x_test, x_tB, x_op, x_un, x_var, x_c, x_cb, x_nil, x_cons, x_rI, x_rI0, x_rU, x_rEq, x_rNe, x_rIxL, x_rIxT, x_rSlL, x_rCat, x_rRep, x_rApp, x_bm, x_bm0, x_sl, x_nopart, x_part, x_tup, x_lst, x_call, x_callS, x_asg, x_gname, x_gtup, x_gnil, x_gcons, x_gsub, x_setL, x_aug, x_ipI, x_ipC, x_bits, x_getL, x_augS, x_and, x_or, x_not, x_k, x_andV, x_orV, x_notV, x_ife, x_chain, x_for, x_ilist, x_itup, x_ienum, x_irng1, x_irng2, x_irev, x_lc, x_yes, wipe_nil, wipe_cons, List.map_cons, List.map_nil, x_misc, x_misc2, x_rz, lookup_at, Bool.not_true, Bool.not_false, decide_true, decide_false, not_true, not_false_eq_true, and_assoc, exists_and_left, exists_eq_left', exists_eq_left, exists_eq', exists_eq_right', exists_eq_right, V.int.injEq, V.ref.injEq, V.bl.injEq, V.str.injEq, List.cons.injEq, and_true, true_and, and_self, Option.some.injEq, List.cons_append, List.nil_append, List.append_nil, List.getElem?_cons_zero, List.getElem?_cons_succ, List.set_cons_zero, List.set_cons_succ, reduceCtorEq, false_and, and_false, exists_false, exists_const, or_false, false_or, scal_ii, scal_bb, scal_ss, List.length_cons, List.length_nil, Int.reduceToNat, Int.reducePow])
local macro_rules | `(tactic| k_call_by "xs" $h:term) => `(tactic| simp only [$h:term, x_next, x_seq, x_brk, x_cont, x_drop, x_ret, x_retN, x_if, sel_t, sel_f, selE_t, selE_f, selT_t, selT_f, selC_t, selC_f, x_test, x_tB, x_op, x_un, x_var, x_c, x_cb, x_nil, x_cons, x_rI, x_rI0, x_rU, x_rEq, x_rNe, x_rIxL, x_rIxT, x_rSlL, x_rCat, x_rRep, x_rApp, x_bm, x_bm0, x_sl, x_nopart, x_part, x_tup, x_lst, x_call, x_callS, x_asg, x_gname, x_gtup, x_gnil, x_gcons, x_gsub, x_setL, x_aug, x_ipI, x_ipC, x_bits, x_getL, x_augS, x_and, x_or, x_not, x_k, x_andV, x_orV, x_notV, x_ife, x_chain, x_for, x_ilist, x_itup, x_ienum, x_irng1, x_irng2, x_irev, x_lc, x_yes, wipe_nil, wipe_cons, List.map_cons, List.map_nil, x_misc, x_misc2, x_rz, lookup_at, Bool.not_true, Bool.not_false, decide_true, decide_false, not_true, not_false_eq_true, and_assoc, exists_and_left, exists_eq_left', exists_eq_left, exists_eq', exists_eq_right', exists_eq_right, V.int.injEq, V.ref.injEq, V.bl.injEq, V.str.injEq, List.cons.injEq, and_true, true_and, and_self, Option.some.injEq, List.cons_append, List.nil_append, List.append_nil, List.getElem?_cons_zero, List.getElem?_cons_succ, List.set_cons_zero, List.set_cons_succ, reduceCtorEq, false_and, and_false, exists_false, exists_const, or_false, false_or, scal_ii, scal_bb, scal_ss, List.length_cons, List.length_nil, Int.reduceToNat, Int.reducePow])
local macro_rules | `(tactic| wtm_at "hp") => `(tactic| first | (with_reducible assumption) | exact upd_same | (refine upd_keep (by with_reducible assumption) ?_; wtm_at "hp") | (refine Same.get (by with_reducible assumption) ?_; wtm_at "hp") | (refine upd_other (by first | (with_reducible assumption) | exact Ne.symm (by with_reducible assumption)) ?_; wtm_at "hp"))
local macro_rules | `(tactic| wtm_at "sq") => `(tactic| first | (with_reducible assumption) | exact SqL.of (by wtm_at "hp") | exact SqT.of (by wtm_at "hp") | (refine Same.seq (same_upd (by with_reducible assumption)) ?_; wtm_at "sq") | (refine Same.seq (by with_reducible assumption) ?_; wtm_at "sq") | (refine Same.seqT (same_upd (by with_reducible assumption)) ?_; wtm_at "sq") | (refine Same.seqT (by with_reducible assumption) ?_; wtm_at "sq"))
local macro_rules | `(tactic| wtm_at "cl") => `(tactic| first | (with_reducible assumption) | omega | (exact cmul_r (by omega) (by omega)) | (exact cmul_l (by omega) (by omega)) | (exact cdiv_ok (by omega) (by omega)) | (exact cpow_ok (by decide)) | (exact ⟨by omega, by omega, by omega⟩) | decide | (exact ⟨by omega, by omega⟩) | (simp only [List.length_append, List.length_map, List.length_set, List.length_cons, List.length_nil, rngL_len, sizeLine_eq]; omega) | wtm_at "hp" | wtm_at "sq")
local macro_rules | `(tactic| wtm_at "pf") => `(tactic| first | (with_reducible assumption) | omega | (simp only [List.length_append, List.length_map, List.length_set, List.length_cons, List.length_nil, rngL_len]; omega) | (with_reducible rfl) | (with_reducible trivial) | (with_reducible decide))
local macro_rules | `(tactic| wtm_at "st") => `(tactic| first | ((with_reducible refine g_at ?_); refine at_call (by wtm_at "sq") (by omega) (by omega) (fun _ _ => ?_)) | ((with_reducible refine g_row ?_); refine row_call (by wtm_at "hp") ?_) | ((with_reducible refine g_int ?_); refine int_call ?_) | ((with_reducible refine g_isi ?_); first | (with_reducible refine isi_ii ?_) | (with_reducible refine isi_ib ?_) | (refine isi_int rfl ?_) | (refine isi_lst rfl (by wtm_at "hp") ?_) | (refine isi_tup rfl (by wtm_at "hp") ?_)) | ((with_reducible refine g_ned ?_); refine ned_f (dq_lst (by wtm_at "sq")) (dq_lst (by wtm_at "sq")) ?_) | ((with_reducible refine g_eqd ?_); refine eqd_t (dq_lst (by wtm_at "sq")) (dq_lst (by wtm_at "sq")) ?_) | ((with_reducible refine g_tyv ?_); refine and_tyv (by wtm_at "sq") ?_) | ((with_reducible refine g_asq ?_); refine and_sq (by wtm_at "sq") ?_) | ((with_reducible refine g_lst ?_); refine ex_lst (by wtm_at "hp") ?_) | ((with_reducible refine g_or ?_); first | (refine ex_or (by wtm_at "sq") ?_) | (refine ex_ort (by wtm_at "sq") ?_)) | ((with_reducible refine g_sq ?_); refine ex_sq (by wtm_at "sq") ?_) | ((with_reducible refine g_sqt ?_); refine ex_sqt (by wtm_at "sq") ?_) | ((with_reducible refine gd_sel ?_); first | (refine sel_p (by wtm_at "pf") ?_) | (refine sel_n (by wtm_at "pf") ?_)) | ((with_reducible refine gn_sel ?_); first | (refine selN_p (by wtm_at "pf") ?_) | (refine selN_n (by wtm_at "pf") ?_)) | ((with_reducible refine gd_selT ?_); first | (refine selT_p (by wtm_at "pf") ?_) | (refine selT_n (by wtm_at "pf") ?_)) | ((with_reducible refine gn_selT ?_); first | (refine selTN_p (by wtm_at "pf") ?_) | (refine selTN_n (by wtm_at "pf") ?_)) | ((with_reducible refine gd_selE ?_); first | (refine selE_p (by wtm_at "pf") ?_) | (refine selE_n (by wtm_at "pf") ?_)) | ((with_reducible refine gn_selE ?_); first | (refine selEN_p (by wtm_at "pf") ?_) | (refine selEN_n (by wtm_at "pf") ?_)) | ((with_reducible refine g_xf ?_); refine xf_at rfl (by wtm_at "hp") ?_) | ((with_reducible refine g_atI ?_); refine ex_at (by first | exact rfl | exact atI_int (by omega) (by wtm_at "pf") | exact atI_end (by wtm_at "pf")) ?_) | ((with_reducible refine g_and ?_); refine And.intro (by wtm_at "cl") ?_) | ((with_reducible refine g_new ?_); intro _ _))
local macro_rules | `(tactic| wtm_at "go") => `(tactic| repeat (first | wtm_at "xs" | wtm_at "st"))
local macro_rules | `(tactic| wtm_at "xo") => `(tactic| simp only [x_next, x_seq, x_brk, x_cont, x_drop, x_ret, x_retN, x_if, sel_t, sel_f, selE_t, selE_f, selT_t, selT_f, selC_t, selC_f, x_test, x_tB, x_op, x_un, x_var, x_c, x_cb, x_nil, x_cons, x_rI, x_rI0, x_rU, x_rEq, x_rNe, x_rIxL, x_rIxT, n_rSlL, n_rCat, n_rRep, n_rApp, x_bm, x_bm0, x_sl, x_nopart, x_part, n_tup, n_lst, x_call, x_callS, x_asg, x_gname, x_gtup, x_gnil, x_gcons, x_gsub, n_setL, x_aug, x_ipI, x_ipC, x_bits, x_getL, x_augS, x_and, x_or, x_not, x_k, x_andV, x_orV, x_notV, x_ife, x_chain, x_for, x_ilist, x_itup, x_ienum, x_irng1, x_irng2, x_irev, x_lc, x_yes, wipe_nil, wipe_cons, List.map_cons, List.map_nil, x_misc, x_misc2, x_rz, lookup_at, Bool.not_true, Bool.not_false, decide_true, decide_false, not_true, not_false_eq_true, and_assoc, exists_and_left, exists_eq_left', exists_eq_left, exists_eq', exists_eq_right', exists_eq_right, V.int.injEq, V.ref.injEq, V.bl.injEq, V.str.injEq, List.cons.injEq, and_true, true_and, and_self, Option.some.injEq, List.cons_append, List.nil_append, List.append_nil, List.getElem?_cons_zero, List.getElem?_cons_succ, List.set_cons_zero, List.set_cons_succ, reduceCtorEq, false_and, and_false, exists_false, exists_const, or_false, false_or, scal_ii, scal_bb, scal_ss, List.length_cons, List.length_nil, Int.reduceToNat, Int.reducePow, n_fld, n_sfld, n_aug, n_meth, n_mw, n_make, n_kw, n_rLs, n_dcp, x_sortK, n_gget, n_rLtT, n_ext, n_revL, n_rTp, t_im, ints_rev, t_s1, t_i1, t_i2, t_i3, t_i4, t_i5, x_chain3, x_irng3, x_irevR, x_rg1, x_rg2, ints_cat, ints_app1, ints_len, ints_take, ints_drop, rep_one])
local macro_rules | `(tactic| k_call_by "xo" $h:term) => `(tactic| simp only [$h:term, x_next, x_seq, x_brk, x_cont, x_drop, x_ret, x_retN, x_if, sel_t, sel_f, selE_t, selE_f, selT_t, selT_f, selC_t, selC_f, x_test, x_tB, x_op, x_un, x_var, x_c, x_cb, x_nil, x_cons, x_rI, x_rI0, x_rU, x_rEq, x_rNe, x_rIxL, x_rIxT, n_rSlL, n_rCat, n_rRep, n_rApp, x_bm, x_bm0, x_sl, x_nopart, x_part, n_tup, n_lst, x_call, x_callS, x_asg, x_gname, x_gtup, x_gnil, x_gcons, x_gsub, n_setL, x_aug, x_ipI, x_ipC, x_bits, x_getL, x_augS, x_and, x_or, x_not, x_k, x_andV, x_orV, x_notV, x_ife, x_chain, x_for, x_ilist, x_itup, x_ienum, x_irng1, x_irng2, x_irev, x_lc, x_yes, wipe_nil, wipe_cons, List.map_cons, List.map_nil, x_misc, x_misc2, x_rz, lookup_at, Bool.not_true, Bool.not_false, decide_true, decide_false, not_true, not_false_eq_true, and_assoc, exists_and_left, exists_eq_left', exists_eq_left, exists_eq', exists_eq_right', exists_eq_right, V.int.injEq, V.ref.injEq, V.bl.injEq, V.str.injEq, List.cons.injEq, and_true, true_and, and_self, Option.some.injEq, List.cons_append, List.nil_append, List.append_nil, List.getElem?_cons_zero, List.getElem?_cons_succ, List.set_cons_zero, List.set_cons_succ, reduceCtorEq, false_and, and_false, exists_false, exists_const, or_false, false_or, scal_ii, scal_bb, scal_ss, List.length_cons, List.length_nil, Int.reduceToNat, Int.reducePow, n_fld, n_sfld, n_aug, n_meth, n_mw, n_make, n_kw, n_rLs, n_dcp, x_sortK, n_gget, n_rLtT, n_ext, n_revL, n_rTp, t_im, ints_rev, t_s1, t_i1, t_i2, t_i3, t_i4, t_i5, x_chain3, x_irng3, x_irevR, x_rg1, x_rg2, ints_cat, ints_app1, ints_len, ints_take, ints_drop, rep_one])
local macro_rules | `(tactic| wtm_at "mem") => `(tactic| first | (with_reducible exact mem_here) | (with_reducible refine mem_there ?_; wtm_at "mem"))
local macro_rules | `(tactic| wtm_at "pp") => `(tactic| first | (with_reducible exact Put.here) | (with_reducible apply Put.there; wtm_at "pp"))
local macro_rules | `(tactic| wtm_at "ho") => `(tactic| first | (with_reducible assumption) | exact Own.get (by with_reducible assumption) (by wtm_at "mem") | exact Own.base (by with_reducible assumption) (by with_reducible assumption))
local macro_rules | `(tactic| wtm_at "qo") => `(tactic| first | (with_reducible assumption) | exact SqL.of (by wtm_at "ho") | exact sqT_tupI (by wtm_at "ho") | exact sqT_tupS (by wtm_at "ho") | exact SqT.of (by wtm_at "ho") | exact Own.imT (by with_reducible assumption) (by wtm_at "mem") | exact Own.sq (by with_reducible assumption) (by with_reducible assumption) | exact Own.sqT (by with_reducible assumption) (by with_reducible assumption))
local macro_rules | `(tactic| wtm_at "sub") => `(tactic| first | exact List.nil_sublist _ | (with_reducible refine List.Sublist.cons_cons _ ?_; wtm_at "sub") | (refine List.Sublist.cons _ ?_; wtm_at "sub"))
local macro_rules | `(tactic| wtm_at "co") => `(tactic| first | (with_reducible assumption) | omega | (exact cmul_r (by omega) (by omega)) | (exact cmul_l (by omega) (by omega)) | (exact cdiv_ok (by omega) (by omega)) | (exact cpow_ok (by decide)) | (exact ⟨by omega, by omega, by omega⟩) | decide | (exact ⟨by omega, by omega⟩) | (simp only [List.length_append, List.length_map, List.length_set, List.length_cons, List.length_nil, rngL_len, sizeLine_eq]; omega) | wtm_at "ho" | wtm_at "qo")
local macro_rules | `(tactic| wtm_at "so") => `(tactic| first | ((with_reducible refine g_dcp ?_); refine dcpI (by wtm_at "ho") ?_) | ((with_reducible refine g_asl ?_); refine And.intro (by rfl) ?_) | ((with_reducible refine g_asqT ?_); refine and_sqT (by wtm_at "qo") ?_) | ((with_reducible refine g_extO ?_); first | (refine extI (by with_reducible assumption) (by wtm_at "pp") (by wtm_at "co") (fun _ _ => ?_)) | (refine extO (by with_reducible assumption) (by wtm_at "pp") (by wtm_at "co") (fun _ _ => ?_))) | ((with_reducible refine g_tp ?_); first | (refine tp_l (by wtm_at "qo") ?_) | (refine tp_t (by wtm_at "qo") ?_)) | ((with_reducible refine g_fldO ?_); refine fldO (by wtm_at "ho") (by with_reducible assumption) (by wtm_at "mem") (by wtm_at "lk") ?_) | ((with_reducible refine g_fldC ?_); refine fldC (by wtm_at "ho") (by with_reducible assumption) (by wtm_at "mem") (by wtm_at "lk") ?_) | ((with_reducible refine g_putC ?_); refine putC (by with_reducible assumption) (by wtm_at "pp") (by wtm_at "pu") (by wtm_at "co") (fun _ _ => ?_)) | ((with_reducible refine g_stoO ?_); refine stoO (by with_reducible assumption) (by wtm_at "pp") (by wtm_at "pu") (by with_reducible assumption) (by wtm_at "mem") (by wtm_at "co") (fun _ _ => ?_)) | ((with_reducible refine g_metO ?_); refine metO (by wtm_at "ho") (by wtm_at "ln") ?_) | ((with_reducible refine g_makO ?_); refine makO (by with_reducible assumption) (fun _ _ _ _ => ?_)) | ((with_reducible refine g_sum ?_); refine sum_call (by wtm_at "qo") ?_) | ((with_reducible refine g_cq ?_); exact cq (by with_reducible assumption) (by simp only [rngL_len, List.length_map, List.length_take]; omega)) | ((with_reducible refine g_newO ?_); refine newO (by with_reducible assumption) (fun _ _ _ => ?_)) | ((with_reducible refine g_appO ?_); refine appI (by with_reducible assumption) (by wtm_at "pp") (by wtm_at "co") (fun _ _ => ?_)) | ((with_reducible refine g_setO ?_); refine setI (by with_reducible assumption) (by wtm_at "pp") (by omega) (by wtm_at "co") (fun _ _ => ?_)) | ((with_reducible refine g_appO ?_); refine appO (by with_reducible assumption) (by wtm_at "pp") (by wtm_at "co") (fun _ _ => ?_)) | ((with_reducible refine g_setO ?_); refine setO (by with_reducible assumption) (by wtm_at "pp") (by omega) (by wtm_at "co") (fun _ _ => ?_)) | ((with_reducible refine g_at ?_); refine at_call (by wtm_at "qo") (by omega) (by omega) (fun _ _ => ?_)) | ((with_reducible refine g_row ?_); refine row_call (by wtm_at "ho") ?_) | ((with_reducible refine g_int ?_); refine int_call ?_) | ((with_reducible refine g_isi ?_); first | (with_reducible refine isi_ii ?_) | (with_reducible refine isi_ib ?_) | (refine isi_int rfl ?_) | (refine isi_sqL rfl (by wtm_at "qo") ?_) | (refine isi_sqT rfl (by wtm_at "qo") ?_) | (refine isi_bl rfl ?_) | (refine isi_non rfl ?_) | (refine isi_str rfl ?_)) | ((with_reducible refine g_ned ?_); first | (refine ned_f (dq_lst (by wtm_at "qo")) (dq_lst (by wtm_at "qo")) ?_) | (refine ned_ints (by wtm_at "qo") (by wtm_at "qo") ?_) | (refine nedT_ints (by wtm_at "qo") (by wtm_at "qo") ?_)) | ((with_reducible refine g_eqd ?_); first | (refine eqd_t (dq_lst (by wtm_at "qo")) (dq_lst (by wtm_at "qo")) ?_) | (refine eqd_ints (by wtm_at "qo") (by wtm_at "qo") ?_) | (refine eqdT_ints (by wtm_at "qo") (by wtm_at "qo") ?_)) | ((with_reducible refine g_tyv ?_); refine and_tyv (by wtm_at "qo") ?_) | ((with_reducible refine g_asq ?_); refine and_sq (by wtm_at "qo") ?_) | ((with_reducible refine g_lst ?_); refine ex_lst (by wtm_at "ho") ?_) | ((with_reducible refine g_or ?_); first | (refine ex_or (by wtm_at "qo") ?_) | (refine ex_ort (by wtm_at "qo") ?_)) | ((with_reducible refine g_sq ?_); refine ex_sq (by wtm_at "qo") ?_) | ((with_reducible refine g_sqt ?_); refine ex_sqt (by wtm_at "qo") ?_) | ((with_reducible refine gd_sel ?_); first | (refine sel_p (by wtm_at "pf") ?_) | (refine sel_n (by wtm_at "pf") ?_)) | ((with_reducible refine gn_sel ?_); first | (refine selN_p (by wtm_at "pf") ?_) | (refine selN_n (by wtm_at "pf") ?_)) | ((with_reducible refine gd_selT ?_); first | (refine selT_p (by wtm_at "pf") ?_) | (refine selT_n (by wtm_at "pf") ?_)) | ((with_reducible refine gn_selT ?_); first | (refine selTN_p (by wtm_at "pf") ?_) | (refine selTN_n (by wtm_at "pf") ?_)) | ((with_reducible refine gd_selE ?_); first | (refine selE_p (by wtm_at "pf") ?_) | (refine selE_n (by wtm_at "pf") ?_)) | ((with_reducible refine gn_selE ?_); first | (refine selEN_p (by wtm_at "pf") ?_) | (refine selEN_n (by wtm_at "pf") ?_)) | ((with_reducible refine g_xf ?_); refine xf_at rfl (by wtm_at "ho") ?_) | ((with_reducible refine g_atI ?_); refine ex_at (by first | exact rfl | exact atI_int (by omega) (by wtm_at "pf") | exact atI_end (by wtm_at "pf")) ?_) | ((with_reducible refine g_and ?_); refine And.intro (by wtm_at "co") ?_))
local macro_rules | `(tactic| wtm_at "oo") => `(tactic| repeat (first | wtm_at "xo" | wtm_at "so"))
local macro_rules | `(tactic| wtm_at "cR") => `(tactic| (refine' compRi _ (by with_reducible assumption) (by omega) (fun _ _ _ _ _ => ?_) (fun _ _ _ => ?_); rotate_left; focus (wtm_at "oo")))

local macro_rules | `(tactic| wtm_at "lk") => `(tactic| first | (with_reducible exact lk_here) | (simp only [lk_here, lk_skip, lk_nil]; first | done | exact rfl))
local macro_rules | `(tactic| wtm_at "ln") => `(tactic| first | (with_reducible exact lk_nil) | (simp only [lk_skip, lk_nil]; done))
local macro_rules | `(tactic| wtm_at "pu") => `(tactic| first | (with_reducible exact pf_nil) | (simp only [pf_nil, pf_here, pf_skip]; first | done | exact rfl))
local macro_rules | `(tactic| wtm_at "tk") => `(tactic| first | (with_reducible exact Take.here) | (exact Take.here) | ((with_reducible apply Take.there); wtm_at "tk"))
local macro_rules | `(tactic| wtm_at "pk") => `(tactic| first | exact Pick.nil | ((with_reducible refine' Pick.cons ?tk1 ?pk1); (case tk1 => wtm_at "tk"); (case pk1 => wtm_at "pk")) | ((with_reducible refine Pick.im (by wtm_at "mem") ?_); wtm_at "pk") | ((with_reducible refine Pick.ims (by wtm_at "mem") ?_); wtm_at "pk"))

local macro_rules | `(tactic| wtm_at "ta") => `(tactic| first | (with_reducible exact TakeA.here) | ((with_reducible apply TakeA.there); wtm_at "ta"))
local macro_rules | `(tactic| wtm_at "tb") => `(tactic| first | (exact TakeA.here) | ((with_reducible apply TakeA.there); wtm_at "tb"))
local macro_rules | `(tactic| wtm_at "pa") => `(tactic| first | exact PickA.nil | ((with_reducible refine PickA.im (by wtm_at "mem") ?_); wtm_at "pa") | ((with_reducible refine PickA.ims (by wtm_at "mem") ?_); wtm_at "pa") | ((with_reducible refine' PickA.any ?tk1 ?pk1); (case tk1 => first | wtm_at "ta" | wtm_at "tb"); (case pk1 => wtm_at "pa")))
section
variable {P : Program} {w : World} {K : PySem.W.Frag} {mg : Str → Option Value} {base : Heap} [TBC K mg base]
/-- a built-in method in an except suite: the term may not name the suite's own context -/
theorem pe_bmK {X : Cx} {K : PySem.W.Frag} {T : _} {r : _} {to : _} {t : _} {e : Expr} (hK : X.K = K) (h : PE X e (tBM X.K T r to t)) : PE X e (tBM K T r to t) := hK ▸ h
theorem getD_mem {cs : List Int} {k : Nat} (h : k < cs.length) : cs.getD k 0 ∈ cs := by
  rw [List.getD_eq_getElem?_getD, List.getElem?_eq_getElem h]
  exact List.getElem_mem h
def sp__law_cost (K : PySem.W.Frag) : Sp := fun vs H Q _ => ∃ (a b : Addr) (cs ls : List Int), vs = [.ref a, .ref b] ∧ SqL K H a (cs.map V.int) ∧ SqL K H b (ls.map V.int) ∧ ls.length = cs.length ∧ cs.length ≤ 400 ∧ (∀ l ∈ ls, 0 ≤ l ∧ l ≤ 15) ∧ Q (.int (prodS ls cs)) H
theorem ok__law_cost (T : Tx K mg) : Cl P w K mg base 1 "_law_cost" ["counts", "lengths"] (sp__law_cost K) [] := by
  obtain ⟨gm, fd, F⟩ := T.d__law_cost
  refine ⟨_, fd, [], F.ok sc__law_cost (fun vs H Q E h => ?_) (fun cdv A outer s H vs Q E hr h => ⟨_, (PSs.nox (pss_cons (ps_set (i := 2) sc__law_cost.nd rfl (Or.inl rfl) (by exact pe_int))
 (pss_cons (ps_for PassesOwn.never rfl (pi_range1 rfl T.b_range (pa_cons (pe_callB (lenK K) rfl T.b_len (by decide +kernel) (pa_cons (pv 0) pa_nil)) pa_nil)) (pg_name (i := 3) sc__law_cost.nd rfl (Or.inl rfl))
 (pss_one (ps_set (i := 2) sc__law_cost.nd rfl (Or.inl rfl) (by exact (pe_op op_add (pv 2) (pe_op op_mul (pe_ix (ixl K) (pv 0) (pv 3) (fun _ _ => rfl)) (pe_ix (ixl K) (pv 1) (pv 3) (fun _ _ => rfl))))))))
 (pss_one (ps_ret (by exact (pv 2))))))), ?_⟩), gm, F.kp, F.bindsN (fun _ _ _ _ _ _ us hl => match us, hl with | [_, _], _ => rfl), .nil⟩
  · first | (obtain ⟨rfl, _⟩ := h; rfl) | (obtain ⟨_, rfl, _⟩ := h; rfl) | (obtain ⟨_, _, rfl, _⟩ := h; rfl) | (obtain ⟨_, _, _, rfl, _⟩ := h; rfl) | (obtain ⟨_, _, _, _, rfl, _⟩ := h; rfl) | (obtain ⟨_, _, _, _, _, rfl, _⟩ := h; rfl) | (obtain ⟨_, _, _, _, _, _, rfl, _⟩ := h; rfl) | (obtain ⟨_, _, _, _, _, _, _, rfl, _⟩ := h; rfl) | (obtain ⟨_, _, _, _, _, _, _, _, rfl, _⟩ := h; rfl) | (obtain ⟨_, _, _, _, _, _, _, _, _, rfl, _⟩ := h; rfl) | (obtain ⟨_, _, _, _, _, _, _, _, _, _, rfl, _⟩ := h; rfl) | (obtain ⟨_, _, _, _, _, _, _, _, _, _, _, rfl, _⟩ := h; rfl) | (obtain ⟨_, _, _, _, _, _, _, _, _, _, _, _, rfl, _⟩ := h; rfl) | (obtain ⟨_, _, _, _, _, _, _, _, _, _, _, _, _, rfl, _⟩ := h; rfl) | (obtain ⟨_, _, _, _, _, _, _, _, _, _, _, _, _, _, rfl, _⟩ := h; rfl) | (obtain ⟨_, _, _, _, _, _, _, _, _, _, _, _, _, _, _, rfl, _⟩ := h; rfl) | (obtain ⟨_, _, _, _, _, _, _, _, _, _, _, _, _, _, _, _, rfl, _⟩ := h; rfl) | (obtain ⟨_, _, _, _, _, _, _, _, _, _, _, _, _, _, _, _, _, rfl, _⟩ := h; rfl) | (obtain ⟨_, _, _, _, _, _, _, _, _, _, _, _, _, _, _, _, _, _, rfl, _⟩ := h; rfl) | (obtain ⟨_, _, _, _, _, _, _, _, _, _, _, _, _, _, _, _, _, _, _, rfl, _⟩ := h; rfl) | (obtain ⟨_, _, _, _, _, _, _, _, _, _, _, _, _, _, _, _, _, _, _, _, rfl, _⟩ := h; rfl) | (obtain ⟨_, _, _, _, _, _, _, _, _, _, _, _, _, _, _, _, _, _, _, _, _, rfl, _⟩ := h; rfl)
  · obtain ⟨a, b, cs, ls, rfl, hA, hB, hn, hl, h15, q⟩ := h
    k_call_by "xo" st__law_cost
    wtm_at "oo"
    refine loop_rangeN (m := cs.length) (by omega) (fun k σ H' => ∃ y3, σ = [some (.ref a), some (.ref b), some (.int (prodS (ls.take k) (cs.take k))), y3] ∧ H' = H) ⟨_, rfl, rfl⟩ ?_ ?_
    · rintro k σ H2 hk ⟨y3, rfl, rfl⟩
      have hx := getD_some (xs := cs) (i := k) (by omega)
      have hy := getD_some (xs := ls) (i := k) (by omega)
      have hy2 := h15 _ (List.mem_of_getElem? hy)
      have ep : prodS (ls.take (k + 1)) (cs.take (k + 1)) = prodS (ls.take k) (cs.take k) + cs.getD k 0 * ls.getD k 0 := by
        unfold prodS
        rw [take_zipWith hy hx, List.sum_append]
        show _ + (_ + 0) = _
        rw [Int.mul_comm]
        omega
      rw [ep]
      generalize cs.getD k 0 = x at *
      generalize ls.getD k 0 = y at *
      wtm_at "oo"
      simp only [show (0 + (k : Int)).toNat = k by omega, getD_of hx, getD_of hy]
      exact ⟨cmul_r (by omega) (by omega), trivial⟩
    · rintro σ H2 ⟨y3, rfl, rfl⟩
      rw [show ls.take cs.length = ls by rw [← hn, List.take_length], List.take_length]
      wtm_at "oo"
      exact q
def sp__law_serves (K : PySem.W.Frag) : Sp := fun vs H Q _ => ∃ (a b : Addr) (cs ls : List Int) (m : Int), vs = [.ref a, .int m, .ref b] ∧ SqL K H a (cs.map V.int) ∧ SqL K H b (ls.map V.int) ∧ ls.length = cs.length ∧ 1 ≤ m ∧ m ≤ 15 ∧ cs.length ≤ 400 ∧ ∀ r : Bool, (r = true ↔ ServeL ls cs m) → Q (.bl r) H
theorem ok__law_serves (T : Tx K mg) : Cl P w K mg base 1 "_law_serves" ["counts", "most", "lengths"] (sp__law_serves K) [] := by
  obtain ⟨gm, fd, F⟩ := T.d__law_serves
  refine ⟨_, fd, [], F.ok sc__law_serves (fun vs H Q E h => ?_) (fun cdv A outer s H vs Q E hr h => ⟨_, (PSs.nox (pss_cons (ps_set (i := 3) sc__law_serves.nd rfl (Or.inl rfl) (by exact pe_int))
 (pss_cons (ps_for PassesOwn.never rfl (pi_range1 rfl T.b_range (pa_cons (pe_callB (lenK K) rfl T.b_len (by decide +kernel) (pa_cons (pv 0) pa_nil)) pa_nil)) (pg_name (i := 4) sc__law_serves.nd rfl (Or.inl rfl))
 (pss_cons (ps_if (PW.pt (pw_or (pt_cmpR op_ne (pe_cmpR op_eq (pe_ix (ixl K) (pv 0) (pv 4) (fun _ _ => rfl)) pe_int (nomark _)) (pe_cmpR op_eq (pe_ix (ixl K) (pv 2) (pv 4) (fun _ _ => rfl)) pe_int (nomark _)) (nomark _)) (pw_or1 (pt_not (pt_chain op_le op_le pe_int (pe_ix (ixl K) (pv 2) (pv 4) (fun _ _ => rfl)) (pv 1))))))
 (pss_one (ps_ret (by exact pe_bl)))
 pss_nil)
 (pss_one (ps_if (pt_cmpR op_gt (pe_ix (ixl K) (pv 2) (pv 4) (fun _ _ => rfl)) pe_int (nomark _))
 (pss_one (ps_set (i := 3) sc__law_serves.nd rfl (Or.inl rfl) (by exact (pe_op op_add (pv 3) (pe_op op_shr pe_int (pe_ix (ixl K) (pv 2) (pv 4) (fun _ _ => rfl)))))))
 pss_nil))))
 (pss_one (ps_ret (by exact (pe_cmpR op_le (pv 3) pe_int (nomark _)))))))), ?_⟩), gm, F.kp, F.bindsN (fun _ _ _ _ _ _ us hl => match us, hl with | [_, _, _], _ => rfl), .nil⟩
  · first | (obtain ⟨rfl, _⟩ := h; rfl) | (obtain ⟨_, rfl, _⟩ := h; rfl) | (obtain ⟨_, _, rfl, _⟩ := h; rfl) | (obtain ⟨_, _, _, rfl, _⟩ := h; rfl) | (obtain ⟨_, _, _, _, rfl, _⟩ := h; rfl) | (obtain ⟨_, _, _, _, _, rfl, _⟩ := h; rfl) | (obtain ⟨_, _, _, _, _, _, rfl, _⟩ := h; rfl) | (obtain ⟨_, _, _, _, _, _, _, rfl, _⟩ := h; rfl) | (obtain ⟨_, _, _, _, _, _, _, _, rfl, _⟩ := h; rfl) | (obtain ⟨_, _, _, _, _, _, _, _, _, rfl, _⟩ := h; rfl) | (obtain ⟨_, _, _, _, _, _, _, _, _, _, rfl, _⟩ := h; rfl) | (obtain ⟨_, _, _, _, _, _, _, _, _, _, _, rfl, _⟩ := h; rfl) | (obtain ⟨_, _, _, _, _, _, _, _, _, _, _, _, rfl, _⟩ := h; rfl) | (obtain ⟨_, _, _, _, _, _, _, _, _, _, _, _, _, rfl, _⟩ := h; rfl) | (obtain ⟨_, _, _, _, _, _, _, _, _, _, _, _, _, _, rfl, _⟩ := h; rfl) | (obtain ⟨_, _, _, _, _, _, _, _, _, _, _, _, _, _, _, rfl, _⟩ := h; rfl) | (obtain ⟨_, _, _, _, _, _, _, _, _, _, _, _, _, _, _, _, rfl, _⟩ := h; rfl) | (obtain ⟨_, _, _, _, _, _, _, _, _, _, _, _, _, _, _, _, _, rfl, _⟩ := h; rfl) | (obtain ⟨_, _, _, _, _, _, _, _, _, _, _, _, _, _, _, _, _, _, rfl, _⟩ := h; rfl) | (obtain ⟨_, _, _, _, _, _, _, _, _, _, _, _, _, _, _, _, _, _, _, rfl, _⟩ := h; rfl) | (obtain ⟨_, _, _, _, _, _, _, _, _, _, _, _, _, _, _, _, _, _, _, _, rfl, _⟩ := h; rfl) | (obtain ⟨_, _, _, _, _, _, _, _, _, _, _, _, _, _, _, _, _, _, _, _, _, rfl, _⟩ := h; rfl)
  · obtain ⟨a, b, cs, ls, m, rfl, hA, hB, hn, m1, m2, hl, q⟩ := h
    k_call_by "xo" st__law_serves
    wtm_at "oo"
    refine loop_rangeN (m := cs.length) (by omega) (fun k σ H' => ∃ y4, σ = [some (.ref a), some (.int m), some (.ref b), some (.int (wts (ls.take k))), y4] ∧ H' = H ∧ ∀ j, j < k → okS cs ls m j) ⟨_, rfl, rfl, fun j hj => absurd hj (by omega)⟩ ?_ ?_
    · rintro k σ H2 hk ⟨y4, rfl, rfl, hle⟩
      have hx := getD_some (xs := cs) (i := k) (by omega)
      have hy := getD_some (xs := ls) (i := k) (by omega)
      have es : wts (ls.take (k + 1)) = wts (ls.take k) + wt (ls.getD k 0) := by
        unfold wts
        rw [List.take_add_one, hy, List.map_append, List.sum_append]
        show _ + (wt _ + 0) = _
        omega
      have bad : ¬ okS cs ls m k → Q (.bl false) H2 := fun z => q false ⟨fun e => (by cases e), fun e => absurd (e.2.1 k hk) z⟩
      have good : okS cs ls m k → ∀ j, j < k + 1 → okS cs ls m j := fun z j hj => by
        by_cases e : j = k
        · rw [e]
          exact z
        · exact hle j (by omega)
      rw [es]
      unfold okS at bad good
      generalize cs.getD k 0 = x at *
      generalize ls.getD k 0 = y at *
      wtm_at "oo"
      simp only [show (0 + (k : Int)).toNat = k by omega, getD_of hx, getD_of hy]
      have eqz : (decide (x = 0) = decide (y = 0)) → (y = 0 ↔ x = 0) := fun c3 => by
        by_cases k : x = 0
        · rw [decide_eq_true k] at c3
          exact ⟨fun _ => k, fun _ => of_decide_eq_true c3.symm⟩
        · rw [decide_eq_false k] at c3
          exact ⟨fun e => absurd e (of_decide_eq_false c3.symm), fun e => absurd e k⟩
      have eqz2 : (y = 0 ↔ x = 0) → (decide (x = 0) = decide (y = 0)) := fun z => by
        by_cases k : x = 0
        · rw [decide_eq_true k, decide_eq_true (z.mpr k)]
        · rw [decide_eq_false k, decide_eq_false (fun e => k (z.mp e))]
      refine selT_nd (fun c1 => ?_) (fun c1 => ?_)
      · wtm_at "oo"
        exact bad (fun z => c1 (eqz2 z.2.2))
      · have c1 := eqz c1
        wtm_at "oo"
        simp only [show (0 + (k : Int)).toNat = k by omega, getD_of hx, getD_of hy]
        refine selE_d (fun c2 => ?_) (fun c2 => ?_)
        · wtm_at "oo"
          refine sel_nd (fun c3 => ?_) (fun c3 => ?_)
          · wtm_at "oo"
            exact bad (fun z => c3 z.2.1)
          · wtm_at "oo"
            simp only [show (0 + (k : Int)).toNat = k by omega, getD_of hx, getD_of hy]
            have g := good ⟨c2, c3, c1⟩
            refine sel_d (fun c4 => ?_) (fun c4 => ?_)
            · rw [wt_of c4]
              wtm_at "oo"
              simp only [show (0 + (k : Int)).toNat = k by omega, getD_of hx, getD_of hy]
              exact ⟨by omega, trivial, g⟩
            · rw [show y = 0 by omega, show wt 0 = 0 from rfl]
              wtm_at "oo"
              exact g
        · wtm_at "oo"
          exact bad (fun z => c2 z.1)
    · rintro σ H2 ⟨y4, rfl, rfl, hle'⟩
      rw [show ls.take cs.length = ls by rw [← hn, List.take_length]]
      wtm_at "oo"
      exact q _ ⟨fun e => ⟨hn, hle', of_decide_eq_true e⟩, fun e => decide_eq_true e.2.2⟩
def sp__law_narrow (K : PySem.W.Frag) : Sp := fun vs H Q _ => ∃ (a : Addr) (cs : List Int) (m : Int), vs = [.ref a, .int m] ∧ SqL K H a (cs.map V.int) ∧ cs.length ≤ 10000 ∧ TabS H (tabP K) qLam ∧ 1 ≤ m ∧ m ≤ 15 ∧ allOk cs ∧ 2 ^ m.toNat < (usedN cs : Int) ∧
  ∀ p H', Own K (delL H [tabP K]) H' [pI p [(usedN cs : Int), (usedN cs : Int)], .tab (tabP K)] → Q (.ref p) H'
theorem ok__law_narrow (T : Tx K mg) : Cl P w K mg base 6 "_law_narrow" ["counts", "most"] (sp__law_narrow K) [] := by
  obtain ⟨gm, fd, F⟩ := T.d__law_narrow
  refine ⟨_, fd, [], F.ok sc__law_narrow (fun vs H Q E h => ?_) (fun cdv A outer s H vs Q E hr h => ⟨_, (PSs.nox (pss_cons (ps_set (i := 2) sc__law_narrow.nd rfl (Or.inl rfl) (by exact (pe_lst pa_nil)))
 (pss_cons (L2N.ps_try_as (i := 3) rfl rfl sc__law_narrow.nd rfl rfl ⟨rfl, by decide, .inl T.x_TooNarrow.g⟩ takes0N
 (fun W pn xe tk hp => (pss_one (ps_expr (pe_clS (ok_shortest (K := K) (mg := mg) (base := base) T) (hr.mono (by decide)) rfl tk (pa_cons (pv 0) (pa_cons (pv 1) pa_nil))))))
 (fun a oe cls d pn hz hf => (pss_one (ps_expr (pe_bmK (K := K) rfl (pe_bm PySem.F.plainAttrs_list PySem.F.slot_list_append PySem.F.type_list_append mt_append (pv 2) (pa_cons (pe_xfB T.x_TooNarrow hz hf (pv 3)) pa_nil)))))))
 (pss_cons (L2N.ps_try_as (i := 3) rfl rfl sc__law_narrow.nd rfl rfl ⟨rfl, by decide, .inl T.x_TooNarrow.g⟩ takes0N
 (fun W pn xe tk hp => (pss_one (ps_expr (pe_clS (ok_certificate (K := K) (mg := mg) (base := base) T) (hr.mono (by decide)) rfl tk (pa_cons (pv 0) (pa_cons (pv 1) pa_nil))))))
 (fun a oe cls d pn hz hf => (pss_one (ps_expr (pe_bmK (K := K) rfl (pe_bm PySem.F.plainAttrs_list PySem.F.slot_list_append PySem.F.type_list_append mt_append (pv 2) (pa_cons (pe_xfB T.x_TooNarrow hz hf (pv 3)) pa_nil)))))))
 (pss_one (ps_ret (by exact (pv 2)))))))), ?_⟩), gm, F.kp, F.bindsN (fun _ _ _ _ _ _ us hl => match us, hl with | [_, _], _ => rfl), .nil⟩
  · first | (obtain ⟨rfl, _⟩ := h; rfl) | (obtain ⟨_, rfl, _⟩ := h; rfl) | (obtain ⟨_, _, rfl, _⟩ := h; rfl) | (obtain ⟨_, _, _, rfl, _⟩ := h; rfl) | (obtain ⟨_, _, _, _, rfl, _⟩ := h; rfl) | (obtain ⟨_, _, _, _, _, rfl, _⟩ := h; rfl) | (obtain ⟨_, _, _, _, _, _, rfl, _⟩ := h; rfl) | (obtain ⟨_, _, _, _, _, _, _, rfl, _⟩ := h; rfl) | (obtain ⟨_, _, _, _, _, _, _, _, rfl, _⟩ := h; rfl) | (obtain ⟨_, _, _, _, _, _, _, _, _, rfl, _⟩ := h; rfl) | (obtain ⟨_, _, _, _, _, _, _, _, _, _, rfl, _⟩ := h; rfl) | (obtain ⟨_, _, _, _, _, _, _, _, _, _, _, rfl, _⟩ := h; rfl) | (obtain ⟨_, _, _, _, _, _, _, _, _, _, _, _, rfl, _⟩ := h; rfl) | (obtain ⟨_, _, _, _, _, _, _, _, _, _, _, _, _, rfl, _⟩ := h; rfl) | (obtain ⟨_, _, _, _, _, _, _, _, _, _, _, _, _, _, rfl, _⟩ := h; rfl) | (obtain ⟨_, _, _, _, _, _, _, _, _, _, _, _, _, _, _, rfl, _⟩ := h; rfl) | (obtain ⟨_, _, _, _, _, _, _, _, _, _, _, _, _, _, _, _, rfl, _⟩ := h; rfl) | (obtain ⟨_, _, _, _, _, _, _, _, _, _, _, _, _, _, _, _, _, rfl, _⟩ := h; rfl) | (obtain ⟨_, _, _, _, _, _, _, _, _, _, _, _, _, _, _, _, _, _, rfl, _⟩ := h; rfl) | (obtain ⟨_, _, _, _, _, _, _, _, _, _, _, _, _, _, _, _, _, _, _, rfl, _⟩ := h; rfl) | (obtain ⟨_, _, _, _, _, _, _, _, _, _, _, _, _, _, _, _, _, _, _, _, rfl, _⟩ := h; rfl) | (obtain ⟨_, _, _, _, _, _, _, _, _, _, _, _, _, _, _, _, _, _, _, _, _, rfl, _⟩ := h; rfl)
  · obtain ⟨a, cs, m, rfl, hS, hl, hT, m1, m2, ok, hu, q⟩ := h
    k_call_by "xo" st__law_narrow
    have L := Own.startT (K := K) hT
    have hS' := del_sqL hT hS
    wtm_at "oo"
    rename_i tp G1 L1
    clear L
    refine ⟨a, cs, m, rfl, L1.sq hS', hl, L1.tabS (by wtm_at "mem"), fun z => absurd ⟨m1, m2⟩ z, fun _ _ k hk _ z => absurd (ok k hk) z, fun _ _ _ _ H1 d s hd => as_yes T.x_TooNarrow fun z hz => ?_, fun _ _ _ z => absurd z (by omega)⟩
    have L2 := (L1.call s).new hd (.xd [("at", .int (usedN cs : Nat))])
    clear L1 s hz
    wtm_at "oo"
    rename_i G3 L3
    clear L2 hd
    have L4 : Own K (delL H [tabP K]) G3 [pI tp [(usedN cs : Int)], .tab (tabP K)] := L3.pickA (by wtm_at "pa")
    clear L3
    refine ⟨a, cs, m, rfl, L4.sq hS', hl, L4.tabS (by wtm_at "mem"), fun z => absurd ⟨m1, m2⟩ z, fun _ _ k hk _ z => absurd (ok k hk) z, fun _ _ _ _ H1 d s hd => as_yes T.x_TooNarrow fun z hz => ?_, fun _ _ _ z => absurd z (by omega)⟩
    have L5 := (L4.call s).new hd (.xd [("at", .int (usedN cs : Nat))])
    clear L4 s hz
    wtm_at "oo"
    rename_i G6 L6
    exact q tp G6 (L6.pickA (by wtm_at "pa"))


end
end K13

namespace K13
open PySem PySem.Spec PyProof.Rows L2 Bel LamX
local macro_rules | `(tactic| wtm_at "xs") => `(tactic| simp only [x_next, x_seq, x_brk, x_cont, x_drop, x_ret, x_retN, x_if, sel_t, sel_f, selE_t, selE_f, selT_t, selT_f, selC_t, selC_f, x_test, x_tB, x_op, x_un, x_var, x_c, x_cb, x_nil, x_cons, x_rI, x_rI0, x_rU, x_rEq, x_rNe, x_rIxL, x_rIxT, x_rSlL, x_rCat, x_rRep, x_rApp, x_bm, x_bm0, x_sl, x_nopart, x_part, x_tup, x_lst, x_call, x_callS, x_asg, x_gname, x_gtup, x_gnil, x_gcons, x_gsub, x_setL, x_aug, x_ipI, x_ipC, x_bits, x_getL, x_augS, x_and, x_or, x_not, x_k, x_andV, x_orV, x_notV, x_ife, x_chain, x_for, x_ilist, x_itup, x_ienum, x_irng1, x_irng2, x_irev, x_lc, x_yes, wipe_nil, wipe_cons, List.map_cons, List.map_nil, x_misc, x_misc2, x_rz, lookup_at, Bool.not_true, Bool.not_false, decide_true, decide_false, not_true, not_false_eq_true, and_assoc, exists_and_left, exists_eq_left', exists_eq_left, exists_eq', exists_eq_right', exists_eq_right, V.int.injEq, V.ref.injEq, V.bl.injEq, V.str.injEq, List.cons.injEq, and_true, true_and, and_self, Option.some.injEq, List.cons_append, List.nil_append, List.append_nil, List.getElem?_cons_zero, List.getElem?_cons_succ, List.set_cons_zero, List.set_cons_succ, reduceCtorEq, false_and, and_false, exists_false, exists_const, or_false, false_or, scal_ii, scal_bb, scal_ss, List.length_cons, List.length_nil, Int.reduceToNat, Int.reducePow])
local macro_rules | `(tactic| k_call_by "xs" $h:term) => `(tactic| simp only [$h:term, x_next, x_seq, x_brk, x_cont, x_drop, x_ret, x_retN, x_if, sel_t, sel_f, selE_t, selE_f, selT_t, selT_f, selC_t, selC_f, x_test, x_tB, x_op, x_un, x_var, x_c, x_cb, x_nil, x_cons, x_rI, x_rI0, x_rU, x_rEq, x_rNe, x_rIxL, x_rIxT, x_rSlL, x_rCat, x_rRep, x_rApp, x_bm, x_bm0, x_sl, x_nopart, x_part, x_tup, x_lst, x_call, x_callS, x_asg, x_gname, x_gtup, x_gnil, x_gcons, x_gsub, x_setL, x_aug, x_ipI, x_ipC, x_bits, x_getL, x_augS, x_and, x_or, x_not, x_k, x_andV, x_orV, x_notV, x_ife, x_chain, x_for, x_ilist, x_itup, x_ienum, x_irng1, x_irng2, x_irev, x_lc, x_yes, wipe_nil, wipe_cons, List.map_cons, List.map_nil, x_misc, x_misc2, x_rz, lookup_at, Bool.not_true, Bool.not_false, decide_true, decide_false, not_true, not_false_eq_true, and_assoc, exists_and_left, exists_eq_left', exists_eq_left, exists_eq', exists_eq_right', exists_eq_right, V.int.injEq, V.ref.injEq, V.bl.injEq, V.str.injEq, List.cons.injEq, and_true, true_and, and_self, Option.some.injEq, List.cons_append, List.nil_append, List.append_nil, List.getElem?_cons_zero, List.getElem?_cons_succ, List.set_cons_zero, List.set_cons_succ, reduceCtorEq, false_and, and_false, exists_false, exists_const, or_false, false_or, scal_ii, scal_bb, scal_ss, List.length_cons, List.length_nil, Int.reduceToNat, Int.reducePow])
local macro_rules | `(tactic| wtm_at "hp") => `(tactic| first | (with_reducible assumption) | exact upd_same | (refine upd_keep (by with_reducible assumption) ?_; wtm_at "hp") | (refine Same.get (by with_reducible assumption) ?_; wtm_at "hp") | (refine upd_other (by first | (with_reducible assumption) | exact Ne.symm (by with_reducible assumption)) ?_; wtm_at "hp"))
local macro_rules | `(tactic| wtm_at "sq") => `(tactic| first | (with_reducible assumption) | exact SqL.of (by wtm_at "hp") | exact SqT.of (by wtm_at "hp") | (refine Same.seq (same_upd (by with_reducible assumption)) ?_; wtm_at "sq") | (refine Same.seq (by with_reducible assumption) ?_; wtm_at "sq") | (refine Same.seqT (same_upd (by with_reducible assumption)) ?_; wtm_at "sq") | (refine Same.seqT (by with_reducible assumption) ?_; wtm_at "sq"))
local macro_rules | `(tactic| wtm_at "cl") => `(tactic| first | (with_reducible assumption) | omega | (exact cmul_r (by omega) (by omega)) | (exact cmul_l (by omega) (by omega)) | (exact cdiv_ok (by omega) (by omega)) | (exact cpow_ok (by decide)) | (exact ⟨by omega, by omega, by omega⟩) | decide | (exact ⟨by omega, by omega⟩) | (simp only [List.length_append, List.length_map, List.length_set, List.length_cons, List.length_nil, rngL_len, sizeLine_eq]; omega) | wtm_at "hp" | wtm_at "sq")
local macro_rules | `(tactic| wtm_at "pf") => `(tactic| first | (with_reducible assumption) | omega | (simp only [List.length_append, List.length_map, List.length_set, List.length_cons, List.length_nil, rngL_len]; omega) | (with_reducible rfl) | (with_reducible trivial) | (with_reducible decide))
local macro_rules | `(tactic| wtm_at "st") => `(tactic| first | ((with_reducible refine g_at ?_); refine at_call (by wtm_at "sq") (by omega) (by omega) (fun _ _ => ?_)) | ((with_reducible refine g_row ?_); refine row_call (by wtm_at "hp") ?_) | ((with_reducible refine g_int ?_); refine int_call ?_) | ((with_reducible refine g_isi ?_); first | (with_reducible refine isi_ii ?_) | (with_reducible refine isi_ib ?_) | (refine isi_int rfl ?_) | (refine isi_lst rfl (by wtm_at "hp") ?_) | (refine isi_tup rfl (by wtm_at "hp") ?_)) | ((with_reducible refine g_ned ?_); refine ned_f (dq_lst (by wtm_at "sq")) (dq_lst (by wtm_at "sq")) ?_) | ((with_reducible refine g_eqd ?_); refine eqd_t (dq_lst (by wtm_at "sq")) (dq_lst (by wtm_at "sq")) ?_) | ((with_reducible refine g_tyv ?_); refine and_tyv (by wtm_at "sq") ?_) | ((with_reducible refine g_asq ?_); refine and_sq (by wtm_at "sq") ?_) | ((with_reducible refine g_lst ?_); refine ex_lst (by wtm_at "hp") ?_) | ((with_reducible refine g_or ?_); first | (refine ex_or (by wtm_at "sq") ?_) | (refine ex_ort (by wtm_at "sq") ?_)) | ((with_reducible refine g_sq ?_); refine ex_sq (by wtm_at "sq") ?_) | ((with_reducible refine g_sqt ?_); refine ex_sqt (by wtm_at "sq") ?_) | ((with_reducible refine gd_sel ?_); first | (refine sel_p (by wtm_at "pf") ?_) | (refine sel_n (by wtm_at "pf") ?_)) | ((with_reducible refine gn_sel ?_); first | (refine selN_p (by wtm_at "pf") ?_) | (refine selN_n (by wtm_at "pf") ?_)) | ((with_reducible refine gd_selT ?_); first | (refine selT_p (by wtm_at "pf") ?_) | (refine selT_n (by wtm_at "pf") ?_)) | ((with_reducible refine gn_selT ?_); first | (refine selTN_p (by wtm_at "pf") ?_) | (refine selTN_n (by wtm_at "pf") ?_)) | ((with_reducible refine gd_selE ?_); first | (refine selE_p (by wtm_at "pf") ?_) | (refine selE_n (by wtm_at "pf") ?_)) | ((with_reducible refine gn_selE ?_); first | (refine selEN_p (by wtm_at "pf") ?_) | (refine selEN_n (by wtm_at "pf") ?_)) | ((with_reducible refine g_xf ?_); refine xf_at rfl (by wtm_at "hp") ?_) | ((with_reducible refine g_atI ?_); refine ex_at (by first | exact rfl | exact atI_int (by omega) (by wtm_at "pf") | exact atI_end (by wtm_at "pf")) ?_) | ((with_reducible refine g_and ?_); refine And.intro (by wtm_at "cl") ?_) | ((with_reducible refine g_new ?_); intro _ _))
local macro_rules | `(tactic| wtm_at "go") => `(tactic| repeat (first | wtm_at "xs" | wtm_at "st"))
local macro_rules | `(tactic| wtm_at "xo") => `(tactic| simp only [x_next, x_seq, x_brk, x_cont, x_drop, x_ret, x_retN, x_if, sel_t, sel_f, selE_t, selE_f, selT_t, selT_f, selC_t, selC_f, x_test, x_tB, x_op, x_un, x_var, x_c, x_cb, x_nil, x_cons, x_rI, x_rI0, x_rU, x_rEq, x_rNe, x_rIxL, x_rIxT, n_rSlL, n_rCat, n_rRep, n_rApp, x_bm, x_bm0, x_sl, x_nopart, x_part, n_tup, n_lst, x_call, x_callS, x_asg, x_gname, x_gtup, x_gnil, x_gcons, x_gsub, n_setL, x_aug, x_ipI, x_ipC, x_bits, x_getL, x_augS, x_and, x_or, x_not, x_k, x_andV, x_orV, x_notV, x_ife, x_chain, x_for, x_ilist, x_itup, x_ienum, x_irng1, x_irng2, x_irev, x_lc, x_yes, wipe_nil, wipe_cons, List.map_cons, List.map_nil, x_misc, x_misc2, x_rz, lookup_at, Bool.not_true, Bool.not_false, decide_true, decide_false, not_true, not_false_eq_true, and_assoc, exists_and_left, exists_eq_left', exists_eq_left, exists_eq', exists_eq_right', exists_eq_right, V.int.injEq, V.ref.injEq, V.bl.injEq, V.str.injEq, List.cons.injEq, and_true, true_and, and_self, Option.some.injEq, List.cons_append, List.nil_append, List.append_nil, List.getElem?_cons_zero, List.getElem?_cons_succ, List.set_cons_zero, List.set_cons_succ, reduceCtorEq, false_and, and_false, exists_false, exists_const, or_false, false_or, scal_ii, scal_bb, scal_ss, List.length_cons, List.length_nil, Int.reduceToNat, Int.reducePow, n_fld, n_sfld, n_aug, n_meth, n_mw, n_make, n_kw, n_rLs, n_dcp, x_sortK, n_gget, n_rLtT, n_ext, n_revL, n_rTp, t_im, ints_rev, t_s1, t_i1, t_i2, t_i3, t_i4, t_i5, x_chain3, x_irng3, x_irevR, x_rg1, x_rg2, ints_cat, ints_app1, ints_len, ints_take, ints_drop, rep_one])
local macro_rules | `(tactic| k_call_by "xo" $h:term) => `(tactic| simp only [$h:term, x_next, x_seq, x_brk, x_cont, x_drop, x_ret, x_retN, x_if, sel_t, sel_f, selE_t, selE_f, selT_t, selT_f, selC_t, selC_f, x_test, x_tB, x_op, x_un, x_var, x_c, x_cb, x_nil, x_cons, x_rI, x_rI0, x_rU, x_rEq, x_rNe, x_rIxL, x_rIxT, n_rSlL, n_rCat, n_rRep, n_rApp, x_bm, x_bm0, x_sl, x_nopart, x_part, n_tup, n_lst, x_call, x_callS, x_asg, x_gname, x_gtup, x_gnil, x_gcons, x_gsub, n_setL, x_aug, x_ipI, x_ipC, x_bits, x_getL, x_augS, x_and, x_or, x_not, x_k, x_andV, x_orV, x_notV, x_ife, x_chain, x_for, x_ilist, x_itup, x_ienum, x_irng1, x_irng2, x_irev, x_lc, x_yes, wipe_nil, wipe_cons, List.map_cons, List.map_nil, x_misc, x_misc2, x_rz, lookup_at, Bool.not_true, Bool.not_false, decide_true, decide_false, not_true, not_false_eq_true, and_assoc, exists_and_left, exists_eq_left', exists_eq_left, exists_eq', exists_eq_right', exists_eq_right, V.int.injEq, V.ref.injEq, V.bl.injEq, V.str.injEq, List.cons.injEq, and_true, true_and, and_self, Option.some.injEq, List.cons_append, List.nil_append, List.append_nil, List.getElem?_cons_zero, List.getElem?_cons_succ, List.set_cons_zero, List.set_cons_succ, reduceCtorEq, false_and, and_false, exists_false, exists_const, or_false, false_or, scal_ii, scal_bb, scal_ss, List.length_cons, List.length_nil, Int.reduceToNat, Int.reducePow, n_fld, n_sfld, n_aug, n_meth, n_mw, n_make, n_kw, n_rLs, n_dcp, x_sortK, n_gget, n_rLtT, n_ext, n_revL, n_rTp, t_im, ints_rev, t_s1, t_i1, t_i2, t_i3, t_i4, t_i5, x_chain3, x_irng3, x_irevR, x_rg1, x_rg2, ints_cat, ints_app1, ints_len, ints_take, ints_drop, rep_one])
local macro_rules | `(tactic| wtm_at "mem") => `(tactic| first | (with_reducible exact mem_here) | (with_reducible refine mem_there ?_; wtm_at "mem"))
local macro_rules | `(tactic| wtm_at "pp") => `(tactic| first | (with_reducible exact Put.here) | (with_reducible apply Put.there; wtm_at "pp"))
local macro_rules | `(tactic| wtm_at "ho") => `(tactic| first | (with_reducible assumption) | exact Own.get (by with_reducible assumption) (by wtm_at "mem") | exact Own.base (by with_reducible assumption) (by with_reducible assumption))
local macro_rules | `(tactic| wtm_at "qo") => `(tactic| first | (with_reducible assumption) | exact SqL.of (by wtm_at "ho") | exact sqT_tupI (by wtm_at "ho") | exact sqT_tupS (by wtm_at "ho") | exact SqT.of (by wtm_at "ho") | exact Own.imT (by with_reducible assumption) (by wtm_at "mem") | exact Own.sq (by with_reducible assumption) (by with_reducible assumption) | exact Own.sqT (by with_reducible assumption) (by with_reducible assumption))
local macro_rules | `(tactic| wtm_at "sub") => `(tactic| first | exact List.nil_sublist _ | (with_reducible refine List.Sublist.cons_cons _ ?_; wtm_at "sub") | (refine List.Sublist.cons _ ?_; wtm_at "sub"))
local macro_rules | `(tactic| wtm_at "co") => `(tactic| first | (with_reducible assumption) | omega | (exact cmul_r (by omega) (by omega)) | (exact cmul_l (by omega) (by omega)) | (exact cdiv_ok (by omega) (by omega)) | (exact cpow_ok (by decide)) | (exact ⟨by omega, by omega, by omega⟩) | decide | (exact ⟨by omega, by omega⟩) | (simp only [List.length_append, List.length_map, List.length_set, List.length_cons, List.length_nil, rngL_len, sizeLine_eq]; omega) | wtm_at "ho" | wtm_at "qo")
local macro_rules | `(tactic| wtm_at "so") => `(tactic| first | ((with_reducible refine g_dcp ?_); refine dcpI (by wtm_at "ho") ?_) | ((with_reducible refine g_asl ?_); refine And.intro (by rfl) ?_) | ((with_reducible refine g_asqT ?_); refine and_sqT (by wtm_at "qo") ?_) | ((with_reducible refine g_extO ?_); first | (refine extI (by with_reducible assumption) (by wtm_at "pp") (by wtm_at "co") (fun _ _ => ?_)) | (refine extO (by with_reducible assumption) (by wtm_at "pp") (by wtm_at "co") (fun _ _ => ?_))) | ((with_reducible refine g_tp ?_); first | (refine tp_l (by wtm_at "qo") ?_) | (refine tp_t (by wtm_at "qo") ?_)) | ((with_reducible refine g_fldO ?_); refine fldO (by wtm_at "ho") (by with_reducible assumption) (by wtm_at "mem") (by wtm_at "lk") ?_) | ((with_reducible refine g_fldC ?_); refine fldC (by wtm_at "ho") (by with_reducible assumption) (by wtm_at "mem") (by wtm_at "lk") ?_) | ((with_reducible refine g_putC ?_); refine putC (by with_reducible assumption) (by wtm_at "pp") (by wtm_at "pu") (by wtm_at "co") (fun _ _ => ?_)) | ((with_reducible refine g_stoO ?_); refine stoO (by with_reducible assumption) (by wtm_at "pp") (by wtm_at "pu") (by with_reducible assumption) (by wtm_at "mem") (by wtm_at "co") (fun _ _ => ?_)) | ((with_reducible refine g_metO ?_); refine metO (by wtm_at "ho") (by wtm_at "ln") ?_) | ((with_reducible refine g_makO ?_); refine makO (by with_reducible assumption) (fun _ _ _ _ => ?_)) | ((with_reducible refine g_sum ?_); refine sum_call (by wtm_at "qo") ?_) | ((with_reducible refine g_cq ?_); exact cq (by with_reducible assumption) (by simp only [rngL_len, List.length_map, List.length_take]; omega)) | ((with_reducible refine g_newO ?_); refine newO (by with_reducible assumption) (fun _ _ _ => ?_)) | ((with_reducible refine g_appO ?_); refine appI (by with_reducible assumption) (by wtm_at "pp") (by wtm_at "co") (fun _ _ => ?_)) | ((with_reducible refine g_setO ?_); refine setI (by with_reducible assumption) (by wtm_at "pp") (by omega) (by wtm_at "co") (fun _ _ => ?_)) | ((with_reducible refine g_appO ?_); refine appO (by with_reducible assumption) (by wtm_at "pp") (by wtm_at "co") (fun _ _ => ?_)) | ((with_reducible refine g_setO ?_); refine setO (by with_reducible assumption) (by wtm_at "pp") (by omega) (by wtm_at "co") (fun _ _ => ?_)) | ((with_reducible refine g_at ?_); refine at_call (by wtm_at "qo") (by omega) (by omega) (fun _ _ => ?_)) | ((with_reducible refine g_row ?_); refine row_call (by wtm_at "ho") ?_) | ((with_reducible refine g_int ?_); refine int_call ?_) | ((with_reducible refine g_isi ?_); first | (with_reducible refine isi_ii ?_) | (with_reducible refine isi_ib ?_) | (refine isi_int rfl ?_) | (refine isi_sqL rfl (by wtm_at "qo") ?_) | (refine isi_sqT rfl (by wtm_at "qo") ?_) | (refine isi_bl rfl ?_) | (refine isi_non rfl ?_) | (refine isi_str rfl ?_)) | ((with_reducible refine g_ned ?_); first | (refine ned_f (dq_lst (by wtm_at "qo")) (dq_lst (by wtm_at "qo")) ?_) | (refine ned_ints (by wtm_at "qo") (by wtm_at "qo") ?_) | (refine nedT_ints (by wtm_at "qo") (by wtm_at "qo") ?_)) | ((with_reducible refine g_eqd ?_); first | (refine eqd_t (dq_lst (by wtm_at "qo")) (dq_lst (by wtm_at "qo")) ?_) | (refine eqd_ints (by wtm_at "qo") (by wtm_at "qo") ?_) | (refine eqdT_ints (by wtm_at "qo") (by wtm_at "qo") ?_)) | ((with_reducible refine g_tyv ?_); refine and_tyv (by wtm_at "qo") ?_) | ((with_reducible refine g_asq ?_); refine and_sq (by wtm_at "qo") ?_) | ((with_reducible refine g_lst ?_); refine ex_lst (by wtm_at "ho") ?_) | ((with_reducible refine g_or ?_); first | (refine ex_or (by wtm_at "qo") ?_) | (refine ex_ort (by wtm_at "qo") ?_)) | ((with_reducible refine g_sq ?_); refine ex_sq (by wtm_at "qo") ?_) | ((with_reducible refine g_sqt ?_); refine ex_sqt (by wtm_at "qo") ?_) | ((with_reducible refine gd_sel ?_); first | (refine sel_p (by wtm_at "pf") ?_) | (refine sel_n (by wtm_at "pf") ?_)) | ((with_reducible refine gn_sel ?_); first | (refine selN_p (by wtm_at "pf") ?_) | (refine selN_n (by wtm_at "pf") ?_)) | ((with_reducible refine gd_selT ?_); first | (refine selT_p (by wtm_at "pf") ?_) | (refine selT_n (by wtm_at "pf") ?_)) | ((with_reducible refine gn_selT ?_); first | (refine selTN_p (by wtm_at "pf") ?_) | (refine selTN_n (by wtm_at "pf") ?_)) | ((with_reducible refine gd_selE ?_); first | (refine selE_p (by wtm_at "pf") ?_) | (refine selE_n (by wtm_at "pf") ?_)) | ((with_reducible refine gn_selE ?_); first | (refine selEN_p (by wtm_at "pf") ?_) | (refine selEN_n (by wtm_at "pf") ?_)) | ((with_reducible refine g_xf ?_); refine xf_at rfl (by wtm_at "ho") ?_) | ((with_reducible refine g_atI ?_); refine ex_at (by first | exact rfl | exact atI_int (by omega) (by wtm_at "pf") | exact atI_end (by wtm_at "pf")) ?_) | ((with_reducible refine g_and ?_); refine And.intro (by wtm_at "co") ?_))
local macro_rules | `(tactic| wtm_at "oo") => `(tactic| repeat (first | wtm_at "xo" | wtm_at "so"))
local macro_rules | `(tactic| wtm_at "cR") => `(tactic| (refine' compRi _ (by with_reducible assumption) (by omega) (fun _ _ _ _ _ => ?_) (fun _ _ _ => ?_); rotate_left; focus (wtm_at "oo")))

local macro_rules | `(tactic| wtm_at "lk") => `(tactic| first | (with_reducible exact lk_here) | (simp only [lk_here, lk_skip, lk_nil]; first | done | exact rfl))
local macro_rules | `(tactic| wtm_at "ln") => `(tactic| first | (with_reducible exact lk_nil) | (simp only [lk_skip, lk_nil]; done))
local macro_rules | `(tactic| wtm_at "pu") => `(tactic| first | (with_reducible exact pf_nil) | (simp only [pf_nil, pf_here, pf_skip]; first | done | exact rfl))
local macro_rules | `(tactic| wtm_at "tk") => `(tactic| first | (with_reducible exact Take.here) | (exact Take.here) | ((with_reducible apply Take.there); wtm_at "tk"))
local macro_rules | `(tactic| wtm_at "pk") => `(tactic| first | exact Pick.nil | ((with_reducible refine' Pick.cons ?tk1 ?pk1); (case tk1 => wtm_at "tk"); (case pk1 => wtm_at "pk")) | ((with_reducible refine Pick.im (by wtm_at "mem") ?_); wtm_at "pk") | ((with_reducible refine Pick.ims (by wtm_at "mem") ?_); wtm_at "pk"))

local macro_rules | `(tactic| wtm_at "ta") => `(tactic| first | (with_reducible exact TakeA.here) | ((with_reducible apply TakeA.there); wtm_at "ta"))
local macro_rules | `(tactic| wtm_at "tb") => `(tactic| first | (exact TakeA.here) | ((with_reducible apply TakeA.there); wtm_at "tb"))
local macro_rules | `(tactic| wtm_at "pa") => `(tactic| first | exact PickA.nil | ((with_reducible refine PickA.im (by wtm_at "mem") ?_); wtm_at "pa") | ((with_reducible refine PickA.ims (by wtm_at "mem") ?_); wtm_at "pa") | ((with_reducible refine' PickA.any ?tk1 ?pk1); (case tk1 => first | wtm_at "ta" | wtm_at "tb"); (case pk1 => wtm_at "pa")))
section
variable {P : Program} {w : World} {K : PySem.W.Frag} {mg : Str → Option Value} {base : Heap} [TBC K mg base]
theorem powB {n k : Nat} (hn : n ≤ 4) (hk : k ≤ 4) : 0 ≤ ((n : Int) + 1) ^ k ∧ ((n : Int) + 1) ^ k ≤ 625 := by
  rcases (by omega : n = 0 ∨ n = 1 ∨ n = 2 ∨ n = 3 ∨ n = 4) with rfl | rfl | rfl | rfl | rfl <;> rcases (by omega : k = 0 ∨ k = 1 ∨ k = 2 ∨ k = 3 ∨ k = 4) with rfl | rfl | rfl | rfl | rfl <;> decide
def sp_law (K : PySem.W.Frag) : Sp := fun vs H Q _ => ∃ (a : Addr) (ns : List Int), vs = [.ref a] ∧ SqL K H a (ns.map V.int) ∧ ns.length ≤ 63 ∧ TabS H (tabP K) qLam ∧ ∀ H', Q (.bl true) H'
theorem okf_law (T : Tx K mg) {fd : FuncData} (F : FunD K "law" "law" (defArgs s_law) (defBody s_law) (defScope s_law) [] [] (He.ga K "law") fd) : FnOk P w K mg base (L2N.CX P w) 7 (He.ga K "law") fd ["script"] (sp_law K) := by
  refine F.ok sc_law (fun vs H Q E h => ?_) (fun cdv A outer s H vs Q E hr h => ⟨_, (PSs.nox (pss_cons (ps_set (i := 1) sc_law.nd rfl (Or.inl rfl) (by exact (pe_cl (ok__law_draws (K := K) (mg := mg) (base := base) T) (hr.mono (by decide)) rfl (pa_cons (pv 0) pa_nil))))
 (pss_cons (ps_set (i := 2) sc_law.nd rfl (Or.inl rfl) (by exact (pe_op op_add pe_int (pe_cl (ok__law_at (K := K) (mg := mg) (base := base) T) (hr.mono (by decide)) rfl (pa_cons (pv 1) (pa_cons pe_int (pa_cons pe_int pa_nil)))))))
 (pss_cons (ps_set (i := 3) sc_law.nd rfl (Or.inl rfl) (by exact (pe_lst pa_nil)))
 (pss_cons (ps_for PassesOwn.never rfl (pi_range1 rfl T.b_range (pa_cons (pe_cl (ok__law_at (K := K) (mg := mg) (base := base) T) (hr.mono (by decide)) rfl (pa_cons (pv 1) (pa_cons pe_int (pa_cons pe_int pa_nil)))) pa_nil)) (pg_name (i := 4) sc_law.nd rfl (Or.inl rfl))
 (pss_cons (ps_set (i := 5) sc_law.nd rfl (Or.inl rfl) (by exact (pe_op op_add pe_int (pe_cl (ok__law_at (K := K) (mg := mg) (base := base) T) (hr.mono (by decide)) rfl (pa_cons (pv 1) (pa_cons (pe_op op_add pe_int (pe_op op_mul pe_int (pv 4))) (pa_cons (pe_op op_add pe_int (pe_cl (ok__law_at (K := K) (mg := mg) (base := base) T) (hr.mono (by decide)) rfl (pa_cons (pv 1) (pa_cons pe_int (pa_cons pe_int pa_nil))))) pa_nil)))))))
 (pss_cons (ps_if (pt_cmpR op_eq (pe_cl (ok__law_at (K := K) (mg := mg) (base := base) T) (hr.mono (by decide)) rfl (pa_cons (pv 1) (pa_cons (pe_op op_add pe_int (pe_op op_mul pe_int (pv 4))) (pa_cons pe_int pa_nil)))) pe_int (nomark _))
 (pss_one (ps_set (i := 5) sc_law.nd rfl (Or.inl rfl) (by exact pe_int)))
 pss_nil)
 (pss_one (ps_expr (pe_bm PySem.F.plainAttrs_list PySem.F.slot_list_append PySem.F.type_list_append mt_append (pv 3) (pa_cons (pv 5) pa_nil)))))))
 (pss_cons (ps_set (i := 6) sc_law.nd rfl (Or.inl rfl) (by exact (pe_callB (lenK K) rfl T.b_len (by decide +kernel) (pa_cons (pe_lc (own := [("count", 5)]) (g := (gName 5)) rfl sc_law.nd (pi_list (pv 3)) (blkOk_by (own := [("count", 5)]) (N := N_law) (sc := defScope s_law) (by decide +kernel)) (fun _ _ _ _ _ => pg_name (i := 5) sc_law.nd rfl (Or.inl rfl)) (fun _ _ _ _ _ => pts_one (pt_cmpR op_gt (pv 5) pe_int (nomark _))) (fun _ _ _ _ _ => (pv 5))) pa_nil))))
 (pss_cons (ps_set (i := 7) sc_law.nd rfl (Or.inl rfl) (by exact (pe_callTy (lsK K) rfl T.b_list (by decide +kernel) (pa_cons (pv 3) pa_nil))))
 (pss_cons (ps_if (pt_cmpR op_gt (pv 6) (pe_op op_shl pe_int (pv 2)) (nomark _))
 (pss_cons (ps_setLc (i := 8) (own := [("count", 5)]) (g := (gName 5)) (tt := tYes) rfl sc_law.nd rfl rfl (sw_true rfl rfl rfl (by decide +kernel)) (pi_list (pv 3)) (blkOk_by (own := [("count", 5)]) (N := N_law) (sc := defScope s_law) (by decide +kernel)) (fun _ _ _ _ _ => pg_name (i := 5) sc_law.nd rfl (Or.inl rfl)) (fun _ _ _ _ _ => pts_nil) (fun _ _ _ _ _ => pe_int))
 (pss_one (ps_ret (by exact (pe_and (pe_cmpR (eqK K hr.units) (pe_cl (ok__law_narrow (K := K) (mg := mg) (base := base) T) (hr.mono (by decide)) rfl (pa_cons (pv 3) (pa_cons (pv 2) pa_nil))) (pe_lst (pa_cons (pv 6) (pa_cons (pv 6) pa_nil))) (nomark _)) (pe_one (pe_cmpR op_yb (pe_cl (ok_check_lengths (K := K) (mg := mg) (base := base) T) (hr.mono (by decide)) rfl (pa_cons (pv 3) (pa_cons (pv 2) (pa_cons (pv 8) (pa_cons (pe_lst pa_nil) pa_nil))))) pe_bl (nomark _))))))))
 pss_nil)
 (pss_cons (ps_set (i := 9) sc_law.nd rfl (Or.inl rfl) (by exact (pe_cl (ok_shortest (K := K) (mg := mg) (base := base) T) (hr.mono (by decide)) rfl (pa_cons (pv 3) (pa_cons (pv 2) pa_nil)))))
 (pss_cons (ps_set (i := 10) sc_law.nd rfl (Or.inl rfl) (by exact (pe_cl (ok_certificate (K := K) (mg := mg) (base := base) T) (hr.mono (by decide)) rfl (pa_cons (pv 3) (pa_cons (pv 2) pa_nil)))))
 (pss_cons (ps_if (PW.pt (pw_or (pt_not (pt_val (pe_cl (ok__law_is_row (K := K) (mg := mg) (base := base) T) (hr.mono (by decide)) rfl (pa_cons (pv 9) pa_nil)))) (pw_or (pt_cmpR op_ne (pe_callB (lenK K) rfl T.b_len (by decide +kernel) (pa_cons (pv 9) pa_nil)) (pe_callB (lenK K) rfl T.b_len (by decide +kernel) (pa_cons (pv 7) pa_nil)) (nomark _)) (pw_or1 (pt_not (pt_val (pe_cl (ok__law_serves (K := K) (mg := mg) (base := base) T) (hr.mono (by decide)) rfl (pa_cons (pv 7) (pa_cons (pv 2) (pa_cons (pv 9) pa_nil))))))))))
 (pss_one (ps_ret (by exact pe_bl)))
 pss_nil)
 (pss_cons (ps_set (i := 11) sc_law.nd rfl (Or.inl rfl) (by exact (pe_cl (ok__law_cost (K := K) (mg := mg) (base := base) T) (hr.mono (by decide)) rfl (pa_cons (pv 7) (pa_cons (pv 9) pa_nil)))))
 (pss_cons (ps_if (PW.pt (pw_or (pt_cmpR op_ne (pe_cl (ok_cost (K := K) (mg := mg) (base := base) T) (hr.mono (by decide)) rfl (pa_cons (pv 9) (pa_cons (pv 3) pa_nil))) (pv 11) (nomark _)) (pw_or1 (pt_cmpR op_nb (pe_cl (ok_check_lengths (K := K) (mg := mg) (base := base) T) (hr.mono (by decide)) rfl (pa_cons (pv 3) (pa_cons (pv 2) (pa_cons (pv 9) (pa_cons (pv 10) pa_nil))))) pe_bl (nomark _)))))
 (pss_one (ps_ret (by exact pe_bl)))
 pss_nil)
 (pss_cons (ps_set (i := 12) sc_law.nd rfl (Or.inl rfl) (by exact (pe_op op_add (pv 2) pe_int)))
 (pss_cons (ps_set (i := 13) sc_law.nd rfl (Or.inl rfl) (by exact pe_int))
 (pss_cons (ps_for PassesOwn.never rfl (pi_range1 rfl T.b_range (pa_cons (pe_callB (lenK K) rfl T.b_len (by decide +kernel) (pa_cons (pv 7) pa_nil)) pa_nil)) (pg_name (i := 4) sc_law.nd rfl (Or.inl rfl))
 (pss_one (ps_set (i := 13) sc_law.nd rfl (Or.inl rfl) (by exact (pe_op op_mul (pv 13) (pv 12))))))
 (pss_cons (ps_for PassesOwn.never rfl (pi_range1 rfl T.b_range (pa_cons (pv 13) pa_nil)) (pg_name (i := 14) sc_law.nd rfl (Or.inl rfl))
 (pss_cons (ps_set (i := 15) sc_law.nd rfl (Or.inl rfl) (by exact (pv 14)))
 (pss_cons (ps_set (i := 16) sc_law.nd rfl (Or.inl rfl) (by exact (pe_lst pa_nil)))
 (pss_cons (ps_for PassesOwn.never rfl (pi_range1 rfl T.b_range (pa_cons (pe_callB (lenK K) rfl T.b_len (by decide +kernel) (pa_cons (pv 7) pa_nil)) pa_nil)) (pg_name (i := 4) sc_law.nd rfl (Or.inl rfl))
 (pss_cons (ps_expr (pe_bm PySem.F.plainAttrs_list PySem.F.slot_list_append PySem.F.type_list_append mt_append (pv 16) (pa_cons (pe_op op_mod (pe_callTy call_int1 rfl T.b_int (by decide +kernel) (pa_cons (pv 15) pa_nil)) (pv 12)) pa_nil)))
 (pss_one (ps_set (i := 15) sc_law.nd rfl (Or.inl rfl) (by exact (pe_op op_fdiv (pv 15) (pv 12)))))))
 (pss_one (ps_if (pt_val (pe_cl (ok__law_serves (K := K) (mg := mg) (base := base) T) (hr.mono (by decide)) rfl (pa_cons (pv 7) (pa_cons (pv 2) (pa_cons (pv 16) pa_nil)))))
 (pss_cons (ps_if (pt_cmpR op_lt (pe_cl (ok__law_cost (K := K) (mg := mg) (base := base) T) (hr.mono (by decide)) rfl (pa_cons (pv 7) (pa_cons (pv 16) pa_nil))) (pv 11) (nomark _))
 (pss_one (ps_ret (by exact pe_bl)))
 pss_nil)
 (pss_one (ps_if (PW.pt (pw_and (pt_cmpR op_gt (pe_cl (ok__law_cost (K := K) (mg := mg) (base := base) T) (hr.mono (by decide)) rfl (pa_cons (pv 7) (pa_cons (pv 16) pa_nil))) (pv 11) (nomark _)) (pw_and1 (pt_cmpR op_eq (pe_op op_mod (pe_callTy call_int1 rfl T.b_int (by decide +kernel) (pa_cons (pv 14) pa_nil)) pe_int) pe_int (nomark _)))))
 (pss_one (ps_if (pt_cmpR op_nb (pe_cl (ok_check_lengths (K := K) (mg := mg) (base := base) T) (hr.mono (by decide)) rfl (pa_cons (pv 3) (pa_cons (pv 2) (pa_cons (pv 16) (pa_cons (pv 10) pa_nil))))) pe_bl (nomark _))
 (pss_one (ps_ret (by exact pe_bl)))
 pss_nil))
 pss_nil)))
 pss_nil))))))
 (pss_one (ps_ret (by exact (pe_cmpR (eqK K hr.units) (pv 3) (pv 7) (nomark _)))))))))))))))))))))), ?_⟩)
  · first | (obtain ⟨rfl, _⟩ := h; rfl) | (obtain ⟨_, rfl, _⟩ := h; rfl) | (obtain ⟨_, _, rfl, _⟩ := h; rfl) | (obtain ⟨_, _, _, rfl, _⟩ := h; rfl) | (obtain ⟨_, _, _, _, rfl, _⟩ := h; rfl) | (obtain ⟨_, _, _, _, _, rfl, _⟩ := h; rfl) | (obtain ⟨_, _, _, _, _, _, rfl, _⟩ := h; rfl) | (obtain ⟨_, _, _, _, _, _, _, rfl, _⟩ := h; rfl) | (obtain ⟨_, _, _, _, _, _, _, _, rfl, _⟩ := h; rfl) | (obtain ⟨_, _, _, _, _, _, _, _, _, rfl, _⟩ := h; rfl) | (obtain ⟨_, _, _, _, _, _, _, _, _, _, rfl, _⟩ := h; rfl) | (obtain ⟨_, _, _, _, _, _, _, _, _, _, _, rfl, _⟩ := h; rfl) | (obtain ⟨_, _, _, _, _, _, _, _, _, _, _, _, rfl, _⟩ := h; rfl) | (obtain ⟨_, _, _, _, _, _, _, _, _, _, _, _, _, rfl, _⟩ := h; rfl) | (obtain ⟨_, _, _, _, _, _, _, _, _, _, _, _, _, _, rfl, _⟩ := h; rfl) | (obtain ⟨_, _, _, _, _, _, _, _, _, _, _, _, _, _, _, rfl, _⟩ := h; rfl) | (obtain ⟨_, _, _, _, _, _, _, _, _, _, _, _, _, _, _, _, rfl, _⟩ := h; rfl) | (obtain ⟨_, _, _, _, _, _, _, _, _, _, _, _, _, _, _, _, _, rfl, _⟩ := h; rfl) | (obtain ⟨_, _, _, _, _, _, _, _, _, _, _, _, _, _, _, _, _, _, rfl, _⟩ := h; rfl) | (obtain ⟨_, _, _, _, _, _, _, _, _, _, _, _, _, _, _, _, _, _, _, rfl, _⟩ := h; rfl) | (obtain ⟨_, _, _, _, _, _, _, _, _, _, _, _, _, _, _, _, _, _, _, _, rfl, _⟩ := h; rfl) | (obtain ⟨_, _, _, _, _, _, _, _, _, _, _, _, _, _, _, _, _, _, _, _, _, rfl, _⟩ := h; rfl)
  · obtain ⟨a, ns, rfl, hS, hlen, hT, q⟩ := h
    k_call_by "xo" st_law
    have L := Own.startT (K := K) hT
    refine ⟨a, ns, rfl, hS, hlen, fun ds p H1 hd hs hp hl => ?_⟩
    have L := L.add0 hs hp hl
    clear hs hp hl hS
    wtm_at "oo"
    rename_i u0 u1 cp G2 L2 v0 v1
    have L2 : Own K (delL H [tabP K]) G2 [pI cp [], .pt p (.lst (ds.map V.int)), .tab (tabP K)] := L2
    generalize hn5 : (atD ds 1 5).toNat = n5
    refine loop_rangeN (m := n5) rfl (fun i σ H' => ∃ (cs : List Int) (y4 y5 : Option V), σ = [some (.ref a), some (.ref p), some (.int (1 + atD ds 0 4)), some (.ref cp), y4, y5, none, none, none, none, none, none, none, none, none, none, none] ∧ cs.length = i ∧ (∀ x ∈ cs, 0 ≤ x ∧ x ≤ 3000) ∧ Own K (delL H [tabP K]) H' [pI cp cs, .pt p (.lst (ds.map V.int)), .tab (tabP K)]) ⟨[], none, none, rfl, rfl, (fun _ h => nomatch h), L2⟩ ?_ ?_
    · clear L2 L
      rintro i σ H2 hi ⟨cs, y4, y5, rfl, hl, hok, L⟩
      have fin : ∀ (x : Int) (z : Option V) (G : Hp), 0 ≤ x → x ≤ 3000 → Own K (delL H [tabP K]) G [pI cp (cs ++ [x]), .pt p (.lst (ds.map V.int)), .tab (tabP K)] → ∃ (cs' : List Int), cs'.length = i + 1 ∧ (∀ x ∈ cs', 0 ≤ x ∧ x ≤ 3000) ∧ Own K (delL H [tabP K]) G [pI cp cs', .pt p (.lst (ds.map V.int)), .tab (tabP K)] := fun x z G x0 x1 M => ⟨cs ++ [x], by rw [List.length_append, hl]; rfl, fun y hy => by
        rcases List.mem_append.mp hy with h | h
        · exact hok y h
        · rw [List.mem_singleton.mp h]
          exact ⟨x0, x1⟩, M⟩
      wtm_at "oo"
      rename_i w0 w1 w2 w3 w4 w5
      refine sel_d (fun c => ?_) (fun c => ?_)
      · wtm_at "oo"
        rename_i G3 L3
        exact fin 0 none G3 (by omega) (by omega) L3
      · wtm_at "oo"
        rename_i G3 L3
        refine fin _ none G3 (by omega) (by omega) L3
    · clear L2 L
      rintro σ H2 ⟨cs, y4, y5, rfl, hl, hok, L⟩
      have hpos : ∀ x ∈ cs, 0 ≤ x := fun x hx => (hok x hx).1
      have hall : allOk cs := fun i hi => ⟨(hok _ (getD_mem hi)).1, by have := (hok _ (getD_mem hi)).2; omega⟩
      have lcs : cs.length ≤ 5 := by omega
      wtm_at "oo"
      refine compLt (fun x => x) (fun x => decide (0 < x)) L (by wtm_at "qo") (by omega) (fun i x D H4 hx L4 => ?_) (fun H' L4 => by wtm_at "qo") (fun D H4 L4 => ?_)
      · wtm_at "oo"
        refine ite_d (fun c => ?_) (fun c => ?_)
        · wtm_at "oo"
          exact cl_yes L4 hx (by omega) (by simpa using c) rfl
        · exact cl_no L4 hx (by simpa using c)
      have hu : ((cs.filter fun x => decide (0 < x)).map fun x => x).length = usedN cs := by
        rw [List.length_map]
        exact used_filter hpos
      wtm_at "oo"
      rw [hu]
      have hul := usedN_le (cs := cs)
      rename_i kp G5 L5
      clear L4 L
      have m1 : 1 ≤ 1 + atD ds 0 4 := by omega
      have m2 : 1 + atD ds 0 4 ≤ 4 := by omega
      generalize 1 + atD ds 0 4 = m at *
      obtain ⟨n, rfl⟩ := Int.eq_ofNat_of_zero_le (show 0 ≤ m by omega)
      refine sel_d (fun c => ?_) (fun c => ?_)
      · wtm_at "oo"
        refine compLi (fun _ => 0) L5 (by wtm_at "qo") (by omega) (fun i x D H1 hx L1 => ?_) (fun H' L1 => by wtm_at "qo") (fun D2 H6 L6 => ?_)
        · wtm_at "oo"
        have hun : 2 ^ (n : Int).toNat < (usedN cs : Int) := by
          have c := c
          omega
        wtm_at "oo"
        refine ⟨cp, cs, n, rfl, by wtm_at "qo", by omega, L6.tabS (by wtm_at "mem"), m1, by omega, hall, hun, fun tp H7 M => ?_⟩
        have L7 : Own K (delL H [tabP K]) H7 [pI tp [(usedN cs : Int), (usedN cs : Int)], .tab (tabP K), pI D2 (cs.map fun _ => (0 : Int)), pI kp cs, pI cp cs] := Own.pickA (L6.callT2 (by wtm_at "ta") M) (by wtm_at "pa")
        clear M L6 L5
        wtm_at "oo"
        rename_i z8 G8 L8
        have L8 : Own K (delL H [tabP K]) G8 [pI z8 [(usedN cs : Int), (usedN cs : Int)], pI tp [(usedN cs : Int), (usedN cs : Int)], .tab (tabP K), pI D2 (cs.map fun _ => (0 : Int)), pI kp cs, pI cp cs] := L8
        clear L7
        wtm_at "oo"
        rename_i z9 G9 L9
        refine chkCall (cs := cs) (ls := cs.map fun _ => (0 : Int)) (pl := []) (by wtm_at "qo") (by wtm_at "qo") (show SqL K _ z9 [] by wtm_at "qo") (fun q hq => nomatch hq) (by omega) (L9.tabS (by wtm_at "mem")) m1 (by omega) hall fun x2 H12 hx2 M => ?_
        have e2 : x2 = false := by
          cases x2 with
          | false => rfl
          | true =>
            have := hx2.mp rfl
            have hp : (1 : Int) < 2 ^ (n : Int).toNat := by
              have := pow2_le (i := 1) (j := (n : Int).toNat) (by omega)
              omega
            unfold Chk at this
            rw [if_neg (by omega)] at this
            obtain ⟨t, rfl⟩ : ∃ t, n = t + 1 := ⟨n - 1, by omega⟩
            have h3 := this.2.1
            rw [Int.toNat_natCast, formed_succ] at h3
            cases h3
        subst e2
        wtm_at "oo"
        exact q _
      · have hum : (usedN cs : Int) ≤ 2 ^ (n : Int).toNat := by
          have c := c
          omega
        have hum2 : usedN cs ≤ 2 ^ n := by
          rw [Int.toNat_natCast] at hum
          have : ((2 ^ n : Nat) : Int) = (2 : Int) ^ n := by rw [Int.natCast_pow]; rfl
          omega
        obtain ⟨sS, sT, sL⟩ := shp_all (cs := cs) (m := n) hpos (by omega) (by omega) hum2
        wtm_at "oo"
        refine shCall (cs := cs) (by wtm_at "qo") (by omega) (L5.tabS (by wtm_at "mem")) m1 (by omega) hall hum fun lp H6 M => ?_
        rw [Int.toNat_natCast] at M
        have L6 : Own K (delL H [tabP K]) H6 [pI lp (shp cs n), .tab (tabP K), pI kp cs, pI cp cs] := Own.pickA (L5.callT2 (by wtm_at "ta") M) (by wtm_at "pa")
        clear M L5
        wtm_at "oo"
        refine certCall (cs := cs) (by wtm_at "qo") (by omega) (L6.tabS (by wtm_at "mem")) m1 (by omega) hall hum fun r1 pl1 H7 ok1 rc1 M => ?_
        rw [Int.toNat_natCast] at rc1
        have L7 : Own K (delL H [tabP K]) H7 [.pt r1 (.lst (rR pl1)), pRO pl1, pRI pl1, .tab (tabP K), pI lp (shp cs n), pI kp cs, pI cp cs] := Own.pickA (L6.callT4 (by wtm_at "ta") M) (by wtm_at "pa")
        clear M L6
        have hsl : (shp cs n).length = cs.length := shp_len
        generalize shp cs n = sl at *
        wtm_at "oo"
        have hle15 : ∀ l ∈ sl, 0 ≤ l ∧ l ≤ 15 := fun l hl => by
          obtain ⟨i, hi⟩ := List.mem_iff_getElem?.mp hl
          have := sS.2.1 i (by have := lt_of hi; omega)
          unfold okS at this
          rw [getD_of hi] at this
          omega
        refine ⟨kp, lp, cs, sl, n, rfl, by wtm_at "qo", by wtm_at "qo", hsl, m1, by omega, by omega, fun rs hrs => ?_⟩
        have ers : rs = true := hrs.mpr sS
        subst ers
        clear hrs
        wtm_at "oo"
        refine ⟨kp, lp, cs, sl, rfl, by wtm_at "qo", by wtm_at "qo", hsl, by omega, hle15, ?_⟩
        wtm_at "oo"
        refine ⟨lp, cp, sl, cs, rfl, by wtm_at "qo", by wtm_at "qo", hsl, by omega, hle15, fun H8 M => ?_⟩
        have L8 := L7.call M.same
        clear M L7
        wtm_at "oo"
        refine chkCall (cs := cs) (ls := sl) (pl := pl1) (by wtm_at "qo") (by wtm_at "qo") (by wtm_at "qo") (fun q hq => by
          obtain ⟨h1, h2⟩ := rowAt ok1 L8 (by wtm_at "mem") (by wtm_at "mem") hq
          exact ⟨SqL.of h1, h2⟩) (by omega) (L8.tabS (by wtm_at "mem")) m1 (by omega) hall fun x1 H9 hx1 M => ?_
        have e1 : x1 = true := hx1.mpr (by rw [rc1]; exact (sL sl sS).2.mpr rfl)
        have L9 : Own K (delL H [tabP K]) H9 [.tab (tabP K), .pt r1 (.lst (rR pl1)), pRO pl1, pRI pl1, pI lp sl, pI kp cs, pI cp cs] := Own.pickA (L8.callT (by wtm_at "ta") M) (by wtm_at "pa")
        clear M L8 hx1
        subst e1
        wtm_at "oo"
        have lcs4 : cs.length ≤ 4 := by omega
        refine loop_rangeN (m := cs.length) (by omega) (fun k σ H' => ∃ y4, σ = [some (.ref a), some (.ref p), some (.int (n : Nat)), some (.ref cp), y4, y5, some (.int (usedN cs : Nat)), some (.ref kp), none, some (.ref lp), some (.ref r1), some (.int (prodS sl cs)), some (.int ((n : Int) + 1)), some (.int (((n : Int) + 1) ^ k)), none, none, none] ∧ H' = H9) ⟨_, rfl, rfl⟩ ?_ ?_
        · rintro k σ H10 hk ⟨y4, rfl, rfl⟩
          rw [Int.pow_succ]
          have hb := powB (n := n) (k := k) (by omega) (by omega)
          generalize ((n : Int) + 1) ^ k = T0 at *
          wtm_at "oo"
          exact .inl (by omega)
        · rintro σ H10 ⟨y4, rfl, rfl⟩
          have hb := powB (n := n) (k := cs.length) (by omega) lcs4
          generalize ((n : Int) + 1) ^ cs.length = T0 at *
          wtm_at "oo"
          generalize hT : T0.toNat = tn
          refine loop_rangeN (m := tn) rfl (fun k σ H' => ∃ y4 y14 y15 y16, σ = [some (.ref a), some (.ref p), some (.int (n : Nat)), some (.ref cp), y4, y5, some (.int (usedN cs : Nat)), some (.ref kp), none, some (.ref lp), some (.ref r1), some (.int (prodS sl cs)), some (.int ((n : Int) + 1)), some (.int T0), y14, y15, y16] ∧
            Own K (delL H [tabP K]) H' [.tab (tabP K), .pt r1 (.lst (rR pl1)), pRO pl1, pRI pl1, pI lp sl, pI kp cs, pI cp cs]) ⟨_, _, _, _, rfl, L9⟩ ?_ ?_
          · clear L9
            rintro i σ H11 hi ⟨y4, y14, y15, y16, rfl, L⟩
            wtm_at "oo"
            rename_i op H12 L2
            refine loop_rangeN (m := cs.length) (by omega) (fun j σ H' => ∃ (y4 : Option V) (x : Int) (ol : List Int), σ = [some (.ref a), some (.ref p), some (.int (n : Nat)), some (.ref cp), y4, y5, some (.int (usedN cs : Nat)), some (.ref kp), none, some (.ref lp), some (.ref r1), some (.int (prodS sl cs)), some (.int ((n : Int) + 1)), some (.int T0), some (.int (0 + (i : Int))), some (.int x), some (.ref op)] ∧ 0 ≤ x ∧ x ≤ 1000 ∧ ol.length = j ∧ (∀ l ∈ ol, 0 ≤ l ∧ l ≤ (n : Int)) ∧
              Own K (delL H [tabP K]) H' [pI op ol, .tab (tabP K), .pt r1 (.lst (rR pl1)), pRO pl1, pRI pl1, pI lp sl, pI kp cs, pI cp cs]) ⟨_, _, [], rfl, by omega, by omega, rfl, (fun _ h => nomatch h), L2⟩ ?_ ?_
            · clear L2 L
              rintro j σ H13 hj ⟨y4, x, ol, rfl, x0, x1, hol, hr, L⟩
              have m0 := Int.emod_nonneg x (show (n : Int) + 1 ≠ 0 by omega)
              have m1' := Int.emod_lt_of_pos x (show 0 < (n : Int) + 1 by omega)
              have d0 : 0 ≤ x / ((n : Int) + 1) := Int.ediv_nonneg x0 (by omega)
              have d1 : x / ((n : Int) + 1) ≤ x := Int.ediv_le_self _ x0
              wtm_at "oo"
              rename_i H14 L14
              exact ⟨ol ++ [x % ((n : Int) + 1)], by rw [List.length_append, hol]; rfl, fun l hl => (by
                rcases List.mem_append.mp hl with h | h
                · exact hr l h
                · rw [List.mem_singleton.mp h]
                  omega), L14⟩
            · clear L2 L
              rintro σ H13 ⟨y4, x, ol, rfl, x0, x1, hol, hr, L⟩
              have hol15 : ∀ l ∈ ol, 0 ≤ l ∧ l ≤ 15 := fun l hl => by
                have := hr l hl
                omega
              wtm_at "oo"
              refine ⟨kp, op, cs, ol, n, rfl, by wtm_at "qo", by wtm_at "qo", hol, m1, by omega, by omega, fun rs hrs => ?_⟩
              cases rs with
              | false =>
                wtm_at "oo"
                exact L.sub (.cons _ (List.Sublist.refl _))
              | true =>
                have sO := hrs.mp rfl
                obtain ⟨sO1, sO2⟩ := sL ol sO
                wtm_at "oo"
                refine ⟨kp, op, cs, ol, rfl, by wtm_at "qo", by wtm_at "qo", hol, by omega, hol15, ?_⟩
                wtm_at "oo"
                refine ⟨kp, op, cs, ol, rfl, by wtm_at "qo", by wtm_at "qo", hol, by omega, hol15, ?_⟩
                wtm_at "oo"
                refine selT_d (fun c1 => ?_) (fun c1 => ?_)
                · wtm_at "oo"
                  refine sel_d (fun c2 => ?_) (fun c2 => ?_)
                  · wtm_at "oo"
                    refine chkCall (cs := cs) (ls := ol) (pl := pl1) (by wtm_at "qo") (by wtm_at "qo") (by wtm_at "qo") (fun q hq => by
                      obtain ⟨h1, h2⟩ := rowAt ok1 L (by wtm_at "mem") (by wtm_at "mem") hq
                      exact ⟨SqL.of h1, h2⟩) (by omega) (L.tabS (by wtm_at "mem")) m1 (by omega) hall fun x2 H14 hx2 M => ?_
                    have e2 : x2 = false := by
                      cases x2 with
                      | false => rfl
                      | true =>
                        have := hx2.mp rfl
                        rw [rc1] at this
                        have := sO2.mp this
                        omega
                    have L14 : Own K (delL H [tabP K]) H14 [.tab (tabP K), pI op ol, .pt r1 (.lst (rR pl1)), pRO pl1, pRI pl1, pI lp sl, pI kp cs, pI cp cs] := Own.pickA (L.callT (by wtm_at "ta") M) (by wtm_at "pa")
                    subst e2
                    clear M hx2 L
                    wtm_at "oo"
                    exact L14.sub (.cons_cons _ (.cons _ (List.Sublist.refl _)))
                  · wtm_at "oo"
                    exact L.sub (.cons _ (List.Sublist.refl _))
                · wtm_at "oo"
                  exact L.sub (.cons _ (List.Sublist.refl _))
          · rintro σ H11 ⟨y4, y14, y15, y16, rfl, L⟩
            wtm_at "oo"
            exact q _


end
end K13

namespace K13
open PySem PySem.Spec PyProof.Rows L2 Bel LamX
def fa : List He.Fa := [.glo "_law_draws", .glo "_law_at", .glo "_law_is_integer", .glo "_law_is_row", .glo "_weight_of", .glo "weight", .glo "is_oversubscribed", .glo "_used", .glo "_check_range", .glo "_taken_from_first", .glo "_lengths_without_rows", .glo "_formed_rows", .glo "certificate", .glo "shortest", .glo "cost", .glo "_serve", .glo "check_lengths", .glo "_law_serves", .glo "_law_cost", .glo "_law_narrow", .glo "law", .free "abs", .free "bool", .free "enumerate", .free "int", .free "isinstance", .free "len", .free "list", .free "min", .free "range", .free "sorted", .free "sum", .free "zip"]
def fn : List He.DefD := [⟨("_law_draws", none), "_law_draws", "_law_draws", defArgs s__law_draws, defBody s__law_draws, defScope s__law_draws, [], []⟩, ⟨("_law_at", none), "_law_at", "_law_at", defArgs s__law_at, defBody s__law_at, defScope s__law_at, [], []⟩, ⟨("_law_is_integer", none), "_law_is_integer", "_law_is_integer", defArgs s__law_is_integer, defBody s__law_is_integer, defScope s__law_is_integer, [], []⟩, ⟨("_law_is_row", none), "_law_is_row", "_law_is_row", defArgs s__law_is_row, defBody s__law_is_row, defScope s__law_is_row, [], []⟩, ⟨("_weight_of", none), "_weight_of", "_weight_of", defArgs s__weight_of, defBody s__weight_of, defScope s__weight_of, [], []⟩, ⟨("weight", none), "weight", "weight", defArgs s_weight, defBody s_weight, defScope s_weight, [], []⟩, ⟨("is_oversubscribed", none), "is_oversubscribed", "is_oversubscribed", defArgs s_is_oversubscribed, defBody s_is_oversubscribed, defScope s_is_oversubscribed, [], []⟩, ⟨("_used", none), "_used", "_used", defArgs s__used, defBody s__used, defScope s__used, [], []⟩, ⟨("_check_range", none), "_check_range", "_check_range", defArgs s__check_range, defBody s__check_range, defScope s__check_range, [], []⟩, ⟨("_taken_from_first", none), "_taken_from_first", "_taken_from_first", defArgs s__taken_from_first, defBody s__taken_from_first, defScope s__taken_from_first, [], []⟩, ⟨("_lengths_without_rows", none), "_lengths_without_rows", "_lengths_without_rows", defArgs s__lengths_without_rows, defBody s__lengths_without_rows, defScope s__lengths_without_rows, [], []⟩, ⟨("_formed_rows", none), "_formed_rows", "_formed_rows", defArgs s__formed_rows, defBody s__formed_rows, defScope s__formed_rows, [], []⟩, ⟨("certificate", none), "certificate", "certificate", defArgs s_certificate, defBody s_certificate, defScope s_certificate, [], []⟩, ⟨("shortest", none), "shortest", "shortest", defArgs s_shortest, defBody s_shortest, defScope s_shortest, [], []⟩, ⟨("cost", none), "cost", "cost", defArgs s_cost, defBody s_cost, defScope s_cost, [], []⟩, ⟨("_serve", none), "_serve", "_serve", defArgs s__serve, defBody s__serve, defScope s__serve, [], []⟩, ⟨("check_lengths", none), "check_lengths", "check_lengths", defArgs s_check_lengths, defBody s_check_lengths, defScope s_check_lengths, [], []⟩, ⟨("_law_serves", none), "_law_serves", "_law_serves", defArgs s__law_serves, defBody s__law_serves, defScope s__law_serves, [], []⟩, ⟨("_law_cost", none), "_law_cost", "_law_cost", defArgs s__law_cost, defBody s__law_cost, defScope s__law_cost, [], []⟩, ⟨("_law_narrow", none), "_law_narrow", "_law_narrow", defArgs s__law_narrow, defBody s__law_narrow, defScope s__law_narrow, [], []⟩, ⟨("law", none), "law", "law", defArgs s_law, defBody s_law, defScope s_law, [], []⟩, ⟨("BellowsError", some "__init__"), "__init__", "BellowsError.__init__", defArgs s_BellowsError___init__, defBody s_BellowsError___init__, defScope s_BellowsError___init__, [], []⟩]
def ck (K : PySem.W.Frag) : List Bool := [exFB K "OutOfRange", exFB K "TooNarrow", decide (PySem.W.typeIn K (.ref (He.ma K (He.ga K "BellowsError") "__init__")) = some (.type "function")), cvB K "MOST_BITS" (.int (15)), cvB K "FULL_WEIGHT" (.int (32768)), cvB K "_PAIR" (.int (-1))]
def ex (K : PySem.W.Frag) : Bool := (ck K).all id
abbrev R : PySem.W.OpenRow := PySem.W.OpenLaw.row PySem.Challenge.rw_bellows_k13_shortest_of_few
abbrev hk : PySem.W.Hook := He.hookX 4 fa fn [] [tabD] ex
def ob (s : PySem.W.SharedT) : He.AlX := He.obsX 4 fa fn [] [tabD] ex (HandSHeadRun.getT s)
theorem ob_eq (s : PySem.W.SharedT) : ob s = hk.obs s.abs := He.obsX_eq (HandSHeadRun.getT_eq s)
def loose : List Str := (["BellowsError", "FULL_WEIGHT", "MOST_BITS", "OutOfRange", "TooNarrow", "_PAIR", "_check_range", "_formed_rows", "_law_at", "_law_cost", "_law_draws", "_law_is_integer", "_law_is_row", "_law_narrow", "_law_serves", "_lengths_without_rows", "_serve", "_taken_from_first", "_used", "_weight_of", "certificate", "check_lengths", "cost", "is_oversubscribed", "shortest", "weight"] : List Str)
theorem run (w : World) : HandSHeadRun.RunEq R (PySem.W.view R.prog [30]) hk ob 6000 loose w := by
  intro os
  kernel_rfl
theorem tx_of {w : World} {K : PySem.W.Frag} {h : Heap} {mg : Str → Option Value} (X : K.In h) (G : h.Ns mainGlobals mg) (c : He.SaysX fa fn [] [tabD] ex w h K) : Tx K mg := by
  have hf : ∀ {f : He.Fa}, f ∈ fa → f.ok K = true := fun m => He.SaysD.facts c.t.d m
  have hx : ∀ (i : Nat) {b : Bool}, (ck K)[i]? = some b → b = true := fun i b e => List.all_eq_true.mp c.more b (List.mem_of_getElem? e)
  exact ⟨He.free_ok X G (hf (List.mem_of_getElem? (i := 21) rfl)),
    He.free_ok X G (hf (List.mem_of_getElem? (i := 22) rfl)),
    He.free_ok X G (hf (List.mem_of_getElem? (i := 23) rfl)),
    He.free_ok X G (hf (List.mem_of_getElem? (i := 24) rfl)),
    He.free_ok X G (hf (List.mem_of_getElem? (i := 25) rfl)),
    He.free_ok X G (hf (List.mem_of_getElem? (i := 26) rfl)),
    He.free_ok X G (hf (List.mem_of_getElem? (i := 27) rfl)),
    He.free_ok X G (hf (List.mem_of_getElem? (i := 28) rfl)),
    He.free_ok X G (hf (List.mem_of_getElem? (i := 29) rfl)),
    He.free_ok X G (hf (List.mem_of_getElem? (i := 30) rfl)),
    He.free_ok X G (hf (List.mem_of_getElem? (i := 31) rfl)),
    He.free_ok X G (hf (List.mem_of_getElem? (i := 32) rfl)),
    cvB_ok X G (hx 3 rfl),
    cvB_ok X G (hx 4 rfl),
    cvB_ok X G (hx 5 rfl),
    exFB_ok X G (hx 0 rfl),
    exFB_ok X G (hx 1 rfl),
    ⟨He.glo_ok X G (hf (List.mem_of_getElem? (i := 0) rfl)), He.SaysD.defs c.t.d (d := fn[0]) (List.mem_of_getElem? (i := 0) rfl)⟩,
    ⟨He.glo_ok X G (hf (List.mem_of_getElem? (i := 1) rfl)), He.SaysD.defs c.t.d (d := fn[1]) (List.mem_of_getElem? (i := 1) rfl)⟩,
    ⟨He.glo_ok X G (hf (List.mem_of_getElem? (i := 2) rfl)), He.SaysD.defs c.t.d (d := fn[2]) (List.mem_of_getElem? (i := 2) rfl)⟩,
    ⟨He.glo_ok X G (hf (List.mem_of_getElem? (i := 3) rfl)), He.SaysD.defs c.t.d (d := fn[3]) (List.mem_of_getElem? (i := 3) rfl)⟩,
    ⟨He.glo_ok X G (hf (List.mem_of_getElem? (i := 4) rfl)), He.SaysD.defs c.t.d (d := fn[4]) (List.mem_of_getElem? (i := 4) rfl)⟩,
    ⟨He.glo_ok X G (hf (List.mem_of_getElem? (i := 5) rfl)), He.SaysD.defs c.t.d (d := fn[5]) (List.mem_of_getElem? (i := 5) rfl)⟩,
    ⟨He.glo_ok X G (hf (List.mem_of_getElem? (i := 6) rfl)), He.SaysD.defs c.t.d (d := fn[6]) (List.mem_of_getElem? (i := 6) rfl)⟩,
    ⟨He.glo_ok X G (hf (List.mem_of_getElem? (i := 7) rfl)), He.SaysD.defs c.t.d (d := fn[7]) (List.mem_of_getElem? (i := 7) rfl)⟩,
    ⟨He.glo_ok X G (hf (List.mem_of_getElem? (i := 8) rfl)), He.SaysD.defs c.t.d (d := fn[8]) (List.mem_of_getElem? (i := 8) rfl)⟩,
    ⟨He.glo_ok X G (hf (List.mem_of_getElem? (i := 9) rfl)), He.SaysD.defs c.t.d (d := fn[9]) (List.mem_of_getElem? (i := 9) rfl)⟩,
    ⟨He.glo_ok X G (hf (List.mem_of_getElem? (i := 10) rfl)), He.SaysD.defs c.t.d (d := fn[10]) (List.mem_of_getElem? (i := 10) rfl)⟩,
    ⟨He.glo_ok X G (hf (List.mem_of_getElem? (i := 11) rfl)), He.SaysD.defs c.t.d (d := fn[11]) (List.mem_of_getElem? (i := 11) rfl)⟩,
    ⟨He.glo_ok X G (hf (List.mem_of_getElem? (i := 12) rfl)), He.SaysD.defs c.t.d (d := fn[12]) (List.mem_of_getElem? (i := 12) rfl)⟩,
    ⟨He.glo_ok X G (hf (List.mem_of_getElem? (i := 13) rfl)), He.SaysD.defs c.t.d (d := fn[13]) (List.mem_of_getElem? (i := 13) rfl)⟩,
    ⟨He.glo_ok X G (hf (List.mem_of_getElem? (i := 14) rfl)), He.SaysD.defs c.t.d (d := fn[14]) (List.mem_of_getElem? (i := 14) rfl)⟩,
    ⟨He.glo_ok X G (hf (List.mem_of_getElem? (i := 15) rfl)), He.SaysD.defs c.t.d (d := fn[15]) (List.mem_of_getElem? (i := 15) rfl)⟩,
    ⟨He.glo_ok X G (hf (List.mem_of_getElem? (i := 16) rfl)), He.SaysD.defs c.t.d (d := fn[16]) (List.mem_of_getElem? (i := 16) rfl)⟩,
    ⟨He.glo_ok X G (hf (List.mem_of_getElem? (i := 17) rfl)), He.SaysD.defs c.t.d (d := fn[17]) (List.mem_of_getElem? (i := 17) rfl)⟩,
    ⟨He.glo_ok X G (hf (List.mem_of_getElem? (i := 18) rfl)), He.SaysD.defs c.t.d (d := fn[18]) (List.mem_of_getElem? (i := 18) rfl)⟩,
    ⟨He.glo_ok X G (hf (List.mem_of_getElem? (i := 19) rfl)), He.SaysD.defs c.t.d (d := fn[19]) (List.mem_of_getElem? (i := 19) rfl)⟩,
    ⟨He.glo_ok X G (hf (List.mem_of_getElem? (i := 20) rfl)), He.SaysD.defs c.t.d (d := fn[20]) (List.mem_of_getElem? (i := 20) rfl)⟩,
    ⟨of_decide_eq_true (hx 2 rfl), He.SaysD.defs c.t.d (d := fn[21]) (List.mem_of_getElem? (i := 21) rfl)⟩⟩
theorem last {l : PySem.W.OpenLaw} {w : World} {K : PySem.W.Frag} {h : Heap} {mg : Str → Option Value} {fa : Addr} {fa' : List He.Fa} {fn' : List He.DefD} {ex' : PySem.W.Frag → Bool} (T : Tx K mg) (KX : K.In h) (c : He.SaysX fa' fn' [] [tabD] ex' w h K) (hmg : mg "law" = some (.ref fa)) :
    ∃ K : PySem.W.Frag, K.In h ∧ LamX.LawAtS l w K L2.CX0 7 63 "script" mg fa h := by
  obtain ⟨gm, fd, F⟩ := T.d_law
  have e := hmg.symm.trans gm
  cases e
  have b := FunD.bindsA (ps := ["script"]) F fun _ _ _ _ _ _ us hl => match us, hl with | [_], _ => rfl
  refine ⟨K, KX, fd, [He.cT K tabD], sp_law K, ?_, ?_, ?_, fun s u => b s [u] rfl, fun H a ns hl _ hT hS => ⟨a, ns, rfl, hS, hl, LamX.TabS.nil (hT _ (List.mem_singleton.mpr rfl)), fun _ => rfl⟩, fun base _ _ tb => ?_⟩
  · intro p hp
    rw [List.mem_singleton.mp hp]
    exact c.empty _ (List.mem_singleton.mpr rfl)
  · intro p hp
    rw [List.mem_singleton.mp hp]
    exact c.out _ (List.mem_singleton.mpr rfl)
  · intro p hp
    rw [List.mem_singleton.mp hp]
    exact PySem.W.codeHd_of_K KX (c.hd _ (List.mem_singleton.mpr rfl))
  · haveI : TBC K mg base := ⟨tb _ (List.mem_singleton.mpr rfl)⟩
    exact toCX0 (okf_law T F) fun _ _ _ _ z => z
end K13

open PySem PySem.W PySem.Calls PyProof.Rows
set_option maxHeartbeats 0 in
theorem PySem.Challenge.cw_bellows_k13_shortest_of_few_holds : PySem.Challenge.rw_bellows_k13_shortest_of_few.Holds := by
  w_on; o_law
  refine HandSHeadRun.head_any (r := OpenLaw.row PySem.Challenge.rw_bellows_k13_shortest_of_few) (q := view (OpenLaw.row PySem.Challenge.rw_bellows_k13_shortest_of_few).prog [30]) (H := K13.hk) (ob := K13.ob) (M := 6000) (loose := K13.loose) (d := HandSHeadRun.topDef (OpenLaw.row PySem.Challenge.rw_bellows_k13_shortest_of_few).prog 30) (kwd := []) K13.ob_eq
    (by kernel_rfl) (fun s => by kernel_rfl) K13.run (by kernel_rfl) (by kernel_rfl) (by kernel_rfl) (by rfl) (by first | assumption | decide +kernel) (by decide +kernel) ⟨rfl, rfl, rfl, rfl, rfl, by decide +kernel⟩ ?hw ?hc
  case hw => w_witness2
  case hc =>
    refine LamX.walk_ofTsE (l := PySem.Challenge.rw_bellows_k13_shortest_of_few) (n := 63) (k := 7) (x := "script") (CX := fun _ => L2.CX0) rfl (by decide) (by kernel_rfl) ⟨rfl, by decide, by decide⟩ ?F (fun _ _ _ _ _ z => z)
    intro w mg fa h Y G hmg0
    obtain ⟨K, KX, c⟩ := Y
    have hmg : mg ("law" : PySem.Str) = some (.ref fa) := by
      have e : (HandSHeadRun.topDef (OpenLaw.row PySem.Challenge.rw_bellows_k13_shortest_of_few).prog 30).name = ("law" : PySem.Str) := by kernel_rfl
      rw [← e]
      exact hmg0
    have T := K13.tx_of KX G c
    exact K13.last T KX c hmg
