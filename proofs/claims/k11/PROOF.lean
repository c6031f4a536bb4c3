import PyProof.Rows.All
import Wide.All
import OpenK.AllK
import Wide.FinOn
import HandS.ForMost
import HandS.ForExc
import HandS.ExcInit
import HandS.ExcField
import HandS.IsInst
import HandS.Defaults
import HandS.Head0
import HandS.Head1
import HandS.Head2
import HandS.HeadEnd
import HandS.HeadHook4
import HandS.WideBits
import HandS.SetFor
import HandS.ExcCtx
import HandS.HotCalls
import HandS.ExcInitHot
import HandS.RevRange
import HandS.TryOnly
import PySem.Challenge.RW_bellows_k11_symbols_read
set_option Elab.async false
set_option linter.all false
set_option maxRecDepth 100000
set_option maxHeartbeats 4000000
namespace Bel
open PySem PySem.Spec PyProof.Rows L2
theorem passN {X : Cx} : Passes (L2N.CX X.prog X.w) X E0 := fun _ _ _ _ _ _ _ z => by
  obtain ⟨_, _, _, _, _, _, _, _, _, _, _, _, no⟩ := z
  cases no
theorem takes0N {X : Cx} : L2N.Takes X (fun _ _ _ _ => False) := fun _ _ z => by
  obtain ⟨_, _, _, _, _, _, _, _, _, _, _, _, _, _, _, _, no⟩ := z
  cases no
section
variable {X : Cx} {es : List Expr} {e : Expr} {ta : TA} {p pos : Pos}
/-- an own exception made by its __init__: its context is None -/
theorem made_n {CX : CXT} {x : Str} {C fI : Addr} {k : Nat} {fd : FuncData} {ps : List Str} {sp : Sp} {ds : List Value} {dvs : List V}
    (T : OexC X.K C)
    (ini : PySem.W.findIn X.K (.ref C) "__init__" = some (some (.ref fI)))
    (isf : PySem.W.typeIn X.K (.ref fI) = some (.type "function"))
    (pr : FnOk X.prog X.w X.K X.mg X.base CX k fI fd ps sp)
    (room : Room (k + 1) X.A) (bnd : Binds X.K fd ps ds) (dv : Vals dvs ds)
    (out : Passes CX X (fun _ _ _ => False)) (hg : Gl X x) (hm : X.mg x = some (.ref C)) (ha : PA X (e :: es) ta)
    (hdb : (x == ("__debug__" : Str)) = false)
    (h1 : starEach (e :: es) X.env = (false, eval e X.env) :: starEach es X.env)
    (h2 : (backTo pos (starEach es X.env)).any (·.1) = false) :
    L2N.PMk X (.Call (.Name x p) (e :: es) [] pos) (tMkO C sp dvs ta) := by
  intro pn st σ H Q hin want
  obtain ⟨_, _, _, _, m, _, _, _, _, _, _, _, _, _, _, cl, mref⟩ := T.cls
  refine wpAny_Call_Name_kw (ld_glob hin hg hm ?_ hdb)
  refine PySem.W.callWith_K (h₀ := X.base)
    hin.ok.mod.kin T.kC (thn (ha.run pos pn st σ H _ hin want) fun us s1 got => ?_) h1 h2
  obtain ⟨vs, G, in1, rel, small, start⟩ := got
  refine ⟨in1.kIn, ?_⟩
  show wpAny _ _ (call (.ref C) us) _ _ _
  obtain ⟨hp, g, dr, tk, os⟩ := s1
  let N := hp.objs.size
  have up : N ≤ N + 1 := Nat.le_succ _
  have go := start (N + 1) (in1.hok.fresh up)
  let h' := (hp.push (PySem.W.kdv_tup us)).push (PySem.HandSPX.excO C N)
  have keep : ∀ b o, hp.get? b = some o → h'.get? b = some o := fun b o z =>
    Heap.get?_push_of_some _ (Heap.get?_push_of_some _ z)
  have there : h'.get? (N + 1) = some (PySem.HandSPX.excO C N) := by
    show ((hp.push (PySem.W.kdv_tup us)).push (PySem.HandSPX.excO C hp.objs.size)).get? (hp.objs.size + 1) = _
    heap_get
  have in2 : Inv X pn σ (upd G (N + 1) (exo (N + 1) C none)) ⟨h', g, dr, tk, os⟩ :=
    in1.laid (t' := tk) (a := N + 1) (o := exo (N + 1) C none) (h' := h') keep up (exo_ok there)
  have all : Vals (V.ref (N + 1) :: (vs ++ dvs)) (Value.ref (N + 1) :: (us ++ ds)) :=
    .cons rfl (rel.append dv)
  have size : (Value.ref (N + 1) :: us ++ ds).length = ps.length :=
    all.length.symm.trans (pr.len _ _ _ _ go)
  have few : us.length ≤ sizeLine := by
    rw [← Paired.length rel, sizeLine_eq]
    omega
  have body := pr.run _ X.stack _ _ ⟨Value.ref (N + 1) :: us, []⟩
    (Value.ref (N + 1) :: (us ++ ds)) _ _ (fun _ _ _ => False)
    (room.make C us []) (in2.env0.make C us [])
    (bnd _ (Value.ref (N + 1) :: us) in2.kIn size) all go
  refine wpAny_call (PySem.HandSPX.call_own PySem.F.excBase_ValueError
    (fun Y => PySem.HandSPX.refsVE_contains Y m mref) (in1.kIn _ _ cl)
    (PySem.W.looks_findIn in1.kIn ini) (fun self => PySem.W.bind_fn in1.kIn self isf) few
    (codeAny_mono body fun r s' fin => ?_))
  rcases r with er | fl
  · exact out pn σ _ _ er s' in2 fin
  · cases fl with
    | ret u =>
      obtain ⟨v, H2, os2, bare2, un2, hok2, rv, ev, d, fs, ea, ed, fresh, q2⟩ := fin
      subst ev
      obtain ⟨w2, g2, d2, t2, os'⟩ := s'
      obtain ⟨t0, B, J, kB, gone, obj, na⟩ :=
        mk_end0 (d2 := d2) (t2 := t2) in1 up keep un2 hok2 os2 bare2 ea ed fresh
      have ctx : PySem.PXN.CtxN ({ cls := .ref C, dict := some d, data := .fields #[.ref t0, .none, .none, .none, .bool false, .none] } : Obj) := fun vs z => by
        cases z
        rfl
      exact ⟨rv, N + 1, _, _, ⟨B, g2, d2, t2, os'⟩, _, .ref C, some d, rfl, J, kB, gone, obj,
        ⟨rfl, rfl, ctx⟩, rfl, rfl, na, rfl, bare2, raises_own T.exC T.tyC, q2⟩
    | next => exact fin.elim
    | brk => exact fin.elim
    | cont => exact fin.elim
end
/-! ### defs by name -/
structure Cl (P : Program) (w : World) (K : PySem.W.Frag) (mg : Str → Option Value) (base : Heap) (k : Nat) (x : Str) (ps : List Str) (sp : Sp) (dvs : List V) : Prop where
  ex : ∃ (f : Addr) (fd : FuncData) (ds : List Value), FnOk P w K mg base (L2N.CX P w) k f fd ps sp ∧ mg x = some (.ref f) ∧ PySem.W.keepIn K (.ref f) = true ∧ Binds K fd ps ds ∧ Vals dvs ds
section
variable {X : Cx} {k : Nat} {x : Str} {ps : List Str} {sp : Sp} {dvs : List V} {p pos : Pos} {e : Expr} {es : List Expr} {t : TA} {W : WX}
theorem pe_cl (c : Cl X.prog X.w X.K X.mg X.base k x ps sp dvs) (hr : Room k X.A) (hg : Gl X x) (ha : PA X (e :: es) t)
    (hdb : (x == ("__debug__" : Str)) = false := by decide) (he : starEach (e :: es) X.env = (false, eval e X.env) :: starEach es X.env := by rfl) (hpl : (backTo pos (starEach es X.env)).any (·.1) = false := by rfl) :
    PE X (.Call (.Name x p) (e :: es) [] pos) (tCall sp dvs E0 t) := by
  obtain ⟨f, fd, ds, F, hm, hk, hb, hd⟩ := c.ex
  exact pe_call F hr hg hm hk hb hd passN ha hdb he hpl
theorem pe_cl0 (c : Cl X.prog X.w X.K X.mg X.base k x ps sp dvs) (hr : Room k X.A) (hg : Gl X x)
    (hdb : (x == ("__debug__" : Str)) = false := by decide) :
    PE X (.Call (.Name x p) [] [] pos) (tCall sp dvs E0 tNil) := by
  obtain ⟨f, fd, ds, F, hm, hk, hb, hd⟩ := c.ex
  exact pe_call0 F hr hg hm hk hb hd passN hdb
theorem run_fnD {f : Addr} {fd : FuncData} {dl : List Value} {Ex : XK} {pn : List (Addr × Obj)} {st : L2.St} {Hs : Hp} {sh : Shared} {Qv : VK} {args : List Value} {av : List V} (hr : Room k X.A) (hin : Inv X pn st Hs sh) (rel : Vals av args) (hd : Vals dvs dl)
    (ok : FnOk X.prog X.w X.K X.mg X.base (L2N.CX X.prog X.w) k f fd ps sp) (bnd : Binds X.K fd ps dl) (out : PassesAt (L2N.CX X.prog X.w) X st Ex)
    (pr : sp (av ++ dvs) Hs Qv Ex) : wpAny (model X.prog X.w) X.A (call (.ref f) args) (EP X pn st Qv) X.xe sh := by
  have all := rel.append hd
  have size : (args ++ dl).length = ps.length := by
    rw [← all.length]
    exact ok.len _ _ _ _ pr
  refine wpAny_call (codeAny_mono (ok.run X.A X.stack sh Hs ⟨args, []⟩ (args ++ dl) (av ++ dvs) Qv Ex hr hin.env0 (bnd sh args hin.kIn size) all pr) fun res sh2 fin => ?_)
  rcases res with er | fl
  · exact out pn Hs sh er sh2 hin fin
  · cases fl with
    | ret u => exact hin.after fin
    | next => exact fin.elim
    | brk => exact fin.elim
    | cont => exact fin.elim
/-- a call whose exceptions the body takes by W -/
def tClS (sp : Sp) (dvs : List V) (W : WX) (t : TA) : TE := fun σ H Q => t σ H fun vs H1 => sp (vs ++ dvs) H1 Q (WE W σ)
theorem pe_clS
    (c : Cl X.prog X.w X.K X.mg X.base k x ps sp dvs) (hr : Room k X.A) (hg : Gl X x) (tk : L2N.Takes X W) (ha : PA X (e :: es) t)
    (hdb : (x == ("__debug__" : Str)) = false := by decide) (he : starEach (e :: es) X.env = (false, eval e X.env) :: starEach es X.env := by rfl) (hpl : (backTo pos (starEach es X.env)).any (·.1) = false := by rfl) :
    PE X (.Call (.Name x p) (e :: es) [] pos) (tClS sp dvs W t) := by
  obtain ⟨f, fd, dl, ok, gm, kept, bnd, hd⟩ := c.ex
  refine ⟨fun pn sh st Hs Qv hin hq => wpAny_Call_Name_kw (ld_glob hin hg gm ?_ hdb)⟩
  refine PySem.W.callWith_K (h₀ := X.base) hin.ok.mod.kin kept (thn (ha.run pos pn sh st Hs _ hin hq) fun args sh1 ⟨av, H1, in1, rel, pr⟩ => ⟨in1.kIn, ?_⟩) he hpl
  exact run_fnD hr in1 rel hd ok bnd (L2N.passAt tk st) pr
end
theorem pe_gc {X : Cx} {x : Str} {pos : Pos} {v : V} (hg : Gl X x) (h : ∃ u, X.mg x = some u ∧ RelV v u) (hd : (x == ("__debug__" : Str)) = false := by decide) : PE X (.Name x pos) (tC v) := by
  obtain ⟨u, hm, r⟩ := h
  exact pe_glob hg hm r hd
theorem toCX0 {P : Program} {w : World} {K : PySem.W.Frag} {mg : Str → Option Value} {base : Heap} {k : Nat} {f : Addr} {fd : FuncData} {ps : List Str} {sp : Sp} (F : FnOk P w K mg base (L2N.CX P w) k f fd ps sp) (h : ∀ vs H Q E, sp vs H Q E → sp vs H Q E0) : FnOk P w K mg base CX0 k f fd ps sp := by
  refine ⟨F.len, fun A outer s H args us vs Q E hr e0 hb r hs => codeAny_mono (F.run A outer s H args us vs Q E0 hr e0 hb r (h _ _ _ _ hs)) fun r s' hq => ?_⟩
  cases r with
  | error e =>
    obtain ⟨_, _, _, _, _, _, _, _, _, _, _, _, z⟩ := hq
    exact z
  | ok fl => cases fl <;> exact hq
/-! ### own exceptions with the one attribute at -/
open He in
structure ExF (K : PySem.W.Frag) (mg : Str → Option Value) (x : Str) : Prop where
  g : mg x = some (.ref (ga K x))
  oex : OexC K (ga K x)
  iC : PySem.W.findIn K (.ref (ga K x)) "__init__" = some (some (.ref (ma K (ga K "BellowsError") "__init__")))
  noat : PySem.W.findIn K (.ref (ga K x)) "at" = some none
  xf : XfC K (ga K x)
  te : PySem.W.exmOne K (.ref (ga K x)) (.ref (ga K x)) = some true
open He in
def oexB (K : PySem.W.Frag) (C : Addr) : Bool := (match K.lookup C with
  | some ⟨.type "type", _, .cls data, slots⟩ => (match data.mro, slots.toList with
    | .ref C' :: line, [_, _, _, _, some (.builtin n), _] => decide (C' = C) && (decide (n = "ValueError.__new__") && (!data.hasDel && (data.hasDict && PySem.HandSPX.refsVE line)))
    | _, _ => false)
  | _ => false) && (decide (PySem.W.findIn K (.ref C) "__setattr__" = some (some (.builtin "object.__setattr__"))) && (decide (PySem.W.subIn K (.ref C) (.type "BaseException") = some true) && (decide (PySem.W.typeIn K (.ref C) = some (.type "type")) && PySem.W.keepIn K (.ref C))))
theorem ba {x y : Bool} (e : (x && y) = true) : x = true ∧ y = true := by
  cases x <;> cases y <;> first | exact ⟨rfl, rfl⟩ | cases e
theorem oexB_ok {K : PySem.W.Frag} {C : Addr} (h : oexB K C = true) : OexC K C := by
  obtain ⟨q, h⟩ := ba h
  obtain ⟨h2, h⟩ := ba h
  obtain ⟨h3, h⟩ := ba h
  obtain ⟨h4, h5⟩ := ba h
  refine ⟨?_, of_decide_eq_true h2, of_decide_eq_true h3, of_decide_eq_true h4, h5⟩
  split at q
  · rename_i own data slots there
    split at q
    · rename_i C2 line z0 z1 z2 z3 n z5 em es
      simp only [Bool.and_eq_true, decide_eq_true_eq, Bool.not_eq_true'] at q
      obtain ⟨rfl, rfl, nodel, dict, tail⟩ := q
      obtain ⟨nm, bases, mro, ns, qn, hdict, sn, subs, abs, coll, del⟩ := data
      dsimp only at em nodel dict
      subst em nodel dict
      have e6 : slots = #[z0, z1, z2, z3, some (.builtin "ValueError.__new__"), z5] := by
        cases slots with
        | mk l =>
          simp only at es
          rw [es]
      subst e6
      exact ⟨_, _, _, _, _, _, _, _, _, _, _, _, _, _, _, there, tail⟩
    · cases q
  · cases q
open He in
def exFB (K : PySem.W.Frag) (x : Str) : Bool := decide (PySem.W.nsIn K mainGlobals x = some (some (.ref (ga K x)))) && (oexB K (ga K x) && (decide (PySem.W.findIn K (.ref (ga K x)) "__init__" = some (some (.ref (ma K (ga K "BellowsError") "__init__")))) && (decide (PySem.W.findIn K (.ref (ga K x)) "at" = some none) && (xfB K (ga K x) && decide (PySem.W.exmOne K (.ref (ga K x)) (.ref (ga K x)) = some true)))))
theorem exFB_ok {K : PySem.W.Frag} {h : Heap} {mg : Str → Option Value} {x : Str} (X : K.In h) (G : h.Ns mainGlobals mg) (c : exFB K x = true) : ExF K mg x := by
  obtain ⟨h1, c⟩ := ba c
  obtain ⟨h2, c⟩ := ba c
  obtain ⟨h3, c⟩ := ba c
  obtain ⟨h4, c⟩ := ba c
  obtain ⟨h5, h6⟩ := ba c
  exact ⟨PySem.W.mg_of X G (of_decide_eq_true h1), oexB_ok h2, of_decide_eq_true h3, of_decide_eq_true h4, xfB_ok h5, of_decide_eq_true h6⟩
def cvB (K : PySem.W.Frag) (x : Str) (v : V) : Bool := match PySem.W.nsIn K mainGlobals x with
  | some (some u) => He.relB v u
  | _ => false
theorem cvB_ok {K : PySem.W.Frag} {h : Heap} {mg : Str → Option Value} {x : Str} {v : V} (X : K.In h) (G : h.Ns mainGlobals mg) (c : cvB K x v = true) : ∃ u, mg x = some u ∧ RelV v u := by
  unfold cvB at c
  split at c
  · rename_i u e
    exact ⟨u, PySem.W.mg_of X G e, He.relB_ok c⟩
  · cases c
/-- BellowsError.__init__ -/
def spInit (K : PySem.W.Frag) : Sp := fun vs H Q _ => ∃ (a C : Addr) (v : V), vs = [.ref a, v] ∧ OexC K C ∧ PySem.W.findIn K (.ref C) "at" = some none ∧ H a = some (exo a C none) ∧
  ∀ dx, H dx = none → dx ≠ a → Q .non (upd (upd H dx (exd dx [("at", v)])) a (exo a C (some dx)))
structure InitOk (P : Program) (w : World) (K : PySem.W.Frag) (mg : Str → Option Value) (base : Heap) : Prop where
  ex : ∃ fd, FnOk P w K mg base (L2N.CX P w) 1 (He.ma K (He.ga K "BellowsError") "__init__") fd ["self", "at"] (spInit K) ∧ Binds K fd ["self", "at"] [] ∧ PySem.W.typeIn K (.ref (He.ma K (He.ga K "BellowsError") "__init__")) = some (.type "function")
/-- raise X(e) -/
def Bz (K : PySem.W.Frag) (C : Addr) (W : WX) (σ : L2.St) (vs : List V) (H1 : Hp) : Prop := vs.length ≤ 1000 ∧ ∀ a, H1 a = none → spInit K (.ref a :: (vs ++ [])) (upd H1 a (exo a C none))
  (fun v H2 => v = .non ∧ ∃ (d : Addr) (fs : List (Str × V)), H2 a = some (exo a C (some d)) ∧ H2 d = some (exd d fs) ∧ H1 d = none ∧ W (.ref C) (some d) σ (upd (del H2 a) d (.xd fs))) (fun _ _ _ => False)
def tRz (K : PySem.W.Frag) (C : Addr) (W : WX) (ta : TA) : TS := fun _ σ H => ta σ H fun vs H1 => Bz K C W σ vs H1
theorem bz {K : PySem.W.Frag} {mg : Str → Option Value} {x : Str} {W : WX} {σ : L2.St} {v : V} {H : Hp} (T : ExF K mg x) (h : ∀ d, H d = none → W (.ref (He.ga K x)) (some d) σ (upd H d (.xd [("at", v)]))) : Bz K (He.ga K x) W σ [v] H := by
  refine ⟨(by show 1 ≤ 1000; decide), fun a ha => ⟨a, He.ga K x, v, rfl, T.oex, T.noat, upd_same, fun dx hdx hne => ⟨rfl, dx, [("at", v)], upd_same, ?_, ?_, ?_⟩⟩⟩
  · rw [upd_ne hne, upd_same]
  · rw [upd_ne hne] at hdx
    exact hdx
  · rw [upd_ne hne] at hdx
    have e : upd (del (upd (upd (upd H a (exo a (He.ga K x) none)) dx (exd dx [("at", v)])) a (exo a (He.ga K x) (some dx))) a) dx (.xd [("at", v)]) = upd H dx (.xd [("at", v)]) := by
      funext b
      by_cases hb : b = dx
      · rw [hb, upd_same, upd_same]
      · rw [upd_ne hb, upd_ne hb]
        by_cases hc : b = a
        · rw [hc, del_same, ha]
        · rw [del_ne hc, upd_ne hc, upd_ne hb, upd_ne hc]
    rw [e]
    exact h dx hdx
theorem ps_raiseB {X : Cx} {x : Str} {p pos pos2 : Pos} {e : Expr} {te : TA} {W : WX} (T : ExF X.K X.mg x) (I : InitOk X.prog X.w X.K X.mg X.base) (hr : Room 2 X.A) (tk : L2N.Takes X W) (he : PA X [e] te) (hc : X.calm = true := by rfl) (hg : Gl X x := by rfl)
    (hdb : (x == ("__debug__" : Str)) = false := by decide) (hst : starEach (e :: []) X.env = (false, eval e X.env) :: starEach [] X.env := by rfl) (hpl : (backTo pos (starEach [] X.env)).any (·.1) = false := by rfl) :
    PS X (.Raise (some (.Call (.Name x p) [e] [] pos)) none pos2) (tRz X.K (He.ga X.K x) W te) := by
  obtain ⟨fd, F, b, ti⟩ := I.ex
  exact L2N.ps_raise hc tk (made_n (dvs := []) (ds := []) (CX := L2N.CX X.prog X.w) T.oex T.iC ti F hr b .nil passN hg T.g he hdb hst hpl)
/-- e.at in a suite -/
theorem pe_xfB {X : Cx} {a : Addr} {oe : Obj} {cls : Value} {d : Option Addr} {pn : List (Addr × Obj)} {e : Expr} {te : TE} {pos : Pos} {x : Str} (T : ExF X.K X.mg x)
    (hz : L2N.Zn cls d oe) (hf : ∃ vs, oe.data = .fields vs) (he : PE (X.suite a ((a, oe) :: pn)) e te) (hb : attributeBase e "at" X.env (eval e X.env) = eval e X.env := by rfl) :
    PE (X.suite a ((a, oe) :: pn)) (.Attribute e "at" pos) (tXf a cls d (He.ga X.K x) "at" te) := pe_xf T.xf T.noat hz.zc hf he hb
/-! ### try with several clauses, each with a name -/
abbrev Cls3 := Value × Nat × (Addr → Value → Option Addr → TS)
abbrev freed (D : Ends) (i : Nat) : Ends := ⟨fun s h => D.nx (s.set i none) h, D.rt, fun s h => D.bk (s.set i none) h, fun s h => D.ct (s.set i none) h⟩
def wManyB (K : PySem.W.Frag) (Wout : WX) (D : Ends) : List Cls3 → WX
  | [] => Wout
  | (c, i, ts) :: more => fun cls d st Hs => ∃ yes, PySem.W.exmOne K cls c = some yes ∧
      (yes = true → ∀ a, Hs a = none → ts a cls d (freed D i) (st.set i (some (.ref a))) Hs) ∧ (yes = false → wManyB K Wout D more cls d st Hs)
inductive HdsB (X : Cx) : List ExceptHandler → List Cls3 → Prop
  | nil : HdsB X [] []
  | cons {x n : Str} {c : Value} {i : Nat} {ts : Addr → Value → Option Addr → TS} {s0 : Stmt} {suite : List Stmt} {p1 p2 : Pos} {hds : List ExceptHandler} {l : List Cls3}
      (at_ : X.N[i]? = some n) (own : X.env.kindOf n = some .local) (nm : Names X x c)
      (run : ∀ (a : Addr) (oe : Obj) (cls : Value) (d : Option Addr) (pn : List (Addr × Obj)), L2N.Zn cls d oe → (∃ vs, oe.data = .fields vs) → PSs (X.suite a ((a, oe) :: pn)) (s0 :: suite) (ts a cls d))
      (more : HdsB X hds l) : HdsB X (.ExceptHandler (some (.Name x p1)) (some n) (s0 :: suite) p2 :: hds) ((c, i, ts) :: l)
theorem ps_try_manyB {X : Cx} {body : List Stmt} {h0 : ExceptHandler} {hds : List ExceptHandler} {l : List Cls3} {pos : Pos} {tb : WX → TS} {Wout : WX}
    (stk : X.stack = X.env :: X.outer) (frm : X.env.frame = some X.env.locals) (nodup : X.N.Nodup) (tk : L2N.Takes X Wout)
    (hb : ∀ (W : WX) (pn : List (Addr × Obj)) (xe : Value → Shared → Prop), L2N.Takes (X.tr pn xe) W → PassesOwn (model X.prog X.w) X.A X.env xe → PSs (X.tr pn xe) body (tb W))
    (hh : HdsB X (h0 :: hds) l) : PS X (.Try body (h0 :: hds) [] [] pos) (fun D st Hs => tb (wManyB X.K Wout D l) D st Hs) := by
  refine ⟨fun pn sh st Hs D hin hq => ?_⟩
  have good := hin.ok
  have frames : X.A.frames = some (X.env :: X.outer) := by
    rw [good.frames, stk]
  refine wpAny_Try_except (wpAny_mono ((hb (wManyB X.K Wout D l) (X.pn ++ pn) (fun e t1 => wpAny (model X.prog X.w) X.A (noteFrame e X.env) (fun _ t2 => wpAny (model X.prog X.w) X.A (setFlight e none) (fun _ t3 =>
    wpAny (model X.prog X.w) X.A (handleBy e X.env (h0 :: hds)) (SP X pn D) X.xe t3) X.xe t2) X.xe t1) (fun u t xx => ?_) PassesOwn.looking).run [] sh st Hs D (hin.toTry _) hq) (fun fl t1 fin => ?_) (fun e t1 z => z))
  · obtain ⟨a, ground, sI, pn2, st2, H2, cls, d, rfl, inT, nb, up, sky, free, os, bare, wish⟩ := xx
    have in2 : Inv X pn st2 H2 sI := inT.ofTry good
    rw [show (X.tr (X.pn ++ pn) _).stack = X.env :: X.outer from stk] at sky
    show wpAny (model X.prog X.w) X.A (noteFrame (.ref a) X.env) _ _ _
    refine L2N.Sky.land L2N.Zn.steady frames frm sky fun g3 fly3 up3 => ?_
    have in3 : Inv X pn st2 H2 { t with heap := g3 } := in2.landed nb fly3.1 (up.trans up3) os bare
    obtain ⟨ob3, fs3, get3, zc3, dat3⟩ := fly3.there
    have notIn : a ∉ frs (X.env :: X.outer) := fun hm => by
      obtain ⟨_, o2, e2, nf⟩ := fly3.2.2.1.mem hm
      rw [get3] at e2
      cases e2
      exact nf _ dat3
    have nL : a ≠ X.env.locals := fun z => notIn (List.mem_filterMap.mpr ⟨X.env, List.mem_cons_self, by rw [frm, z]⟩)
    have nF : a ∉ X.fs := fun hm => by
      obtain ⟨en, men, q⟩ := List.mem_filterMap.mp hm
      exact notIn (List.mem_filterMap.mpr ⟨en, List.mem_cons_of_mem _ men, q⟩)
    have su3 := in3.suite get3 dat3 free nL nF
    have go : ∀ {hs' : List ExceptHandler} {l' : List Cls3}, HdsB X hs' l' → wManyB X.K Wout D l' cls d st2 H2 → wpAny (model X.prog X.w) X.A (handleBy (.ref a) X.env hs') (SP X pn D) X.xe { t with heap := g3 } := by
      intro hs' l' hk
      induction hk with
      | nil =>
        intro wish
        refine wpAny_handleBy_nil ?_
        obtain ⟨_, _, _, ob, fs, T, oT, _, get, _, dat, f1, _⟩ := id fly3
        unfold PySem.passOn
        refine wpAny_bind (wpAny_field get dat f1 ?_)
        rw [if_neg (show ¬ ((Value.ref T == Value.none) = true) by simp)]
        have last : wpAny (model X.prog X.w) X.A (setFlight (.ref a) X.env.frame) (fun _ t4 => wpAny (model X.prog X.w) X.A (throw (.ref a) : Sem Flow) (SP X pn D) X.xe t4) X.xe { t with heap := g3 } := by
          rw [frm]
          refine HandSPX.setFlight_upZ fly3 fun g4 held up4 => wpAny_throw (tk _ _ ⟨a, ground, sI, pn, st2, H2, cls, d, rfl, in2, nb, (up.trans up3).trans up4, .inr (.inr ?_), free, os, bare, wish⟩)
          rw [stk]
          exact held
        first | exact wpAny_bind last | exact wpAny_bind (wpAny_pure (wpAny_bind last))
      | @cons x n c i ts s0 suite p1 p2 hds2 l2 at_ own nm run more ih =>
        rintro ⟨yes, he, hy, hn⟩
        refine wpAny_handleBy_cons (codeAny_handlers_test ?_) (by intro q; cases q)
        have isCls : PySem.W.Looks (model X.prog X.w) g3 (typeOf (.ref a)) cls := fun _ _ _ _ kp q => wpAny_typeOf_ref (kp _ _ get3) (by rw [zc3.1]; exact q)
        have named : ∀ {Qv : Value → Shared → Prop} {Ev : Value → Shared → Prop}, Qv c { t with heap := g3 } → wpAny (model X.prog X.w) (X.A.mark (some (.ref a))) (eval (.Name x p1) X.env) Qv Ev { t with heap := g3 } := fun q => by
          obtain ⟨hg, hdb, hm | ⟨hm, hv, hne⟩⟩ := nm
          · exact ld_glob (X := X.suite a ((a, ob3) :: (X.pn ++ pn))) su3 hg hm q hdb
          · exact ld_blt (X := X.suite a ((a, ob3) :: (X.pn ++ pn))) su3 hg hm hv q hne hdb
        refine named ((PySem.W.exm_one (M := model X.prog X.w) in3.kIn isCls he).here ?_)
        cases yes with
        | false => exact ih (hn rfl)
        | true =>
          refine codeAny_handlers_suite_as (HandSPX.lands_againZ fly3 fun g4 fly4 up4 => ?_)
          have in4 : Inv X pn st2 H2 { t with heap := g4 } := in2.landed nb fly4.1 ((up.trans up3).trans up4) os bare
          obtain ⟨ob4, fs4, get4, zc4, dat4⟩ := fly4.there
          refine store_ok (X := X.suite a ((a, ob4) :: (X.pn ++ pn))) (v := .ref a) (in4.suite get4 dat4 free nL nF) nodup at_ (.inl own) rfl (fun t5 in5 => ?_) (.inr own)
          refine wpAny_mono ((run a ob4 cls d (X.pn ++ pn) zc4 ⟨_, dat4⟩).run [] t5 _ H2 _ in5 (hy rfl a free)) (fun fl t6 fin => ?_) (fun _ _ z => z.elim)
          cases fl with
          | next =>
            obtain ⟨_, _, in6, q⟩ := fin
            exact gone_ok (in6.unsuite good) nodup at_ own fun _ in7 => ⟨_, _, in7, q⟩
          | brk =>
            obtain ⟨_, _, in6, q⟩ := fin
            exact gone_ok (in6.unsuite good) nodup at_ own fun _ in7 => ⟨_, _, in7, q⟩
          | cont =>
            obtain ⟨_, _, in6, q⟩ := fin
            exact gone_ok (in6.unsuite good) nodup at_ own fun _ in7 => ⟨_, _, in7, q⟩
          | ret u =>
            obtain ⟨_, _, _, in6, r6, q⟩ := fin
            exact gone_ok (in6.unsuite good) nodup at_ own fun _ in7 => ⟨_, _, _, in7, r6, q⟩
    exact go hh wish
  · cases fl with
    | next =>
      obtain ⟨_, _, inE, q⟩ := fin
      exact wpAny_execs_nil ⟨_, _, inE.ofTry good, q⟩
    | brk =>
      obtain ⟨_, _, inE, q⟩ := fin
      exact ⟨_, _, inE.ofTry good, q⟩
    | cont =>
      obtain ⟨_, _, inE, q⟩ := fin
      exact ⟨_, _, inE.ofTry good, q⟩
    | ret u =>
      obtain ⟨_, _, _, inE, r, q⟩ := fin
      exact ⟨_, _, _, inE.ofTry good, r, q⟩
theorem many_yes {K : PySem.W.Frag} {mg : Str → Option Value} {x : Str} {i : Nat} {ts : Addr → Value → Option Addr → TS} {l : List Cls3} {Wout : WX} {D : Ends} {st : L2.St} {Hs : Hp} {d : Option Addr} (T : ExF K mg x)
    (h : ∀ a, Hs a = none → ts a (.ref (He.ga K x)) d (freed D i) (st.set i (some (.ref a))) Hs) : wManyB K Wout D ((.ref (He.ga K x), i, ts) :: l) (.ref (He.ga K x)) d st Hs := ⟨true, T.te, fun _ => h, fun z => nomatch z⟩
theorem many_no {K : PySem.W.Frag} {c cls : Value} {i : Nat} {ts : Addr → Value → Option Addr → TS} {l : List Cls3} {Wout : WX} {D : Ends} {st : L2.St} {Hs : Hp} {d : Option Addr} (T : PySem.W.exmOne K cls c = some false)
    (h : wManyB K Wout D l cls d st Hs) : wManyB K Wout D ((c, i, ts) :: l) cls d st Hs := ⟨false, T, (fun z => nomatch z), fun _ => h⟩
/-! ### rules whose reading names the written part itself (for comprehensions) -/
section
variable {X : Cx} (K : PySem.W.Frag)
theorem ixl (h : X.K = K := by rfl) : IxR X (rIxL K) := h ▸ ix_list
theorem ixt (h : X.K = K := by rfl) : IxR X (rIxT K) := h ▸ ix_tup
theorem slK (h : X.K = K := by rfl) : SlR X (rSlL K) := h ▸ sl_list
theorem lenK (h : X.K = K := by rfl) : CallR X (.builtin "len") (fun xs H Q => ∃ p ys, xs = [.ref p] ∧ (SqL K H p ys ∨ SqT K H p ys) ∧ Q (.int ys.length) H) := h ▸ call_len_seq
theorem isiK (h : X.K = K := by rfl) : CallR X (.builtin "isinstance") (rIsi K) := h ▸ call_isi
theorem lstK (h : X.K = K := by rfl) : CallR X (.type "list") (fun xs H Q => ∃ p ys, xs = [.ref p] ∧ (SqL K H p ys ∨ SqT K H p ys) ∧ ∀ l, H l = none → Q (.ref l) (upd H l (.lst ys))) := h ▸ call_list_of
theorem eqK (hu : X.A.units + 64 < cLine) (h : X.K = K := by rfl) : OpR X (compareOp .Eq) (rEqD K) := h ▸ op_eqD hu
theorem neK (hu : X.A.units + 64 < cLine) (h : X.K = K := by rfl) : OpR X (compareOp .NotEq) (rNeD K) := h ▸ op_neD hu
theorem sumK (hc : X.calm = true) (h : X.K = K := by rfl) : CallR X (.builtin "sum") (rSum K) := h ▸ cr_sum hc
theorem cntK (h : X.K = K := by rfl) : MtR X "list.count" (rCntI K) := h ▸ mt_lcount
end
end Bel

namespace Bel
open PySem PySem.Spec PyProof.Rows L2
/-! ### readings opened step by step (each an equation) -/
def Sel (b : Bool) (t u : TS) : TS := if b = true then t else u
def SelE (b : Bool) (t u : TE) : TE := if b = true then t else u
def SelT (b : Bool) (t u : TT) : TT := if b = true then t else u
def SelC (b : Bool) (A B : Prop) : Prop := if b = true then A else B
def tK (b : Bool) : TT := fun _ H Q => Q b H
section
variable {t u : TS} {ta tb tc te : TE} {tA tB' : TT} {D : Ends} {σ : L2.St} {H : Hp} {Q : VK} {QT : Bool → Hp → Prop} {QA : List V → Hp → Prop} {K : PySem.W.Frag} {r : R2} {l : TA} {v : V} {i : Nat}
theorem x_next : tNext D σ H = D.nx σ H := rfl
theorem x_seq : tSeq t u D σ H = t { D with nx := u D } σ H := rfl
theorem x_brk : tBreak D σ H = D.bk σ H := rfl
theorem x_cont : tCont D σ H = D.ct σ H := rfl
theorem x_drop : tDrop te D σ H = te σ H (fun _ H1 => D.nx σ H1) := rfl
theorem x_ret : tRet te D σ H = te σ H D.rt := rfl
theorem x_retN : tRetN D σ H = D.rt .non H := rfl
theorem x_if : tIfS tA t u D σ H = tA σ H (fun b H1 => Sel b t u D σ H1) := by
  show tA σ H _ = tA σ H _
  congr 1
  funext b H1
  cases b <;> rfl
theorem sel_t : Sel true t u = t := rfl
theorem sel_f : Sel false t u = u := rfl
theorem selE_t : SelE true ta tb = ta := rfl
theorem selE_f : SelE false ta tb = tb := rfl
theorem selT_t : SelT true tA tB' = tA := rfl
theorem selT_f : SelT false tA tB' = tB' := rfl
theorem selC_t {A B : Prop} : SelC true A B = A := rfl
theorem selC_f {A B : Prop} : SelC false A B = B := rfl
theorem sel {b : Bool} (h1 : b = true → t D σ H) (h2 : b = false → u D σ H) : Sel b t u D σ H := by
  cases b
  · exact h2 rfl
  · exact h1 rfl
theorem selE {b : Bool} (h1 : b = true → ta σ H Q) (h2 : b = false → tb σ H Q) : SelE b ta tb σ H Q := by
  cases b
  · exact h2 rfl
  · exact h1 rfl
theorem selT {b : Bool} (h1 : b = true → tA σ H QT) (h2 : b = false → tB' σ H QT) : SelT b tA tB' σ H QT := by
  cases b
  · exact h2 rfl
  · exact h1 rfl
theorem sel_d {p : Prop} {_ : Decidable p} (h1 : p → t D σ H) (h2 : ¬ p → u D σ H) : Sel (decide p) t u D σ H := sel (fun e => h1 (of_decide_eq_true e)) (fun e => h2 (of_decide_eq_false e))
theorem selE_d {p : Prop} {_ : Decidable p} (h1 : p → ta σ H Q) (h2 : ¬ p → tb σ H Q) : SelE (decide p) ta tb σ H Q := selE (fun e => h1 (of_decide_eq_true e)) (fun e => h2 (of_decide_eq_false e))
theorem selT_d {p : Prop} {_ : Decidable p} (h1 : p → tA σ H QT) (h2 : ¬ p → tB' σ H QT) : SelT (decide p) tA tB' σ H QT := selT (fun e => h1 (of_decide_eq_true e)) (fun e => h2 (of_decide_eq_false e))
theorem x_test : tTest te σ H QT = te σ H (fun x H' => ∃ k, x = .bl k ∧ QT k H') := rfl
theorem x_tB : L2.tB te σ H QT = te σ H (fun x H' => ∃ k, x = .bl k ∧ QT k H') := rfl
theorem x_op : tOp r ta tb σ H Q = ta σ H (fun x H1 => tb σ H1 (fun y H2 => r x y H2 Q)) := rfl
theorem x_un {ru : V → Hp → VK → Prop} : tUn ru ta σ H Q = ta σ H (fun x H1 => ru x H1 Q) := rfl
theorem x_var : tVar i σ H Q = ∃ v, σ[i]? = some (some v) ∧ Q v H := rfl
theorem x_c : tC v σ H Q = Q v H := rfl
theorem x_cb {rl : List V → Hp → VK → Prop} : tCB rl l σ H Q = l σ H (fun vs H1 => rl vs H1 Q) := rfl
theorem x_nil : tNil σ H QA = QA [] H := rfl
theorem x_cons : tCons ta l σ H QA = ta σ H (fun x H1 => l σ H1 (fun xs H2 => QA (x :: xs) H2)) := rfl
theorem x_rI {C : Int → Int → Prop} {g : Int → Int → V} {a b : V} : rI C g a b H Q = ∃ i j, a = .int i ∧ b = .int j ∧ C i j ∧ Q (g i j) H := rfl
theorem x_rI0 {g : Int → Int → V} {a b : V} : rI0 g a b H Q = ∃ i j, a = .int i ∧ b = .int j ∧ Q (g i j) H := rfl
theorem x_rU {g : Int → V} {a : V} : rU g a H Q = ∃ i, a = .int i ∧ Q (g i) H := rfl
theorem x_rEq {a b : V} : rEq a b H Q = (scal a b = true ∧ Q (.bl (decide (a = b))) H) := rfl
theorem x_rNe {a b : V} : rNe a b H Q = (scal a b = true ∧ Q (.bl (!decide (a = b))) H) := rfl
theorem x_rIxL {a b : V} : rIxL K a b H Q = ∃ p xs i v, a = .ref p ∧ b = .int i ∧ SqL K H p xs ∧ atI xs i = some v ∧ Q v H := rfl
theorem x_rIxT {a b : V} : rIxT K a b H Q = ∃ p xs i v, a = .ref p ∧ b = .int i ∧ SqT K H p xs ∧ atI xs i = some v ∧ Q v H := rfl
theorem x_rSlL {a : V} {lo hi : Option Int} : rSlL K a lo hi H Q = ∃ p xs, a = .ref p ∧ SqL K H p xs ∧ ∀ q, H q = none → Q (.ref q) (upd H q (.lst (cutV xs lo hi))) := rfl
theorem x_rCat {a b : V} : rCat a b H Q = ∃ l m xs zs, a = .ref l ∧ b = .ref m ∧ H l = some (.lst xs) ∧ H m = some (.lst zs) ∧ xs.length + zs.length ≤ sizeLine ∧ ∀ p, H p = none → Q (.ref p) (upd H p (.lst (xs ++ zs))) := rfl
theorem x_rRep {a b : V} : rRep a b H Q = ∃ l k xs, a = .ref l ∧ b = .int k ∧ H l = some (.lst xs) ∧ -(2 ^ 63) ≤ k ∧ k < 2 ^ 63 ∧ xs.length * k.toNat ≤ sizeLine ∧ ∀ p, H p = none → Q (.ref p) (upd H p (.lst (List.replicate k.toNat xs).flatten)) := by first | rfl | (unfold rRep; rfl)
theorem x_rApp {a : V} {vs : List V} : rAppend a vs H Q = ∃ l xs y, a = .ref l ∧ vs = [y] ∧ H l = some (.lst xs) ∧ xs.length < sizeLine ∧ Q .non (upd H l (.lst (xs ++ [y]))) := rfl
theorem x_bm {T : String} {rm : V → List V → Hp → VK → Prop} : tBM K T rm ta l σ H Q = ta σ H (fun x H1 => tyV K T x H1 ∧ l σ H1 (fun xs H2 => rm x xs H2 Q)) := rfl
theorem x_bm0 {T : String} {rm : V → List V → Hp → VK → Prop} : tBM0 K T rm ta σ H Q = ta σ H (fun x H1 => tyV K T x H1 ∧ rm x [] H1 Q) := rfl
theorem x_sl {rs : V → Option Int → Option Int → Hp → VK → Prop} {tl th : TO} : tSl rs te tl th σ H Q = te σ H (fun x H1 => tl σ H1 (fun l H2 => th σ H2 (fun u H3 => rs x l u H3 Q))) := rfl
theorem x_nopart {QO : Option Int → Hp → Prop} : tNoPart σ H QO = QO none H := rfl
theorem x_part {QO : Option Int → Hp → Prop} : tPart te σ H QO = te σ H (fun x H1 => ∃ i, x = .int i ∧ QO (some i) H1) := rfl
theorem x_tup : tTup l σ H Q = l σ H (fun xs H1 => xs.length ≤ sizeLine ∧ ∀ p, H1 p = none → Q (.ref p) (upd H1 p (.tup xs))) := rfl
theorem x_lst : tLst l σ H Q = l σ H (fun xs H1 => xs.length ≤ sizeLine ∧ ∀ p, H1 p = none → Q (.ref p) (upd H1 p (.lst xs))) := rfl
theorem x_call {sp : Sp} {dvs : List V} {E : XK} : tCall sp dvs E l σ H Q = l σ H (fun vs H1 => sp (vs ++ dvs) H1 Q E) := rfl
theorem x_callS {sp : Sp} {dvs : List V} {W : WX} : tClS sp dvs W l σ H Q = l σ H (fun vs H1 => sp (vs ++ dvs) H1 Q (WE W σ)) := rfl
theorem x_asg {g : TG} : tAsg te g D σ H = te σ H (fun x H1 => g x σ H1 D.nx) := rfl
theorem x_gname {QG : L2.St → Hp → Prop} : gName i v σ H QG = QG (σ.set i (some v)) H := rfl
theorem x_gtup {n : Nat} {gs : TGs} {QG : L2.St → Hp → Prop} : gTup K n gs v σ H QG = ∃ a xs, v = .ref a ∧ SqT K H a xs ∧ xs.length = n ∧ gs xs σ H QG := rfl
theorem x_gnil {vs : List V} {QG : L2.St → Hp → Prop} : gNil vs σ H QG = (vs = [] ∧ QG σ H) := rfl
theorem x_gcons {vs : List V} {g : TG} {gs : TGs} {QG : L2.St → Hp → Prop} : gCons g gs vs σ H QG = ∃ v r, vs = v :: r ∧ g v σ H (fun σ' H' => gs r σ' H' QG) := rfl
theorem x_gsub {to ti : TE} {ts : TSet} {QG : L2.St → Hp → Prop} : gSub to ti ts v σ H QG = to σ H (fun o H1 => ti σ H1 (fun i H2 => ts o i v H2 (fun H3 => QG σ H3))) := rfl
theorem x_setL {o i' : V} {QH : Hp → Prop} : rSetL o i' v H QH = ∃ p xs k j, o = .ref p ∧ i' = .int k ∧ H p = some (.lst xs) ∧ ixN xs.length k = some j ∧ QH (upd H p (.lst (xs.set j v))) := rfl
theorem x_aug {ti : TIp} : tAug i te ti D σ H = ∃ x, σ[i]? = some (some x) ∧ te σ H (fun y H1 => ti x y H1 (fun z H2 => D.nx (σ.set i (some z)) H2)) := rfl
theorem x_ipI {f : Int → Int → Int} {a b : V} : ipI f a b H Q = ∃ i j, a = .int i ∧ b = .int j ∧ Q (.int (f i j)) H := rfl
theorem x_and : tAnd tA tB' σ H QT = tA σ H (fun c H1 => SelT c tB' (tK false) σ H1 QT) := by
  show tA σ H _ = tA σ H _
  congr 1
  funext c H1
  cases c <;> rfl
theorem x_or : tOr tA tB' σ H QT = tA σ H (fun c H1 => SelT c (tK true) tB' σ H1 QT) := by
  show tA σ H _ = tA σ H _
  congr 1
  funext c H1
  cases c <;> rfl
theorem x_not : tNot tA σ H QT = tA σ H (fun c H1 => QT (!c) H1) := rfl
theorem x_k {b : Bool} : tK b σ H QT = QT b H := rfl
theorem x_andV : tAndV ta tb σ H Q = ta σ H (fun x H1 => ∃ c, x = .bl c ∧ SelE c tb (tC (.bl false)) σ H1 Q) := by
  show ta σ H _ = ta σ H _
  congr 1
  funext x H1
  congr 1
  funext c
  cases c <;> rfl
theorem x_orV : tOrV ta tb σ H Q = ta σ H (fun x H1 => ∃ c, x = .bl c ∧ SelE c (tC (.bl true)) tb σ H1 Q) := by
  show ta σ H _ = ta σ H _
  congr 1
  funext x H1
  congr 1
  funext c
  cases c <;> rfl
theorem x_notV : tNotV ta σ H Q = ta σ H (fun x H1 => ∃ c, x = .bl c ∧ Q (.bl (!c)) H1) := rfl
theorem x_ife : tIf tA ta tb σ H Q = tA σ H (fun c H1 => SelE c ta tb σ H1 Q) := by
  show tA σ H _ = tA σ H _
  congr 1
  funext c H1
  cases c <;> rfl
theorem x_chain {r' : R2} : tChain r r' ta tb tc σ H Q = ta σ H (fun x H1 => tb σ H1 (fun y H2 => r x y H2 (fun z H3 => ∃ k, z = .bl k ∧ SelE k (fun σ' H' Q' => tc σ' H' (fun w' H4 => r' y w' H4 Q')) (tC (.bl false)) σ H3 Q))) := by
  show ta σ H _ = ta σ H _
  congr 1
  funext x H1
  congr 1
  funext y H2
  congr 1
  funext z H3
  congr 1
  funext k
  cases k <;> rfl
/-! loops -/
def LoopI (J : It) (g : TG) (tb : TS) (D : Ends) (σ : L2.St) (H1 : Hp) : Prop := ∃ W : Nat → Nat → L2.St → Hp → Prop, (∃ m, W 0 m σ H1) ∧ ∀ i m σ H, W i m σ H →
  (J.stop i H ∧ D.nx σ H) ∨ (J.go i H ∧ ∃ N : L2.St → Hp → Prop, (∀ σ' H', N σ' H' → ∃ m', m' < m ∧ W (i + 1) m' σ' H') ∧ ∀ x H', J.yld i H x H' → g x σ H' fun σ2 H2 => tb { D with nx := N, ct := N, bk := D.nx } σ2 H2)
theorem x_for {wi : TI} {g : TG} : tFor wi g t D σ H = wi σ H (fun J H1 => LoopI J g t D σ H1) := rfl
theorem x_ilist {R : It → Hp → Prop} : iList K te σ H R = te σ H (fun x H1 => ∃ a, x = .ref a ∧ (∃ xs, SqL K H1 a xs) ∧ R (Itl K a) H1) := rfl
theorem x_itup {R : It → Hp → Prop} : iTup K te σ H R = te σ H (fun x H1 => ∃ a, x = .ref a ∧ (∃ xs, SqT K H1 a xs) ∧ R (Itt K a) H1) := rfl
theorem x_irng1 {R : It → Hp → Prop} : iRng1 l σ H R = l σ H (fun vs H1 => ∃ j : Int, vs = [.int j] ∧ -(2 ^ 62) ≤ j ∧ j < 2 ^ 62 ∧ R (Itr 0 j.toNat) H1) := rfl
theorem x_irng2 {R : It → Hp → Prop} : iRng2 l σ H R = l σ H (fun vs H1 => ∃ i j : Int, vs = [.int i, .int j] ∧ (-(2 ^ 62) ≤ i ∧ i < 2 ^ 62 ∧ -(2 ^ 62) ≤ j ∧ j < 2 ^ 62) ∧ R (Itr i (j - i).toNat) H1) := rfl
theorem x_irev {R : It → Hp → Prop} : iRev K l σ H R = l σ H (fun vs H1 => ∃ (a : Addr) (xs : List V), vs = [.ref a] ∧ SqL K H1 a xs ∧ R (Itv K a xs.length) H1) := rfl
theorem loop_list {a : Addr} {xs : List V} {g : TG} (Pv : Nat → L2.St → Hp → Prop) (h0 : Pv 0 σ H) (hl : ∀ i σ H, i ≤ xs.length → Pv i σ H → SqL K H a xs)
    (hs : ∀ i x σ H, xs[i]? = some x → Pv i σ H → g x σ H fun σ2 H2 => t { D with nx := Pv (i + 1), ct := Pv (i + 1), bk := D.nx } σ2 H2) (hd : ∀ σ H, Pv xs.length σ H → D.nx σ H) : LoopI (Itl K a) g t D σ H := for_list Pv h0 hl hs hd
theorem loop_range {lo : Int} {n : Nat} {g : TG} (Pv : Nat → L2.St → Hp → Prop) (h0 : Pv 0 σ H)
    (hs : ∀ i σ H, i < n → Pv i σ H → g (.int (lo + i)) σ H fun σ2 H2 => t { D with nx := Pv (i + 1), ct := Pv (i + 1), bk := D.nx } σ2 H2) (hd : ∀ σ H, Pv n σ H → D.nx σ H) : LoopI (Itr lo n) g t D σ H := for_range Pv h0 hs hd
/-! comprehensions -/
def CompI (J : It) (g : TG) (tt : TT) (te : TE) (vs : List Nat) (st : L2.St) (Hs : Hp) (D : Addr) (Qd : Hp → Prop) : Prop :=
  ∃ W : Nat → Nat → Hp → Prop, (∃ m, W 0 m (upd Hs D (.lst []))) ∧ ∀ i m H, W i m H →
    (J.stop i H ∧ Qd H) ∨ (J.go i H ∧ ∃ Nx : Hp → Prop, (∀ G, Nx G → ∃ m2, m2 < m ∧ W (i + 1) m2 G) ∧
      ∀ x G, J.yld i H x G → g x (wipe st vs) G fun s2 G2 => wipe s2 vs = wipe st vs ∧ tt s2 G2 fun b G3 =>
        if b = true then te s2 G3 fun y G4 => ∃ acc, G4 D = some (.lst acc) ∧ acc.length < sizeLine ∧ Nx (upd G4 D (.lst (acc ++ [y]))) else Nx G3)
theorem x_lc {wi : TI} {g : TG} {vs : List Nat} : tLc wi g tA te vs σ H Q = wi σ H (fun J H1 => ∀ D, H1 D = none → CompI J g tA te vs σ H1 D (fun H => Q (.ref D) H)) := rfl
theorem x_yes : tYes σ H QT = QT true H := rfl
theorem comp_range {lo : Int} {n : Nat} {g : TG} {vs : List Nat} {D : Addr} {Qd : Hp → Prop} (Pv : Nat → Hp → Prop) (h0 : Pv 0 (upd H D (.lst [])))
    (hs : ∀ i H, i < n → Pv i H → g (.int (lo + i)) (wipe σ vs) H fun σ2 H2 => wipe σ2 vs = wipe σ vs ∧ tA σ2 H2 fun b H3 =>
      if b = true then te σ2 H3 fun y H4 => ∃ acc, H4 D = some (.lst acc) ∧ acc.length < sizeLine ∧ Pv (i + 1) (upd H4 D (.lst (acc ++ [y]))) else Pv (i + 1) H3) (hd : ∀ H, Pv n H → Qd H) : CompI (Itr lo n) g tA te vs σ H D Qd := lc_range Pv h0 hs hd
theorem comp_list {a : Addr} {xs : List V} {g : TG} {vs : List Nat} {D : Addr} {Qd : Hp → Prop} (Pv : Nat → Hp → Prop) (h0 : Pv 0 (upd H D (.lst []))) (hl : ∀ i H, i ≤ xs.length → Pv i H → SqL K H a xs)
    (hs : ∀ i x H, xs[i]? = some x → Pv i H → g x (wipe σ vs) H fun σ2 H2 => wipe σ2 vs = wipe σ vs ∧ tA σ2 H2 fun b H3 =>
      if b = true then te σ2 H3 fun y H4 => ∃ acc, H4 D = some (.lst acc) ∧ acc.length < sizeLine ∧ Pv (i + 1) (upd H4 D (.lst (acc ++ [y]))) else Pv (i + 1) H3) (hd : ∀ H, Pv xs.length H → Qd H) : CompI (Itl K a) g tA te vs σ H D Qd := lc_list Pv h0 hl hs hd
theorem scal_ii {a b : Int} : scal (.int a) (.int b) = true := rfl
theorem scal_bb {a b : Bool} : scal (.bl a) (.bl b) = true := rfl
theorem scal_ss {a b : Str} : scal (.str a) (.str b) = true := by first | rfl | (unfold scal; rfl)
theorem x_misc {CX : CXT} {P : Program} {w : World} {mg : Str → Option Value} {base : Heap} {N : List Str} {qual : Str} {scope : Scope} {f : Addr} {cd : Value} {A : Around} {outer : List Env} {s : Shared} {E : XK} : (cxOf CX P w K mg base N qual scope f cd A outer s H E).K = K := rfl
theorem x_misc2 {X : Cx} : X.nox.K = X.K := rfl
theorem tyv {a : Addr} {xs : List V} (h : SqL K H a xs) : tyV K "list" (.ref a) H := .inl ⟨rfl, _, h⟩
/-- isinstance -/
theorem isi_int {c : String} {b : Bool} {j : Int} (h : kitB "int" c = some b) (q : Q (.bl b) H) : rIsi K [.int j, .ty c] H Q := ⟨_, _, _, _, b, rfl, .ty c, .base (.int _), kit_ty h, q⟩
theorem isi_lst {c : String} {b : Bool} {a : Addr} {xs : List V} (h : kitB "list" c = some b) (hl : H a = some (.lst xs)) (q : Q (.bl b) H) : rIsi K [.ref a, .ty c] H Q := ⟨_, _, _, _, b, rfl, .ty c, .base (.lst hl), kit_ty h, q⟩
theorem isi_tup {c : String} {b : Bool} {a : Addr} {xs : List V} (h : kitB "tuple" c = some b) (hl : H a = some (.tup xs)) (q : Q (.bl b) H) : rIsi K [.ref a, .ty c] H Q := ⟨_, _, _, _, b, rfl, .ty c, .base (.tup hl), kit_ty h, q⟩
end
/-! ### heaps -/
theorem same_upd {H : Hp} {p : Addr} {o : HO} (h : H p = none) : Same H (upd H p o) := fun b x e => by
  rw [upd_ne (ne_of_none e h)]
  exact e
theorem Same.free' {H H' : Hp} {p : Addr} (s : Same H H') (h : H' p = none) : H p = none := s.free h
theorem Same.seqT {K : PySem.W.Frag} {H H' : Hp} {a : Addr} {xs : List V} (e : Same H H') (h : SqT K H a xs) : SqT K H' a xs := by
  rcases h with (h | ⟨o, h⟩) | h
  · exact .inl (.inl (e _ _ h))
  · exact .inl (.inr ⟨o, e _ _ h⟩)
  · exact .inr h
theorem upd_upd {H : Hp} {p : Addr} {o u : HO} : upd (upd H p o) p u = upd H p u := by
  funext b
  by_cases h : b = p
  · rw [h, upd_same, upd_same]
  · rw [upd_ne h, upd_ne h, upd_ne h]
theorem atI_int {xs : List Int} {k : Int} (h0 : 0 ≤ k) (h1 : k < xs.length) : atI (xs.map V.int) k = some (.int (xs.getD k.toNat 0)) := by
  obtain ⟨n, rfl⟩ := Int.eq_ofNat_of_zero_le h0
  refine atI_nat ?_
  have h2 : n < xs.length := by omega
  rw [List.getElem?_map, List.getElem?_eq_getElem h2, Int.toNat_natCast, List.getD_eq_getElem?_getD, List.getElem?_eq_getElem h2]
  rfl
/-! ### == of data -/
mutual
def plain : PyData → Bool
  | .none => true
  | .bool _ => false
  | .int _ => true
  | .str x => (PyData.str x).canLay0
  | .list xs => plainAl xs
  | .tuple xs => plainAl xs
  | .dict _ => false
def plainAl : List PyData → Bool
  | [] => true
  | x :: xs => (plainAl xs && plain x)
end
mutual
theorem plain_lay : ∀ d : PyData, plain d = true → d.canLay0 = true
  | .none, _ => by simp [PyData.canLay0]
  | .bool _, h => by simp [plain] at h
  | .int _, _ => by simp [PyData.canLay0]
  | .str x, h => by simpa [plain] using h
  | .list xs, h => by
    simp only [plain] at h
    simp only [PyData.canLay0]
    exact plainAl_lay xs h
  | .tuple xs, h => by
    simp only [plain] at h
    simp only [PyData.canLay0]
    exact plainAl_lay xs h
  | .dict _, h => by simp [plain] at h
theorem plainAl_lay : ∀ ds : List PyData, plainAl ds = true → PyData.canLayAll0 ds = true
  | [], _ => by simp [PyData.canLayAll0]
  | x :: xs, h => by
    simp only [plainAl, Bool.and_eq_true] at h
    simp only [PyData.canLayAll0, Bool.and_eq_true]
    exact ⟨plain_lay x h.2, plainAl_lay xs h.1⟩
end
mutual
theorem eqv_iff : ∀ d e : PyData, plain d = true → plain e = true → (PyData.eqv d e = true ↔ d = e)
  | .none, .none, _, _ => by simp [PyData.eqv]
  | .int i, .int j, _, _ => by simp [PyData.eqv]
  | .str i, .str j, _, _ => by simp [PyData.eqv]
  | .list xs, .list ys, h1, h2 => by
    simp only [plain] at h1 h2
    simp only [PyData.eqv, PyData.list.injEq]
    exact eqvAll_iff xs ys h1 h2
  | .tuple xs, .tuple ys, h1, h2 => by
    simp only [plain] at h1 h2
    simp only [PyData.eqv, PyData.tuple.injEq]
    exact eqvAll_iff xs ys h1 h2
  | .bool _, _, h1, _ => by simp [plain] at h1
  | .dict _, _, h1, _ => by simp [plain] at h1
  | _, .bool _, _, h2 => by simp [plain] at h2
  | _, .dict _, _, h2 => by simp [plain] at h2
  | .none, .int _, _, _ => by simp [PyData.eqv]
  | .none, .str _, _, _ => by simp [PyData.eqv]
  | .none, .list _, _, _ => by simp [PyData.eqv]
  | .none, .tuple _, _, _ => by simp [PyData.eqv]
  | .int _, .none, _, _ => by simp [PyData.eqv]
  | .int _, .str _, _, _ => by simp [PyData.eqv]
  | .int _, .list _, _, _ => by simp [PyData.eqv]
  | .int _, .tuple _, _, _ => by simp [PyData.eqv]
  | .str _, .none, _, _ => by simp [PyData.eqv]
  | .str _, .int _, _, _ => by simp [PyData.eqv]
  | .str _, .list _, _, _ => by simp [PyData.eqv]
  | .str _, .tuple _, _, _ => by simp [PyData.eqv]
  | .list _, .none, _, _ => by simp [PyData.eqv]
  | .list _, .int _, _, _ => by simp [PyData.eqv]
  | .list _, .str _, _, _ => by simp [PyData.eqv]
  | .list _, .tuple _, _, _ => by simp [PyData.eqv]
  | .tuple _, .none, _, _ => by simp [PyData.eqv]
  | .tuple _, .int _, _, _ => by simp [PyData.eqv]
  | .tuple _, .str _, _, _ => by simp [PyData.eqv]
  | .tuple _, .list _, _, _ => by simp [PyData.eqv]
theorem eqvAll_iff : ∀ ds es : List PyData, plainAl ds = true → plainAl es = true → (PyData.eqvAll ds es = true ↔ ds = es)
  | [], [], _, _ => by simp [PyData.eqvAll]
  | [], _ :: _, _, _ => by simp [PyData.eqvAll]
  | _ :: _, [], _, _ => by simp [PyData.eqvAll]
  | x :: xs, y :: ys, h1, h2 => by
    simp only [plainAl, Bool.and_eq_true] at h1 h2
    simp only [PyData.eqvAll, Bool.and_eq_true, List.cons.injEq]
    rw [eqv_iff x y h1.2 h2.2, eqvAll_iff xs ys h1.1 h2.1]
end
/-- data as it is compared: its value, and that it is plain and not deep -/
structure Dq (K : PySem.W.Frag) (H : Hp) (v : V) (d : PyData) : Prop where
  dp : Dp K H v d
  pl : plain d = true
  de : d.depth ≤ 64
theorem Dq.sh {K : PySem.W.Frag} {H : Hp} {v : V} {d : PyData} (h : Dq K H v d) : SeqAt.shaped d = true := by
  show (d.canLay0 && decide (d.depth ≤ 64)) = true
  rw [plain_lay d h.pl, decide_eq_true h.de]
  rfl
theorem eqd {K : PySem.W.Frag} {H : Hp} {x y : V} {d e : PyData} {Q : VK} (h1 : Dq K H x d) (h2 : Dq K H y e) (q : ∀ b : Bool, (b = true ↔ d = e) → Q (.bl b) H) : rEqD K x y H Q := ⟨d, e, h1.dp, h2.dp, h1.sh, h2.sh, q _ (eqv_iff d e h1.pl h2.pl)⟩
theorem ned {K : PySem.W.Frag} {H : Hp} {x y : V} {d e : PyData} {Q : VK} (h1 : Dq K H x d) (h2 : Dq K H y e) (q : ∀ b : Bool, (b = true ↔ d = e) → Q (.bl (!b)) H) : rNeD K x y H Q := ⟨d, e, h1.dp, h2.dp, h1.sh, h2.sh, q _ (eqv_iff d e h1.pl h2.pl)⟩
/-- equal data: the answer is known -/
theorem eqd_t {K : PySem.W.Frag} {H : Hp} {x y : V} {d : PyData} {Q : VK} (h1 : Dq K H x d) (h2 : Dq K H y d) (q : Q (.bl true) H) : rEqD K x y H Q := eqd h1 h2 fun b e => by
  rw [e.mpr rfl]
  exact q
theorem ned_f {K : PySem.W.Frag} {H : Hp} {x y : V} {d : PyData} {Q : VK} (h1 : Dq K H x d) (h2 : Dq K H y d) (q : Q (.bl false) H) : rNeD K x y H Q := ned h1 h2 fun b e => by
  rw [e.mpr rfl]
  exact q
theorem dpAll_ints {K : PySem.W.Frag} {H : Hp} : ∀ ns : List Int, DpAll K H (ns.map V.int) (ns.map PyData.int)
  | [] => .nil
  | n :: r => .cons (.int n) (dpAll_ints r)
theorem plainAl_ints : ∀ ns : List Int, plainAl (ns.map PyData.int) = true
  | [] => by simp [plainAl]
  | n :: r => by simp [plainAl, plain, plainAl_ints r]
theorem depthAll_ints' : ∀ ns : List Int, PyData.depthAll (ns.map PyData.int) ≤ 1
  | [] => by simp [PyData.depthAll]
  | n :: r => by
    have := depthAll_ints' r
    simp only [List.map_cons, PyData.depthAll, PyData.depth]
    omega
section
variable {K : PySem.W.Frag} {H : Hp}
theorem dq_int {i : Int} : Dq K H (.int i) (.int i) := ⟨.int i, by simp [plain], by simp [PyData.depth]⟩
theorem dq_lst {a : Addr} {ns : List Int} (h : SqL K H a (ns.map V.int)) : Dq K H (.ref a) (.list (ns.map PyData.int)) := ⟨.lst h (dpAll_ints ns), by simp only [plain]; exact plainAl_ints ns, by
  have := depthAll_ints' ns
  simp only [PyData.depth]
  omega⟩
theorem dq_tup {a : Addr} {ns : List Int} (h : SqT K H a (ns.map V.int)) : Dq K H (.ref a) (.tuple (ns.map PyData.int)) := ⟨.tup h (dpAll_ints ns), by simp only [plain]; exact plainAl_ints ns, by
  have := depthAll_ints' ns
  simp only [PyData.depth]
  omega⟩
theorem map_int_inj {ns ms : List Int} : ns.map PyData.int = ms.map PyData.int ↔ ns = ms := by
  refine ⟨fun h => ?_, fun h => by rw [h]⟩
  have e : ∀ l : List Int, (l.map PyData.int).map (fun d => match d with | .int i => i | _ => 0) = l := fun l => by
    rw [List.map_map]
    exact List.map_id'' (fun _ => rfl) l
  rw [← e ns, ← e ms, h]
end
theorem x_eqd {K : PySem.W.Frag} {H : Hp} {x y : V} {Q : VK} : rEqD K x y H Q = rEqD K x y H Q := rfl
/-! ### reversed lists, slices -/
theorem loop_rev {K : PySem.W.Frag} {t : TS} {D : Ends} {σ : L2.St} {H : Hp} {a : Addr} {xs : List V} {g : TG} (Pv : Nat → L2.St → Hp → Prop) (h0 : Pv 0 σ H) (hl : ∀ i σ H, i ≤ xs.length → Pv i σ H → SqL K H a xs)
    (hs : ∀ i x σ H, xs[xs.length - 1 - i]? = some x → i < xs.length → Pv i σ H → g x σ H fun σ2 H2 => t { D with nx := Pv (i + 1), ct := Pv (i + 1), bk := D.nx } σ2 H2) (hd : ∀ σ H, Pv xs.length σ H → D.nx σ H) : LoopI (Itv K a xs.length) g t D σ H := by
  refine ⟨fun i left σ H => left = xs.length - i ∧ i ≤ xs.length ∧ Pv i σ H, ⟨xs.length, by omega, by omega, h0⟩, ?_⟩
  rintro i left σ H ⟨rfl, hi, p⟩
  have q := hl i σ H hi p
  by_cases hlt : i < xs.length
  · have hk : xs.length - 1 - i < xs.length := by omega
    refine .inr ⟨⟨hlt, xs, xs[xs.length - 1 - i], q, by simp [hk]⟩, Pv (i + 1), fun σ' H' p' => ⟨xs.length - (i + 1), by omega, rfl, hlt, p'⟩, fun x H' y => ?_⟩
    obtain ⟨e, y⟩ := y
    subst e
    exact hs i x σ _ (y xs q) hlt p
  · obtain rfl : i = xs.length := Nat.le_antisymm hi (by omega)
    exact .inl ⟨Nat.le_refl xs.length, hd σ H p⟩
theorem cutV_nn {xs : List V} {i j : Nat} (h : i ≤ j) (hj : j ≤ xs.length) : cutV xs (some (i : Int)) (some (j : Int)) = (xs.drop i).take (j - i) := by
  unfold cutV
  rw [HT.sIx_nat, HT.sIx_nat, Nat.min_eq_left hj, Nat.min_eq_left (Nat.le_trans h hj)]
theorem cutV_from {xs : List V} {i : Nat} (h : i ≤ xs.length) : cutV xs (some (i : Int)) none = xs.drop i := by
  unfold cutV
  rw [HT.sIx_nat, HT.sIx_none, Nat.min_eq_left h]
  exact List.take_of_length_le (by rw [List.length_drop]; exact Nat.le_refl _)
theorem cutV_upto {xs : List V} {j : Nat} (hj : j ≤ xs.length) : cutV xs none (some (j : Int)) = xs.take j := by
  unfold cutV
  rw [HT.sIx_nat, HT.sIx_none, Nat.min_eq_left hj, List.drop_zero, Nat.sub_zero]
/-! ### exceptions caught -/
theorem x_xf {a : Addr} {cls : Value} {d : Option Addr} {C : Addr} {f : Str} {te : TE} {σ : L2.St} {H : Hp} {Q : VK} : tXf a cls d C f te σ H Q = te σ H (fun x H1 => x = .ref a ∧ cls = .ref C ∧ ∃ (dd : Addr) (fs : List (Str × V)) (v : V), d = some dd ∧ H1 dd = some (.xd fs) ∧ fs.lookup f = some v ∧ Q v H1) := rfl
theorem x_rz {K : PySem.W.Frag} {C : Addr} {W : WX} {ta : TA} {D : Ends} {σ : L2.St} {H : Hp} : tRz K C W ta D σ H = ta σ H (fun vs H1 => Bz K C W σ vs H1) := rfl
theorem lookup_at {v : V} : List.lookup ("at" : Str) [(("at" : Str), v)] = some v := rfl
theorem as_yes {K : PySem.W.Frag} {mg : Str → Option Value} {x : Str} {i : Nat} {ts : Addr → Value → Option Addr → TS} {Wout : WX} {D : Ends} {σ : L2.St} {H : Hp} {d : Option Addr} (T : ExF K mg x)
    (h : ∀ a, H a = none → ts a (.ref (He.ga K x)) d { nx := fun σ' H' => D.nx (σ'.set i none) H', rt := D.rt, bk := fun σ' H' => D.bk (σ'.set i none) H', ct := fun σ' H' => D.ct (σ'.set i none) H' } (σ.set i (some (.ref a))) H) :
    wAs K (.ref (He.ga K x)) i ts Wout D (.ref (He.ga K x)) d σ H := ⟨true, T.te, fun _ => h, fun z => nomatch z⟩
theorem int_at {ns : List Int} {i : Nat} {x : V} (h : (ns.map V.int)[i]? = some x) : ∃ z, ns[i]? = some z ∧ x = .int z := by
  rw [List.getElem?_map] at h
  cases e : ns[i]? with
  | none =>
    rw [e] at h
    cases h
  | some z =>
    rw [e] at h
    exact ⟨z, rfl, (Option.some.inj h).symm⟩
theorem upd_keep {H : Hp} {b c : Addr} {o x : HO} (hb : H b = none) (h : H c = some x) : upd H b o c = some x := same_upd hb c x h
theorem upd_other {H : Hp} {b c : Addr} {o x : HO} (hb : c ≠ b) (h : H c = some x) : upd H b o c = some x := (upd_ne hb).trans h
theorem Same.get {H H' : Hp} {a : Addr} {o : HO} (s : Same H H') (h : H a = some o) : H' a = some o := s a o h
theorem same_put {H H' : Hp} {p : Addr} {o : HO} (s : Same H H') (h : H p = none) : Same H (upd H' p o) := fun b x e => by
  rw [upd_ne (ne_of_none e h)]
  exact s b x e
theorem line_map {ds : List Int} {n : Nat} (h : ds.length ≤ n) (hn : n < 16777216) : (ds.map V.int).length < sizeLine := by
  rw [List.length_map, sizeLine_eq]
  omega
theorem line_map' {ds : List Int} {n : Nat} (h : ds.length ≤ n) (hn : n < 16777216) : (ds.map V.int).length ≤ sizeLine := Nat.le_of_lt (line_map h hn)
/-! ### x op= e of ints -/
def ipC (C : Int → Int → Prop) (f : Int → Int → Int) : TIp := fun x y H Q => ∃ i j, x = .int i ∧ y = .int j ∧ C i j ∧ Q (.int (f i j)) H
theorem x_ipC {C : Int → Int → Prop} {f : Int → Int → Int} {x y : V} {H : Hp} {Q : VK} : ipC C f x y H Q = ∃ i j, x = .int i ∧ y = .int j ∧ C i j ∧ Q (.int (f i j)) H := rfl
section
variable {X : Cx}
theorem ip_fdiv : PIp X .FloorDiv (ipC CDiv fun i j => i / j) := by
  intro pins s σ H x y v u Q I r1 r2 h
  obtain ⟨i, j, e1, e2, hc, q⟩ := h
  subst e1; subst e2
  obtain ⟨t, rfl⟩ := r1
  obtain ⟨t', rfl⟩ := r2
  have h1 : (0 : Int) < j := hc.1
  have h2 := hc.2
  exact ifloordiv_int (by omega) (by rw [Int.fdiv_eq_ediv_of_nonneg i (by omega)]; exact ⟨.int _, H, I.tok _, ⟨_, rfl⟩, q⟩) (.inl (PyProof.noPylong_small (by omega)))
theorem ip_mod : PIp X .Mod (ipC (fun _ j => 0 < j) fun i j => i % j) := by
  intro pins s σ H x y v u Q I r1 r2 h
  obtain ⟨i, j, e1, e2, hc, q⟩ := h
  subst e1; subst e2
  obtain ⟨t, rfl⟩ := r1
  obtain ⟨t', rfl⟩ := r2
  exact imod_int (by omega) (by rw [Int.fmod_eq_emod_of_nonneg i (by omega)]; exact ⟨.int _, H, I.tok _, ⟨_, rfl⟩, q⟩)
theorem ip_shr : PIp X .RShift (ipC (fun _ j => 0 ≤ j) fun i j => i / 2 ^ j.toNat) := by
  intro pins s σ H x y v u Q I r1 r2 h
  obtain ⟨i, j, e1, e2, hc, q⟩ := h
  subst e1; subst e2
  obtain ⟨t, rfl⟩ := r1
  obtain ⟨t', rfl⟩ := r2
  exact irshift_int hc (by rw [Int.fdiv_eq_ediv_of_nonneg i (Int.le_of_lt (Int.pow_pos (by decide)))]; exact ⟨.int _, H, I.tok _, ⟨_, rfl⟩, q⟩)
theorem ip_shl : PIp X .LShift (ipC (fun i j => 0 ≤ j ∧ (Builtin.Int.intBits i : Int) + j ≤ 2 ^ 27) fun i j => i * 2 ^ j.toNat) := by
  intro pins s σ H x y v u Q I r1 r2 h
  obtain ⟨i, j, e1, e2, hc, q⟩ := h
  subst e1; subst e2
  obtain ⟨t, rfl⟩ := r1
  obtain ⟨t', rfl⟩ := r2
  exact ilshift_int hc.1 hc.2 ⟨.int _, H, I.tok _, ⟨_, rfl⟩, q⟩
theorem ip_mul : PIp X .Mult (ipC CMul fun i j => i * j) := by
  intro pins s σ H x y v u Q I r1 r2 h
  obtain ⟨i, j, e1, e2, hc, q⟩ := h
  subst e1; subst e2
  obtain ⟨t, rfl⟩ := r1
  obtain ⟨t', rfl⟩ := r2
  exact PyProof.Rows.imul_int ⟨.int _, H, I.tok _, ⟨_, rfl⟩, q⟩ hc.ok
theorem ip_and : PIp X .BitAnd (ipI fun i j => Builtin.bitAnd i j) := by
  intro pins s σ H x y v u Q I r1 r2 h
  obtain ⟨i, j, e1, e2, q⟩ := h
  subst e1; subst e2
  obtain ⟨t, rfl⟩ := r1
  obtain ⟨t', rfl⟩ := r2
  exact iand_int ⟨.int _, H, I.tok _, ⟨_, rfl⟩, q⟩
theorem ip_or : PIp X .BitOr (ipI fun i j => Builtin.bitOr i j) := by
  intro pins s σ H x y v u Q I r1 r2 h
  obtain ⟨i, j, e1, e2, q⟩ := h
  subst e1; subst e2
  obtain ⟨t, rfl⟩ := r1
  obtain ⟨t', rfl⟩ := r2
  exact ior_int ⟨.int _, H, I.tok _, ⟨_, rfl⟩, q⟩
theorem ip_xor : PIp X .BitXor (ipI fun i j => Builtin.bitXor i j) := by
  intro pins s σ H x y v u Q I r1 r2 h
  obtain ⟨i, j, e1, e2, q⟩ := h
  subst e1; subst e2
  obtain ⟨t, rfl⟩ := r1
  obtain ⟨t', rfl⟩ := r2
  exact ixor_int ⟨.int _, H, I.tok _, ⟨_, rfl⟩, q⟩
end
/-! ### while -/
def WhB (Pv : L2.St → Hp → Prop) (μ : L2.St → Hp → Nat) (tb : TS) (D : Ends) (σ : L2.St) (H : Hp) (b : Bool) (H1 : Hp) : Prop :=
  if b = true then ∃ N : L2.St → Hp → Prop, (∀ σ' H', N σ' H' → ∃ m', m' < μ σ H ∧ (m' = μ σ' H' ∧ Pv σ' H')) ∧ tb { D with nx := N, ct := N, bk := D.nx } σ H1 else D.nx σ H1
section
variable {c : TT} {tb : TS} {D : Ends} {σ : L2.St} {H H1 : Hp} {Pv : L2.St → Hp → Prop} {μ : L2.St → Hp → Nat}
theorem loop_while (Pv : L2.St → Hp → Prop) (μ : L2.St → Hp → Nat) (h0 : Pv σ H) (hs : ∀ σ H, Pv σ H → c σ H fun b H1 => WhB Pv μ tb D σ H b H1) : tWhile c tb D σ H := by
  refine ⟨fun left σ H => left = μ σ H ∧ Pv σ H, ⟨μ σ H, rfl, h0⟩, ?_⟩
  rintro left σ H ⟨rfl, p⟩
  exact hs σ H p
theorem wh {b : Bool} (h1 : b = true → tb { D with nx := fun σ' H' => Pv σ' H' ∧ μ σ' H' < μ σ H, ct := fun σ' H' => Pv σ' H' ∧ μ σ' H' < μ σ H, bk := D.nx } σ H1) (h2 : b = false → D.nx σ H1) : WhB Pv μ tb D σ H b H1 := by
  cases b
  · exact h2 rfl
  · exact ⟨_, fun σ' H' ⟨p, l⟩ => ⟨_, l, rfl, p⟩, h1 rfl⟩
theorem wh_d {p : Prop} {_ : Decidable p} (h1 : p → tb { D with nx := fun σ' H' => Pv σ' H' ∧ μ σ' H' < μ σ H, ct := fun σ' H' => Pv σ' H' ∧ μ σ' H' < μ σ H, bk := D.nx } σ H1) (h2 : ¬ p → D.nx σ H1) : WhB Pv μ tb D σ H (decide p) H1 := wh (fun e => h1 (of_decide_eq_true e)) (fun e => h2 (of_decide_eq_false e))
end
theorem cpow_ok {i j : Int} (h : (decide (0 ≤ j) && decide (j ≤ 1000000) && decide (i.natAbs < 2 ^ 64)) = true) : CPow i j := by
  simp only [Bool.and_eq_true, decide_eq_true_eq] at h
  exact ⟨h.1.1, h.1.2, h.2⟩
theorem xf_at {a d : Addr} {C : Addr} {i : Nat} {σ : L2.St} {H : Hp} {Q : VK} {v : V} (hi : σ[i]? = some (some (.ref a))) (h : H d = some (.xd [("at", v)])) (q : Q v H) : tXf a (.ref C) (some d) C "at" (tVar i) σ H Q := ⟨_, hi, rfl, rfl, d, _, v, rfl, h, lookup_at, q⟩
section
variable {K : PySem.W.Frag} {H : Hp} {a : Addr} {xs : List V} {P : List V → Prop}
theorem ex_lst (h : H a = some (.lst xs)) (q : P xs) : ∃ x, H a = some (.lst x) ∧ P x := ⟨xs, h, q⟩
theorem ex_sq (h : SqL K H a xs) (q : P xs) : ∃ x, SqL K H a x ∧ P x := ⟨xs, h, q⟩
theorem ex_sqt (h : SqT K H a xs) (q : P xs) : ∃ x, SqT K H a x ∧ P x := ⟨xs, h, q⟩
theorem ex_or (h : SqL K H a xs) (q : P xs) : ∃ x, (SqL K H a x ∨ SqT K H a x) ∧ P x := ⟨xs, .inl h, q⟩
theorem ex_ort (h : SqT K H a xs) (q : P xs) : ∃ x, (SqL K H a x ∨ SqT K H a x) ∧ P x := ⟨xs, .inr h, q⟩
theorem and_sq {B : Prop} (h : SqL K H a xs) (q : B) : (∃ x, SqL K H a x) ∧ B := ⟨⟨xs, h⟩, q⟩
theorem and_tyv {B : Prop} (h : SqL K H a xs) (q : B) : tyV K "list" (.ref a) H ∧ B := ⟨tyv h, q⟩
end
theorem pow2_le {i j : Nat} (h : i ≤ j) : (2 : Int) ^ i ≤ 2 ^ j := by exact_mod_cast Nat.pow_le_pow_right (by decide) h
theorem pow2_pos {i : Nat} : (0 : Int) < 2 ^ i := Int.pow_pos (by decide)
/-! guards: the goal's shape, nothing else -/
section
variable {K : PySem.W.Frag} {H : Hp} {a : Addr} {P : List V → Prop} {B : Prop}
theorem g_xf {cls : Value} {d : Option Addr} {C : Addr} {f : Str} {te : TE} {σ : L2.St} {Q : VK} (h : tXf a cls d C f te σ H Q) : tXf a cls d C f te σ H Q := h
theorem g_and {A : Prop} (h : A ∧ B) : A ∧ B := h
theorem g_tyv (h : tyV K "list" (.ref a) H ∧ B) : tyV K "list" (.ref a) H ∧ B := h
theorem g_asq (h : (∃ x, SqL K H a x) ∧ B) : (∃ x, SqL K H a x) ∧ B := h
theorem g_lst (h : ∃ x, H a = some (.lst x) ∧ P x) : ∃ x, H a = some (.lst x) ∧ P x := h
theorem g_or (h : ∃ x, (SqL K H a x ∨ SqT K H a x) ∧ P x) : ∃ x, (SqL K H a x ∨ SqT K H a x) ∧ P x := h
theorem g_sq (h : ∃ x, SqL K H a x ∧ P x) : ∃ x, SqL K H a x ∧ P x := h
theorem g_sqt (h : ∃ x, SqT K H a x ∧ P x) : ∃ x, SqT K H a x ∧ P x := h
end
theorem cmul_r {i j : Int} (h1 : -18446744073709551616 < j) (h2 : j < 18446744073709551616) : CMul i j := .inr ⟨h1, h2⟩
theorem cmul_l {i j : Int} (h1 : -18446744073709551616 < i) (h2 : i < 18446744073709551616) : CMul i j := .inl ⟨h1, h2⟩
theorem cdiv_ok {i j : Int} (h1 : 0 < j) (h2 : j < 1073741824) : CDiv i j := ⟨h1, h2⟩
/-! comprehensions of ints over a range, nothing else made -/
def CP (D : Addr) (H1 : Hp) (y : V) (H4 : Hp) : Prop := ∃ acc, H4 D = some (.lst acc) ∧ acc.length < sizeLine ∧ upd H4 D (.lst (acc ++ [y])) = H1
def rngL (f : Nat → Int) (n : Nat) : List Int := (List.range n).map f
theorem rngL_len {f : Nat → Int} {n : Nat} : (rngL f n).length = n := by unfold rngL; rw [List.length_map, List.length_range]
theorem rngL_succ {f : Nat → Int} {n : Nat} : rngL f (n + 1) = rngL f n ++ [f n] := by
  unfold rngL
  rw [List.range_succ, List.map_append]
  rfl
theorem comp_rngY {te : TE} {σ : L2.St} {H : Hp} {lo : Int} {n : Nat} {g : TG} {vs : List Nat} {D : Addr} {Qd : Hp → Prop} (f : Nat → Int)
    (hs : ∀ i, i < n → g (.int (lo + i)) (wipe σ vs) (upd H D (.lst ((rngL f i).map V.int))) fun σ2 H2 => wipe σ2 vs = wipe σ vs ∧ te σ2 H2 (CP D (upd H D (.lst ((rngL f (i + 1)).map V.int)))))
    (hd : Qd (upd H D (.lst ((rngL f n).map V.int)))) : CompI (Itr lo n) g tYes te vs σ H D Qd := by
  refine comp_range (fun i H' => H' = upd H D (.lst ((rngL f i).map V.int))) rfl ?_ ?_
  · rintro i H' hi rfl
    exact hs i hi
  · rintro H' rfl
    exact hd
theorem cp {f : Nat → Int} {i : Nat} {D : Addr} {H : Hp} {y : V} (hn : i < 100000) (hy : y = .int (f i)) : CP D (upd H D (.lst ((rngL f (i + 1)).map V.int))) y (upd H D (.lst ((rngL f i).map V.int))) := by
  refine ⟨_, upd_same, ?_, ?_⟩
  · rw [List.length_map, rngL_len, sizeLine_eq]
    omega
  · rw [Bel.upd_upd, rngL_succ, List.map_append, hy]
    rfl
theorem wipe_nil {σ : L2.St} : wipe σ [] = σ := rfl
theorem wipe_cons {σ : L2.St} {v : Nat} {vs : List Nat} : wipe σ (v :: vs) = (wipe σ vs).set v none := rfl
theorem loop_rangeN {t : TS} {D : Ends} {σ : L2.St} {H : Hp} {lo : Int} {n m : Nat} {g : TG} (hn : n = m) (Pv : Nat → L2.St → Hp → Prop) (h0 : Pv 0 σ H)
    (hs : ∀ i σ H, i < m → Pv i σ H → g (.int (lo + i)) σ H fun σ2 H2 => t { D with nx := Pv (i + 1), ct := Pv (i + 1), bk := D.nx } σ2 H2) (hd : ∀ σ H, Pv m σ H → D.nx σ H) : LoopI (Itr lo n) g t D σ H := by
  subst hn
  exact loop_range Pv h0 hs hd
section
variable {K : PySem.W.Frag} {H : Hp} {x y : V} {Q : VK} {vs : List V}
theorem g_new {Pa : Addr → Prop} (h : ∀ p : Addr, H p = none → Pa p) : ∀ p : Addr, H p = none → Pa p := h
theorem g_ned (h : rNeD K x y H Q) : rNeD K x y H Q := h
theorem g_eqd (h : rEqD K x y H Q) : rEqD K x y H Q := h
theorem g_isi (h : rIsi K vs H Q) : rIsi K vs H Q := h
end
section
variable {t u : TS} {ta tb : TE} {tA tB' : TT} {D : Ends} {σ : L2.St} {H : Hp} {Q : VK} {QT : Bool → Hp → Prop} {p : Prop} {_ : Decidable p} {b : Bool}
theorem g_sel (h : Sel b t u D σ H) : Sel b t u D σ H := h
theorem g_selE (h : SelE b ta tb σ H Q) : SelE b ta tb σ H Q := h
theorem g_selT (h : SelT b tA tB' σ H QT) : SelT b tA tB' σ H QT := h
theorem sel_p (h : p) (q : t D σ H) : Sel (decide p) t u D σ H := by
  rw [decide_eq_true h]
  exact q
theorem sel_n (h : ¬ p) (q : u D σ H) : Sel (decide p) t u D σ H := by
  rw [decide_eq_false h]
  exact q
theorem selN_p (h : p) (q : u D σ H) : Sel (!decide p) t u D σ H := by
  rw [decide_eq_true h]
  exact q
theorem selN_n (h : ¬ p) (q : t D σ H) : Sel (!decide p) t u D σ H := by
  rw [decide_eq_false h]
  exact q
theorem selE_p (h : p) (q : ta σ H Q) : SelE (decide p) ta tb σ H Q := by
  rw [decide_eq_true h]
  exact q
theorem selE_n (h : ¬ p) (q : tb σ H Q) : SelE (decide p) ta tb σ H Q := by
  rw [decide_eq_false h]
  exact q
theorem selEN_p (h : p) (q : tb σ H Q) : SelE (!decide p) ta tb σ H Q := by
  rw [decide_eq_true h]
  exact q
theorem selEN_n (h : ¬ p) (q : ta σ H Q) : SelE (!decide p) ta tb σ H Q := by
  rw [decide_eq_false h]
  exact q
theorem selT_p (h : p) (q : tA σ H QT) : SelT (decide p) tA tB' σ H QT := by
  rw [decide_eq_true h]
  exact q
theorem selT_n (h : ¬ p) (q : tB' σ H QT) : SelT (decide p) tA tB' σ H QT := by
  rw [decide_eq_false h]
  exact q
theorem selTN_p (h : p) (q : tB' σ H QT) : SelT (!decide p) tA tB' σ H QT := by
  rw [decide_eq_true h]
  exact q
theorem selTN_n (h : ¬ p) (q : tA σ H QT) : SelT (!decide p) tA tB' σ H QT := by
  rw [decide_eq_false h]
  exact q
end
section
variable {t u : TS} {ta tb : TE} {tA tB' : TT} {D : Ends} {σ : L2.St} {H : Hp} {Q : VK} {QT : Bool → Hp → Prop} {p : Prop} {_ : Decidable p}
theorem gd_sel (h : Sel (decide p) t u D σ H) : Sel (decide p) t u D σ H := h
theorem gn_sel (h : Sel (!decide p) t u D σ H) : Sel (!decide p) t u D σ H := h
theorem gd_selE (h : SelE (decide p) ta tb σ H Q) : SelE (decide p) ta tb σ H Q := h
theorem gn_selE (h : SelE (!decide p) ta tb σ H Q) : SelE (!decide p) ta tb σ H Q := h
theorem gd_selT (h : SelT (decide p) tA tB' σ H QT) : SelT (decide p) tA tB' σ H QT := h
theorem gn_selT (h : SelT (!decide p) tA tB' σ H QT) : SelT (!decide p) tA tB' σ H QT := h
end
theorem ex_at {xs : List V} {i : Int} {v : V} {P : V → Prop} (h : atI xs i = some v) (q : P v) : ∃ x, atI xs i = some x ∧ P x := ⟨v, h, q⟩
theorem g_atI {xs : List V} {i : Int} {P : V → Prop} (h : ∃ x, atI xs i = some x ∧ P x) : ∃ x, atI xs i = some x ∧ P x := h
theorem ixN_ok {n : Nat} {i : Int} (h0 : 0 ≤ i) (h1 : i < n) : ixN n i = some i.toNat := by
  unfold ixN
  rw [if_pos h0, if_pos h1]
theorem set_ints {xs : List Int} {j : Nat} {v : Int} : (xs.map V.int).set j (.int v) = (xs.set j v).map V.int := (List.map_set ..).symm
theorem x_bits {te : TE} {σ : L2.St} {H : Hp} {Q : VK} : tBits te σ H Q = te σ H (fun x H1 => ∃ i, x = .int i ∧ Q (.int (Builtin.Int.intBits i : Nat)) H1) := rfl
theorem loop_tup {K : PySem.W.Frag} {t : TS} {D : Ends} {σ : L2.St} {H : Hp} {a : Addr} {xs : List V} {g : TG} (Pv : Nat → L2.St → Hp → Prop) (h0 : Pv 0 σ H) (hl : ∀ i σ H, i ≤ xs.length → Pv i σ H → SqT K H a xs)
    (hs : ∀ i x σ H, xs[i]? = some x → Pv i σ H → g x σ H fun σ2 H2 => t { D with nx := Pv (i + 1), ct := Pv (i + 1), bk := D.nx } σ2 H2) (hd : ∀ σ H, Pv xs.length σ H → D.nx σ H) : LoopI (Itt K a) g t D σ H := for_tup Pv h0 hl hs hd
/-! the number of bits -/
theorem bits_is {r k : Nat} (h1 : 2 ^ k ≤ r) (h2 : r < 2 ^ (k + 1)) : Builtin.Int.intBits (r : Int) = k + 1 := by
  have h0 : r ≠ 0 := by
    have := Nat.two_pow_pos k
    omega
  unfold Builtin.Int.intBits
  rw [if_neg (by simpa using h0), Int.natAbs_natCast]
  have a : k ≤ r.log2 := (Nat.le_log2 h0).mpr h1
  have b : r.log2 < k + 1 := (Nat.log2_lt h0).mpr h2
  omega
theorem bits_at {r : Nat} (h0 : r ≠ 0) : ∃ k, Builtin.Int.intBits (r : Int) = k + 1 ∧ 2 ^ k ≤ r ∧ r < 2 ^ (k + 1) := by
  refine ⟨r.log2, ?_, Nat.log2_self_le h0, Nat.lt_log2_self⟩
  exact bits_is (Nat.log2_self_le h0) Nat.lt_log2_self
/-! enumerate of a list: a new pair each turn -/
theorem x_ienum {K : PySem.W.Frag} {l : TA} {σ : L2.St} {H : Hp} {R : It → Hp → Prop} : iEnum K l σ H R = l σ H (fun vs H1 => ∃ (a : Addr) (xs : List V), vs = [.ref a] ∧ SqL K H1 a xs ∧ R (Ite K a) H1) := rfl
theorem loop_enum {K : PySem.W.Frag} {t : TS} {D : Ends} {σ : L2.St} {H : Hp} {a : Addr} {xs : List V} {g : TG} (Pv : Nat → L2.St → Hp → Prop) (h0 : Pv 0 σ H) (hl : ∀ i σ H, i ≤ xs.length → Pv i σ H → SqL K H a xs)
    (hs : ∀ i x σ H T, xs[i]? = some x → Pv i σ H → H T = none → g (.ref T) σ (upd H T (.tup [.int (i : Nat), x])) fun σ2 H2 => t { D with nx := Pv (i + 1), ct := Pv (i + 1), bk := D.nx } σ2 H2) (hd : ∀ σ H, Pv xs.length σ H → D.nx σ H) : LoopI (Ite K a) g t D σ H := by
  refine ⟨fun i left σ H => left = xs.length - i ∧ i ≤ xs.length ∧ Pv i σ H, ⟨xs.length, by omega, by omega, h0⟩, ?_⟩
  rintro i left σ H ⟨rfl, hi, p⟩
  have q := hl i σ H hi p
  by_cases hlt : i < xs.length
  · refine .inr ⟨⟨xs, xs[i], q, List.getElem?_eq_getElem hlt⟩, Pv (i + 1), fun σ' H' p' => ⟨xs.length - (i + 1), by omega, rfl, hlt, p'⟩, fun x H' y => ?_⟩
    obtain ⟨T, x2, e1, hT, e2, y⟩ := y
    subst e1; subst e2
    exact hs i x2 σ H T (y xs q) p hT
  · obtain rfl : i = xs.length := Nat.le_antisymm hi (by omega)
    exact .inl ⟨⟨xs, q, Nat.le_refl _⟩, hd σ H p⟩
/-- an empty tuple of the program -/
def etB (K : PySem.W.Frag) (p : Addr) : Bool := match K.lookup p with
  | some ⟨.type c, _, .seq its _, _⟩ => decide (c = "tuple") && its.isEmpty
  | _ => false
theorem etB_ok {K : PySem.W.Frag} {p : Addr} (h : etB K p = true) (H : Hp) : SqT K H p [] := by
  unfold etB at h
  split at h
  · rename_i c od its n osl q
    simp only [Bool.and_eq_true, decide_eq_true_eq, Array.isEmpty_iff] at h
    obtain ⟨rfl, rfl⟩ := h
    exact .inr ⟨_, _, n, q, rfl, rfl, Nat.zero_le _, .nil⟩
  · cases h
/-! lists of tuples of ints -/
inductive TkAll (H : Hp) : List V → List (List Int) → Prop
  | nil : TkAll H [] []
  | cons {r : Addr} {t : List Int} {vs : List V} {ts : List (List Int)} : H r = some (.tup (t.map V.int)) → TkAll H vs ts → TkAll H (.ref r :: vs) (t :: ts)
namespace TkAll
variable {H G : Hp} {vs us : List V} {ts ws : List (List Int)}
theorem len (h : TkAll H vs ts) : vs.length = ts.length := by
  induction h with
  | nil => rfl
  | cons _ _ ih => exact congrArg (· + 1) ih
theorem same (h : TkAll H vs ts) (s : Same H G) : TkAll G vs ts := by
  induction h with
  | nil => exact .nil
  | cons e _ ih => exact .cons (s _ _ e) ih
theorem put {m : Addr} {l : List V} {o : HO} (h : TkAll H vs ts) (hm : H m = some (.lst l)) : TkAll (upd H m o) vs ts := by
  induction h with
  | nil => exact .nil
  | cons e _ ih =>
    refine .cons ?_ ih
    rw [upd_ne ?_]
    · exact e
    · intro z
      rw [z, hm] at e
      cases e
theorem append (h : TkAll H vs ts) (g : TkAll H us ws) : TkAll H (vs ++ us) (ts ++ ws) := by
  induction h with
  | nil => exact g
  | cons e _ ih => exact .cons e ih
theorem take (h : TkAll H vs ts) (n : Nat) : TkAll H (vs.take n) (ts.take n) := by
  induction h generalizing n with
  | nil =>
    rw [List.take_nil, List.take_nil]
    exact .nil
  | cons e _ ih =>
    cases n with
    | zero => exact .nil
    | succ n => exact .cons e (ih n)
theorem drop (h : TkAll H vs ts) (n : Nat) : TkAll H (vs.drop n) (ts.drop n) := by
  induction h generalizing n with
  | nil =>
    rw [List.drop_nil, List.drop_nil]
    exact .nil
  | cons e g ih =>
    cases n with
    | zero => exact .cons e g
    | succ n => exact ih n
theorem get (h : TkAll H vs ts) {i : Nat} {x : V} (hx : vs[i]? = some x) : ∃ r t, x = .ref r ∧ ts[i]? = some t ∧ H r = some (.tup (t.map V.int)) := by
  induction h generalizing i with
  | nil => cases hx
  | cons e _ ih =>
    cases i with
    | zero =>
      cases hx
      exact ⟨_, _, rfl, rfl, e⟩
    | succ i => exact ih hx
theorem dp {K : PySem.W.Frag} (h : TkAll H vs ts) : DpAll K H vs (ts.map fun t => .tuple (t.map PyData.int)) := by
  induction h with
  | nil => exact .nil
  | cons e _ ih => exact .cons (.tup (SqT.of e) (dpAll_ints _)) ih
end TkAll
theorem plainAl_toks : ∀ ts : List (List Int), plainAl (ts.map fun t => .tuple (t.map PyData.int)) = true
  | [] => by simp [plainAl]
  | t :: r => by simp [plainAl, plain, plainAl_toks r, plainAl_ints t]
theorem depthAll_toks : ∀ ts : List (List Int), PyData.depthAll (ts.map fun t => .tuple (t.map PyData.int)) ≤ 2
  | [] => by simp [PyData.depthAll]
  | t :: r => by
    have := depthAll_toks r
    have := depthAll_ints' t
    simp only [List.map_cons, PyData.depthAll, PyData.depth]
    omega
theorem dq_toks {K : PySem.W.Frag} {H : Hp} {a : Addr} {vs : List V} {ts : List (List Int)} (h : SqL K H a vs) (g : TkAll H vs ts) : Dq K H (.ref a) (.list (ts.map fun t => .tuple (t.map PyData.int))) := ⟨.lst h g.dp, by simp only [plain]; exact plainAl_toks ts, by
  have := depthAll_toks ts
  simp only [PyData.depth]
  omega⟩
/-! xs[i] op= e, i from the front -/
def rGetL (K : PySem.W.Frag) : V → V → Hp → VK → Prop := fun a b H Q => ∃ (p : Addr) (xs : List V) (i : Int) (v : V), a = .ref p ∧ b = .int i ∧ SqL K H p xs ∧ 0 ≤ i ∧ atI xs i = some v ∧ Q v H
theorem x_getL {K : PySem.W.Frag} {a b : V} {H : Hp} {Q : VK} : rGetL K a b H Q = ∃ (p : Addr) (xs : List V) (i : Int) (v : V), a = .ref p ∧ b = .int i ∧ SqL K H p xs ∧ 0 ≤ i ∧ atI xs i = some v ∧ Q v H := rfl
theorem getL {X : Cx} (K : PySem.W.Frag) (e : X.K = K := by rfl) : PGet X (rGetL K) := by
  subst e
  intro pins s σ H o i ov iv Q I ro ri h
  obtain ⟨p, xs, k, z, rfl, rfl, hq, h0, he, q⟩ := h
  cases ro
  obtain ⟨t, rfl⟩ := ri
  obtain ⟨its, r, pl, hz⟩ := I.list hq
  obtain ⟨j, g1, g2, g3, g4, g5⟩ := atI_get he
  obtain ⟨w, ew, rw'⟩ := r.get g2
  have hn := line63
  have hj : k.toNat = j := by
    rw [seqIndex_of h0 g5] at g1
    exact Option.some.inj g1
  exact PySem.wpAny_getItem_list pl.isList h0 (by omega) (by rw [hj]; simpa using ew) ⟨z, H, I, rw', q⟩
theorem x_augS {to ti te : TE} {tget : V → V → Hp → VK → Prop} {tip : TIp} {tset : TSet} {D : Ends} {σ : L2.St} {H : Hp} : tAugS to ti te tget tip tset D σ H = to σ H (fun o H1 => ti σ H1 (fun i H2 => tget o i H2 (fun x H3 => te σ H3 (fun y H4 => tip x y H4 (fun z H5 => tset o i z H5 (fun H6 => D.nx σ H6)))))) := rfl
/-! replicated, pairs of lists -/
theorem rep_one {n : Nat} {x : Int} : (List.replicate n [V.int x]).flatten = (List.replicate n x).map V.int := by
  rw [List.map_replicate]
  induction n with
  | zero => rfl
  | succ n ih =>
    rw [List.replicate_succ, List.replicate_succ, List.flatten_cons, ih]
    rfl
theorem dq_pair {K : PySem.W.Frag} {H : Hp} {q a b : Addr} {xs ys : List Int} (hq : SqT K H q [.ref a, .ref b]) (ha : SqL K H a (xs.map V.int)) (hb : SqL K H b (ys.map V.int)) : Dq K H (.ref q) (.tuple [.list (xs.map PyData.int), .list (ys.map PyData.int)]) :=
  ⟨.tup hq (.cons (.lst ha (dpAll_ints xs)) (.cons (.lst hb (dpAll_ints ys)) .nil)), by simp [plain, plainAl, plainAl_ints], by
    have := depthAll_ints' xs
    have := depthAll_ints' ys
    simp only [PyData.depth, PyData.depthAll]
    omega⟩
/-! comprehensions of ints over a list of ints, nothing else made -/
theorem take_map_snoc {xs : List Int} {f : Int → Int} {i : Nat} {x : Int} (h : xs[i]? = some x) : (xs.take (i + 1)).map f = (xs.take i).map f ++ [f x] := by
  rw [List.take_add_one, h, List.map_append]
  rfl
theorem comp_intY {K : PySem.W.Frag} {te : TE} {σ : L2.St} {H : Hp} {a : Addr} {xs : List Int} {g : TG} {vs : List Nat} {D : Addr} {Qd : Hp → Prop} (f : Int → Int) (hS : SqL K H a (xs.map V.int)) (hD : H D = none)
    (hs : ∀ i x, xs[i]? = some x → g (.int x) (wipe σ vs) (upd H D (.lst (((xs.take i).map f).map V.int))) fun σ2 H2 => wipe σ2 vs = wipe σ vs ∧ te σ2 H2 (CP D (upd H D (.lst (((xs.take (i + 1)).map f).map V.int)))))
    (hd : Qd (upd H D (.lst ((xs.map f).map V.int)))) : CompI (Itl K a) g tYes te vs σ H D Qd := by
  refine comp_list (xs := xs.map V.int) (fun i H' => H' = upd H D (.lst (((xs.take i).map f).map V.int))) rfl ?_ ?_ ?_
  · rintro i H' _ rfl
    exact (same_upd hD).seq hS
  · rintro i x H' hx rfl
    obtain ⟨z, hz, rfl⟩ := int_at hx
    exact hs i z hz
  · rintro H' rfl
    rw [List.length_map, List.take_length]
    exact hd
theorem cpi {xs : List Int} {f : Int → Int} {i : Nat} {x : Int} {D : Addr} {H : Hp} {y : V} (hx : xs[i]? = some x) (hn : xs.length < 100000) (hy : y = .int (f x)) : CP D (upd H D (.lst (((xs.take (i + 1)).map f).map V.int))) y (upd H D (.lst (((xs.take i).map f).map V.int))) := by
  refine ⟨_, upd_same, ?_, ?_⟩
  · rw [List.length_map, List.length_map, List.length_take, sizeLine_eq]
    omega
  · rw [Bel.upd_upd, take_map_snoc hx, List.map_append, hy]
    rfl
end Bel

namespace Bel
open PySem PySem.Spec PyProof.Rows L2
/-! ### data that never changes: ints, texts, tuples of such -/
mutual
inductive Imm (K : PySem.W.Frag) (H : Hp) : V → PyData → Prop
  | non : Imm K H .non .none
  | bl (b : Bool) : Imm K H (.bl b) (.bool b)
  | int (i : Int) : Imm K H (.int i) (.int i)
  | str (x : Str) : Imm K H (.str x) (.str x)
  | tup {a : Addr} {xs : List V} {ds : List PyData} : SqT K H a xs → ImmL K H xs ds → Imm K H (.ref a) (.tuple ds)
inductive ImmL (K : PySem.W.Frag) (H : Hp) : List V → List PyData → Prop
  | nil : ImmL K H [] []
  | cons {v : V} {vs : List V} {d : PyData} {ds : List PyData} : Imm K H v d → ImmL K H vs ds → ImmL K H (v :: vs) (d :: ds)
end
mutual
theorem Imm.mono {K : PySem.W.Frag} {H H' : Hp} (st : ∀ a xs, SqT K H a xs → SqT K H' a xs) : ∀ {v : V} {d : PyData}, Imm K H v d → Imm K H' v d
  | _, _, .non => .non
  | _, _, .bl b => .bl b
  | _, _, .int i => .int i
  | _, _, .str x => .str x
  | _, _, .tup h g => .tup (st _ _ h) (ImmL.mono st g)
theorem ImmL.mono {K : PySem.W.Frag} {H H' : Hp} (st : ∀ a xs, SqT K H a xs → SqT K H' a xs) : ∀ {vs : List V} {ds : List PyData}, ImmL K H vs ds → ImmL K H' vs ds
  | _, _, .nil => .nil
  | _, _, .cons h g => .cons (Imm.mono st h) (ImmL.mono st g)
end
mutual
theorem Imm.dp {K : PySem.W.Frag} {H : Hp} : ∀ {v : V} {d : PyData}, Imm K H v d → Dp K H v d
  | _, _, .non => .non
  | _, _, .bl b => .bl b
  | _, _, .int i => .int i
  | _, _, .str x => .str x
  | _, _, .tup h g => .tup h (ImmL.dp g)
theorem ImmL.dp {K : PySem.W.Frag} {H : Hp} : ∀ {vs : List V} {ds : List PyData}, ImmL K H vs ds → DpAll K H vs ds
  | _, _, .nil => .nil
  | _, _, .cons h g => .cons (Imm.dp h) (ImmL.dp g)
end
namespace ImmL
variable {K : PySem.W.Frag} {H : Hp} {vs us : List V} {ds es : List PyData}
theorem len : ∀ {vs : List V} {ds : List PyData}, ImmL K H vs ds → vs.length = ds.length
  | _, _, .nil => rfl
  | _, _, .cons _ g => congrArg (· + 1) (len g)
theorem append : ∀ {vs : List V} {ds : List PyData}, ImmL K H vs ds → ImmL K H us es → ImmL K H (vs ++ us) (ds ++ es)
  | _, _, .nil, g => g
  | _, _, .cons h k, g => .cons h (append k g)
theorem one {x : V} {d : PyData} (h : Imm K H x d) : ImmL K H [x] [d] := .cons h .nil
theorem snoc {x : V} {d : PyData} (g : ImmL K H vs ds) (h : Imm K H x d) : ImmL K H (vs ++ [x]) (ds ++ [d]) := g.append (.one h)
theorem get : ∀ {vs : List V} {ds : List PyData} {i : Nat} {x : V}, ImmL K H vs ds → vs[i]? = some x → ∃ d, ds[i]? = some d ∧ Imm K H x d
  | _, _, _, _, .nil, e => by cases e
  | _, _, 0, _, .cons h _, e => by
    cases e
    exact ⟨_, rfl, h⟩
  | _, _, i + 1, _, .cons _ g, e => get (i := i) g e
theorem at_ : ∀ {vs : List V} {ds : List PyData} {i : Nat} {d : PyData}, ImmL K H vs ds → ds[i]? = some d → ∃ x, vs[i]? = some x ∧ Imm K H x d
  | _, _, _, _, .nil, e => by cases e
  | _, _, 0, _, .cons h _, e => by
    cases e
    exact ⟨_, rfl, h⟩
  | _, _, i + 1, _, .cons _ g, e => at_ (i := i) g e
theorem take : ∀ {vs : List V} {ds : List PyData} (n : Nat), ImmL K H vs ds → ImmL K H (vs.take n) (ds.take n)
  | _, _, n, .nil => by
    rw [List.take_nil, List.take_nil]
    exact .nil
  | _, _, 0, .cons _ _ => .nil
  | _, _, n + 1, .cons h g => .cons h (take n g)
theorem drop : ∀ {vs : List V} {ds : List PyData} (n : Nat), ImmL K H vs ds → ImmL K H (vs.drop n) (ds.drop n)
  | _, _, n, .nil => by
    rw [List.drop_nil, List.drop_nil]
    exact .nil
  | _, _, 0, .cons h g => .cons h g
  | _, _, n + 1, .cons _ g => drop n g
theorem of_is : ∀ ns : List Int, ImmL K H (ns.map V.int) (ns.map PyData.int)
  | [] => .nil
  | n :: r => .cons (.int n) (of_is r)
theorem of_ints : ∀ {ns : List Int} {vs : List V}, ImmL K H vs (ns.map PyData.int) → vs = ns.map V.int
  | [], _, .nil => rfl
  | _ :: _, _, .cons (.int _) g => by rw [of_ints g]; rfl
theorem rev : ∀ {vs : List V} {ds : List PyData}, ImmL K H vs ds → ImmL K H vs.reverse ds.reverse
  | _, _, .nil => .nil
  | _, _, .cons h g => by
    rw [List.reverse_cons, List.reverse_cons]
    exact (rev g).snoc h
theorem set : ∀ {vs : List V} {ds : List PyData} {x : V} {d : PyData} (i : Nat), Imm K H x d → ImmL K H vs ds → ImmL K H (vs.set i x) (ds.set i d)
  | _, _, _, _, _, _, .nil => .nil
  | _, _, _, _, 0, h, .cons _ g => .cons h g
  | _, _, _, _, i + 1, h, .cons k g => .cons k (set i h g)
end ImmL
theorem Imm.of_int {K : PySem.W.Frag} {H : Hp} {v : V} {i : Int} (h : Imm K H v (.int i)) : v = .int i := by
  cases h
  rfl
theorem Imm.of_str {K : PySem.W.Frag} {H : Hp} {v : V} {x : Str} (h : Imm K H v (.str x)) : v = .str x := by
  cases h
  rfl
theorem Imm.of_tup {K : PySem.W.Frag} {H : Hp} {v : V} {ds : List PyData} (h : Imm K H v (.tuple ds)) : ∃ a xs, v = .ref a ∧ SqT K H a xs ∧ ImmL K H xs ds := by
  cases h with
  | tup h g => exact ⟨_, _, rfl, h, g⟩
theorem Imm.of_ints {K : PySem.W.Frag} {H : Hp} {v : V} {ns : List Int} (h : Imm K H v (.tuple (ns.map PyData.int))) : ∃ a, v = .ref a ∧ SqT K H a (ns.map V.int) := by
  cases h with
  | tup h g => exact ⟨_, rfl, ImmL.of_ints g ▸ h⟩
/-- a tuple of ints -/
abbrev tI (ns : List Int) : PyData := .tuple (ns.map PyData.int)
theorem Imm.of_is {K : PySem.W.Frag} {H : Hp} {a : Addr} {ns : List Int} (h : SqT K H a (ns.map V.int)) : Imm K H (.ref a) (tI ns) := .tup h (ImmL.of_is ns)
/-! ### what is owned -/
inductive As where
  | pt (a : Addr) (o : HO)
  | im (v : V) (d : PyData)
  | ims (vs : List V) (ds : List PyData)
def As.holds (K : PySem.W.Frag) (B H : Hp) : As → Prop
  | .pt a o => H a = some o ∧ B a = none
  | .im v d => Imm K H v d
  | .ims vs ds => ImmL K H vs ds
/-- addresses -/
def As.ad : As → List Addr
  | .pt a _ => [a]
  | _ => []
def ads (l : List As) : List Addr := l.flatMap As.ad
structure Own (K : PySem.W.Frag) (B H : Hp) (l : List As) : Prop where
  same : Same B H
  nd : (ads l).Nodup
  all : ∀ x ∈ l, x.holds K B H
/-- may be changed -/
def mutb : HO → Bool
  | .tup _ => false
  | .frz _ _ => false
  | _ => true
theorem sqT_upd {K : PySem.W.Frag} {H : Hp} {a b : Addr} {o o' : HO} {xs : List V} (h : H b = some o) (m : mutb o = true) (g : SqT K H a xs) : SqT K (upd H b o') a xs := by
  rcases g with (g | ⟨u, g⟩) | g
  · refine .inl (.inl ?_)
    rw [upd_ne ?_]
    · exact g
    · rintro rfl
      rw [g] at h
      cases h
      cases m
  · refine .inl (.inr ⟨u, ?_⟩)
    rw [upd_ne ?_]
    · exact g
    · rintro rfl
      rw [g] at h
      cases h
      cases m
  · exact .inr g
inductive Put : List As → Addr → HO → HO → List As → Prop
  | here {l : List As} {a : Addr} {o o' : HO} : Put (.pt a o :: l) a o o' (.pt a o' :: l)
  | there {l l' : List As} {x : As} {a : Addr} {o o' : HO} : Put l a o o' l' → Put (x :: l) a o o' (x :: l')
theorem Put.mem {l l' : List As} {a : Addr} {o o' : HO} (p : Put l a o o' l') : As.pt a o ∈ l := by
  induction p with
  | here => exact .head _
  | there _ ih => exact .tail _ ih
theorem Put.ads {l l' : List As} {a : Addr} {o o' : HO} (p : Put l a o o' l') : ads l' = ads l := by
  induction p with
  | here => rfl
  | there _ ih =>
    unfold Bel.ads at ih ⊢
    rw [List.flatMap_cons, List.flatMap_cons, ih]
theorem mem_ads {l : List As} {a : Addr} {o : HO} (h : As.pt a o ∈ l) : a ∈ ads l := List.mem_flatMap.mpr ⟨_, h, List.mem_singleton.mpr rfl⟩
theorem Put.old {l l' : List As} {a : Addr} {o o' : HO} (p : Put l a o o' l') (nd : (Bel.ads l).Nodup) : ∀ x ∈ l', x = .pt a o' ∨ (x ∈ l ∧ a ∉ x.ad) := by
  induction p with
  | @here l a o o' =>
    intro x hx
    rcases List.mem_cons.mp hx with e | h
    · exact .inl e
    · refine .inr ⟨.tail _ h, fun z => ?_⟩
      unfold Bel.ads at nd
      rw [List.flatMap_cons] at nd
      exact (List.nodup_append.mp nd).2.2 a (List.mem_singleton.mpr rfl) a (List.mem_flatMap.mpr ⟨x, h, z⟩) rfl
  | @there l l' y a o o' q ih =>
    intro x hx
    unfold Bel.ads at nd
    rw [List.flatMap_cons] at nd
    have nd2 := List.nodup_append.mp nd
    rcases List.mem_cons.mp hx with e | h
    · subst e
      refine .inr ⟨.head _, fun z => ?_⟩
      exact nd2.2.2 a z a (mem_ads q.mem) rfl
    · rcases ih nd2.2.1 x h with e | ⟨g, z⟩
      · exact .inl e
      · exact .inr ⟨.tail _ g, z⟩
theorem ads_sub {l l' : List As} (s : l'.Sublist l) : (ads l').Sublist (ads l) := by
  unfold ads
  induction s with
  | slnil => exact List.Sublist.refl _
  | cons y _ ih =>
    rw [List.flatMap_cons]
    exact ih.trans (List.sublist_append_right _ _)
  | cons_cons y _ ih =>
    rw [List.flatMap_cons, List.flatMap_cons]
    exact (List.Sublist.refl _).append ih
namespace Own
variable {K : PySem.W.Frag} {B H H' : Hp} {l l' : List As} {a : Addr} {o o' : HO}
theorem start : Own K H H [] := ⟨Same.refl H, List.nodup_nil, fun _ h => nomatch h⟩
theorem get (L : Own K B H l) (m : As.pt a o ∈ l) : H a = some o := (L.all _ m).1
theorem fresh (L : Own K B H l) (m : As.pt a o ∈ l) : B a = none := (L.all _ m).2
theorem imm (L : Own K B H l) {v : V} {d : PyData} (m : As.im v d ∈ l) : Imm K H v d := L.all _ m
theorem imms (L : Own K B H l) {vs : List V} {ds : List PyData} (m : As.ims vs ds ∈ l) : ImmL K H vs ds := L.all _ m
theorem sq (L : Own K B H l) {xs : List V} (h : SqL K B a xs) : SqL K H a xs := L.same.seq h
theorem sqT (L : Own K B H l) {xs : List V} (h : SqT K B a xs) : SqT K H a xs := Same.seqT L.same h
theorem base (L : Own K B H l) {o : HO} (h : B a = some o) : H a = some o := L.same _ _ h
theorem holds_same {x : As} (s : Same H H') (h : x.holds K B H) : x.holds K B H' := by
  cases x with
  | pt a o => exact ⟨s _ _ h.1, h.2⟩
  | im v d => exact Imm.mono (fun _ _ g => Same.seqT s g) h
  | ims v d => exact ImmL.mono (fun _ _ g => Same.seqT s g) h
theorem call (L : Own K B H l) (s : Same H H') : Own K B H' l := ⟨L.same.trans s, L.nd, fun x hx => holds_same s (L.all x hx)⟩
theorem add0 (L : Own K B H l) {H1 : Hp} {p : Addr} {o : HO} (s : Same H H1) (hp : H p = none) (hl : H1 p = some o) : Own K B H1 (.pt p o :: l) := by
  refine ⟨L.same.trans s, ?_, fun x hx => ?_⟩
  · refine List.nodup_append.mpr ⟨List.nodup_cons.mpr ⟨List.not_mem_nil, List.nodup_nil⟩, L.nd, fun b hb c hc e => ?_⟩
    obtain rfl := List.mem_singleton.mp hb
    subst e
    obtain ⟨x, hx, hb⟩ := List.mem_flatMap.mp hc
    cases x with
    | pt a o =>
      obtain rfl := List.mem_singleton.mp hb
      have := (L.all _ hx).1
      rw [hp] at this
      cases this
    | im _ _ => cases hb
    | ims _ _ => cases hb
  · rcases List.mem_cons.mp hx with e | h
    · rw [e]
      exact ⟨hl, L.same.free hp⟩
    · exact holds_same s (L.all x h)
theorem add (L : Own K B H l) {y : As} (h : y.holds K B H) (n : ∀ b ∈ y.ad, b ∉ ads l) : Own K B H (y :: l) := by
  refine ⟨L.same, ?_, fun x hx => ?_⟩
  · unfold ads
    rw [List.flatMap_cons]
    refine List.nodup_append.mpr ⟨?_, L.nd, fun b hb c hc e => n b hb (e ▸ hc)⟩
    cases y with
    | pt a o => exact List.nodup_cons.mpr ⟨List.not_mem_nil, List.nodup_nil⟩
    | im _ _ => exact List.nodup_nil
    | ims _ _ => exact List.nodup_nil
  · rcases List.mem_cons.mp hx with e | h'
    · rw [e]
      exact h
    · exact L.all x h'
theorem addIm (L : Own K B H l) {v : V} {d : PyData} (h : Imm K H v d) : Own K B H (.im v d :: l) := L.add h (fun _ h => nomatch h)
theorem addIms (L : Own K B H l) {vs : List V} {ds : List PyData} (h : ImmL K H vs ds) : Own K B H (.ims vs ds :: l) := L.add h (fun _ h => nomatch h)
theorem ad_some (L : Own K B H l) {b : Addr} (h : b ∈ ads l) : ∃ o, H b = some o := by
  obtain ⟨x, hx, hb⟩ := List.mem_flatMap.mp h
  cases x with
  | pt a o =>
    rw [List.mem_singleton.mp hb]
    exact ⟨o, (L.all _ hx).1⟩
  | im _ _ => cases hb
  | ims _ _ => cases hb
theorem ad_fresh (L : Own K B H l) {b : Addr} (h : b ∈ ads l) : B b = none := by
  obtain ⟨x, hx, hb⟩ := List.mem_flatMap.mp h
  cases x with
  | pt a o =>
    rw [List.mem_singleton.mp hb]
    exact (L.all _ hx).2
  | im _ _ => cases hb
  | ims _ _ => cases hb
/-- a call that made what l' says -/
theorem calls (L : Own K B H l) (M : Own K H H' l') : Own K B H' (l' ++ l) := by
  refine ⟨L.same.trans M.same, ?_, fun x hx => ?_⟩
  · unfold ads
    rw [List.flatMap_append]
    refine List.nodup_append.mpr ⟨M.nd, L.nd, fun b hb c hc e => ?_⟩
    obtain ⟨o, h⟩ := L.ad_some (e ▸ hc : b ∈ ads l)
    rw [M.ad_fresh hb] at h
    cases h
  · rcases List.mem_append.mp hx with h | h
    · have := M.all x h
      cases x with
      | pt a o => exact ⟨this.1, L.same.free this.2⟩
      | im _ _ => exact this
      | ims _ _ => exact this
    · exact holds_same M.same (L.all x h)
theorem c0 (L : Own K B H l) (M : Own K H H' []) : Own K B H' l := L.calls M
theorem c1 {x : As} (L : Own K B H l) (M : Own K H H' [x]) : Own K B H' (x :: l) := L.calls M
theorem c2 {x y : As} (L : Own K B H l) (M : Own K H H' [x, y]) : Own K B H' (x :: y :: l) := L.calls M
theorem c3 {x y z : As} (L : Own K B H l) (M : Own K H H' [x, y, z]) : Own K B H' (x :: y :: z :: l) := L.calls M
theorem new (L : Own K B H l) {p : Addr} (h : H p = none) (o : HO) : Own K B (upd H p o) (.pt p o :: l) := by
  refine (L.call (same_upd h)).add ⟨upd_same, L.same.free h⟩ fun b hb hn => ?_
  obtain rfl := List.mem_singleton.mp hb
  obtain ⟨u, e⟩ := L.ad_some hn
  rw [h] at e
  cases e
theorem put (L : Own K B H l) (m : mutb o = true) (p : Put l a o o' l') : Own K B (upd H a o') l' := by
  have ha := L.get p.mem
  have hB := L.fresh p.mem
  refine ⟨same_put L.same hB, p.ads ▸ L.nd, fun x hx => ?_⟩
  rcases p.old L.nd x hx with e | ⟨h, n⟩
  · subst e
    exact ⟨upd_same, hB⟩
  · have q := L.all x h
    cases x with
    | pt b u =>
      refine ⟨?_, q.2⟩
      rw [upd_ne fun e => n (List.mem_singleton.mpr e.symm)]
      exact q.1
    | im _ _ => exact Imm.mono (fun _ _ g => sqT_upd ha m g) q
    | ims _ _ => exact ImmL.mono (fun _ _ g => sqT_upd ha m g) q
theorem drop1 {x : As} (L : Own K B H (x :: l)) : Own K B H l := by
  refine ⟨L.same, ?_, fun y hy => L.all y (.tail _ hy)⟩
  have := L.nd
  unfold ads at this
  rw [List.flatMap_cons] at this
  exact (List.nodup_append.mp this).2.1
theorem sub (L : Own K B H l) (s : l'.Sublist l) : Own K B H l' := by
  refine ⟨L.same, ?_, fun y hy => L.all y (s.subset hy)⟩
  exact List.Nodup.sublist (ads_sub s) L.nd
theorem perm (L : Own K B H l) (s : l.Perm l') : Own K B H l' := ⟨L.same, (s.flatMap_right _).nodup_iff.mp L.nd, fun x hx => L.all x (s.mem_iff.mpr hx)⟩
theorem rebase {B' : Hp} (L : Own K B H l) (s : Same B' B) : Own K B' H l := by
  refine ⟨s.trans L.same, L.nd, fun x hx => ?_⟩
  have q := L.all x hx
  cases x with
  | pt a o => exact ⟨q.1, s.free q.2⟩
  | im _ _ => exact q
  | ims _ _ => exact q
end Own
/-! ### without some cells: what a call may change -/
def delL (H : Hp) (as : List Addr) : Hp := fun b => if b ∈ as then none else H b
theorem delL_in {H : Hp} {as : List Addr} {b : Addr} (h : b ∈ as) : delL H as b = none := if_pos h
theorem delL_out {H : Hp} {as : List Addr} {b : Addr} (h : b ∉ as) : delL H as b = H b := if_neg h
/-- taken out of l: the cells of l1; what stays: l0 -/
theorem Own.muts {K : PySem.W.Frag} {B H H' : Hp} {l1 l0 l' : List As} (L : Own K B H (l1 ++ l0)) (m : ∀ a o, As.pt a o ∈ l1 → mutb o = true) (M : Own K (delL H (ads l1)) H' l') : Own K B H' (l' ++ l0) := by
  have nd := L.nd
  unfold ads at nd
  rw [List.flatMap_append] at nd
  have nd := List.nodup_append.mp nd
  have key : ∀ b o, H b = some o → b ∉ ads l1 → H' b = some o := fun b o h n => M.same b o ((delL_out n).trans h)
  have hB : Same B H' := fun b o h => by
    refine key b o (L.same b o h) fun z => ?_
    have : B b = none := L.ad_fresh (by unfold ads; rw [List.flatMap_append]; exact List.mem_append_left _ z)
    rw [h] at this
    cases this
  have hT : ∀ a xs, SqT K H a xs → SqT K H' a xs := by
    intro a xs g
    have no : ∀ o, H a = some o → mutb o = false → a ∉ ads l1 := fun o h e z => by
      obtain ⟨x, hx, hb⟩ := List.mem_flatMap.mp z
      cases x with
      | pt b u =>
        obtain rfl := List.mem_singleton.mp hb
        have := L.get (List.mem_append_left _ hx)
        rw [h] at this
        cases this
        rw [m _ _ hx] at e
        cases e
      | im _ _ => cases hb
      | ims _ _ => cases hb
    rcases g with (g | ⟨u, g⟩) | g
    · exact .inl (.inl (key _ _ g (no _ g rfl)))
    · exact .inl (.inr ⟨u, key _ _ g (no _ g rfl)⟩)
    · exact .inr g
  refine ⟨hB, ?_, fun x hx => ?_⟩
  · unfold ads
    rw [List.flatMap_append]
    refine List.nodup_append.mpr ⟨M.nd, nd.2.1, fun b hb c hc e => ?_⟩
    subst e
    obtain ⟨o, h⟩ := L.ad_some (b := b) (by unfold ads; rw [List.flatMap_append]; exact List.mem_append_right _ hc)
    have f := M.ad_fresh hb
    by_cases z : b ∈ ads l1
    · exact nd.2.2 b z b hc rfl
    · rw [delL_out z, h] at f
      cases f
  · rcases List.mem_append.mp hx with h | h
    · have q := M.all x h
      cases x with
      | pt a o =>
        refine ⟨q.1, ?_⟩
        have f := q.2
        by_cases z : a ∈ ads l1
        · exact L.ad_fresh (by unfold ads; rw [List.flatMap_append]; exact List.mem_append_left _ z)
        · rw [delL_out z] at f
          exact L.same.free f
      | im _ _ => exact q
      | ims _ _ => exact q
    · have q := L.all x (List.mem_append_right _ h)
      cases x with
      | pt a o =>
        refine ⟨key a o q.1 fun z => ?_, q.2⟩
        exact nd.2.2 a z a (mem_ads h) rfl
      | im _ _ => exact Imm.mono hT q
      | ims _ _ => exact ImmL.mono hT q
/-- the cells of l0 alone are changed by the def: its base is without them -/
theorem Own.enter {K : PySem.W.Frag} {B H : Hp} {l0 : List As} (L : Own K B H l0) : Own K (delL H (ads l0)) H l0 := by
  refine ⟨fun b o h => ?_, L.nd, fun x hx => ?_⟩
  · by_cases z : b ∈ ads l0
    · rw [delL_in z] at h
      cases h
    · rw [delL_out z] at h
      exact h
  · have q := L.all x hx
    cases x with
    | pt a o => exact ⟨q.1, delL_in (mem_ads hx)⟩
    | im _ _ => exact q
    | ims _ _ => exact q
/-! ### steps that make and change, the heap told by what is owned -/
def NewO (H : Hp) (o : HO) (Q : VK) : Prop := ∀ p : Addr, H p = none → Q (.ref p) (upd H p o)
def AppO (H : Hp) (p : Addr) (y : V) (Q : VK) : Prop := ∃ xs, H p = some (.lst xs) ∧ xs.length < sizeLine ∧ Q .non (upd H p (.lst (xs ++ [y])))
def SetO (H : Hp) (p : Addr) (k : Int) (v : V) (QH : Hp → Prop) : Prop := ∃ xs j, H p = some (.lst xs) ∧ ixN xs.length k = some j ∧ QH (upd H p (.lst (xs.set j v)))
section
variable {K : PySem.W.Frag} {B H : Hp} {l l' : List As} {o : HO} {Q : VK} {QH : Hp → Prop} {p : Addr} {xs : List V} {y : V} {k : Int} {j : Nat}
theorem newO (L : Own K B H l) (h : ∀ p H', Own K B H' (.pt p o :: l) → Q (.ref p) H') : NewO H o Q := fun p hp => h p _ (L.new hp o)
theorem appO (L : Own K B H l) (pp : Put l p (.lst xs) (.lst (xs ++ [y])) l') (hs : xs.length < sizeLine) (h : ∀ H', Own K B H' l' → Q .non H') : AppO H p y Q := ⟨xs, L.get pp.mem, hs, h _ (L.put rfl pp)⟩
theorem setO (L : Own K B H l) (pp : Put l p (.lst xs) (.lst (xs.set k.toNat y)) l') (h0 : 0 ≤ k) (h1 : k < xs.length) (h : ∀ H', Own K B H' l' → QH H') : SetO H p k y QH := ⟨xs, _, L.get pp.mem, ixN_ok h0 h1, h _ (L.put rfl pp)⟩
theorem g_newO (h : NewO H o Q) : NewO H o Q := h
theorem g_appO (h : AppO H p y Q) : AppO H p y Q := h
theorem g_setO (h : SetO H p k y QH) : SetO H p k y QH := h
end
section
variable {K : PySem.W.Frag} {H : Hp} {Q : VK} {a b v : V} {vs : List V} {l : TA} {σ : L2.St} {lo hi : Option Int} {QH : Hp → Prop}
theorem n_tup : tTup l σ H Q = l σ H (fun xs H1 => xs.length ≤ sizeLine ∧ NewO H1 (.tup xs) Q) := rfl
theorem n_lst : tLst l σ H Q = l σ H (fun xs H1 => xs.length ≤ sizeLine ∧ NewO H1 (.lst xs) Q) := rfl
theorem n_rSlL : rSlL K a lo hi H Q = ∃ p xs, a = .ref p ∧ SqL K H p xs ∧ NewO H (.lst (cutV xs lo hi)) Q := rfl
theorem n_rCat : rCat a b H Q = ∃ l m xs zs, a = .ref l ∧ b = .ref m ∧ H l = some (.lst xs) ∧ H m = some (.lst zs) ∧ xs.length + zs.length ≤ sizeLine ∧ NewO H (.lst (xs ++ zs)) Q := rfl
theorem n_rRep : rRep a b H Q = ∃ l k xs, a = .ref l ∧ b = .int k ∧ H l = some (.lst xs) ∧ -(2 ^ 63) ≤ k ∧ k < 2 ^ 63 ∧ xs.length * k.toNat ≤ sizeLine ∧ NewO H (.lst (List.replicate k.toNat xs).flatten) Q := by first | rfl | (unfold rRep; rfl)
theorem n_rApp : rAppend a vs H Q = ∃ l y, a = .ref l ∧ vs = [y] ∧ AppO H l y Q := propext ⟨fun ⟨l, xs, y, e1, e2, h⟩ => ⟨l, y, e1, e2, xs, h⟩, fun ⟨l, y, e1, e2, xs, h⟩ => ⟨l, xs, y, e1, e2, h⟩⟩
theorem n_setL {o i' : V} : rSetL o i' v H QH = ∃ p k, o = .ref p ∧ i' = .int k ∧ SetO H p k v QH := propext ⟨fun ⟨p, xs, k, j, e1, e2, h⟩ => ⟨p, k, e1, e2, xs, j, h⟩, fun ⟨p, k, e1, e2, xs, j, h⟩ => ⟨p, xs, k, j, e1, e2, h⟩⟩
/-- list(..) -/
def rLs (K : PySem.W.Frag) (xs : List V) (H : Hp) (Q : VK) : Prop := ∃ p ys, xs = [.ref p] ∧ (SqL K H p ys ∨ SqT K H p ys) ∧ NewO H (.lst ys) Q
theorem n_rLs {xs : List V} : rLs K xs H Q = ∃ p ys, xs = [.ref p] ∧ (SqL K H p ys ∨ SqT K H p ys) ∧ NewO H (.lst ys) Q := rfl
end
theorem lsK {X : Cx} (K : PySem.W.Frag) (h : X.K = K := by rfl) : CallR X (.type "list") (rLs K) := h ▸ call_list_of
/-! comprehensions -/
def EndC (D : Addr) (N : Hp → Prop) (y : V) (H4 : Hp) : Prop := ∃ acc, H4 D = some (.lst acc) ∧ acc.length < sizeLine ∧ N (upd H4 D (.lst (acc ++ [y])))
theorem endC {K : PySem.W.Frag} {B H : Hp} {l l' : List As} {D : Addr} {N : Hp → Prop} {y : V} {acc : List V} (L : Own K B H l) (pp : Put l D (.lst acc) (.lst (acc ++ [y])) l') (hs : acc.length < sizeLine) (h : ∀ H', Own K B H' l' → N H') : ∃ acc, H D = some (.lst acc) ∧ acc.length < sizeLine ∧ N (upd H D (.lst (acc ++ [y]))) := ⟨acc, L.get pp.mem, hs, h _ (L.put rfl pp)⟩
theorem mem_here {α : Type} {x : α} {l : List α} : x ∈ x :: l := List.Mem.head _
theorem mem_there {α : Type} {x y : α} {l : List α} (h : x ∈ l) : x ∈ y :: l := List.Mem.tail _ h
/-! lists of ints -/
abbrev pI (a : Addr) (ns : List Int) : As := .pt a (.lst (ns.map V.int))
theorem appI {K : PySem.W.Frag} {B H : Hp} {l l' : List As} {Q : VK} {p : Addr} {ns : List Int} {y : Int} (L : Own K B H l) (pp : Put l p (.lst (ns.map V.int)) (.lst ((ns ++ [y]).map V.int)) l') (hs : ns.length < sizeLine) (h : ∀ H', Own K B H' l' → Q .non H') : AppO H p (.int y) Q :=
  ⟨ns.map V.int, L.get pp.mem, by rw [List.length_map]; exact hs, by
    have e : ns.map V.int ++ [V.int y] = (ns ++ [y]).map V.int := by rw [List.map_append]; rfl
    rw [e]
    exact h _ (L.put rfl pp)⟩
theorem setI {K : PySem.W.Frag} {B H : Hp} {l l' : List As} {QH : Hp → Prop} {p : Addr} {ns : List Int} {k y : Int} (L : Own K B H l) (pp : Put l p (.lst (ns.map V.int)) (.lst ((ns.set k.toNat y).map V.int)) l') (h0 : 0 ≤ k) (h1 : k < ns.length) (h : ∀ H', Own K B H' l' → QH H') : SetO H p k (.int y) QH :=
  ⟨ns.map V.int, k.toNat, L.get pp.mem, ixN_ok h0 (by rw [List.length_map]; exact h1), by
    rw [set_ints]
    exact h _ (L.put rfl pp)⟩
theorem ints_cat {xs ys : List Int} : xs.map V.int ++ ys.map V.int = (xs ++ ys).map V.int := List.map_append.symm
theorem ints_app1 {xs : List Int} {y : Int} : xs.map V.int ++ [V.int y] = (xs ++ [y]).map V.int := by rw [List.map_append]; rfl
theorem ints_len {xs : List Int} : (xs.map V.int).length = xs.length := List.length_map ..
theorem ints_take {xs : List Int} {n : Nat} : (xs.map V.int).take n = (xs.take n).map V.int := List.map_take.symm
theorem ints_drop {xs : List Int} {n : Nat} : (xs.map V.int).drop n = (xs.drop n).map V.int := List.map_drop.symm
/-! comprehensions of ints -/
/-- the end of a turn: the list goes on as ys -/
def CQ (K : PySem.W.Frag) (B : Hp) (D : Addr) (l : List As) (ys : List Int) (y : V) (H4 : Hp) : Prop := ∃ acc, H4 D = some (.lst acc) ∧ acc.length < sizeLine ∧ Own K B (upd H4 D (.lst (acc ++ [y]))) (.pt D (.lst (ys.map V.int)) :: l)
theorem cq {K : PySem.W.Frag} {B H : Hp} {D : Addr} {l : List As} {ys : List Int} {y : Int} (L : Own K B H (.pt D (.lst (ys.map V.int)) :: l)) (hn : ys.length < 100000) : CQ K B D l (ys ++ [y]) (.int y) H := by
  refine ⟨_, L.get (.head _), line_map (Nat.le_of_lt hn) (by decide), ?_⟩
  have := L.put (o' := .lst (ys.map V.int ++ [V.int y])) rfl .here
  rw [List.map_append]
  exact this
theorem g_cq {K : PySem.W.Frag} {B H : Hp} {D : Addr} {l : List As} {ys : List Int} {y : V} (h : CQ K B D l ys y H) : CQ K B D l ys y H := h
section
variable {K : PySem.W.Frag} {B H : Hp} {l : List As} {te : TE} {tA : TT} {σ : L2.St} {lo : Int} {n : Nat} {g : TG} {vs : List Nat} {Q : Addr → Hp → Prop}
/-- over a range -/
theorem compRi (f : Nat → Int) (L : Own K B H l) (hn : n < 100000)
    (hs : ∀ i D H1, i < n → Own K B H1 (.pt D (.lst ((rngL f i).map V.int)) :: l) → g (.int (lo + i)) (wipe σ vs) H1 fun σ2 H2 => wipe σ2 vs = wipe σ vs ∧ te σ2 H2 (CQ K B D l (rngL f i ++ [f i])))
    (hd : ∀ D H', Own K B H' (.pt D (.lst ((rngL f n).map V.int)) :: l) → Q D H') : ∀ D, H D = none → CompI (Itr lo n) g tYes te vs σ H D (Q D) := by
  intro D hD
  refine comp_range (fun i H' => Own K B H' (.pt D (.lst ((rngL f i).map V.int)) :: l)) (L.new hD _) (fun i H' hi h => ?_) (fun H' h => hd D H' h)
  have := hs i D H' hi h
  unfold CQ at this
  rw [← rngL_succ] at this
  exact this
/-- over a range, with a test -/
theorem compRt (f : Nat → Int) (p : Nat → Bool) (L : Own K B H l) (hn : n < 100000)
    (hs : ∀ i D H1, i < n → Own K B H1 (.pt D (.lst ((((List.range i).filter p).map f).map V.int)) :: l) → g (.int (lo + i)) (wipe σ vs) H1 fun σ2 H2 => wipe σ2 vs = wipe σ vs ∧ tA σ2 H2 fun b H3 =>
      if b = true then te σ2 H3 (CQ K B D l (((List.range (i + 1)).filter p).map f)) else Own K B H3 (.pt D (.lst ((((List.range (i + 1)).filter p).map f).map V.int)) :: l))
    (hd : ∀ D H', Own K B H' (.pt D (.lst ((((List.range n).filter p).map f).map V.int)) :: l) → Q D H') : ∀ D, H D = none → CompI (Itr lo n) g tA te vs σ H D (Q D) := by
  intro D hD
  exact comp_range (fun i H' => Own K B H' (.pt D (.lst ((((List.range i).filter p).map f).map V.int)) :: l)) (L.new hD _) (fun i H' hi h => hs i D H' hi h) (fun H' h => hd D H' h)
/-- over a list of ints -/
theorem compLi {a : Addr} {xs : List Int} (f : Int → Int) (L : Own K B H l) (hS : SqL K H a (xs.map V.int)) (hn : xs.length < 100000)
    (hs : ∀ i x D H1, xs[i]? = some x → Own K B H1 (.pt D (.lst (((xs.take i).map f).map V.int)) :: l) → g (.int x) (wipe σ vs) H1 fun σ2 H2 => wipe σ2 vs = wipe σ vs ∧ te σ2 H2 (CQ K B D l ((xs.take i).map f ++ [f x])))
    (hk : ∀ H', Own K B H' l → SqL K H' a (xs.map V.int))
    (hd : ∀ D H', Own K B H' (.pt D (.lst ((xs.map f).map V.int)) :: l) → Q D H') : ∀ D, H D = none → CompI (Itl K a) g tYes te vs σ H D (Q D) := by
  intro D hD
  refine comp_list (xs := xs.map V.int) (fun i H' => Own K B H' (.pt D (.lst (((xs.take i).map f).map V.int)) :: l)) (L.new hD _) (fun i H' _ h => hk H' h.drop1) (fun i x H' hx h => ?_) (fun H' h => ?_)
  · obtain ⟨z, hz, rfl⟩ := int_at hx
    have := hs i z D H' hz h
    unfold CQ at this
    rw [← take_map_snoc hz] at this
    exact this
  · rw [List.length_map, List.take_length] at h
    exact hd D H' h
/-- over a list of ints, with a test -/
theorem compLt {a : Addr} {xs : List Int} (f : Int → Int) (p : Int → Bool) (L : Own K B H l) (hS : SqL K H a (xs.map V.int)) (hn : xs.length < 100000)
    (hs : ∀ i x D H1, xs[i]? = some x → Own K B H1 (.pt D (.lst ((((xs.take i).filter p).map f).map V.int)) :: l) → g (.int x) (wipe σ vs) H1 fun σ2 H2 => wipe σ2 vs = wipe σ vs ∧ tA σ2 H2 fun b H3 =>
      if b = true then te σ2 H3 (CQ K B D l (((xs.take (i + 1)).filter p).map f)) else Own K B H3 (.pt D (.lst ((((xs.take (i + 1)).filter p).map f).map V.int)) :: l))
    (hk : ∀ H', Own K B H' l → SqL K H' a (xs.map V.int))
    (hd : ∀ D H', Own K B H' (.pt D (.lst (((xs.filter p).map f).map V.int)) :: l) → Q D H') : ∀ D, H D = none → CompI (Itl K a) g tA te vs σ H D (Q D) := by
  intro D hD
  refine comp_list (xs := xs.map V.int) (fun i H' => Own K B H' (.pt D (.lst ((((xs.take i).filter p).map f).map V.int)) :: l)) (L.new hD _) (fun i H' _ h => hk H' h.drop1) (fun i x H' hx h => ?_) (fun H' h => ?_)
  · obtain ⟨z, hz, rfl⟩ := int_at hx
    exact hs i z D H' hz h
  · rw [List.length_map, List.take_length] at h
    exact hd D H' h
end
/-! ranges with a step, reversed ranges -/
theorem x_irng3 {l : TA} {σ : L2.St} {H : Hp} {R : It → Hp → Prop} : iRng3 l σ H R = l σ H (fun vs H1 => ∃ (i j c : Int) (n : Nat), vs = [.int i, .int j, .int c] ∧ RgC i j c n ∧ R (Itc i c n) H1) := rfl
theorem x_irevR {tr : L2.St → Hp → (Int → Int → Hp → Prop) → Prop} {σ : L2.St} {H : Hp} {R : It → Hp → Prop} : iRevR tr σ H R = tr σ H (fun a b H1 => (-(2 ^ 62) ≤ a ∧ a < 2 ^ 62 ∧ -(2 ^ 62) ≤ b ∧ b < 2 ^ 62) ∧ R (Itc (a + (((b - a).toNat : Nat) : Int) - 1) (-1) (b - a).toNat) H1) := by
  unfold iRevR
  congr 1
  funext a b H1
  simp only [and_assoc]
theorem x_rg1 {te : TE} {σ : L2.St} {H : Hp} {Q : Int → Int → Hp → Prop} : tRg1 te σ H Q = te σ H (fun x H1 => ∃ n, x = .int n ∧ Q 0 n H1) := rfl
theorem x_rg2 {ta tb : TE} {σ : L2.St} {H : Hp} {Q : Int → Int → Hp → Prop} : tRg2 ta tb σ H Q = ta σ H (fun x H1 => tb σ H1 (fun y H2 => ∃ i j, x = .int i ∧ y = .int j ∧ Q i j H2)) := rfl
theorem rgNeg {i j : Int} {P : Nat → Prop} (h : -(2 ^ 62) ≤ i ∧ i < 2 ^ 62 ∧ -(2 ^ 62) ≤ j ∧ j < 2 ^ 62) (q : P (i - j).toNat) : ∃ n, RgC i j (-1) n ∧ P n := ⟨_, RgC.neg h.1 h.2.1 h.2.2.1 h.2.2.2, q⟩
theorem loop_rangeC {t : TS} {D : Ends} {σ : L2.St} {H : Hp} {lo c : Int} {n : Nat} {g : TG} (Pv : Nat → L2.St → Hp → Prop) (h0 : Pv 0 σ H)
    (hs : ∀ i σ H, i < n → Pv i σ H → g (.int (lo + (i : Nat) * c)) σ H fun σ2 H2 => t { D with nx := Pv (i + 1), ct := Pv (i + 1), bk := D.nx } σ2 H2) (hd : ∀ σ H, Pv n σ H → D.nx σ H) : LoopI (Itc lo c n) g t D σ H := for_rangeC Pv h0 hs hd
theorem comp_rangeC {te : TE} {tA : TT} {σ : L2.St} {H : Hp} {lo c : Int} {n : Nat} {g : TG} {vs : List Nat} {D : Addr} {Qd : Hp → Prop} (Pv : Nat → Hp → Prop) (h0 : Pv 0 (upd H D (.lst [])))
    (hs : ∀ i H, i < n → Pv i H → g (.int (lo + (i : Nat) * c)) (wipe σ vs) H fun σ2 H2 => wipe σ2 vs = wipe σ vs ∧ tA σ2 H2 fun b H3 =>
      if b = true then te σ2 H3 fun y H4 => ∃ acc, H4 D = some (.lst acc) ∧ acc.length < sizeLine ∧ Pv (i + 1) (upd H4 D (.lst (acc ++ [y]))) else Pv (i + 1) H3) (hd : ∀ H, Pv n H → Qd H) : CompI (Itc lo c n) g tA te vs σ H D Qd := by
  refine ⟨fun i left H => left = n - i ∧ i ≤ n ∧ Pv i H, ⟨n, by omega, by omega, h0⟩, ?_⟩
  rintro i left H ⟨rfl, hi, p⟩
  by_cases hlt : i < n
  · refine .inr ⟨hlt, Pv (i + 1), fun H' p' => ⟨n - (i + 1), by omega, rfl, hlt, p'⟩, fun x H' y => ?_⟩
    obtain ⟨e1, e2⟩ := y
    subst e1; subst e2
    exact hs i H' hlt p
  · obtain rfl : i = n := Nat.le_antisymm hi (by omega)
    exact .inl ⟨Nat.le_refl _, hd H p⟩
section
variable {K : PySem.W.Frag} {B H : Hp} {l : List As} {te : TE} {tA : TT} {σ : L2.St} {lo c : Int} {n : Nat} {g : TG} {vs : List Nat} {Q : Addr → Hp → Prop}
/-- over a range with a step, with a test -/
theorem compRtc (f : Nat → Int) (p : Nat → Bool) (L : Own K B H l) (hn : n < 100000)
    (hs : ∀ i D H1, i < n → Own K B H1 (pI D (((List.range i).filter p).map f) :: l) → g (.int (lo + (i : Nat) * c)) (wipe σ vs) H1 fun σ2 H2 => wipe σ2 vs = wipe σ vs ∧ tA σ2 H2 fun b H3 =>
      if b = true then te σ2 H3 (CQ K B D l (((List.range (i + 1)).filter p).map f)) else Own K B H3 (pI D (((List.range (i + 1)).filter p).map f) :: l))
    (hd : ∀ D H', Own K B H' (pI D (((List.range n).filter p).map f) :: l) → Q D H') : ∀ D, H D = none → CompI (Itc lo c n) g tA te vs σ H D (Q D) := by
  intro D hD
  exact comp_rangeC (fun i H' => Own K B H' (pI D (((List.range i).filter p).map f) :: l)) (L.new hD _) (fun i H' hi h => hs i D H' hi h) (fun H' h => hd D H' h)
end
theorem filt_snoc {f : Nat → Int} {p : Nat → Bool} {i : Nat} : ((List.range (i + 1)).filter p).map f = if p i = true then ((List.range i).filter p).map f ++ [f i] else ((List.range i).filter p).map f := by
  rw [List.range_succ, List.filter_append, List.map_append]
  by_cases h : p i = true
  · rw [if_pos h, List.filter_cons_of_pos h]
    rfl
  · rw [if_neg h, List.filter_cons_of_neg h]
    exact List.append_nil _
/-- the turn of a comprehension with a test -/
theorem ct_yes {K : PySem.W.Frag} {B H : Hp} {l : List As} {D : Addr} {f : Nat → Int} {p : Nat → Bool} {i : Nat} {y : Int} (L : Own K B H (pI D (((List.range i).filter p).map f) :: l)) (hn : i < 100000) (hp : p i = true) (hy : y = f i) : CQ K B D l (((List.range (i + 1)).filter p).map f) (.int y) H := by
  rw [filt_snoc, if_pos hp, hy]
  refine cq L ?_
  rw [List.length_map]
  have := List.length_filter_le p (List.range i)
  rw [List.length_range] at this
  omega
theorem ct_no {K : PySem.W.Frag} {B H : Hp} {l : List As} {D : Addr} {f : Nat → Int} {p : Nat → Bool} {i : Nat} (L : Own K B H (pI D (((List.range i).filter p).map f) :: l)) (hp : ¬ p i = true) : Own K B H (pI D (((List.range (i + 1)).filter p).map f) :: l) := by
  rw [filt_snoc, if_neg hp]
  exact L
theorem filtL_snoc {xs : List Int} {f : Int → Int} {p : Int → Bool} {i : Nat} {x : Int} (h : xs[i]? = some x) : ((xs.take (i + 1)).filter p).map f = if p x = true then ((xs.take i).filter p).map f ++ [f x] else ((xs.take i).filter p).map f := by
  rw [List.take_add_one, h, List.filter_append, List.map_append]
  by_cases h : p x = true
  · rw [if_pos h]
    show _ ++ (List.filter p [x]).map f = _
    rw [List.filter_cons_of_pos h]
    rfl
  · rw [if_neg h]
    show _ ++ (List.filter p [x]).map f = _
    rw [List.filter_cons_of_neg h]
    exact List.append_nil _
theorem cl_yes {K : PySem.W.Frag} {B H : Hp} {l : List As} {D : Addr} {xs : List Int} {f : Int → Int} {p : Int → Bool} {i : Nat} {x y : Int} (L : Own K B H (pI D (((xs.take i).filter p).map f) :: l)) (hx : xs[i]? = some x) (hn : xs.length < 100000) (hp : p x = true) (hy : y = f x) : CQ K B D l (((xs.take (i + 1)).filter p).map f) (.int y) H := by
  rw [filtL_snoc hx, if_pos hp, hy]
  refine cq L ?_
  rw [List.length_map]
  have := List.length_filter_le p (xs.take i)
  rw [List.length_take] at this
  omega
theorem cl_no {K : PySem.W.Frag} {B H : Hp} {l : List As} {D : Addr} {xs : List Int} {f : Int → Int} {p : Int → Bool} {i : Nat} {x : Int} (L : Own K B H (pI D (((xs.take i).filter p).map f) :: l)) (hx : xs[i]? = some x) (hp : ¬ p x = true) : Own K B H (pI D (((xs.take (i + 1)).filter p).map f) :: l) := by
  rw [filtL_snoc hx, if_neg hp]
  exact L
/-! slices -/
theorem cut_ii {xs : List V} {i j : Int} (h0 : 0 ≤ i) (h1 : 0 ≤ j) : cutV xs (some i) (some j) = (xs.drop i.toNat).take (j.toNat - i.toNat) := by
  obtain ⟨i, rfl⟩ := Int.eq_ofNat_of_zero_le h0
  obtain ⟨j, rfl⟩ := Int.eq_ofNat_of_zero_le h1
  unfold cutV
  rw [HT.sIx_nat, HT.sIx_nat, Int.toNat_natCast, Int.toNat_natCast]
  by_cases h : i ≤ xs.length
  · rw [Nat.min_eq_left h]
    by_cases k : j ≤ xs.length
    · rw [Nat.min_eq_left k]
    · rw [Nat.min_eq_right (by omega), List.take_of_length_le (by rw [List.length_drop]; omega), List.take_of_length_le (by rw [List.length_drop]; omega)]
  · rw [show min i xs.length = xs.length by omega, List.drop_of_length_le (Nat.le_refl _), List.drop_of_length_le (show xs.length ≤ i by omega), List.take_nil, List.take_nil]
theorem cut_in {xs : List V} {i : Int} (h0 : 0 ≤ i) : cutV xs (some i) none = xs.drop i.toNat := by
  obtain ⟨i, rfl⟩ := Int.eq_ofNat_of_zero_le h0
  unfold cutV
  rw [HT.sIx_nat, HT.sIx_none, Int.toNat_natCast]
  by_cases h : i ≤ xs.length
  · rw [Nat.min_eq_left h]
    exact List.take_of_length_le (by rw [List.length_drop]; exact Nat.le_refl _)
  · rw [Nat.min_eq_right (by omega), List.drop_of_length_le (Nat.le_refl _), List.drop_of_length_le (show xs.length ≤ i by omega), List.take_nil]
theorem cut_ni {xs : List V} {j : Int} (h1 : 0 ≤ j) : cutV xs none (some j) = xs.take j.toNat := by
  obtain ⟨j, rfl⟩ := Int.eq_ofNat_of_zero_le h1
  unfold cutV
  rw [HT.sIx_nat, HT.sIx_none, Int.toNat_natCast, List.drop_zero, Nat.sub_zero]
  by_cases k : j ≤ xs.length
  · rw [Nat.min_eq_left k]
  · rw [Nat.min_eq_right (by omega), List.take_of_length_le (Nat.le_refl _), List.take_of_length_le (show xs.length ≤ j by omega)]
/-! == of lists of ints -/
theorem eqd_ints {K : PySem.W.Frag} {H : Hp} {a b : Addr} {xs ys : List Int} {Q : VK} (h1 : SqL K H a (xs.map V.int)) (h2 : SqL K H b (ys.map V.int)) (q : Q (.bl (decide (xs = ys))) H) : rEqD K (.ref a) (.ref b) H Q := by
  refine eqd (dq_lst h1) (dq_lst h2) fun r e => ?_
  have : r = decide (xs = ys) := by
    rw [PyData.list.injEq, map_int_inj] at e
    by_cases c : xs = ys
    · rw [decide_eq_true c, e.mpr c]
    · rw [decide_eq_false c]
      cases r with
      | false => rfl
      | true => exact absurd (e.mp rfl) c
  rw [this]
  exact q
theorem ned_ints {K : PySem.W.Frag} {H : Hp} {a b : Addr} {xs ys : List Int} {Q : VK} (h1 : SqL K H a (xs.map V.int)) (h2 : SqL K H b (ys.map V.int)) (q : Q (.bl (!decide (xs = ys))) H) : rNeD K (.ref a) (.ref b) H Q := by
  refine ned (dq_lst h1) (dq_lst h2) fun r e => ?_
  have : r = decide (xs = ys) := by
    rw [PyData.list.injEq, map_int_inj] at e
    by_cases c : xs = ys
    · rw [decide_eq_true c, e.mpr c]
    · rw [decide_eq_false c]
      cases r with
      | false => rfl
      | true => exact absurd (e.mp rfl) c
  rw [this]
  exact q
theorem ite_d {A B p : Prop} {_ : Decidable p} (h1 : p → A) (h2 : ¬ p → B) : if decide p = true then A else B := by
  by_cases c : p
  · rw [if_pos (decide_eq_true c)]
    exact h1 c
  · rw [if_neg (by rw [decide_eq_false c]; decide)]
    exact h2 c
theorem ite_nd {A B p : Prop} {_ : Decidable p} (h1 : ¬ p → A) (h2 : p → B) : if (!decide p) = true then A else B := by
  by_cases c : p
  · rw [if_neg (by rw [decide_eq_true c]; decide)]
    exact h2 c
  · rw [if_pos (by rw [decide_eq_false c]; rfl)]
    exact h1 c
/-! tuples of ints -/
def tupI (ns : List Int) : HO := .tup (ns.map V.int)
theorem t_i1 {x : Int} : HO.tup [.int x] = tupI [x] := rfl
theorem t_i2 {x y : Int} : HO.tup [.int x, .int y] = tupI [x, y] := rfl
theorem t_i3 {x y z : Int} : HO.tup [.int x, .int y, .int z] = tupI [x, y, z] := rfl
theorem t_i4 {x y z u : Int} : HO.tup [.int x, .int y, .int z, .int u] = tupI [x, y, z, u] := rfl
theorem t_i5 {x y z u v : Int} : HO.tup [.int x, .int y, .int z, .int u, .int v] = tupI [x, y, z, u, v] := rfl
abbrev pT (a : Addr) (ns : List Int) : As := .pt a (tupI ns)
theorem sqT_tupI {K : PySem.W.Frag} {H : Hp} {p : Addr} {ns : List Int} (h : H p = some (tupI ns)) : SqT K H p (ns.map V.int) := SqT.of h
theorem Own.imT {K : PySem.W.Frag} {B H : Hp} {l : List As} {p : Addr} {ns : List Int} (L : Own K B H l) (m : As.im (.ref p) (tI ns) ∈ l) : SqT K H p (ns.map V.int) := by
  obtain ⟨a, e, h⟩ := Imm.of_ints (L.imm m)
  cases e
  exact h
theorem Own.imI {K : PySem.W.Frag} {B H : Hp} {l : List As} {p : Addr} {ns : List Int} (L : Own K B H l) (m : As.pt p (tupI ns) ∈ l) : Imm K H (.ref p) (tI ns) := Imm.of_is (SqT.of (L.get m))
section
variable {K : PySem.W.Frag} {H : Hp} {a b : Addr} {xs ys : List Int} {Q : VK}
theorem eqdT_ints (h1 : SqT K H a (xs.map V.int)) (h2 : SqT K H b (ys.map V.int)) (q : Q (.bl (decide (xs = ys))) H) : rEqD K (.ref a) (.ref b) H Q := by
  refine eqd (dq_tup h1) (dq_tup h2) fun r e => ?_
  have : r = decide (xs = ys) := by
    rw [PyData.tuple.injEq, map_int_inj] at e
    by_cases c : xs = ys
    · rw [decide_eq_true c, e.mpr c]
    · rw [decide_eq_false c]
      cases r with
      | false => rfl
      | true => exact absurd (e.mp rfl) c
  rw [this]
  exact q
theorem nedT_ints (h1 : SqT K H a (xs.map V.int)) (h2 : SqT K H b (ys.map V.int)) (q : Q (.bl (!decide (xs = ys))) H) : rNeD K (.ref a) (.ref b) H Q := by
  refine ned (dq_tup h1) (dq_tup h2) fun r e => ?_
  have : r = decide (xs = ys) := by
    rw [PyData.tuple.injEq, map_int_inj] at e
    by_cases c : xs = ys
    · rw [decide_eq_true c, e.mpr c]
    · rw [decide_eq_false c]
      cases r with
      | false => rfl
      | true => exact absurd (e.mp rfl) c
  rw [this]
  exact q
/-! isinstance of what is read -/
theorem isi_sqT {c : String} {r : Bool} {vs : List V} (h : kitB "tuple" c = some r) (hl : SqT K H a vs) (q : Q (.bl r) H) : rIsi K [.ref a, .ty c] H Q := by
  rcases hl with (g | ⟨o, g⟩) | ⟨o, its, n, g, c1, _⟩
  · exact ⟨_, _, _, _, r, rfl, .ty c, .base (.tup g), kit_ty h, q⟩
  · exact ⟨_, _, _, _, r, rfl, .ty c, .fTuple g, kit_ty h, q⟩
  · exact ⟨_, _, _, _, r, rfl, .ty c, .kTuple g c1, kit_ty h, q⟩
theorem isi_sqL {c : String} {r : Bool} {vs : List V} (h : kitB "list" c = some r) (hl : SqL K H a vs) (q : Q (.bl r) H) : rIsi K [.ref a, .ty c] H Q := by
  rcases hl with (g | ⟨o, g⟩) | ⟨o, its, n, g, c1, _⟩
  · exact ⟨_, _, _, _, r, rfl, .ty c, .base (.lst g), kit_ty h, q⟩
  · exact ⟨_, _, _, _, r, rfl, .ty c, .base (.frz g), kit_ty h, q⟩
  · exact ⟨_, _, _, _, r, rfl, .ty c, .kList g c1, kit_ty h, q⟩
theorem isi_non {c : String} {r : Bool} (h : kitB "NoneType" c = some r) (q : Q (.bl r) H) : rIsi K [.non, .ty c] H Q := ⟨_, _, _, _, r, rfl, .ty c, .base .non, kit_ty h, q⟩
theorem isi_bl {c : String} {r x : Bool} (h : kitB "bool" c = some r) (q : Q (.bl r) H) : rIsi K [.bl x, .ty c] H Q := ⟨_, _, _, _, r, rfl, .ty c, .base (.bl x), kit_ty h, q⟩
theorem isi_str {c : String} {r : Bool} {x : Str} (h : kitB "str" c = some r) (q : Q (.bl r) H) : rIsi K [.str x, .ty c] H Q := ⟨_, _, _, _, r, rfl, .ty c, .base (.str x), kit_ty h, q⟩
end
theorem g_sum {K : PySem.W.Frag} {H : Hp} {vs : List V} {Q : VK} (h : rSum K vs H Q) : rSum K vs H Q := h
theorem sum_call {K : PySem.W.Frag} {H : Hp} {a : Addr} {ns : List Int} {Q : VK} (h : SqL K H a (ns.map V.int)) (q : Q (.int ns.sum) H) : rSum K [.ref a] H Q := ⟨a, ns, rfl, h, q⟩
/-! an error caught: its dict is what is new -/
theorem caught {K : PySem.W.Frag} {B H H' : Hp} {l : List As} {d : Addr} {n : Int} {C : Value} {P : Hp → Prop} (L : Own K B H l) (s : Same H H') (hd : H' d = none) (h : ∀ G, Own K B G (.pt d (.xd [("at", .int n)]) :: l) → P G) : P (upd H' d (.xd [("at", .int n)])) := h _ ((L.call s).new hd _)
theorem maxK {X : Cx} (K : PySem.W.Frag) (hc : X.calm = true) (h : X.K = K := by rfl) : CallR X (.builtin "max") (rMax K) := h ▸ cr_max hc
theorem minK {X : Cx} (K : PySem.W.Frag) (hc : X.calm = true) (h : X.K = K := by rfl) : CallR X (.builtin "min") (rMin K) := h ▸ cr_min hc
theorem g_max {K : PySem.W.Frag} {H : Hp} {vs : List V} {Q : VK} (h : rMax K vs H Q) : rMax K vs H Q := h
theorem max_call {K : PySem.W.Frag} {H : Hp} {a : Addr} {ns : List Int} {Q : VK} (h : SqL K H a (ns.map V.int)) (n : 0 < ns.length) (q : ∀ m, m ∈ ns → (∀ y, y ∈ ns → y ≤ m) → Q (.int m) H) : rMax K [.ref a] H Q := ⟨a, ns, rfl, h, n, q⟩
theorem and_low (a k : Nat) : Builtin.bitAnd (a : Int) (2 ^ k - 1) = ((a % 2 ^ k : Nat) : Int) := by
  have e : ((2 : Int) ^ k - 1) = ((2 ^ k - 1 : Nat) : Int) := by
    have := Nat.two_pow_pos k
    rw [Int.natCast_sub (by omega), Int.natCast_pow]
    rfl
  rw [e]
  show ((a &&& (2 ^ k - 1) : Nat) : Int) = _
  rw [Nat.and_two_pow_sub_one_eq_mod]
theorem and255 {x : Int} (h : 0 ≤ x) : Builtin.bitAnd x 255 = x % 256 := by
  obtain ⟨a, rfl⟩ := Int.eq_ofNat_of_zero_le h
  exact and_low a 8
theorem and1 {x : Int} (h : 0 ≤ x) : Builtin.bitAnd x 1 = x % 2 := by
  obtain ⟨a, rfl⟩ := Int.eq_ofNat_of_zero_le h
  exact and_low a 1
theorem andK {x : Int} (h : 0 ≤ x) (k : Nat) : Builtin.bitAnd x (2 ^ k - 1) = x % 2 ^ k := by
  obtain ⟨a, rfl⟩ := Int.eq_ofNat_of_zero_le h
  rw [and_low a k, Int.natCast_emod, Int.natCast_pow]
  rfl
/-! a < b < c < d -/
def tChain3 (r r' r'' : R2) (ta tb tc td : TE) : TT := fun σ H Q => ta σ H fun x H1 => tb σ H1 fun y H2 => r x y H2 fun z H3 => ∃ k, z = .bl k ∧
  (if k = true then tc σ H3 fun u H4 => r' y u H4 fun z' H5 => ∃ k', z' = .bl k' ∧ (if k' = true then td σ H5 fun u' H6 => r'' u u' H6 fun z'' H7 => ∃ k'', z'' = .bl k'' ∧ Q k'' H7 else Q false H5) else Q false H3)
theorem pt_chain3 {X : Cx} {o1 o2 o3 : CmpOp} {r r' r'' : R2} {a b c d : Expr} {ta tb tc td : TE} {pos : Pos} (h1 : OpR X (compareOp o1) r) (h2 : OpR X (compareOp o2) r') (h3 : OpR X (compareOp o3) r'') (ha : PE X a ta) (hb : PE X b tb) (hc : PE X c tc) (hd : PE X d td)
    (marks : lastMarks [o1, o2, o3] [b, c, d] = false := by with_unfolding_all rfl) : PT X (.Compare a [o1, o2, o3] [b, c, d] pos) (tChain3 r r' r'' ta tb tc td) := by
  refine ⟨fun pn sh st Hs Qv hin hq => isTrue_chain (thn (ha.run pn sh st Hs _ hin hq) fun va s1 ha1 => ?_) marks⟩
  obtain ⟨x, G1, in1, r1, q1⟩ := ha1
  refine test_link (thn (hb.run pn s1 st G1 _ in1 q1) fun vb s2 hb1 => ?_)
  obtain ⟨y, G2, in2, r2, q2⟩ := hb1
  refine thn (h1 pn s2 st G2 x y va vb _ in2 r1 r2 q2) fun vt s3 ht => ?_
  obtain ⟨z, G3, in3, r3, k, e, q3⟩ := ht
  subst e
  cases r3
  refine wpAny_truthy_bool ?_
  cases k with
  | false => exact ite_ff ⟨G3, in3, q3⟩
  | true =>
    refine ite_tt (test_link (thn (hc.run pn s3 st G3 _ in3 q3) fun vc s4 hc1 => ?_))
    obtain ⟨u, G4, in4, r4, q4⟩ := hc1
    refine thn (h2 pn s4 st G4 y u vb vc _ in4 r2 r4 q4) fun vt s5 ht => ?_
    obtain ⟨z', G5, in5, r5, k', e, q5⟩ := ht
    subst e
    cases r5
    refine wpAny_truthy_bool ?_
    cases k' with
    | false => exact ite_ff ⟨G5, in5, q5⟩
    | true =>
      refine ite_tt (test_last (thn (hd.run pn s5 st G5 _ in5 q5) fun vd s6 hd1 => ?_))
      obtain ⟨u', G6, in6, r6, q6⟩ := hd1
      refine thn (h3 pn s6 st G6 u u' vc vd _ in6 r4 r6 q6) fun vt s7 ht => ?_
      obtain ⟨z'', G7, in7, r7, k'', e, q7⟩ := ht
      subst e
      cases r7
      exact wpAny_truthy_bool ⟨G7, in7, q7⟩
theorem x_chain3 {r r' r'' : R2} {ta tb tc td : TE} {σ : L2.St} {H : Hp} {Q : Bool → Hp → Prop} : tChain3 r r' r'' ta tb tc td σ H Q = ta σ H (fun x H1 => tb σ H1 (fun y H2 => r x y H2 (fun z H3 => ∃ k, z = .bl k ∧
  SelT k (fun σ' H' Q' => tc σ' H' (fun u H4 => r' y u H4 (fun z' H5 => ∃ k', z' = .bl k' ∧ SelT k' (fun σ'' H'' Q'' => td σ'' H'' (fun u' H6 => r'' u u' H6 (fun z'' H7 => ∃ k'', z'' = .bl k'' ∧ Q'' k'' H7))) (tK false) σ' H5 Q'))) (tK false) σ H3 Q))) := by
  unfold tChain3
  congr 1
  funext x H1
  congr 1
  funext y H2
  congr 1
  funext z H3
  congr 1
  funext k
  cases k with
  | false => rfl
  | true =>
    refine congrArg (z = V.bl true ∧ ·) ?_
    show tc σ H3 _ = tc σ H3 _
    congr 1
    funext u H4
    congr 1
    funext z' H5
    congr 1
    funext k'
    cases k' <;> rfl
theorem sel_nd {t u : TS} {D : Ends} {σ : L2.St} {H : Hp} {p : Prop} {_ : Decidable p} (h1 : ¬ p → t D σ H) (h2 : p → u D σ H) : Sel (!decide p) t u D σ H := by
  by_cases c : p
  · rw [decide_eq_true c]
    exact h2 c
  · rw [decide_eq_false c]
    exact h1 c
/-! a text and an int -/
def tupS (s : Str) (n : Int) : HO := .tup [.str s, .int n]
theorem t_s1 {s : Str} {n : Int} : HO.tup [.str s, .int n] = tupS s n := rfl
theorem sqT_tupS {K : PySem.W.Frag} {H : Hp} {p : Addr} {s : Str} {n : Int} (h : H p = some (tupS s n)) : SqT K H p [.str s, .int n] := SqT.of h
theorem dq_tupS {K : PySem.W.Frag} {H : Hp} {p : Addr} {s : Str} {n : Int} (h : SqT K H p [.str s, .int n]) (l : (PyData.str s).canLay0 = true) : Dq K H (.ref p) (.tuple [.str s, .int n]) :=
  ⟨.tup h (.cons (.str s) (.cons (.int n) .nil)), by simp [plain, plainAl, l], by simp [PyData.depth, PyData.depthAll]⟩
end Bel

namespace Bel
open PySem PySem.Spec PyProof.Rows L2
/-! ### classes: what the text must say of one, and its methods -/
structure ClsF (K : PySem.W.Frag) (C : Str) (fs : List Str) : Prop where
  cl : Cls K (He.ga K C)
  na : ∀ f ∈ fs, NoAttr K (He.ga K C) f
structure Mth (P : Program) (w : World) (K : PySem.W.Frag) (base : Heap) (mg : Str → Option Value) (k : Nat) (C m : Str) (ps : List Str) (sp : Sp) (dvs : List V) : Prop where
  ex : ∃ (fd : FuncData) (ds : List Value), FnOk P w K mg base (L2N.CX P w) k (He.ma K (He.ga K C) m) fd ps sp ∧ Meth K (He.ga K C) m (He.ma K (He.ga K C) m) ∧ Cls K (He.ga K C) ∧ Binds K fd ps ds ∧ Vals dvs ds
structure Mkr (P : Program) (w : World) (K : PySem.W.Frag) (base : Heap) (mg : Str → Option Value) (k : Nat) (C : Str) (ps : List Str) (sp : Sp) (dvs : List V) : Prop where
  ex : ∃ (fd : FuncData) (ds : List Value), FnOk P w K mg base (L2N.CX P w) k (He.ma K (He.ga K C) "__init__") fd ps sp ∧ Mk K (He.ga K C) (He.ma K (He.ga K C) "__init__") ∧ mg C = some (.ref (He.ga K C)) ∧ Binds K fd ps ds ∧ Vals dvs ds
/-- o.m(..), what is raised taken by W -/
def tMW (C : Addr) (m : Str) (sp : Sp) (dvs : List V) (W : WX) (ta : TE) (t : TA) : TE := fun σ H Q => ta σ H fun x H1 => ∃ a dx fs, x = .ref a ∧ H1 a = some (.ins C dx fs) ∧ fs.lookup m = none ∧ t σ H1 fun vs H2 => sp (x :: (vs ++ dvs)) H2 Q (WE W σ)
/-- C(..), what is raised taken by W -/
def tKW (C : Addr) (sp : Sp) (dvs : List V) (W : WX) (t : TA) : TE := fun σ H Q => t σ H fun vs H1 => ∀ x dx, H1 x = none → H1 dx = none → dx ≠ x → sp (.ref x :: (vs ++ dvs)) (upd (upd H1 dx (.own x)) x (.ins C dx [])) (fun v H2 => v = .non ∧ Q (.ref x) H2) (WE W σ)
section
variable {X : Cx} {K : PySem.W.Frag} {k : Nat} {C m : Str} {ps : List Str} {sp : Sp} {dvs : List V} {p apos pos : Pos} {o e : Expr} {es : List Expr} {ta : TE} {t : TA} {W : WX} {pl : Sem Bool}
theorem pe_mt (c : Mth X.prog X.w K X.base X.mg k C m ps sp dvs) (hr : Room k X.A) (ho : PE X o ta) (ha : PA X (e :: es) t)
    (h1 : starEach (e :: es) X.env = (false, eval e X.env) :: starEach es X.env := by rfl) (h2 : (backTo pos (starEach es X.env)).any (·.1) = false := by rfl)
    (h3 : eval (.Call (.Attribute o m apos) (e :: es) [] pos) X.env = (do
      let ov ← eval o X.env
      standAt apos.atName
      let (f, first) ← holding [ov] (getMethod ov m pl)
      callWith pos f first (backTo pos (starEach (e :: es) X.env)) (backToKw pos (keywordEach [] X.env))) := by rfl) (hK : X.K = K := by rfl) :
    PE X (.Call (.Attribute o m apos) (e :: es) [] pos) (tMeth (He.ga K C) m sp dvs E0 ta t) := by
  subst hK
  obtain ⟨fd, ds, F, me, cl, hb, hd⟩ := c.ex
  exact pe_meth ho cl me F hr hb hd passN ha h1 h2 h3
theorem pe_mt0 (c : Mth X.prog X.w K X.base X.mg k C m ps sp dvs) (hr : Room k X.A) (ho : PE X o ta)
    (h3 : eval (.Call (.Attribute o m apos) [] [] pos) X.env = (do
      let ov ← eval o X.env
      standAt apos.atName
      let (f, first) ← holding [ov] (getMethod ov m pl)
      callWith pos f first (backTo pos (starEach [] X.env)) (backToKw pos (keywordEach [] X.env))) := by rfl) (hK : X.K = K := by rfl) :
    PE X (.Call (.Attribute o m apos) [] [] pos) (tMeth (He.ga K C) m sp dvs E0 ta tNil) := by
  subst hK
  obtain ⟨fd, ds, F, me, cl, hb, hd⟩ := c.ex
  exact pe_meth0 ho cl me F hr hb hd passN h3
theorem pe_mtS (c : Mth X.prog X.w K X.base X.mg k C m ps sp dvs) (hr : Room k X.A) (tk : L2N.Takes X W) (ho : PE X o ta) (ha : PA X (e :: es) t)
    (h1 : starEach (e :: es) X.env = (false, eval e X.env) :: starEach es X.env := by rfl) (h2 : (backTo pos (starEach es X.env)).any (·.1) = false := by rfl)
    (h3 : eval (.Call (.Attribute o m apos) (e :: es) [] pos) X.env = (do
      let ov ← eval o X.env
      standAt apos.atName
      let (f, first) ← holding [ov] (getMethod ov m pl)
      callWith pos f first (backTo pos (starEach (e :: es) X.env)) (backToKw pos (keywordEach [] X.env))) := by rfl) (hK : X.K = K := by rfl) :
    PE X (.Call (.Attribute o m apos) (e :: es) [] pos) (tMW (He.ga K C) m sp dvs W ta t) := by
  subst hK
  obtain ⟨fd, dl, ok, me, cl, hb, hd⟩ := c.ex
  refine ⟨fun pn sh st Hs Qv hin hq => PySem.W.methodCall_KW (pl := pl) (thn (ho.run pn sh st Hs _ hin hq) fun ov sh1 hx => ?_) h3⟩
  obtain ⟨x, G, in1, rx, a, dx, fs, ex, at_, no, hq2⟩ := hx
  subst ex
  cases rx
  refine getmeth_ok in1 at_ cl me no (PySem.W.callWith_K (first := [.ref a]) (h₀ := X.base) in1.ok.mod.kin me.kp (thn (ha.run pos pn sh1 st G _ in1 hq2) fun us sh2 hy => ?_) h1 h2)
  obtain ⟨av, G2, in2, rel, pr⟩ := hy
  exact ⟨in2.kIn, run_fnD (args := .ref a :: us) (av := .ref a :: av) hr in2 (.cons rfl rel) hd ok hb (L2N.passAt tk st) pr⟩
theorem pe_mtS0 (c : Mth X.prog X.w K X.base X.mg k C m ps sp dvs) (hr : Room k X.A) (tk : L2N.Takes X W) (ho : PE X o ta)
    (h3 : eval (.Call (.Attribute o m apos) [] [] pos) X.env = (do
      let ov ← eval o X.env
      standAt apos.atName
      let (f, first) ← holding [ov] (getMethod ov m pl)
      callWith pos f first (backTo pos (starEach [] X.env)) (backToKw pos (keywordEach [] X.env))) := by rfl) (hK : X.K = K := by rfl) :
    PE X (.Call (.Attribute o m apos) [] [] pos) (tMW (He.ga K C) m sp dvs W ta tNil) := by
  subst hK
  obtain ⟨fd, dl, ok, me, cl, hb, hd⟩ := c.ex
  refine ⟨fun pn sh st Hs Qv hin hq => PySem.W.methodCall_KW (pl := pl) (thn (ho.run pn sh st Hs _ hin hq) fun ov sh1 hx => ?_) h3⟩
  obtain ⟨x, G, in1, rx, a, dx, fs, ex, at_, no, pr⟩ := hx
  subst ex
  cases rx
  exact getmeth_ok in1 at_ cl me no (PySem.W.callWith_K0 (first := [.ref a]) in1.kIn me.kp (run_fnD (args := [.ref a]) (av := [.ref a]) hr in1 (.cons rfl .nil) hd ok hb (L2N.passAt tk st) pr))
theorem pe_mk (c : Mkr X.prog X.w K X.base X.mg k C ps sp dvs) (hr : Room (k + 1) X.A) (hg : Gl X C) (ha : PA X (e :: es) t)
    (hdb : (C == ("__debug__" : Str)) = false := by decide) (h1 : starEach (e :: es) X.env = (false, eval e X.env) :: starEach es X.env := by rfl) (h2 : (backTo pos (starEach es X.env)).any (·.1) = false := by rfl) (hK : X.K = K := by rfl) :
    PE X (.Call (.Name C p) (e :: es) [] pos) (tMake (He.ga K C) sp dvs E0 t) := by
  subst hK
  obtain ⟨fd, ds, F, mk, hm, hb, hd⟩ := c.ex
  exact pe_make mk F hr hg hm hb hd passN ha hdb h1 h2
theorem pe_mk0 (c : Mkr X.prog X.w K X.base X.mg k C ps sp dvs) (hr : Room (k + 1) X.A) (hg : Gl X C) (hdb : (C == ("__debug__" : Str)) = false := by decide) (hK : X.K = K := by rfl) :
    PE X (.Call (.Name C p) [] [] pos) (tMake (He.ga K C) sp dvs E0 tNil) := by
  subst hK
  obtain ⟨fd, ds, F, mk, hm, hb, hd⟩ := c.ex
  exact pe_make0 mk F hr hg hm hb hd passN hdb
theorem run_mkW {f C : Addr} {fd : FuncData} {dl : List Value} {Ex : XK} {pn : List (Addr × Obj)} {st : L2.St} {Hs : Hp} {sh : Shared} {Qv : VK} {args : List Value} {av : List V} (mk : Mk X.K C f) (hr : Room (k + 1) X.A) (hin : Inv X pn st Hs sh) (rel : Vals av args) (hd : Vals dvs dl)
    (ok : FnOk X.prog X.w X.K X.mg X.base (L2N.CX X.prog X.w) k f fd ps sp) (hb : Binds X.K fd ps dl) (out : PassesAt (L2N.CX X.prog X.w) X st Ex)
    (h : ∀ x dx, Hs x = none → Hs dx = none → dx ≠ x → sp (.ref x :: (av ++ dvs)) (upd (upd Hs dx (.own x)) x (.ins C dx [])) (fun v H2 => v = .non ∧ Qv (.ref x) H2) Ex) :
    wpAny (model X.prog X.w) X.A (call (.ref C) args) (EP X pn st Qv) X.xe sh := by
  have hq := h (sh.heap.objs.size + 1) sh.heap.objs.size (hin.hok.fresh (Nat.le_succ _)) (hin.hok.fresh (Nat.le_refl _)) (Nat.ne_of_lt (Nat.lt_succ_self _))
  have born := Inv.made (C := C) hin
  have rel2 : Vals (V.ref (sh.heap.objs.size + 1) :: (av ++ dvs)) (Value.ref (sh.heap.objs.size + 1) :: (args ++ dl)) := .cons rfl (rel.append hd)
  have size : (Value.ref (sh.heap.objs.size + 1) :: args ++ dl).length = ps.length := rel2.length.symm.trans (ok.len _ _ _ _ hq)
  refine wpAny_call (make_map (f := f) hin.kIn mk.makes mk.init (beq_iff_eq.mp mk.fn) (codeAny_mono (ok.run _ X.stack _ _ ⟨Value.ref (sh.heap.objs.size + 1) :: args, []⟩ (Value.ref (sh.heap.objs.size + 1) :: (args ++ dl)) _ _ Ex (hr.make C args [])
    (born.env0.make C args []) (hb _ (Value.ref (sh.heap.objs.size + 1) :: args) born.kIn size) rel2 hq) fun res sh2 fin => ?_))
  rcases res with er | fl
  · exact out pn _ _ er sh2 born fin
  · cases fl with
    | ret u =>
      obtain ⟨v, H', in3, rv, ev, q3⟩ := born.after fin
      subst ev
      exact ⟨rv, ⟨V.ref (sh.heap.objs.size + 1), H', in3, rfl, q3⟩⟩
    | next => exact fin.elim
    | brk => exact fin.elim
    | cont => exact fin.elim
theorem pe_mkS (c : Mkr X.prog X.w K X.base X.mg k C ps sp dvs) (hr : Room (k + 1) X.A) (tk : L2N.Takes X W) (hg : Gl X C) (ha : PA X (e :: es) t)
    (hdb : (C == ("__debug__" : Str)) = false := by decide) (h1 : starEach (e :: es) X.env = (false, eval e X.env) :: starEach es X.env := by rfl) (h2 : (backTo pos (starEach es X.env)).any (·.1) = false := by rfl) (hK : X.K = K := by rfl) :
    PE X (.Call (.Name C p) (e :: es) [] pos) (tKW (He.ga K C) sp dvs W t) := by
  subst hK
  obtain ⟨fd, dl, ok, mk, hm, hb, hd⟩ := c.ex
  refine ⟨fun pn sh st Hs Qv hin hq => wpAny_Call_Name_kw (ld_glob hin hg hm ?_ hdb)⟩
  refine PySem.W.callWith_K (h₀ := X.base) hin.ok.mod.kin mk.kp (thn (ha.run pos pn sh st Hs _ hin hq) fun us sh1 hy => ?_) h1 h2
  obtain ⟨av, G, in1, rel, pr⟩ := hy
  exact ⟨in1.kIn, run_mkW mk hr in1 rel hd ok hb (L2N.passAt tk st) pr⟩
end
theorem in_of {X : Cx} {op : Operator} {t : TIp} (h : PIp X op t) : InOp X op t := fun pn s σ H x y u v Q I r1 r2 z => h pn s σ H x y u v Q I r1 r2 z
/-! ### readings -/
def FldO (K : PySem.W.Frag) (H : Hp) (a : Addr) (f : Str) (Q : VK) : Prop := ∃ C dx fs v, H a = some (.ins C dx fs) ∧ Cls K C ∧ NoAttr K C f ∧ fs.lookup f = some v ∧ Q v H
def FldC (K : PySem.W.Frag) (H : Hp) (a : Addr) (f : Str) (R : Addr → V → Prop) : Prop := ∃ C dx fs v, H a = some (.ins C dx fs) ∧ Cls K C ∧ NoAttr K C f ∧ fs.lookup f = some v ∧ R C v
def PutC (H : Hp) (a C : Addr) (f : Str) (y : V) (QH : Hp → Prop) : Prop := ∃ dx fs, H a = some (.ins C dx fs) ∧ fs.length < 1000 ∧ QH (upd H a (.ins C dx (putF f y fs)))
def StoO (K : PySem.W.Frag) (H : Hp) (a : Addr) (f : Str) (y : V) (QH : Hp → Prop) : Prop := ∃ C dx fs, H a = some (.ins C dx fs) ∧ Cls K C ∧ NoAttr K C f ∧ fs.length < 1000 ∧ QH (upd H a (.ins C dx (putF f y fs)))
def MetO (H : Hp) (a C : Addr) (m : Str) (P : Prop) : Prop := ∃ dx fs, H a = some (.ins C dx fs) ∧ fs.lookup m = none ∧ P
def MakO (H : Hp) (C : Addr) (P : Addr → Hp → Prop) : Prop := ∀ x dx, H x = none → H dx = none → dx ≠ x → P x (upd (upd H dx (.own x)) x (.ins C dx []))
section
variable {K : PySem.W.Frag} {ta tv : TE} {t : TA} {f m : Str} {σ : L2.St} {H : Hp} {Q : VK} {D : Ends} {C : Addr} {sp : Sp} {dvs : List V} {E : XK} {W : WX} {rd : V → V → Hp → VK → Prop}
theorem n_fld : tFld K ta f σ H Q = ta σ H (fun x H1 => ∃ a, x = .ref a ∧ FldO K H1 a f Q) := by
  unfold tFld FldO
  congr 1
  funext x H1
  refine propext ⟨fun ⟨a, C, dx, fs, v, e1, h⟩ => ⟨a, e1, C, dx, fs, v, h⟩, fun ⟨a, e1, C, dx, fs, v, h⟩ => ⟨a, C, dx, fs, v, e1, h⟩⟩
theorem n_sfld : sFld K ta tv f D σ H = tv σ H (fun y H1 => ta σ H1 (fun x H2 => ∃ a, x = .ref a ∧ StoO K H2 a f y (fun H' => D.nx σ H'))) := by
  unfold sFld StoO
  congr 1
  funext y H1
  congr 1
  funext x H2
  refine propext ⟨fun ⟨a, C, dx, fs, e1, h⟩ => ⟨a, e1, C, dx, fs, h⟩, fun ⟨a, e1, C, dx, fs, h⟩ => ⟨a, C, dx, fs, e1, h⟩⟩
theorem n_aug : sFldAug K ta tv rd f D σ H = ta σ H (fun x H1 => ∃ a, x = .ref a ∧ FldC K H1 a f (fun C v => tv σ H1 (fun y H2 => rd v y H2 (fun z H3 => PutC H3 a C f z (fun H' => D.nx σ H'))))) := by
  unfold sFldAug FldC PutC
  congr 1
  funext x H1
  refine propext ⟨fun ⟨a, C, dx, fs, v, e1, h⟩ => ⟨a, e1, C, dx, fs, v, h⟩, fun ⟨a, e1, C, dx, fs, v, h⟩ => ⟨a, C, dx, fs, v, e1, h⟩⟩
theorem n_meth : tMeth C m sp dvs E ta t σ H Q = ta σ H (fun x H1 => ∃ a, x = .ref a ∧ MetO H1 a C m (t σ H1 (fun vs H2 => sp (x :: (vs ++ dvs)) H2 Q E))) := by
  unfold tMeth MetO
  congr 1
  funext x H1
  refine propext ⟨fun ⟨a, dx, fs, e1, e2, e3, h⟩ => ⟨a, e1, dx, fs, e2, e3, h⟩, fun ⟨a, e1, dx, fs, e2, e3, h⟩ => ⟨a, dx, fs, e1, e2, e3, h⟩⟩
theorem n_mw : tMW C m sp dvs W ta t σ H Q = ta σ H (fun x H1 => ∃ a, x = .ref a ∧ MetO H1 a C m (t σ H1 (fun vs H2 => sp (x :: (vs ++ dvs)) H2 Q (WE W σ)))) := by
  unfold tMW MetO
  congr 1
  funext x H1
  refine propext ⟨fun ⟨a, dx, fs, e1, e2, e3, h⟩ => ⟨a, e1, dx, fs, e2, e3, h⟩, fun ⟨a, e1, dx, fs, e2, e3, h⟩ => ⟨a, dx, fs, e1, e2, e3, h⟩⟩
theorem n_make : tMake C sp dvs E t σ H Q = t σ H (fun vs H1 => MakO H1 C (fun x H2 => sp (.ref x :: (vs ++ dvs)) H2 (fun v H3 => v = .non ∧ Q (.ref x) H3) E)) := rfl
theorem n_kw : tKW C sp dvs W t σ H Q = t σ H (fun vs H1 => MakO H1 C (fun x H2 => sp (.ref x :: (vs ++ dvs)) H2 (fun v H3 => v = .non ∧ Q (.ref x) H3) (WE W σ))) := rfl
end
section
variable {K : PySem.W.Frag} {B H : Hp} {l l' : List As} {a C dx : Addr} {f m : Str} {fs fs' : List (Str × V)} {v y : V} {Q : VK} {QH : Hp → Prop} {P : Prop}
theorem g_fldO (h : FldO K H a f Q) : FldO K H a f Q := h
theorem g_fldC {R : Addr → V → Prop} (h : FldC K H a f R) : FldC K H a f R := h
theorem g_putC (h : PutC H a C f y QH) : PutC H a C f y QH := h
theorem fldC {R : Addr → V → Prop} {Cn : Str} {ns : List Str} (ha : H a = some (.ins (He.ga K Cn) dx fs)) (tc : ClsF K Cn ns) (hf : f ∈ ns) (lk : fs.lookup f = some v) (q : R (He.ga K Cn) v) : FldC K H a f R := ⟨_, _, _, _, ha, tc.cl, tc.na f hf, lk, q⟩
theorem putC (L : Own K B H l) (pp : Put l a (.ins C dx fs) (.ins C dx fs') l') (e : putF f y fs = fs') (hn : fs.length < 1000) (h : ∀ H', Own K B H' l' → QH H') : PutC H a C f y QH := by
  subst e
  exact ⟨_, _, L.get pp.mem, hn, h _ (L.put rfl pp)⟩
theorem g_stoO (h : StoO K H a f y QH) : StoO K H a f y QH := h
theorem g_metO (h : MetO H a C m P) : MetO H a C m P := h
theorem g_makO {P : Addr → Hp → Prop} (h : MakO H C P) : MakO H C P := h
theorem fldO {Cn : Str} {ns : List Str} (ha : H a = some (.ins (He.ga K Cn) dx fs)) (tc : ClsF K Cn ns) (hf : f ∈ ns) (lk : fs.lookup f = some v) (q : Q v H) : FldO K H a f Q := ⟨_, _, _, _, ha, tc.cl, tc.na f hf, lk, q⟩
theorem stoO {Cn : Str} {ns : List Str} (L : Own K B H l) (pp : Put l a (.ins (He.ga K Cn) dx fs) (.ins (He.ga K Cn) dx fs') l') (e : putF f y fs = fs') (tc : ClsF K Cn ns) (hf : f ∈ ns) (hn : fs.length < 1000) (h : ∀ H', Own K B H' l' → QH H') : StoO K H a f y QH := by
  subst e
  exact ⟨_, _, _, L.get pp.mem, tc.cl, tc.na f hf, hn, h _ (L.put rfl pp)⟩
theorem metO (ha : H a = some (.ins C dx fs)) (lk : fs.lookup m = none) (q : P) : MetO H a C m P := ⟨_, _, ha, lk, q⟩
theorem makO {P : Addr → Hp → Prop} (L : Own K B H l) (h : ∀ x dx H', Own K B H' (.pt x (.ins C dx []) :: .pt dx (.own x) :: l) → P x H') : MakO H C P := by
  intro x dx hx hd hn
  refine h x dx _ ((L.new hd _).new ?_ _)
  rw [upd_ne (Ne.symm hn)]
  exact hx
end
/-! lookups in written lists of fields -/
theorem lk_here {k : Str} {v : V} {l : List (Str × V)} : List.lookup k ((k, v) :: l) = some v := by
  show (match k == k with | true => some v | false => List.lookup k l) = some v
  rw [beq_self_eq_true]
theorem lk_skip {k g : Str} {v : V} {l : List (Str × V)} (h : (k == g) = false) : List.lookup k ((g, v) :: l) = List.lookup k l := by
  show (match k == g with | true => some v | false => List.lookup k l) = _
  rw [h]
theorem lk_nil {k : Str} : List.lookup k ([] : List (Str × V)) = none := rfl
theorem pf_nil {k : Str} {v : V} : putF k v [] = [(k, v)] := rfl
theorem pf_here {k : Str} {u v : V} {l : List (Str × V)} : putF k v ((k, u) :: l) = (k, v) :: l := if_pos rfl
theorem pf_skip {k g : Str} {u v : V} {l : List (Str × V)} (h : (k == g) = false) : putF k v ((g, u) :: l) = (g, u) :: putF k v l := if_neg fun e => by
  rw [e, beq_self_eq_true] at h
  cases h
/-! ### calls that change cells -/
inductive Take : List As → Addr → HO → List As → Prop
  | here {l : List As} {a : Addr} {o : HO} : Take (.pt a o :: l) a o l
  | there {l l' : List As} {x : As} {a : Addr} {o : HO} : Take l a o l' → Take (x :: l) a o (x :: l')
theorem Take.perm {l l' : List As} {a : Addr} {o : HO} (t : Take l a o l') : l.Perm (.pt a o :: l') := by
  induction t with
  | here => exact List.Perm.refl _
  | there _ ih => exact (List.Perm.cons _ ih).trans (List.Perm.swap _ _ _)
theorem Own.mut1 {K : PySem.W.Frag} {B H H' : Hp} {l l0 l' : List As} {a : Addr} {o : HO} (L : Own K B H l) (t : Take l a o l0) (M : Own K (delL H [a]) H' l') (m : mutb o = true := by rfl) : Own K B H' (l' ++ l0) := by
  refine Own.muts (l1 := [.pt a o]) (L.perm t.perm) (fun b u h => ?_) M
  cases List.mem_singleton.mp h
  exact m
theorem Own.mut2 {K : PySem.W.Frag} {B H H' : Hp} {l l1 l0 l' : List As} {a b : Addr} {o u : HO} (L : Own K B H l) (t : Take l a o l1) (t2 : Take l1 b u l0) (M : Own K (delL H [a, b]) H' l') (m : mutb o = true := by rfl) (m2 : mutb u = true := by rfl) : Own K B H' (l' ++ l0) := by
  refine Own.muts (l1 := [.pt a o, .pt b u]) (L.perm (t.perm.trans (List.Perm.cons _ t2.perm))) (fun c w h => ?_) M
  rcases List.mem_cons.mp h with e | h
  · cases e
    exact m
  · cases List.mem_singleton.mp h
    exact m2
/-- inside a def that changes the cells of l alone -/
theorem Own.in1 {K : PySem.W.Frag} {H : Hp} {a : Addr} {o : HO} (h : H a = some o) : Own K (delL H [a]) H [.pt a o] := by
  refine ⟨fun b u e => ?_, ?_, fun x hx => ?_⟩
  · by_cases z : b ∈ [a]
    · rw [delL_in z] at e
      cases e
    · rw [delL_out z] at e
      exact e
  · exact List.nodup_cons.mpr ⟨List.not_mem_nil, List.nodup_nil⟩
  · rw [List.mem_singleton.mp hx]
    exact ⟨h, delL_in (.head _)⟩
theorem Own.in2 {K : PySem.W.Frag} {H : Hp} {a b : Addr} {o u : HO} (h : H a = some o) (h2 : H b = some u) (n : a ≠ b) : Own K (delL H [a, b]) H [.pt a o, .pt b u] := by
  refine ⟨fun c w e => ?_, ?_, fun x hx => ?_⟩
  · by_cases z : c ∈ [a, b]
    · rw [delL_in z] at e
      cases e
    · rw [delL_out z] at e
      exact e
  · exact List.nodup_cons.mpr ⟨fun z => n (List.mem_singleton.mp z), List.nodup_cons.mpr ⟨List.not_mem_nil, List.nodup_nil⟩⟩
  · rcases List.mem_cons.mp hx with e | hx
    · rw [e]
      exact ⟨h, delL_in (.head _)⟩
    · rw [List.mem_singleton.mp hx]
      exact ⟨h2, delL_in (.tail _ (.head _))⟩
theorem delL_sq {K : PySem.W.Frag} {H : Hp} {a b : Addr} {o : HO} {xs : List V} (h : SqL K H b xs) (e : H a = some o) (n : ∀ ys, o ≠ .lst ys) (n2 : ∀ w u, o ≠ .frz w u) : SqL K (delL H [a]) b xs := by
  rcases h with (g | ⟨w, g⟩) | g
  · refine .inl (.inl ?_)
    rw [delL_out]
    · exact g
    · intro z
      rw [List.mem_singleton.mp z, e] at g
      cases g
      exact n _ rfl
  · refine .inl (.inr ⟨w, ?_⟩)
    rw [delL_out]
    · exact g
    · intro z
      rw [List.mem_singleton.mp z, e] at g
      cases g
      exact n2 _ _ rfl
  · exact .inr g
/-! what is needed, in another order -/
inductive Pick : List As → List As → Prop
  | nil {l : List As} : Pick l []
  | cons {l l1 l' : List As} {a : Addr} {o : HO} : Take l a o l1 → Pick l1 l' → Pick l (.pt a o :: l')
  | im {l l' : List As} {v : V} {d : PyData} : As.im v d ∈ l → Pick l l' → Pick l (.im v d :: l')
  | ims {l l' : List As} {vs : List V} {ds : List PyData} : As.ims vs ds ∈ l → Pick l l' → Pick l (.ims vs ds :: l')
theorem Own.pick0 {K : PySem.W.Frag} {B H : Hp} {l l' : List As} (p : Pick l l') : Own K B H l → Own K B H l' := by
  induction p with
  | nil => exact fun L => L.sub (List.nil_sublist _)
  | @cons l l1 l' a o t q ih =>
    intro L
    have L1 := L.perm t.perm
    have L2 := ih L1.drop1
    refine L2.add (L1.all _ (.head _)) fun b hb hn => ?_
    obtain rfl := List.mem_singleton.mp hb
    have nd := L1.nd
    unfold ads at nd
    rw [List.flatMap_cons] at nd
    have dis := (List.nodup_append.mp nd).2.2 b hb
    have sub : ∀ {l l' : List As}, Pick l l' → ∀ x ∈ ads l', x ∈ ads l := by
      intro l l' p
      induction p with
      | nil => exact fun x m => nomatch m
      | @cons l l1 l' a o t q ih2 =>
        intro x m
        have e : ads (As.pt a o :: l') = a :: ads l' := rfl
        rw [e] at m
        have pe : (ads l).Perm (a :: ads l1) := t.perm.flatMap_right _
        rcases List.mem_cons.mp m with h | h
        · exact pe.mem_iff.mpr (h ▸ .head _)
        · exact pe.mem_iff.mpr (.tail _ (ih2 x h))
      | im _ _ ih2 => exact fun x m => ih2 x m
      | ims _ _ ih2 => exact fun x m => ih2 x m
    exact dis b (sub q b hn) rfl
  | im h _ ih => exact fun L => (ih L).addIm (L.imm h)
  | ims h _ ih => exact fun L => (ih L).addIms (L.imms h)
theorem Own.pick {K : PySem.W.Frag} {B H : Hp} {l l' : List As} (L : Own K B H l) (p : Pick l l') : Own K B H l' := Own.pick0 p L
end Bel
namespace Bel
open PySem PySem.Spec PyProof.Rows L2
/-! ### methods called where an exception is handled -/
structure MthH (P : Program) (w : World) (K : PySem.W.Frag) (base : Heap) (mg : Str → Option Value) (k : Nat) (C m : Str) (ps : List Str) (sp : Sp) : Prop where
  ex : ∃ fd : FuncData, L2H.FnH P w K mg base (L2N.CX P w) k (He.ma K (He.ga K C) m) fd ps sp ∧ Meth K (He.ga K C) m (He.ma K (He.ga K C) m) ∧ Cls K (He.ga K C) ∧ Binds K fd ps []
theorem okN {P : Program} {w : World} {K : PySem.W.Frag} {mg : Str → Option Value} {base : Heap} {x qual : Str} {params : Arguments} {body : List Stmt} {scope : Scope} {f : Addr} {fd : FuncData} {N ps : List Str} {k : Nat} {sp : Sp}
    (F : FunD K x qual params body scope [] [] f fd) (S : FnScope N ps scope) (len : ∀ vs H Q E, sp vs H Q E → vs.length = ps.length)
    (go : ∀ (cd : Value) (A : Around) (outer : List Env) (s : Shared) (H : Hp) (vs : List V) (Q : VK) (E : XK) (p : Addr × Obj), L2H.RoomH k (A.deeper (envOfC qual scope s.heap.objs.size f cd)) → sp vs H Q E →
      ∃ t, PSs (L2H.cxH (L2N.CX P w) P w K mg base N qual scope f cd A outer s H E p) body t ∧ t { nx := fun _ H' => Q .non H', rt := Q } (L2.start N vs) H) :
    L2H.FnH P w K mg base (L2N.CX P w) (k + 1) f fd ps sp := by
  obtain ⟨_, _, _, _, _, _, _, cd, _, _, rfl, at_, code, _, _⟩ := F.ex
  exact L2H.fn_ofH at_ code S len fun A outer s H vs Q E p _ room want => go cd A outer s H vs Q E p room want
theorem hotC_of {X : Cx} {a : Addr} {oe : Obj} {cls : Value} {d : Option Addr} {pn : List (Addr × Obj)} (hz : L2N.Zn cls d oe) (hf : ∃ vs, oe.data = .fields vs) : L2H.HotC (X.suite a ((a, oe) :: pn)) := by
  obtain ⟨vs, e⟩ := hf
  exact ⟨(a, oe), ⟨rfl, vs, e, hz.2.2 vs e⟩, .head _⟩
theorem pe_mtH0 {X : Cx} {K : PySem.W.Frag} {k : Nat} {C m : Str} {ps : List Str} {sp : Sp} {o : Expr} {ta : TE} {apos pos : Pos} {pl : Sem Bool} (c : MthH X.prog X.w K X.base X.mg k C m ps sp) (hr : L2H.RoomH k X.A) (hot : L2H.HotC X) (ho : PE X o ta)
    (h3 : eval (.Call (.Attribute o m apos) [] [] pos) X.env = (do
      let ov ← eval o X.env
      standAt apos.atName
      let (f, first) ← holding [ov] (getMethod ov m pl)
      callWith pos f first (backTo pos (starEach [] X.env)) (backToKw pos (keywordEach [] X.env))) := by rfl) (hK : X.K = K := by rfl) :
    PE X (.Call (.Attribute o m apos) [] [] pos) (tMeth (He.ga K C) m sp [] E0 ta tNil) := by
  subst hK
  obtain ⟨fd, F, me, cl, hb⟩ := c.ex
  refine ⟨fun pn sh st Hs Qv hin hq => PySem.W.methodCall_KW (pl := pl) (thn (ho.run pn sh st Hs _ hin hq) fun ov sh1 hx => ?_) h3⟩
  obtain ⟨x, G, in1, rx, a, dx, fs, ex, at_, no, pr⟩ := hx
  subst ex
  cases rx
  have out : ∀ σ, PassesAt (L2N.CX X.prog X.w) X σ E0 := fun σ pins H s e s' _ z => by
    obtain ⟨_, _, _, _, _, _, _, _, _, _, _, _, f⟩ := z
    cases f
  exact getmeth_ok in1 at_ cl me no (PySem.W.callWith_K0 (first := [.ref a]) in1.kIn me.kp (L2H.run_fnH (E := fun _ => E0) (us := [.ref a]) (vs := [.ref a]) F hr hot hb (out st) in1 (.cons rfl .nil) pr))
end Bel

namespace Bel
open PySem PySem.Spec PyProof.Rows L2
/-! ### dicts: made, filled, asked -/
def DPO (H : Hp) (a : Addr) (y v : V) (QH : Hp → Prop) : Prop := ∃ H4, DPut H a y v H4 ∧ QH H4
def DGO (H : Hp) (a : Addr) (y : V) (Q : VK) : Prop := ∃ v, DGet H a y (some v) ∧ Q v H
def DIO (H : Hp) (a : Addr) (y : V) (Q : VK) : Prop := ∃ o, DGet H a y o ∧ Q (.bl o.isSome) H
section
variable {K : PySem.W.Frag} {td ty tv : TE} {σ : L2.St} {H : Hp} {Q : VK} {D : Ends}
theorem n_dput : sDPut td ty tv D σ H = tv σ H (fun v H1 => td σ H1 (fun x H2 => ty σ H2 (fun y H3 => ∃ a, x = .ref a ∧ DPO H3 a y v (fun H4 => D.nx σ H4)))) := by
  unfold sDPut DPO
  congr 1
  funext v H1
  congr 1
  funext x H2
  congr 1
  funext y H3
  refine propext ⟨fun ⟨a, H4, e, h⟩ => ⟨a, e, H4, h⟩, fun ⟨a, e, H4, h⟩ => ⟨a, H4, e, h⟩⟩
theorem n_dget : tDGet td ty σ H Q = td σ H (fun x H1 => ty σ H1 (fun y H2 => ∃ a, x = .ref a ∧ DGO H2 a y Q)) := by
  unfold tDGet DGO
  congr 1
  funext x H1
  congr 1
  funext y H2
  refine propext ⟨fun ⟨a, v, e, h⟩ => ⟨a, e, v, h⟩, fun ⟨a, e, v, h⟩ => ⟨a, v, e, h⟩⟩
theorem n_din : tDIn ty td σ H Q = ty σ H (fun y H1 => td σ H1 (fun x H2 => ∃ a, x = .ref a ∧ DIO H2 a y Q)) := by
  unfold tDIn DIO
  congr 1
  funext y H1
  congr 1
  funext x H2
  refine propext ⟨fun ⟨a, v, e, h⟩ => ⟨a, e, v, h⟩, fun ⟨a, e, v, h⟩ => ⟨a, v, e, h⟩⟩
def IsDO (H : Hp) (a : Addr) (P : Prop) : Prop := IsD H a ∧ P
def DG2 (H : Hp) (a : Addr) (y z : V) (Q : VK) : Prop := ∃ o, DGet H a y o ∧ Q (o.getD z) H
theorem n_dget2 {tx : TE} : tDGet2 td ty tx σ H Q = td σ H (fun x H1 => ∃ a, x = .ref a ∧ IsDO H1 a (ty σ H1 (fun y H2 => tx σ H2 (fun z H3 => DG2 H3 a y z Q)))) := rfl
theorem n_glst {n : Nat} {gs : TGs} {v : V} {QG : L2.St → Hp → Prop} : gLst K n gs v σ H QG = ∃ a xs, v = .ref a ∧ SqL K H a xs ∧ xs.length = n ∧ gs xs σ H QG := rfl
theorem n_dnew : tDNewK σ H Q = NewO H (.dK []) Q := rfl
end
section
variable {K : PySem.W.Frag} {B H : Hp} {l l' : List As} {a : Addr} {kvs : List (Key × V)} {i : Int} {v y : V} {Q : VK} {QH : Hp → Prop}
theorem g_dputO (h : DPO H a y v QH) : DPO H a y v QH := h
theorem g_dgetO (h : DGO H a y Q) : DGO H a y Q := h
theorem g_dinO (h : DIO H a y Q) : DIO H a y Q := h
theorem dputI (L : Own K B H l) (pp : Put l a (.dK kvs) (.dK (putK kvs (.inl i) v)) l') (hl : kvs.length < sizeLine) (h : ∀ H', Own K B H' l' → QH H') : DPO H a (.int i) v QH := ⟨_, DPut.k (k := .inl i) (L.get pp.mem) hl, h _ (L.put rfl pp)⟩
theorem dgetI (e : H a = some (.dK kvs)) (h : valV kvs (.inl i) = some v) (q : Q v H) : DGO H a (.int i) Q := ⟨v, h ▸ DGet.k (k := .inl i) e, q⟩
theorem g_isDO {P : Prop} (h : IsDO H a P) : IsDO H a P := h
theorem g_dg2 {z : V} (h : DG2 H a y z Q) : DG2 H a y z Q := h
theorem isDO {P : Prop} (e : H a = some (.dK kvs)) (p : P) : IsDO H a P := ⟨.inl ⟨kvs, .inl e⟩, p⟩
theorem dg2I {z : V} (e : H a = some (.dK kvs)) (q : Q ((valV kvs (.inl i)).getD z) H) : DG2 H a (.int i) z Q := ⟨_, DGet.k (k := .inl i) e, q⟩
theorem dinI (e : H a = some (.dK kvs)) (q : Q (.bl (valV kvs (.inl i)).isSome) H) : DIO H a (.int i) Q := ⟨_, DGet.k (k := .inl i) e, q⟩
end
end Bel

namespace K11
open PySem PySem.Spec PyProof.Rows L2 Bel
abbrev topS (i : Nat) : Stmt := PySem.Challenge.pw_bellows_k11_symbols_read.main.body.getD i (.Pass ⟨0, 0, 0, 0⟩)
abbrev s__law_draws : Stmt := topS 22
abbrev N__law_draws : List Str := ["script", "draws", "k", "rest", "turn", "mixed"]
theorem sc__law_draws : FnScope N__law_draws ["script"] (defScope s__law_draws) := ⟨rfl, rfl, rfl, by decide +kernel, rfl, by decide +kernel, by decide +kernel⟩
abbrev s__law_at : Stmt := topS 23
abbrev N__law_at : List Str := ["draws", "k", "many"]
theorem sc__law_at : FnScope N__law_at ["draws", "k", "many"] (defScope s__law_at) := ⟨rfl, rfl, rfl, by decide +kernel, rfl, by decide +kernel, by decide +kernel⟩
abbrev s__law_is_integer : Stmt := topS 24
abbrev N__law_is_integer : List Str := ["actual"]
theorem sc__law_is_integer : FnScope N__law_is_integer ["actual"] (defScope s__law_is_integer) := ⟨rfl, rfl, rfl, by decide +kernel, rfl, by decide +kernel, by decide +kernel⟩
abbrev s__law_is_row : Stmt := topS 25
abbrev N__law_is_row : List Str := ["actual", "item"]
theorem sc__law_is_row : FnScope N__law_is_row ["actual"] (defScope s__law_is_row) := ⟨rfl, rfl, rfl, by decide +kernel, rfl, by decide +kernel, by decide +kernel⟩
abbrev s__weight_of : Stmt := topS 13
abbrev N__weight_of : List Str := ["length"]
theorem sc__weight_of : FnScope N__weight_of ["length"] (defScope s__weight_of) := ⟨rfl, rfl, rfl, by decide +kernel, rfl, by decide +kernel, by decide +kernel⟩
abbrev s_weight : Stmt := topS 11
abbrev N_weight : List Str := ["lengths", "length"]
theorem sc_weight : FnScope N_weight ["lengths"] (defScope s_weight) := ⟨rfl, rfl, rfl, by decide +kernel, rfl, by decide +kernel, by decide +kernel⟩
abbrev s__check_weight : Stmt := topS 14
abbrev N__check_weight : List Str := ["lengths", "total", "symbol", "length"]
theorem sc__check_weight : FnScope N__check_weight ["lengths"] (defScope s__check_weight) := ⟨rfl, rfl, rfl, by decide +kernel, rfl, by decide +kernel, by decide +kernel⟩
abbrev s__first_codes : Stmt := topS 15
abbrev N__first_codes : List Str := ["lengths", "firsts", "length"]
theorem sc__first_codes : FnScope N__first_codes ["lengths"] (defScope s__first_codes) := ⟨rfl, rfl, rfl, by decide +kernel, rfl, by decide +kernel, by decide +kernel⟩
abbrev s_codes : Stmt := topS 12
abbrev N_codes : List Str := ["lengths", "coming", "found", "length"]
theorem sc_codes : FnScope N_codes ["lengths"] (defScope s_codes) := ⟨rfl, rfl, rfl, by decide +kernel, rfl, by decide +kernel, by decide +kernel⟩
abbrev s__law_codes : Stmt := topS 27
abbrev N__law_codes : List Str := ["lengths", "out", "length", "first", "size", "code", "k"]
theorem sc__law_codes : FnScope N__law_codes ["lengths"] (defScope s__law_codes) := ⟨rfl, rfl, rfl, by decide +kernel, rfl, by decide +kernel, by decide +kernel⟩
abbrev s_Book__marked_symbols : Stmt := inClass (topS 17) 4
abbrev N_Book__marked_symbols : List Str := ["self", "symbols", "symbol", "length"]
theorem sc_Book__marked_symbols : FnScope N_Book__marked_symbols ["self"] (defScope s_Book__marked_symbols) := ⟨rfl, rfl, rfl, by decide +kernel, rfl, by decide +kernel, by decide +kernel⟩
abbrev s_Book___init__ : Stmt := inClass (topS 17) 0
abbrev N_Book___init__ : List Str := ["self", "lengths"]
theorem sc_Book___init__ : FnScope N_Book___init__ ["self", "lengths"] (defScope s_Book___init__) := ⟨rfl, rfl, rfl, by decide +kernel, rfl, by decide +kernel, by decide +kernel⟩
abbrev s_Book__begins_code : Stmt := inClass (topS 17) 5
abbrev N_Book__begins_code : List Str := ["self", "mark", "width"]
theorem sc_Book__begins_code : FnScope N_Book__begins_code ["self", "mark", "width"] (defScope s_Book__begins_code) := ⟨rfl, rfl, rfl, by decide +kernel, rfl, by decide +kernel, by decide +kernel⟩
abbrev s__law_lengths : Stmt := topS 26
abbrev N__law_lengths : List Str := ["draws", "first", "most", "out", "total", "k", "length", "lowest"]
theorem sc__law_lengths : FnScope N__law_lengths ["draws", "first"] (defScope s__law_lengths) := ⟨rfl, rfl, rfl, by decide +kernel, rfl, by decide +kernel, by decide +kernel⟩
abbrev s_BitReader___init__ : Stmt := inClass (topS 20) 0
abbrev N_BitReader___init__ : List Str := ["self", "data", "at", "end", "size"]
theorem sc_BitReader___init__ : FnScope N_BitReader___init__ ["self", "data", "at", "end"] (defScope s_BitReader___init__) := ⟨rfl, rfl, rfl, by decide +kernel, rfl, by decide +kernel, by decide +kernel⟩
abbrev s_BitReader_place : Stmt := inClass (topS 20) 3
abbrev N_BitReader_place : List Str := ["self"]
theorem sc_BitReader_place : FnScope N_BitReader_place ["self"] (defScope s_BitReader_place) := ⟨rfl, rfl, rfl, by decide +kernel, rfl, by decide +kernel, by decide +kernel⟩
abbrev s_BitReader_left : Stmt := inClass (topS 20) 4
abbrev N_BitReader_left : List Str := ["self"]
theorem sc_BitReader_left : FnScope N_BitReader_left ["self"] (defScope s_BitReader_left) := ⟨rfl, rfl, rfl, by decide +kernel, rfl, by decide +kernel, by decide +kernel⟩
abbrev s_BitReader_look : Stmt := inClass (topS 20) 2
abbrev N_BitReader_look : List Str := ["self", "width", "first", "after", "number", "byte"]
theorem sc_BitReader_look : FnScope N_BitReader_look ["self", "width"] (defScope s_BitReader_look) := ⟨rfl, rfl, rfl, by decide +kernel, rfl, by decide +kernel, by decide +kernel⟩
abbrev s_BitReader_take : Stmt := inClass (topS 20) 1
abbrev N_BitReader_take : List Str := ["self", "width", "number"]
theorem sc_BitReader_take : FnScope N_BitReader_take ["self", "width"] (defScope s_BitReader_take) := ⟨rfl, rfl, rfl, by decide +kernel, rfl, by decide +kernel, by decide +kernel⟩
abbrev s_Book_read : Stmt := inClass (topS 17) 1
abbrev N_Book_read : List Str := ["self", "reader", "start", "bits", "mark", "width"]
theorem sc_Book_read : FnScope N_Book_read ["self", "reader"] (defScope s_Book_read) := ⟨rfl, rfl, rfl, by decide +kernel, rfl, by decide +kernel, by decide +kernel⟩
abbrev s__law_due : Stmt := topS 28
abbrev N__law_due : List Str := ["lengths", "made", "data", "at", "end", "bits", "size", "place", "goes_on", "k"]
theorem sc__law_due : FnScope N__law_due ["lengths", "made", "data", "at", "end"] (defScope s__law_due) := ⟨rfl, rfl, rfl, by decide +kernel, rfl, by decide +kernel, by decide +kernel⟩
abbrev s__law_told : Stmt := topS 29
abbrev N__law_told : List Str := ["book", "reader", "symbol", "e"]
theorem sc__law_told : FnScope N__law_told ["book", "reader"] (defScope s__law_told) := ⟨rfl, rfl, rfl, by decide +kernel, rfl, by decide +kernel, by decide +kernel⟩
abbrev s_law : Stmt := topS 30
abbrev N_law : List Str := ["script", "draws", "lengths", "length", "made", "data", "k", "at", "end", "book", "reader", "turn", "due"]
theorem sc_law : FnScope N_law ["script"] (defScope s_law) := ⟨rfl, rfl, rfl, by decide +kernel, rfl, by decide +kernel, by decide +kernel⟩
abbrev s_BellowsError___init__ : Stmt := inClass (topS 2) 0
abbrev N_BellowsError___init__ : List Str := ["self", "at"]
theorem sc_BellowsError___init__ : FnScope N_BellowsError___init__ ["self", "at"] (defScope s_BellowsError___init__) := ⟨rfl, rfl, rfl, by decide +kernel, rfl, by decide +kernel, by decide +kernel⟩
theorem st__law_draws {v0 : V} : L2.start N__law_draws [v0] = [some v0, none, none, none, none, none] := rfl
theorem st__law_at {v0 v1 v2 : V} : L2.start N__law_at [v0, v1, v2] = [some v0, some v1, some v2] := rfl
theorem st__law_is_integer {v0 : V} : L2.start N__law_is_integer [v0] = [some v0] := rfl
theorem st__law_is_row {v0 : V} : L2.start N__law_is_row [v0] = [some v0, none] := rfl
theorem st__weight_of {v0 : V} : L2.start N__weight_of [v0] = [some v0] := rfl
theorem st_weight {v0 : V} : L2.start N_weight [v0] = [some v0, none] := rfl
theorem st__check_weight {v0 : V} : L2.start N__check_weight [v0] = [some v0, none, none, none] := rfl
theorem st__first_codes {v0 : V} : L2.start N__first_codes [v0] = [some v0, none, none] := rfl
theorem st_codes {v0 : V} : L2.start N_codes [v0] = [some v0, none, none, none] := rfl
theorem st__law_codes {v0 : V} : L2.start N__law_codes [v0] = [some v0, none, none, none, none, none, none] := rfl
theorem st_Book__marked_symbols {v0 : V} : L2.start N_Book__marked_symbols [v0] = [some v0, none, none, none] := rfl
theorem st_Book___init__ {v0 v1 : V} : L2.start N_Book___init__ [v0, v1] = [some v0, some v1] := rfl
theorem st_Book__begins_code {v0 v1 v2 : V} : L2.start N_Book__begins_code [v0, v1, v2] = [some v0, some v1, some v2] := rfl
theorem st__law_lengths {v0 v1 : V} : L2.start N__law_lengths [v0, v1] = [some v0, some v1, none, none, none, none, none, none] := rfl
theorem st_BitReader___init__ {v0 v1 v2 v3 : V} : L2.start N_BitReader___init__ [v0, v1, v2, v3] = [some v0, some v1, some v2, some v3, none] := rfl
theorem st_BitReader_place {v0 : V} : L2.start N_BitReader_place [v0] = [some v0] := rfl
theorem st_BitReader_left {v0 : V} : L2.start N_BitReader_left [v0] = [some v0] := rfl
theorem st_BitReader_look {v0 v1 : V} : L2.start N_BitReader_look [v0, v1] = [some v0, some v1, none, none, none, none] := rfl
theorem st_BitReader_take {v0 v1 : V} : L2.start N_BitReader_take [v0, v1] = [some v0, some v1, none] := rfl
theorem st_Book_read {v0 v1 : V} : L2.start N_Book_read [v0, v1] = [some v0, some v1, none, none, none, none] := rfl
theorem st__law_due {v0 v1 v2 v3 v4 : V} : L2.start N__law_due [v0, v1, v2, v3, v4] = [some v0, some v1, some v2, some v3, some v4, none, none, none, none, none] := rfl
theorem st__law_told {v0 v1 : V} : L2.start N__law_told [v0, v1] = [some v0, some v1, none, none] := rfl
theorem st_law {v0 : V} : L2.start N_law [v0] = [some v0, none, none, none, none, none, none, none, none, none, none, none, none] := rfl
theorem nb_0_0 : (("__init__" : Str) == "_codes") = false := by decide +kernel
theorem nb_0_1 : (("__init__" : Str) == "_data") = false := by decide +kernel
theorem nb_0_2 : (("__init__" : Str) == "_end") = false := by decide +kernel
theorem nb_0_3 : (("__init__" : Str) == "_lengths") = false := by decide +kernel
theorem nb_0_4 : (("__init__" : Str) == "_place") = false := by decide +kernel
theorem nb_0_5 : (("__init__" : Str) == "_symbols") = false := by decide +kernel
theorem nb_0_6 : (("__init__" : Str) == "_weight") = false := by decide +kernel
theorem nb_1_0 : (("_begins_code" : Str) == "_codes") = false := by decide +kernel
theorem nb_1_1 : (("_begins_code" : Str) == "_data") = false := by decide +kernel
theorem nb_1_2 : (("_begins_code" : Str) == "_end") = false := by decide +kernel
theorem nb_1_3 : (("_begins_code" : Str) == "_lengths") = false := by decide +kernel
theorem nb_1_4 : (("_begins_code" : Str) == "_place") = false := by decide +kernel
theorem nb_1_5 : (("_begins_code" : Str) == "_symbols") = false := by decide +kernel
theorem nb_1_6 : (("_begins_code" : Str) == "_weight") = false := by decide +kernel
theorem nb_2_1 : (("_codes" : Str) == "_data") = false := by decide +kernel
theorem nb_2_2 : (("_codes" : Str) == "_end") = false := by decide +kernel
theorem nb_2_3 : (("_codes" : Str) == "_lengths") = false := by decide +kernel
theorem nb_2_4 : (("_codes" : Str) == "_place") = false := by decide +kernel
theorem nb_2_5 : (("_codes" : Str) == "_symbols") = false := by decide +kernel
theorem nb_2_6 : (("_codes" : Str) == "_weight") = false := by decide +kernel
theorem nb_3_0 : (("_data" : Str) == "_codes") = false := by decide +kernel
theorem nb_3_2 : (("_data" : Str) == "_end") = false := by decide +kernel
theorem nb_3_3 : (("_data" : Str) == "_lengths") = false := by decide +kernel
theorem nb_3_4 : (("_data" : Str) == "_place") = false := by decide +kernel
theorem nb_3_5 : (("_data" : Str) == "_symbols") = false := by decide +kernel
theorem nb_3_6 : (("_data" : Str) == "_weight") = false := by decide +kernel
theorem nb_4_0 : (("_end" : Str) == "_codes") = false := by decide +kernel
theorem nb_4_1 : (("_end" : Str) == "_data") = false := by decide +kernel
theorem nb_4_3 : (("_end" : Str) == "_lengths") = false := by decide +kernel
theorem nb_4_4 : (("_end" : Str) == "_place") = false := by decide +kernel
theorem nb_4_5 : (("_end" : Str) == "_symbols") = false := by decide +kernel
theorem nb_4_6 : (("_end" : Str) == "_weight") = false := by decide +kernel
theorem nb_5_0 : (("_lengths" : Str) == "_codes") = false := by decide +kernel
theorem nb_5_1 : (("_lengths" : Str) == "_data") = false := by decide +kernel
theorem nb_5_2 : (("_lengths" : Str) == "_end") = false := by decide +kernel
theorem nb_5_4 : (("_lengths" : Str) == "_place") = false := by decide +kernel
theorem nb_5_5 : (("_lengths" : Str) == "_symbols") = false := by decide +kernel
theorem nb_5_6 : (("_lengths" : Str) == "_weight") = false := by decide +kernel
theorem nb_6_0 : (("_marked_symbols" : Str) == "_codes") = false := by decide +kernel
theorem nb_6_1 : (("_marked_symbols" : Str) == "_data") = false := by decide +kernel
theorem nb_6_2 : (("_marked_symbols" : Str) == "_end") = false := by decide +kernel
theorem nb_6_3 : (("_marked_symbols" : Str) == "_lengths") = false := by decide +kernel
theorem nb_6_4 : (("_marked_symbols" : Str) == "_place") = false := by decide +kernel
theorem nb_6_5 : (("_marked_symbols" : Str) == "_symbols") = false := by decide +kernel
theorem nb_6_6 : (("_marked_symbols" : Str) == "_weight") = false := by decide +kernel
theorem nb_7_0 : (("_place" : Str) == "_codes") = false := by decide +kernel
theorem nb_7_1 : (("_place" : Str) == "_data") = false := by decide +kernel
theorem nb_7_2 : (("_place" : Str) == "_end") = false := by decide +kernel
theorem nb_7_3 : (("_place" : Str) == "_lengths") = false := by decide +kernel
theorem nb_7_5 : (("_place" : Str) == "_symbols") = false := by decide +kernel
theorem nb_7_6 : (("_place" : Str) == "_weight") = false := by decide +kernel
theorem nb_8_0 : (("_symbols" : Str) == "_codes") = false := by decide +kernel
theorem nb_8_1 : (("_symbols" : Str) == "_data") = false := by decide +kernel
theorem nb_8_2 : (("_symbols" : Str) == "_end") = false := by decide +kernel
theorem nb_8_3 : (("_symbols" : Str) == "_lengths") = false := by decide +kernel
theorem nb_8_4 : (("_symbols" : Str) == "_place") = false := by decide +kernel
theorem nb_8_6 : (("_symbols" : Str) == "_weight") = false := by decide +kernel
theorem nb_9_0 : (("_weight" : Str) == "_codes") = false := by decide +kernel
theorem nb_9_1 : (("_weight" : Str) == "_data") = false := by decide +kernel
theorem nb_9_2 : (("_weight" : Str) == "_end") = false := by decide +kernel
theorem nb_9_3 : (("_weight" : Str) == "_lengths") = false := by decide +kernel
theorem nb_9_4 : (("_weight" : Str) == "_place") = false := by decide +kernel
theorem nb_9_5 : (("_weight" : Str) == "_symbols") = false := by decide +kernel
theorem nb_10_0 : (("left" : Str) == "_codes") = false := by decide +kernel
theorem nb_10_1 : (("left" : Str) == "_data") = false := by decide +kernel
theorem nb_10_2 : (("left" : Str) == "_end") = false := by decide +kernel
theorem nb_10_3 : (("left" : Str) == "_lengths") = false := by decide +kernel
theorem nb_10_4 : (("left" : Str) == "_place") = false := by decide +kernel
theorem nb_10_5 : (("left" : Str) == "_symbols") = false := by decide +kernel
theorem nb_10_6 : (("left" : Str) == "_weight") = false := by decide +kernel
theorem nb_11_0 : (("look" : Str) == "_codes") = false := by decide +kernel
theorem nb_11_1 : (("look" : Str) == "_data") = false := by decide +kernel
theorem nb_11_2 : (("look" : Str) == "_end") = false := by decide +kernel
theorem nb_11_3 : (("look" : Str) == "_lengths") = false := by decide +kernel
theorem nb_11_4 : (("look" : Str) == "_place") = false := by decide +kernel
theorem nb_11_5 : (("look" : Str) == "_symbols") = false := by decide +kernel
theorem nb_11_6 : (("look" : Str) == "_weight") = false := by decide +kernel
theorem nb_12_0 : (("place" : Str) == "_codes") = false := by decide +kernel
theorem nb_12_1 : (("place" : Str) == "_data") = false := by decide +kernel
theorem nb_12_2 : (("place" : Str) == "_end") = false := by decide +kernel
theorem nb_12_3 : (("place" : Str) == "_lengths") = false := by decide +kernel
theorem nb_12_4 : (("place" : Str) == "_place") = false := by decide +kernel
theorem nb_12_5 : (("place" : Str) == "_symbols") = false := by decide +kernel
theorem nb_12_6 : (("place" : Str) == "_weight") = false := by decide +kernel
theorem nb_13_0 : (("read" : Str) == "_codes") = false := by decide +kernel
theorem nb_13_1 : (("read" : Str) == "_data") = false := by decide +kernel
theorem nb_13_2 : (("read" : Str) == "_end") = false := by decide +kernel
theorem nb_13_3 : (("read" : Str) == "_lengths") = false := by decide +kernel
theorem nb_13_4 : (("read" : Str) == "_place") = false := by decide +kernel
theorem nb_13_5 : (("read" : Str) == "_symbols") = false := by decide +kernel
theorem nb_13_6 : (("read" : Str) == "_weight") = false := by decide +kernel
theorem nb_14_0 : (("take" : Str) == "_codes") = false := by decide +kernel
theorem nb_14_1 : (("take" : Str) == "_data") = false := by decide +kernel
theorem nb_14_2 : (("take" : Str) == "_end") = false := by decide +kernel
theorem nb_14_3 : (("take" : Str) == "_lengths") = false := by decide +kernel
theorem nb_14_4 : (("take" : Str) == "_place") = false := by decide +kernel
theorem nb_14_5 : (("take" : Str) == "_symbols") = false := by decide +kernel
theorem nb_14_6 : (("take" : Str) == "_weight") = false := by decide +kernel
structure Tx (K : PySem.W.Frag) (mg : Str → Option Value) : Prop where
  b_abs : mg "abs" = none
  b_bool : mg "bool" = none
  b_enumerate : mg "enumerate" = none
  b_int : mg "int" = none
  b_isinstance : mg "isinstance" = none
  b_len : mg "len" = none
  b_list : mg "list" = none
  b_max : mg "max" = none
  b_min : mg "min" = none
  b_range : mg "range" = none
  b_reversed : mg "reversed" = none
  b_sum : mg "sum" = none
  c_MOST_BITS : ∃ u, mg "MOST_BITS" = some u ∧ RelV (.int (15)) u
  c_FULL_WEIGHT : ∃ u, mg "FULL_WEIGHT" = some u ∧ RelV (.int (32768)) u
  c__MOST_BITS : ∃ u, mg "_MOST_BITS" = some u ∧ RelV (.int (64)) u
  x_OutOfRange : ExF K mg "OutOfRange"
  x_Truncated : ExF K mg "Truncated"
  x_TooManyCodes : ExF K mg "TooManyCodes"
  x_BadCode : ExF K mg "BadCode"
  n_BadCode_Truncated : PySem.W.exmOne K (.ref (He.ga K "BadCode")) (.ref (He.ga K "Truncated")) = some false
  g_BitReader : mg "BitReader" = some (.ref (He.ga K "BitReader"))
  c_BitReader : ClsF K "BitReader" ["_data", "_place", "_end"]
  g_Book : mg "Book" = some (.ref (He.ga K "Book"))
  c_Book : ClsF K "Book" ["_codes", "_lengths", "_weight", "_symbols"]
  d__law_draws : mg "_law_draws" = some (.ref (He.ga K "_law_draws")) ∧ ∃ fd, FunD K "_law_draws" "_law_draws" (defArgs s__law_draws) (defBody s__law_draws) (defScope s__law_draws) [] [] (He.ga K "_law_draws") fd
  d__law_at : mg "_law_at" = some (.ref (He.ga K "_law_at")) ∧ ∃ fd, FunD K "_law_at" "_law_at" (defArgs s__law_at) (defBody s__law_at) (defScope s__law_at) [] [] (He.ga K "_law_at") fd
  d__law_is_integer : mg "_law_is_integer" = some (.ref (He.ga K "_law_is_integer")) ∧ ∃ fd, FunD K "_law_is_integer" "_law_is_integer" (defArgs s__law_is_integer) (defBody s__law_is_integer) (defScope s__law_is_integer) [] [] (He.ga K "_law_is_integer") fd
  d__law_is_row : mg "_law_is_row" = some (.ref (He.ga K "_law_is_row")) ∧ ∃ fd, FunD K "_law_is_row" "_law_is_row" (defArgs s__law_is_row) (defBody s__law_is_row) (defScope s__law_is_row) [] [] (He.ga K "_law_is_row") fd
  d__weight_of : mg "_weight_of" = some (.ref (He.ga K "_weight_of")) ∧ ∃ fd, FunD K "_weight_of" "_weight_of" (defArgs s__weight_of) (defBody s__weight_of) (defScope s__weight_of) [] [] (He.ga K "_weight_of") fd
  d_weight : mg "weight" = some (.ref (He.ga K "weight")) ∧ ∃ fd, FunD K "weight" "weight" (defArgs s_weight) (defBody s_weight) (defScope s_weight) [] [] (He.ga K "weight") fd
  d__check_weight : mg "_check_weight" = some (.ref (He.ga K "_check_weight")) ∧ ∃ fd, FunD K "_check_weight" "_check_weight" (defArgs s__check_weight) (defBody s__check_weight) (defScope s__check_weight) [] [] (He.ga K "_check_weight") fd
  d__first_codes : mg "_first_codes" = some (.ref (He.ga K "_first_codes")) ∧ ∃ fd, FunD K "_first_codes" "_first_codes" (defArgs s__first_codes) (defBody s__first_codes) (defScope s__first_codes) [] [] (He.ga K "_first_codes") fd
  d_codes : mg "codes" = some (.ref (He.ga K "codes")) ∧ ∃ fd, FunD K "codes" "codes" (defArgs s_codes) (defBody s_codes) (defScope s_codes) [] [] (He.ga K "codes") fd
  d__law_codes : mg "_law_codes" = some (.ref (He.ga K "_law_codes")) ∧ ∃ fd, FunD K "_law_codes" "_law_codes" (defArgs s__law_codes) (defBody s__law_codes) (defScope s__law_codes) [] [] (He.ga K "_law_codes") fd
  d_Book__marked_symbols : ∃ fd, FunD K "_marked_symbols" "Book._marked_symbols" (defArgs s_Book__marked_symbols) (defBody s_Book__marked_symbols) (defScope s_Book__marked_symbols) [] [] (He.ma K (He.ga K "Book") "_marked_symbols") fd
  m_Book__marked_symbols : Meth K (He.ga K "Book") "_marked_symbols" (He.ma K (He.ga K "Book") "_marked_symbols")
  d_Book___init__ : ∃ fd, FunD K "__init__" "Book.__init__" (defArgs s_Book___init__) (defBody s_Book___init__) (defScope s_Book___init__) [] [] (He.ma K (He.ga K "Book") "__init__") fd
  m_Book___init__ : Mk K (He.ga K "Book") (He.ma K (He.ga K "Book") "__init__")
  d_Book__begins_code : ∃ fd, FunD K "_begins_code" "Book._begins_code" (defArgs s_Book__begins_code) (defBody s_Book__begins_code) (defScope s_Book__begins_code) [] [] (He.ma K (He.ga K "Book") "_begins_code") fd
  m_Book__begins_code : Meth K (He.ga K "Book") "_begins_code" (He.ma K (He.ga K "Book") "_begins_code")
  d__law_lengths : mg "_law_lengths" = some (.ref (He.ga K "_law_lengths")) ∧ ∃ fd, FunD K "_law_lengths" "_law_lengths" (defArgs s__law_lengths) (defBody s__law_lengths) (defScope s__law_lengths) [] [] (He.ga K "_law_lengths") fd
  d_BitReader___init__ : ∃ fd, FunD K "__init__" "BitReader.__init__" (defArgs s_BitReader___init__) (defBody s_BitReader___init__) (defScope s_BitReader___init__) [(.int (0) : V), (.non : V)] [] (He.ma K (He.ga K "BitReader") "__init__") fd
  m_BitReader___init__ : Mk K (He.ga K "BitReader") (He.ma K (He.ga K "BitReader") "__init__")
  d_BitReader_place : ∃ fd, FunD K "place" "BitReader.place" (defArgs s_BitReader_place) (defBody s_BitReader_place) (defScope s_BitReader_place) [] [] (He.ma K (He.ga K "BitReader") "place") fd
  m_BitReader_place : Meth K (He.ga K "BitReader") "place" (He.ma K (He.ga K "BitReader") "place")
  d_BitReader_left : ∃ fd, FunD K "left" "BitReader.left" (defArgs s_BitReader_left) (defBody s_BitReader_left) (defScope s_BitReader_left) [] [] (He.ma K (He.ga K "BitReader") "left") fd
  m_BitReader_left : Meth K (He.ga K "BitReader") "left" (He.ma K (He.ga K "BitReader") "left")
  d_BitReader_look : ∃ fd, FunD K "look" "BitReader.look" (defArgs s_BitReader_look) (defBody s_BitReader_look) (defScope s_BitReader_look) [] [] (He.ma K (He.ga K "BitReader") "look") fd
  m_BitReader_look : Meth K (He.ga K "BitReader") "look" (He.ma K (He.ga K "BitReader") "look")
  d_BitReader_take : ∃ fd, FunD K "take" "BitReader.take" (defArgs s_BitReader_take) (defBody s_BitReader_take) (defScope s_BitReader_take) [] [] (He.ma K (He.ga K "BitReader") "take") fd
  m_BitReader_take : Meth K (He.ga K "BitReader") "take" (He.ma K (He.ga K "BitReader") "take")
  d_Book_read : ∃ fd, FunD K "read" "Book.read" (defArgs s_Book_read) (defBody s_Book_read) (defScope s_Book_read) [] [] (He.ma K (He.ga K "Book") "read") fd
  m_Book_read : Meth K (He.ga K "Book") "read" (He.ma K (He.ga K "Book") "read")
  d__law_due : mg "_law_due" = some (.ref (He.ga K "_law_due")) ∧ ∃ fd, FunD K "_law_due" "_law_due" (defArgs s__law_due) (defBody s__law_due) (defScope s__law_due) [] [] (He.ga K "_law_due") fd
  d__law_told : mg "_law_told" = some (.ref (He.ga K "_law_told")) ∧ ∃ fd, FunD K "_law_told" "_law_told" (defArgs s__law_told) (defBody s__law_told) (defScope s__law_told) [] [] (He.ga K "_law_told") fd
  d_law : mg "law" = some (.ref (He.ga K "law")) ∧ ∃ fd, FunD K "law" "law" (defArgs s_law) (defBody s_law) (defScope s_law) [] [] (He.ga K "law") fd
  i_init : PySem.W.typeIn K (.ref (He.ma K (He.ga K "BellowsError") "__init__")) = some (.type "function") ∧ ∃ fd, FunD K "__init__" "BellowsError.__init__" (defArgs s_BellowsError___init__) (defBody s_BellowsError___init__) (defScope s_BellowsError___init__) [] [] (He.ma K (He.ga K "BellowsError") "__init__") fd
section
variable {P : Program} {w : World} {K : PySem.W.Frag} {mg : Str → Option Value} {base : Heap}
theorem ok_init (T : Tx K mg) : InitOk P w K mg base := by
  obtain ⟨ti, fd, F⟩ := T.i_init
  refine ⟨fd, F.ok sc_BellowsError___init__ (fun vs H Q E h => ?_) (fun cdv A outer s H vs Q E hr h => ⟨_, PSs.nox (pss_one (ps_ost (pv 0) (pv 1))), ?_⟩), F.bindsN (fun _ _ _ _ _ _ us hl => match us, hl with | [_, _], _ => rfl), ti⟩
  · obtain ⟨_, _, _, rfl, _⟩ := h
    rfl
  · obtain ⟨a, C, v, rfl, h1, h2, h3, q⟩ := h
    exact ⟨_, rfl, _, rfl, a, C, rfl, h1, h2, .inl ⟨h3, q⟩⟩
end
end K11

namespace K11
open PySem PySem.Spec PyProof.Rows L2 Bel
local macro_rules | `(tactic| wtm_at "xs") => `(tactic| simp only [x_next, x_seq, x_brk, x_cont, x_drop, x_ret, x_retN, x_if, sel_t, sel_f, selE_t, selE_f, selT_t, selT_f, selC_t, selC_f, x_test, x_tB, x_op, x_un, x_var, x_c, x_cb, x_nil, x_cons, x_rI, x_rI0, x_rU, x_rEq, x_rNe, x_rIxL, x_rIxT, x_rSlL, x_rCat, x_rRep, x_rApp, x_bm, x_bm0, x_sl, x_nopart, x_part, x_tup, x_lst, x_call, x_callS, x_asg, x_gname, x_gtup, x_gnil, x_gcons, x_gsub, x_setL, x_aug, x_ipI, x_ipC, x_bits, x_getL, x_augS, x_and, x_or, x_not, x_k, x_andV, x_orV, x_notV, x_ife, x_chain, x_for, x_ilist, x_itup, x_ienum, x_irng1, x_irng2, x_irev, x_lc, x_yes, wipe_nil, wipe_cons, List.map_cons, List.map_nil, x_misc, x_misc2, x_rz, lookup_at, Bool.not_true, Bool.not_false, decide_true, decide_false, not_true, not_false_eq_true, and_assoc, exists_and_left, exists_eq_left', exists_eq_left, exists_eq', exists_eq_right', exists_eq_right, V.int.injEq, V.ref.injEq, V.bl.injEq, V.str.injEq, List.cons.injEq, and_true, true_and, and_self, Option.some.injEq, List.cons_append, List.nil_append, List.append_nil, List.getElem?_cons_zero, List.getElem?_cons_succ, List.set_cons_zero, List.set_cons_succ, reduceCtorEq, false_and, and_false, exists_false, exists_const, or_false, false_or, scal_ii, scal_bb, scal_ss, List.length_cons, List.length_nil, Int.reduceToNat, Int.reducePow])
local macro_rules | `(tactic| k_call_by "xs" $h:term) => `(tactic| simp only [$h:term, x_next, x_seq, x_brk, x_cont, x_drop, x_ret, x_retN, x_if, sel_t, sel_f, selE_t, selE_f, selT_t, selT_f, selC_t, selC_f, x_test, x_tB, x_op, x_un, x_var, x_c, x_cb, x_nil, x_cons, x_rI, x_rI0, x_rU, x_rEq, x_rNe, x_rIxL, x_rIxT, x_rSlL, x_rCat, x_rRep, x_rApp, x_bm, x_bm0, x_sl, x_nopart, x_part, x_tup, x_lst, x_call, x_callS, x_asg, x_gname, x_gtup, x_gnil, x_gcons, x_gsub, x_setL, x_aug, x_ipI, x_ipC, x_bits, x_getL, x_augS, x_and, x_or, x_not, x_k, x_andV, x_orV, x_notV, x_ife, x_chain, x_for, x_ilist, x_itup, x_ienum, x_irng1, x_irng2, x_irev, x_lc, x_yes, wipe_nil, wipe_cons, List.map_cons, List.map_nil, x_misc, x_misc2, x_rz, lookup_at, Bool.not_true, Bool.not_false, decide_true, decide_false, not_true, not_false_eq_true, and_assoc, exists_and_left, exists_eq_left', exists_eq_left, exists_eq', exists_eq_right', exists_eq_right, V.int.injEq, V.ref.injEq, V.bl.injEq, V.str.injEq, List.cons.injEq, and_true, true_and, and_self, Option.some.injEq, List.cons_append, List.nil_append, List.append_nil, List.getElem?_cons_zero, List.getElem?_cons_succ, List.set_cons_zero, List.set_cons_succ, reduceCtorEq, false_and, and_false, exists_false, exists_const, or_false, false_or, scal_ii, scal_bb, scal_ss, List.length_cons, List.length_nil, Int.reduceToNat, Int.reducePow])
local macro_rules | `(tactic| wtm_at "hp") => `(tactic| first | (with_reducible assumption) | exact upd_same | (refine upd_keep (by with_reducible assumption) ?_; wtm_at "hp") | (refine Same.get (by with_reducible assumption) ?_; wtm_at "hp") | (refine upd_other (by first | (with_reducible assumption) | exact Ne.symm (by with_reducible assumption)) ?_; wtm_at "hp"))
local macro_rules | `(tactic| wtm_at "sq") => `(tactic| first | (with_reducible assumption) | exact SqL.of (by wtm_at "hp") | exact SqT.of (by wtm_at "hp") | (refine Same.seq (same_upd (by with_reducible assumption)) ?_; wtm_at "sq") | (refine Same.seq (by with_reducible assumption) ?_; wtm_at "sq") | (refine Same.seqT (same_upd (by with_reducible assumption)) ?_; wtm_at "sq") | (refine Same.seqT (by with_reducible assumption) ?_; wtm_at "sq"))
local macro_rules | `(tactic| wtm_at "cl") => `(tactic| first | (with_reducible assumption) | omega | (exact cmul_r (by omega) (by omega)) | (exact cmul_l (by omega) (by omega)) | (exact cdiv_ok (by omega) (by omega)) | (exact cpow_ok (by decide)) | (exact ⟨by omega, by omega, by omega⟩) | decide | (exact ⟨by omega, by omega⟩) | (simp only [List.length_append, List.length_map, List.length_cons, List.length_nil, rngL_len, sizeLine_eq]; omega) | wtm_at "hp" | wtm_at "sq")
local macro_rules | `(tactic| wtm_at "pf") => `(tactic| first | (with_reducible assumption) | omega | (simp only [List.length_append, List.length_map, List.length_cons, List.length_nil, rngL_len]; omega) | (with_reducible rfl) | (with_reducible trivial) | (with_reducible decide))
local macro_rules | `(tactic| wtm_at "st") => `(tactic| first | ((with_reducible refine g_isi ?_); first | (refine isi_int rfl ?_) | (refine isi_lst rfl (by wtm_at "hp") ?_) | (refine isi_tup rfl (by wtm_at "hp") ?_)) | ((with_reducible refine g_ned ?_); refine ned_f (dq_lst (by wtm_at "sq")) (dq_lst (by wtm_at "sq")) ?_) | ((with_reducible refine g_eqd ?_); refine eqd_t (dq_lst (by wtm_at "sq")) (dq_lst (by wtm_at "sq")) ?_) | ((with_reducible refine g_tyv ?_); refine and_tyv (by wtm_at "sq") ?_) | ((with_reducible refine g_asq ?_); refine and_sq (by wtm_at "sq") ?_) | ((with_reducible refine g_lst ?_); refine ex_lst (by wtm_at "hp") ?_) | ((with_reducible refine g_or ?_); first | (refine ex_or (by wtm_at "sq") ?_) | (refine ex_ort (by wtm_at "sq") ?_)) | ((with_reducible refine g_sq ?_); refine ex_sq (by wtm_at "sq") ?_) | ((with_reducible refine g_sqt ?_); refine ex_sqt (by wtm_at "sq") ?_) | ((with_reducible refine gd_sel ?_); first | (refine sel_p (by wtm_at "pf") ?_) | (refine sel_n (by wtm_at "pf") ?_)) | ((with_reducible refine gn_sel ?_); first | (refine selN_p (by wtm_at "pf") ?_) | (refine selN_n (by wtm_at "pf") ?_)) | ((with_reducible refine gd_selT ?_); first | (refine selT_p (by wtm_at "pf") ?_) | (refine selT_n (by wtm_at "pf") ?_)) | ((with_reducible refine gn_selT ?_); first | (refine selTN_p (by wtm_at "pf") ?_) | (refine selTN_n (by wtm_at "pf") ?_)) | ((with_reducible refine gd_selE ?_); first | (refine selE_p (by wtm_at "pf") ?_) | (refine selE_n (by wtm_at "pf") ?_)) | ((with_reducible refine gn_selE ?_); first | (refine selEN_p (by wtm_at "pf") ?_) | (refine selEN_n (by wtm_at "pf") ?_)) | ((with_reducible refine g_xf ?_); refine xf_at rfl (by wtm_at "hp") ?_) | ((with_reducible refine g_atI ?_); refine ex_at (by first | exact rfl | exact atI_int (by omega) (by wtm_at "pf")) ?_) | ((with_reducible refine g_and ?_); refine And.intro (by wtm_at "cl") ?_) | ((with_reducible refine g_new ?_); intro _ _))
local macro_rules | `(tactic| wtm_at "go") => `(tactic| repeat (first | wtm_at "xs" | wtm_at "st"))
local macro_rules | `(tactic| wtm_at "xo") => `(tactic| simp only [x_next, x_seq, x_brk, x_cont, x_drop, x_ret, x_retN, x_if, sel_t, sel_f, selE_t, selE_f, selT_t, selT_f, selC_t, selC_f, x_test, x_tB, x_op, x_un, x_var, x_c, x_cb, x_nil, x_cons, x_rI, x_rI0, x_rU, x_rEq, x_rNe, x_rIxL, x_rIxT, n_rSlL, n_rCat, n_rRep, n_rApp, x_bm, x_bm0, x_sl, x_nopart, x_part, n_tup, n_lst, x_call, x_callS, x_asg, x_gname, x_gtup, x_gnil, x_gcons, x_gsub, n_setL, x_aug, x_ipI, x_ipC, x_bits, x_getL, x_augS, x_and, x_or, x_not, x_k, x_andV, x_orV, x_notV, x_ife, x_chain, x_for, x_ilist, x_itup, x_ienum, x_irng1, x_irng2, x_irev, x_lc, x_yes, wipe_nil, wipe_cons, List.map_cons, List.map_nil, x_misc, x_misc2, x_rz, lookup_at, Bool.not_true, Bool.not_false, decide_true, decide_false, not_true, not_false_eq_true, and_assoc, exists_and_left, exists_eq_left', exists_eq_left, exists_eq', exists_eq_right', exists_eq_right, V.int.injEq, V.ref.injEq, V.bl.injEq, V.str.injEq, List.cons.injEq, and_true, true_and, and_self, Option.some.injEq, List.cons_append, List.nil_append, List.append_nil, List.getElem?_cons_zero, List.getElem?_cons_succ, List.set_cons_zero, List.set_cons_succ, reduceCtorEq, false_and, and_false, exists_false, exists_const, or_false, false_or, scal_ii, scal_bb, scal_ss, List.length_cons, List.length_nil, Int.reduceToNat, Int.reducePow, n_fld, n_dnew, n_dput, n_din, n_dget, n_dget2, n_glst, n_sfld, n_aug, n_meth, n_mw, n_make, n_kw, n_rLs, t_s1, t_i1, t_i2, t_i3, t_i4, t_i5, x_chain3, x_irng3, x_irevR, x_rg1, x_rg2, ints_cat, ints_app1, ints_len, ints_take, ints_drop, rep_one])
local macro_rules | `(tactic| k_call_by "xo" $h:term) => `(tactic| simp only [$h:term, x_next, x_seq, x_brk, x_cont, x_drop, x_ret, x_retN, x_if, sel_t, sel_f, selE_t, selE_f, selT_t, selT_f, selC_t, selC_f, x_test, x_tB, x_op, x_un, x_var, x_c, x_cb, x_nil, x_cons, x_rI, x_rI0, x_rU, x_rEq, x_rNe, x_rIxL, x_rIxT, n_rSlL, n_rCat, n_rRep, n_rApp, x_bm, x_bm0, x_sl, x_nopart, x_part, n_tup, n_lst, x_call, x_callS, x_asg, x_gname, x_gtup, x_gnil, x_gcons, x_gsub, n_setL, x_aug, x_ipI, x_ipC, x_bits, x_getL, x_augS, x_and, x_or, x_not, x_k, x_andV, x_orV, x_notV, x_ife, x_chain, x_for, x_ilist, x_itup, x_ienum, x_irng1, x_irng2, x_irev, x_lc, x_yes, wipe_nil, wipe_cons, List.map_cons, List.map_nil, x_misc, x_misc2, x_rz, lookup_at, Bool.not_true, Bool.not_false, decide_true, decide_false, not_true, not_false_eq_true, and_assoc, exists_and_left, exists_eq_left', exists_eq_left, exists_eq', exists_eq_right', exists_eq_right, V.int.injEq, V.ref.injEq, V.bl.injEq, V.str.injEq, List.cons.injEq, and_true, true_and, and_self, Option.some.injEq, List.cons_append, List.nil_append, List.append_nil, List.getElem?_cons_zero, List.getElem?_cons_succ, List.set_cons_zero, List.set_cons_succ, reduceCtorEq, false_and, and_false, exists_false, exists_const, or_false, false_or, scal_ii, scal_bb, scal_ss, List.length_cons, List.length_nil, Int.reduceToNat, Int.reducePow, n_fld, n_dnew, n_dput, n_din, n_dget, n_dget2, n_glst, n_sfld, n_aug, n_meth, n_mw, n_make, n_kw, n_rLs, t_s1, t_i1, t_i2, t_i3, t_i4, t_i5, x_chain3, x_irng3, x_irevR, x_rg1, x_rg2, ints_cat, ints_app1, ints_len, ints_take, ints_drop, rep_one])
local macro_rules | `(tactic| wtm_at "mem") => `(tactic| first | (with_reducible exact mem_here) | (with_reducible refine mem_there ?_; wtm_at "mem"))
local macro_rules | `(tactic| wtm_at "pp") => `(tactic| first | (with_reducible exact Put.here) | (with_reducible apply Put.there; wtm_at "pp"))
local macro_rules | `(tactic| wtm_at "ho") => `(tactic| first | (with_reducible assumption) | exact Own.get (by with_reducible assumption) (by wtm_at "mem") | exact Own.base (by with_reducible assumption) (by with_reducible assumption))
local macro_rules | `(tactic| wtm_at "qo") => `(tactic| first | (with_reducible assumption) | exact SqL.of (by wtm_at "ho") | exact sqT_tupI (by wtm_at "ho") | exact sqT_tupS (by wtm_at "ho") | exact SqT.of (by wtm_at "ho") | exact Own.imT (by with_reducible assumption) (by wtm_at "mem") | exact Own.sq (by with_reducible assumption) (by with_reducible assumption) | exact Own.sqT (by with_reducible assumption) (by with_reducible assumption))
local macro_rules | `(tactic| wtm_at "sub") => `(tactic| first | exact List.nil_sublist _ | (with_reducible refine List.Sublist.cons_cons _ ?_; wtm_at "sub") | (refine List.Sublist.cons _ ?_; wtm_at "sub"))
local macro_rules | `(tactic| wtm_at "co") => `(tactic| first | (with_reducible assumption) | omega | (exact cmul_r (by omega) (by omega)) | (exact cmul_l (by omega) (by omega)) | (exact cdiv_ok (by omega) (by omega)) | (exact cpow_ok (by decide)) | (exact ⟨by omega, by omega, by omega⟩) | decide | (exact ⟨by omega, by omega⟩) | (simp only [List.length_append, List.length_map, List.length_cons, List.length_nil, rngL_len, sizeLine_eq]; omega) | wtm_at "ho" | wtm_at "qo")
local macro_rules | `(tactic| wtm_at "so") => `(tactic| first | ((with_reducible refine g_dputO ?_); refine dputI (by with_reducible assumption) (by wtm_at "pp") (by wtm_at "co") (fun _ _ => ?_)) | ((with_reducible refine g_dinO ?_); refine dinI (by wtm_at "ho") ?_) | ((with_reducible refine g_isDO ?_); refine isDO (by wtm_at "ho") ?_) | ((with_reducible refine g_dg2 ?_); refine dg2I (by wtm_at "ho") ?_) | ((with_reducible refine g_fldO ?_); refine fldO (by wtm_at "ho") (by with_reducible assumption) (by wtm_at "mem") (by wtm_at "lk") ?_) | ((with_reducible refine g_fldC ?_); refine fldC (by wtm_at "ho") (by with_reducible assumption) (by wtm_at "mem") (by wtm_at "lk") ?_) | ((with_reducible refine g_putC ?_); refine putC (by with_reducible assumption) (by wtm_at "pp") (by wtm_at "pu") (by wtm_at "co") (fun _ _ => ?_)) | ((with_reducible refine g_stoO ?_); refine stoO (by with_reducible assumption) (by wtm_at "pp") (by wtm_at "pu") (by with_reducible assumption) (by wtm_at "mem") (by wtm_at "co") (fun _ _ => ?_)) | ((with_reducible refine g_metO ?_); refine metO (by wtm_at "ho") (by wtm_at "ln") ?_) | ((with_reducible refine g_makO ?_); refine makO (by with_reducible assumption) (fun _ _ _ _ => ?_)) | ((with_reducible refine g_sum ?_); refine sum_call (by wtm_at "qo") ?_) | ((with_reducible refine g_cq ?_); exact cq (by with_reducible assumption) (by simp only [rngL_len, List.length_map, List.length_take]; omega)) | ((with_reducible refine g_newO ?_); refine newO (by with_reducible assumption) (fun _ _ _ => ?_)) | ((with_reducible refine g_appO ?_); refine appI (by with_reducible assumption) (by wtm_at "pp") (by wtm_at "co") (fun _ _ => ?_)) | ((with_reducible refine g_setO ?_); refine setI (by with_reducible assumption) (by wtm_at "pp") (by omega) (by wtm_at "co") (fun _ _ => ?_)) | ((with_reducible refine g_appO ?_); refine appO (by with_reducible assumption) (by wtm_at "pp") (by wtm_at "co") (fun _ _ => ?_)) | ((with_reducible refine g_setO ?_); refine setO (by with_reducible assumption) (by wtm_at "pp") (by omega) (by wtm_at "co") (fun _ _ => ?_)) | ((with_reducible refine g_isi ?_); first | (refine isi_int rfl ?_) | (refine isi_sqL rfl (by wtm_at "qo") ?_) | (refine isi_sqT rfl (by wtm_at "qo") ?_) | (refine isi_bl rfl ?_) | (refine isi_non rfl ?_) | (refine isi_str rfl ?_)) | ((with_reducible refine g_ned ?_); first | (refine ned_f (dq_lst (by wtm_at "qo")) (dq_lst (by wtm_at "qo")) ?_) | (refine ned_ints (by wtm_at "qo") (by wtm_at "qo") ?_) | (refine nedT_ints (by wtm_at "qo") (by wtm_at "qo") ?_)) | ((with_reducible refine g_eqd ?_); first | (refine eqd_t (dq_lst (by wtm_at "qo")) (dq_lst (by wtm_at "qo")) ?_) | (refine eqd_ints (by wtm_at "qo") (by wtm_at "qo") ?_) | (refine eqdT_ints (by wtm_at "qo") (by wtm_at "qo") ?_)) | ((with_reducible refine g_tyv ?_); refine and_tyv (by wtm_at "qo") ?_) | ((with_reducible refine g_asq ?_); refine and_sq (by wtm_at "qo") ?_) | ((with_reducible refine g_lst ?_); refine ex_lst (by wtm_at "ho") ?_) | ((with_reducible refine g_or ?_); first | (refine ex_or (by wtm_at "qo") ?_) | (refine ex_ort (by wtm_at "qo") ?_)) | ((with_reducible refine g_sq ?_); refine ex_sq (by wtm_at "qo") ?_) | ((with_reducible refine g_sqt ?_); refine ex_sqt (by wtm_at "qo") ?_) | ((with_reducible refine gd_sel ?_); first | (refine sel_p (by wtm_at "pf") ?_) | (refine sel_n (by wtm_at "pf") ?_)) | ((with_reducible refine gn_sel ?_); first | (refine selN_p (by wtm_at "pf") ?_) | (refine selN_n (by wtm_at "pf") ?_)) | ((with_reducible refine gd_selT ?_); first | (refine selT_p (by wtm_at "pf") ?_) | (refine selT_n (by wtm_at "pf") ?_)) | ((with_reducible refine gn_selT ?_); first | (refine selTN_p (by wtm_at "pf") ?_) | (refine selTN_n (by wtm_at "pf") ?_)) | ((with_reducible refine gd_selE ?_); first | (refine selE_p (by wtm_at "pf") ?_) | (refine selE_n (by wtm_at "pf") ?_)) | ((with_reducible refine gn_selE ?_); first | (refine selEN_p (by wtm_at "pf") ?_) | (refine selEN_n (by wtm_at "pf") ?_)) | ((with_reducible refine g_xf ?_); refine xf_at rfl (by wtm_at "ho") ?_) | ((with_reducible refine g_atI ?_); refine ex_at (by first | exact rfl | exact atI_int (by omega) (by wtm_at "pf")) ?_) | ((with_reducible refine g_and ?_); refine And.intro (by wtm_at "co") ?_))
local macro_rules | `(tactic| wtm_at "oo") => `(tactic| repeat (first | wtm_at "xo" | wtm_at "so"))
local macro_rules | `(tactic| wtm_at "cR") => `(tactic| (refine' compRi _ (by with_reducible assumption) (by omega) (fun _ _ _ _ _ => ?_) (fun _ _ _ => ?_); rotate_left; focus (wtm_at "oo")))

local macro_rules | `(tactic| wtm_at "lk") => `(tactic| first | (with_reducible exact lk_here) | (simp only [lk_here, lk_skip, lk_nil, nb_0_0, nb_0_1, nb_0_2, nb_0_3, nb_0_4, nb_0_5, nb_0_6, nb_1_0, nb_1_1, nb_1_2, nb_1_3, nb_1_4, nb_1_5, nb_1_6, nb_2_1, nb_2_2, nb_2_3, nb_2_4, nb_2_5, nb_2_6, nb_3_0, nb_3_2, nb_3_3, nb_3_4, nb_3_5, nb_3_6, nb_4_0, nb_4_1, nb_4_3, nb_4_4, nb_4_5, nb_4_6, nb_5_0, nb_5_1, nb_5_2, nb_5_4, nb_5_5, nb_5_6, nb_6_0, nb_6_1, nb_6_2, nb_6_3, nb_6_4, nb_6_5, nb_6_6, nb_7_0, nb_7_1, nb_7_2, nb_7_3, nb_7_5, nb_7_6, nb_8_0, nb_8_1, nb_8_2, nb_8_3, nb_8_4, nb_8_6, nb_9_0, nb_9_1, nb_9_2, nb_9_3, nb_9_4, nb_9_5, nb_10_0, nb_10_1, nb_10_2, nb_10_3, nb_10_4, nb_10_5, nb_10_6, nb_11_0, nb_11_1, nb_11_2, nb_11_3, nb_11_4, nb_11_5, nb_11_6, nb_12_0, nb_12_1, nb_12_2, nb_12_3, nb_12_4, nb_12_5, nb_12_6, nb_13_0, nb_13_1, nb_13_2, nb_13_3, nb_13_4, nb_13_5, nb_13_6, nb_14_0, nb_14_1, nb_14_2, nb_14_3, nb_14_4, nb_14_5, nb_14_6]; first | done | exact rfl))
local macro_rules | `(tactic| wtm_at "ln") => `(tactic| first | (with_reducible exact lk_nil) | (simp only [lk_skip, lk_nil, nb_0_0, nb_0_1, nb_0_2, nb_0_3, nb_0_4, nb_0_5, nb_0_6, nb_1_0, nb_1_1, nb_1_2, nb_1_3, nb_1_4, nb_1_5, nb_1_6, nb_2_1, nb_2_2, nb_2_3, nb_2_4, nb_2_5, nb_2_6, nb_3_0, nb_3_2, nb_3_3, nb_3_4, nb_3_5, nb_3_6, nb_4_0, nb_4_1, nb_4_3, nb_4_4, nb_4_5, nb_4_6, nb_5_0, nb_5_1, nb_5_2, nb_5_4, nb_5_5, nb_5_6, nb_6_0, nb_6_1, nb_6_2, nb_6_3, nb_6_4, nb_6_5, nb_6_6, nb_7_0, nb_7_1, nb_7_2, nb_7_3, nb_7_5, nb_7_6, nb_8_0, nb_8_1, nb_8_2, nb_8_3, nb_8_4, nb_8_6, nb_9_0, nb_9_1, nb_9_2, nb_9_3, nb_9_4, nb_9_5, nb_10_0, nb_10_1, nb_10_2, nb_10_3, nb_10_4, nb_10_5, nb_10_6, nb_11_0, nb_11_1, nb_11_2, nb_11_3, nb_11_4, nb_11_5, nb_11_6, nb_12_0, nb_12_1, nb_12_2, nb_12_3, nb_12_4, nb_12_5, nb_12_6, nb_13_0, nb_13_1, nb_13_2, nb_13_3, nb_13_4, nb_13_5, nb_13_6, nb_14_0, nb_14_1, nb_14_2, nb_14_3, nb_14_4, nb_14_5, nb_14_6]; done))
local macro_rules | `(tactic| wtm_at "pu") => `(tactic| first | (with_reducible exact pf_nil) | (simp only [pf_nil, pf_here, pf_skip, nb_0_0, nb_0_1, nb_0_2, nb_0_3, nb_0_4, nb_0_5, nb_0_6, nb_1_0, nb_1_1, nb_1_2, nb_1_3, nb_1_4, nb_1_5, nb_1_6, nb_2_1, nb_2_2, nb_2_3, nb_2_4, nb_2_5, nb_2_6, nb_3_0, nb_3_2, nb_3_3, nb_3_4, nb_3_5, nb_3_6, nb_4_0, nb_4_1, nb_4_3, nb_4_4, nb_4_5, nb_4_6, nb_5_0, nb_5_1, nb_5_2, nb_5_4, nb_5_5, nb_5_6, nb_6_0, nb_6_1, nb_6_2, nb_6_3, nb_6_4, nb_6_5, nb_6_6, nb_7_0, nb_7_1, nb_7_2, nb_7_3, nb_7_5, nb_7_6, nb_8_0, nb_8_1, nb_8_2, nb_8_3, nb_8_4, nb_8_6, nb_9_0, nb_9_1, nb_9_2, nb_9_3, nb_9_4, nb_9_5, nb_10_0, nb_10_1, nb_10_2, nb_10_3, nb_10_4, nb_10_5, nb_10_6, nb_11_0, nb_11_1, nb_11_2, nb_11_3, nb_11_4, nb_11_5, nb_11_6, nb_12_0, nb_12_1, nb_12_2, nb_12_3, nb_12_4, nb_12_5, nb_12_6, nb_13_0, nb_13_1, nb_13_2, nb_13_3, nb_13_4, nb_13_5, nb_13_6, nb_14_0, nb_14_1, nb_14_2, nb_14_3, nb_14_4, nb_14_5, nb_14_6]; first | done | exact rfl))
local macro_rules | `(tactic| wtm_at "tk") => `(tactic| first | (with_reducible exact Take.here) | (exact Take.here) | ((with_reducible apply Take.there); wtm_at "tk"))
local macro_rules | `(tactic| wtm_at "pk") => `(tactic| first | exact Pick.nil | ((with_reducible refine' Pick.cons ?tk1 ?pk1); (case tk1 => wtm_at "tk"); (case pk1 => wtm_at "pk")) | ((with_reducible refine Pick.im (by wtm_at "mem") ?_); wtm_at "pk") | ((with_reducible refine Pick.ims (by wtm_at "mem") ?_); wtm_at "pk"))
section
variable {P : Program} {w : World} {K : PySem.W.Frag} {mg : Str → Option Value} {base : Heap}
def atD (ds : List Int) (k many : Int) : Int := if k < ds.length then ds.getD k.toNat 0 % many else 0
theorem atD_lo {ds : List Int} {k many : Int} (hm : 0 < many) : 0 ≤ atD ds k many := by
  unfold atD
  split
  · exact Int.emod_nonneg _ (by omega)
  · exact Int.le_refl 0
theorem atD_hi {ds : List Int} {k many : Int} (hm : 0 < many) : atD ds k many < many := by
  unfold atD
  split
  · exact Int.emod_lt_of_pos _ hm
  · exact hm
def sp__law_at (K : PySem.W.Frag) : Sp := fun vs H Q _ => ∃ (a : Addr) (ds : List Int) (k many : Int), vs = [.ref a, .int k, .int many] ∧ SqL K H a (ds.map V.int) ∧ 0 ≤ k ∧ 0 < many ∧ Q (.int (atD ds k many)) H
theorem ok__law_at (T : Tx K mg) : Cl P w K mg base 1 "_law_at" ["draws", "k", "many"] (sp__law_at K) [] := by
  obtain ⟨gm, fd, F⟩ := T.d__law_at
  refine ⟨_, fd, [], F.ok sc__law_at (fun vs H Q E h => ?_) (fun cdv A outer s H vs Q E hr h => ⟨_, (PSs.nox (pss_cons (ps_if (pt_cmpR op_lt (pv 1) (pe_callB (lenK K) rfl T.b_len (by decide +kernel) (pa_cons (pv 0) pa_nil)) (nomark _))
 (pss_one (ps_ret (by exact (pe_op op_mod (pe_callTy call_int1 rfl T.b_int (by decide +kernel) (pa_cons (pe_ix (ixl K) (pv 0) (pv 1) (fun _ _ => rfl)) pa_nil)) (pv 2)))))
 pss_nil)
 (pss_one (ps_ret (by exact pe_int))))), ?_⟩), gm, F.kp, F.bindsN (fun _ _ _ _ _ _ us hl => match us, hl with | [_, _, _], _ => rfl), .nil⟩
  · first | (obtain ⟨rfl, _⟩ := h; rfl) | (obtain ⟨_, rfl, _⟩ := h; rfl) | (obtain ⟨_, _, rfl, _⟩ := h; rfl) | (obtain ⟨_, _, _, rfl, _⟩ := h; rfl) | (obtain ⟨_, _, _, _, rfl, _⟩ := h; rfl) | (obtain ⟨_, _, _, _, _, rfl, _⟩ := h; rfl) | (obtain ⟨_, _, _, _, _, _, rfl, _⟩ := h; rfl) | (obtain ⟨_, _, _, _, _, _, _, rfl, _⟩ := h; rfl) | (obtain ⟨_, _, _, _, _, _, _, _, rfl, _⟩ := h; rfl) | (obtain ⟨_, _, _, _, _, _, _, _, _, rfl, _⟩ := h; rfl) | (obtain ⟨_, _, _, _, _, _, _, _, _, _, rfl, _⟩ := h; rfl) | (obtain ⟨_, _, _, _, _, _, _, _, _, _, _, rfl, _⟩ := h; rfl) | (obtain ⟨_, _, _, _, _, _, _, _, _, _, _, _, rfl, _⟩ := h; rfl) | (obtain ⟨_, _, _, _, _, _, _, _, _, _, _, _, _, rfl, _⟩ := h; rfl) | (obtain ⟨_, _, _, _, _, _, _, _, _, _, _, _, _, _, rfl, _⟩ := h; rfl) | (obtain ⟨_, _, _, _, _, _, _, _, _, _, _, _, _, _, _, rfl, _⟩ := h; rfl) | (obtain ⟨_, _, _, _, _, _, _, _, _, _, _, _, _, _, _, _, rfl, _⟩ := h; rfl) | (obtain ⟨_, _, _, _, _, _, _, _, _, _, _, _, _, _, _, _, _, rfl, _⟩ := h; rfl) | (obtain ⟨_, _, _, _, _, _, _, _, _, _, _, _, _, _, _, _, _, _, rfl, _⟩ := h; rfl) | (obtain ⟨_, _, _, _, _, _, _, _, _, _, _, _, _, _, _, _, _, _, _, rfl, _⟩ := h; rfl) | (obtain ⟨_, _, _, _, _, _, _, _, _, _, _, _, _, _, _, _, _, _, _, _, rfl, _⟩ := h; rfl) | (obtain ⟨_, _, _, _, _, _, _, _, _, _, _, _, _, _, _, _, _, _, _, _, _, rfl, _⟩ := h; rfl)
  · obtain ⟨a, ds, k, many, rfl, hS, h0, hm, q⟩ := h
    k_call_by "xs" st__law_at
    refine ⟨_, .inl hS, sel_d (fun h1 => ?_) (fun h1 => ?_)⟩
    · wtm_at "xs"
      rw [List.length_map] at h1
      refine ⟨_, hS, _, atI_int h0 h1, ?_⟩
      wtm_at "xs"
      unfold atD at q
      rw [if_pos h1] at q
      exact ⟨hm, q⟩
    · wtm_at "xs"
      rw [List.length_map] at h1
      unfold atD at q
      rw [if_neg h1] at q
      exact q
theorem g_at {K : PySem.W.Frag} {H : Hp} {vs : List V} {Q : VK} {E : XK} (h : sp__law_at K vs H Q E) : sp__law_at K vs H Q E := h
theorem at_call {K : PySem.W.Frag} {H : Hp} {a : Addr} {ds : List Int} {k many : Int} {Q : VK} {E : XK} (hS : SqL K H a (ds.map V.int)) (h0 : 0 ≤ k) (hm : 0 < many) (q : 0 ≤ atD ds k many → atD ds k many < many → Q (.int (atD ds k many)) H) : sp__law_at K [.ref a, .int k, .int many] H Q E := ⟨a, ds, k, many, rfl, hS, h0, hm, q (atD_lo hm) (atD_hi hm)⟩
/-- the draws: all that is asked of them -/
structure Drawn (ds : List Int) : Prop where
  lo : ∀ d ∈ ds, 0 ≤ d
  hi : ∀ d ∈ ds, d < 65536
  len : ds.length ≤ 3780
def sp__law_draws (K : PySem.W.Frag) : Sp := fun vs H Q _ => ∃ (a : Addr) (ns : List Int), vs = [.ref a] ∧ SqL K H a (ns.map V.int) ∧ ns.length ≤ 63 ∧ ∀ ds p H', Drawn ds → Same H H' → H p = none → H' p = some (.lst (ds.map V.int)) → Q (.ref p) H'
structure DrI (a p : Addr) (H : Hp) (most : Nat) (H' : Hp) (ds : List Int) : Prop where
  same : Same H H'
  at_ : H' p = some (.lst (ds.map V.int))
  lo : ∀ d ∈ ds, 0 ≤ d
  hi : ∀ d ∈ ds, d < 65536
  len : ds.length ≤ most
theorem DrI.put {a p : Addr} {H : Hp} {most : Nat} {H' : Hp} {ds : List Int} (I : DrI a p H most H' ds) (hp : H p = none) {x : Int} (h0 : 0 ≤ x) (h1 : x < 65536) {m2 : Nat} (hm : most + 1 ≤ m2) : DrI a p H m2 (upd H' p (.lst (ds.map V.int ++ [.int x]))) (ds ++ [x]) := by
  refine ⟨same_put I.same hp, ?_, ?_, ?_, ?_⟩
  · rw [upd_same, List.map_append]
    rfl
  · intro d hd
    rcases List.mem_append.mp hd with h | h
    · exact I.lo d h
    · rw [List.mem_singleton.mp h]
      exact h0
  · intro d hd
    rcases List.mem_append.mp hd with h | h
    · exact I.hi d h
    · rw [List.mem_singleton.mp h]
      exact h1
  · rw [List.length_append, List.length_singleton]
    have := I.len
    omega
theorem DrI.mono {a p : Addr} {H : Hp} {most m2 : Nat} {H' : Hp} {ds : List Int} (I : DrI a p H most H' ds) (h : most ≤ m2) : DrI a p H m2 H' ds := ⟨I.same, I.at_, I.lo, I.hi, Nat.le_trans I.len h⟩
theorem ok__law_draws (T : Tx K mg) : Cl P w K mg base 1 "_law_draws" ["script"] (sp__law_draws K) [] := by
  obtain ⟨gm, fd, F⟩ := T.d__law_draws
  refine ⟨_, fd, [], F.ok sc__law_draws (fun vs H Q E h => ?_) (fun cdv A outer s H vs Q E hr h => ⟨_, (PSs.nox (pss_cons (ps_set (i := 1) sc__law_draws.nd rfl (Or.inl rfl) (by exact (pe_lst pa_nil)))
 (pss_cons (ps_for PassesOwn.never rfl (pi_range1 rfl T.b_range (pa_cons (pe_callB (call_min2 rfl) rfl T.b_min (by decide +kernel) (pa_cons pe_int (pa_cons (pe_callB (lenK K) rfl T.b_len (by decide +kernel) (pa_cons (pv 0) pa_nil)) pa_nil))) pa_nil)) (pg_name (i := 2) sc__law_draws.nd rfl (Or.inl rfl))
 (pss_cons (ps_set (i := 3) sc__law_draws.nd rfl (Or.inl rfl) (by exact (pe_callB call_abs rfl T.b_abs (by decide +kernel) (pa_cons (pe_ix (ixl K) (pv 0) (pv 2) (fun _ _ => rfl)) pa_nil))))
 (pss_one (ps_if (pt_cmpR op_ge (pv 3) (pe_op op_pow pe_int pe_int) (nomark _))
 (pss_one (ps_for PassesOwn.never rfl (pi_range1 rfl T.b_range (pa_cons pe_int pa_nil)) (pg_name (i := 4) sc__law_draws.nd rfl (Or.inl rfl))
 (pss_one (ps_if (pt_cmpR op_gt (pv 3) pe_int (nomark _))
 (pss_cons (ps_expr (pe_bm PySem.F.plainAttrs_list PySem.F.slot_list_append PySem.F.type_list_append mt_append (pv 1) (pa_cons (pe_op op_mod (pe_callTy call_int1 rfl T.b_int (by decide +kernel) (pa_cons (pv 3) pa_nil)) pe_int) pa_nil)))
 (pss_one (ps_set (i := 3) sc__law_draws.nd rfl (Or.inl rfl) (by exact (pe_op op_fdiv (pv 3) pe_int)))))
 pss_nil))))
 (pss_cons (ps_set (i := 5) sc__law_draws.nd rfl (Or.inl rfl) (by exact (pe_op op_mod (pe_callTy call_int1 rfl T.b_int (by decide +kernel) (pa_cons (pe_op op_add (pe_op op_mul (pv 3) pe_int) (pe_op op_mul (pe_op op_add (pv 2) pe_int) pe_int)) pa_nil)) pe_int)))
 (pss_cons (ps_set (i := 5) sc__law_draws.nd rfl (Or.inl rfl) (by exact (pe_op op_mod (pe_callTy call_int1 rfl T.b_int (by decide +kernel) (pa_cons (pe_op op_add (pe_op op_add (pe_op op_mul (pv 5) pe_int) (pe_op op_mul pe_int (pv 2))) pe_int) pa_nil)) pe_int)))
 (pss_cons (ps_expr (pe_bm PySem.F.plainAttrs_list PySem.F.slot_list_append PySem.F.type_list_append mt_append (pv 1) (pa_cons (pe_op op_mod (pe_callTy call_int1 rfl T.b_int (by decide +kernel) (pa_cons (pv 5) pa_nil)) pe_int) pa_nil)))
 (pss_one (ps_expr (pe_bm PySem.F.plainAttrs_list PySem.F.slot_list_append PySem.F.type_list_append mt_append (pv 1) (pa_cons (pe_op op_mod (pe_callTy call_int1 rfl T.b_int (by decide +kernel) (pa_cons (pe_op op_fdiv (pv 5) pe_int) pa_nil)) pe_int) pa_nil)))))))))))
 (pss_one (ps_ret (by exact (pv 1))))))), ?_⟩), gm, F.kp, F.bindsN (fun _ _ _ _ _ _ us hl => match us, hl with | [_], _ => rfl), .nil⟩
  · first | (obtain ⟨rfl, _⟩ := h; rfl) | (obtain ⟨_, rfl, _⟩ := h; rfl) | (obtain ⟨_, _, rfl, _⟩ := h; rfl) | (obtain ⟨_, _, _, rfl, _⟩ := h; rfl) | (obtain ⟨_, _, _, _, rfl, _⟩ := h; rfl) | (obtain ⟨_, _, _, _, _, rfl, _⟩ := h; rfl) | (obtain ⟨_, _, _, _, _, _, rfl, _⟩ := h; rfl) | (obtain ⟨_, _, _, _, _, _, _, rfl, _⟩ := h; rfl) | (obtain ⟨_, _, _, _, _, _, _, _, rfl, _⟩ := h; rfl) | (obtain ⟨_, _, _, _, _, _, _, _, _, rfl, _⟩ := h; rfl) | (obtain ⟨_, _, _, _, _, _, _, _, _, _, rfl, _⟩ := h; rfl) | (obtain ⟨_, _, _, _, _, _, _, _, _, _, _, rfl, _⟩ := h; rfl) | (obtain ⟨_, _, _, _, _, _, _, _, _, _, _, _, rfl, _⟩ := h; rfl) | (obtain ⟨_, _, _, _, _, _, _, _, _, _, _, _, _, rfl, _⟩ := h; rfl) | (obtain ⟨_, _, _, _, _, _, _, _, _, _, _, _, _, _, rfl, _⟩ := h; rfl) | (obtain ⟨_, _, _, _, _, _, _, _, _, _, _, _, _, _, _, rfl, _⟩ := h; rfl) | (obtain ⟨_, _, _, _, _, _, _, _, _, _, _, _, _, _, _, _, rfl, _⟩ := h; rfl) | (obtain ⟨_, _, _, _, _, _, _, _, _, _, _, _, _, _, _, _, _, rfl, _⟩ := h; rfl) | (obtain ⟨_, _, _, _, _, _, _, _, _, _, _, _, _, _, _, _, _, _, rfl, _⟩ := h; rfl) | (obtain ⟨_, _, _, _, _, _, _, _, _, _, _, _, _, _, _, _, _, _, _, rfl, _⟩ := h; rfl) | (obtain ⟨_, _, _, _, _, _, _, _, _, _, _, _, _, _, _, _, _, _, _, _, rfl, _⟩ := h; rfl) | (obtain ⟨_, _, _, _, _, _, _, _, _, _, _, _, _, _, _, _, _, _, _, _, _, rfl, _⟩ := h; rfl)
  · obtain ⟨a, ns, rfl, hS, hlen, q⟩ := h
    k_call_by "xs" st__law_draws
    refine ⟨Nat.zero_le _, fun p hp => ⟨_, .inl ((same_upd hp).seq hS), ?_⟩⟩
    have hj : (if (((ns.map V.int).length : Nat) : Int) < 63 then (((ns.map V.int).length : Nat) : Int) else 63) = (ns.length : Int) := by
      rw [List.length_map]
      split <;> omega
    rw [hj]
    refine ⟨by omega, by omega, loop_range (fun i σ H' => ∃ ds y2 y3 y4 y5, σ = [some (.ref a), some (.ref p), y2, y3, y4, y5] ∧ DrI a p H (60 * i) H' ds) ⟨[], none, none, none, none, rfl, same_upd hp, upd_same, by simp, by simp, Nat.zero_le _⟩ ?_ ?_⟩
    · rintro i σ H' hi ⟨ds, y2, y3, y4, y5, rfl, I⟩
      rw [Int.toNat_natCast] at hi
      wtm_at "xs"
      have hi2 : (0 : Int) + (i : Nat) < (ns.length : Nat) := by omega
      refine ⟨_, I.same.seq hS, _, atI_int (by omega) hi2, ?_⟩
      wtm_at "xs"
      refine ⟨⟨by decide, by decide, by decide⟩, sel_d (fun h1 => ?_) (fun h1 => ?_)⟩
      · wtm_at "xs"
        refine ⟨by decide, by decide, loop_range (fun j σ H2 => ∃ ds y3 y4, σ = [some (.ref a), some (.ref p), some (.int (0 + (i : Nat))), some (.int y3), y4, y5] ∧ DrI a p H (60 * i + j) H2 ds) ⟨_, _, _, rfl, I⟩ ?_ ?_⟩
        · rintro j σ H2 hj2 ⟨ds2, z3, z4, rfl, J⟩
          wtm_at "xs"
          refine sel_d (fun h2 => ?_) (fun h2 => ?_)
          · wtm_at "xs"
            have hj3 : j < 60 := hj2
            refine ⟨tyv (SqL.of J.at_), by decide, _, J.at_, line_map J.len (by omega), ⟨by decide, by decide⟩, ?_⟩
            exact ⟨_, J.put hp (Int.emod_nonneg _ (by decide)) (Int.emod_lt_of_pos _ (by decide)) (Nat.le_refl _)⟩
          · wtm_at "xs"
            exact ⟨_, J.mono (Nat.le_succ _)⟩
        · rintro σ H2 ⟨ds2, z3, z4, rfl, J⟩
          wtm_at "xs"
          exact ⟨_, J.mono (by show 60 * i + (60 : Int).toNat ≤ 60 * (i + 1); omega)⟩
      · wtm_at "xs"
        refine ⟨.inr ⟨by decide, by decide⟩, .inr ⟨by decide, by decide⟩, by decide, .inr ⟨by decide, by decide⟩, .inl ⟨by decide, by decide⟩, by decide, tyv (SqL.of I.at_), by decide, _, I.at_, line_map I.len (by omega), ?_⟩
        generalize (_ : Int) % 2147483629 = M
        have J := I.put hp (x := M % 65536) (Int.emod_nonneg _ (by decide)) (Int.emod_lt_of_pos _ (by decide)) (Nat.le_refl _)
        have L := J.put hp (x := M / 65536 % 32768) (Int.emod_nonneg _ (by decide)) (Int.lt_trans (Int.emod_lt_of_pos _ (by decide)) (by decide : (32768 : Int) < 65536)) (m2 := 60 * (i + 1)) (by omega)
        rw [List.map_append] at L
        refine ⟨tyv (SqL.of upd_same), ⟨by decide, by decide⟩, by decide, _, upd_same, ?_, _, L⟩
        have := line_map J.len (by omega)
        rw [List.map_append] at this
        exact this
    · rintro σ H' ⟨ds, y2, y3, y4, y5, rfl, I⟩
      rw [Int.toNat_natCast] at I
      wtm_at "xs"
      exact q ds p H' ⟨I.lo, I.hi, Nat.le_trans I.len (by omega)⟩ I.same hp I.at_


end
end K11

namespace K11
open PySem PySem.Spec PyProof.Rows L2 Bel
local macro_rules | `(tactic| wtm_at "xs") => `(tactic| simp only [x_next, x_seq, x_brk, x_cont, x_drop, x_ret, x_retN, x_if, sel_t, sel_f, selE_t, selE_f, selT_t, selT_f, selC_t, selC_f, x_test, x_tB, x_op, x_un, x_var, x_c, x_cb, x_nil, x_cons, x_rI, x_rI0, x_rU, x_rEq, x_rNe, x_rIxL, x_rIxT, x_rSlL, x_rCat, x_rRep, x_rApp, x_bm, x_bm0, x_sl, x_nopart, x_part, x_tup, x_lst, x_call, x_callS, x_asg, x_gname, x_gtup, x_gnil, x_gcons, x_gsub, x_setL, x_aug, x_ipI, x_ipC, x_bits, x_getL, x_augS, x_and, x_or, x_not, x_k, x_andV, x_orV, x_notV, x_ife, x_chain, x_for, x_ilist, x_itup, x_ienum, x_irng1, x_irng2, x_irev, x_lc, x_yes, wipe_nil, wipe_cons, List.map_cons, List.map_nil, x_misc, x_misc2, x_rz, lookup_at, Bool.not_true, Bool.not_false, decide_true, decide_false, not_true, not_false_eq_true, and_assoc, exists_and_left, exists_eq_left', exists_eq_left, exists_eq', exists_eq_right', exists_eq_right, V.int.injEq, V.ref.injEq, V.bl.injEq, V.str.injEq, List.cons.injEq, and_true, true_and, and_self, Option.some.injEq, List.cons_append, List.nil_append, List.append_nil, List.getElem?_cons_zero, List.getElem?_cons_succ, List.set_cons_zero, List.set_cons_succ, reduceCtorEq, false_and, and_false, exists_false, exists_const, or_false, false_or, scal_ii, scal_bb, scal_ss, List.length_cons, List.length_nil, Int.reduceToNat, Int.reducePow])
local macro_rules | `(tactic| k_call_by "xs" $h:term) => `(tactic| simp only [$h:term, x_next, x_seq, x_brk, x_cont, x_drop, x_ret, x_retN, x_if, sel_t, sel_f, selE_t, selE_f, selT_t, selT_f, selC_t, selC_f, x_test, x_tB, x_op, x_un, x_var, x_c, x_cb, x_nil, x_cons, x_rI, x_rI0, x_rU, x_rEq, x_rNe, x_rIxL, x_rIxT, x_rSlL, x_rCat, x_rRep, x_rApp, x_bm, x_bm0, x_sl, x_nopart, x_part, x_tup, x_lst, x_call, x_callS, x_asg, x_gname, x_gtup, x_gnil, x_gcons, x_gsub, x_setL, x_aug, x_ipI, x_ipC, x_bits, x_getL, x_augS, x_and, x_or, x_not, x_k, x_andV, x_orV, x_notV, x_ife, x_chain, x_for, x_ilist, x_itup, x_ienum, x_irng1, x_irng2, x_irev, x_lc, x_yes, wipe_nil, wipe_cons, List.map_cons, List.map_nil, x_misc, x_misc2, x_rz, lookup_at, Bool.not_true, Bool.not_false, decide_true, decide_false, not_true, not_false_eq_true, and_assoc, exists_and_left, exists_eq_left', exists_eq_left, exists_eq', exists_eq_right', exists_eq_right, V.int.injEq, V.ref.injEq, V.bl.injEq, V.str.injEq, List.cons.injEq, and_true, true_and, and_self, Option.some.injEq, List.cons_append, List.nil_append, List.append_nil, List.getElem?_cons_zero, List.getElem?_cons_succ, List.set_cons_zero, List.set_cons_succ, reduceCtorEq, false_and, and_false, exists_false, exists_const, or_false, false_or, scal_ii, scal_bb, scal_ss, List.length_cons, List.length_nil, Int.reduceToNat, Int.reducePow])
local macro_rules | `(tactic| wtm_at "hp") => `(tactic| first | (with_reducible assumption) | exact upd_same | (refine upd_keep (by with_reducible assumption) ?_; wtm_at "hp") | (refine Same.get (by with_reducible assumption) ?_; wtm_at "hp") | (refine upd_other (by first | (with_reducible assumption) | exact Ne.symm (by with_reducible assumption)) ?_; wtm_at "hp"))
local macro_rules | `(tactic| wtm_at "sq") => `(tactic| first | (with_reducible assumption) | exact SqL.of (by wtm_at "hp") | exact SqT.of (by wtm_at "hp") | (refine Same.seq (same_upd (by with_reducible assumption)) ?_; wtm_at "sq") | (refine Same.seq (by with_reducible assumption) ?_; wtm_at "sq") | (refine Same.seqT (same_upd (by with_reducible assumption)) ?_; wtm_at "sq") | (refine Same.seqT (by with_reducible assumption) ?_; wtm_at "sq"))
local macro_rules | `(tactic| wtm_at "cl") => `(tactic| first | (with_reducible assumption) | omega | (exact cmul_r (by omega) (by omega)) | (exact cmul_l (by omega) (by omega)) | (exact cdiv_ok (by omega) (by omega)) | (exact cpow_ok (by decide)) | (exact ⟨by omega, by omega, by omega⟩) | decide | (exact ⟨by omega, by omega⟩) | (simp only [List.length_append, List.length_map, List.length_cons, List.length_nil, rngL_len, sizeLine_eq]; omega) | wtm_at "hp" | wtm_at "sq")
local macro_rules | `(tactic| wtm_at "pf") => `(tactic| first | (with_reducible assumption) | omega | (simp only [List.length_append, List.length_map, List.length_cons, List.length_nil, rngL_len]; omega) | (with_reducible rfl) | (with_reducible trivial) | (with_reducible decide))
local macro_rules | `(tactic| wtm_at "st") => `(tactic| first | ((with_reducible refine g_at ?_); refine at_call (by wtm_at "sq") (by omega) (by omega) (fun _ _ => ?_)) | ((with_reducible refine g_isi ?_); first | (refine isi_int rfl ?_) | (refine isi_lst rfl (by wtm_at "hp") ?_) | (refine isi_tup rfl (by wtm_at "hp") ?_)) | ((with_reducible refine g_ned ?_); refine ned_f (dq_lst (by wtm_at "sq")) (dq_lst (by wtm_at "sq")) ?_) | ((with_reducible refine g_eqd ?_); refine eqd_t (dq_lst (by wtm_at "sq")) (dq_lst (by wtm_at "sq")) ?_) | ((with_reducible refine g_tyv ?_); refine and_tyv (by wtm_at "sq") ?_) | ((with_reducible refine g_asq ?_); refine and_sq (by wtm_at "sq") ?_) | ((with_reducible refine g_lst ?_); refine ex_lst (by wtm_at "hp") ?_) | ((with_reducible refine g_or ?_); first | (refine ex_or (by wtm_at "sq") ?_) | (refine ex_ort (by wtm_at "sq") ?_)) | ((with_reducible refine g_sq ?_); refine ex_sq (by wtm_at "sq") ?_) | ((with_reducible refine g_sqt ?_); refine ex_sqt (by wtm_at "sq") ?_) | ((with_reducible refine gd_sel ?_); first | (refine sel_p (by wtm_at "pf") ?_) | (refine sel_n (by wtm_at "pf") ?_)) | ((with_reducible refine gn_sel ?_); first | (refine selN_p (by wtm_at "pf") ?_) | (refine selN_n (by wtm_at "pf") ?_)) | ((with_reducible refine gd_selT ?_); first | (refine selT_p (by wtm_at "pf") ?_) | (refine selT_n (by wtm_at "pf") ?_)) | ((with_reducible refine gn_selT ?_); first | (refine selTN_p (by wtm_at "pf") ?_) | (refine selTN_n (by wtm_at "pf") ?_)) | ((with_reducible refine gd_selE ?_); first | (refine selE_p (by wtm_at "pf") ?_) | (refine selE_n (by wtm_at "pf") ?_)) | ((with_reducible refine gn_selE ?_); first | (refine selEN_p (by wtm_at "pf") ?_) | (refine selEN_n (by wtm_at "pf") ?_)) | ((with_reducible refine g_xf ?_); refine xf_at rfl (by wtm_at "hp") ?_) | ((with_reducible refine g_atI ?_); refine ex_at (by first | exact rfl | exact atI_int (by omega) (by wtm_at "pf")) ?_) | ((with_reducible refine g_and ?_); refine And.intro (by wtm_at "cl") ?_) | ((with_reducible refine g_new ?_); intro _ _))
local macro_rules | `(tactic| wtm_at "go") => `(tactic| repeat (first | wtm_at "xs" | wtm_at "st"))
local macro_rules | `(tactic| wtm_at "xo") => `(tactic| simp only [x_next, x_seq, x_brk, x_cont, x_drop, x_ret, x_retN, x_if, sel_t, sel_f, selE_t, selE_f, selT_t, selT_f, selC_t, selC_f, x_test, x_tB, x_op, x_un, x_var, x_c, x_cb, x_nil, x_cons, x_rI, x_rI0, x_rU, x_rEq, x_rNe, x_rIxL, x_rIxT, n_rSlL, n_rCat, n_rRep, n_rApp, x_bm, x_bm0, x_sl, x_nopart, x_part, n_tup, n_lst, x_call, x_callS, x_asg, x_gname, x_gtup, x_gnil, x_gcons, x_gsub, n_setL, x_aug, x_ipI, x_ipC, x_bits, x_getL, x_augS, x_and, x_or, x_not, x_k, x_andV, x_orV, x_notV, x_ife, x_chain, x_for, x_ilist, x_itup, x_ienum, x_irng1, x_irng2, x_irev, x_lc, x_yes, wipe_nil, wipe_cons, List.map_cons, List.map_nil, x_misc, x_misc2, x_rz, lookup_at, Bool.not_true, Bool.not_false, decide_true, decide_false, not_true, not_false_eq_true, and_assoc, exists_and_left, exists_eq_left', exists_eq_left, exists_eq', exists_eq_right', exists_eq_right, V.int.injEq, V.ref.injEq, V.bl.injEq, V.str.injEq, List.cons.injEq, and_true, true_and, and_self, Option.some.injEq, List.cons_append, List.nil_append, List.append_nil, List.getElem?_cons_zero, List.getElem?_cons_succ, List.set_cons_zero, List.set_cons_succ, reduceCtorEq, false_and, and_false, exists_false, exists_const, or_false, false_or, scal_ii, scal_bb, scal_ss, List.length_cons, List.length_nil, Int.reduceToNat, Int.reducePow, n_fld, n_dnew, n_dput, n_din, n_dget, n_dget2, n_glst, n_sfld, n_aug, n_meth, n_mw, n_make, n_kw, n_rLs, t_s1, t_i1, t_i2, t_i3, t_i4, t_i5, x_chain3, x_irng3, x_irevR, x_rg1, x_rg2, ints_cat, ints_app1, ints_len, ints_take, ints_drop, rep_one])
local macro_rules | `(tactic| k_call_by "xo" $h:term) => `(tactic| simp only [$h:term, x_next, x_seq, x_brk, x_cont, x_drop, x_ret, x_retN, x_if, sel_t, sel_f, selE_t, selE_f, selT_t, selT_f, selC_t, selC_f, x_test, x_tB, x_op, x_un, x_var, x_c, x_cb, x_nil, x_cons, x_rI, x_rI0, x_rU, x_rEq, x_rNe, x_rIxL, x_rIxT, n_rSlL, n_rCat, n_rRep, n_rApp, x_bm, x_bm0, x_sl, x_nopart, x_part, n_tup, n_lst, x_call, x_callS, x_asg, x_gname, x_gtup, x_gnil, x_gcons, x_gsub, n_setL, x_aug, x_ipI, x_ipC, x_bits, x_getL, x_augS, x_and, x_or, x_not, x_k, x_andV, x_orV, x_notV, x_ife, x_chain, x_for, x_ilist, x_itup, x_ienum, x_irng1, x_irng2, x_irev, x_lc, x_yes, wipe_nil, wipe_cons, List.map_cons, List.map_nil, x_misc, x_misc2, x_rz, lookup_at, Bool.not_true, Bool.not_false, decide_true, decide_false, not_true, not_false_eq_true, and_assoc, exists_and_left, exists_eq_left', exists_eq_left, exists_eq', exists_eq_right', exists_eq_right, V.int.injEq, V.ref.injEq, V.bl.injEq, V.str.injEq, List.cons.injEq, and_true, true_and, and_self, Option.some.injEq, List.cons_append, List.nil_append, List.append_nil, List.getElem?_cons_zero, List.getElem?_cons_succ, List.set_cons_zero, List.set_cons_succ, reduceCtorEq, false_and, and_false, exists_false, exists_const, or_false, false_or, scal_ii, scal_bb, scal_ss, List.length_cons, List.length_nil, Int.reduceToNat, Int.reducePow, n_fld, n_dnew, n_dput, n_din, n_dget, n_dget2, n_glst, n_sfld, n_aug, n_meth, n_mw, n_make, n_kw, n_rLs, t_s1, t_i1, t_i2, t_i3, t_i4, t_i5, x_chain3, x_irng3, x_irevR, x_rg1, x_rg2, ints_cat, ints_app1, ints_len, ints_take, ints_drop, rep_one])
local macro_rules | `(tactic| wtm_at "mem") => `(tactic| first | (with_reducible exact mem_here) | (with_reducible refine mem_there ?_; wtm_at "mem"))
local macro_rules | `(tactic| wtm_at "pp") => `(tactic| first | (with_reducible exact Put.here) | (with_reducible apply Put.there; wtm_at "pp"))
local macro_rules | `(tactic| wtm_at "ho") => `(tactic| first | (with_reducible assumption) | exact Own.get (by with_reducible assumption) (by wtm_at "mem") | exact Own.base (by with_reducible assumption) (by with_reducible assumption))
local macro_rules | `(tactic| wtm_at "qo") => `(tactic| first | (with_reducible assumption) | exact SqL.of (by wtm_at "ho") | exact sqT_tupI (by wtm_at "ho") | exact sqT_tupS (by wtm_at "ho") | exact SqT.of (by wtm_at "ho") | exact Own.imT (by with_reducible assumption) (by wtm_at "mem") | exact Own.sq (by with_reducible assumption) (by with_reducible assumption) | exact Own.sqT (by with_reducible assumption) (by with_reducible assumption))
local macro_rules | `(tactic| wtm_at "sub") => `(tactic| first | exact List.nil_sublist _ | (with_reducible refine List.Sublist.cons_cons _ ?_; wtm_at "sub") | (refine List.Sublist.cons _ ?_; wtm_at "sub"))
local macro_rules | `(tactic| wtm_at "co") => `(tactic| first | (with_reducible assumption) | omega | (exact cmul_r (by omega) (by omega)) | (exact cmul_l (by omega) (by omega)) | (exact cdiv_ok (by omega) (by omega)) | (exact cpow_ok (by decide)) | (exact ⟨by omega, by omega, by omega⟩) | decide | (exact ⟨by omega, by omega⟩) | (simp only [List.length_append, List.length_map, List.length_cons, List.length_nil, rngL_len, sizeLine_eq]; omega) | wtm_at "ho" | wtm_at "qo")
local macro_rules | `(tactic| wtm_at "so") => `(tactic| first | ((with_reducible refine g_dputO ?_); refine dputI (by with_reducible assumption) (by wtm_at "pp") (by wtm_at "co") (fun _ _ => ?_)) | ((with_reducible refine g_dinO ?_); refine dinI (by wtm_at "ho") ?_) | ((with_reducible refine g_isDO ?_); refine isDO (by wtm_at "ho") ?_) | ((with_reducible refine g_dg2 ?_); refine dg2I (by wtm_at "ho") ?_) | ((with_reducible refine g_fldO ?_); refine fldO (by wtm_at "ho") (by with_reducible assumption) (by wtm_at "mem") (by wtm_at "lk") ?_) | ((with_reducible refine g_fldC ?_); refine fldC (by wtm_at "ho") (by with_reducible assumption) (by wtm_at "mem") (by wtm_at "lk") ?_) | ((with_reducible refine g_putC ?_); refine putC (by with_reducible assumption) (by wtm_at "pp") (by wtm_at "pu") (by wtm_at "co") (fun _ _ => ?_)) | ((with_reducible refine g_stoO ?_); refine stoO (by with_reducible assumption) (by wtm_at "pp") (by wtm_at "pu") (by with_reducible assumption) (by wtm_at "mem") (by wtm_at "co") (fun _ _ => ?_)) | ((with_reducible refine g_metO ?_); refine metO (by wtm_at "ho") (by wtm_at "ln") ?_) | ((with_reducible refine g_makO ?_); refine makO (by with_reducible assumption) (fun _ _ _ _ => ?_)) | ((with_reducible refine g_sum ?_); refine sum_call (by wtm_at "qo") ?_) | ((with_reducible refine g_cq ?_); exact cq (by with_reducible assumption) (by simp only [rngL_len, List.length_map, List.length_take]; omega)) | ((with_reducible refine g_newO ?_); refine newO (by with_reducible assumption) (fun _ _ _ => ?_)) | ((with_reducible refine g_appO ?_); refine appI (by with_reducible assumption) (by wtm_at "pp") (by wtm_at "co") (fun _ _ => ?_)) | ((with_reducible refine g_setO ?_); refine setI (by with_reducible assumption) (by wtm_at "pp") (by omega) (by wtm_at "co") (fun _ _ => ?_)) | ((with_reducible refine g_appO ?_); refine appO (by with_reducible assumption) (by wtm_at "pp") (by wtm_at "co") (fun _ _ => ?_)) | ((with_reducible refine g_setO ?_); refine setO (by with_reducible assumption) (by wtm_at "pp") (by omega) (by wtm_at "co") (fun _ _ => ?_)) | ((with_reducible refine g_at ?_); refine at_call (by wtm_at "qo") (by omega) (by omega) (fun _ _ => ?_)) | ((with_reducible refine g_isi ?_); first | (refine isi_int rfl ?_) | (refine isi_sqL rfl (by wtm_at "qo") ?_) | (refine isi_sqT rfl (by wtm_at "qo") ?_) | (refine isi_bl rfl ?_) | (refine isi_non rfl ?_) | (refine isi_str rfl ?_)) | ((with_reducible refine g_ned ?_); first | (refine ned_f (dq_lst (by wtm_at "qo")) (dq_lst (by wtm_at "qo")) ?_) | (refine ned_ints (by wtm_at "qo") (by wtm_at "qo") ?_) | (refine nedT_ints (by wtm_at "qo") (by wtm_at "qo") ?_)) | ((with_reducible refine g_eqd ?_); first | (refine eqd_t (dq_lst (by wtm_at "qo")) (dq_lst (by wtm_at "qo")) ?_) | (refine eqd_ints (by wtm_at "qo") (by wtm_at "qo") ?_) | (refine eqdT_ints (by wtm_at "qo") (by wtm_at "qo") ?_)) | ((with_reducible refine g_tyv ?_); refine and_tyv (by wtm_at "qo") ?_) | ((with_reducible refine g_asq ?_); refine and_sq (by wtm_at "qo") ?_) | ((with_reducible refine g_lst ?_); refine ex_lst (by wtm_at "ho") ?_) | ((with_reducible refine g_or ?_); first | (refine ex_or (by wtm_at "qo") ?_) | (refine ex_ort (by wtm_at "qo") ?_)) | ((with_reducible refine g_sq ?_); refine ex_sq (by wtm_at "qo") ?_) | ((with_reducible refine g_sqt ?_); refine ex_sqt (by wtm_at "qo") ?_) | ((with_reducible refine gd_sel ?_); first | (refine sel_p (by wtm_at "pf") ?_) | (refine sel_n (by wtm_at "pf") ?_)) | ((with_reducible refine gn_sel ?_); first | (refine selN_p (by wtm_at "pf") ?_) | (refine selN_n (by wtm_at "pf") ?_)) | ((with_reducible refine gd_selT ?_); first | (refine selT_p (by wtm_at "pf") ?_) | (refine selT_n (by wtm_at "pf") ?_)) | ((with_reducible refine gn_selT ?_); first | (refine selTN_p (by wtm_at "pf") ?_) | (refine selTN_n (by wtm_at "pf") ?_)) | ((with_reducible refine gd_selE ?_); first | (refine selE_p (by wtm_at "pf") ?_) | (refine selE_n (by wtm_at "pf") ?_)) | ((with_reducible refine gn_selE ?_); first | (refine selEN_p (by wtm_at "pf") ?_) | (refine selEN_n (by wtm_at "pf") ?_)) | ((with_reducible refine g_xf ?_); refine xf_at rfl (by wtm_at "ho") ?_) | ((with_reducible refine g_atI ?_); refine ex_at (by first | exact rfl | exact atI_int (by omega) (by wtm_at "pf")) ?_) | ((with_reducible refine g_and ?_); refine And.intro (by wtm_at "co") ?_))
local macro_rules | `(tactic| wtm_at "oo") => `(tactic| repeat (first | wtm_at "xo" | wtm_at "so"))
local macro_rules | `(tactic| wtm_at "cR") => `(tactic| (refine' compRi _ (by with_reducible assumption) (by omega) (fun _ _ _ _ _ => ?_) (fun _ _ _ => ?_); rotate_left; focus (wtm_at "oo")))

local macro_rules | `(tactic| wtm_at "lk") => `(tactic| first | (with_reducible exact lk_here) | (simp only [lk_here, lk_skip, lk_nil, nb_0_0, nb_0_1, nb_0_2, nb_0_3, nb_0_4, nb_0_5, nb_0_6, nb_1_0, nb_1_1, nb_1_2, nb_1_3, nb_1_4, nb_1_5, nb_1_6, nb_2_1, nb_2_2, nb_2_3, nb_2_4, nb_2_5, nb_2_6, nb_3_0, nb_3_2, nb_3_3, nb_3_4, nb_3_5, nb_3_6, nb_4_0, nb_4_1, nb_4_3, nb_4_4, nb_4_5, nb_4_6, nb_5_0, nb_5_1, nb_5_2, nb_5_4, nb_5_5, nb_5_6, nb_6_0, nb_6_1, nb_6_2, nb_6_3, nb_6_4, nb_6_5, nb_6_6, nb_7_0, nb_7_1, nb_7_2, nb_7_3, nb_7_5, nb_7_6, nb_8_0, nb_8_1, nb_8_2, nb_8_3, nb_8_4, nb_8_6, nb_9_0, nb_9_1, nb_9_2, nb_9_3, nb_9_4, nb_9_5, nb_10_0, nb_10_1, nb_10_2, nb_10_3, nb_10_4, nb_10_5, nb_10_6, nb_11_0, nb_11_1, nb_11_2, nb_11_3, nb_11_4, nb_11_5, nb_11_6, nb_12_0, nb_12_1, nb_12_2, nb_12_3, nb_12_4, nb_12_5, nb_12_6, nb_13_0, nb_13_1, nb_13_2, nb_13_3, nb_13_4, nb_13_5, nb_13_6, nb_14_0, nb_14_1, nb_14_2, nb_14_3, nb_14_4, nb_14_5, nb_14_6]; first | done | exact rfl))
local macro_rules | `(tactic| wtm_at "ln") => `(tactic| first | (with_reducible exact lk_nil) | (simp only [lk_skip, lk_nil, nb_0_0, nb_0_1, nb_0_2, nb_0_3, nb_0_4, nb_0_5, nb_0_6, nb_1_0, nb_1_1, nb_1_2, nb_1_3, nb_1_4, nb_1_5, nb_1_6, nb_2_1, nb_2_2, nb_2_3, nb_2_4, nb_2_5, nb_2_6, nb_3_0, nb_3_2, nb_3_3, nb_3_4, nb_3_5, nb_3_6, nb_4_0, nb_4_1, nb_4_3, nb_4_4, nb_4_5, nb_4_6, nb_5_0, nb_5_1, nb_5_2, nb_5_4, nb_5_5, nb_5_6, nb_6_0, nb_6_1, nb_6_2, nb_6_3, nb_6_4, nb_6_5, nb_6_6, nb_7_0, nb_7_1, nb_7_2, nb_7_3, nb_7_5, nb_7_6, nb_8_0, nb_8_1, nb_8_2, nb_8_3, nb_8_4, nb_8_6, nb_9_0, nb_9_1, nb_9_2, nb_9_3, nb_9_4, nb_9_5, nb_10_0, nb_10_1, nb_10_2, nb_10_3, nb_10_4, nb_10_5, nb_10_6, nb_11_0, nb_11_1, nb_11_2, nb_11_3, nb_11_4, nb_11_5, nb_11_6, nb_12_0, nb_12_1, nb_12_2, nb_12_3, nb_12_4, nb_12_5, nb_12_6, nb_13_0, nb_13_1, nb_13_2, nb_13_3, nb_13_4, nb_13_5, nb_13_6, nb_14_0, nb_14_1, nb_14_2, nb_14_3, nb_14_4, nb_14_5, nb_14_6]; done))
local macro_rules | `(tactic| wtm_at "pu") => `(tactic| first | (with_reducible exact pf_nil) | (simp only [pf_nil, pf_here, pf_skip, nb_0_0, nb_0_1, nb_0_2, nb_0_3, nb_0_4, nb_0_5, nb_0_6, nb_1_0, nb_1_1, nb_1_2, nb_1_3, nb_1_4, nb_1_5, nb_1_6, nb_2_1, nb_2_2, nb_2_3, nb_2_4, nb_2_5, nb_2_6, nb_3_0, nb_3_2, nb_3_3, nb_3_4, nb_3_5, nb_3_6, nb_4_0, nb_4_1, nb_4_3, nb_4_4, nb_4_5, nb_4_6, nb_5_0, nb_5_1, nb_5_2, nb_5_4, nb_5_5, nb_5_6, nb_6_0, nb_6_1, nb_6_2, nb_6_3, nb_6_4, nb_6_5, nb_6_6, nb_7_0, nb_7_1, nb_7_2, nb_7_3, nb_7_5, nb_7_6, nb_8_0, nb_8_1, nb_8_2, nb_8_3, nb_8_4, nb_8_6, nb_9_0, nb_9_1, nb_9_2, nb_9_3, nb_9_4, nb_9_5, nb_10_0, nb_10_1, nb_10_2, nb_10_3, nb_10_4, nb_10_5, nb_10_6, nb_11_0, nb_11_1, nb_11_2, nb_11_3, nb_11_4, nb_11_5, nb_11_6, nb_12_0, nb_12_1, nb_12_2, nb_12_3, nb_12_4, nb_12_5, nb_12_6, nb_13_0, nb_13_1, nb_13_2, nb_13_3, nb_13_4, nb_13_5, nb_13_6, nb_14_0, nb_14_1, nb_14_2, nb_14_3, nb_14_4, nb_14_5, nb_14_6]; first | done | exact rfl))
local macro_rules | `(tactic| wtm_at "tk") => `(tactic| first | (with_reducible exact Take.here) | (exact Take.here) | ((with_reducible apply Take.there); wtm_at "tk"))
local macro_rules | `(tactic| wtm_at "pk") => `(tactic| first | exact Pick.nil | ((with_reducible refine' Pick.cons ?tk1 ?pk1); (case tk1 => wtm_at "tk"); (case pk1 => wtm_at "pk")) | ((with_reducible refine Pick.im (by wtm_at "mem") ?_); wtm_at "pk") | ((with_reducible refine Pick.ims (by wtm_at "mem") ?_); wtm_at "pk"))
section
variable {P : Program} {w : World} {K : PySem.W.Frag} {mg : Str → Option Value} {base : Heap}
def sp__law_is_integer (K : PySem.W.Frag) : Sp := fun vs H Q _ => ∃ (i : Int), vs = [.int i] ∧ Q (.bl true) H
theorem ok__law_is_integer (T : Tx K mg) : Cl P w K mg base 1 "_law_is_integer" ["actual"] (sp__law_is_integer K) [] := by
  obtain ⟨gm, fd, F⟩ := T.d__law_is_integer
  refine ⟨_, fd, [], F.ok sc__law_is_integer (fun vs H Q E h => ?_) (fun cdv A outer s H vs Q E hr h => ⟨_, (PSs.nox (pss_one (ps_ret (by exact (pe_and (pe_callB (isiK K) rfl T.b_isinstance (by decide +kernel) (pa_cons (pv 0) (pa_cons (pe_bltn (v := .ty "int") rfl T.b_int (by decide +kernel) rfl) pa_nil))) (pe_one (pe_not (pe_callB (isiK K) rfl T.b_isinstance (by decide +kernel) (pa_cons (pv 0) (pa_cons (pe_bltn (v := .ty "bool") rfl T.b_bool (by decide +kernel) rfl) pa_nil)))))))))), ?_⟩), gm, F.kp, F.bindsN (fun _ _ _ _ _ _ us hl => match us, hl with | [_], _ => rfl), .nil⟩
  · first | (obtain ⟨rfl, _⟩ := h; rfl) | (obtain ⟨_, rfl, _⟩ := h; rfl) | (obtain ⟨_, _, rfl, _⟩ := h; rfl) | (obtain ⟨_, _, _, rfl, _⟩ := h; rfl) | (obtain ⟨_, _, _, _, rfl, _⟩ := h; rfl) | (obtain ⟨_, _, _, _, _, rfl, _⟩ := h; rfl) | (obtain ⟨_, _, _, _, _, _, rfl, _⟩ := h; rfl) | (obtain ⟨_, _, _, _, _, _, _, rfl, _⟩ := h; rfl) | (obtain ⟨_, _, _, _, _, _, _, _, rfl, _⟩ := h; rfl) | (obtain ⟨_, _, _, _, _, _, _, _, _, rfl, _⟩ := h; rfl) | (obtain ⟨_, _, _, _, _, _, _, _, _, _, rfl, _⟩ := h; rfl) | (obtain ⟨_, _, _, _, _, _, _, _, _, _, _, rfl, _⟩ := h; rfl) | (obtain ⟨_, _, _, _, _, _, _, _, _, _, _, _, rfl, _⟩ := h; rfl) | (obtain ⟨_, _, _, _, _, _, _, _, _, _, _, _, _, rfl, _⟩ := h; rfl) | (obtain ⟨_, _, _, _, _, _, _, _, _, _, _, _, _, _, rfl, _⟩ := h; rfl) | (obtain ⟨_, _, _, _, _, _, _, _, _, _, _, _, _, _, _, rfl, _⟩ := h; rfl) | (obtain ⟨_, _, _, _, _, _, _, _, _, _, _, _, _, _, _, _, rfl, _⟩ := h; rfl) | (obtain ⟨_, _, _, _, _, _, _, _, _, _, _, _, _, _, _, _, _, rfl, _⟩ := h; rfl) | (obtain ⟨_, _, _, _, _, _, _, _, _, _, _, _, _, _, _, _, _, _, rfl, _⟩ := h; rfl) | (obtain ⟨_, _, _, _, _, _, _, _, _, _, _, _, _, _, _, _, _, _, _, rfl, _⟩ := h; rfl) | (obtain ⟨_, _, _, _, _, _, _, _, _, _, _, _, _, _, _, _, _, _, _, _, rfl, _⟩ := h; rfl) | (obtain ⟨_, _, _, _, _, _, _, _, _, _, _, _, _, _, _, _, _, _, _, _, _, rfl, _⟩ := h; rfl)
  · obtain ⟨i, rfl, q⟩ := h
    k_call_by "xs" st__law_is_integer
    refine isi_int rfl ?_
    wtm_at "xs"
    refine isi_int rfl ?_
    wtm_at "xs"
    exact q
theorem g_int {K : PySem.W.Frag} {H : Hp} {vs : List V} {Q : VK} {E : XK} (h : sp__law_is_integer K vs H Q E) : sp__law_is_integer K vs H Q E := h
theorem int_call {K : PySem.W.Frag} {H : Hp} {i : Int} {Q : VK} {E : XK} (q : Q (.bl true) H) : sp__law_is_integer K [.int i] H Q E := ⟨i, rfl, q⟩


end
end K11

namespace K11
open PySem PySem.Spec PyProof.Rows L2 Bel
local macro_rules | `(tactic| wtm_at "xs") => `(tactic| simp only [x_next, x_seq, x_brk, x_cont, x_drop, x_ret, x_retN, x_if, sel_t, sel_f, selE_t, selE_f, selT_t, selT_f, selC_t, selC_f, x_test, x_tB, x_op, x_un, x_var, x_c, x_cb, x_nil, x_cons, x_rI, x_rI0, x_rU, x_rEq, x_rNe, x_rIxL, x_rIxT, x_rSlL, x_rCat, x_rRep, x_rApp, x_bm, x_bm0, x_sl, x_nopart, x_part, x_tup, x_lst, x_call, x_callS, x_asg, x_gname, x_gtup, x_gnil, x_gcons, x_gsub, x_setL, x_aug, x_ipI, x_ipC, x_bits, x_getL, x_augS, x_and, x_or, x_not, x_k, x_andV, x_orV, x_notV, x_ife, x_chain, x_for, x_ilist, x_itup, x_ienum, x_irng1, x_irng2, x_irev, x_lc, x_yes, wipe_nil, wipe_cons, List.map_cons, List.map_nil, x_misc, x_misc2, x_rz, lookup_at, Bool.not_true, Bool.not_false, decide_true, decide_false, not_true, not_false_eq_true, and_assoc, exists_and_left, exists_eq_left', exists_eq_left, exists_eq', exists_eq_right', exists_eq_right, V.int.injEq, V.ref.injEq, V.bl.injEq, V.str.injEq, List.cons.injEq, and_true, true_and, and_self, Option.some.injEq, List.cons_append, List.nil_append, List.append_nil, List.getElem?_cons_zero, List.getElem?_cons_succ, List.set_cons_zero, List.set_cons_succ, reduceCtorEq, false_and, and_false, exists_false, exists_const, or_false, false_or, scal_ii, scal_bb, scal_ss, List.length_cons, List.length_nil, Int.reduceToNat, Int.reducePow])
local macro_rules | `(tactic| k_call_by "xs" $h:term) => `(tactic| simp only [$h:term, x_next, x_seq, x_brk, x_cont, x_drop, x_ret, x_retN, x_if, sel_t, sel_f, selE_t, selE_f, selT_t, selT_f, selC_t, selC_f, x_test, x_tB, x_op, x_un, x_var, x_c, x_cb, x_nil, x_cons, x_rI, x_rI0, x_rU, x_rEq, x_rNe, x_rIxL, x_rIxT, x_rSlL, x_rCat, x_rRep, x_rApp, x_bm, x_bm0, x_sl, x_nopart, x_part, x_tup, x_lst, x_call, x_callS, x_asg, x_gname, x_gtup, x_gnil, x_gcons, x_gsub, x_setL, x_aug, x_ipI, x_ipC, x_bits, x_getL, x_augS, x_and, x_or, x_not, x_k, x_andV, x_orV, x_notV, x_ife, x_chain, x_for, x_ilist, x_itup, x_ienum, x_irng1, x_irng2, x_irev, x_lc, x_yes, wipe_nil, wipe_cons, List.map_cons, List.map_nil, x_misc, x_misc2, x_rz, lookup_at, Bool.not_true, Bool.not_false, decide_true, decide_false, not_true, not_false_eq_true, and_assoc, exists_and_left, exists_eq_left', exists_eq_left, exists_eq', exists_eq_right', exists_eq_right, V.int.injEq, V.ref.injEq, V.bl.injEq, V.str.injEq, List.cons.injEq, and_true, true_and, and_self, Option.some.injEq, List.cons_append, List.nil_append, List.append_nil, List.getElem?_cons_zero, List.getElem?_cons_succ, List.set_cons_zero, List.set_cons_succ, reduceCtorEq, false_and, and_false, exists_false, exists_const, or_false, false_or, scal_ii, scal_bb, scal_ss, List.length_cons, List.length_nil, Int.reduceToNat, Int.reducePow])
local macro_rules | `(tactic| wtm_at "hp") => `(tactic| first | (with_reducible assumption) | exact upd_same | (refine upd_keep (by with_reducible assumption) ?_; wtm_at "hp") | (refine Same.get (by with_reducible assumption) ?_; wtm_at "hp") | (refine upd_other (by first | (with_reducible assumption) | exact Ne.symm (by with_reducible assumption)) ?_; wtm_at "hp"))
local macro_rules | `(tactic| wtm_at "sq") => `(tactic| first | (with_reducible assumption) | exact SqL.of (by wtm_at "hp") | exact SqT.of (by wtm_at "hp") | (refine Same.seq (same_upd (by with_reducible assumption)) ?_; wtm_at "sq") | (refine Same.seq (by with_reducible assumption) ?_; wtm_at "sq") | (refine Same.seqT (same_upd (by with_reducible assumption)) ?_; wtm_at "sq") | (refine Same.seqT (by with_reducible assumption) ?_; wtm_at "sq"))
local macro_rules | `(tactic| wtm_at "cl") => `(tactic| first | (with_reducible assumption) | omega | (exact cmul_r (by omega) (by omega)) | (exact cmul_l (by omega) (by omega)) | (exact cdiv_ok (by omega) (by omega)) | (exact cpow_ok (by decide)) | (exact ⟨by omega, by omega, by omega⟩) | decide | (exact ⟨by omega, by omega⟩) | (simp only [List.length_append, List.length_map, List.length_cons, List.length_nil, rngL_len, sizeLine_eq]; omega) | wtm_at "hp" | wtm_at "sq")
local macro_rules | `(tactic| wtm_at "pf") => `(tactic| first | (with_reducible assumption) | omega | (simp only [List.length_append, List.length_map, List.length_cons, List.length_nil, rngL_len]; omega) | (with_reducible rfl) | (with_reducible trivial) | (with_reducible decide))
local macro_rules | `(tactic| wtm_at "st") => `(tactic| first | ((with_reducible refine g_at ?_); refine at_call (by wtm_at "sq") (by omega) (by omega) (fun _ _ => ?_)) | ((with_reducible refine g_int ?_); refine int_call ?_) | ((with_reducible refine g_isi ?_); first | (refine isi_int rfl ?_) | (refine isi_lst rfl (by wtm_at "hp") ?_) | (refine isi_tup rfl (by wtm_at "hp") ?_)) | ((with_reducible refine g_ned ?_); refine ned_f (dq_lst (by wtm_at "sq")) (dq_lst (by wtm_at "sq")) ?_) | ((with_reducible refine g_eqd ?_); refine eqd_t (dq_lst (by wtm_at "sq")) (dq_lst (by wtm_at "sq")) ?_) | ((with_reducible refine g_tyv ?_); refine and_tyv (by wtm_at "sq") ?_) | ((with_reducible refine g_asq ?_); refine and_sq (by wtm_at "sq") ?_) | ((with_reducible refine g_lst ?_); refine ex_lst (by wtm_at "hp") ?_) | ((with_reducible refine g_or ?_); first | (refine ex_or (by wtm_at "sq") ?_) | (refine ex_ort (by wtm_at "sq") ?_)) | ((with_reducible refine g_sq ?_); refine ex_sq (by wtm_at "sq") ?_) | ((with_reducible refine g_sqt ?_); refine ex_sqt (by wtm_at "sq") ?_) | ((with_reducible refine gd_sel ?_); first | (refine sel_p (by wtm_at "pf") ?_) | (refine sel_n (by wtm_at "pf") ?_)) | ((with_reducible refine gn_sel ?_); first | (refine selN_p (by wtm_at "pf") ?_) | (refine selN_n (by wtm_at "pf") ?_)) | ((with_reducible refine gd_selT ?_); first | (refine selT_p (by wtm_at "pf") ?_) | (refine selT_n (by wtm_at "pf") ?_)) | ((with_reducible refine gn_selT ?_); first | (refine selTN_p (by wtm_at "pf") ?_) | (refine selTN_n (by wtm_at "pf") ?_)) | ((with_reducible refine gd_selE ?_); first | (refine selE_p (by wtm_at "pf") ?_) | (refine selE_n (by wtm_at "pf") ?_)) | ((with_reducible refine gn_selE ?_); first | (refine selEN_p (by wtm_at "pf") ?_) | (refine selEN_n (by wtm_at "pf") ?_)) | ((with_reducible refine g_xf ?_); refine xf_at rfl (by wtm_at "hp") ?_) | ((with_reducible refine g_atI ?_); refine ex_at (by first | exact rfl | exact atI_int (by omega) (by wtm_at "pf")) ?_) | ((with_reducible refine g_and ?_); refine And.intro (by wtm_at "cl") ?_) | ((with_reducible refine g_new ?_); intro _ _))
local macro_rules | `(tactic| wtm_at "go") => `(tactic| repeat (first | wtm_at "xs" | wtm_at "st"))
local macro_rules | `(tactic| wtm_at "xo") => `(tactic| simp only [x_next, x_seq, x_brk, x_cont, x_drop, x_ret, x_retN, x_if, sel_t, sel_f, selE_t, selE_f, selT_t, selT_f, selC_t, selC_f, x_test, x_tB, x_op, x_un, x_var, x_c, x_cb, x_nil, x_cons, x_rI, x_rI0, x_rU, x_rEq, x_rNe, x_rIxL, x_rIxT, n_rSlL, n_rCat, n_rRep, n_rApp, x_bm, x_bm0, x_sl, x_nopart, x_part, n_tup, n_lst, x_call, x_callS, x_asg, x_gname, x_gtup, x_gnil, x_gcons, x_gsub, n_setL, x_aug, x_ipI, x_ipC, x_bits, x_getL, x_augS, x_and, x_or, x_not, x_k, x_andV, x_orV, x_notV, x_ife, x_chain, x_for, x_ilist, x_itup, x_ienum, x_irng1, x_irng2, x_irev, x_lc, x_yes, wipe_nil, wipe_cons, List.map_cons, List.map_nil, x_misc, x_misc2, x_rz, lookup_at, Bool.not_true, Bool.not_false, decide_true, decide_false, not_true, not_false_eq_true, and_assoc, exists_and_left, exists_eq_left', exists_eq_left, exists_eq', exists_eq_right', exists_eq_right, V.int.injEq, V.ref.injEq, V.bl.injEq, V.str.injEq, List.cons.injEq, and_true, true_and, and_self, Option.some.injEq, List.cons_append, List.nil_append, List.append_nil, List.getElem?_cons_zero, List.getElem?_cons_succ, List.set_cons_zero, List.set_cons_succ, reduceCtorEq, false_and, and_false, exists_false, exists_const, or_false, false_or, scal_ii, scal_bb, scal_ss, List.length_cons, List.length_nil, Int.reduceToNat, Int.reducePow, n_fld, n_dnew, n_dput, n_din, n_dget, n_dget2, n_glst, n_sfld, n_aug, n_meth, n_mw, n_make, n_kw, n_rLs, t_s1, t_i1, t_i2, t_i3, t_i4, t_i5, x_chain3, x_irng3, x_irevR, x_rg1, x_rg2, ints_cat, ints_app1, ints_len, ints_take, ints_drop, rep_one])
local macro_rules | `(tactic| k_call_by "xo" $h:term) => `(tactic| simp only [$h:term, x_next, x_seq, x_brk, x_cont, x_drop, x_ret, x_retN, x_if, sel_t, sel_f, selE_t, selE_f, selT_t, selT_f, selC_t, selC_f, x_test, x_tB, x_op, x_un, x_var, x_c, x_cb, x_nil, x_cons, x_rI, x_rI0, x_rU, x_rEq, x_rNe, x_rIxL, x_rIxT, n_rSlL, n_rCat, n_rRep, n_rApp, x_bm, x_bm0, x_sl, x_nopart, x_part, n_tup, n_lst, x_call, x_callS, x_asg, x_gname, x_gtup, x_gnil, x_gcons, x_gsub, n_setL, x_aug, x_ipI, x_ipC, x_bits, x_getL, x_augS, x_and, x_or, x_not, x_k, x_andV, x_orV, x_notV, x_ife, x_chain, x_for, x_ilist, x_itup, x_ienum, x_irng1, x_irng2, x_irev, x_lc, x_yes, wipe_nil, wipe_cons, List.map_cons, List.map_nil, x_misc, x_misc2, x_rz, lookup_at, Bool.not_true, Bool.not_false, decide_true, decide_false, not_true, not_false_eq_true, and_assoc, exists_and_left, exists_eq_left', exists_eq_left, exists_eq', exists_eq_right', exists_eq_right, V.int.injEq, V.ref.injEq, V.bl.injEq, V.str.injEq, List.cons.injEq, and_true, true_and, and_self, Option.some.injEq, List.cons_append, List.nil_append, List.append_nil, List.getElem?_cons_zero, List.getElem?_cons_succ, List.set_cons_zero, List.set_cons_succ, reduceCtorEq, false_and, and_false, exists_false, exists_const, or_false, false_or, scal_ii, scal_bb, scal_ss, List.length_cons, List.length_nil, Int.reduceToNat, Int.reducePow, n_fld, n_dnew, n_dput, n_din, n_dget, n_dget2, n_glst, n_sfld, n_aug, n_meth, n_mw, n_make, n_kw, n_rLs, t_s1, t_i1, t_i2, t_i3, t_i4, t_i5, x_chain3, x_irng3, x_irevR, x_rg1, x_rg2, ints_cat, ints_app1, ints_len, ints_take, ints_drop, rep_one])
local macro_rules | `(tactic| wtm_at "mem") => `(tactic| first | (with_reducible exact mem_here) | (with_reducible refine mem_there ?_; wtm_at "mem"))
local macro_rules | `(tactic| wtm_at "pp") => `(tactic| first | (with_reducible exact Put.here) | (with_reducible apply Put.there; wtm_at "pp"))
local macro_rules | `(tactic| wtm_at "ho") => `(tactic| first | (with_reducible assumption) | exact Own.get (by with_reducible assumption) (by wtm_at "mem") | exact Own.base (by with_reducible assumption) (by with_reducible assumption))
local macro_rules | `(tactic| wtm_at "qo") => `(tactic| first | (with_reducible assumption) | exact SqL.of (by wtm_at "ho") | exact sqT_tupI (by wtm_at "ho") | exact sqT_tupS (by wtm_at "ho") | exact SqT.of (by wtm_at "ho") | exact Own.imT (by with_reducible assumption) (by wtm_at "mem") | exact Own.sq (by with_reducible assumption) (by with_reducible assumption) | exact Own.sqT (by with_reducible assumption) (by with_reducible assumption))
local macro_rules | `(tactic| wtm_at "sub") => `(tactic| first | exact List.nil_sublist _ | (with_reducible refine List.Sublist.cons_cons _ ?_; wtm_at "sub") | (refine List.Sublist.cons _ ?_; wtm_at "sub"))
local macro_rules | `(tactic| wtm_at "co") => `(tactic| first | (with_reducible assumption) | omega | (exact cmul_r (by omega) (by omega)) | (exact cmul_l (by omega) (by omega)) | (exact cdiv_ok (by omega) (by omega)) | (exact cpow_ok (by decide)) | (exact ⟨by omega, by omega, by omega⟩) | decide | (exact ⟨by omega, by omega⟩) | (simp only [List.length_append, List.length_map, List.length_cons, List.length_nil, rngL_len, sizeLine_eq]; omega) | wtm_at "ho" | wtm_at "qo")
local macro_rules | `(tactic| wtm_at "so") => `(tactic| first | ((with_reducible refine g_dputO ?_); refine dputI (by with_reducible assumption) (by wtm_at "pp") (by wtm_at "co") (fun _ _ => ?_)) | ((with_reducible refine g_dinO ?_); refine dinI (by wtm_at "ho") ?_) | ((with_reducible refine g_isDO ?_); refine isDO (by wtm_at "ho") ?_) | ((with_reducible refine g_dg2 ?_); refine dg2I (by wtm_at "ho") ?_) | ((with_reducible refine g_fldO ?_); refine fldO (by wtm_at "ho") (by with_reducible assumption) (by wtm_at "mem") (by wtm_at "lk") ?_) | ((with_reducible refine g_fldC ?_); refine fldC (by wtm_at "ho") (by with_reducible assumption) (by wtm_at "mem") (by wtm_at "lk") ?_) | ((with_reducible refine g_putC ?_); refine putC (by with_reducible assumption) (by wtm_at "pp") (by wtm_at "pu") (by wtm_at "co") (fun _ _ => ?_)) | ((with_reducible refine g_stoO ?_); refine stoO (by with_reducible assumption) (by wtm_at "pp") (by wtm_at "pu") (by with_reducible assumption) (by wtm_at "mem") (by wtm_at "co") (fun _ _ => ?_)) | ((with_reducible refine g_metO ?_); refine metO (by wtm_at "ho") (by wtm_at "ln") ?_) | ((with_reducible refine g_makO ?_); refine makO (by with_reducible assumption) (fun _ _ _ _ => ?_)) | ((with_reducible refine g_sum ?_); refine sum_call (by wtm_at "qo") ?_) | ((with_reducible refine g_cq ?_); exact cq (by with_reducible assumption) (by simp only [rngL_len, List.length_map, List.length_take]; omega)) | ((with_reducible refine g_newO ?_); refine newO (by with_reducible assumption) (fun _ _ _ => ?_)) | ((with_reducible refine g_appO ?_); refine appI (by with_reducible assumption) (by wtm_at "pp") (by wtm_at "co") (fun _ _ => ?_)) | ((with_reducible refine g_setO ?_); refine setI (by with_reducible assumption) (by wtm_at "pp") (by omega) (by wtm_at "co") (fun _ _ => ?_)) | ((with_reducible refine g_appO ?_); refine appO (by with_reducible assumption) (by wtm_at "pp") (by wtm_at "co") (fun _ _ => ?_)) | ((with_reducible refine g_setO ?_); refine setO (by with_reducible assumption) (by wtm_at "pp") (by omega) (by wtm_at "co") (fun _ _ => ?_)) | ((with_reducible refine g_at ?_); refine at_call (by wtm_at "qo") (by omega) (by omega) (fun _ _ => ?_)) | ((with_reducible refine g_int ?_); refine int_call ?_) | ((with_reducible refine g_isi ?_); first | (refine isi_int rfl ?_) | (refine isi_sqL rfl (by wtm_at "qo") ?_) | (refine isi_sqT rfl (by wtm_at "qo") ?_) | (refine isi_bl rfl ?_) | (refine isi_non rfl ?_) | (refine isi_str rfl ?_)) | ((with_reducible refine g_ned ?_); first | (refine ned_f (dq_lst (by wtm_at "qo")) (dq_lst (by wtm_at "qo")) ?_) | (refine ned_ints (by wtm_at "qo") (by wtm_at "qo") ?_) | (refine nedT_ints (by wtm_at "qo") (by wtm_at "qo") ?_)) | ((with_reducible refine g_eqd ?_); first | (refine eqd_t (dq_lst (by wtm_at "qo")) (dq_lst (by wtm_at "qo")) ?_) | (refine eqd_ints (by wtm_at "qo") (by wtm_at "qo") ?_) | (refine eqdT_ints (by wtm_at "qo") (by wtm_at "qo") ?_)) | ((with_reducible refine g_tyv ?_); refine and_tyv (by wtm_at "qo") ?_) | ((with_reducible refine g_asq ?_); refine and_sq (by wtm_at "qo") ?_) | ((with_reducible refine g_lst ?_); refine ex_lst (by wtm_at "ho") ?_) | ((with_reducible refine g_or ?_); first | (refine ex_or (by wtm_at "qo") ?_) | (refine ex_ort (by wtm_at "qo") ?_)) | ((with_reducible refine g_sq ?_); refine ex_sq (by wtm_at "qo") ?_) | ((with_reducible refine g_sqt ?_); refine ex_sqt (by wtm_at "qo") ?_) | ((with_reducible refine gd_sel ?_); first | (refine sel_p (by wtm_at "pf") ?_) | (refine sel_n (by wtm_at "pf") ?_)) | ((with_reducible refine gn_sel ?_); first | (refine selN_p (by wtm_at "pf") ?_) | (refine selN_n (by wtm_at "pf") ?_)) | ((with_reducible refine gd_selT ?_); first | (refine selT_p (by wtm_at "pf") ?_) | (refine selT_n (by wtm_at "pf") ?_)) | ((with_reducible refine gn_selT ?_); first | (refine selTN_p (by wtm_at "pf") ?_) | (refine selTN_n (by wtm_at "pf") ?_)) | ((with_reducible refine gd_selE ?_); first | (refine selE_p (by wtm_at "pf") ?_) | (refine selE_n (by wtm_at "pf") ?_)) | ((with_reducible refine gn_selE ?_); first | (refine selEN_p (by wtm_at "pf") ?_) | (refine selEN_n (by wtm_at "pf") ?_)) | ((with_reducible refine g_xf ?_); refine xf_at rfl (by wtm_at "ho") ?_) | ((with_reducible refine g_atI ?_); refine ex_at (by first | exact rfl | exact atI_int (by omega) (by wtm_at "pf")) ?_) | ((with_reducible refine g_and ?_); refine And.intro (by wtm_at "co") ?_))
local macro_rules | `(tactic| wtm_at "oo") => `(tactic| repeat (first | wtm_at "xo" | wtm_at "so"))
local macro_rules | `(tactic| wtm_at "cR") => `(tactic| (refine' compRi _ (by with_reducible assumption) (by omega) (fun _ _ _ _ _ => ?_) (fun _ _ _ => ?_); rotate_left; focus (wtm_at "oo")))

local macro_rules | `(tactic| wtm_at "lk") => `(tactic| first | (with_reducible exact lk_here) | (simp only [lk_here, lk_skip, lk_nil, nb_0_0, nb_0_1, nb_0_2, nb_0_3, nb_0_4, nb_0_5, nb_0_6, nb_1_0, nb_1_1, nb_1_2, nb_1_3, nb_1_4, nb_1_5, nb_1_6, nb_2_1, nb_2_2, nb_2_3, nb_2_4, nb_2_5, nb_2_6, nb_3_0, nb_3_2, nb_3_3, nb_3_4, nb_3_5, nb_3_6, nb_4_0, nb_4_1, nb_4_3, nb_4_4, nb_4_5, nb_4_6, nb_5_0, nb_5_1, nb_5_2, nb_5_4, nb_5_5, nb_5_6, nb_6_0, nb_6_1, nb_6_2, nb_6_3, nb_6_4, nb_6_5, nb_6_6, nb_7_0, nb_7_1, nb_7_2, nb_7_3, nb_7_5, nb_7_6, nb_8_0, nb_8_1, nb_8_2, nb_8_3, nb_8_4, nb_8_6, nb_9_0, nb_9_1, nb_9_2, nb_9_3, nb_9_4, nb_9_5, nb_10_0, nb_10_1, nb_10_2, nb_10_3, nb_10_4, nb_10_5, nb_10_6, nb_11_0, nb_11_1, nb_11_2, nb_11_3, nb_11_4, nb_11_5, nb_11_6, nb_12_0, nb_12_1, nb_12_2, nb_12_3, nb_12_4, nb_12_5, nb_12_6, nb_13_0, nb_13_1, nb_13_2, nb_13_3, nb_13_4, nb_13_5, nb_13_6, nb_14_0, nb_14_1, nb_14_2, nb_14_3, nb_14_4, nb_14_5, nb_14_6]; first | done | exact rfl))
local macro_rules | `(tactic| wtm_at "ln") => `(tactic| first | (with_reducible exact lk_nil) | (simp only [lk_skip, lk_nil, nb_0_0, nb_0_1, nb_0_2, nb_0_3, nb_0_4, nb_0_5, nb_0_6, nb_1_0, nb_1_1, nb_1_2, nb_1_3, nb_1_4, nb_1_5, nb_1_6, nb_2_1, nb_2_2, nb_2_3, nb_2_4, nb_2_5, nb_2_6, nb_3_0, nb_3_2, nb_3_3, nb_3_4, nb_3_5, nb_3_6, nb_4_0, nb_4_1, nb_4_3, nb_4_4, nb_4_5, nb_4_6, nb_5_0, nb_5_1, nb_5_2, nb_5_4, nb_5_5, nb_5_6, nb_6_0, nb_6_1, nb_6_2, nb_6_3, nb_6_4, nb_6_5, nb_6_6, nb_7_0, nb_7_1, nb_7_2, nb_7_3, nb_7_5, nb_7_6, nb_8_0, nb_8_1, nb_8_2, nb_8_3, nb_8_4, nb_8_6, nb_9_0, nb_9_1, nb_9_2, nb_9_3, nb_9_4, nb_9_5, nb_10_0, nb_10_1, nb_10_2, nb_10_3, nb_10_4, nb_10_5, nb_10_6, nb_11_0, nb_11_1, nb_11_2, nb_11_3, nb_11_4, nb_11_5, nb_11_6, nb_12_0, nb_12_1, nb_12_2, nb_12_3, nb_12_4, nb_12_5, nb_12_6, nb_13_0, nb_13_1, nb_13_2, nb_13_3, nb_13_4, nb_13_5, nb_13_6, nb_14_0, nb_14_1, nb_14_2, nb_14_3, nb_14_4, nb_14_5, nb_14_6]; done))
local macro_rules | `(tactic| wtm_at "pu") => `(tactic| first | (with_reducible exact pf_nil) | (simp only [pf_nil, pf_here, pf_skip, nb_0_0, nb_0_1, nb_0_2, nb_0_3, nb_0_4, nb_0_5, nb_0_6, nb_1_0, nb_1_1, nb_1_2, nb_1_3, nb_1_4, nb_1_5, nb_1_6, nb_2_1, nb_2_2, nb_2_3, nb_2_4, nb_2_5, nb_2_6, nb_3_0, nb_3_2, nb_3_3, nb_3_4, nb_3_5, nb_3_6, nb_4_0, nb_4_1, nb_4_3, nb_4_4, nb_4_5, nb_4_6, nb_5_0, nb_5_1, nb_5_2, nb_5_4, nb_5_5, nb_5_6, nb_6_0, nb_6_1, nb_6_2, nb_6_3, nb_6_4, nb_6_5, nb_6_6, nb_7_0, nb_7_1, nb_7_2, nb_7_3, nb_7_5, nb_7_6, nb_8_0, nb_8_1, nb_8_2, nb_8_3, nb_8_4, nb_8_6, nb_9_0, nb_9_1, nb_9_2, nb_9_3, nb_9_4, nb_9_5, nb_10_0, nb_10_1, nb_10_2, nb_10_3, nb_10_4, nb_10_5, nb_10_6, nb_11_0, nb_11_1, nb_11_2, nb_11_3, nb_11_4, nb_11_5, nb_11_6, nb_12_0, nb_12_1, nb_12_2, nb_12_3, nb_12_4, nb_12_5, nb_12_6, nb_13_0, nb_13_1, nb_13_2, nb_13_3, nb_13_4, nb_13_5, nb_13_6, nb_14_0, nb_14_1, nb_14_2, nb_14_3, nb_14_4, nb_14_5, nb_14_6]; first | done | exact rfl))
local macro_rules | `(tactic| wtm_at "tk") => `(tactic| first | (with_reducible exact Take.here) | (exact Take.here) | ((with_reducible apply Take.there); wtm_at "tk"))
local macro_rules | `(tactic| wtm_at "pk") => `(tactic| first | exact Pick.nil | ((with_reducible refine' Pick.cons ?tk1 ?pk1); (case tk1 => wtm_at "tk"); (case pk1 => wtm_at "pk")) | ((with_reducible refine Pick.im (by wtm_at "mem") ?_); wtm_at "pk") | ((with_reducible refine Pick.ims (by wtm_at "mem") ?_); wtm_at "pk"))
section
variable {P : Program} {w : World} {K : PySem.W.Frag} {mg : Str → Option Value} {base : Heap}
def sp__law_is_row (K : PySem.W.Frag) : Sp := fun vs H Q _ => ∃ (a : Addr) (ns : List Int), vs = [.ref a] ∧ H a = some (.lst (ns.map V.int)) ∧ Q (.bl true) H
theorem ok__law_is_row (T : Tx K mg) : Cl P w K mg base 2 "_law_is_row" ["actual"] (sp__law_is_row K) [] := by
  obtain ⟨gm, fd, F⟩ := T.d__law_is_row
  refine ⟨_, fd, [], F.ok sc__law_is_row (fun vs H Q E h => ?_) (fun cdv A outer s H vs Q E hr h => ⟨_, (PSs.nox (pss_cons (ps_if (pt_not (pt_val (pe_callB (isiK K) rfl T.b_isinstance (by decide +kernel) (pa_cons (pv 0) (pa_cons (pe_bltn (v := .ty "list") rfl T.b_list (by decide +kernel) rfl) pa_nil)))))
 (pss_one (ps_ret (by exact pe_bl)))
 pss_nil)
 (pss_cons (ps_for PassesOwn.never rfl (pi_list (pv 0)) (pg_name (i := 1) sc__law_is_row.nd rfl (Or.inl rfl))
 (pss_one (ps_if (pt_not (pt_val (pe_cl (ok__law_is_integer T) (hr.mono (by decide)) rfl (pa_cons (pv 1) pa_nil))))
 (pss_one (ps_ret (by exact pe_bl)))
 pss_nil)))
 (pss_one (ps_ret (by exact pe_bl)))))), ?_⟩), gm, F.kp, F.bindsN (fun _ _ _ _ _ _ us hl => match us, hl with | [_], _ => rfl), .nil⟩
  · first | (obtain ⟨rfl, _⟩ := h; rfl) | (obtain ⟨_, rfl, _⟩ := h; rfl) | (obtain ⟨_, _, rfl, _⟩ := h; rfl) | (obtain ⟨_, _, _, rfl, _⟩ := h; rfl) | (obtain ⟨_, _, _, _, rfl, _⟩ := h; rfl) | (obtain ⟨_, _, _, _, _, rfl, _⟩ := h; rfl) | (obtain ⟨_, _, _, _, _, _, rfl, _⟩ := h; rfl) | (obtain ⟨_, _, _, _, _, _, _, rfl, _⟩ := h; rfl) | (obtain ⟨_, _, _, _, _, _, _, _, rfl, _⟩ := h; rfl) | (obtain ⟨_, _, _, _, _, _, _, _, _, rfl, _⟩ := h; rfl) | (obtain ⟨_, _, _, _, _, _, _, _, _, _, rfl, _⟩ := h; rfl) | (obtain ⟨_, _, _, _, _, _, _, _, _, _, _, rfl, _⟩ := h; rfl) | (obtain ⟨_, _, _, _, _, _, _, _, _, _, _, _, rfl, _⟩ := h; rfl) | (obtain ⟨_, _, _, _, _, _, _, _, _, _, _, _, _, rfl, _⟩ := h; rfl) | (obtain ⟨_, _, _, _, _, _, _, _, _, _, _, _, _, _, rfl, _⟩ := h; rfl) | (obtain ⟨_, _, _, _, _, _, _, _, _, _, _, _, _, _, _, rfl, _⟩ := h; rfl) | (obtain ⟨_, _, _, _, _, _, _, _, _, _, _, _, _, _, _, _, rfl, _⟩ := h; rfl) | (obtain ⟨_, _, _, _, _, _, _, _, _, _, _, _, _, _, _, _, _, rfl, _⟩ := h; rfl) | (obtain ⟨_, _, _, _, _, _, _, _, _, _, _, _, _, _, _, _, _, _, rfl, _⟩ := h; rfl) | (obtain ⟨_, _, _, _, _, _, _, _, _, _, _, _, _, _, _, _, _, _, _, rfl, _⟩ := h; rfl) | (obtain ⟨_, _, _, _, _, _, _, _, _, _, _, _, _, _, _, _, _, _, _, _, rfl, _⟩ := h; rfl) | (obtain ⟨_, _, _, _, _, _, _, _, _, _, _, _, _, _, _, _, _, _, _, _, _, rfl, _⟩ := h; rfl)
  · obtain ⟨a, ns, rfl, hl, q⟩ := h
    k_call_by "xs" st__law_is_row
    refine isi_lst rfl hl ?_
    wtm_at "xs"
    refine ⟨⟨_, SqL.of hl⟩, loop_list (xs := ns.map V.int) (fun i σ H' => ∃ y, σ = [some (.ref a), y] ∧ H' = H) ⟨_, rfl, rfl⟩ (fun i σ H' _ ⟨y, _, e⟩ => by rw [e]; exact SqL.of hl) ?_ ?_⟩
    · rintro i x σ H' hx ⟨y, rfl, rfl⟩
      obtain ⟨z, hz, rfl⟩ := int_at hx
      wtm_at "xs"
      refine ⟨z, rfl, ?_⟩
      wtm_at "xs"
    · rintro σ H' ⟨y, rfl, rfl⟩
      wtm_at "xs"
      exact q
theorem g_row {K : PySem.W.Frag} {H : Hp} {vs : List V} {Q : VK} {E : XK} (h : sp__law_is_row K vs H Q E) : sp__law_is_row K vs H Q E := h
theorem row_call {K : PySem.W.Frag} {H : Hp} {a : Addr} {ns : List Int} {Q : VK} {E : XK} (h : H a = some (.lst (ns.map V.int))) (q : Q (.bl true) H) : sp__law_is_row K [.ref a] H Q E := ⟨a, ns, rfl, h, q⟩


end
end K11

namespace K11
open PySem PySem.Spec PyProof.Rows L2 Bel
local macro_rules | `(tactic| wtm_at "xs") => `(tactic| simp only [x_next, x_seq, x_brk, x_cont, x_drop, x_ret, x_retN, x_if, sel_t, sel_f, selE_t, selE_f, selT_t, selT_f, selC_t, selC_f, x_test, x_tB, x_op, x_un, x_var, x_c, x_cb, x_nil, x_cons, x_rI, x_rI0, x_rU, x_rEq, x_rNe, x_rIxL, x_rIxT, x_rSlL, x_rCat, x_rRep, x_rApp, x_bm, x_bm0, x_sl, x_nopart, x_part, x_tup, x_lst, x_call, x_callS, x_asg, x_gname, x_gtup, x_gnil, x_gcons, x_gsub, x_setL, x_aug, x_ipI, x_ipC, x_bits, x_getL, x_augS, x_and, x_or, x_not, x_k, x_andV, x_orV, x_notV, x_ife, x_chain, x_for, x_ilist, x_itup, x_ienum, x_irng1, x_irng2, x_irev, x_lc, x_yes, wipe_nil, wipe_cons, List.map_cons, List.map_nil, x_misc, x_misc2, x_rz, lookup_at, Bool.not_true, Bool.not_false, decide_true, decide_false, not_true, not_false_eq_true, and_assoc, exists_and_left, exists_eq_left', exists_eq_left, exists_eq', exists_eq_right', exists_eq_right, V.int.injEq, V.ref.injEq, V.bl.injEq, V.str.injEq, List.cons.injEq, and_true, true_and, and_self, Option.some.injEq, List.cons_append, List.nil_append, List.append_nil, List.getElem?_cons_zero, List.getElem?_cons_succ, List.set_cons_zero, List.set_cons_succ, reduceCtorEq, false_and, and_false, exists_false, exists_const, or_false, false_or, scal_ii, scal_bb, scal_ss, List.length_cons, List.length_nil, Int.reduceToNat, Int.reducePow])
local macro_rules | `(tactic| k_call_by "xs" $h:term) => `(tactic| simp only [$h:term, x_next, x_seq, x_brk, x_cont, x_drop, x_ret, x_retN, x_if, sel_t, sel_f, selE_t, selE_f, selT_t, selT_f, selC_t, selC_f, x_test, x_tB, x_op, x_un, x_var, x_c, x_cb, x_nil, x_cons, x_rI, x_rI0, x_rU, x_rEq, x_rNe, x_rIxL, x_rIxT, x_rSlL, x_rCat, x_rRep, x_rApp, x_bm, x_bm0, x_sl, x_nopart, x_part, x_tup, x_lst, x_call, x_callS, x_asg, x_gname, x_gtup, x_gnil, x_gcons, x_gsub, x_setL, x_aug, x_ipI, x_ipC, x_bits, x_getL, x_augS, x_and, x_or, x_not, x_k, x_andV, x_orV, x_notV, x_ife, x_chain, x_for, x_ilist, x_itup, x_ienum, x_irng1, x_irng2, x_irev, x_lc, x_yes, wipe_nil, wipe_cons, List.map_cons, List.map_nil, x_misc, x_misc2, x_rz, lookup_at, Bool.not_true, Bool.not_false, decide_true, decide_false, not_true, not_false_eq_true, and_assoc, exists_and_left, exists_eq_left', exists_eq_left, exists_eq', exists_eq_right', exists_eq_right, V.int.injEq, V.ref.injEq, V.bl.injEq, V.str.injEq, List.cons.injEq, and_true, true_and, and_self, Option.some.injEq, List.cons_append, List.nil_append, List.append_nil, List.getElem?_cons_zero, List.getElem?_cons_succ, List.set_cons_zero, List.set_cons_succ, reduceCtorEq, false_and, and_false, exists_false, exists_const, or_false, false_or, scal_ii, scal_bb, scal_ss, List.length_cons, List.length_nil, Int.reduceToNat, Int.reducePow])
local macro_rules | `(tactic| wtm_at "hp") => `(tactic| first | (with_reducible assumption) | exact upd_same | (refine upd_keep (by with_reducible assumption) ?_; wtm_at "hp") | (refine Same.get (by with_reducible assumption) ?_; wtm_at "hp") | (refine upd_other (by first | (with_reducible assumption) | exact Ne.symm (by with_reducible assumption)) ?_; wtm_at "hp"))
local macro_rules | `(tactic| wtm_at "sq") => `(tactic| first | (with_reducible assumption) | exact SqL.of (by wtm_at "hp") | exact SqT.of (by wtm_at "hp") | (refine Same.seq (same_upd (by with_reducible assumption)) ?_; wtm_at "sq") | (refine Same.seq (by with_reducible assumption) ?_; wtm_at "sq") | (refine Same.seqT (same_upd (by with_reducible assumption)) ?_; wtm_at "sq") | (refine Same.seqT (by with_reducible assumption) ?_; wtm_at "sq"))
local macro_rules | `(tactic| wtm_at "cl") => `(tactic| first | (with_reducible assumption) | omega | (exact cmul_r (by omega) (by omega)) | (exact cmul_l (by omega) (by omega)) | (exact cdiv_ok (by omega) (by omega)) | (exact cpow_ok (by decide)) | (exact ⟨by omega, by omega, by omega⟩) | decide | (exact ⟨by omega, by omega⟩) | (simp only [List.length_append, List.length_map, List.length_cons, List.length_nil, rngL_len, sizeLine_eq]; omega) | wtm_at "hp" | wtm_at "sq")
local macro_rules | `(tactic| wtm_at "pf") => `(tactic| first | (with_reducible assumption) | omega | (simp only [List.length_append, List.length_map, List.length_cons, List.length_nil, rngL_len]; omega) | (with_reducible rfl) | (with_reducible trivial) | (with_reducible decide))
local macro_rules | `(tactic| wtm_at "st") => `(tactic| first | ((with_reducible refine g_at ?_); refine at_call (by wtm_at "sq") (by omega) (by omega) (fun _ _ => ?_)) | ((with_reducible refine g_row ?_); refine row_call (by wtm_at "hp") ?_) | ((with_reducible refine g_int ?_); refine int_call ?_) | ((with_reducible refine g_isi ?_); first | (refine isi_int rfl ?_) | (refine isi_lst rfl (by wtm_at "hp") ?_) | (refine isi_tup rfl (by wtm_at "hp") ?_)) | ((with_reducible refine g_ned ?_); refine ned_f (dq_lst (by wtm_at "sq")) (dq_lst (by wtm_at "sq")) ?_) | ((with_reducible refine g_eqd ?_); refine eqd_t (dq_lst (by wtm_at "sq")) (dq_lst (by wtm_at "sq")) ?_) | ((with_reducible refine g_tyv ?_); refine and_tyv (by wtm_at "sq") ?_) | ((with_reducible refine g_asq ?_); refine and_sq (by wtm_at "sq") ?_) | ((with_reducible refine g_lst ?_); refine ex_lst (by wtm_at "hp") ?_) | ((with_reducible refine g_or ?_); first | (refine ex_or (by wtm_at "sq") ?_) | (refine ex_ort (by wtm_at "sq") ?_)) | ((with_reducible refine g_sq ?_); refine ex_sq (by wtm_at "sq") ?_) | ((with_reducible refine g_sqt ?_); refine ex_sqt (by wtm_at "sq") ?_) | ((with_reducible refine gd_sel ?_); first | (refine sel_p (by wtm_at "pf") ?_) | (refine sel_n (by wtm_at "pf") ?_)) | ((with_reducible refine gn_sel ?_); first | (refine selN_p (by wtm_at "pf") ?_) | (refine selN_n (by wtm_at "pf") ?_)) | ((with_reducible refine gd_selT ?_); first | (refine selT_p (by wtm_at "pf") ?_) | (refine selT_n (by wtm_at "pf") ?_)) | ((with_reducible refine gn_selT ?_); first | (refine selTN_p (by wtm_at "pf") ?_) | (refine selTN_n (by wtm_at "pf") ?_)) | ((with_reducible refine gd_selE ?_); first | (refine selE_p (by wtm_at "pf") ?_) | (refine selE_n (by wtm_at "pf") ?_)) | ((with_reducible refine gn_selE ?_); first | (refine selEN_p (by wtm_at "pf") ?_) | (refine selEN_n (by wtm_at "pf") ?_)) | ((with_reducible refine g_xf ?_); refine xf_at rfl (by wtm_at "hp") ?_) | ((with_reducible refine g_atI ?_); refine ex_at (by first | exact rfl | exact atI_int (by omega) (by wtm_at "pf")) ?_) | ((with_reducible refine g_and ?_); refine And.intro (by wtm_at "cl") ?_) | ((with_reducible refine g_new ?_); intro _ _))
local macro_rules | `(tactic| wtm_at "go") => `(tactic| repeat (first | wtm_at "xs" | wtm_at "st"))
local macro_rules | `(tactic| wtm_at "xo") => `(tactic| simp only [x_next, x_seq, x_brk, x_cont, x_drop, x_ret, x_retN, x_if, sel_t, sel_f, selE_t, selE_f, selT_t, selT_f, selC_t, selC_f, x_test, x_tB, x_op, x_un, x_var, x_c, x_cb, x_nil, x_cons, x_rI, x_rI0, x_rU, x_rEq, x_rNe, x_rIxL, x_rIxT, n_rSlL, n_rCat, n_rRep, n_rApp, x_bm, x_bm0, x_sl, x_nopart, x_part, n_tup, n_lst, x_call, x_callS, x_asg, x_gname, x_gtup, x_gnil, x_gcons, x_gsub, n_setL, x_aug, x_ipI, x_ipC, x_bits, x_getL, x_augS, x_and, x_or, x_not, x_k, x_andV, x_orV, x_notV, x_ife, x_chain, x_for, x_ilist, x_itup, x_ienum, x_irng1, x_irng2, x_irev, x_lc, x_yes, wipe_nil, wipe_cons, List.map_cons, List.map_nil, x_misc, x_misc2, x_rz, lookup_at, Bool.not_true, Bool.not_false, decide_true, decide_false, not_true, not_false_eq_true, and_assoc, exists_and_left, exists_eq_left', exists_eq_left, exists_eq', exists_eq_right', exists_eq_right, V.int.injEq, V.ref.injEq, V.bl.injEq, V.str.injEq, List.cons.injEq, and_true, true_and, and_self, Option.some.injEq, List.cons_append, List.nil_append, List.append_nil, List.getElem?_cons_zero, List.getElem?_cons_succ, List.set_cons_zero, List.set_cons_succ, reduceCtorEq, false_and, and_false, exists_false, exists_const, or_false, false_or, scal_ii, scal_bb, scal_ss, List.length_cons, List.length_nil, Int.reduceToNat, Int.reducePow, n_fld, n_dnew, n_dput, n_din, n_dget, n_dget2, n_glst, n_sfld, n_aug, n_meth, n_mw, n_make, n_kw, n_rLs, t_s1, t_i1, t_i2, t_i3, t_i4, t_i5, x_chain3, x_irng3, x_irevR, x_rg1, x_rg2, ints_cat, ints_app1, ints_len, ints_take, ints_drop, rep_one])
local macro_rules | `(tactic| k_call_by "xo" $h:term) => `(tactic| simp only [$h:term, x_next, x_seq, x_brk, x_cont, x_drop, x_ret, x_retN, x_if, sel_t, sel_f, selE_t, selE_f, selT_t, selT_f, selC_t, selC_f, x_test, x_tB, x_op, x_un, x_var, x_c, x_cb, x_nil, x_cons, x_rI, x_rI0, x_rU, x_rEq, x_rNe, x_rIxL, x_rIxT, n_rSlL, n_rCat, n_rRep, n_rApp, x_bm, x_bm0, x_sl, x_nopart, x_part, n_tup, n_lst, x_call, x_callS, x_asg, x_gname, x_gtup, x_gnil, x_gcons, x_gsub, n_setL, x_aug, x_ipI, x_ipC, x_bits, x_getL, x_augS, x_and, x_or, x_not, x_k, x_andV, x_orV, x_notV, x_ife, x_chain, x_for, x_ilist, x_itup, x_ienum, x_irng1, x_irng2, x_irev, x_lc, x_yes, wipe_nil, wipe_cons, List.map_cons, List.map_nil, x_misc, x_misc2, x_rz, lookup_at, Bool.not_true, Bool.not_false, decide_true, decide_false, not_true, not_false_eq_true, and_assoc, exists_and_left, exists_eq_left', exists_eq_left, exists_eq', exists_eq_right', exists_eq_right, V.int.injEq, V.ref.injEq, V.bl.injEq, V.str.injEq, List.cons.injEq, and_true, true_and, and_self, Option.some.injEq, List.cons_append, List.nil_append, List.append_nil, List.getElem?_cons_zero, List.getElem?_cons_succ, List.set_cons_zero, List.set_cons_succ, reduceCtorEq, false_and, and_false, exists_false, exists_const, or_false, false_or, scal_ii, scal_bb, scal_ss, List.length_cons, List.length_nil, Int.reduceToNat, Int.reducePow, n_fld, n_dnew, n_dput, n_din, n_dget, n_dget2, n_glst, n_sfld, n_aug, n_meth, n_mw, n_make, n_kw, n_rLs, t_s1, t_i1, t_i2, t_i3, t_i4, t_i5, x_chain3, x_irng3, x_irevR, x_rg1, x_rg2, ints_cat, ints_app1, ints_len, ints_take, ints_drop, rep_one])
local macro_rules | `(tactic| wtm_at "mem") => `(tactic| first | (with_reducible exact mem_here) | (with_reducible refine mem_there ?_; wtm_at "mem"))
local macro_rules | `(tactic| wtm_at "pp") => `(tactic| first | (with_reducible exact Put.here) | (with_reducible apply Put.there; wtm_at "pp"))
local macro_rules | `(tactic| wtm_at "ho") => `(tactic| first | (with_reducible assumption) | exact Own.get (by with_reducible assumption) (by wtm_at "mem") | exact Own.base (by with_reducible assumption) (by with_reducible assumption))
local macro_rules | `(tactic| wtm_at "qo") => `(tactic| first | (with_reducible assumption) | exact SqL.of (by wtm_at "ho") | exact sqT_tupI (by wtm_at "ho") | exact sqT_tupS (by wtm_at "ho") | exact SqT.of (by wtm_at "ho") | exact Own.imT (by with_reducible assumption) (by wtm_at "mem") | exact Own.sq (by with_reducible assumption) (by with_reducible assumption) | exact Own.sqT (by with_reducible assumption) (by with_reducible assumption))
local macro_rules | `(tactic| wtm_at "sub") => `(tactic| first | exact List.nil_sublist _ | (with_reducible refine List.Sublist.cons_cons _ ?_; wtm_at "sub") | (refine List.Sublist.cons _ ?_; wtm_at "sub"))
local macro_rules | `(tactic| wtm_at "co") => `(tactic| first | (with_reducible assumption) | omega | (exact cmul_r (by omega) (by omega)) | (exact cmul_l (by omega) (by omega)) | (exact cdiv_ok (by omega) (by omega)) | (exact cpow_ok (by decide)) | (exact ⟨by omega, by omega, by omega⟩) | decide | (exact ⟨by omega, by omega⟩) | (simp only [List.length_append, List.length_map, List.length_cons, List.length_nil, rngL_len, sizeLine_eq]; omega) | wtm_at "ho" | wtm_at "qo")
local macro_rules | `(tactic| wtm_at "so") => `(tactic| first | ((with_reducible refine g_dputO ?_); refine dputI (by with_reducible assumption) (by wtm_at "pp") (by wtm_at "co") (fun _ _ => ?_)) | ((with_reducible refine g_dinO ?_); refine dinI (by wtm_at "ho") ?_) | ((with_reducible refine g_isDO ?_); refine isDO (by wtm_at "ho") ?_) | ((with_reducible refine g_dg2 ?_); refine dg2I (by wtm_at "ho") ?_) | ((with_reducible refine g_fldO ?_); refine fldO (by wtm_at "ho") (by with_reducible assumption) (by wtm_at "mem") (by wtm_at "lk") ?_) | ((with_reducible refine g_fldC ?_); refine fldC (by wtm_at "ho") (by with_reducible assumption) (by wtm_at "mem") (by wtm_at "lk") ?_) | ((with_reducible refine g_putC ?_); refine putC (by with_reducible assumption) (by wtm_at "pp") (by wtm_at "pu") (by wtm_at "co") (fun _ _ => ?_)) | ((with_reducible refine g_stoO ?_); refine stoO (by with_reducible assumption) (by wtm_at "pp") (by wtm_at "pu") (by with_reducible assumption) (by wtm_at "mem") (by wtm_at "co") (fun _ _ => ?_)) | ((with_reducible refine g_metO ?_); refine metO (by wtm_at "ho") (by wtm_at "ln") ?_) | ((with_reducible refine g_makO ?_); refine makO (by with_reducible assumption) (fun _ _ _ _ => ?_)) | ((with_reducible refine g_sum ?_); refine sum_call (by wtm_at "qo") ?_) | ((with_reducible refine g_cq ?_); exact cq (by with_reducible assumption) (by simp only [rngL_len, List.length_map, List.length_take]; omega)) | ((with_reducible refine g_newO ?_); refine newO (by with_reducible assumption) (fun _ _ _ => ?_)) | ((with_reducible refine g_appO ?_); refine appI (by with_reducible assumption) (by wtm_at "pp") (by wtm_at "co") (fun _ _ => ?_)) | ((with_reducible refine g_setO ?_); refine setI (by with_reducible assumption) (by wtm_at "pp") (by omega) (by wtm_at "co") (fun _ _ => ?_)) | ((with_reducible refine g_appO ?_); refine appO (by with_reducible assumption) (by wtm_at "pp") (by wtm_at "co") (fun _ _ => ?_)) | ((with_reducible refine g_setO ?_); refine setO (by with_reducible assumption) (by wtm_at "pp") (by omega) (by wtm_at "co") (fun _ _ => ?_)) | ((with_reducible refine g_at ?_); refine at_call (by wtm_at "qo") (by omega) (by omega) (fun _ _ => ?_)) | ((with_reducible refine g_row ?_); refine row_call (by wtm_at "ho") ?_) | ((with_reducible refine g_int ?_); refine int_call ?_) | ((with_reducible refine g_isi ?_); first | (refine isi_int rfl ?_) | (refine isi_sqL rfl (by wtm_at "qo") ?_) | (refine isi_sqT rfl (by wtm_at "qo") ?_) | (refine isi_bl rfl ?_) | (refine isi_non rfl ?_) | (refine isi_str rfl ?_)) | ((with_reducible refine g_ned ?_); first | (refine ned_f (dq_lst (by wtm_at "qo")) (dq_lst (by wtm_at "qo")) ?_) | (refine ned_ints (by wtm_at "qo") (by wtm_at "qo") ?_) | (refine nedT_ints (by wtm_at "qo") (by wtm_at "qo") ?_)) | ((with_reducible refine g_eqd ?_); first | (refine eqd_t (dq_lst (by wtm_at "qo")) (dq_lst (by wtm_at "qo")) ?_) | (refine eqd_ints (by wtm_at "qo") (by wtm_at "qo") ?_) | (refine eqdT_ints (by wtm_at "qo") (by wtm_at "qo") ?_)) | ((with_reducible refine g_tyv ?_); refine and_tyv (by wtm_at "qo") ?_) | ((with_reducible refine g_asq ?_); refine and_sq (by wtm_at "qo") ?_) | ((with_reducible refine g_lst ?_); refine ex_lst (by wtm_at "ho") ?_) | ((with_reducible refine g_or ?_); first | (refine ex_or (by wtm_at "qo") ?_) | (refine ex_ort (by wtm_at "qo") ?_)) | ((with_reducible refine g_sq ?_); refine ex_sq (by wtm_at "qo") ?_) | ((with_reducible refine g_sqt ?_); refine ex_sqt (by wtm_at "qo") ?_) | ((with_reducible refine gd_sel ?_); first | (refine sel_p (by wtm_at "pf") ?_) | (refine sel_n (by wtm_at "pf") ?_)) | ((with_reducible refine gn_sel ?_); first | (refine selN_p (by wtm_at "pf") ?_) | (refine selN_n (by wtm_at "pf") ?_)) | ((with_reducible refine gd_selT ?_); first | (refine selT_p (by wtm_at "pf") ?_) | (refine selT_n (by wtm_at "pf") ?_)) | ((with_reducible refine gn_selT ?_); first | (refine selTN_p (by wtm_at "pf") ?_) | (refine selTN_n (by wtm_at "pf") ?_)) | ((with_reducible refine gd_selE ?_); first | (refine selE_p (by wtm_at "pf") ?_) | (refine selE_n (by wtm_at "pf") ?_)) | ((with_reducible refine gn_selE ?_); first | (refine selEN_p (by wtm_at "pf") ?_) | (refine selEN_n (by wtm_at "pf") ?_)) | ((with_reducible refine g_xf ?_); refine xf_at rfl (by wtm_at "ho") ?_) | ((with_reducible refine g_atI ?_); refine ex_at (by first | exact rfl | exact atI_int (by omega) (by wtm_at "pf")) ?_) | ((with_reducible refine g_and ?_); refine And.intro (by wtm_at "co") ?_))
local macro_rules | `(tactic| wtm_at "oo") => `(tactic| repeat (first | wtm_at "xo" | wtm_at "so"))
local macro_rules | `(tactic| wtm_at "cR") => `(tactic| (refine' compRi _ (by with_reducible assumption) (by omega) (fun _ _ _ _ _ => ?_) (fun _ _ _ => ?_); rotate_left; focus (wtm_at "oo")))

local macro_rules | `(tactic| wtm_at "lk") => `(tactic| first | (with_reducible exact lk_here) | (simp only [lk_here, lk_skip, lk_nil, nb_0_0, nb_0_1, nb_0_2, nb_0_3, nb_0_4, nb_0_5, nb_0_6, nb_1_0, nb_1_1, nb_1_2, nb_1_3, nb_1_4, nb_1_5, nb_1_6, nb_2_1, nb_2_2, nb_2_3, nb_2_4, nb_2_5, nb_2_6, nb_3_0, nb_3_2, nb_3_3, nb_3_4, nb_3_5, nb_3_6, nb_4_0, nb_4_1, nb_4_3, nb_4_4, nb_4_5, nb_4_6, nb_5_0, nb_5_1, nb_5_2, nb_5_4, nb_5_5, nb_5_6, nb_6_0, nb_6_1, nb_6_2, nb_6_3, nb_6_4, nb_6_5, nb_6_6, nb_7_0, nb_7_1, nb_7_2, nb_7_3, nb_7_5, nb_7_6, nb_8_0, nb_8_1, nb_8_2, nb_8_3, nb_8_4, nb_8_6, nb_9_0, nb_9_1, nb_9_2, nb_9_3, nb_9_4, nb_9_5, nb_10_0, nb_10_1, nb_10_2, nb_10_3, nb_10_4, nb_10_5, nb_10_6, nb_11_0, nb_11_1, nb_11_2, nb_11_3, nb_11_4, nb_11_5, nb_11_6, nb_12_0, nb_12_1, nb_12_2, nb_12_3, nb_12_4, nb_12_5, nb_12_6, nb_13_0, nb_13_1, nb_13_2, nb_13_3, nb_13_4, nb_13_5, nb_13_6, nb_14_0, nb_14_1, nb_14_2, nb_14_3, nb_14_4, nb_14_5, nb_14_6]; first | done | exact rfl))
local macro_rules | `(tactic| wtm_at "ln") => `(tactic| first | (with_reducible exact lk_nil) | (simp only [lk_skip, lk_nil, nb_0_0, nb_0_1, nb_0_2, nb_0_3, nb_0_4, nb_0_5, nb_0_6, nb_1_0, nb_1_1, nb_1_2, nb_1_3, nb_1_4, nb_1_5, nb_1_6, nb_2_1, nb_2_2, nb_2_3, nb_2_4, nb_2_5, nb_2_6, nb_3_0, nb_3_2, nb_3_3, nb_3_4, nb_3_5, nb_3_6, nb_4_0, nb_4_1, nb_4_3, nb_4_4, nb_4_5, nb_4_6, nb_5_0, nb_5_1, nb_5_2, nb_5_4, nb_5_5, nb_5_6, nb_6_0, nb_6_1, nb_6_2, nb_6_3, nb_6_4, nb_6_5, nb_6_6, nb_7_0, nb_7_1, nb_7_2, nb_7_3, nb_7_5, nb_7_6, nb_8_0, nb_8_1, nb_8_2, nb_8_3, nb_8_4, nb_8_6, nb_9_0, nb_9_1, nb_9_2, nb_9_3, nb_9_4, nb_9_5, nb_10_0, nb_10_1, nb_10_2, nb_10_3, nb_10_4, nb_10_5, nb_10_6, nb_11_0, nb_11_1, nb_11_2, nb_11_3, nb_11_4, nb_11_5, nb_11_6, nb_12_0, nb_12_1, nb_12_2, nb_12_3, nb_12_4, nb_12_5, nb_12_6, nb_13_0, nb_13_1, nb_13_2, nb_13_3, nb_13_4, nb_13_5, nb_13_6, nb_14_0, nb_14_1, nb_14_2, nb_14_3, nb_14_4, nb_14_5, nb_14_6]; done))
local macro_rules | `(tactic| wtm_at "pu") => `(tactic| first | (with_reducible exact pf_nil) | (simp only [pf_nil, pf_here, pf_skip, nb_0_0, nb_0_1, nb_0_2, nb_0_3, nb_0_4, nb_0_5, nb_0_6, nb_1_0, nb_1_1, nb_1_2, nb_1_3, nb_1_4, nb_1_5, nb_1_6, nb_2_1, nb_2_2, nb_2_3, nb_2_4, nb_2_5, nb_2_6, nb_3_0, nb_3_2, nb_3_3, nb_3_4, nb_3_5, nb_3_6, nb_4_0, nb_4_1, nb_4_3, nb_4_4, nb_4_5, nb_4_6, nb_5_0, nb_5_1, nb_5_2, nb_5_4, nb_5_5, nb_5_6, nb_6_0, nb_6_1, nb_6_2, nb_6_3, nb_6_4, nb_6_5, nb_6_6, nb_7_0, nb_7_1, nb_7_2, nb_7_3, nb_7_5, nb_7_6, nb_8_0, nb_8_1, nb_8_2, nb_8_3, nb_8_4, nb_8_6, nb_9_0, nb_9_1, nb_9_2, nb_9_3, nb_9_4, nb_9_5, nb_10_0, nb_10_1, nb_10_2, nb_10_3, nb_10_4, nb_10_5, nb_10_6, nb_11_0, nb_11_1, nb_11_2, nb_11_3, nb_11_4, nb_11_5, nb_11_6, nb_12_0, nb_12_1, nb_12_2, nb_12_3, nb_12_4, nb_12_5, nb_12_6, nb_13_0, nb_13_1, nb_13_2, nb_13_3, nb_13_4, nb_13_5, nb_13_6, nb_14_0, nb_14_1, nb_14_2, nb_14_3, nb_14_4, nb_14_5, nb_14_6]; first | done | exact rfl))
local macro_rules | `(tactic| wtm_at "tk") => `(tactic| first | (with_reducible exact Take.here) | (exact Take.here) | ((with_reducible apply Take.there); wtm_at "tk"))
local macro_rules | `(tactic| wtm_at "pk") => `(tactic| first | exact Pick.nil | ((with_reducible refine' Pick.cons ?tk1 ?pk1); (case tk1 => wtm_at "tk"); (case pk1 => wtm_at "pk")) | ((with_reducible refine Pick.im (by wtm_at "mem") ?_); wtm_at "pk") | ((with_reducible refine Pick.ims (by wtm_at "mem") ?_); wtm_at "pk"))
section
variable {P : Program} {w : World} {K : PySem.W.Frag} {mg : Str → Option Value} {base : Heap}
/-! ### weights of code lengths -/
def wt (l : Int) : Int := if l = 0 then 0 else 32768 / 2 ^ l.toNat
structure okLen (ls : List Int) : Prop where
  lo : ∀ l ∈ ls, 0 ≤ l
  hi : ∀ l ∈ ls, l ≤ 15
  len : ls.length ≤ 400
def wts (ls : List Int) : Int := (ls.map wt).sum
def sp__weight_of (K : PySem.W.Frag) : Sp := fun vs H Q _ => ∃ (l : Int), vs = [.int l] ∧ 0 ≤ l ∧ Q (.int (wt l)) H
theorem ok__weight_of (T : Tx K mg) : Cl P w K mg base 1 "_weight_of" ["length"] (sp__weight_of K) [] := by
  obtain ⟨gm, fd, F⟩ := T.d__weight_of
  refine ⟨_, fd, [], F.ok sc__weight_of (fun vs H Q E h => ?_) (fun cdv A outer s H vs Q E hr h => ⟨_, (PSs.nox (pss_cons (ps_if (pt_cmpR op_eq (pv 0) pe_int (nomark _))
 (pss_one (ps_ret (by exact pe_int)))
 pss_nil)
 (pss_one (ps_ret (by exact (pe_op op_shr (pe_gc rfl T.c_FULL_WEIGHT) (pv 0))))))), ?_⟩), gm, F.kp, F.bindsN (fun _ _ _ _ _ _ us hl => match us, hl with | [_], _ => rfl), .nil⟩
  · first | (obtain ⟨rfl, _⟩ := h; rfl) | (obtain ⟨_, rfl, _⟩ := h; rfl) | (obtain ⟨_, _, rfl, _⟩ := h; rfl) | (obtain ⟨_, _, _, rfl, _⟩ := h; rfl) | (obtain ⟨_, _, _, _, rfl, _⟩ := h; rfl) | (obtain ⟨_, _, _, _, _, rfl, _⟩ := h; rfl) | (obtain ⟨_, _, _, _, _, _, rfl, _⟩ := h; rfl) | (obtain ⟨_, _, _, _, _, _, _, rfl, _⟩ := h; rfl) | (obtain ⟨_, _, _, _, _, _, _, _, rfl, _⟩ := h; rfl) | (obtain ⟨_, _, _, _, _, _, _, _, _, rfl, _⟩ := h; rfl) | (obtain ⟨_, _, _, _, _, _, _, _, _, _, rfl, _⟩ := h; rfl) | (obtain ⟨_, _, _, _, _, _, _, _, _, _, _, rfl, _⟩ := h; rfl) | (obtain ⟨_, _, _, _, _, _, _, _, _, _, _, _, rfl, _⟩ := h; rfl) | (obtain ⟨_, _, _, _, _, _, _, _, _, _, _, _, _, rfl, _⟩ := h; rfl) | (obtain ⟨_, _, _, _, _, _, _, _, _, _, _, _, _, _, rfl, _⟩ := h; rfl) | (obtain ⟨_, _, _, _, _, _, _, _, _, _, _, _, _, _, _, rfl, _⟩ := h; rfl) | (obtain ⟨_, _, _, _, _, _, _, _, _, _, _, _, _, _, _, _, rfl, _⟩ := h; rfl) | (obtain ⟨_, _, _, _, _, _, _, _, _, _, _, _, _, _, _, _, _, rfl, _⟩ := h; rfl) | (obtain ⟨_, _, _, _, _, _, _, _, _, _, _, _, _, _, _, _, _, _, rfl, _⟩ := h; rfl) | (obtain ⟨_, _, _, _, _, _, _, _, _, _, _, _, _, _, _, _, _, _, _, rfl, _⟩ := h; rfl) | (obtain ⟨_, _, _, _, _, _, _, _, _, _, _, _, _, _, _, _, _, _, _, _, rfl, _⟩ := h; rfl) | (obtain ⟨_, _, _, _, _, _, _, _, _, _, _, _, _, _, _, _, _, _, _, _, _, rfl, _⟩ := h; rfl)
  · obtain ⟨l, rfl, h0, q⟩ := h
    k_call_by "xs" st__weight_of
    unfold wt at q
    refine sel_d (fun c => ?_) (fun c => ?_)
    · rw [if_pos c] at q
      wtm_at "go"
      exact q
    · rw [if_neg c] at q
      wtm_at "go"
      exact q


end
end K11

namespace K11
open PySem PySem.Spec PyProof.Rows L2 Bel
local macro_rules | `(tactic| wtm_at "xs") => `(tactic| simp only [x_next, x_seq, x_brk, x_cont, x_drop, x_ret, x_retN, x_if, sel_t, sel_f, selE_t, selE_f, selT_t, selT_f, selC_t, selC_f, x_test, x_tB, x_op, x_un, x_var, x_c, x_cb, x_nil, x_cons, x_rI, x_rI0, x_rU, x_rEq, x_rNe, x_rIxL, x_rIxT, x_rSlL, x_rCat, x_rRep, x_rApp, x_bm, x_bm0, x_sl, x_nopart, x_part, x_tup, x_lst, x_call, x_callS, x_asg, x_gname, x_gtup, x_gnil, x_gcons, x_gsub, x_setL, x_aug, x_ipI, x_ipC, x_bits, x_getL, x_augS, x_and, x_or, x_not, x_k, x_andV, x_orV, x_notV, x_ife, x_chain, x_for, x_ilist, x_itup, x_ienum, x_irng1, x_irng2, x_irev, x_lc, x_yes, wipe_nil, wipe_cons, List.map_cons, List.map_nil, x_misc, x_misc2, x_rz, lookup_at, Bool.not_true, Bool.not_false, decide_true, decide_false, not_true, not_false_eq_true, and_assoc, exists_and_left, exists_eq_left', exists_eq_left, exists_eq', exists_eq_right', exists_eq_right, V.int.injEq, V.ref.injEq, V.bl.injEq, V.str.injEq, List.cons.injEq, and_true, true_and, and_self, Option.some.injEq, List.cons_append, List.nil_append, List.append_nil, List.getElem?_cons_zero, List.getElem?_cons_succ, List.set_cons_zero, List.set_cons_succ, reduceCtorEq, false_and, and_false, exists_false, exists_const, or_false, false_or, scal_ii, scal_bb, scal_ss, List.length_cons, List.length_nil, Int.reduceToNat, Int.reducePow])
local macro_rules | `(tactic| k_call_by "xs" $h:term) => `(tactic| simp only [$h:term, x_next, x_seq, x_brk, x_cont, x_drop, x_ret, x_retN, x_if, sel_t, sel_f, selE_t, selE_f, selT_t, selT_f, selC_t, selC_f, x_test, x_tB, x_op, x_un, x_var, x_c, x_cb, x_nil, x_cons, x_rI, x_rI0, x_rU, x_rEq, x_rNe, x_rIxL, x_rIxT, x_rSlL, x_rCat, x_rRep, x_rApp, x_bm, x_bm0, x_sl, x_nopart, x_part, x_tup, x_lst, x_call, x_callS, x_asg, x_gname, x_gtup, x_gnil, x_gcons, x_gsub, x_setL, x_aug, x_ipI, x_ipC, x_bits, x_getL, x_augS, x_and, x_or, x_not, x_k, x_andV, x_orV, x_notV, x_ife, x_chain, x_for, x_ilist, x_itup, x_ienum, x_irng1, x_irng2, x_irev, x_lc, x_yes, wipe_nil, wipe_cons, List.map_cons, List.map_nil, x_misc, x_misc2, x_rz, lookup_at, Bool.not_true, Bool.not_false, decide_true, decide_false, not_true, not_false_eq_true, and_assoc, exists_and_left, exists_eq_left', exists_eq_left, exists_eq', exists_eq_right', exists_eq_right, V.int.injEq, V.ref.injEq, V.bl.injEq, V.str.injEq, List.cons.injEq, and_true, true_and, and_self, Option.some.injEq, List.cons_append, List.nil_append, List.append_nil, List.getElem?_cons_zero, List.getElem?_cons_succ, List.set_cons_zero, List.set_cons_succ, reduceCtorEq, false_and, and_false, exists_false, exists_const, or_false, false_or, scal_ii, scal_bb, scal_ss, List.length_cons, List.length_nil, Int.reduceToNat, Int.reducePow])
local macro_rules | `(tactic| wtm_at "hp") => `(tactic| first | (with_reducible assumption) | exact upd_same | (refine upd_keep (by with_reducible assumption) ?_; wtm_at "hp") | (refine Same.get (by with_reducible assumption) ?_; wtm_at "hp") | (refine upd_other (by first | (with_reducible assumption) | exact Ne.symm (by with_reducible assumption)) ?_; wtm_at "hp"))
local macro_rules | `(tactic| wtm_at "sq") => `(tactic| first | (with_reducible assumption) | exact SqL.of (by wtm_at "hp") | exact SqT.of (by wtm_at "hp") | (refine Same.seq (same_upd (by with_reducible assumption)) ?_; wtm_at "sq") | (refine Same.seq (by with_reducible assumption) ?_; wtm_at "sq") | (refine Same.seqT (same_upd (by with_reducible assumption)) ?_; wtm_at "sq") | (refine Same.seqT (by with_reducible assumption) ?_; wtm_at "sq"))
local macro_rules | `(tactic| wtm_at "cl") => `(tactic| first | (with_reducible assumption) | omega | (exact cmul_r (by omega) (by omega)) | (exact cmul_l (by omega) (by omega)) | (exact cdiv_ok (by omega) (by omega)) | (exact cpow_ok (by decide)) | (exact ⟨by omega, by omega, by omega⟩) | decide | (exact ⟨by omega, by omega⟩) | (simp only [List.length_append, List.length_map, List.length_cons, List.length_nil, rngL_len, sizeLine_eq]; omega) | wtm_at "hp" | wtm_at "sq")
local macro_rules | `(tactic| wtm_at "pf") => `(tactic| first | (with_reducible assumption) | omega | (simp only [List.length_append, List.length_map, List.length_cons, List.length_nil, rngL_len]; omega) | (with_reducible rfl) | (with_reducible trivial) | (with_reducible decide))
local macro_rules | `(tactic| wtm_at "st") => `(tactic| first | ((with_reducible refine g_at ?_); refine at_call (by wtm_at "sq") (by omega) (by omega) (fun _ _ => ?_)) | ((with_reducible refine g_row ?_); refine row_call (by wtm_at "hp") ?_) | ((with_reducible refine g_int ?_); refine int_call ?_) | ((with_reducible refine g_isi ?_); first | (refine isi_int rfl ?_) | (refine isi_lst rfl (by wtm_at "hp") ?_) | (refine isi_tup rfl (by wtm_at "hp") ?_)) | ((with_reducible refine g_ned ?_); refine ned_f (dq_lst (by wtm_at "sq")) (dq_lst (by wtm_at "sq")) ?_) | ((with_reducible refine g_eqd ?_); refine eqd_t (dq_lst (by wtm_at "sq")) (dq_lst (by wtm_at "sq")) ?_) | ((with_reducible refine g_tyv ?_); refine and_tyv (by wtm_at "sq") ?_) | ((with_reducible refine g_asq ?_); refine and_sq (by wtm_at "sq") ?_) | ((with_reducible refine g_lst ?_); refine ex_lst (by wtm_at "hp") ?_) | ((with_reducible refine g_or ?_); first | (refine ex_or (by wtm_at "sq") ?_) | (refine ex_ort (by wtm_at "sq") ?_)) | ((with_reducible refine g_sq ?_); refine ex_sq (by wtm_at "sq") ?_) | ((with_reducible refine g_sqt ?_); refine ex_sqt (by wtm_at "sq") ?_) | ((with_reducible refine gd_sel ?_); first | (refine sel_p (by wtm_at "pf") ?_) | (refine sel_n (by wtm_at "pf") ?_)) | ((with_reducible refine gn_sel ?_); first | (refine selN_p (by wtm_at "pf") ?_) | (refine selN_n (by wtm_at "pf") ?_)) | ((with_reducible refine gd_selT ?_); first | (refine selT_p (by wtm_at "pf") ?_) | (refine selT_n (by wtm_at "pf") ?_)) | ((with_reducible refine gn_selT ?_); first | (refine selTN_p (by wtm_at "pf") ?_) | (refine selTN_n (by wtm_at "pf") ?_)) | ((with_reducible refine gd_selE ?_); first | (refine selE_p (by wtm_at "pf") ?_) | (refine selE_n (by wtm_at "pf") ?_)) | ((with_reducible refine gn_selE ?_); first | (refine selEN_p (by wtm_at "pf") ?_) | (refine selEN_n (by wtm_at "pf") ?_)) | ((with_reducible refine g_xf ?_); refine xf_at rfl (by wtm_at "hp") ?_) | ((with_reducible refine g_atI ?_); refine ex_at (by first | exact rfl | exact atI_int (by omega) (by wtm_at "pf")) ?_) | ((with_reducible refine g_and ?_); refine And.intro (by wtm_at "cl") ?_) | ((with_reducible refine g_new ?_); intro _ _))
local macro_rules | `(tactic| wtm_at "go") => `(tactic| repeat (first | wtm_at "xs" | wtm_at "st"))
local macro_rules | `(tactic| wtm_at "xo") => `(tactic| simp only [x_next, x_seq, x_brk, x_cont, x_drop, x_ret, x_retN, x_if, sel_t, sel_f, selE_t, selE_f, selT_t, selT_f, selC_t, selC_f, x_test, x_tB, x_op, x_un, x_var, x_c, x_cb, x_nil, x_cons, x_rI, x_rI0, x_rU, x_rEq, x_rNe, x_rIxL, x_rIxT, n_rSlL, n_rCat, n_rRep, n_rApp, x_bm, x_bm0, x_sl, x_nopart, x_part, n_tup, n_lst, x_call, x_callS, x_asg, x_gname, x_gtup, x_gnil, x_gcons, x_gsub, n_setL, x_aug, x_ipI, x_ipC, x_bits, x_getL, x_augS, x_and, x_or, x_not, x_k, x_andV, x_orV, x_notV, x_ife, x_chain, x_for, x_ilist, x_itup, x_ienum, x_irng1, x_irng2, x_irev, x_lc, x_yes, wipe_nil, wipe_cons, List.map_cons, List.map_nil, x_misc, x_misc2, x_rz, lookup_at, Bool.not_true, Bool.not_false, decide_true, decide_false, not_true, not_false_eq_true, and_assoc, exists_and_left, exists_eq_left', exists_eq_left, exists_eq', exists_eq_right', exists_eq_right, V.int.injEq, V.ref.injEq, V.bl.injEq, V.str.injEq, List.cons.injEq, and_true, true_and, and_self, Option.some.injEq, List.cons_append, List.nil_append, List.append_nil, List.getElem?_cons_zero, List.getElem?_cons_succ, List.set_cons_zero, List.set_cons_succ, reduceCtorEq, false_and, and_false, exists_false, exists_const, or_false, false_or, scal_ii, scal_bb, scal_ss, List.length_cons, List.length_nil, Int.reduceToNat, Int.reducePow, n_fld, n_dnew, n_dput, n_din, n_dget, n_dget2, n_glst, n_sfld, n_aug, n_meth, n_mw, n_make, n_kw, n_rLs, t_s1, t_i1, t_i2, t_i3, t_i4, t_i5, x_chain3, x_irng3, x_irevR, x_rg1, x_rg2, ints_cat, ints_app1, ints_len, ints_take, ints_drop, rep_one])
local macro_rules | `(tactic| k_call_by "xo" $h:term) => `(tactic| simp only [$h:term, x_next, x_seq, x_brk, x_cont, x_drop, x_ret, x_retN, x_if, sel_t, sel_f, selE_t, selE_f, selT_t, selT_f, selC_t, selC_f, x_test, x_tB, x_op, x_un, x_var, x_c, x_cb, x_nil, x_cons, x_rI, x_rI0, x_rU, x_rEq, x_rNe, x_rIxL, x_rIxT, n_rSlL, n_rCat, n_rRep, n_rApp, x_bm, x_bm0, x_sl, x_nopart, x_part, n_tup, n_lst, x_call, x_callS, x_asg, x_gname, x_gtup, x_gnil, x_gcons, x_gsub, n_setL, x_aug, x_ipI, x_ipC, x_bits, x_getL, x_augS, x_and, x_or, x_not, x_k, x_andV, x_orV, x_notV, x_ife, x_chain, x_for, x_ilist, x_itup, x_ienum, x_irng1, x_irng2, x_irev, x_lc, x_yes, wipe_nil, wipe_cons, List.map_cons, List.map_nil, x_misc, x_misc2, x_rz, lookup_at, Bool.not_true, Bool.not_false, decide_true, decide_false, not_true, not_false_eq_true, and_assoc, exists_and_left, exists_eq_left', exists_eq_left, exists_eq', exists_eq_right', exists_eq_right, V.int.injEq, V.ref.injEq, V.bl.injEq, V.str.injEq, List.cons.injEq, and_true, true_and, and_self, Option.some.injEq, List.cons_append, List.nil_append, List.append_nil, List.getElem?_cons_zero, List.getElem?_cons_succ, List.set_cons_zero, List.set_cons_succ, reduceCtorEq, false_and, and_false, exists_false, exists_const, or_false, false_or, scal_ii, scal_bb, scal_ss, List.length_cons, List.length_nil, Int.reduceToNat, Int.reducePow, n_fld, n_dnew, n_dput, n_din, n_dget, n_dget2, n_glst, n_sfld, n_aug, n_meth, n_mw, n_make, n_kw, n_rLs, t_s1, t_i1, t_i2, t_i3, t_i4, t_i5, x_chain3, x_irng3, x_irevR, x_rg1, x_rg2, ints_cat, ints_app1, ints_len, ints_take, ints_drop, rep_one])
local macro_rules | `(tactic| wtm_at "mem") => `(tactic| first | (with_reducible exact mem_here) | (with_reducible refine mem_there ?_; wtm_at "mem"))
local macro_rules | `(tactic| wtm_at "pp") => `(tactic| first | (with_reducible exact Put.here) | (with_reducible apply Put.there; wtm_at "pp"))
local macro_rules | `(tactic| wtm_at "ho") => `(tactic| first | (with_reducible assumption) | exact Own.get (by with_reducible assumption) (by wtm_at "mem") | exact Own.base (by with_reducible assumption) (by with_reducible assumption))
local macro_rules | `(tactic| wtm_at "qo") => `(tactic| first | (with_reducible assumption) | exact SqL.of (by wtm_at "ho") | exact sqT_tupI (by wtm_at "ho") | exact sqT_tupS (by wtm_at "ho") | exact SqT.of (by wtm_at "ho") | exact Own.imT (by with_reducible assumption) (by wtm_at "mem") | exact Own.sq (by with_reducible assumption) (by with_reducible assumption) | exact Own.sqT (by with_reducible assumption) (by with_reducible assumption))
local macro_rules | `(tactic| wtm_at "sub") => `(tactic| first | exact List.nil_sublist _ | (with_reducible refine List.Sublist.cons_cons _ ?_; wtm_at "sub") | (refine List.Sublist.cons _ ?_; wtm_at "sub"))
local macro_rules | `(tactic| wtm_at "co") => `(tactic| first | (with_reducible assumption) | omega | (exact cmul_r (by omega) (by omega)) | (exact cmul_l (by omega) (by omega)) | (exact cdiv_ok (by omega) (by omega)) | (exact cpow_ok (by decide)) | (exact ⟨by omega, by omega, by omega⟩) | decide | (exact ⟨by omega, by omega⟩) | (simp only [List.length_append, List.length_map, List.length_cons, List.length_nil, rngL_len, sizeLine_eq]; omega) | wtm_at "ho" | wtm_at "qo")
local macro_rules | `(tactic| wtm_at "so") => `(tactic| first | ((with_reducible refine g_dputO ?_); refine dputI (by with_reducible assumption) (by wtm_at "pp") (by wtm_at "co") (fun _ _ => ?_)) | ((with_reducible refine g_dinO ?_); refine dinI (by wtm_at "ho") ?_) | ((with_reducible refine g_isDO ?_); refine isDO (by wtm_at "ho") ?_) | ((with_reducible refine g_dg2 ?_); refine dg2I (by wtm_at "ho") ?_) | ((with_reducible refine g_fldO ?_); refine fldO (by wtm_at "ho") (by with_reducible assumption) (by wtm_at "mem") (by wtm_at "lk") ?_) | ((with_reducible refine g_fldC ?_); refine fldC (by wtm_at "ho") (by with_reducible assumption) (by wtm_at "mem") (by wtm_at "lk") ?_) | ((with_reducible refine g_putC ?_); refine putC (by with_reducible assumption) (by wtm_at "pp") (by wtm_at "pu") (by wtm_at "co") (fun _ _ => ?_)) | ((with_reducible refine g_stoO ?_); refine stoO (by with_reducible assumption) (by wtm_at "pp") (by wtm_at "pu") (by with_reducible assumption) (by wtm_at "mem") (by wtm_at "co") (fun _ _ => ?_)) | ((with_reducible refine g_metO ?_); refine metO (by wtm_at "ho") (by wtm_at "ln") ?_) | ((with_reducible refine g_makO ?_); refine makO (by with_reducible assumption) (fun _ _ _ _ => ?_)) | ((with_reducible refine g_sum ?_); refine sum_call (by wtm_at "qo") ?_) | ((with_reducible refine g_cq ?_); exact cq (by with_reducible assumption) (by simp only [rngL_len, List.length_map, List.length_take]; omega)) | ((with_reducible refine g_newO ?_); refine newO (by with_reducible assumption) (fun _ _ _ => ?_)) | ((with_reducible refine g_appO ?_); refine appI (by with_reducible assumption) (by wtm_at "pp") (by wtm_at "co") (fun _ _ => ?_)) | ((with_reducible refine g_setO ?_); refine setI (by with_reducible assumption) (by wtm_at "pp") (by omega) (by wtm_at "co") (fun _ _ => ?_)) | ((with_reducible refine g_appO ?_); refine appO (by with_reducible assumption) (by wtm_at "pp") (by wtm_at "co") (fun _ _ => ?_)) | ((with_reducible refine g_setO ?_); refine setO (by with_reducible assumption) (by wtm_at "pp") (by omega) (by wtm_at "co") (fun _ _ => ?_)) | ((with_reducible refine g_at ?_); refine at_call (by wtm_at "qo") (by omega) (by omega) (fun _ _ => ?_)) | ((with_reducible refine g_row ?_); refine row_call (by wtm_at "ho") ?_) | ((with_reducible refine g_int ?_); refine int_call ?_) | ((with_reducible refine g_isi ?_); first | (refine isi_int rfl ?_) | (refine isi_sqL rfl (by wtm_at "qo") ?_) | (refine isi_sqT rfl (by wtm_at "qo") ?_) | (refine isi_bl rfl ?_) | (refine isi_non rfl ?_) | (refine isi_str rfl ?_)) | ((with_reducible refine g_ned ?_); first | (refine ned_f (dq_lst (by wtm_at "qo")) (dq_lst (by wtm_at "qo")) ?_) | (refine ned_ints (by wtm_at "qo") (by wtm_at "qo") ?_) | (refine nedT_ints (by wtm_at "qo") (by wtm_at "qo") ?_)) | ((with_reducible refine g_eqd ?_); first | (refine eqd_t (dq_lst (by wtm_at "qo")) (dq_lst (by wtm_at "qo")) ?_) | (refine eqd_ints (by wtm_at "qo") (by wtm_at "qo") ?_) | (refine eqdT_ints (by wtm_at "qo") (by wtm_at "qo") ?_)) | ((with_reducible refine g_tyv ?_); refine and_tyv (by wtm_at "qo") ?_) | ((with_reducible refine g_asq ?_); refine and_sq (by wtm_at "qo") ?_) | ((with_reducible refine g_lst ?_); refine ex_lst (by wtm_at "ho") ?_) | ((with_reducible refine g_or ?_); first | (refine ex_or (by wtm_at "qo") ?_) | (refine ex_ort (by wtm_at "qo") ?_)) | ((with_reducible refine g_sq ?_); refine ex_sq (by wtm_at "qo") ?_) | ((with_reducible refine g_sqt ?_); refine ex_sqt (by wtm_at "qo") ?_) | ((with_reducible refine gd_sel ?_); first | (refine sel_p (by wtm_at "pf") ?_) | (refine sel_n (by wtm_at "pf") ?_)) | ((with_reducible refine gn_sel ?_); first | (refine selN_p (by wtm_at "pf") ?_) | (refine selN_n (by wtm_at "pf") ?_)) | ((with_reducible refine gd_selT ?_); first | (refine selT_p (by wtm_at "pf") ?_) | (refine selT_n (by wtm_at "pf") ?_)) | ((with_reducible refine gn_selT ?_); first | (refine selTN_p (by wtm_at "pf") ?_) | (refine selTN_n (by wtm_at "pf") ?_)) | ((with_reducible refine gd_selE ?_); first | (refine selE_p (by wtm_at "pf") ?_) | (refine selE_n (by wtm_at "pf") ?_)) | ((with_reducible refine gn_selE ?_); first | (refine selEN_p (by wtm_at "pf") ?_) | (refine selEN_n (by wtm_at "pf") ?_)) | ((with_reducible refine g_xf ?_); refine xf_at rfl (by wtm_at "ho") ?_) | ((with_reducible refine g_atI ?_); refine ex_at (by first | exact rfl | exact atI_int (by omega) (by wtm_at "pf")) ?_) | ((with_reducible refine g_and ?_); refine And.intro (by wtm_at "co") ?_))
local macro_rules | `(tactic| wtm_at "oo") => `(tactic| repeat (first | wtm_at "xo" | wtm_at "so"))
local macro_rules | `(tactic| wtm_at "cR") => `(tactic| (refine' compRi _ (by with_reducible assumption) (by omega) (fun _ _ _ _ _ => ?_) (fun _ _ _ => ?_); rotate_left; focus (wtm_at "oo")))

local macro_rules | `(tactic| wtm_at "lk") => `(tactic| first | (with_reducible exact lk_here) | (simp only [lk_here, lk_skip, lk_nil, nb_0_0, nb_0_1, nb_0_2, nb_0_3, nb_0_4, nb_0_5, nb_0_6, nb_1_0, nb_1_1, nb_1_2, nb_1_3, nb_1_4, nb_1_5, nb_1_6, nb_2_1, nb_2_2, nb_2_3, nb_2_4, nb_2_5, nb_2_6, nb_3_0, nb_3_2, nb_3_3, nb_3_4, nb_3_5, nb_3_6, nb_4_0, nb_4_1, nb_4_3, nb_4_4, nb_4_5, nb_4_6, nb_5_0, nb_5_1, nb_5_2, nb_5_4, nb_5_5, nb_5_6, nb_6_0, nb_6_1, nb_6_2, nb_6_3, nb_6_4, nb_6_5, nb_6_6, nb_7_0, nb_7_1, nb_7_2, nb_7_3, nb_7_5, nb_7_6, nb_8_0, nb_8_1, nb_8_2, nb_8_3, nb_8_4, nb_8_6, nb_9_0, nb_9_1, nb_9_2, nb_9_3, nb_9_4, nb_9_5, nb_10_0, nb_10_1, nb_10_2, nb_10_3, nb_10_4, nb_10_5, nb_10_6, nb_11_0, nb_11_1, nb_11_2, nb_11_3, nb_11_4, nb_11_5, nb_11_6, nb_12_0, nb_12_1, nb_12_2, nb_12_3, nb_12_4, nb_12_5, nb_12_6, nb_13_0, nb_13_1, nb_13_2, nb_13_3, nb_13_4, nb_13_5, nb_13_6, nb_14_0, nb_14_1, nb_14_2, nb_14_3, nb_14_4, nb_14_5, nb_14_6]; first | done | exact rfl))
local macro_rules | `(tactic| wtm_at "ln") => `(tactic| first | (with_reducible exact lk_nil) | (simp only [lk_skip, lk_nil, nb_0_0, nb_0_1, nb_0_2, nb_0_3, nb_0_4, nb_0_5, nb_0_6, nb_1_0, nb_1_1, nb_1_2, nb_1_3, nb_1_4, nb_1_5, nb_1_6, nb_2_1, nb_2_2, nb_2_3, nb_2_4, nb_2_5, nb_2_6, nb_3_0, nb_3_2, nb_3_3, nb_3_4, nb_3_5, nb_3_6, nb_4_0, nb_4_1, nb_4_3, nb_4_4, nb_4_5, nb_4_6, nb_5_0, nb_5_1, nb_5_2, nb_5_4, nb_5_5, nb_5_6, nb_6_0, nb_6_1, nb_6_2, nb_6_3, nb_6_4, nb_6_5, nb_6_6, nb_7_0, nb_7_1, nb_7_2, nb_7_3, nb_7_5, nb_7_6, nb_8_0, nb_8_1, nb_8_2, nb_8_3, nb_8_4, nb_8_6, nb_9_0, nb_9_1, nb_9_2, nb_9_3, nb_9_4, nb_9_5, nb_10_0, nb_10_1, nb_10_2, nb_10_3, nb_10_4, nb_10_5, nb_10_6, nb_11_0, nb_11_1, nb_11_2, nb_11_3, nb_11_4, nb_11_5, nb_11_6, nb_12_0, nb_12_1, nb_12_2, nb_12_3, nb_12_4, nb_12_5, nb_12_6, nb_13_0, nb_13_1, nb_13_2, nb_13_3, nb_13_4, nb_13_5, nb_13_6, nb_14_0, nb_14_1, nb_14_2, nb_14_3, nb_14_4, nb_14_5, nb_14_6]; done))
local macro_rules | `(tactic| wtm_at "pu") => `(tactic| first | (with_reducible exact pf_nil) | (simp only [pf_nil, pf_here, pf_skip, nb_0_0, nb_0_1, nb_0_2, nb_0_3, nb_0_4, nb_0_5, nb_0_6, nb_1_0, nb_1_1, nb_1_2, nb_1_3, nb_1_4, nb_1_5, nb_1_6, nb_2_1, nb_2_2, nb_2_3, nb_2_4, nb_2_5, nb_2_6, nb_3_0, nb_3_2, nb_3_3, nb_3_4, nb_3_5, nb_3_6, nb_4_0, nb_4_1, nb_4_3, nb_4_4, nb_4_5, nb_4_6, nb_5_0, nb_5_1, nb_5_2, nb_5_4, nb_5_5, nb_5_6, nb_6_0, nb_6_1, nb_6_2, nb_6_3, nb_6_4, nb_6_5, nb_6_6, nb_7_0, nb_7_1, nb_7_2, nb_7_3, nb_7_5, nb_7_6, nb_8_0, nb_8_1, nb_8_2, nb_8_3, nb_8_4, nb_8_6, nb_9_0, nb_9_1, nb_9_2, nb_9_3, nb_9_4, nb_9_5, nb_10_0, nb_10_1, nb_10_2, nb_10_3, nb_10_4, nb_10_5, nb_10_6, nb_11_0, nb_11_1, nb_11_2, nb_11_3, nb_11_4, nb_11_5, nb_11_6, nb_12_0, nb_12_1, nb_12_2, nb_12_3, nb_12_4, nb_12_5, nb_12_6, nb_13_0, nb_13_1, nb_13_2, nb_13_3, nb_13_4, nb_13_5, nb_13_6, nb_14_0, nb_14_1, nb_14_2, nb_14_3, nb_14_4, nb_14_5, nb_14_6]; first | done | exact rfl))
local macro_rules | `(tactic| wtm_at "tk") => `(tactic| first | (with_reducible exact Take.here) | (exact Take.here) | ((with_reducible apply Take.there); wtm_at "tk"))
local macro_rules | `(tactic| wtm_at "pk") => `(tactic| first | exact Pick.nil | ((with_reducible refine' Pick.cons ?tk1 ?pk1); (case tk1 => wtm_at "tk"); (case pk1 => wtm_at "pk")) | ((with_reducible refine Pick.im (by wtm_at "mem") ?_); wtm_at "pk") | ((with_reducible refine Pick.ims (by wtm_at "mem") ?_); wtm_at "pk"))
section
variable {P : Program} {w : World} {K : PySem.W.Frag} {mg : Str → Option Value} {base : Heap}
def sp_weight (K : PySem.W.Frag) : Sp := fun vs H Q _ => ∃ (a : Addr) (ls : List Int), vs = [.ref a] ∧ SqL K H a (ls.map V.int) ∧ okLen ls ∧ ∀ H', Same H H' → Q (.int (wts ls)) H'
theorem ok_weight (T : Tx K mg) : Cl P w K mg base 2 "weight" ["lengths"] (sp_weight K) [] := by
  obtain ⟨gm, fd, F⟩ := T.d_weight
  refine ⟨_, fd, [], F.ok sc_weight (fun vs H Q E h => ?_) (fun cdv A outer s H vs Q E hr h => ⟨_, (PSs.nox (pss_one (ps_ret (by exact (pe_callB (sumK K rfl) rfl T.b_sum (by decide +kernel) (pa_cons (pe_lc (own := [("length", 1)]) (g := (gName 1)) (tt := tYes) rfl sc_weight.nd (pi_list (pv 0)) (blkOk_by (own := [("length", 1)]) (N := N_weight) (sc := defScope s_weight) (by decide +kernel)) (fun _ _ _ _ _ => pg_name (i := 1) sc_weight.nd rfl (Or.inl rfl)) (fun _ _ _ _ _ => pts_nil) (fun _ _ _ _ _ => (pe_cl (ok__weight_of T) (hr.mono (by decide)) rfl (pa_cons (pv 1) pa_nil)))) pa_nil)))))), ?_⟩), gm, F.kp, F.bindsN (fun _ _ _ _ _ _ us hl => match us, hl with | [_], _ => rfl), .nil⟩
  · first | (obtain ⟨rfl, _⟩ := h; rfl) | (obtain ⟨_, rfl, _⟩ := h; rfl) | (obtain ⟨_, _, rfl, _⟩ := h; rfl) | (obtain ⟨_, _, _, rfl, _⟩ := h; rfl) | (obtain ⟨_, _, _, _, rfl, _⟩ := h; rfl) | (obtain ⟨_, _, _, _, _, rfl, _⟩ := h; rfl) | (obtain ⟨_, _, _, _, _, _, rfl, _⟩ := h; rfl) | (obtain ⟨_, _, _, _, _, _, _, rfl, _⟩ := h; rfl) | (obtain ⟨_, _, _, _, _, _, _, _, rfl, _⟩ := h; rfl) | (obtain ⟨_, _, _, _, _, _, _, _, _, rfl, _⟩ := h; rfl) | (obtain ⟨_, _, _, _, _, _, _, _, _, _, rfl, _⟩ := h; rfl) | (obtain ⟨_, _, _, _, _, _, _, _, _, _, _, rfl, _⟩ := h; rfl) | (obtain ⟨_, _, _, _, _, _, _, _, _, _, _, _, rfl, _⟩ := h; rfl) | (obtain ⟨_, _, _, _, _, _, _, _, _, _, _, _, _, rfl, _⟩ := h; rfl) | (obtain ⟨_, _, _, _, _, _, _, _, _, _, _, _, _, _, rfl, _⟩ := h; rfl) | (obtain ⟨_, _, _, _, _, _, _, _, _, _, _, _, _, _, _, rfl, _⟩ := h; rfl) | (obtain ⟨_, _, _, _, _, _, _, _, _, _, _, _, _, _, _, _, rfl, _⟩ := h; rfl) | (obtain ⟨_, _, _, _, _, _, _, _, _, _, _, _, _, _, _, _, _, rfl, _⟩ := h; rfl) | (obtain ⟨_, _, _, _, _, _, _, _, _, _, _, _, _, _, _, _, _, _, rfl, _⟩ := h; rfl) | (obtain ⟨_, _, _, _, _, _, _, _, _, _, _, _, _, _, _, _, _, _, _, rfl, _⟩ := h; rfl) | (obtain ⟨_, _, _, _, _, _, _, _, _, _, _, _, _, _, _, _, _, _, _, _, rfl, _⟩ := h; rfl) | (obtain ⟨_, _, _, _, _, _, _, _, _, _, _, _, _, _, _, _, _, _, _, _, _, rfl, _⟩ := h; rfl)
  · obtain ⟨a, ls, rfl, hS, hk, q⟩ := h
    k_call_by "xs" st_weight
    refine ⟨⟨_, hS⟩, fun D hD => ?_⟩
    refine comp_intY wt hS hD (fun i x hx => ?_) ?_
    · wtm_at "go"
      exact ⟨hk.lo x (List.mem_of_getElem? hx), cpi hx (by have := hk.len; omega) rfl⟩
    wtm_at "go"
    exact ⟨D, _, rfl, SqL.of upd_same, q _ (same_upd hD)⟩


end
end K11

namespace K11
open PySem PySem.Spec PyProof.Rows L2 Bel
local macro_rules | `(tactic| wtm_at "xs") => `(tactic| simp only [x_next, x_seq, x_brk, x_cont, x_drop, x_ret, x_retN, x_if, sel_t, sel_f, selE_t, selE_f, selT_t, selT_f, selC_t, selC_f, x_test, x_tB, x_op, x_un, x_var, x_c, x_cb, x_nil, x_cons, x_rI, x_rI0, x_rU, x_rEq, x_rNe, x_rIxL, x_rIxT, x_rSlL, x_rCat, x_rRep, x_rApp, x_bm, x_bm0, x_sl, x_nopart, x_part, x_tup, x_lst, x_call, x_callS, x_asg, x_gname, x_gtup, x_gnil, x_gcons, x_gsub, x_setL, x_aug, x_ipI, x_ipC, x_bits, x_getL, x_augS, x_and, x_or, x_not, x_k, x_andV, x_orV, x_notV, x_ife, x_chain, x_for, x_ilist, x_itup, x_ienum, x_irng1, x_irng2, x_irev, x_lc, x_yes, wipe_nil, wipe_cons, List.map_cons, List.map_nil, x_misc, x_misc2, x_rz, lookup_at, Bool.not_true, Bool.not_false, decide_true, decide_false, not_true, not_false_eq_true, and_assoc, exists_and_left, exists_eq_left', exists_eq_left, exists_eq', exists_eq_right', exists_eq_right, V.int.injEq, V.ref.injEq, V.bl.injEq, V.str.injEq, List.cons.injEq, and_true, true_and, and_self, Option.some.injEq, List.cons_append, List.nil_append, List.append_nil, List.getElem?_cons_zero, List.getElem?_cons_succ, List.set_cons_zero, List.set_cons_succ, reduceCtorEq, false_and, and_false, exists_false, exists_const, or_false, false_or, scal_ii, scal_bb, scal_ss, List.length_cons, List.length_nil, Int.reduceToNat, Int.reducePow])
local macro_rules | `(tactic| k_call_by "xs" $h:term) => `(tactic| simp only [$h:term, x_next, x_seq, x_brk, x_cont, x_drop, x_ret, x_retN, x_if, sel_t, sel_f, selE_t, selE_f, selT_t, selT_f, selC_t, selC_f, x_test, x_tB, x_op, x_un, x_var, x_c, x_cb, x_nil, x_cons, x_rI, x_rI0, x_rU, x_rEq, x_rNe, x_rIxL, x_rIxT, x_rSlL, x_rCat, x_rRep, x_rApp, x_bm, x_bm0, x_sl, x_nopart, x_part, x_tup, x_lst, x_call, x_callS, x_asg, x_gname, x_gtup, x_gnil, x_gcons, x_gsub, x_setL, x_aug, x_ipI, x_ipC, x_bits, x_getL, x_augS, x_and, x_or, x_not, x_k, x_andV, x_orV, x_notV, x_ife, x_chain, x_for, x_ilist, x_itup, x_ienum, x_irng1, x_irng2, x_irev, x_lc, x_yes, wipe_nil, wipe_cons, List.map_cons, List.map_nil, x_misc, x_misc2, x_rz, lookup_at, Bool.not_true, Bool.not_false, decide_true, decide_false, not_true, not_false_eq_true, and_assoc, exists_and_left, exists_eq_left', exists_eq_left, exists_eq', exists_eq_right', exists_eq_right, V.int.injEq, V.ref.injEq, V.bl.injEq, V.str.injEq, List.cons.injEq, and_true, true_and, and_self, Option.some.injEq, List.cons_append, List.nil_append, List.append_nil, List.getElem?_cons_zero, List.getElem?_cons_succ, List.set_cons_zero, List.set_cons_succ, reduceCtorEq, false_and, and_false, exists_false, exists_const, or_false, false_or, scal_ii, scal_bb, scal_ss, List.length_cons, List.length_nil, Int.reduceToNat, Int.reducePow])
local macro_rules | `(tactic| wtm_at "hp") => `(tactic| first | (with_reducible assumption) | exact upd_same | (refine upd_keep (by with_reducible assumption) ?_; wtm_at "hp") | (refine Same.get (by with_reducible assumption) ?_; wtm_at "hp") | (refine upd_other (by first | (with_reducible assumption) | exact Ne.symm (by with_reducible assumption)) ?_; wtm_at "hp"))
local macro_rules | `(tactic| wtm_at "sq") => `(tactic| first | (with_reducible assumption) | exact SqL.of (by wtm_at "hp") | exact SqT.of (by wtm_at "hp") | (refine Same.seq (same_upd (by with_reducible assumption)) ?_; wtm_at "sq") | (refine Same.seq (by with_reducible assumption) ?_; wtm_at "sq") | (refine Same.seqT (same_upd (by with_reducible assumption)) ?_; wtm_at "sq") | (refine Same.seqT (by with_reducible assumption) ?_; wtm_at "sq"))
local macro_rules | `(tactic| wtm_at "cl") => `(tactic| first | (with_reducible assumption) | omega | (exact cmul_r (by omega) (by omega)) | (exact cmul_l (by omega) (by omega)) | (exact cdiv_ok (by omega) (by omega)) | (exact cpow_ok (by decide)) | (exact ⟨by omega, by omega, by omega⟩) | decide | (exact ⟨by omega, by omega⟩) | (simp only [List.length_append, List.length_map, List.length_cons, List.length_nil, rngL_len, sizeLine_eq]; omega) | wtm_at "hp" | wtm_at "sq")
local macro_rules | `(tactic| wtm_at "pf") => `(tactic| first | (with_reducible assumption) | omega | (simp only [List.length_append, List.length_map, List.length_cons, List.length_nil, rngL_len]; omega) | (with_reducible rfl) | (with_reducible trivial) | (with_reducible decide))
local macro_rules | `(tactic| wtm_at "st") => `(tactic| first | ((with_reducible refine g_at ?_); refine at_call (by wtm_at "sq") (by omega) (by omega) (fun _ _ => ?_)) | ((with_reducible refine g_row ?_); refine row_call (by wtm_at "hp") ?_) | ((with_reducible refine g_int ?_); refine int_call ?_) | ((with_reducible refine g_isi ?_); first | (refine isi_int rfl ?_) | (refine isi_lst rfl (by wtm_at "hp") ?_) | (refine isi_tup rfl (by wtm_at "hp") ?_)) | ((with_reducible refine g_ned ?_); refine ned_f (dq_lst (by wtm_at "sq")) (dq_lst (by wtm_at "sq")) ?_) | ((with_reducible refine g_eqd ?_); refine eqd_t (dq_lst (by wtm_at "sq")) (dq_lst (by wtm_at "sq")) ?_) | ((with_reducible refine g_tyv ?_); refine and_tyv (by wtm_at "sq") ?_) | ((with_reducible refine g_asq ?_); refine and_sq (by wtm_at "sq") ?_) | ((with_reducible refine g_lst ?_); refine ex_lst (by wtm_at "hp") ?_) | ((with_reducible refine g_or ?_); first | (refine ex_or (by wtm_at "sq") ?_) | (refine ex_ort (by wtm_at "sq") ?_)) | ((with_reducible refine g_sq ?_); refine ex_sq (by wtm_at "sq") ?_) | ((with_reducible refine g_sqt ?_); refine ex_sqt (by wtm_at "sq") ?_) | ((with_reducible refine gd_sel ?_); first | (refine sel_p (by wtm_at "pf") ?_) | (refine sel_n (by wtm_at "pf") ?_)) | ((with_reducible refine gn_sel ?_); first | (refine selN_p (by wtm_at "pf") ?_) | (refine selN_n (by wtm_at "pf") ?_)) | ((with_reducible refine gd_selT ?_); first | (refine selT_p (by wtm_at "pf") ?_) | (refine selT_n (by wtm_at "pf") ?_)) | ((with_reducible refine gn_selT ?_); first | (refine selTN_p (by wtm_at "pf") ?_) | (refine selTN_n (by wtm_at "pf") ?_)) | ((with_reducible refine gd_selE ?_); first | (refine selE_p (by wtm_at "pf") ?_) | (refine selE_n (by wtm_at "pf") ?_)) | ((with_reducible refine gn_selE ?_); first | (refine selEN_p (by wtm_at "pf") ?_) | (refine selEN_n (by wtm_at "pf") ?_)) | ((with_reducible refine g_xf ?_); refine xf_at rfl (by wtm_at "hp") ?_) | ((with_reducible refine g_atI ?_); refine ex_at (by first | exact rfl | exact atI_int (by omega) (by wtm_at "pf")) ?_) | ((with_reducible refine g_and ?_); refine And.intro (by wtm_at "cl") ?_) | ((with_reducible refine g_new ?_); intro _ _))
local macro_rules | `(tactic| wtm_at "go") => `(tactic| repeat (first | wtm_at "xs" | wtm_at "st"))
local macro_rules | `(tactic| wtm_at "xo") => `(tactic| simp only [x_next, x_seq, x_brk, x_cont, x_drop, x_ret, x_retN, x_if, sel_t, sel_f, selE_t, selE_f, selT_t, selT_f, selC_t, selC_f, x_test, x_tB, x_op, x_un, x_var, x_c, x_cb, x_nil, x_cons, x_rI, x_rI0, x_rU, x_rEq, x_rNe, x_rIxL, x_rIxT, n_rSlL, n_rCat, n_rRep, n_rApp, x_bm, x_bm0, x_sl, x_nopart, x_part, n_tup, n_lst, x_call, x_callS, x_asg, x_gname, x_gtup, x_gnil, x_gcons, x_gsub, n_setL, x_aug, x_ipI, x_ipC, x_bits, x_getL, x_augS, x_and, x_or, x_not, x_k, x_andV, x_orV, x_notV, x_ife, x_chain, x_for, x_ilist, x_itup, x_ienum, x_irng1, x_irng2, x_irev, x_lc, x_yes, wipe_nil, wipe_cons, List.map_cons, List.map_nil, x_misc, x_misc2, x_rz, lookup_at, Bool.not_true, Bool.not_false, decide_true, decide_false, not_true, not_false_eq_true, and_assoc, exists_and_left, exists_eq_left', exists_eq_left, exists_eq', exists_eq_right', exists_eq_right, V.int.injEq, V.ref.injEq, V.bl.injEq, V.str.injEq, List.cons.injEq, and_true, true_and, and_self, Option.some.injEq, List.cons_append, List.nil_append, List.append_nil, List.getElem?_cons_zero, List.getElem?_cons_succ, List.set_cons_zero, List.set_cons_succ, reduceCtorEq, false_and, and_false, exists_false, exists_const, or_false, false_or, scal_ii, scal_bb, scal_ss, List.length_cons, List.length_nil, Int.reduceToNat, Int.reducePow, n_fld, n_dnew, n_dput, n_din, n_dget, n_dget2, n_glst, n_sfld, n_aug, n_meth, n_mw, n_make, n_kw, n_rLs, t_s1, t_i1, t_i2, t_i3, t_i4, t_i5, x_chain3, x_irng3, x_irevR, x_rg1, x_rg2, ints_cat, ints_app1, ints_len, ints_take, ints_drop, rep_one])
local macro_rules | `(tactic| k_call_by "xo" $h:term) => `(tactic| simp only [$h:term, x_next, x_seq, x_brk, x_cont, x_drop, x_ret, x_retN, x_if, sel_t, sel_f, selE_t, selE_f, selT_t, selT_f, selC_t, selC_f, x_test, x_tB, x_op, x_un, x_var, x_c, x_cb, x_nil, x_cons, x_rI, x_rI0, x_rU, x_rEq, x_rNe, x_rIxL, x_rIxT, n_rSlL, n_rCat, n_rRep, n_rApp, x_bm, x_bm0, x_sl, x_nopart, x_part, n_tup, n_lst, x_call, x_callS, x_asg, x_gname, x_gtup, x_gnil, x_gcons, x_gsub, n_setL, x_aug, x_ipI, x_ipC, x_bits, x_getL, x_augS, x_and, x_or, x_not, x_k, x_andV, x_orV, x_notV, x_ife, x_chain, x_for, x_ilist, x_itup, x_ienum, x_irng1, x_irng2, x_irev, x_lc, x_yes, wipe_nil, wipe_cons, List.map_cons, List.map_nil, x_misc, x_misc2, x_rz, lookup_at, Bool.not_true, Bool.not_false, decide_true, decide_false, not_true, not_false_eq_true, and_assoc, exists_and_left, exists_eq_left', exists_eq_left, exists_eq', exists_eq_right', exists_eq_right, V.int.injEq, V.ref.injEq, V.bl.injEq, V.str.injEq, List.cons.injEq, and_true, true_and, and_self, Option.some.injEq, List.cons_append, List.nil_append, List.append_nil, List.getElem?_cons_zero, List.getElem?_cons_succ, List.set_cons_zero, List.set_cons_succ, reduceCtorEq, false_and, and_false, exists_false, exists_const, or_false, false_or, scal_ii, scal_bb, scal_ss, List.length_cons, List.length_nil, Int.reduceToNat, Int.reducePow, n_fld, n_dnew, n_dput, n_din, n_dget, n_dget2, n_glst, n_sfld, n_aug, n_meth, n_mw, n_make, n_kw, n_rLs, t_s1, t_i1, t_i2, t_i3, t_i4, t_i5, x_chain3, x_irng3, x_irevR, x_rg1, x_rg2, ints_cat, ints_app1, ints_len, ints_take, ints_drop, rep_one])
local macro_rules | `(tactic| wtm_at "mem") => `(tactic| first | (with_reducible exact mem_here) | (with_reducible refine mem_there ?_; wtm_at "mem"))
local macro_rules | `(tactic| wtm_at "pp") => `(tactic| first | (with_reducible exact Put.here) | (with_reducible apply Put.there; wtm_at "pp"))
local macro_rules | `(tactic| wtm_at "ho") => `(tactic| first | (with_reducible assumption) | exact Own.get (by with_reducible assumption) (by wtm_at "mem") | exact Own.base (by with_reducible assumption) (by with_reducible assumption))
local macro_rules | `(tactic| wtm_at "qo") => `(tactic| first | (with_reducible assumption) | exact SqL.of (by wtm_at "ho") | exact sqT_tupI (by wtm_at "ho") | exact sqT_tupS (by wtm_at "ho") | exact SqT.of (by wtm_at "ho") | exact Own.imT (by with_reducible assumption) (by wtm_at "mem") | exact Own.sq (by with_reducible assumption) (by with_reducible assumption) | exact Own.sqT (by with_reducible assumption) (by with_reducible assumption))
local macro_rules | `(tactic| wtm_at "sub") => `(tactic| first | exact List.nil_sublist _ | (with_reducible refine List.Sublist.cons_cons _ ?_; wtm_at "sub") | (refine List.Sublist.cons _ ?_; wtm_at "sub"))
local macro_rules | `(tactic| wtm_at "co") => `(tactic| first | (with_reducible assumption) | omega | (exact cmul_r (by omega) (by omega)) | (exact cmul_l (by omega) (by omega)) | (exact cdiv_ok (by omega) (by omega)) | (exact cpow_ok (by decide)) | (exact ⟨by omega, by omega, by omega⟩) | decide | (exact ⟨by omega, by omega⟩) | (simp only [List.length_append, List.length_map, List.length_cons, List.length_nil, rngL_len, sizeLine_eq]; omega) | wtm_at "ho" | wtm_at "qo")
local macro_rules | `(tactic| wtm_at "so") => `(tactic| first | ((with_reducible refine g_dputO ?_); refine dputI (by with_reducible assumption) (by wtm_at "pp") (by wtm_at "co") (fun _ _ => ?_)) | ((with_reducible refine g_dinO ?_); refine dinI (by wtm_at "ho") ?_) | ((with_reducible refine g_isDO ?_); refine isDO (by wtm_at "ho") ?_) | ((with_reducible refine g_dg2 ?_); refine dg2I (by wtm_at "ho") ?_) | ((with_reducible refine g_fldO ?_); refine fldO (by wtm_at "ho") (by with_reducible assumption) (by wtm_at "mem") (by wtm_at "lk") ?_) | ((with_reducible refine g_fldC ?_); refine fldC (by wtm_at "ho") (by with_reducible assumption) (by wtm_at "mem") (by wtm_at "lk") ?_) | ((with_reducible refine g_putC ?_); refine putC (by with_reducible assumption) (by wtm_at "pp") (by wtm_at "pu") (by wtm_at "co") (fun _ _ => ?_)) | ((with_reducible refine g_stoO ?_); refine stoO (by with_reducible assumption) (by wtm_at "pp") (by wtm_at "pu") (by with_reducible assumption) (by wtm_at "mem") (by wtm_at "co") (fun _ _ => ?_)) | ((with_reducible refine g_metO ?_); refine metO (by wtm_at "ho") (by wtm_at "ln") ?_) | ((with_reducible refine g_makO ?_); refine makO (by with_reducible assumption) (fun _ _ _ _ => ?_)) | ((with_reducible refine g_sum ?_); refine sum_call (by wtm_at "qo") ?_) | ((with_reducible refine g_cq ?_); exact cq (by with_reducible assumption) (by simp only [rngL_len, List.length_map, List.length_take]; omega)) | ((with_reducible refine g_newO ?_); refine newO (by with_reducible assumption) (fun _ _ _ => ?_)) | ((with_reducible refine g_appO ?_); refine appI (by with_reducible assumption) (by wtm_at "pp") (by wtm_at "co") (fun _ _ => ?_)) | ((with_reducible refine g_setO ?_); refine setI (by with_reducible assumption) (by wtm_at "pp") (by omega) (by wtm_at "co") (fun _ _ => ?_)) | ((with_reducible refine g_appO ?_); refine appO (by with_reducible assumption) (by wtm_at "pp") (by wtm_at "co") (fun _ _ => ?_)) | ((with_reducible refine g_setO ?_); refine setO (by with_reducible assumption) (by wtm_at "pp") (by omega) (by wtm_at "co") (fun _ _ => ?_)) | ((with_reducible refine g_at ?_); refine at_call (by wtm_at "qo") (by omega) (by omega) (fun _ _ => ?_)) | ((with_reducible refine g_row ?_); refine row_call (by wtm_at "ho") ?_) | ((with_reducible refine g_int ?_); refine int_call ?_) | ((with_reducible refine g_isi ?_); first | (refine isi_int rfl ?_) | (refine isi_sqL rfl (by wtm_at "qo") ?_) | (refine isi_sqT rfl (by wtm_at "qo") ?_) | (refine isi_bl rfl ?_) | (refine isi_non rfl ?_) | (refine isi_str rfl ?_)) | ((with_reducible refine g_ned ?_); first | (refine ned_f (dq_lst (by wtm_at "qo")) (dq_lst (by wtm_at "qo")) ?_) | (refine ned_ints (by wtm_at "qo") (by wtm_at "qo") ?_) | (refine nedT_ints (by wtm_at "qo") (by wtm_at "qo") ?_)) | ((with_reducible refine g_eqd ?_); first | (refine eqd_t (dq_lst (by wtm_at "qo")) (dq_lst (by wtm_at "qo")) ?_) | (refine eqd_ints (by wtm_at "qo") (by wtm_at "qo") ?_) | (refine eqdT_ints (by wtm_at "qo") (by wtm_at "qo") ?_)) | ((with_reducible refine g_tyv ?_); refine and_tyv (by wtm_at "qo") ?_) | ((with_reducible refine g_asq ?_); refine and_sq (by wtm_at "qo") ?_) | ((with_reducible refine g_lst ?_); refine ex_lst (by wtm_at "ho") ?_) | ((with_reducible refine g_or ?_); first | (refine ex_or (by wtm_at "qo") ?_) | (refine ex_ort (by wtm_at "qo") ?_)) | ((with_reducible refine g_sq ?_); refine ex_sq (by wtm_at "qo") ?_) | ((with_reducible refine g_sqt ?_); refine ex_sqt (by wtm_at "qo") ?_) | ((with_reducible refine gd_sel ?_); first | (refine sel_p (by wtm_at "pf") ?_) | (refine sel_n (by wtm_at "pf") ?_)) | ((with_reducible refine gn_sel ?_); first | (refine selN_p (by wtm_at "pf") ?_) | (refine selN_n (by wtm_at "pf") ?_)) | ((with_reducible refine gd_selT ?_); first | (refine selT_p (by wtm_at "pf") ?_) | (refine selT_n (by wtm_at "pf") ?_)) | ((with_reducible refine gn_selT ?_); first | (refine selTN_p (by wtm_at "pf") ?_) | (refine selTN_n (by wtm_at "pf") ?_)) | ((with_reducible refine gd_selE ?_); first | (refine selE_p (by wtm_at "pf") ?_) | (refine selE_n (by wtm_at "pf") ?_)) | ((with_reducible refine gn_selE ?_); first | (refine selEN_p (by wtm_at "pf") ?_) | (refine selEN_n (by wtm_at "pf") ?_)) | ((with_reducible refine g_xf ?_); refine xf_at rfl (by wtm_at "ho") ?_) | ((with_reducible refine g_atI ?_); refine ex_at (by first | exact rfl | exact atI_int (by omega) (by wtm_at "pf")) ?_) | ((with_reducible refine g_and ?_); refine And.intro (by wtm_at "co") ?_))
local macro_rules | `(tactic| wtm_at "oo") => `(tactic| repeat (first | wtm_at "xo" | wtm_at "so"))
local macro_rules | `(tactic| wtm_at "cR") => `(tactic| (refine' compRi _ (by with_reducible assumption) (by omega) (fun _ _ _ _ _ => ?_) (fun _ _ _ => ?_); rotate_left; focus (wtm_at "oo")))

local macro_rules | `(tactic| wtm_at "lk") => `(tactic| first | (with_reducible exact lk_here) | (simp only [lk_here, lk_skip, lk_nil, nb_0_0, nb_0_1, nb_0_2, nb_0_3, nb_0_4, nb_0_5, nb_0_6, nb_1_0, nb_1_1, nb_1_2, nb_1_3, nb_1_4, nb_1_5, nb_1_6, nb_2_1, nb_2_2, nb_2_3, nb_2_4, nb_2_5, nb_2_6, nb_3_0, nb_3_2, nb_3_3, nb_3_4, nb_3_5, nb_3_6, nb_4_0, nb_4_1, nb_4_3, nb_4_4, nb_4_5, nb_4_6, nb_5_0, nb_5_1, nb_5_2, nb_5_4, nb_5_5, nb_5_6, nb_6_0, nb_6_1, nb_6_2, nb_6_3, nb_6_4, nb_6_5, nb_6_6, nb_7_0, nb_7_1, nb_7_2, nb_7_3, nb_7_5, nb_7_6, nb_8_0, nb_8_1, nb_8_2, nb_8_3, nb_8_4, nb_8_6, nb_9_0, nb_9_1, nb_9_2, nb_9_3, nb_9_4, nb_9_5, nb_10_0, nb_10_1, nb_10_2, nb_10_3, nb_10_4, nb_10_5, nb_10_6, nb_11_0, nb_11_1, nb_11_2, nb_11_3, nb_11_4, nb_11_5, nb_11_6, nb_12_0, nb_12_1, nb_12_2, nb_12_3, nb_12_4, nb_12_5, nb_12_6, nb_13_0, nb_13_1, nb_13_2, nb_13_3, nb_13_4, nb_13_5, nb_13_6, nb_14_0, nb_14_1, nb_14_2, nb_14_3, nb_14_4, nb_14_5, nb_14_6]; first | done | exact rfl))
local macro_rules | `(tactic| wtm_at "ln") => `(tactic| first | (with_reducible exact lk_nil) | (simp only [lk_skip, lk_nil, nb_0_0, nb_0_1, nb_0_2, nb_0_3, nb_0_4, nb_0_5, nb_0_6, nb_1_0, nb_1_1, nb_1_2, nb_1_3, nb_1_4, nb_1_5, nb_1_6, nb_2_1, nb_2_2, nb_2_3, nb_2_4, nb_2_5, nb_2_6, nb_3_0, nb_3_2, nb_3_3, nb_3_4, nb_3_5, nb_3_6, nb_4_0, nb_4_1, nb_4_3, nb_4_4, nb_4_5, nb_4_6, nb_5_0, nb_5_1, nb_5_2, nb_5_4, nb_5_5, nb_5_6, nb_6_0, nb_6_1, nb_6_2, nb_6_3, nb_6_4, nb_6_5, nb_6_6, nb_7_0, nb_7_1, nb_7_2, nb_7_3, nb_7_5, nb_7_6, nb_8_0, nb_8_1, nb_8_2, nb_8_3, nb_8_4, nb_8_6, nb_9_0, nb_9_1, nb_9_2, nb_9_3, nb_9_4, nb_9_5, nb_10_0, nb_10_1, nb_10_2, nb_10_3, nb_10_4, nb_10_5, nb_10_6, nb_11_0, nb_11_1, nb_11_2, nb_11_3, nb_11_4, nb_11_5, nb_11_6, nb_12_0, nb_12_1, nb_12_2, nb_12_3, nb_12_4, nb_12_5, nb_12_6, nb_13_0, nb_13_1, nb_13_2, nb_13_3, nb_13_4, nb_13_5, nb_13_6, nb_14_0, nb_14_1, nb_14_2, nb_14_3, nb_14_4, nb_14_5, nb_14_6]; done))
local macro_rules | `(tactic| wtm_at "pu") => `(tactic| first | (with_reducible exact pf_nil) | (simp only [pf_nil, pf_here, pf_skip, nb_0_0, nb_0_1, nb_0_2, nb_0_3, nb_0_4, nb_0_5, nb_0_6, nb_1_0, nb_1_1, nb_1_2, nb_1_3, nb_1_4, nb_1_5, nb_1_6, nb_2_1, nb_2_2, nb_2_3, nb_2_4, nb_2_5, nb_2_6, nb_3_0, nb_3_2, nb_3_3, nb_3_4, nb_3_5, nb_3_6, nb_4_0, nb_4_1, nb_4_3, nb_4_4, nb_4_5, nb_4_6, nb_5_0, nb_5_1, nb_5_2, nb_5_4, nb_5_5, nb_5_6, nb_6_0, nb_6_1, nb_6_2, nb_6_3, nb_6_4, nb_6_5, nb_6_6, nb_7_0, nb_7_1, nb_7_2, nb_7_3, nb_7_5, nb_7_6, nb_8_0, nb_8_1, nb_8_2, nb_8_3, nb_8_4, nb_8_6, nb_9_0, nb_9_1, nb_9_2, nb_9_3, nb_9_4, nb_9_5, nb_10_0, nb_10_1, nb_10_2, nb_10_3, nb_10_4, nb_10_5, nb_10_6, nb_11_0, nb_11_1, nb_11_2, nb_11_3, nb_11_4, nb_11_5, nb_11_6, nb_12_0, nb_12_1, nb_12_2, nb_12_3, nb_12_4, nb_12_5, nb_12_6, nb_13_0, nb_13_1, nb_13_2, nb_13_3, nb_13_4, nb_13_5, nb_13_6, nb_14_0, nb_14_1, nb_14_2, nb_14_3, nb_14_4, nb_14_5, nb_14_6]; first | done | exact rfl))
local macro_rules | `(tactic| wtm_at "tk") => `(tactic| first | (with_reducible exact Take.here) | (exact Take.here) | ((with_reducible apply Take.there); wtm_at "tk"))
local macro_rules | `(tactic| wtm_at "pk") => `(tactic| first | exact Pick.nil | ((with_reducible refine' Pick.cons ?tk1 ?pk1); (case tk1 => wtm_at "tk"); (case pk1 => wtm_at "pk")) | ((with_reducible refine Pick.im (by wtm_at "mem") ?_); wtm_at "pk") | ((with_reducible refine Pick.ims (by wtm_at "mem") ?_); wtm_at "pk"))
section
variable {P : Program} {w : World} {K : PySem.W.Frag} {mg : Str → Option Value} {base : Heap}
/-- the first place at which the weight is too great -/
def sp__check_weight (K : PySem.W.Frag) : Sp := fun vs H Q E => ∃ (a : Addr) (ls : List Int), vs = [.ref a] ∧ SqL K H a (ls.map V.int) ∧ okLen ls ∧
  ((∀ i, i ≤ ls.length → wts (ls.take i) ≤ 32768) → ∀ H', Same H H' → Q .non H') ∧
  (∀ k : Nat, k < ls.length → (∀ i, i ≤ k → wts (ls.take i) ≤ 32768) → 32768 < wts (ls.take (k + 1)) → ∀ H' x, Same H H' → H' x = none → E (.ref (He.ga K "TooManyCodes")) (some x) (upd H' x (.xd [("at", .int (k : Nat))])))
theorem wts_snoc {ls : List Int} {i : Nat} {x : Int} (h : ls[i]? = some x) : wts (ls.take (i + 1)) = wts (ls.take i) + wt x := by
  unfold wts
  rw [take_map_snoc h, List.sum_append]
  show _ + (wt x + 0) = _
  omega
theorem ok__check_weight (T : Tx K mg) : Cl P w K mg base 3 "_check_weight" ["lengths"] (sp__check_weight K) [] := by
  obtain ⟨gm, fd, F⟩ := T.d__check_weight
  refine ⟨_, fd, [], F.ok sc__check_weight (fun vs H Q E h => ?_) (fun cdv A outer s H vs Q E hr h => ⟨_, (pss_cons (ps_set (i := 1) sc__check_weight.nd rfl (Or.inl rfl) (by exact pe_int))
 (pss_one (ps_for (passes_of rfl) rfl (pi_enum (by rfl) T.b_enumerate (pa_cons (pv 0) pa_nil)) (pg_tup (by rfl) (pgs_cons (pg_name (i := 2) sc__check_weight.nd rfl (Or.inl rfl)) (pgs_cons (pg_name (i := 3) sc__check_weight.nd rfl (Or.inl rfl)) pgs_nil)))
 (pss_cons (ps_aug (i := 1) sc__check_weight.nd rfl (Or.inl rfl) (by exact (pe_cl (ok__weight_of T) (hr.mono (by decide)) rfl (pa_cons (pv 3) pa_nil))) ip_add)
 (pss_one (ps_if (pt_cmpR op_gt (pv 1) (pe_gc rfl T.c_FULL_WEIGHT) (nomark _))
 (pss_one (ps_raiseB T.x_TooManyCodes (ok_init T) (hr.mono (by decide)) (L2N.takes_of rfl rfl rfl rfl) (by exact (pa_cons (pv 2) pa_nil))))
 pss_nil)))))), ?_⟩), gm, F.kp, F.bindsN (fun _ _ _ _ _ _ us hl => match us, hl with | [_], _ => rfl), .nil⟩
  · first | (obtain ⟨rfl, _⟩ := h; rfl) | (obtain ⟨_, rfl, _⟩ := h; rfl) | (obtain ⟨_, _, rfl, _⟩ := h; rfl) | (obtain ⟨_, _, _, rfl, _⟩ := h; rfl) | (obtain ⟨_, _, _, _, rfl, _⟩ := h; rfl) | (obtain ⟨_, _, _, _, _, rfl, _⟩ := h; rfl) | (obtain ⟨_, _, _, _, _, _, rfl, _⟩ := h; rfl) | (obtain ⟨_, _, _, _, _, _, _, rfl, _⟩ := h; rfl) | (obtain ⟨_, _, _, _, _, _, _, _, rfl, _⟩ := h; rfl) | (obtain ⟨_, _, _, _, _, _, _, _, _, rfl, _⟩ := h; rfl) | (obtain ⟨_, _, _, _, _, _, _, _, _, _, rfl, _⟩ := h; rfl) | (obtain ⟨_, _, _, _, _, _, _, _, _, _, _, rfl, _⟩ := h; rfl) | (obtain ⟨_, _, _, _, _, _, _, _, _, _, _, _, rfl, _⟩ := h; rfl) | (obtain ⟨_, _, _, _, _, _, _, _, _, _, _, _, _, rfl, _⟩ := h; rfl) | (obtain ⟨_, _, _, _, _, _, _, _, _, _, _, _, _, _, rfl, _⟩ := h; rfl) | (obtain ⟨_, _, _, _, _, _, _, _, _, _, _, _, _, _, _, rfl, _⟩ := h; rfl) | (obtain ⟨_, _, _, _, _, _, _, _, _, _, _, _, _, _, _, _, rfl, _⟩ := h; rfl) | (obtain ⟨_, _, _, _, _, _, _, _, _, _, _, _, _, _, _, _, _, rfl, _⟩ := h; rfl) | (obtain ⟨_, _, _, _, _, _, _, _, _, _, _, _, _, _, _, _, _, _, rfl, _⟩ := h; rfl) | (obtain ⟨_, _, _, _, _, _, _, _, _, _, _, _, _, _, _, _, _, _, _, rfl, _⟩ := h; rfl) | (obtain ⟨_, _, _, _, _, _, _, _, _, _, _, _, _, _, _, _, _, _, _, _, rfl, _⟩ := h; rfl) | (obtain ⟨_, _, _, _, _, _, _, _, _, _, _, _, _, _, _, _, _, _, _, _, _, rfl, _⟩ := h; rfl)
  · obtain ⟨a, ls, rfl, hS, hk, q, qe⟩ := h
    k_call_by "xs" st__check_weight
    refine ⟨_, hS, ?_⟩
    refine loop_enum (xs := ls.map V.int) (fun i σ H' => ∃ y2 y3, σ = [some (.ref a), some (.int (wts (ls.take i))), y2, y3] ∧ Same H H' ∧ ∀ j, j ≤ i → wts (ls.take j) ≤ 32768) ⟨none, none, rfl, fun _ _ e => e, fun j hj => by rw [show j = 0 by omega]; show (0 : Int) ≤ 32768; decide⟩ (fun i σ H' _ ⟨_, _, _, s, _⟩ => s.seq hS) ?_ ?_
    · rintro i x σ H' T' hx ⟨y2, y3, rfl, s, hle⟩ hT'
      obtain ⟨z, hz, rfl⟩ := int_at hx
      have hi : i < ls.length := by
        apply Decidable.byContradiction
        intro c
        rw [List.getElem?_eq_none (by omega)] at hz
        cases hz
      have eT : (upd H' T' (.tup [.int (i : Nat), .int z])) T' = some (.tup [.int (i : Nat), .int z]) := upd_same
      have s := s.trans (same_upd (o := .tup [.int (i : Nat), .int z]) hT')
      generalize (upd H' T' (.tup [.int (i : Nat), .int z])) = G at *
      wtm_at "go"
      refine ⟨rfl, ?_⟩
      wtm_at "go"
      refine ⟨z, rfl, hk.lo z (List.mem_of_getElem? hz), ?_⟩
      wtm_at "go"
      rw [← wts_snoc hz]
      refine sel_d (fun c => ?_) (fun c => ?_)
      · wtm_at "go"
        exact bz T.x_TooManyCodes fun x hx => qe i hi hle (by omega) G x s hx
      · wtm_at "go"
        intro j hj
        by_cases e : j = i + 1
        · rw [e]
          omega
        · exact hle j (by omega)
    · rintro σ H' ⟨y2, y3, rfl, s, hle⟩
      rw [List.length_map] at hle
      wtm_at "go"
      exact q hle _ s

/-! ### first codes and codes -/
def fc (ls : List Int) : Nat → Int
  | 0 => 0
  | 1 => 0
  | n + 2 => 2 * (fc ls (n + 1) + (ls.count ((n + 1 : Nat) : Int) : Nat))
def sp__first_codes (K : PySem.W.Frag) : Sp := fun vs H Q _ => ∃ (a : Addr) (ls : List Int), vs = [.ref a] ∧ SqL K H a (ls.map V.int) ∧
  ∀ p H', Same H H' → H p = none → H' p = some (.lst ((rngL (fc ls) 16).map V.int)) → Q (.ref p) H'
theorem rngL_at {f : Nat → Int} {n i : Nat} (h : i < n) : (rngL f n).getD i 0 = f i := by
  unfold rngL
  rw [List.getD_eq_getElem?_getD, List.getElem?_map, List.getElem?_range h]
  rfl
theorem ok__first_codes (T : Tx K mg) : Cl P w K mg base 1 "_first_codes" ["lengths"] (sp__first_codes K) [] := by
  obtain ⟨gm, fd, F⟩ := T.d__first_codes
  refine ⟨_, fd, [], F.ok sc__first_codes (fun vs H Q E h => ?_) (fun cdv A outer s H vs Q E hr h => ⟨_, (PSs.nox (pss_cons (ps_set (i := 1) sc__first_codes.nd rfl (Or.inl rfl) (by exact (pe_lst (pa_cons pe_int (pa_cons pe_int pa_nil)))))
 (pss_cons (ps_for PassesOwn.never rfl (pi_range2 rfl T.b_range (pa_cons pe_int (pa_cons (pe_gc rfl T.c_MOST_BITS) pa_nil))) (pg_name (i := 2) sc__first_codes.nd rfl (Or.inl rfl))
 (pss_one (ps_expr (pe_bm PySem.F.plainAttrs_list PySem.F.slot_list_append PySem.F.type_list_append mt_append (pv 1) (pa_cons (pe_op op_mul pe_int (pe_op op_add (pe_ix (ixl K) (pv 1) (pv 2) (fun _ _ => rfl)) (pe_bm PySem.F.plainAttrs_list PySem.F.slot_list_count PySem.F.type_list_count (cntK K) (pv 0) (pa_cons (pv 2) pa_nil)))) pa_nil)))))
 (pss_one (ps_ret (by exact (pv 1))))))), ?_⟩), gm, F.kp, F.bindsN (fun _ _ _ _ _ _ us hl => match us, hl with | [_], _ => rfl), .nil⟩
  · first | (obtain ⟨rfl, _⟩ := h; rfl) | (obtain ⟨_, rfl, _⟩ := h; rfl) | (obtain ⟨_, _, rfl, _⟩ := h; rfl) | (obtain ⟨_, _, _, rfl, _⟩ := h; rfl) | (obtain ⟨_, _, _, _, rfl, _⟩ := h; rfl) | (obtain ⟨_, _, _, _, _, rfl, _⟩ := h; rfl) | (obtain ⟨_, _, _, _, _, _, rfl, _⟩ := h; rfl) | (obtain ⟨_, _, _, _, _, _, _, rfl, _⟩ := h; rfl) | (obtain ⟨_, _, _, _, _, _, _, _, rfl, _⟩ := h; rfl) | (obtain ⟨_, _, _, _, _, _, _, _, _, rfl, _⟩ := h; rfl) | (obtain ⟨_, _, _, _, _, _, _, _, _, _, rfl, _⟩ := h; rfl) | (obtain ⟨_, _, _, _, _, _, _, _, _, _, _, rfl, _⟩ := h; rfl) | (obtain ⟨_, _, _, _, _, _, _, _, _, _, _, _, rfl, _⟩ := h; rfl) | (obtain ⟨_, _, _, _, _, _, _, _, _, _, _, _, _, rfl, _⟩ := h; rfl) | (obtain ⟨_, _, _, _, _, _, _, _, _, _, _, _, _, _, rfl, _⟩ := h; rfl) | (obtain ⟨_, _, _, _, _, _, _, _, _, _, _, _, _, _, _, rfl, _⟩ := h; rfl) | (obtain ⟨_, _, _, _, _, _, _, _, _, _, _, _, _, _, _, _, rfl, _⟩ := h; rfl) | (obtain ⟨_, _, _, _, _, _, _, _, _, _, _, _, _, _, _, _, _, rfl, _⟩ := h; rfl) | (obtain ⟨_, _, _, _, _, _, _, _, _, _, _, _, _, _, _, _, _, _, rfl, _⟩ := h; rfl) | (obtain ⟨_, _, _, _, _, _, _, _, _, _, _, _, _, _, _, _, _, _, _, rfl, _⟩ := h; rfl) | (obtain ⟨_, _, _, _, _, _, _, _, _, _, _, _, _, _, _, _, _, _, _, _, rfl, _⟩ := h; rfl) | (obtain ⟨_, _, _, _, _, _, _, _, _, _, _, _, _, _, _, _, _, _, _, _, _, rfl, _⟩ := h; rfl)
  · obtain ⟨a, ls, rfl, hS, q⟩ := h
    k_call_by "xs" st__first_codes
    wtm_at "go"
    rename_i p hp
    refine loop_range (fun i σ H' => ∃ y, σ = [some (.ref a), some (.ref p), y] ∧ Same H H' ∧ H' p = some (.lst ((rngL (fc ls) (i + 2)).map V.int))) ⟨none, rfl, same_upd hp, upd_same⟩ ?_ ?_
    · rintro i σ H' hi ⟨y, rfl, s, hl⟩
      have hi2 : i < 14 := hi
      have hS := s.seq hS
      wtm_at "go"
      refine ⟨a, ls, _, rfl, rfl, hS, ?_⟩
      have e1 : (rngL (fc ls) (i + 2)).getD (1 + (i : Int)).toNat 0 = fc ls (i + 1) := by
        rw [show (1 + (i : Int)).toNat = i + 1 by omega]
        exact rngL_at (by omega)
      rw [e1]
      wtm_at "go"
      refine ⟨same_put s hp, ?_⟩
      rw [upd_same, show i + 1 + 2 = (i + 2) + 1 by omega, rngL_succ (n := i + 2), List.map_append]
      show _ = some (HO.lst (_ ++ [V.int (2 * (fc ls (i + 1) + (ls.count ((i + 1 : Nat) : Int) : Nat)))]))
      rw [show ((i + 1 : Nat) : Int) = 1 + (i : Int) by omega]
    · rintro σ H' ⟨y, rfl, s, hl⟩
      wtm_at "go"
      exact q p H' s hp hl
/-- the code of the symbol at k -/
def codeOf (ls : List Int) (k : Nat) : Int := if ls.getD k 0 = 0 then 0 else fc ls (ls.getD k 0).toNat + ((ls.take k).count (ls.getD k 0) : Nat)
/-- the codes that come next, by length, behind i symbols -/
def com (ls : List Int) (i : Nat) : List Int := rngL (fun n => fc ls n + (if n = 0 then 0 else ((ls.take i).count (n : Int) : Nat))) 16
theorem count_none {a b : Int} (h : a ≠ b) : [b].count a = 0 := List.count_eq_zero.mpr fun m => h (List.mem_singleton.mp m)
theorem com_keep {ls : List Int} {i : Nat} (h : ls[i]? = some 0) : com ls (i + 1) = com ls i := by
  unfold com rngL
  refine List.map_congr_left fun n _ => ?_
  split
  · rfl
  · rename_i c
    rw [List.take_add_one, h, List.count_append, show Option.toList (some (0 : Int)) = [(0 : Int)] from rfl, count_none (by omega)]
    rfl
theorem com_bump {ls : List Int} {i : Nat} {z : Nat} (h : ls[i]? = some (z : Int)) (h0 : z ≠ 0) (h1 : z < 16) : com ls (i + 1) = (com ls i).set z ((com ls i).getD z 0 + 1) := by
  have hl : ∀ j, (com ls j).length = 16 := fun j => rngL_len
  have gz : (com ls i).getD z 0 = fc ls z + ((ls.take i).count (z : Int) : Nat) := by
    show (rngL _ 16).getD z 0 = _
    rw [rngL_at h1, if_neg h0]
  rw [gz]
  refine List.ext_getElem (by rw [List.length_set, hl, hl]) fun n a b => ?_
  rw [List.getElem_set]
  simp only [com, rngL, List.getElem_map, List.getElem_range]
  rw [List.take_add_one, h, List.count_append, show Option.toList (some (z : Int)) = [(z : Int)] from rfl]
  by_cases e : z = n
  · subst e
    rw [if_pos rfl, if_neg h0, List.count_singleton_self]
    omega
  · rw [if_neg e, count_none (by omega)]
    rfl
theorem com_zero {ls : List Int} : com ls 0 = rngL (fc ls) 16 := by
  unfold com rngL
  refine List.map_congr_left fun n _ => ?_
  split <;> exact Int.add_zero _
theorem com_at {ls : List Int} {i : Nat} {z : Nat} (h : ls[i]? = some (z : Int)) (h0 : z ≠ 0) (h1 : z < 16) : (com ls i).getD z 0 = codeOf ls i := by
  show (rngL _ 16).getD z 0 = _
  have e : ls.getD i 0 = (z : Int) := by
    rw [List.getD_eq_getElem?_getD, h]
    rfl
  rw [rngL_at h1, if_neg h0]
  unfold codeOf
  rw [e, if_neg (by omega), Int.toNat_natCast]
theorem code_none {ls : List Int} {i : Nat} (h : ls[i]? = some 0) : codeOf ls i = 0 := by
  unfold codeOf
  rw [List.getD_eq_getElem?_getD, h]
  rfl
def sp_codes (K : PySem.W.Frag) : Sp := fun vs H Q E => ∃ (a : Addr) (ls : List Int), vs = [.ref a] ∧ SqL K H a (ls.map V.int) ∧ okLen ls ∧
  ((∀ i, i ≤ ls.length → wts (ls.take i) ≤ 32768) → ∀ p H', Same H H' → H p = none → H' p = some (.lst ((rngL (codeOf ls) ls.length).map V.int)) → Q (.ref p) H') ∧
  (∀ k : Nat, k < ls.length → (∀ i, i ≤ k → wts (ls.take i) ≤ 32768) → 32768 < wts (ls.take (k + 1)) → ∀ H' x, Same H H' → H' x = none → E (.ref (He.ga K "TooManyCodes")) (some x) (upd H' x (.xd [("at", .int (k : Nat))])))
theorem ok_codes (T : Tx K mg) : Cl P w K mg base 4 "codes" ["lengths"] (sp_codes K) [] := by
  obtain ⟨gm, fd, F⟩ := T.d_codes
  refine ⟨_, fd, [], F.ok sc_codes (fun vs H Q E h => ?_) (fun cdv A outer s H vs Q E hr h => ⟨_, (pss_cons (ps_expr (pe_clS (ok__check_weight T) (hr.mono (by decide)) rfl (L2N.takes_of rfl rfl rfl rfl) (pa_cons (pv 0) pa_nil)))
 (pss_cons (ps_set (i := 1) sc_codes.nd rfl (Or.inl rfl) (by exact (pe_cl (ok__first_codes T) (hr.mono (by decide)) rfl (pa_cons (pv 0) pa_nil))))
 (pss_cons (ps_set (i := 2) sc_codes.nd rfl (Or.inl rfl) (by exact (pe_lst pa_nil)))
 (pss_cons (ps_for (passes_of rfl) rfl (pi_list (pv 0)) (pg_name (i := 3) sc_codes.nd rfl (Or.inl rfl))
 (pss_one (ps_if (pt_cmpR op_eq (pv 3) pe_int (nomark _))
 (pss_one (ps_expr (pe_bm PySem.F.plainAttrs_list PySem.F.slot_list_append PySem.F.type_list_append mt_append (pv 2) (pa_cons pe_int pa_nil))))
 (pss_cons (ps_expr (pe_bm PySem.F.plainAttrs_list PySem.F.slot_list_append PySem.F.type_list_append mt_append (pv 2) (pa_cons (pe_ix (ixl K) (pv 1) (pv 3) (fun _ _ => rfl)) pa_nil)))
 (pss_one (ps_augS (pv 1) (pv 3) (getL K) (by exact pe_int) ip_add set_list))))))
 (pss_one (ps_ret (by exact (pv 2)))))))), ?_⟩), gm, F.kp, F.bindsN (fun _ _ _ _ _ _ us hl => match us, hl with | [_], _ => rfl), .nil⟩
  · first | (obtain ⟨rfl, _⟩ := h; rfl) | (obtain ⟨_, rfl, _⟩ := h; rfl) | (obtain ⟨_, _, rfl, _⟩ := h; rfl) | (obtain ⟨_, _, _, rfl, _⟩ := h; rfl) | (obtain ⟨_, _, _, _, rfl, _⟩ := h; rfl) | (obtain ⟨_, _, _, _, _, rfl, _⟩ := h; rfl) | (obtain ⟨_, _, _, _, _, _, rfl, _⟩ := h; rfl) | (obtain ⟨_, _, _, _, _, _, _, rfl, _⟩ := h; rfl) | (obtain ⟨_, _, _, _, _, _, _, _, rfl, _⟩ := h; rfl) | (obtain ⟨_, _, _, _, _, _, _, _, _, rfl, _⟩ := h; rfl) | (obtain ⟨_, _, _, _, _, _, _, _, _, _, rfl, _⟩ := h; rfl) | (obtain ⟨_, _, _, _, _, _, _, _, _, _, _, rfl, _⟩ := h; rfl) | (obtain ⟨_, _, _, _, _, _, _, _, _, _, _, _, rfl, _⟩ := h; rfl) | (obtain ⟨_, _, _, _, _, _, _, _, _, _, _, _, _, rfl, _⟩ := h; rfl) | (obtain ⟨_, _, _, _, _, _, _, _, _, _, _, _, _, _, rfl, _⟩ := h; rfl) | (obtain ⟨_, _, _, _, _, _, _, _, _, _, _, _, _, _, _, rfl, _⟩ := h; rfl) | (obtain ⟨_, _, _, _, _, _, _, _, _, _, _, _, _, _, _, _, rfl, _⟩ := h; rfl) | (obtain ⟨_, _, _, _, _, _, _, _, _, _, _, _, _, _, _, _, _, rfl, _⟩ := h; rfl) | (obtain ⟨_, _, _, _, _, _, _, _, _, _, _, _, _, _, _, _, _, _, rfl, _⟩ := h; rfl) | (obtain ⟨_, _, _, _, _, _, _, _, _, _, _, _, _, _, _, _, _, _, _, rfl, _⟩ := h; rfl) | (obtain ⟨_, _, _, _, _, _, _, _, _, _, _, _, _, _, _, _, _, _, _, _, rfl, _⟩ := h; rfl) | (obtain ⟨_, _, _, _, _, _, _, _, _, _, _, _, _, _, _, _, _, _, _, _, _, rfl, _⟩ := h; rfl)
  · obtain ⟨a, ls, rfl, hS, hk, q, qe⟩ := h
    k_call_by "xs" st_codes
    refine ⟨a, ls, rfl, hS, hk, fun hf G s => ?_, qe⟩
    have hS1 := s.seq hS
    wtm_at "go"
    refine ⟨a, ls, rfl, hS1, fun pc G2 s2 f2 e2 => ?_⟩
    have hS2 := s2.seq hS1
    have s := s.trans s2
    wtm_at "go"
    rename_i pf hpf
    have npc : pc ≠ pf := ne_of_none e2 hpf
    have fpf : H pf = none := s.free hpf
    have fpc : H pc = none := by
      cases e : H pc with
      | none => rfl
      | some o => exact absurd f2 (by rw [show G pc = some o from (by assumption : Same H G) _ _ e]; exact fun z => nomatch z)
    have s := s.trans (same_upd (o := .lst []) hpf)
    refine ⟨⟨_, s.seq hS⟩, loop_list (xs := ls.map V.int) (fun i σ H' => ∃ y, σ = [some (.ref a), some (.ref pc), some (.ref pf), y] ∧ Same H H' ∧ H' pc = some (.lst ((com ls i).map V.int)) ∧ H' pf = some (.lst ((rngL (codeOf ls) i).map V.int))) ⟨none, rfl, s, by rw [com_zero]; exact upd_keep hpf e2, upd_same⟩ (fun i σ H' _ ⟨_, _, s, _⟩ => s.seq hS) ?_ ?_⟩
    · rintro i x σ G3 hx ⟨y, rfl, s, e1, e2⟩
      obtain ⟨z, hz, rfl⟩ := int_at hx
      have hi : i < ls.length := by
        apply Decidable.byContradiction
        intro c
        rw [List.getElem?_eq_none (by omega)] at hz
        cases hz
      have hm := List.mem_of_getElem? hz
      have z0 := hk.lo z hm
      have z1 := hk.hi z hm
      have hlen := hk.len
      have hcl : (com ls i).length = 16 := rngL_len
      by_cases c : z = 0
      · subst c
        wtm_at "go"
        refine ⟨same_put s fpf, ?_, ?_⟩
        · rw [com_keep hz]
          exact upd_other npc e1
        · rw [upd_same, rngL_succ, List.map_append, code_none hz]
          rfl
      · obtain ⟨n, rfl⟩ := Int.eq_ofNat_of_zero_le z0
        have hn0 : n ≠ 0 := by omega
        have hn1 : n < 16 := by omega
        have ec := com_at hz hn0 hn1
        have e1' := upd_other (o := .lst ((rngL (codeOf ls) i).map V.int ++ [V.int (codeOf ls i)])) npc e1
        wtm_at "go"
        rw [Int.toNat_natCast]
        refine ⟨n, by rw [ixN_ok (by omega) (by rw [List.length_map]; omega)]; rfl, same_put (same_put s fpf) fpc, ?_, ?_⟩
        · rw [upd_same, set_ints, com_bump hz hn0 hn1]
        · rw [upd_ne (Ne.symm npc), upd_same, rngL_succ, List.map_append, ← ec]
          rfl
    · rintro σ H' ⟨y, rfl, s, e1, e2⟩
      rw [List.length_map] at e2
      wtm_at "go"
      exact q hf pf H' s fpf e2


end
end K11

namespace K11
open PySem PySem.Spec PyProof.Rows L2 Bel
local macro_rules | `(tactic| wtm_at "xs") => `(tactic| simp only [x_next, x_seq, x_brk, x_cont, x_drop, x_ret, x_retN, x_if, sel_t, sel_f, selE_t, selE_f, selT_t, selT_f, selC_t, selC_f, x_test, x_tB, x_op, x_un, x_var, x_c, x_cb, x_nil, x_cons, x_rI, x_rI0, x_rU, x_rEq, x_rNe, x_rIxL, x_rIxT, x_rSlL, x_rCat, x_rRep, x_rApp, x_bm, x_bm0, x_sl, x_nopart, x_part, x_tup, x_lst, x_call, x_callS, x_asg, x_gname, x_gtup, x_gnil, x_gcons, x_gsub, x_setL, x_aug, x_ipI, x_ipC, x_bits, x_getL, x_augS, x_and, x_or, x_not, x_k, x_andV, x_orV, x_notV, x_ife, x_chain, x_for, x_ilist, x_itup, x_ienum, x_irng1, x_irng2, x_irev, x_lc, x_yes, wipe_nil, wipe_cons, List.map_cons, List.map_nil, x_misc, x_misc2, x_rz, lookup_at, Bool.not_true, Bool.not_false, decide_true, decide_false, not_true, not_false_eq_true, and_assoc, exists_and_left, exists_eq_left', exists_eq_left, exists_eq', exists_eq_right', exists_eq_right, V.int.injEq, V.ref.injEq, V.bl.injEq, V.str.injEq, List.cons.injEq, and_true, true_and, and_self, Option.some.injEq, List.cons_append, List.nil_append, List.append_nil, List.getElem?_cons_zero, List.getElem?_cons_succ, List.set_cons_zero, List.set_cons_succ, reduceCtorEq, false_and, and_false, exists_false, exists_const, or_false, false_or, scal_ii, scal_bb, scal_ss, List.length_cons, List.length_nil, Int.reduceToNat, Int.reducePow])
local macro_rules | `(tactic| k_call_by "xs" $h:term) => `(tactic| simp only [$h:term, x_next, x_seq, x_brk, x_cont, x_drop, x_ret, x_retN, x_if, sel_t, sel_f, selE_t, selE_f, selT_t, selT_f, selC_t, selC_f, x_test, x_tB, x_op, x_un, x_var, x_c, x_cb, x_nil, x_cons, x_rI, x_rI0, x_rU, x_rEq, x_rNe, x_rIxL, x_rIxT, x_rSlL, x_rCat, x_rRep, x_rApp, x_bm, x_bm0, x_sl, x_nopart, x_part, x_tup, x_lst, x_call, x_callS, x_asg, x_gname, x_gtup, x_gnil, x_gcons, x_gsub, x_setL, x_aug, x_ipI, x_ipC, x_bits, x_getL, x_augS, x_and, x_or, x_not, x_k, x_andV, x_orV, x_notV, x_ife, x_chain, x_for, x_ilist, x_itup, x_ienum, x_irng1, x_irng2, x_irev, x_lc, x_yes, wipe_nil, wipe_cons, List.map_cons, List.map_nil, x_misc, x_misc2, x_rz, lookup_at, Bool.not_true, Bool.not_false, decide_true, decide_false, not_true, not_false_eq_true, and_assoc, exists_and_left, exists_eq_left', exists_eq_left, exists_eq', exists_eq_right', exists_eq_right, V.int.injEq, V.ref.injEq, V.bl.injEq, V.str.injEq, List.cons.injEq, and_true, true_and, and_self, Option.some.injEq, List.cons_append, List.nil_append, List.append_nil, List.getElem?_cons_zero, List.getElem?_cons_succ, List.set_cons_zero, List.set_cons_succ, reduceCtorEq, false_and, and_false, exists_false, exists_const, or_false, false_or, scal_ii, scal_bb, scal_ss, List.length_cons, List.length_nil, Int.reduceToNat, Int.reducePow])
local macro_rules | `(tactic| wtm_at "hp") => `(tactic| first | (with_reducible assumption) | exact upd_same | (refine upd_keep (by with_reducible assumption) ?_; wtm_at "hp") | (refine Same.get (by with_reducible assumption) ?_; wtm_at "hp") | (refine upd_other (by first | (with_reducible assumption) | exact Ne.symm (by with_reducible assumption)) ?_; wtm_at "hp"))
local macro_rules | `(tactic| wtm_at "sq") => `(tactic| first | (with_reducible assumption) | exact SqL.of (by wtm_at "hp") | exact SqT.of (by wtm_at "hp") | (refine Same.seq (same_upd (by with_reducible assumption)) ?_; wtm_at "sq") | (refine Same.seq (by with_reducible assumption) ?_; wtm_at "sq") | (refine Same.seqT (same_upd (by with_reducible assumption)) ?_; wtm_at "sq") | (refine Same.seqT (by with_reducible assumption) ?_; wtm_at "sq"))
local macro_rules | `(tactic| wtm_at "cl") => `(tactic| first | (with_reducible assumption) | omega | (exact cmul_r (by omega) (by omega)) | (exact cmul_l (by omega) (by omega)) | (exact cdiv_ok (by omega) (by omega)) | (exact cpow_ok (by decide)) | (exact ⟨by omega, by omega, by omega⟩) | decide | (exact ⟨by omega, by omega⟩) | (simp only [List.length_append, List.length_map, List.length_cons, List.length_nil, rngL_len, sizeLine_eq]; omega) | wtm_at "hp" | wtm_at "sq")
local macro_rules | `(tactic| wtm_at "pf") => `(tactic| first | (with_reducible assumption) | omega | (simp only [List.length_append, List.length_map, List.length_cons, List.length_nil, rngL_len]; omega) | (with_reducible rfl) | (with_reducible trivial) | (with_reducible decide))
local macro_rules | `(tactic| wtm_at "st") => `(tactic| first | ((with_reducible refine g_at ?_); refine at_call (by wtm_at "sq") (by omega) (by omega) (fun _ _ => ?_)) | ((with_reducible refine g_row ?_); refine row_call (by wtm_at "hp") ?_) | ((with_reducible refine g_int ?_); refine int_call ?_) | ((with_reducible refine g_isi ?_); first | (refine isi_int rfl ?_) | (refine isi_lst rfl (by wtm_at "hp") ?_) | (refine isi_tup rfl (by wtm_at "hp") ?_)) | ((with_reducible refine g_ned ?_); refine ned_f (dq_lst (by wtm_at "sq")) (dq_lst (by wtm_at "sq")) ?_) | ((with_reducible refine g_eqd ?_); refine eqd_t (dq_lst (by wtm_at "sq")) (dq_lst (by wtm_at "sq")) ?_) | ((with_reducible refine g_tyv ?_); refine and_tyv (by wtm_at "sq") ?_) | ((with_reducible refine g_asq ?_); refine and_sq (by wtm_at "sq") ?_) | ((with_reducible refine g_lst ?_); refine ex_lst (by wtm_at "hp") ?_) | ((with_reducible refine g_or ?_); first | (refine ex_or (by wtm_at "sq") ?_) | (refine ex_ort (by wtm_at "sq") ?_)) | ((with_reducible refine g_sq ?_); refine ex_sq (by wtm_at "sq") ?_) | ((with_reducible refine g_sqt ?_); refine ex_sqt (by wtm_at "sq") ?_) | ((with_reducible refine gd_sel ?_); first | (refine sel_p (by wtm_at "pf") ?_) | (refine sel_n (by wtm_at "pf") ?_)) | ((with_reducible refine gn_sel ?_); first | (refine selN_p (by wtm_at "pf") ?_) | (refine selN_n (by wtm_at "pf") ?_)) | ((with_reducible refine gd_selT ?_); first | (refine selT_p (by wtm_at "pf") ?_) | (refine selT_n (by wtm_at "pf") ?_)) | ((with_reducible refine gn_selT ?_); first | (refine selTN_p (by wtm_at "pf") ?_) | (refine selTN_n (by wtm_at "pf") ?_)) | ((with_reducible refine gd_selE ?_); first | (refine selE_p (by wtm_at "pf") ?_) | (refine selE_n (by wtm_at "pf") ?_)) | ((with_reducible refine gn_selE ?_); first | (refine selEN_p (by wtm_at "pf") ?_) | (refine selEN_n (by wtm_at "pf") ?_)) | ((with_reducible refine g_xf ?_); refine xf_at rfl (by wtm_at "hp") ?_) | ((with_reducible refine g_atI ?_); refine ex_at (by first | exact rfl | exact atI_int (by omega) (by wtm_at "pf")) ?_) | ((with_reducible refine g_and ?_); refine And.intro (by wtm_at "cl") ?_) | ((with_reducible refine g_new ?_); intro _ _))
local macro_rules | `(tactic| wtm_at "go") => `(tactic| repeat (first | wtm_at "xs" | wtm_at "st"))
local macro_rules | `(tactic| wtm_at "xo") => `(tactic| simp only [x_next, x_seq, x_brk, x_cont, x_drop, x_ret, x_retN, x_if, sel_t, sel_f, selE_t, selE_f, selT_t, selT_f, selC_t, selC_f, x_test, x_tB, x_op, x_un, x_var, x_c, x_cb, x_nil, x_cons, x_rI, x_rI0, x_rU, x_rEq, x_rNe, x_rIxL, x_rIxT, n_rSlL, n_rCat, n_rRep, n_rApp, x_bm, x_bm0, x_sl, x_nopart, x_part, n_tup, n_lst, x_call, x_callS, x_asg, x_gname, x_gtup, x_gnil, x_gcons, x_gsub, n_setL, x_aug, x_ipI, x_ipC, x_bits, x_getL, x_augS, x_and, x_or, x_not, x_k, x_andV, x_orV, x_notV, x_ife, x_chain, x_for, x_ilist, x_itup, x_ienum, x_irng1, x_irng2, x_irev, x_lc, x_yes, wipe_nil, wipe_cons, List.map_cons, List.map_nil, x_misc, x_misc2, x_rz, lookup_at, Bool.not_true, Bool.not_false, decide_true, decide_false, not_true, not_false_eq_true, and_assoc, exists_and_left, exists_eq_left', exists_eq_left, exists_eq', exists_eq_right', exists_eq_right, V.int.injEq, V.ref.injEq, V.bl.injEq, V.str.injEq, List.cons.injEq, and_true, true_and, and_self, Option.some.injEq, List.cons_append, List.nil_append, List.append_nil, List.getElem?_cons_zero, List.getElem?_cons_succ, List.set_cons_zero, List.set_cons_succ, reduceCtorEq, false_and, and_false, exists_false, exists_const, or_false, false_or, scal_ii, scal_bb, scal_ss, List.length_cons, List.length_nil, Int.reduceToNat, Int.reducePow, n_fld, n_dnew, n_dput, n_din, n_dget, n_dget2, n_glst, n_sfld, n_aug, n_meth, n_mw, n_make, n_kw, n_rLs, t_s1, t_i1, t_i2, t_i3, t_i4, t_i5, x_chain3, x_irng3, x_irevR, x_rg1, x_rg2, ints_cat, ints_app1, ints_len, ints_take, ints_drop, rep_one])
local macro_rules | `(tactic| k_call_by "xo" $h:term) => `(tactic| simp only [$h:term, x_next, x_seq, x_brk, x_cont, x_drop, x_ret, x_retN, x_if, sel_t, sel_f, selE_t, selE_f, selT_t, selT_f, selC_t, selC_f, x_test, x_tB, x_op, x_un, x_var, x_c, x_cb, x_nil, x_cons, x_rI, x_rI0, x_rU, x_rEq, x_rNe, x_rIxL, x_rIxT, n_rSlL, n_rCat, n_rRep, n_rApp, x_bm, x_bm0, x_sl, x_nopart, x_part, n_tup, n_lst, x_call, x_callS, x_asg, x_gname, x_gtup, x_gnil, x_gcons, x_gsub, n_setL, x_aug, x_ipI, x_ipC, x_bits, x_getL, x_augS, x_and, x_or, x_not, x_k, x_andV, x_orV, x_notV, x_ife, x_chain, x_for, x_ilist, x_itup, x_ienum, x_irng1, x_irng2, x_irev, x_lc, x_yes, wipe_nil, wipe_cons, List.map_cons, List.map_nil, x_misc, x_misc2, x_rz, lookup_at, Bool.not_true, Bool.not_false, decide_true, decide_false, not_true, not_false_eq_true, and_assoc, exists_and_left, exists_eq_left', exists_eq_left, exists_eq', exists_eq_right', exists_eq_right, V.int.injEq, V.ref.injEq, V.bl.injEq, V.str.injEq, List.cons.injEq, and_true, true_and, and_self, Option.some.injEq, List.cons_append, List.nil_append, List.append_nil, List.getElem?_cons_zero, List.getElem?_cons_succ, List.set_cons_zero, List.set_cons_succ, reduceCtorEq, false_and, and_false, exists_false, exists_const, or_false, false_or, scal_ii, scal_bb, scal_ss, List.length_cons, List.length_nil, Int.reduceToNat, Int.reducePow, n_fld, n_dnew, n_dput, n_din, n_dget, n_dget2, n_glst, n_sfld, n_aug, n_meth, n_mw, n_make, n_kw, n_rLs, t_s1, t_i1, t_i2, t_i3, t_i4, t_i5, x_chain3, x_irng3, x_irevR, x_rg1, x_rg2, ints_cat, ints_app1, ints_len, ints_take, ints_drop, rep_one])
local macro_rules | `(tactic| wtm_at "mem") => `(tactic| first | (with_reducible exact mem_here) | (with_reducible refine mem_there ?_; wtm_at "mem"))
local macro_rules | `(tactic| wtm_at "pp") => `(tactic| first | (with_reducible exact Put.here) | (with_reducible apply Put.there; wtm_at "pp"))
local macro_rules | `(tactic| wtm_at "ho") => `(tactic| first | (with_reducible assumption) | exact Own.get (by with_reducible assumption) (by wtm_at "mem") | exact Own.base (by with_reducible assumption) (by with_reducible assumption))
local macro_rules | `(tactic| wtm_at "qo") => `(tactic| first | (with_reducible assumption) | exact SqL.of (by wtm_at "ho") | exact sqT_tupI (by wtm_at "ho") | exact sqT_tupS (by wtm_at "ho") | exact SqT.of (by wtm_at "ho") | exact Own.imT (by with_reducible assumption) (by wtm_at "mem") | exact Own.sq (by with_reducible assumption) (by with_reducible assumption) | exact Own.sqT (by with_reducible assumption) (by with_reducible assumption))
local macro_rules | `(tactic| wtm_at "sub") => `(tactic| first | exact List.nil_sublist _ | (with_reducible refine List.Sublist.cons_cons _ ?_; wtm_at "sub") | (refine List.Sublist.cons _ ?_; wtm_at "sub"))
local macro_rules | `(tactic| wtm_at "co") => `(tactic| first | (with_reducible assumption) | omega | (exact cmul_r (by omega) (by omega)) | (exact cmul_l (by omega) (by omega)) | (exact cdiv_ok (by omega) (by omega)) | (exact cpow_ok (by decide)) | (exact ⟨by omega, by omega, by omega⟩) | decide | (exact ⟨by omega, by omega⟩) | (simp only [List.length_append, List.length_map, List.length_cons, List.length_nil, rngL_len, sizeLine_eq]; omega) | wtm_at "ho" | wtm_at "qo")
local macro_rules | `(tactic| wtm_at "so") => `(tactic| first | ((with_reducible refine g_dputO ?_); refine dputI (by with_reducible assumption) (by wtm_at "pp") (by wtm_at "co") (fun _ _ => ?_)) | ((with_reducible refine g_dinO ?_); refine dinI (by wtm_at "ho") ?_) | ((with_reducible refine g_isDO ?_); refine isDO (by wtm_at "ho") ?_) | ((with_reducible refine g_dg2 ?_); refine dg2I (by wtm_at "ho") ?_) | ((with_reducible refine g_fldO ?_); refine fldO (by wtm_at "ho") (by with_reducible assumption) (by wtm_at "mem") (by wtm_at "lk") ?_) | ((with_reducible refine g_fldC ?_); refine fldC (by wtm_at "ho") (by with_reducible assumption) (by wtm_at "mem") (by wtm_at "lk") ?_) | ((with_reducible refine g_putC ?_); refine putC (by with_reducible assumption) (by wtm_at "pp") (by wtm_at "pu") (by wtm_at "co") (fun _ _ => ?_)) | ((with_reducible refine g_stoO ?_); refine stoO (by with_reducible assumption) (by wtm_at "pp") (by wtm_at "pu") (by with_reducible assumption) (by wtm_at "mem") (by wtm_at "co") (fun _ _ => ?_)) | ((with_reducible refine g_metO ?_); refine metO (by wtm_at "ho") (by wtm_at "ln") ?_) | ((with_reducible refine g_makO ?_); refine makO (by with_reducible assumption) (fun _ _ _ _ => ?_)) | ((with_reducible refine g_sum ?_); refine sum_call (by wtm_at "qo") ?_) | ((with_reducible refine g_cq ?_); exact cq (by with_reducible assumption) (by simp only [rngL_len, List.length_map, List.length_take]; omega)) | ((with_reducible refine g_newO ?_); refine newO (by with_reducible assumption) (fun _ _ _ => ?_)) | ((with_reducible refine g_appO ?_); refine appI (by with_reducible assumption) (by wtm_at "pp") (by wtm_at "co") (fun _ _ => ?_)) | ((with_reducible refine g_setO ?_); refine setI (by with_reducible assumption) (by wtm_at "pp") (by omega) (by wtm_at "co") (fun _ _ => ?_)) | ((with_reducible refine g_appO ?_); refine appO (by with_reducible assumption) (by wtm_at "pp") (by wtm_at "co") (fun _ _ => ?_)) | ((with_reducible refine g_setO ?_); refine setO (by with_reducible assumption) (by wtm_at "pp") (by omega) (by wtm_at "co") (fun _ _ => ?_)) | ((with_reducible refine g_at ?_); refine at_call (by wtm_at "qo") (by omega) (by omega) (fun _ _ => ?_)) | ((with_reducible refine g_row ?_); refine row_call (by wtm_at "ho") ?_) | ((with_reducible refine g_int ?_); refine int_call ?_) | ((with_reducible refine g_isi ?_); first | (refine isi_int rfl ?_) | (refine isi_sqL rfl (by wtm_at "qo") ?_) | (refine isi_sqT rfl (by wtm_at "qo") ?_) | (refine isi_bl rfl ?_) | (refine isi_non rfl ?_) | (refine isi_str rfl ?_)) | ((with_reducible refine g_ned ?_); first | (refine ned_f (dq_lst (by wtm_at "qo")) (dq_lst (by wtm_at "qo")) ?_) | (refine ned_ints (by wtm_at "qo") (by wtm_at "qo") ?_) | (refine nedT_ints (by wtm_at "qo") (by wtm_at "qo") ?_)) | ((with_reducible refine g_eqd ?_); first | (refine eqd_t (dq_lst (by wtm_at "qo")) (dq_lst (by wtm_at "qo")) ?_) | (refine eqd_ints (by wtm_at "qo") (by wtm_at "qo") ?_) | (refine eqdT_ints (by wtm_at "qo") (by wtm_at "qo") ?_)) | ((with_reducible refine g_tyv ?_); refine and_tyv (by wtm_at "qo") ?_) | ((with_reducible refine g_asq ?_); refine and_sq (by wtm_at "qo") ?_) | ((with_reducible refine g_lst ?_); refine ex_lst (by wtm_at "ho") ?_) | ((with_reducible refine g_or ?_); first | (refine ex_or (by wtm_at "qo") ?_) | (refine ex_ort (by wtm_at "qo") ?_)) | ((with_reducible refine g_sq ?_); refine ex_sq (by wtm_at "qo") ?_) | ((with_reducible refine g_sqt ?_); refine ex_sqt (by wtm_at "qo") ?_) | ((with_reducible refine gd_sel ?_); first | (refine sel_p (by wtm_at "pf") ?_) | (refine sel_n (by wtm_at "pf") ?_)) | ((with_reducible refine gn_sel ?_); first | (refine selN_p (by wtm_at "pf") ?_) | (refine selN_n (by wtm_at "pf") ?_)) | ((with_reducible refine gd_selT ?_); first | (refine selT_p (by wtm_at "pf") ?_) | (refine selT_n (by wtm_at "pf") ?_)) | ((with_reducible refine gn_selT ?_); first | (refine selTN_p (by wtm_at "pf") ?_) | (refine selTN_n (by wtm_at "pf") ?_)) | ((with_reducible refine gd_selE ?_); first | (refine selE_p (by wtm_at "pf") ?_) | (refine selE_n (by wtm_at "pf") ?_)) | ((with_reducible refine gn_selE ?_); first | (refine selEN_p (by wtm_at "pf") ?_) | (refine selEN_n (by wtm_at "pf") ?_)) | ((with_reducible refine g_xf ?_); refine xf_at rfl (by wtm_at "ho") ?_) | ((with_reducible refine g_atI ?_); refine ex_at (by first | exact rfl | exact atI_int (by omega) (by wtm_at "pf")) ?_) | ((with_reducible refine g_and ?_); refine And.intro (by wtm_at "co") ?_))
local macro_rules | `(tactic| wtm_at "oo") => `(tactic| repeat (first | wtm_at "xo" | wtm_at "so"))
local macro_rules | `(tactic| wtm_at "cR") => `(tactic| (refine' compRi _ (by with_reducible assumption) (by omega) (fun _ _ _ _ _ => ?_) (fun _ _ _ => ?_); rotate_left; focus (wtm_at "oo")))

local macro_rules | `(tactic| wtm_at "lk") => `(tactic| first | (with_reducible exact lk_here) | (simp only [lk_here, lk_skip, lk_nil, nb_0_0, nb_0_1, nb_0_2, nb_0_3, nb_0_4, nb_0_5, nb_0_6, nb_1_0, nb_1_1, nb_1_2, nb_1_3, nb_1_4, nb_1_5, nb_1_6, nb_2_1, nb_2_2, nb_2_3, nb_2_4, nb_2_5, nb_2_6, nb_3_0, nb_3_2, nb_3_3, nb_3_4, nb_3_5, nb_3_6, nb_4_0, nb_4_1, nb_4_3, nb_4_4, nb_4_5, nb_4_6, nb_5_0, nb_5_1, nb_5_2, nb_5_4, nb_5_5, nb_5_6, nb_6_0, nb_6_1, nb_6_2, nb_6_3, nb_6_4, nb_6_5, nb_6_6, nb_7_0, nb_7_1, nb_7_2, nb_7_3, nb_7_5, nb_7_6, nb_8_0, nb_8_1, nb_8_2, nb_8_3, nb_8_4, nb_8_6, nb_9_0, nb_9_1, nb_9_2, nb_9_3, nb_9_4, nb_9_5, nb_10_0, nb_10_1, nb_10_2, nb_10_3, nb_10_4, nb_10_5, nb_10_6, nb_11_0, nb_11_1, nb_11_2, nb_11_3, nb_11_4, nb_11_5, nb_11_6, nb_12_0, nb_12_1, nb_12_2, nb_12_3, nb_12_4, nb_12_5, nb_12_6, nb_13_0, nb_13_1, nb_13_2, nb_13_3, nb_13_4, nb_13_5, nb_13_6, nb_14_0, nb_14_1, nb_14_2, nb_14_3, nb_14_4, nb_14_5, nb_14_6]; first | done | exact rfl))
local macro_rules | `(tactic| wtm_at "ln") => `(tactic| first | (with_reducible exact lk_nil) | (simp only [lk_skip, lk_nil, nb_0_0, nb_0_1, nb_0_2, nb_0_3, nb_0_4, nb_0_5, nb_0_6, nb_1_0, nb_1_1, nb_1_2, nb_1_3, nb_1_4, nb_1_5, nb_1_6, nb_2_1, nb_2_2, nb_2_3, nb_2_4, nb_2_5, nb_2_6, nb_3_0, nb_3_2, nb_3_3, nb_3_4, nb_3_5, nb_3_6, nb_4_0, nb_4_1, nb_4_3, nb_4_4, nb_4_5, nb_4_6, nb_5_0, nb_5_1, nb_5_2, nb_5_4, nb_5_5, nb_5_6, nb_6_0, nb_6_1, nb_6_2, nb_6_3, nb_6_4, nb_6_5, nb_6_6, nb_7_0, nb_7_1, nb_7_2, nb_7_3, nb_7_5, nb_7_6, nb_8_0, nb_8_1, nb_8_2, nb_8_3, nb_8_4, nb_8_6, nb_9_0, nb_9_1, nb_9_2, nb_9_3, nb_9_4, nb_9_5, nb_10_0, nb_10_1, nb_10_2, nb_10_3, nb_10_4, nb_10_5, nb_10_6, nb_11_0, nb_11_1, nb_11_2, nb_11_3, nb_11_4, nb_11_5, nb_11_6, nb_12_0, nb_12_1, nb_12_2, nb_12_3, nb_12_4, nb_12_5, nb_12_6, nb_13_0, nb_13_1, nb_13_2, nb_13_3, nb_13_4, nb_13_5, nb_13_6, nb_14_0, nb_14_1, nb_14_2, nb_14_3, nb_14_4, nb_14_5, nb_14_6]; done))
local macro_rules | `(tactic| wtm_at "pu") => `(tactic| first | (with_reducible exact pf_nil) | (simp only [pf_nil, pf_here, pf_skip, nb_0_0, nb_0_1, nb_0_2, nb_0_3, nb_0_4, nb_0_5, nb_0_6, nb_1_0, nb_1_1, nb_1_2, nb_1_3, nb_1_4, nb_1_5, nb_1_6, nb_2_1, nb_2_2, nb_2_3, nb_2_4, nb_2_5, nb_2_6, nb_3_0, nb_3_2, nb_3_3, nb_3_4, nb_3_5, nb_3_6, nb_4_0, nb_4_1, nb_4_3, nb_4_4, nb_4_5, nb_4_6, nb_5_0, nb_5_1, nb_5_2, nb_5_4, nb_5_5, nb_5_6, nb_6_0, nb_6_1, nb_6_2, nb_6_3, nb_6_4, nb_6_5, nb_6_6, nb_7_0, nb_7_1, nb_7_2, nb_7_3, nb_7_5, nb_7_6, nb_8_0, nb_8_1, nb_8_2, nb_8_3, nb_8_4, nb_8_6, nb_9_0, nb_9_1, nb_9_2, nb_9_3, nb_9_4, nb_9_5, nb_10_0, nb_10_1, nb_10_2, nb_10_3, nb_10_4, nb_10_5, nb_10_6, nb_11_0, nb_11_1, nb_11_2, nb_11_3, nb_11_4, nb_11_5, nb_11_6, nb_12_0, nb_12_1, nb_12_2, nb_12_3, nb_12_4, nb_12_5, nb_12_6, nb_13_0, nb_13_1, nb_13_2, nb_13_3, nb_13_4, nb_13_5, nb_13_6, nb_14_0, nb_14_1, nb_14_2, nb_14_3, nb_14_4, nb_14_5, nb_14_6]; first | done | exact rfl))
local macro_rules | `(tactic| wtm_at "tk") => `(tactic| first | (with_reducible exact Take.here) | (exact Take.here) | ((with_reducible apply Take.there); wtm_at "tk"))
local macro_rules | `(tactic| wtm_at "pk") => `(tactic| first | exact Pick.nil | ((with_reducible refine' Pick.cons ?tk1 ?pk1); (case tk1 => wtm_at "tk"); (case pk1 => wtm_at "pk")) | ((with_reducible refine Pick.im (by wtm_at "mem") ?_); wtm_at "pk") | ((with_reducible refine Pick.ims (by wtm_at "mem") ?_); wtm_at "pk"))
section
variable {P : Program} {w : World} {K : PySem.W.Frag} {mg : Str → Option Value} {base : Heap}
/-! ### the canonical code: its symbols part the numbers of 15 bits -/
theorem wt_pow {z : Int} (h0 : 0 < z) (h1 : z ≤ 15) : wt z = 2 ^ (15 - z.toNat) := by
  unfold wt
  rw [if_neg (by omega)]
  have key : ∀ n : Nat, n < 16 → (32768 : Int) / 2 ^ n = 2 ^ (15 - n) := by decide
  exact key _ (by omega)
/-- the weight of the lengths up to m -/
def Aw (ls : List Int) : Nat → Int
  | 0 => 0
  | m + 1 => Aw ls m + (ls.count ((m + 1 : Nat) : Int) : Nat) * 2 ^ (14 - m)
theorem Aw_mono (ls : List Int) (m : Nat) : Aw ls m ≤ Aw ls (m + 1) := by
  have : (0 : Int) ≤ (ls.count ((m + 1 : Nat) : Int) : Nat) * 2 ^ (14 - m) := Int.mul_nonneg (by omega) (Int.le_of_lt pow2_pos)
  show Aw ls m ≤ Aw ls m + _
  omega
theorem Aw_le (ls : List Int) {m n : Nat} (h : m ≤ n) : Aw ls m ≤ Aw ls n := by
  induction n with
  | zero =>
    obtain rfl : m = 0 := by omega
    exact Int.le_refl _
  | succ n ih =>
    by_cases e : m = n + 1
    · rw [e]
      exact Int.le_refl _
    · exact Int.le_trans (ih (by omega)) (Aw_mono ls n)
theorem Aw_fc {ls : List Int} : ∀ {m : Nat}, m < 15 → fc ls (m + 1) * 2 ^ (14 - m) = Aw ls m
  | 0, _ => by
    show (0 : Int) * _ = 0
    exact Int.zero_mul _
  | m + 1, h => by
    have ih := Aw_fc (ls := ls) (m := m) (by omega)
    show 2 * (fc ls (m + 1) + (ls.count ((m + 1 : Nat) : Int) : Nat)) * 2 ^ (14 - (m + 1)) = Aw ls m + (ls.count ((m + 1 : Nat) : Int) : Nat) * 2 ^ (14 - m)
    have e : (2 : Int) ^ (14 - m) = 2 * 2 ^ (14 - (m + 1)) := by
      rw [show 14 - m = (14 - (m + 1)) + 1 by omega, Int.pow_succ]
      omega
    rw [← ih, e]
    generalize (2 : Int) ^ (14 - (m + 1)) = P
    rw [Int.mul_assoc, Int.add_mul, Int.mul_add, Int.mul_left_comm, Int.mul_left_comm 2]
theorem take_count {ls : List Int} {i : Nat} {z : Int} (h : ls[i]? = some z) (m : Int) : ((ls.take (i + 1)).count m : Nat) = (ls.take i).count m + if z = m then 1 else 0 := by
  rw [List.take_add_one, h, List.count_append]
  congr 1
  by_cases c : z = m
  · rw [if_pos c, c]
    exact List.count_singleton_self
  · rw [if_neg c]
    exact count_none (fun e => c e.symm)
theorem Aw_snoc {ls : List Int} {i : Nat} {z : Int} (h : ls[i]? = some z) : ∀ m, m ≤ 15 → Aw (ls.take (i + 1)) m = Aw (ls.take i) m + if 0 < z ∧ z ≤ m then 2 ^ (15 - z.toNat) else 0
  | 0, _ => by
    rw [if_neg (by omega)]
    rfl
  | m + 1, hm => by
    have ih := Aw_snoc h m (by omega)
    show Aw (ls.take (i + 1)) m + _ = Aw (ls.take i) m + _ + _
    rw [ih, take_count h]
    by_cases c : z = ((m + 1 : Nat) : Int)
    · rw [if_pos c, if_neg (by omega), if_pos (by omega), show 15 - z.toNat = 14 - m by omega, Int.natCast_add, Int.add_mul]
      generalize (2 : Int) ^ (14 - m) = P
      show _ + 0 + (_ + 1 * P) = _
      rw [Int.one_mul]
      omega
    · rw [if_neg c]
      simp only [Nat.add_zero]
      by_cases c2 : 0 < z ∧ z ≤ m
      · rw [if_pos c2, if_pos (by omega)]
        omega
      · rw [if_neg c2, if_neg (by omega)]
        omega
theorem wts_Aw {ls : List Int} (ok : okLen ls) : ∀ {i : Nat}, i ≤ ls.length → wts (ls.take i) = Aw (ls.take i) 15
  | 0, _ => by
    show (0 : Int) = Aw [] 15
    decide
  | i + 1, h => by
    have hi : i < ls.length := by omega
    have hz : ls[i]? = some ls[i] := List.getElem?_eq_getElem hi
    have hm := List.mem_of_getElem? hz
    have z0 := ok.lo _ hm
    have z1 := ok.hi _ hm
    rw [wts_snoc hz, Aw_snoc hz 15 (Nat.le_refl _), wts_Aw ok (by omega)]
    congr 1
    by_cases c : ls[i] = 0
    · rw [if_neg (by omega), c]
      rfl
    · rw [if_pos (by omega), wt_pow (by omega) z1]
/-- the code of the symbol at k begins the bits -/
def hit (ls : List Int) (b : Int) (k : Nat) : Prop := 0 < ls.getD k 0 ∧ codeOf ls k = b / 2 ^ (15 - ls.getD k 0).toNat
instance {ls : List Int} {b : Int} {k : Nat} : Decidable (hit ls b k) := inferInstanceAs (Decidable (_ ∧ _))
def hits (ls : List Int) (b : Int) (i : Nat) : Nat := ((List.range i).filter (fun k => decide (hit ls b k))).length
theorem hits_succ {ls : List Int} {b : Int} {i : Nat} : hits ls b (i + 1) = hits ls b i + if hit ls b i then 1 else 0 := by
  unfold hits
  rw [List.range_succ, List.filter_append, List.length_append]
  congr 1
  by_cases c : hit ls b i
  · rw [if_pos c]
    simp [c]
  · rw [if_neg c]
    simp [c]
/-- by lengths -/
def Tl (ls : List Int) (b : Int) (i : Nat) : Nat → Nat
  | 0 => 0
  | m + 1 => Tl ls b i m + if fc ls (m + 1) ≤ b / 2 ^ (14 - m) ∧ b / 2 ^ (14 - m) < fc ls (m + 1) + ((ls.take i).count ((m + 1 : Nat) : Int) : Nat) then 1 else 0
theorem Tl_zero {ls : List Int} {b : Int} : ∀ m, Tl ls b 0 m = 0
  | 0 => rfl
  | m + 1 => by
    show Tl ls b 0 m + _ = 0
    rw [Tl_zero m, if_neg]
    rw [List.take_zero, List.count_nil]
    omega
theorem Tl_snoc {ls : List Int} {b : Int} {i : Nat} {z : Int} (h : ls[i]? = some z) : ∀ m, m ≤ 15 → Tl ls b (i + 1) m = Tl ls b i m + if z ≤ m ∧ hit ls b i then 1 else 0
  | 0, _ => by
    rw [if_neg]
    · rfl
    · rintro ⟨c, d, _⟩
      rw [List.getD_eq_getElem?_getD, h] at d
      have d : 0 < z := d
      omega
  | m + 1, hm => by
    have ih := Tl_snoc (b := b) h m (by omega)
    show Tl ls b (i + 1) m + _ = Tl ls b i m + _ + _
    rw [ih, take_count h]
    have e : ls.getD i 0 = z := by
      rw [List.getD_eq_getElem?_getD, h]
      rfl
    by_cases c : z = ((m + 1 : Nat) : Int)
    · have hh : hit ls b i ↔ b / 2 ^ (14 - m) = fc ls (m + 1) + ((ls.take i).count ((m + 1 : Nat) : Int) : Nat) := by
        unfold hit codeOf
        rw [e, if_neg (by omega), c, show ((m + 1 : Nat) : Int).toNat = m + 1 from Int.toNat_natCast _, show (15 - ((m + 1 : Nat) : Int)).toNat = 14 - m by omega]
        exact ⟨fun y => y.2.symm, fun y => ⟨by omega, y.symm⟩⟩
      rw [if_pos c, if_neg (fun y => by omega)]
      generalize b / 2 ^ (14 - m) = x at *
      by_cases d : x = fc ls (m + 1) + ((ls.take i).count ((m + 1 : Nat) : Int) : Nat)
      · rw [if_pos (by omega), if_neg (by omega), if_pos ⟨by omega, hh.mpr d⟩]
      · rw [if_neg (c := _ ∧ hit ls b i) (fun y => d (hh.mp y.2))]
        by_cases f : fc ls (m + 1) ≤ x ∧ x < fc ls (m + 1) + ((ls.take i).count ((m + 1 : Nat) : Int) : Nat)
        · rw [if_pos f, if_pos (by omega)]
        · rw [if_neg f, if_neg (by omega)]
    · have e1 : (if z ≤ (m : Int) ∧ hit ls b i then 1 else 0 : Nat) = if z ≤ ((m + 1 : Nat) : Int) ∧ hit ls b i then 1 else 0 := by
        by_cases d : hit ls b i
        · by_cases f : z ≤ (m : Int)
          · rw [if_pos ⟨f, d⟩, if_pos ⟨by omega, d⟩]
          · rw [if_neg (fun y => f y.1), if_neg (fun y => f (by have := y.1; omega))]
        · rw [if_neg (fun y => d y.2), if_neg (fun y => d y.2)]
      rw [if_neg c, e1]
      simp only [Nat.add_zero]
      omega
theorem hits_Tl {ls : List Int} {b : Int} (ok : okLen ls) : ∀ {i : Nat}, i ≤ ls.length → hits ls b i = Tl ls b i 15
  | 0, _ => (Tl_zero 15).symm
  | i + 1, h => by
    have hi : i < ls.length := by omega
    have hz : ls[i]? = some ls[i] := List.getElem?_eq_getElem hi
    have z1 := ok.hi _ (List.mem_of_getElem? hz)
    rw [hits_succ, Tl_snoc hz 15 (Nat.le_refl _), hits_Tl ok (by omega)]
    congr 1
    by_cases c : hit ls b i
    · rw [if_pos c, if_pos ⟨z1, c⟩]
    · rw [if_neg c, if_neg (fun y => c y.2)]
theorem Tl_all {ls : List Int} {b : Int} (hb : 0 ≤ b) : ∀ m, m ≤ 15 → Tl ls b ls.length m = if b < Aw ls m then 1 else 0
  | 0, _ => by
    rw [if_neg]
    · rfl
    · show ¬ b < 0
      omega
  | m + 1, hm => by
    have ih := Tl_all (ls := ls) hb m (by omega)
    have hf := Aw_fc (ls := ls) (m := m) (by omega)
    have hm2 := Aw_mono ls m
    have hA : Aw ls (m + 1) = (fc ls (m + 1) + (ls.count ((m + 1 : Nat) : Int) : Nat)) * 2 ^ (14 - m) := by
      rw [Int.add_mul, hf]
      rfl
    show Tl ls b ls.length m + _ = _
    rw [ih, List.take_length]
    have hP : (0 : Int) < 2 ^ (14 - m) := pow2_pos
    have e1 : fc ls (m + 1) ≤ b / 2 ^ (14 - m) ↔ Aw ls m ≤ b := by
      rw [← hf]
      exact Int.le_ediv_iff_mul_le hP
    have e2 : b / 2 ^ (14 - m) < fc ls (m + 1) + (ls.count ((m + 1 : Nat) : Int) : Nat) ↔ b < Aw ls (m + 1) := by
      rw [hA]
      exact Int.ediv_lt_iff_lt_mul hP
    by_cases c : b < Aw ls m
    · rw [if_pos c, if_neg (fun y => by have := e1.mp y.1; omega), if_pos (by omega)]
    · rw [if_neg c]
      by_cases d : b < Aw ls (m + 1)
      · rw [if_pos ⟨e1.mpr (by omega), e2.mpr d⟩, if_pos d]
      · rw [if_neg (fun y => d (e2.mp y.2)), if_neg d]
/-- how many codes begin the bits -/
theorem hits_all {ls : List Int} {b : Int} (ok : okLen ls) (hb : 0 ≤ b) : hits ls b ls.length = if b < wts ls then 1 else 0 := by
  have := wts_Aw ok (Nat.le_refl ls.length)
  rw [List.take_length] at this
  rw [hits_Tl ok (Nat.le_refl _), Tl_all hb 15 (Nat.le_refl _), this]
theorem hit_one {ls : List Int} {b : Int} (ok : okLen ls) (hb : 0 ≤ b) {j k : Nat} (hj : j < ls.length) (hk : k < ls.length) (h1 : hit ls b j) (h2 : hit ls b k) : j = k := by
  have hle : hits ls b ls.length ≤ 1 := by
    rw [hits_all ok hb]
    split <;> omega
  unfold hits at hle
  have m1 : j ∈ (List.range ls.length).filter (fun k => decide (hit ls b k)) := List.mem_filter.mpr ⟨List.mem_range.mpr hj, decide_eq_true h1⟩
  have m2 : k ∈ (List.range ls.length).filter (fun k => decide (hit ls b k)) := List.mem_filter.mpr ⟨List.mem_range.mpr hk, decide_eq_true h2⟩
  generalize (List.range ls.length).filter (fun k => decide (hit ls b k)) = fs at *
  match fs, hle, m1, m2 with
  | [x], _, m1, m2 => rw [List.mem_singleton.mp m1, List.mem_singleton.mp m2]
  | _ :: _ :: _, h, _, _ => exact absurd h (by simp)
/-- a code fits its length -/
theorem code_fits {ls : List Int} (ok : okLen ls) (hw : wts ls ≤ 32768) {k : Nat} (hk : k < ls.length) (h0 : 0 < ls.getD k 0) : 0 ≤ codeOf ls k ∧ codeOf ls k < 2 ^ (ls.getD k 0).toNat ∧ codeOf ls k * 2 ^ (15 - ls.getD k 0).toNat + 2 ^ (15 - ls.getD k 0).toNat ≤ 32768 := by
  have hz : ls[k]? = some ls[k] := List.getElem?_eq_getElem hk
  have e : ls.getD k 0 = ls[k] := by
    rw [List.getD_eq_getElem?_getD, hz]
    rfl
  have z1 := ok.hi _ (List.mem_of_getElem? hz)
  obtain ⟨m, em⟩ : ∃ m : Nat, ls.getD k 0 = ((m + 1 : Nat) : Int) := ⟨(ls.getD k 0).toNat - 1, by omega⟩
  have hm : m < 15 := by omega
  have hf := Aw_fc (ls := ls) hm
  have hA : Aw ls (m + 1) = (fc ls (m + 1) + (ls.count ((m + 1 : Nat) : Int) : Nat)) * 2 ^ (14 - m) := by
    rw [Int.add_mul, hf]
    rfl
  have hT : wts ls = Aw ls 15 := by
    have := wts_Aw ok (Nat.le_refl ls.length)
    rw [List.take_length] at this
    exact this
  have h1 := Aw_le ls (show m + 1 ≤ 15 by omega)
  have hc : (ls.take k).count ((m + 1 : Nat) : Int) < ls.count ((m + 1 : Nat) : Int) := by
    have h2 : (ls.take (k + 1)).count ((m + 1 : Nat) : Int) ≤ ls.count ((m + 1 : Nat) : Int) := (List.take_sublist _ _).count_le _
    rw [take_count hz, if_pos (by rw [← e, em])] at h2
    omega
  have hP : (0 : Int) < 2 ^ (14 - m) := pow2_pos
  have hcode : codeOf ls k = fc ls (m + 1) + ((ls.take k).count ((m + 1 : Nat) : Int) : Nat) := by
    unfold codeOf
    rw [em, if_neg (by omega), Int.toNat_natCast]
  have f0 : 0 ≤ fc ls (m + 1) := by
    have a0 := Aw_le ls (Nat.zero_le m)
    rw [← hf] at a0
    have a0 : 0 ≤ fc ls (m + 1) * 2 ^ (14 - m) := a0
    exact Int.le_of_mul_le_mul_right (by rw [Int.zero_mul]; exact a0) hP
  have up : codeOf ls k * 2 ^ (14 - m) + 2 ^ (14 - m) ≤ 32768 := by
    have h3 : (codeOf ls k + 1) * 2 ^ (14 - m) ≤ Aw ls (m + 1) := by
      rw [hA]
      exact Int.mul_le_mul_of_nonneg_right (by omega) (Int.le_of_lt hP)
    rw [Int.add_mul, Int.one_mul] at h3
    omega
  rw [em, Int.toNat_natCast, show (15 - ((m + 1 : Nat) : Int)).toNat = 14 - m by omega]
  refine ⟨by omega, ?_, up⟩
  have e15 : (32768 : Int) = 2 ^ (m + 1) * 2 ^ (14 - m) := by
    rw [← Int.pow_add, show m + 1 + (14 - m) = 15 by omega]
    rfl
  rw [e15] at up
  have h4 : (codeOf ls k + 1) * 2 ^ (14 - m) ≤ 2 ^ (m + 1) * 2 ^ (14 - m) := by
    rw [Int.add_mul, Int.one_mul]
    exact up
  have := Int.le_of_mul_le_mul_right h4 hP
  omega


end
end K11

namespace K11
open PySem PySem.Spec PyProof.Rows L2 Bel
local macro_rules | `(tactic| wtm_at "xs") => `(tactic| simp only [x_next, x_seq, x_brk, x_cont, x_drop, x_ret, x_retN, x_if, sel_t, sel_f, selE_t, selE_f, selT_t, selT_f, selC_t, selC_f, x_test, x_tB, x_op, x_un, x_var, x_c, x_cb, x_nil, x_cons, x_rI, x_rI0, x_rU, x_rEq, x_rNe, x_rIxL, x_rIxT, x_rSlL, x_rCat, x_rRep, x_rApp, x_bm, x_bm0, x_sl, x_nopart, x_part, x_tup, x_lst, x_call, x_callS, x_asg, x_gname, x_gtup, x_gnil, x_gcons, x_gsub, x_setL, x_aug, x_ipI, x_ipC, x_bits, x_getL, x_augS, x_and, x_or, x_not, x_k, x_andV, x_orV, x_notV, x_ife, x_chain, x_for, x_ilist, x_itup, x_ienum, x_irng1, x_irng2, x_irev, x_lc, x_yes, wipe_nil, wipe_cons, List.map_cons, List.map_nil, x_misc, x_misc2, x_rz, lookup_at, Bool.not_true, Bool.not_false, decide_true, decide_false, not_true, not_false_eq_true, and_assoc, exists_and_left, exists_eq_left', exists_eq_left, exists_eq', exists_eq_right', exists_eq_right, V.int.injEq, V.ref.injEq, V.bl.injEq, V.str.injEq, List.cons.injEq, and_true, true_and, and_self, Option.some.injEq, List.cons_append, List.nil_append, List.append_nil, List.getElem?_cons_zero, List.getElem?_cons_succ, List.set_cons_zero, List.set_cons_succ, reduceCtorEq, false_and, and_false, exists_false, exists_const, or_false, false_or, scal_ii, scal_bb, scal_ss, List.length_cons, List.length_nil, Int.reduceToNat, Int.reducePow])
local macro_rules | `(tactic| k_call_by "xs" $h:term) => `(tactic| simp only [$h:term, x_next, x_seq, x_brk, x_cont, x_drop, x_ret, x_retN, x_if, sel_t, sel_f, selE_t, selE_f, selT_t, selT_f, selC_t, selC_f, x_test, x_tB, x_op, x_un, x_var, x_c, x_cb, x_nil, x_cons, x_rI, x_rI0, x_rU, x_rEq, x_rNe, x_rIxL, x_rIxT, x_rSlL, x_rCat, x_rRep, x_rApp, x_bm, x_bm0, x_sl, x_nopart, x_part, x_tup, x_lst, x_call, x_callS, x_asg, x_gname, x_gtup, x_gnil, x_gcons, x_gsub, x_setL, x_aug, x_ipI, x_ipC, x_bits, x_getL, x_augS, x_and, x_or, x_not, x_k, x_andV, x_orV, x_notV, x_ife, x_chain, x_for, x_ilist, x_itup, x_ienum, x_irng1, x_irng2, x_irev, x_lc, x_yes, wipe_nil, wipe_cons, List.map_cons, List.map_nil, x_misc, x_misc2, x_rz, lookup_at, Bool.not_true, Bool.not_false, decide_true, decide_false, not_true, not_false_eq_true, and_assoc, exists_and_left, exists_eq_left', exists_eq_left, exists_eq', exists_eq_right', exists_eq_right, V.int.injEq, V.ref.injEq, V.bl.injEq, V.str.injEq, List.cons.injEq, and_true, true_and, and_self, Option.some.injEq, List.cons_append, List.nil_append, List.append_nil, List.getElem?_cons_zero, List.getElem?_cons_succ, List.set_cons_zero, List.set_cons_succ, reduceCtorEq, false_and, and_false, exists_false, exists_const, or_false, false_or, scal_ii, scal_bb, scal_ss, List.length_cons, List.length_nil, Int.reduceToNat, Int.reducePow])
local macro_rules | `(tactic| wtm_at "hp") => `(tactic| first | (with_reducible assumption) | exact upd_same | (refine upd_keep (by with_reducible assumption) ?_; wtm_at "hp") | (refine Same.get (by with_reducible assumption) ?_; wtm_at "hp") | (refine upd_other (by first | (with_reducible assumption) | exact Ne.symm (by with_reducible assumption)) ?_; wtm_at "hp"))
local macro_rules | `(tactic| wtm_at "sq") => `(tactic| first | (with_reducible assumption) | exact SqL.of (by wtm_at "hp") | exact SqT.of (by wtm_at "hp") | (refine Same.seq (same_upd (by with_reducible assumption)) ?_; wtm_at "sq") | (refine Same.seq (by with_reducible assumption) ?_; wtm_at "sq") | (refine Same.seqT (same_upd (by with_reducible assumption)) ?_; wtm_at "sq") | (refine Same.seqT (by with_reducible assumption) ?_; wtm_at "sq"))
local macro_rules | `(tactic| wtm_at "cl") => `(tactic| first | (with_reducible assumption) | omega | (exact cmul_r (by omega) (by omega)) | (exact cmul_l (by omega) (by omega)) | (exact cdiv_ok (by omega) (by omega)) | (exact cpow_ok (by decide)) | (exact ⟨by omega, by omega, by omega⟩) | decide | (exact ⟨by omega, by omega⟩) | (simp only [List.length_append, List.length_map, List.length_cons, List.length_nil, rngL_len, sizeLine_eq]; omega) | wtm_at "hp" | wtm_at "sq")
local macro_rules | `(tactic| wtm_at "pf") => `(tactic| first | (with_reducible assumption) | omega | (simp only [List.length_append, List.length_map, List.length_cons, List.length_nil, rngL_len]; omega) | (with_reducible rfl) | (with_reducible trivial) | (with_reducible decide))
local macro_rules | `(tactic| wtm_at "st") => `(tactic| first | ((with_reducible refine g_at ?_); refine at_call (by wtm_at "sq") (by omega) (by omega) (fun _ _ => ?_)) | ((with_reducible refine g_row ?_); refine row_call (by wtm_at "hp") ?_) | ((with_reducible refine g_int ?_); refine int_call ?_) | ((with_reducible refine g_isi ?_); first | (refine isi_int rfl ?_) | (refine isi_lst rfl (by wtm_at "hp") ?_) | (refine isi_tup rfl (by wtm_at "hp") ?_)) | ((with_reducible refine g_ned ?_); refine ned_f (dq_lst (by wtm_at "sq")) (dq_lst (by wtm_at "sq")) ?_) | ((with_reducible refine g_eqd ?_); refine eqd_t (dq_lst (by wtm_at "sq")) (dq_lst (by wtm_at "sq")) ?_) | ((with_reducible refine g_tyv ?_); refine and_tyv (by wtm_at "sq") ?_) | ((with_reducible refine g_asq ?_); refine and_sq (by wtm_at "sq") ?_) | ((with_reducible refine g_lst ?_); refine ex_lst (by wtm_at "hp") ?_) | ((with_reducible refine g_or ?_); first | (refine ex_or (by wtm_at "sq") ?_) | (refine ex_ort (by wtm_at "sq") ?_)) | ((with_reducible refine g_sq ?_); refine ex_sq (by wtm_at "sq") ?_) | ((with_reducible refine g_sqt ?_); refine ex_sqt (by wtm_at "sq") ?_) | ((with_reducible refine gd_sel ?_); first | (refine sel_p (by wtm_at "pf") ?_) | (refine sel_n (by wtm_at "pf") ?_)) | ((with_reducible refine gn_sel ?_); first | (refine selN_p (by wtm_at "pf") ?_) | (refine selN_n (by wtm_at "pf") ?_)) | ((with_reducible refine gd_selT ?_); first | (refine selT_p (by wtm_at "pf") ?_) | (refine selT_n (by wtm_at "pf") ?_)) | ((with_reducible refine gn_selT ?_); first | (refine selTN_p (by wtm_at "pf") ?_) | (refine selTN_n (by wtm_at "pf") ?_)) | ((with_reducible refine gd_selE ?_); first | (refine selE_p (by wtm_at "pf") ?_) | (refine selE_n (by wtm_at "pf") ?_)) | ((with_reducible refine gn_selE ?_); first | (refine selEN_p (by wtm_at "pf") ?_) | (refine selEN_n (by wtm_at "pf") ?_)) | ((with_reducible refine g_xf ?_); refine xf_at rfl (by wtm_at "hp") ?_) | ((with_reducible refine g_atI ?_); refine ex_at (by first | exact rfl | exact atI_int (by omega) (by wtm_at "pf")) ?_) | ((with_reducible refine g_and ?_); refine And.intro (by wtm_at "cl") ?_) | ((with_reducible refine g_new ?_); intro _ _))
local macro_rules | `(tactic| wtm_at "go") => `(tactic| repeat (first | wtm_at "xs" | wtm_at "st"))
local macro_rules | `(tactic| wtm_at "xo") => `(tactic| simp only [x_next, x_seq, x_brk, x_cont, x_drop, x_ret, x_retN, x_if, sel_t, sel_f, selE_t, selE_f, selT_t, selT_f, selC_t, selC_f, x_test, x_tB, x_op, x_un, x_var, x_c, x_cb, x_nil, x_cons, x_rI, x_rI0, x_rU, x_rEq, x_rNe, x_rIxL, x_rIxT, n_rSlL, n_rCat, n_rRep, n_rApp, x_bm, x_bm0, x_sl, x_nopart, x_part, n_tup, n_lst, x_call, x_callS, x_asg, x_gname, x_gtup, x_gnil, x_gcons, x_gsub, n_setL, x_aug, x_ipI, x_ipC, x_bits, x_getL, x_augS, x_and, x_or, x_not, x_k, x_andV, x_orV, x_notV, x_ife, x_chain, x_for, x_ilist, x_itup, x_ienum, x_irng1, x_irng2, x_irev, x_lc, x_yes, wipe_nil, wipe_cons, List.map_cons, List.map_nil, x_misc, x_misc2, x_rz, lookup_at, Bool.not_true, Bool.not_false, decide_true, decide_false, not_true, not_false_eq_true, and_assoc, exists_and_left, exists_eq_left', exists_eq_left, exists_eq', exists_eq_right', exists_eq_right, V.int.injEq, V.ref.injEq, V.bl.injEq, V.str.injEq, List.cons.injEq, and_true, true_and, and_self, Option.some.injEq, List.cons_append, List.nil_append, List.append_nil, List.getElem?_cons_zero, List.getElem?_cons_succ, List.set_cons_zero, List.set_cons_succ, reduceCtorEq, false_and, and_false, exists_false, exists_const, or_false, false_or, scal_ii, scal_bb, scal_ss, List.length_cons, List.length_nil, Int.reduceToNat, Int.reducePow, n_fld, n_dnew, n_dput, n_din, n_dget, n_dget2, n_glst, n_sfld, n_aug, n_meth, n_mw, n_make, n_kw, n_rLs, t_s1, t_i1, t_i2, t_i3, t_i4, t_i5, x_chain3, x_irng3, x_irevR, x_rg1, x_rg2, ints_cat, ints_app1, ints_len, ints_take, ints_drop, rep_one])
local macro_rules | `(tactic| k_call_by "xo" $h:term) => `(tactic| simp only [$h:term, x_next, x_seq, x_brk, x_cont, x_drop, x_ret, x_retN, x_if, sel_t, sel_f, selE_t, selE_f, selT_t, selT_f, selC_t, selC_f, x_test, x_tB, x_op, x_un, x_var, x_c, x_cb, x_nil, x_cons, x_rI, x_rI0, x_rU, x_rEq, x_rNe, x_rIxL, x_rIxT, n_rSlL, n_rCat, n_rRep, n_rApp, x_bm, x_bm0, x_sl, x_nopart, x_part, n_tup, n_lst, x_call, x_callS, x_asg, x_gname, x_gtup, x_gnil, x_gcons, x_gsub, n_setL, x_aug, x_ipI, x_ipC, x_bits, x_getL, x_augS, x_and, x_or, x_not, x_k, x_andV, x_orV, x_notV, x_ife, x_chain, x_for, x_ilist, x_itup, x_ienum, x_irng1, x_irng2, x_irev, x_lc, x_yes, wipe_nil, wipe_cons, List.map_cons, List.map_nil, x_misc, x_misc2, x_rz, lookup_at, Bool.not_true, Bool.not_false, decide_true, decide_false, not_true, not_false_eq_true, and_assoc, exists_and_left, exists_eq_left', exists_eq_left, exists_eq', exists_eq_right', exists_eq_right, V.int.injEq, V.ref.injEq, V.bl.injEq, V.str.injEq, List.cons.injEq, and_true, true_and, and_self, Option.some.injEq, List.cons_append, List.nil_append, List.append_nil, List.getElem?_cons_zero, List.getElem?_cons_succ, List.set_cons_zero, List.set_cons_succ, reduceCtorEq, false_and, and_false, exists_false, exists_const, or_false, false_or, scal_ii, scal_bb, scal_ss, List.length_cons, List.length_nil, Int.reduceToNat, Int.reducePow, n_fld, n_dnew, n_dput, n_din, n_dget, n_dget2, n_glst, n_sfld, n_aug, n_meth, n_mw, n_make, n_kw, n_rLs, t_s1, t_i1, t_i2, t_i3, t_i4, t_i5, x_chain3, x_irng3, x_irevR, x_rg1, x_rg2, ints_cat, ints_app1, ints_len, ints_take, ints_drop, rep_one])
local macro_rules | `(tactic| wtm_at "mem") => `(tactic| first | (with_reducible exact mem_here) | (with_reducible refine mem_there ?_; wtm_at "mem"))
local macro_rules | `(tactic| wtm_at "pp") => `(tactic| first | (with_reducible exact Put.here) | (with_reducible apply Put.there; wtm_at "pp"))
local macro_rules | `(tactic| wtm_at "ho") => `(tactic| first | (with_reducible assumption) | exact Own.get (by with_reducible assumption) (by wtm_at "mem") | exact Own.base (by with_reducible assumption) (by with_reducible assumption))
local macro_rules | `(tactic| wtm_at "qo") => `(tactic| first | (with_reducible assumption) | exact SqL.of (by wtm_at "ho") | exact sqT_tupI (by wtm_at "ho") | exact sqT_tupS (by wtm_at "ho") | exact SqT.of (by wtm_at "ho") | exact Own.imT (by with_reducible assumption) (by wtm_at "mem") | exact Own.sq (by with_reducible assumption) (by with_reducible assumption) | exact Own.sqT (by with_reducible assumption) (by with_reducible assumption))
local macro_rules | `(tactic| wtm_at "sub") => `(tactic| first | exact List.nil_sublist _ | (with_reducible refine List.Sublist.cons_cons _ ?_; wtm_at "sub") | (refine List.Sublist.cons _ ?_; wtm_at "sub"))
local macro_rules | `(tactic| wtm_at "co") => `(tactic| first | (with_reducible assumption) | omega | (exact cmul_r (by omega) (by omega)) | (exact cmul_l (by omega) (by omega)) | (exact cdiv_ok (by omega) (by omega)) | (exact cpow_ok (by decide)) | (exact ⟨by omega, by omega, by omega⟩) | decide | (exact ⟨by omega, by omega⟩) | (simp only [List.length_append, List.length_map, List.length_cons, List.length_nil, rngL_len, sizeLine_eq]; omega) | wtm_at "ho" | wtm_at "qo")
local macro_rules | `(tactic| wtm_at "so") => `(tactic| first | ((with_reducible refine g_dputO ?_); refine dputI (by with_reducible assumption) (by wtm_at "pp") (by wtm_at "co") (fun _ _ => ?_)) | ((with_reducible refine g_dinO ?_); refine dinI (by wtm_at "ho") ?_) | ((with_reducible refine g_isDO ?_); refine isDO (by wtm_at "ho") ?_) | ((with_reducible refine g_dg2 ?_); refine dg2I (by wtm_at "ho") ?_) | ((with_reducible refine g_fldO ?_); refine fldO (by wtm_at "ho") (by with_reducible assumption) (by wtm_at "mem") (by wtm_at "lk") ?_) | ((with_reducible refine g_fldC ?_); refine fldC (by wtm_at "ho") (by with_reducible assumption) (by wtm_at "mem") (by wtm_at "lk") ?_) | ((with_reducible refine g_putC ?_); refine putC (by with_reducible assumption) (by wtm_at "pp") (by wtm_at "pu") (by wtm_at "co") (fun _ _ => ?_)) | ((with_reducible refine g_stoO ?_); refine stoO (by with_reducible assumption) (by wtm_at "pp") (by wtm_at "pu") (by with_reducible assumption) (by wtm_at "mem") (by wtm_at "co") (fun _ _ => ?_)) | ((with_reducible refine g_metO ?_); refine metO (by wtm_at "ho") (by wtm_at "ln") ?_) | ((with_reducible refine g_makO ?_); refine makO (by with_reducible assumption) (fun _ _ _ _ => ?_)) | ((with_reducible refine g_sum ?_); refine sum_call (by wtm_at "qo") ?_) | ((with_reducible refine g_cq ?_); exact cq (by with_reducible assumption) (by simp only [rngL_len, List.length_map, List.length_take]; omega)) | ((with_reducible refine g_newO ?_); refine newO (by with_reducible assumption) (fun _ _ _ => ?_)) | ((with_reducible refine g_appO ?_); refine appI (by with_reducible assumption) (by wtm_at "pp") (by wtm_at "co") (fun _ _ => ?_)) | ((with_reducible refine g_setO ?_); refine setI (by with_reducible assumption) (by wtm_at "pp") (by omega) (by wtm_at "co") (fun _ _ => ?_)) | ((with_reducible refine g_appO ?_); refine appO (by with_reducible assumption) (by wtm_at "pp") (by wtm_at "co") (fun _ _ => ?_)) | ((with_reducible refine g_setO ?_); refine setO (by with_reducible assumption) (by wtm_at "pp") (by omega) (by wtm_at "co") (fun _ _ => ?_)) | ((with_reducible refine g_at ?_); refine at_call (by wtm_at "qo") (by omega) (by omega) (fun _ _ => ?_)) | ((with_reducible refine g_row ?_); refine row_call (by wtm_at "ho") ?_) | ((with_reducible refine g_int ?_); refine int_call ?_) | ((with_reducible refine g_isi ?_); first | (refine isi_int rfl ?_) | (refine isi_sqL rfl (by wtm_at "qo") ?_) | (refine isi_sqT rfl (by wtm_at "qo") ?_) | (refine isi_bl rfl ?_) | (refine isi_non rfl ?_) | (refine isi_str rfl ?_)) | ((with_reducible refine g_ned ?_); first | (refine ned_f (dq_lst (by wtm_at "qo")) (dq_lst (by wtm_at "qo")) ?_) | (refine ned_ints (by wtm_at "qo") (by wtm_at "qo") ?_) | (refine nedT_ints (by wtm_at "qo") (by wtm_at "qo") ?_)) | ((with_reducible refine g_eqd ?_); first | (refine eqd_t (dq_lst (by wtm_at "qo")) (dq_lst (by wtm_at "qo")) ?_) | (refine eqd_ints (by wtm_at "qo") (by wtm_at "qo") ?_) | (refine eqdT_ints (by wtm_at "qo") (by wtm_at "qo") ?_)) | ((with_reducible refine g_tyv ?_); refine and_tyv (by wtm_at "qo") ?_) | ((with_reducible refine g_asq ?_); refine and_sq (by wtm_at "qo") ?_) | ((with_reducible refine g_lst ?_); refine ex_lst (by wtm_at "ho") ?_) | ((with_reducible refine g_or ?_); first | (refine ex_or (by wtm_at "qo") ?_) | (refine ex_ort (by wtm_at "qo") ?_)) | ((with_reducible refine g_sq ?_); refine ex_sq (by wtm_at "qo") ?_) | ((with_reducible refine g_sqt ?_); refine ex_sqt (by wtm_at "qo") ?_) | ((with_reducible refine gd_sel ?_); first | (refine sel_p (by wtm_at "pf") ?_) | (refine sel_n (by wtm_at "pf") ?_)) | ((with_reducible refine gn_sel ?_); first | (refine selN_p (by wtm_at "pf") ?_) | (refine selN_n (by wtm_at "pf") ?_)) | ((with_reducible refine gd_selT ?_); first | (refine selT_p (by wtm_at "pf") ?_) | (refine selT_n (by wtm_at "pf") ?_)) | ((with_reducible refine gn_selT ?_); first | (refine selTN_p (by wtm_at "pf") ?_) | (refine selTN_n (by wtm_at "pf") ?_)) | ((with_reducible refine gd_selE ?_); first | (refine selE_p (by wtm_at "pf") ?_) | (refine selE_n (by wtm_at "pf") ?_)) | ((with_reducible refine gn_selE ?_); first | (refine selEN_p (by wtm_at "pf") ?_) | (refine selEN_n (by wtm_at "pf") ?_)) | ((with_reducible refine g_xf ?_); refine xf_at rfl (by wtm_at "ho") ?_) | ((with_reducible refine g_atI ?_); refine ex_at (by first | exact rfl | exact atI_int (by omega) (by wtm_at "pf")) ?_) | ((with_reducible refine g_and ?_); refine And.intro (by wtm_at "co") ?_))
local macro_rules | `(tactic| wtm_at "oo") => `(tactic| repeat (first | wtm_at "xo" | wtm_at "so"))
local macro_rules | `(tactic| wtm_at "cR") => `(tactic| (refine' compRi _ (by with_reducible assumption) (by omega) (fun _ _ _ _ _ => ?_) (fun _ _ _ => ?_); rotate_left; focus (wtm_at "oo")))

local macro_rules | `(tactic| wtm_at "lk") => `(tactic| first | (with_reducible exact lk_here) | (simp only [lk_here, lk_skip, lk_nil, nb_0_0, nb_0_1, nb_0_2, nb_0_3, nb_0_4, nb_0_5, nb_0_6, nb_1_0, nb_1_1, nb_1_2, nb_1_3, nb_1_4, nb_1_5, nb_1_6, nb_2_1, nb_2_2, nb_2_3, nb_2_4, nb_2_5, nb_2_6, nb_3_0, nb_3_2, nb_3_3, nb_3_4, nb_3_5, nb_3_6, nb_4_0, nb_4_1, nb_4_3, nb_4_4, nb_4_5, nb_4_6, nb_5_0, nb_5_1, nb_5_2, nb_5_4, nb_5_5, nb_5_6, nb_6_0, nb_6_1, nb_6_2, nb_6_3, nb_6_4, nb_6_5, nb_6_6, nb_7_0, nb_7_1, nb_7_2, nb_7_3, nb_7_5, nb_7_6, nb_8_0, nb_8_1, nb_8_2, nb_8_3, nb_8_4, nb_8_6, nb_9_0, nb_9_1, nb_9_2, nb_9_3, nb_9_4, nb_9_5, nb_10_0, nb_10_1, nb_10_2, nb_10_3, nb_10_4, nb_10_5, nb_10_6, nb_11_0, nb_11_1, nb_11_2, nb_11_3, nb_11_4, nb_11_5, nb_11_6, nb_12_0, nb_12_1, nb_12_2, nb_12_3, nb_12_4, nb_12_5, nb_12_6, nb_13_0, nb_13_1, nb_13_2, nb_13_3, nb_13_4, nb_13_5, nb_13_6, nb_14_0, nb_14_1, nb_14_2, nb_14_3, nb_14_4, nb_14_5, nb_14_6]; first | done | exact rfl))
local macro_rules | `(tactic| wtm_at "ln") => `(tactic| first | (with_reducible exact lk_nil) | (simp only [lk_skip, lk_nil, nb_0_0, nb_0_1, nb_0_2, nb_0_3, nb_0_4, nb_0_5, nb_0_6, nb_1_0, nb_1_1, nb_1_2, nb_1_3, nb_1_4, nb_1_5, nb_1_6, nb_2_1, nb_2_2, nb_2_3, nb_2_4, nb_2_5, nb_2_6, nb_3_0, nb_3_2, nb_3_3, nb_3_4, nb_3_5, nb_3_6, nb_4_0, nb_4_1, nb_4_3, nb_4_4, nb_4_5, nb_4_6, nb_5_0, nb_5_1, nb_5_2, nb_5_4, nb_5_5, nb_5_6, nb_6_0, nb_6_1, nb_6_2, nb_6_3, nb_6_4, nb_6_5, nb_6_6, nb_7_0, nb_7_1, nb_7_2, nb_7_3, nb_7_5, nb_7_6, nb_8_0, nb_8_1, nb_8_2, nb_8_3, nb_8_4, nb_8_6, nb_9_0, nb_9_1, nb_9_2, nb_9_3, nb_9_4, nb_9_5, nb_10_0, nb_10_1, nb_10_2, nb_10_3, nb_10_4, nb_10_5, nb_10_6, nb_11_0, nb_11_1, nb_11_2, nb_11_3, nb_11_4, nb_11_5, nb_11_6, nb_12_0, nb_12_1, nb_12_2, nb_12_3, nb_12_4, nb_12_5, nb_12_6, nb_13_0, nb_13_1, nb_13_2, nb_13_3, nb_13_4, nb_13_5, nb_13_6, nb_14_0, nb_14_1, nb_14_2, nb_14_3, nb_14_4, nb_14_5, nb_14_6]; done))
local macro_rules | `(tactic| wtm_at "pu") => `(tactic| first | (with_reducible exact pf_nil) | (simp only [pf_nil, pf_here, pf_skip, nb_0_0, nb_0_1, nb_0_2, nb_0_3, nb_0_4, nb_0_5, nb_0_6, nb_1_0, nb_1_1, nb_1_2, nb_1_3, nb_1_4, nb_1_5, nb_1_6, nb_2_1, nb_2_2, nb_2_3, nb_2_4, nb_2_5, nb_2_6, nb_3_0, nb_3_2, nb_3_3, nb_3_4, nb_3_5, nb_3_6, nb_4_0, nb_4_1, nb_4_3, nb_4_4, nb_4_5, nb_4_6, nb_5_0, nb_5_1, nb_5_2, nb_5_4, nb_5_5, nb_5_6, nb_6_0, nb_6_1, nb_6_2, nb_6_3, nb_6_4, nb_6_5, nb_6_6, nb_7_0, nb_7_1, nb_7_2, nb_7_3, nb_7_5, nb_7_6, nb_8_0, nb_8_1, nb_8_2, nb_8_3, nb_8_4, nb_8_6, nb_9_0, nb_9_1, nb_9_2, nb_9_3, nb_9_4, nb_9_5, nb_10_0, nb_10_1, nb_10_2, nb_10_3, nb_10_4, nb_10_5, nb_10_6, nb_11_0, nb_11_1, nb_11_2, nb_11_3, nb_11_4, nb_11_5, nb_11_6, nb_12_0, nb_12_1, nb_12_2, nb_12_3, nb_12_4, nb_12_5, nb_12_6, nb_13_0, nb_13_1, nb_13_2, nb_13_3, nb_13_4, nb_13_5, nb_13_6, nb_14_0, nb_14_1, nb_14_2, nb_14_3, nb_14_4, nb_14_5, nb_14_6]; first | done | exact rfl))
local macro_rules | `(tactic| wtm_at "tk") => `(tactic| first | (with_reducible exact Take.here) | (exact Take.here) | ((with_reducible apply Take.there); wtm_at "tk"))
local macro_rules | `(tactic| wtm_at "pk") => `(tactic| first | exact Pick.nil | ((with_reducible refine' Pick.cons ?tk1 ?pk1); (case tk1 => wtm_at "tk"); (case pk1 => wtm_at "pk")) | ((with_reducible refine Pick.im (by wtm_at "mem") ?_); wtm_at "pk") | ((with_reducible refine Pick.ims (by wtm_at "mem") ?_); wtm_at "pk"))
section
variable {P : Program} {w : World} {K : PySem.W.Frag} {mg : Str → Option Value} {base : Heap}
theorem wts_app {ls : List Int} {z : Int} : wts (ls ++ [z]) = wts ls + wt z := by
  unfold wts
  rw [List.map_append, List.sum_append]
  show _ + (wt z + 0) = _
  omega
theorem wt_nonneg (z : Int) : 0 ≤ wt z := by
  unfold wt
  split
  · exact Int.le_refl 0
  · exact Int.ediv_nonneg (by decide) (Int.le_of_lt pow2_pos)
theorem wts_nonneg (ls : List Int) : 0 ≤ wts ls := by
  induction ls with
  | nil => exact Int.le_refl 0
  | cons z r ih =>
    have := wt_nonneg z
    show 0 ≤ (wt z :: r.map wt).sum
    rw [List.sum_cons]
    unfold wts at ih
    omega
theorem wts_pre (ls : List Int) (i : Nat) : wts (ls.take i) ≤ wts ls := by
  have e : wts ls = wts (ls.take i) + wts (ls.drop i) := by
    unfold wts
    rw [← List.sum_append, ← List.map_append, List.take_append_drop]
  have := wts_nonneg (ls.drop i)
  omega
theorem wt_is {z : Int} (h : 0 < z) : wt z = 32768 / 2 ^ z.toNat := by
  unfold wt
  rw [if_neg (by omega)]
theorem okLen_snoc {ls : List Int} {z : Int} (h : okLen ls) (z0 : 0 ≤ z) (z1 : z ≤ 15) (hl : ls.length < 400) : okLen (ls ++ [z]) := by
  refine ⟨fun l m => ?_, fun l m => ?_, by rw [List.length_append, List.length_singleton]; omega⟩ <;> rcases List.mem_append.mp m with m | m
  · exact h.lo l m
  · rw [List.mem_singleton.mp m]
    exact z0
  · exact h.hi l m
  · rw [List.mem_singleton.mp m]
    exact z1


end
end K11

namespace K11
open PySem PySem.Spec PyProof.Rows L2 Bel
local macro_rules | `(tactic| wtm_at "xs") => `(tactic| simp only [x_next, x_seq, x_brk, x_cont, x_drop, x_ret, x_retN, x_if, sel_t, sel_f, selE_t, selE_f, selT_t, selT_f, selC_t, selC_f, x_test, x_tB, x_op, x_un, x_var, x_c, x_cb, x_nil, x_cons, x_rI, x_rI0, x_rU, x_rEq, x_rNe, x_rIxL, x_rIxT, x_rSlL, x_rCat, x_rRep, x_rApp, x_bm, x_bm0, x_sl, x_nopart, x_part, x_tup, x_lst, x_call, x_callS, x_asg, x_gname, x_gtup, x_gnil, x_gcons, x_gsub, x_setL, x_aug, x_ipI, x_ipC, x_bits, x_getL, x_augS, x_and, x_or, x_not, x_k, x_andV, x_orV, x_notV, x_ife, x_chain, x_for, x_ilist, x_itup, x_ienum, x_irng1, x_irng2, x_irev, x_lc, x_yes, wipe_nil, wipe_cons, List.map_cons, List.map_nil, x_misc, x_misc2, x_rz, lookup_at, Bool.not_true, Bool.not_false, decide_true, decide_false, not_true, not_false_eq_true, and_assoc, exists_and_left, exists_eq_left', exists_eq_left, exists_eq', exists_eq_right', exists_eq_right, V.int.injEq, V.ref.injEq, V.bl.injEq, V.str.injEq, List.cons.injEq, and_true, true_and, and_self, Option.some.injEq, List.cons_append, List.nil_append, List.append_nil, List.getElem?_cons_zero, List.getElem?_cons_succ, List.set_cons_zero, List.set_cons_succ, reduceCtorEq, false_and, and_false, exists_false, exists_const, or_false, false_or, scal_ii, scal_bb, scal_ss, List.length_cons, List.length_nil, Int.reduceToNat, Int.reducePow])
local macro_rules | `(tactic| k_call_by "xs" $h:term) => `(tactic| simp only [$h:term, x_next, x_seq, x_brk, x_cont, x_drop, x_ret, x_retN, x_if, sel_t, sel_f, selE_t, selE_f, selT_t, selT_f, selC_t, selC_f, x_test, x_tB, x_op, x_un, x_var, x_c, x_cb, x_nil, x_cons, x_rI, x_rI0, x_rU, x_rEq, x_rNe, x_rIxL, x_rIxT, x_rSlL, x_rCat, x_rRep, x_rApp, x_bm, x_bm0, x_sl, x_nopart, x_part, x_tup, x_lst, x_call, x_callS, x_asg, x_gname, x_gtup, x_gnil, x_gcons, x_gsub, x_setL, x_aug, x_ipI, x_ipC, x_bits, x_getL, x_augS, x_and, x_or, x_not, x_k, x_andV, x_orV, x_notV, x_ife, x_chain, x_for, x_ilist, x_itup, x_ienum, x_irng1, x_irng2, x_irev, x_lc, x_yes, wipe_nil, wipe_cons, List.map_cons, List.map_nil, x_misc, x_misc2, x_rz, lookup_at, Bool.not_true, Bool.not_false, decide_true, decide_false, not_true, not_false_eq_true, and_assoc, exists_and_left, exists_eq_left', exists_eq_left, exists_eq', exists_eq_right', exists_eq_right, V.int.injEq, V.ref.injEq, V.bl.injEq, V.str.injEq, List.cons.injEq, and_true, true_and, and_self, Option.some.injEq, List.cons_append, List.nil_append, List.append_nil, List.getElem?_cons_zero, List.getElem?_cons_succ, List.set_cons_zero, List.set_cons_succ, reduceCtorEq, false_and, and_false, exists_false, exists_const, or_false, false_or, scal_ii, scal_bb, scal_ss, List.length_cons, List.length_nil, Int.reduceToNat, Int.reducePow])
local macro_rules | `(tactic| wtm_at "hp") => `(tactic| first | (with_reducible assumption) | exact upd_same | (refine upd_keep (by with_reducible assumption) ?_; wtm_at "hp") | (refine Same.get (by with_reducible assumption) ?_; wtm_at "hp") | (refine upd_other (by first | (with_reducible assumption) | exact Ne.symm (by with_reducible assumption)) ?_; wtm_at "hp"))
local macro_rules | `(tactic| wtm_at "sq") => `(tactic| first | (with_reducible assumption) | exact SqL.of (by wtm_at "hp") | exact SqT.of (by wtm_at "hp") | (refine Same.seq (same_upd (by with_reducible assumption)) ?_; wtm_at "sq") | (refine Same.seq (by with_reducible assumption) ?_; wtm_at "sq") | (refine Same.seqT (same_upd (by with_reducible assumption)) ?_; wtm_at "sq") | (refine Same.seqT (by with_reducible assumption) ?_; wtm_at "sq"))
local macro_rules | `(tactic| wtm_at "cl") => `(tactic| first | (with_reducible assumption) | omega | (exact cmul_r (by omega) (by omega)) | (exact cmul_l (by omega) (by omega)) | (exact cdiv_ok (by omega) (by omega)) | (exact cpow_ok (by decide)) | (exact ⟨by omega, by omega, by omega⟩) | decide | (exact ⟨by omega, by omega⟩) | (simp only [List.length_append, List.length_map, List.length_cons, List.length_nil, rngL_len, sizeLine_eq]; omega) | wtm_at "hp" | wtm_at "sq")
local macro_rules | `(tactic| wtm_at "pf") => `(tactic| first | (with_reducible assumption) | omega | (simp only [List.length_append, List.length_map, List.length_cons, List.length_nil, rngL_len]; omega) | (with_reducible rfl) | (with_reducible trivial) | (with_reducible decide))
local macro_rules | `(tactic| wtm_at "st") => `(tactic| first | ((with_reducible refine g_at ?_); refine at_call (by wtm_at "sq") (by omega) (by omega) (fun _ _ => ?_)) | ((with_reducible refine g_row ?_); refine row_call (by wtm_at "hp") ?_) | ((with_reducible refine g_int ?_); refine int_call ?_) | ((with_reducible refine g_isi ?_); first | (refine isi_int rfl ?_) | (refine isi_lst rfl (by wtm_at "hp") ?_) | (refine isi_tup rfl (by wtm_at "hp") ?_)) | ((with_reducible refine g_ned ?_); refine ned_f (dq_lst (by wtm_at "sq")) (dq_lst (by wtm_at "sq")) ?_) | ((with_reducible refine g_eqd ?_); refine eqd_t (dq_lst (by wtm_at "sq")) (dq_lst (by wtm_at "sq")) ?_) | ((with_reducible refine g_tyv ?_); refine and_tyv (by wtm_at "sq") ?_) | ((with_reducible refine g_asq ?_); refine and_sq (by wtm_at "sq") ?_) | ((with_reducible refine g_lst ?_); refine ex_lst (by wtm_at "hp") ?_) | ((with_reducible refine g_or ?_); first | (refine ex_or (by wtm_at "sq") ?_) | (refine ex_ort (by wtm_at "sq") ?_)) | ((with_reducible refine g_sq ?_); refine ex_sq (by wtm_at "sq") ?_) | ((with_reducible refine g_sqt ?_); refine ex_sqt (by wtm_at "sq") ?_) | ((with_reducible refine gd_sel ?_); first | (refine sel_p (by wtm_at "pf") ?_) | (refine sel_n (by wtm_at "pf") ?_)) | ((with_reducible refine gn_sel ?_); first | (refine selN_p (by wtm_at "pf") ?_) | (refine selN_n (by wtm_at "pf") ?_)) | ((with_reducible refine gd_selT ?_); first | (refine selT_p (by wtm_at "pf") ?_) | (refine selT_n (by wtm_at "pf") ?_)) | ((with_reducible refine gn_selT ?_); first | (refine selTN_p (by wtm_at "pf") ?_) | (refine selTN_n (by wtm_at "pf") ?_)) | ((with_reducible refine gd_selE ?_); first | (refine selE_p (by wtm_at "pf") ?_) | (refine selE_n (by wtm_at "pf") ?_)) | ((with_reducible refine gn_selE ?_); first | (refine selEN_p (by wtm_at "pf") ?_) | (refine selEN_n (by wtm_at "pf") ?_)) | ((with_reducible refine g_xf ?_); refine xf_at rfl (by wtm_at "hp") ?_) | ((with_reducible refine g_atI ?_); refine ex_at (by first | exact rfl | exact atI_int (by omega) (by wtm_at "pf")) ?_) | ((with_reducible refine g_and ?_); refine And.intro (by wtm_at "cl") ?_) | ((with_reducible refine g_new ?_); intro _ _))
local macro_rules | `(tactic| wtm_at "go") => `(tactic| repeat (first | wtm_at "xs" | wtm_at "st"))
local macro_rules | `(tactic| wtm_at "xo") => `(tactic| simp only [x_next, x_seq, x_brk, x_cont, x_drop, x_ret, x_retN, x_if, sel_t, sel_f, selE_t, selE_f, selT_t, selT_f, selC_t, selC_f, x_test, x_tB, x_op, x_un, x_var, x_c, x_cb, x_nil, x_cons, x_rI, x_rI0, x_rU, x_rEq, x_rNe, x_rIxL, x_rIxT, n_rSlL, n_rCat, n_rRep, n_rApp, x_bm, x_bm0, x_sl, x_nopart, x_part, n_tup, n_lst, x_call, x_callS, x_asg, x_gname, x_gtup, x_gnil, x_gcons, x_gsub, n_setL, x_aug, x_ipI, x_ipC, x_bits, x_getL, x_augS, x_and, x_or, x_not, x_k, x_andV, x_orV, x_notV, x_ife, x_chain, x_for, x_ilist, x_itup, x_ienum, x_irng1, x_irng2, x_irev, x_lc, x_yes, wipe_nil, wipe_cons, List.map_cons, List.map_nil, x_misc, x_misc2, x_rz, lookup_at, Bool.not_true, Bool.not_false, decide_true, decide_false, not_true, not_false_eq_true, and_assoc, exists_and_left, exists_eq_left', exists_eq_left, exists_eq', exists_eq_right', exists_eq_right, V.int.injEq, V.ref.injEq, V.bl.injEq, V.str.injEq, List.cons.injEq, and_true, true_and, and_self, Option.some.injEq, List.cons_append, List.nil_append, List.append_nil, List.getElem?_cons_zero, List.getElem?_cons_succ, List.set_cons_zero, List.set_cons_succ, reduceCtorEq, false_and, and_false, exists_false, exists_const, or_false, false_or, scal_ii, scal_bb, scal_ss, List.length_cons, List.length_nil, Int.reduceToNat, Int.reducePow, n_fld, n_dnew, n_dput, n_din, n_dget, n_dget2, n_glst, n_sfld, n_aug, n_meth, n_mw, n_make, n_kw, n_rLs, t_s1, t_i1, t_i2, t_i3, t_i4, t_i5, x_chain3, x_irng3, x_irevR, x_rg1, x_rg2, ints_cat, ints_app1, ints_len, ints_take, ints_drop, rep_one])
local macro_rules | `(tactic| k_call_by "xo" $h:term) => `(tactic| simp only [$h:term, x_next, x_seq, x_brk, x_cont, x_drop, x_ret, x_retN, x_if, sel_t, sel_f, selE_t, selE_f, selT_t, selT_f, selC_t, selC_f, x_test, x_tB, x_op, x_un, x_var, x_c, x_cb, x_nil, x_cons, x_rI, x_rI0, x_rU, x_rEq, x_rNe, x_rIxL, x_rIxT, n_rSlL, n_rCat, n_rRep, n_rApp, x_bm, x_bm0, x_sl, x_nopart, x_part, n_tup, n_lst, x_call, x_callS, x_asg, x_gname, x_gtup, x_gnil, x_gcons, x_gsub, n_setL, x_aug, x_ipI, x_ipC, x_bits, x_getL, x_augS, x_and, x_or, x_not, x_k, x_andV, x_orV, x_notV, x_ife, x_chain, x_for, x_ilist, x_itup, x_ienum, x_irng1, x_irng2, x_irev, x_lc, x_yes, wipe_nil, wipe_cons, List.map_cons, List.map_nil, x_misc, x_misc2, x_rz, lookup_at, Bool.not_true, Bool.not_false, decide_true, decide_false, not_true, not_false_eq_true, and_assoc, exists_and_left, exists_eq_left', exists_eq_left, exists_eq', exists_eq_right', exists_eq_right, V.int.injEq, V.ref.injEq, V.bl.injEq, V.str.injEq, List.cons.injEq, and_true, true_and, and_self, Option.some.injEq, List.cons_append, List.nil_append, List.append_nil, List.getElem?_cons_zero, List.getElem?_cons_succ, List.set_cons_zero, List.set_cons_succ, reduceCtorEq, false_and, and_false, exists_false, exists_const, or_false, false_or, scal_ii, scal_bb, scal_ss, List.length_cons, List.length_nil, Int.reduceToNat, Int.reducePow, n_fld, n_dnew, n_dput, n_din, n_dget, n_dget2, n_glst, n_sfld, n_aug, n_meth, n_mw, n_make, n_kw, n_rLs, t_s1, t_i1, t_i2, t_i3, t_i4, t_i5, x_chain3, x_irng3, x_irevR, x_rg1, x_rg2, ints_cat, ints_app1, ints_len, ints_take, ints_drop, rep_one])
local macro_rules | `(tactic| wtm_at "mem") => `(tactic| first | (with_reducible exact mem_here) | (with_reducible refine mem_there ?_; wtm_at "mem"))
local macro_rules | `(tactic| wtm_at "pp") => `(tactic| first | (with_reducible exact Put.here) | (with_reducible apply Put.there; wtm_at "pp"))
local macro_rules | `(tactic| wtm_at "ho") => `(tactic| first | (with_reducible assumption) | exact Own.get (by with_reducible assumption) (by wtm_at "mem") | exact Own.base (by with_reducible assumption) (by with_reducible assumption))
local macro_rules | `(tactic| wtm_at "qo") => `(tactic| first | (with_reducible assumption) | exact SqL.of (by wtm_at "ho") | exact sqT_tupI (by wtm_at "ho") | exact sqT_tupS (by wtm_at "ho") | exact SqT.of (by wtm_at "ho") | exact Own.imT (by with_reducible assumption) (by wtm_at "mem") | exact Own.sq (by with_reducible assumption) (by with_reducible assumption) | exact Own.sqT (by with_reducible assumption) (by with_reducible assumption))
local macro_rules | `(tactic| wtm_at "sub") => `(tactic| first | exact List.nil_sublist _ | (with_reducible refine List.Sublist.cons_cons _ ?_; wtm_at "sub") | (refine List.Sublist.cons _ ?_; wtm_at "sub"))
local macro_rules | `(tactic| wtm_at "co") => `(tactic| first | (with_reducible assumption) | omega | (exact cmul_r (by omega) (by omega)) | (exact cmul_l (by omega) (by omega)) | (exact cdiv_ok (by omega) (by omega)) | (exact cpow_ok (by decide)) | (exact ⟨by omega, by omega, by omega⟩) | decide | (exact ⟨by omega, by omega⟩) | (simp only [List.length_append, List.length_map, List.length_cons, List.length_nil, rngL_len, sizeLine_eq]; omega) | wtm_at "ho" | wtm_at "qo")
local macro_rules | `(tactic| wtm_at "so") => `(tactic| first | ((with_reducible refine g_dputO ?_); refine dputI (by with_reducible assumption) (by wtm_at "pp") (by wtm_at "co") (fun _ _ => ?_)) | ((with_reducible refine g_dinO ?_); refine dinI (by wtm_at "ho") ?_) | ((with_reducible refine g_isDO ?_); refine isDO (by wtm_at "ho") ?_) | ((with_reducible refine g_dg2 ?_); refine dg2I (by wtm_at "ho") ?_) | ((with_reducible refine g_fldO ?_); refine fldO (by wtm_at "ho") (by with_reducible assumption) (by wtm_at "mem") (by wtm_at "lk") ?_) | ((with_reducible refine g_fldC ?_); refine fldC (by wtm_at "ho") (by with_reducible assumption) (by wtm_at "mem") (by wtm_at "lk") ?_) | ((with_reducible refine g_putC ?_); refine putC (by with_reducible assumption) (by wtm_at "pp") (by wtm_at "pu") (by wtm_at "co") (fun _ _ => ?_)) | ((with_reducible refine g_stoO ?_); refine stoO (by with_reducible assumption) (by wtm_at "pp") (by wtm_at "pu") (by with_reducible assumption) (by wtm_at "mem") (by wtm_at "co") (fun _ _ => ?_)) | ((with_reducible refine g_metO ?_); refine metO (by wtm_at "ho") (by wtm_at "ln") ?_) | ((with_reducible refine g_makO ?_); refine makO (by with_reducible assumption) (fun _ _ _ _ => ?_)) | ((with_reducible refine g_sum ?_); refine sum_call (by wtm_at "qo") ?_) | ((with_reducible refine g_cq ?_); exact cq (by with_reducible assumption) (by simp only [rngL_len, List.length_map, List.length_take]; omega)) | ((with_reducible refine g_newO ?_); refine newO (by with_reducible assumption) (fun _ _ _ => ?_)) | ((with_reducible refine g_appO ?_); refine appI (by with_reducible assumption) (by wtm_at "pp") (by wtm_at "co") (fun _ _ => ?_)) | ((with_reducible refine g_setO ?_); refine setI (by with_reducible assumption) (by wtm_at "pp") (by omega) (by wtm_at "co") (fun _ _ => ?_)) | ((with_reducible refine g_appO ?_); refine appO (by with_reducible assumption) (by wtm_at "pp") (by wtm_at "co") (fun _ _ => ?_)) | ((with_reducible refine g_setO ?_); refine setO (by with_reducible assumption) (by wtm_at "pp") (by omega) (by wtm_at "co") (fun _ _ => ?_)) | ((with_reducible refine g_at ?_); refine at_call (by wtm_at "qo") (by omega) (by omega) (fun _ _ => ?_)) | ((with_reducible refine g_row ?_); refine row_call (by wtm_at "ho") ?_) | ((with_reducible refine g_int ?_); refine int_call ?_) | ((with_reducible refine g_isi ?_); first | (refine isi_int rfl ?_) | (refine isi_sqL rfl (by wtm_at "qo") ?_) | (refine isi_sqT rfl (by wtm_at "qo") ?_) | (refine isi_bl rfl ?_) | (refine isi_non rfl ?_) | (refine isi_str rfl ?_)) | ((with_reducible refine g_ned ?_); first | (refine ned_f (dq_lst (by wtm_at "qo")) (dq_lst (by wtm_at "qo")) ?_) | (refine ned_ints (by wtm_at "qo") (by wtm_at "qo") ?_) | (refine nedT_ints (by wtm_at "qo") (by wtm_at "qo") ?_)) | ((with_reducible refine g_eqd ?_); first | (refine eqd_t (dq_lst (by wtm_at "qo")) (dq_lst (by wtm_at "qo")) ?_) | (refine eqd_ints (by wtm_at "qo") (by wtm_at "qo") ?_) | (refine eqdT_ints (by wtm_at "qo") (by wtm_at "qo") ?_)) | ((with_reducible refine g_tyv ?_); refine and_tyv (by wtm_at "qo") ?_) | ((with_reducible refine g_asq ?_); refine and_sq (by wtm_at "qo") ?_) | ((with_reducible refine g_lst ?_); refine ex_lst (by wtm_at "ho") ?_) | ((with_reducible refine g_or ?_); first | (refine ex_or (by wtm_at "qo") ?_) | (refine ex_ort (by wtm_at "qo") ?_)) | ((with_reducible refine g_sq ?_); refine ex_sq (by wtm_at "qo") ?_) | ((with_reducible refine g_sqt ?_); refine ex_sqt (by wtm_at "qo") ?_) | ((with_reducible refine gd_sel ?_); first | (refine sel_p (by wtm_at "pf") ?_) | (refine sel_n (by wtm_at "pf") ?_)) | ((with_reducible refine gn_sel ?_); first | (refine selN_p (by wtm_at "pf") ?_) | (refine selN_n (by wtm_at "pf") ?_)) | ((with_reducible refine gd_selT ?_); first | (refine selT_p (by wtm_at "pf") ?_) | (refine selT_n (by wtm_at "pf") ?_)) | ((with_reducible refine gn_selT ?_); first | (refine selTN_p (by wtm_at "pf") ?_) | (refine selTN_n (by wtm_at "pf") ?_)) | ((with_reducible refine gd_selE ?_); first | (refine selE_p (by wtm_at "pf") ?_) | (refine selE_n (by wtm_at "pf") ?_)) | ((with_reducible refine gn_selE ?_); first | (refine selEN_p (by wtm_at "pf") ?_) | (refine selEN_n (by wtm_at "pf") ?_)) | ((with_reducible refine g_xf ?_); refine xf_at rfl (by wtm_at "ho") ?_) | ((with_reducible refine g_atI ?_); refine ex_at (by first | exact rfl | exact atI_int (by omega) (by wtm_at "pf")) ?_) | ((with_reducible refine g_and ?_); refine And.intro (by wtm_at "co") ?_))
local macro_rules | `(tactic| wtm_at "oo") => `(tactic| repeat (first | wtm_at "xo" | wtm_at "so"))
local macro_rules | `(tactic| wtm_at "cR") => `(tactic| (refine' compRi _ (by with_reducible assumption) (by omega) (fun _ _ _ _ _ => ?_) (fun _ _ _ => ?_); rotate_left; focus (wtm_at "oo")))

local macro_rules | `(tactic| wtm_at "lk") => `(tactic| first | (with_reducible exact lk_here) | (simp only [lk_here, lk_skip, lk_nil, nb_0_0, nb_0_1, nb_0_2, nb_0_3, nb_0_4, nb_0_5, nb_0_6, nb_1_0, nb_1_1, nb_1_2, nb_1_3, nb_1_4, nb_1_5, nb_1_6, nb_2_1, nb_2_2, nb_2_3, nb_2_4, nb_2_5, nb_2_6, nb_3_0, nb_3_2, nb_3_3, nb_3_4, nb_3_5, nb_3_6, nb_4_0, nb_4_1, nb_4_3, nb_4_4, nb_4_5, nb_4_6, nb_5_0, nb_5_1, nb_5_2, nb_5_4, nb_5_5, nb_5_6, nb_6_0, nb_6_1, nb_6_2, nb_6_3, nb_6_4, nb_6_5, nb_6_6, nb_7_0, nb_7_1, nb_7_2, nb_7_3, nb_7_5, nb_7_6, nb_8_0, nb_8_1, nb_8_2, nb_8_3, nb_8_4, nb_8_6, nb_9_0, nb_9_1, nb_9_2, nb_9_3, nb_9_4, nb_9_5, nb_10_0, nb_10_1, nb_10_2, nb_10_3, nb_10_4, nb_10_5, nb_10_6, nb_11_0, nb_11_1, nb_11_2, nb_11_3, nb_11_4, nb_11_5, nb_11_6, nb_12_0, nb_12_1, nb_12_2, nb_12_3, nb_12_4, nb_12_5, nb_12_6, nb_13_0, nb_13_1, nb_13_2, nb_13_3, nb_13_4, nb_13_5, nb_13_6, nb_14_0, nb_14_1, nb_14_2, nb_14_3, nb_14_4, nb_14_5, nb_14_6]; first | done | exact rfl))
local macro_rules | `(tactic| wtm_at "ln") => `(tactic| first | (with_reducible exact lk_nil) | (simp only [lk_skip, lk_nil, nb_0_0, nb_0_1, nb_0_2, nb_0_3, nb_0_4, nb_0_5, nb_0_6, nb_1_0, nb_1_1, nb_1_2, nb_1_3, nb_1_4, nb_1_5, nb_1_6, nb_2_1, nb_2_2, nb_2_3, nb_2_4, nb_2_5, nb_2_6, nb_3_0, nb_3_2, nb_3_3, nb_3_4, nb_3_5, nb_3_6, nb_4_0, nb_4_1, nb_4_3, nb_4_4, nb_4_5, nb_4_6, nb_5_0, nb_5_1, nb_5_2, nb_5_4, nb_5_5, nb_5_6, nb_6_0, nb_6_1, nb_6_2, nb_6_3, nb_6_4, nb_6_5, nb_6_6, nb_7_0, nb_7_1, nb_7_2, nb_7_3, nb_7_5, nb_7_6, nb_8_0, nb_8_1, nb_8_2, nb_8_3, nb_8_4, nb_8_6, nb_9_0, nb_9_1, nb_9_2, nb_9_3, nb_9_4, nb_9_5, nb_10_0, nb_10_1, nb_10_2, nb_10_3, nb_10_4, nb_10_5, nb_10_6, nb_11_0, nb_11_1, nb_11_2, nb_11_3, nb_11_4, nb_11_5, nb_11_6, nb_12_0, nb_12_1, nb_12_2, nb_12_3, nb_12_4, nb_12_5, nb_12_6, nb_13_0, nb_13_1, nb_13_2, nb_13_3, nb_13_4, nb_13_5, nb_13_6, nb_14_0, nb_14_1, nb_14_2, nb_14_3, nb_14_4, nb_14_5, nb_14_6]; done))
local macro_rules | `(tactic| wtm_at "pu") => `(tactic| first | (with_reducible exact pf_nil) | (simp only [pf_nil, pf_here, pf_skip, nb_0_0, nb_0_1, nb_0_2, nb_0_3, nb_0_4, nb_0_5, nb_0_6, nb_1_0, nb_1_1, nb_1_2, nb_1_3, nb_1_4, nb_1_5, nb_1_6, nb_2_1, nb_2_2, nb_2_3, nb_2_4, nb_2_5, nb_2_6, nb_3_0, nb_3_2, nb_3_3, nb_3_4, nb_3_5, nb_3_6, nb_4_0, nb_4_1, nb_4_3, nb_4_4, nb_4_5, nb_4_6, nb_5_0, nb_5_1, nb_5_2, nb_5_4, nb_5_5, nb_5_6, nb_6_0, nb_6_1, nb_6_2, nb_6_3, nb_6_4, nb_6_5, nb_6_6, nb_7_0, nb_7_1, nb_7_2, nb_7_3, nb_7_5, nb_7_6, nb_8_0, nb_8_1, nb_8_2, nb_8_3, nb_8_4, nb_8_6, nb_9_0, nb_9_1, nb_9_2, nb_9_3, nb_9_4, nb_9_5, nb_10_0, nb_10_1, nb_10_2, nb_10_3, nb_10_4, nb_10_5, nb_10_6, nb_11_0, nb_11_1, nb_11_2, nb_11_3, nb_11_4, nb_11_5, nb_11_6, nb_12_0, nb_12_1, nb_12_2, nb_12_3, nb_12_4, nb_12_5, nb_12_6, nb_13_0, nb_13_1, nb_13_2, nb_13_3, nb_13_4, nb_13_5, nb_13_6, nb_14_0, nb_14_1, nb_14_2, nb_14_3, nb_14_4, nb_14_5, nb_14_6]; first | done | exact rfl))
local macro_rules | `(tactic| wtm_at "tk") => `(tactic| first | (with_reducible exact Take.here) | (exact Take.here) | ((with_reducible apply Take.there); wtm_at "tk"))
local macro_rules | `(tactic| wtm_at "pk") => `(tactic| first | exact Pick.nil | ((with_reducible refine' Pick.cons ?tk1 ?pk1); (case tk1 => wtm_at "tk"); (case pk1 => wtm_at "pk")) | ((with_reducible refine Pick.im (by wtm_at "mem") ?_); wtm_at "pk") | ((with_reducible refine Pick.ims (by wtm_at "mem") ?_); wtm_at "pk"))
section
variable {P : Program} {w : World} {K : PySem.W.Frag} {mg : Str → Option Value} {base : Heap}
/-- the codes set so far: all lengths up to i, of i + 1 those below j -/
def outF (ls : List Int) (i j k : Nat) : Int := if ls.getD k 0 ≠ 0 ∧ (ls.getD k 0 ≤ i ∨ (k < j ∧ ls.getD k 0 = (i : Int) + 1)) then codeOf ls k else 0
theorem rngL_congr {f g : Nat → Int} {n : Nat} (h : ∀ k, k < n → f k = g k) : rngL f n = rngL g n := List.map_congr_left fun k m => h k (List.mem_range.mp m)
theorem rngL_set {f g : Nat → Int} {n j : Nat} {v : Int} (h : ∀ k, k < n → g k = if k = j then v else f k) : (rngL f n).set j v = rngL g n := by
  refine List.ext_getElem (by rw [List.length_set, rngL_len, rngL_len]) fun k a b => ?_
  rw [rngL_len] at b
  rw [List.getElem_set]
  simp only [rngL, List.getElem_map, List.getElem_range]
  rw [h k b]
  by_cases e : j = k
  · rw [if_pos e, if_pos e.symm]
  · rw [if_neg e, if_neg (Ne.symm e)]
theorem outF_next {ls : List Int} {i n : Nat} (hn : ls.length = n) : rngL (outF ls i n) n = rngL (outF ls (i + 1) 0) n := by
  refine rngL_congr fun k hk => ?_
  unfold outF
  by_cases c : ls.getD k 0 ≠ 0 ∧ (ls.getD k 0 ≤ i ∨ (k < n ∧ ls.getD k 0 = (i : Int) + 1))
  · rw [if_pos c, if_pos ⟨c.1, by omega⟩]
  · rw [if_neg c, if_neg]
    intro z
    exact c ⟨z.1, by omega⟩
theorem outF_last {ls : List Int} (ok : okLen ls) : rngL (outF ls 15 0) ls.length = rngL (codeOf ls) ls.length := by
  refine rngL_congr fun k hk => ?_
  unfold outF
  by_cases e : ls.getD k 0 = 0
  · rw [if_neg (fun z => z.1 e)]
    unfold codeOf
    rw [if_pos e]
  · have m : ls.getD k 0 ∈ ls := by
      rw [List.getD_eq_getElem?_getD, List.getElem?_eq_getElem hk]
      exact List.getElem_mem hk
    have := ok.hi _ m
    rw [if_pos ⟨e, .inl (by omega)⟩]
def sp__law_codes (K : PySem.W.Frag) : Sp := fun vs H Q _ => ∃ (a : Addr) (ls : List Int), vs = [.ref a] ∧ SqL K H a (ls.map V.int) ∧ okLen ls ∧ ∀ p H', Own K H H' [pI p (rngL (codeOf ls) ls.length)] → Q (.ref p) H'
theorem ok__law_codes (T : Tx K mg) : Cl P w K mg base 1 "_law_codes" ["lengths"] (sp__law_codes K) [] := by
  obtain ⟨gm, fd, F⟩ := T.d__law_codes
  refine ⟨_, fd, [], F.ok sc__law_codes (fun vs H Q E h => ?_) (fun cdv A outer s H vs Q E hr h => ⟨_, (PSs.nox (pss_cons (ps_setLc (i := 1) (own := [("length", 2)]) (g := (gName 2)) (tt := tYes) rfl sc__law_codes.nd rfl rfl (sw_true rfl rfl rfl (by decide +kernel)) (pi_list (pv 0)) (blkOk_by (own := [("length", 2)]) (N := N__law_codes) (sc := defScope s__law_codes) (by decide +kernel)) (fun _ _ _ _ _ => pg_name (i := 2) sc__law_codes.nd rfl (Or.inl rfl)) (fun _ _ _ _ _ => pts_nil) (fun _ _ _ _ _ => pe_int))
 (pss_cons (ps_set (i := 3) sc__law_codes.nd rfl (Or.inl rfl) (by exact pe_int))
 (pss_cons (ps_for PassesOwn.never rfl (pi_range2 rfl T.b_range (pa_cons pe_int (pa_cons pe_int pa_nil))) (pg_name (i := 4) sc__law_codes.nd rfl (Or.inl rfl))
 (pss_cons (ps_set (i := 5) sc__law_codes.nd rfl (Or.inl rfl) (by exact (pv 3)))
 (pss_cons (ps_for PassesOwn.never rfl (pi_range1 rfl T.b_range (pa_cons (pe_callB (lenK K) rfl T.b_len (by decide +kernel) (pa_cons (pv 0) pa_nil)) pa_nil)) (pg_name (i := 6) sc__law_codes.nd rfl (Or.inl rfl))
 (pss_one (ps_if (pt_cmpR op_eq (pe_ix (ixl K) (pv 0) (pv 6) (fun _ _ => rfl)) (pv 4) (nomark _))
 (pss_cons (ps_asg (pv 5) (pg_sub (pv 1) (pv 6) set_list))
 (pss_one (ps_set (i := 5) sc__law_codes.nd rfl (Or.inl rfl) (by exact (pe_op op_add (pv 5) pe_int)))))
 pss_nil)))
 (pss_one (ps_set (i := 3) sc__law_codes.nd rfl (Or.inl rfl) (by exact (pe_op op_mul pe_int (pv 5))))))))
 (pss_one (ps_ret (by exact (pv 1)))))))), ?_⟩), gm, F.kp, F.bindsN (fun _ _ _ _ _ _ us hl => match us, hl with | [_], _ => rfl), .nil⟩
  · first | (obtain ⟨rfl, _⟩ := h; rfl) | (obtain ⟨_, rfl, _⟩ := h; rfl) | (obtain ⟨_, _, rfl, _⟩ := h; rfl) | (obtain ⟨_, _, _, rfl, _⟩ := h; rfl) | (obtain ⟨_, _, _, _, rfl, _⟩ := h; rfl) | (obtain ⟨_, _, _, _, _, rfl, _⟩ := h; rfl) | (obtain ⟨_, _, _, _, _, _, rfl, _⟩ := h; rfl) | (obtain ⟨_, _, _, _, _, _, _, rfl, _⟩ := h; rfl) | (obtain ⟨_, _, _, _, _, _, _, _, rfl, _⟩ := h; rfl) | (obtain ⟨_, _, _, _, _, _, _, _, _, rfl, _⟩ := h; rfl) | (obtain ⟨_, _, _, _, _, _, _, _, _, _, rfl, _⟩ := h; rfl) | (obtain ⟨_, _, _, _, _, _, _, _, _, _, _, rfl, _⟩ := h; rfl) | (obtain ⟨_, _, _, _, _, _, _, _, _, _, _, _, rfl, _⟩ := h; rfl) | (obtain ⟨_, _, _, _, _, _, _, _, _, _, _, _, _, rfl, _⟩ := h; rfl) | (obtain ⟨_, _, _, _, _, _, _, _, _, _, _, _, _, _, rfl, _⟩ := h; rfl) | (obtain ⟨_, _, _, _, _, _, _, _, _, _, _, _, _, _, _, rfl, _⟩ := h; rfl) | (obtain ⟨_, _, _, _, _, _, _, _, _, _, _, _, _, _, _, _, rfl, _⟩ := h; rfl) | (obtain ⟨_, _, _, _, _, _, _, _, _, _, _, _, _, _, _, _, _, rfl, _⟩ := h; rfl) | (obtain ⟨_, _, _, _, _, _, _, _, _, _, _, _, _, _, _, _, _, _, rfl, _⟩ := h; rfl) | (obtain ⟨_, _, _, _, _, _, _, _, _, _, _, _, _, _, _, _, _, _, _, rfl, _⟩ := h; rfl) | (obtain ⟨_, _, _, _, _, _, _, _, _, _, _, _, _, _, _, _, _, _, _, _, rfl, _⟩ := h; rfl) | (obtain ⟨_, _, _, _, _, _, _, _, _, _, _, _, _, _, _, _, _, _, _, _, _, rfl, _⟩ := h; rfl)
  · obtain ⟨a, ls, rfl, hS, ok, q⟩ := h
    k_call_by "xo" st__law_codes
    have hlen := ok.len
    have L := Own.start (K := K) (H := H)
    wtm_at "oo"
    refine compLi (xs := ls) (fun _ => 0) L hS (by omega) (fun k x D H1 hx L1 => ?_) (fun H' L => L.sq hS) (fun D H1 L1 => ?_)
    · wtm_at "oo"
    have e0 : ls.map (fun _ => (0 : Int)) = rngL (outF ls 0 0) ls.length := by
      refine List.ext_getElem (by rw [List.length_map, rngL_len]) fun k a b => ?_
      simp only [rngL, List.getElem_map, List.getElem_range]
      unfold outF
      rw [rngL_len] at b
      have m : ls.getD k 0 ∈ ls := by
        rw [List.getD_eq_getElem?_getD, List.getElem?_eq_getElem b]
        exact List.getElem_mem b
      have := ok.lo _ m
      rw [if_neg]
      intro z
      omega
    rw [e0] at L1
    wtm_at "oo"
    refine loop_range (fun i σ H' => ∃ y2 y4 y5 y6, σ = [some (.ref a), some (.ref D), y2, some (.int (fc ls (i + 1))), y4, y5, y6] ∧ Own K H H' [pI D (rngL (outF ls i 0) ls.length)]) ⟨none, none, none, none, rfl, L1⟩ ?_ ?_
    · rintro i σ H2 hi ⟨y2, y4, y5, y6, rfl, L2⟩
      have hi15 : i < 15 := hi
      wtm_at "oo"
      refine loop_rangeN (m := ls.length) (by omega) (fun j σ H' => ∃ y6, σ = [some (.ref a), some (.ref D), y2, some (.int (fc ls (i + 1))), some (.int (1 + (i : Int))), some (.int (fc ls (i + 1) + ((ls.take j).count ((i + 1 : Nat) : Int) : Nat))), y6] ∧ Own K H H' [pI D (rngL (outF ls i j) ls.length)]) ⟨y6, by rw [List.take_zero, List.count_nil]; simp, L2⟩ ?_ ?_
      · rintro j σ H3 hj ⟨y6, rfl, L3⟩
        have hz : ls[j]? = some ls[j] := List.getElem?_eq_getElem hj
        generalize ls[j] = z at hz
        have eg : ls.getD (0 + (j : Int)).toNat 0 = z := by
          rw [show (0 + (j : Int)).toNat = j by omega, List.getD_eq_getElem?_getD, hz]
          rfl
        have eg2 : ls.getD j 0 = z := by
          rw [List.getD_eq_getElem?_getD, hz]
          rfl
        have ec : (ls.take (j + 1)).count ((i + 1 : Nat) : Int) = (ls.take j).count ((i + 1 : Nat) : Int) + if z = 1 + (i : Int) then 1 else 0 := by
          rw [List.take_add_one, hz, List.count_append]
          congr 1
          by_cases c : z = 1 + (i : Int)
          · rw [if_pos c, show Option.toList (some z) = [z] from rfl, show ((i + 1 : Nat) : Int) = z by omega, List.count_singleton_self]
          · rw [if_neg c]
            exact count_none (by omega)
        wtm_at "oo"
        rw [eg]
        refine sel_d (fun c => ?_) (fun c => ?_)
        · have es : (rngL (outF ls i j) ls.length).set (0 + (j : Int)).toNat (fc ls (i + 1) + ((ls.take j).count ((i + 1 : Nat) : Int) : Nat)) = rngL (outF ls i (j + 1)) ls.length := by
            refine rngL_set fun k hk => ?_
            rw [show (0 + (j : Int)).toNat = j by omega]
            unfold outF
            by_cases e : k = j
            · subst e
              rw [if_pos rfl, eg2, if_pos ⟨by omega, .inr ⟨by omega, by omega⟩⟩]
              unfold codeOf
              rw [eg2, if_neg (by omega), show z.toNat = i + 1 by omega, show ((i + 1 : Nat) : Int) = z by omega]
            · rw [if_neg e]
              by_cases c2 : ls.getD k 0 ≠ 0 ∧ (ls.getD k 0 ≤ i ∨ (k < j ∧ ls.getD k 0 = (i : Int) + 1))
              · rw [if_pos c2, if_pos ⟨c2.1, by omega⟩]
              · rw [if_neg c2, if_neg]
                intro z
                exact c2 ⟨z.1, by omega⟩
          rw [if_pos c] at ec
          wtm_at "oo"
          rename_i H4 L4
          rw [es] at L4
          exact L4
        · have es : rngL (outF ls i j) ls.length = rngL (outF ls i (j + 1)) ls.length := by
            refine rngL_congr fun k hk => ?_
            unfold outF
            by_cases c2 : ls.getD k 0 ≠ 0 ∧ (ls.getD k 0 ≤ i ∨ (k < j ∧ ls.getD k 0 = (i : Int) + 1))
            · rw [if_pos c2, if_pos ⟨c2.1, by omega⟩]
            · rw [if_neg c2, if_neg]
              intro y
              by_cases e : k = j
              · subst e
                rw [eg2] at y c2
                exact c2 ⟨y.1, by omega⟩
              · exact c2 ⟨y.1, by omega⟩
          rw [if_neg c] at ec
          rw [es] at L3
          wtm_at "oo"
          exact L3
      · rintro σ H3 ⟨y6, rfl, L3⟩
        rw [List.take_length] 
        rw [outF_next rfl] at L3
        wtm_at "oo"
        exact ⟨rfl, L3⟩
    · rintro σ H2 ⟨y2, y4, y5, y6, rfl, L2⟩
      wtm_at "oo"
      have L2 : Own K H H2 [pI D (rngL (outF ls 15 0) ls.length)] := L2
      rw [outF_last ok] at L2
      exact q _ _ L2


end
end K11

namespace K11
open PySem PySem.Spec PyProof.Rows L2 Bel
local macro_rules | `(tactic| wtm_at "xs") => `(tactic| simp only [x_next, x_seq, x_brk, x_cont, x_drop, x_ret, x_retN, x_if, sel_t, sel_f, selE_t, selE_f, selT_t, selT_f, selC_t, selC_f, x_test, x_tB, x_op, x_un, x_var, x_c, x_cb, x_nil, x_cons, x_rI, x_rI0, x_rU, x_rEq, x_rNe, x_rIxL, x_rIxT, x_rSlL, x_rCat, x_rRep, x_rApp, x_bm, x_bm0, x_sl, x_nopart, x_part, x_tup, x_lst, x_call, x_callS, x_asg, x_gname, x_gtup, x_gnil, x_gcons, x_gsub, x_setL, x_aug, x_ipI, x_ipC, x_bits, x_getL, x_augS, x_and, x_or, x_not, x_k, x_andV, x_orV, x_notV, x_ife, x_chain, x_for, x_ilist, x_itup, x_ienum, x_irng1, x_irng2, x_irev, x_lc, x_yes, wipe_nil, wipe_cons, List.map_cons, List.map_nil, x_misc, x_misc2, x_rz, lookup_at, Bool.not_true, Bool.not_false, decide_true, decide_false, not_true, not_false_eq_true, and_assoc, exists_and_left, exists_eq_left', exists_eq_left, exists_eq', exists_eq_right', exists_eq_right, V.int.injEq, V.ref.injEq, V.bl.injEq, V.str.injEq, List.cons.injEq, and_true, true_and, and_self, Option.some.injEq, List.cons_append, List.nil_append, List.append_nil, List.getElem?_cons_zero, List.getElem?_cons_succ, List.set_cons_zero, List.set_cons_succ, reduceCtorEq, false_and, and_false, exists_false, exists_const, or_false, false_or, scal_ii, scal_bb, scal_ss, List.length_cons, List.length_nil, Int.reduceToNat, Int.reducePow])
local macro_rules | `(tactic| k_call_by "xs" $h:term) => `(tactic| simp only [$h:term, x_next, x_seq, x_brk, x_cont, x_drop, x_ret, x_retN, x_if, sel_t, sel_f, selE_t, selE_f, selT_t, selT_f, selC_t, selC_f, x_test, x_tB, x_op, x_un, x_var, x_c, x_cb, x_nil, x_cons, x_rI, x_rI0, x_rU, x_rEq, x_rNe, x_rIxL, x_rIxT, x_rSlL, x_rCat, x_rRep, x_rApp, x_bm, x_bm0, x_sl, x_nopart, x_part, x_tup, x_lst, x_call, x_callS, x_asg, x_gname, x_gtup, x_gnil, x_gcons, x_gsub, x_setL, x_aug, x_ipI, x_ipC, x_bits, x_getL, x_augS, x_and, x_or, x_not, x_k, x_andV, x_orV, x_notV, x_ife, x_chain, x_for, x_ilist, x_itup, x_ienum, x_irng1, x_irng2, x_irev, x_lc, x_yes, wipe_nil, wipe_cons, List.map_cons, List.map_nil, x_misc, x_misc2, x_rz, lookup_at, Bool.not_true, Bool.not_false, decide_true, decide_false, not_true, not_false_eq_true, and_assoc, exists_and_left, exists_eq_left', exists_eq_left, exists_eq', exists_eq_right', exists_eq_right, V.int.injEq, V.ref.injEq, V.bl.injEq, V.str.injEq, List.cons.injEq, and_true, true_and, and_self, Option.some.injEq, List.cons_append, List.nil_append, List.append_nil, List.getElem?_cons_zero, List.getElem?_cons_succ, List.set_cons_zero, List.set_cons_succ, reduceCtorEq, false_and, and_false, exists_false, exists_const, or_false, false_or, scal_ii, scal_bb, scal_ss, List.length_cons, List.length_nil, Int.reduceToNat, Int.reducePow])
local macro_rules | `(tactic| wtm_at "hp") => `(tactic| first | (with_reducible assumption) | exact upd_same | (refine upd_keep (by with_reducible assumption) ?_; wtm_at "hp") | (refine Same.get (by with_reducible assumption) ?_; wtm_at "hp") | (refine upd_other (by first | (with_reducible assumption) | exact Ne.symm (by with_reducible assumption)) ?_; wtm_at "hp"))
local macro_rules | `(tactic| wtm_at "sq") => `(tactic| first | (with_reducible assumption) | exact SqL.of (by wtm_at "hp") | exact SqT.of (by wtm_at "hp") | (refine Same.seq (same_upd (by with_reducible assumption)) ?_; wtm_at "sq") | (refine Same.seq (by with_reducible assumption) ?_; wtm_at "sq") | (refine Same.seqT (same_upd (by with_reducible assumption)) ?_; wtm_at "sq") | (refine Same.seqT (by with_reducible assumption) ?_; wtm_at "sq"))
local macro_rules | `(tactic| wtm_at "cl") => `(tactic| first | (with_reducible assumption) | omega | (exact cmul_r (by omega) (by omega)) | (exact cmul_l (by omega) (by omega)) | (exact cdiv_ok (by omega) (by omega)) | (exact cpow_ok (by decide)) | (exact ⟨by omega, by omega, by omega⟩) | decide | (exact ⟨by omega, by omega⟩) | (simp only [List.length_append, List.length_map, List.length_cons, List.length_nil, rngL_len, sizeLine_eq]; omega) | wtm_at "hp" | wtm_at "sq")
local macro_rules | `(tactic| wtm_at "pf") => `(tactic| first | (with_reducible assumption) | omega | (simp only [List.length_append, List.length_map, List.length_cons, List.length_nil, rngL_len]; omega) | (with_reducible rfl) | (with_reducible trivial) | (with_reducible decide))
local macro_rules | `(tactic| wtm_at "st") => `(tactic| first | ((with_reducible refine g_at ?_); refine at_call (by wtm_at "sq") (by omega) (by omega) (fun _ _ => ?_)) | ((with_reducible refine g_row ?_); refine row_call (by wtm_at "hp") ?_) | ((with_reducible refine g_int ?_); refine int_call ?_) | ((with_reducible refine g_isi ?_); first | (refine isi_int rfl ?_) | (refine isi_lst rfl (by wtm_at "hp") ?_) | (refine isi_tup rfl (by wtm_at "hp") ?_)) | ((with_reducible refine g_ned ?_); refine ned_f (dq_lst (by wtm_at "sq")) (dq_lst (by wtm_at "sq")) ?_) | ((with_reducible refine g_eqd ?_); refine eqd_t (dq_lst (by wtm_at "sq")) (dq_lst (by wtm_at "sq")) ?_) | ((with_reducible refine g_tyv ?_); refine and_tyv (by wtm_at "sq") ?_) | ((with_reducible refine g_asq ?_); refine and_sq (by wtm_at "sq") ?_) | ((with_reducible refine g_lst ?_); refine ex_lst (by wtm_at "hp") ?_) | ((with_reducible refine g_or ?_); first | (refine ex_or (by wtm_at "sq") ?_) | (refine ex_ort (by wtm_at "sq") ?_)) | ((with_reducible refine g_sq ?_); refine ex_sq (by wtm_at "sq") ?_) | ((with_reducible refine g_sqt ?_); refine ex_sqt (by wtm_at "sq") ?_) | ((with_reducible refine gd_sel ?_); first | (refine sel_p (by wtm_at "pf") ?_) | (refine sel_n (by wtm_at "pf") ?_)) | ((with_reducible refine gn_sel ?_); first | (refine selN_p (by wtm_at "pf") ?_) | (refine selN_n (by wtm_at "pf") ?_)) | ((with_reducible refine gd_selT ?_); first | (refine selT_p (by wtm_at "pf") ?_) | (refine selT_n (by wtm_at "pf") ?_)) | ((with_reducible refine gn_selT ?_); first | (refine selTN_p (by wtm_at "pf") ?_) | (refine selTN_n (by wtm_at "pf") ?_)) | ((with_reducible refine gd_selE ?_); first | (refine selE_p (by wtm_at "pf") ?_) | (refine selE_n (by wtm_at "pf") ?_)) | ((with_reducible refine gn_selE ?_); first | (refine selEN_p (by wtm_at "pf") ?_) | (refine selEN_n (by wtm_at "pf") ?_)) | ((with_reducible refine g_xf ?_); refine xf_at rfl (by wtm_at "hp") ?_) | ((with_reducible refine g_atI ?_); refine ex_at (by first | exact rfl | exact atI_int (by omega) (by wtm_at "pf")) ?_) | ((with_reducible refine g_and ?_); refine And.intro (by wtm_at "cl") ?_) | ((with_reducible refine g_new ?_); intro _ _))
local macro_rules | `(tactic| wtm_at "go") => `(tactic| repeat (first | wtm_at "xs" | wtm_at "st"))
local macro_rules | `(tactic| wtm_at "xo") => `(tactic| simp only [x_next, x_seq, x_brk, x_cont, x_drop, x_ret, x_retN, x_if, sel_t, sel_f, selE_t, selE_f, selT_t, selT_f, selC_t, selC_f, x_test, x_tB, x_op, x_un, x_var, x_c, x_cb, x_nil, x_cons, x_rI, x_rI0, x_rU, x_rEq, x_rNe, x_rIxL, x_rIxT, n_rSlL, n_rCat, n_rRep, n_rApp, x_bm, x_bm0, x_sl, x_nopart, x_part, n_tup, n_lst, x_call, x_callS, x_asg, x_gname, x_gtup, x_gnil, x_gcons, x_gsub, n_setL, x_aug, x_ipI, x_ipC, x_bits, x_getL, x_augS, x_and, x_or, x_not, x_k, x_andV, x_orV, x_notV, x_ife, x_chain, x_for, x_ilist, x_itup, x_ienum, x_irng1, x_irng2, x_irev, x_lc, x_yes, wipe_nil, wipe_cons, List.map_cons, List.map_nil, x_misc, x_misc2, x_rz, lookup_at, Bool.not_true, Bool.not_false, decide_true, decide_false, not_true, not_false_eq_true, and_assoc, exists_and_left, exists_eq_left', exists_eq_left, exists_eq', exists_eq_right', exists_eq_right, V.int.injEq, V.ref.injEq, V.bl.injEq, V.str.injEq, List.cons.injEq, and_true, true_and, and_self, Option.some.injEq, List.cons_append, List.nil_append, List.append_nil, List.getElem?_cons_zero, List.getElem?_cons_succ, List.set_cons_zero, List.set_cons_succ, reduceCtorEq, false_and, and_false, exists_false, exists_const, or_false, false_or, scal_ii, scal_bb, scal_ss, List.length_cons, List.length_nil, Int.reduceToNat, Int.reducePow, n_fld, n_dnew, n_dput, n_din, n_dget, n_dget2, n_glst, n_sfld, n_aug, n_meth, n_mw, n_make, n_kw, n_rLs, t_s1, t_i1, t_i2, t_i3, t_i4, t_i5, x_chain3, x_irng3, x_irevR, x_rg1, x_rg2, ints_cat, ints_app1, ints_len, ints_take, ints_drop, rep_one])
local macro_rules | `(tactic| k_call_by "xo" $h:term) => `(tactic| simp only [$h:term, x_next, x_seq, x_brk, x_cont, x_drop, x_ret, x_retN, x_if, sel_t, sel_f, selE_t, selE_f, selT_t, selT_f, selC_t, selC_f, x_test, x_tB, x_op, x_un, x_var, x_c, x_cb, x_nil, x_cons, x_rI, x_rI0, x_rU, x_rEq, x_rNe, x_rIxL, x_rIxT, n_rSlL, n_rCat, n_rRep, n_rApp, x_bm, x_bm0, x_sl, x_nopart, x_part, n_tup, n_lst, x_call, x_callS, x_asg, x_gname, x_gtup, x_gnil, x_gcons, x_gsub, n_setL, x_aug, x_ipI, x_ipC, x_bits, x_getL, x_augS, x_and, x_or, x_not, x_k, x_andV, x_orV, x_notV, x_ife, x_chain, x_for, x_ilist, x_itup, x_ienum, x_irng1, x_irng2, x_irev, x_lc, x_yes, wipe_nil, wipe_cons, List.map_cons, List.map_nil, x_misc, x_misc2, x_rz, lookup_at, Bool.not_true, Bool.not_false, decide_true, decide_false, not_true, not_false_eq_true, and_assoc, exists_and_left, exists_eq_left', exists_eq_left, exists_eq', exists_eq_right', exists_eq_right, V.int.injEq, V.ref.injEq, V.bl.injEq, V.str.injEq, List.cons.injEq, and_true, true_and, and_self, Option.some.injEq, List.cons_append, List.nil_append, List.append_nil, List.getElem?_cons_zero, List.getElem?_cons_succ, List.set_cons_zero, List.set_cons_succ, reduceCtorEq, false_and, and_false, exists_false, exists_const, or_false, false_or, scal_ii, scal_bb, scal_ss, List.length_cons, List.length_nil, Int.reduceToNat, Int.reducePow, n_fld, n_dnew, n_dput, n_din, n_dget, n_dget2, n_glst, n_sfld, n_aug, n_meth, n_mw, n_make, n_kw, n_rLs, t_s1, t_i1, t_i2, t_i3, t_i4, t_i5, x_chain3, x_irng3, x_irevR, x_rg1, x_rg2, ints_cat, ints_app1, ints_len, ints_take, ints_drop, rep_one])
local macro_rules | `(tactic| wtm_at "mem") => `(tactic| first | (with_reducible exact mem_here) | (with_reducible refine mem_there ?_; wtm_at "mem"))
local macro_rules | `(tactic| wtm_at "pp") => `(tactic| first | (with_reducible exact Put.here) | (with_reducible apply Put.there; wtm_at "pp"))
local macro_rules | `(tactic| wtm_at "ho") => `(tactic| first | (with_reducible assumption) | exact Own.get (by with_reducible assumption) (by wtm_at "mem") | exact Own.base (by with_reducible assumption) (by with_reducible assumption))
local macro_rules | `(tactic| wtm_at "qo") => `(tactic| first | (with_reducible assumption) | exact SqL.of (by wtm_at "ho") | exact sqT_tupI (by wtm_at "ho") | exact sqT_tupS (by wtm_at "ho") | exact SqT.of (by wtm_at "ho") | exact Own.imT (by with_reducible assumption) (by wtm_at "mem") | exact Own.sq (by with_reducible assumption) (by with_reducible assumption) | exact Own.sqT (by with_reducible assumption) (by with_reducible assumption))
local macro_rules | `(tactic| wtm_at "sub") => `(tactic| first | exact List.nil_sublist _ | (with_reducible refine List.Sublist.cons_cons _ ?_; wtm_at "sub") | (refine List.Sublist.cons _ ?_; wtm_at "sub"))
local macro_rules | `(tactic| wtm_at "co") => `(tactic| first | (with_reducible assumption) | omega | (exact cmul_r (by omega) (by omega)) | (exact cmul_l (by omega) (by omega)) | (exact cdiv_ok (by omega) (by omega)) | (exact cpow_ok (by decide)) | (exact ⟨by omega, by omega, by omega⟩) | decide | (exact ⟨by omega, by omega⟩) | (simp only [List.length_append, List.length_map, List.length_cons, List.length_nil, rngL_len, sizeLine_eq]; omega) | wtm_at "ho" | wtm_at "qo")
local macro_rules | `(tactic| wtm_at "so") => `(tactic| first | ((with_reducible refine g_dputO ?_); refine dputI (by with_reducible assumption) (by wtm_at "pp") (by wtm_at "co") (fun _ _ => ?_)) | ((with_reducible refine g_dinO ?_); refine dinI (by wtm_at "ho") ?_) | ((with_reducible refine g_isDO ?_); refine isDO (by wtm_at "ho") ?_) | ((with_reducible refine g_dg2 ?_); refine dg2I (by wtm_at "ho") ?_) | ((with_reducible refine g_fldO ?_); refine fldO (by wtm_at "ho") (by with_reducible assumption) (by wtm_at "mem") (by wtm_at "lk") ?_) | ((with_reducible refine g_fldC ?_); refine fldC (by wtm_at "ho") (by with_reducible assumption) (by wtm_at "mem") (by wtm_at "lk") ?_) | ((with_reducible refine g_putC ?_); refine putC (by with_reducible assumption) (by wtm_at "pp") (by wtm_at "pu") (by wtm_at "co") (fun _ _ => ?_)) | ((with_reducible refine g_stoO ?_); refine stoO (by with_reducible assumption) (by wtm_at "pp") (by wtm_at "pu") (by with_reducible assumption) (by wtm_at "mem") (by wtm_at "co") (fun _ _ => ?_)) | ((with_reducible refine g_metO ?_); refine metO (by wtm_at "ho") (by wtm_at "ln") ?_) | ((with_reducible refine g_makO ?_); refine makO (by with_reducible assumption) (fun _ _ _ _ => ?_)) | ((with_reducible refine g_sum ?_); refine sum_call (by wtm_at "qo") ?_) | ((with_reducible refine g_cq ?_); exact cq (by with_reducible assumption) (by simp only [rngL_len, List.length_map, List.length_take]; omega)) | ((with_reducible refine g_newO ?_); refine newO (by with_reducible assumption) (fun _ _ _ => ?_)) | ((with_reducible refine g_appO ?_); refine appI (by with_reducible assumption) (by wtm_at "pp") (by wtm_at "co") (fun _ _ => ?_)) | ((with_reducible refine g_setO ?_); refine setI (by with_reducible assumption) (by wtm_at "pp") (by omega) (by wtm_at "co") (fun _ _ => ?_)) | ((with_reducible refine g_appO ?_); refine appO (by with_reducible assumption) (by wtm_at "pp") (by wtm_at "co") (fun _ _ => ?_)) | ((with_reducible refine g_setO ?_); refine setO (by with_reducible assumption) (by wtm_at "pp") (by omega) (by wtm_at "co") (fun _ _ => ?_)) | ((with_reducible refine g_at ?_); refine at_call (by wtm_at "qo") (by omega) (by omega) (fun _ _ => ?_)) | ((with_reducible refine g_row ?_); refine row_call (by wtm_at "ho") ?_) | ((with_reducible refine g_int ?_); refine int_call ?_) | ((with_reducible refine g_isi ?_); first | (refine isi_int rfl ?_) | (refine isi_sqL rfl (by wtm_at "qo") ?_) | (refine isi_sqT rfl (by wtm_at "qo") ?_) | (refine isi_bl rfl ?_) | (refine isi_non rfl ?_) | (refine isi_str rfl ?_)) | ((with_reducible refine g_ned ?_); first | (refine ned_f (dq_lst (by wtm_at "qo")) (dq_lst (by wtm_at "qo")) ?_) | (refine ned_ints (by wtm_at "qo") (by wtm_at "qo") ?_) | (refine nedT_ints (by wtm_at "qo") (by wtm_at "qo") ?_)) | ((with_reducible refine g_eqd ?_); first | (refine eqd_t (dq_lst (by wtm_at "qo")) (dq_lst (by wtm_at "qo")) ?_) | (refine eqd_ints (by wtm_at "qo") (by wtm_at "qo") ?_) | (refine eqdT_ints (by wtm_at "qo") (by wtm_at "qo") ?_)) | ((with_reducible refine g_tyv ?_); refine and_tyv (by wtm_at "qo") ?_) | ((with_reducible refine g_asq ?_); refine and_sq (by wtm_at "qo") ?_) | ((with_reducible refine g_lst ?_); refine ex_lst (by wtm_at "ho") ?_) | ((with_reducible refine g_or ?_); first | (refine ex_or (by wtm_at "qo") ?_) | (refine ex_ort (by wtm_at "qo") ?_)) | ((with_reducible refine g_sq ?_); refine ex_sq (by wtm_at "qo") ?_) | ((with_reducible refine g_sqt ?_); refine ex_sqt (by wtm_at "qo") ?_) | ((with_reducible refine gd_sel ?_); first | (refine sel_p (by wtm_at "pf") ?_) | (refine sel_n (by wtm_at "pf") ?_)) | ((with_reducible refine gn_sel ?_); first | (refine selN_p (by wtm_at "pf") ?_) | (refine selN_n (by wtm_at "pf") ?_)) | ((with_reducible refine gd_selT ?_); first | (refine selT_p (by wtm_at "pf") ?_) | (refine selT_n (by wtm_at "pf") ?_)) | ((with_reducible refine gn_selT ?_); first | (refine selTN_p (by wtm_at "pf") ?_) | (refine selTN_n (by wtm_at "pf") ?_)) | ((with_reducible refine gd_selE ?_); first | (refine selE_p (by wtm_at "pf") ?_) | (refine selE_n (by wtm_at "pf") ?_)) | ((with_reducible refine gn_selE ?_); first | (refine selEN_p (by wtm_at "pf") ?_) | (refine selEN_n (by wtm_at "pf") ?_)) | ((with_reducible refine g_xf ?_); refine xf_at rfl (by wtm_at "ho") ?_) | ((with_reducible refine g_atI ?_); refine ex_at (by first | exact rfl | exact atI_int (by omega) (by wtm_at "pf")) ?_) | ((with_reducible refine g_and ?_); refine And.intro (by wtm_at "co") ?_))
local macro_rules | `(tactic| wtm_at "oo") => `(tactic| repeat (first | wtm_at "xo" | wtm_at "so"))
local macro_rules | `(tactic| wtm_at "cR") => `(tactic| (refine' compRi _ (by with_reducible assumption) (by omega) (fun _ _ _ _ _ => ?_) (fun _ _ _ => ?_); rotate_left; focus (wtm_at "oo")))

local macro_rules | `(tactic| wtm_at "lk") => `(tactic| first | (with_reducible exact lk_here) | (simp only [lk_here, lk_skip, lk_nil, nb_0_0, nb_0_1, nb_0_2, nb_0_3, nb_0_4, nb_0_5, nb_0_6, nb_1_0, nb_1_1, nb_1_2, nb_1_3, nb_1_4, nb_1_5, nb_1_6, nb_2_1, nb_2_2, nb_2_3, nb_2_4, nb_2_5, nb_2_6, nb_3_0, nb_3_2, nb_3_3, nb_3_4, nb_3_5, nb_3_6, nb_4_0, nb_4_1, nb_4_3, nb_4_4, nb_4_5, nb_4_6, nb_5_0, nb_5_1, nb_5_2, nb_5_4, nb_5_5, nb_5_6, nb_6_0, nb_6_1, nb_6_2, nb_6_3, nb_6_4, nb_6_5, nb_6_6, nb_7_0, nb_7_1, nb_7_2, nb_7_3, nb_7_5, nb_7_6, nb_8_0, nb_8_1, nb_8_2, nb_8_3, nb_8_4, nb_8_6, nb_9_0, nb_9_1, nb_9_2, nb_9_3, nb_9_4, nb_9_5, nb_10_0, nb_10_1, nb_10_2, nb_10_3, nb_10_4, nb_10_5, nb_10_6, nb_11_0, nb_11_1, nb_11_2, nb_11_3, nb_11_4, nb_11_5, nb_11_6, nb_12_0, nb_12_1, nb_12_2, nb_12_3, nb_12_4, nb_12_5, nb_12_6, nb_13_0, nb_13_1, nb_13_2, nb_13_3, nb_13_4, nb_13_5, nb_13_6, nb_14_0, nb_14_1, nb_14_2, nb_14_3, nb_14_4, nb_14_5, nb_14_6]; first | done | exact rfl))
local macro_rules | `(tactic| wtm_at "ln") => `(tactic| first | (with_reducible exact lk_nil) | (simp only [lk_skip, lk_nil, nb_0_0, nb_0_1, nb_0_2, nb_0_3, nb_0_4, nb_0_5, nb_0_6, nb_1_0, nb_1_1, nb_1_2, nb_1_3, nb_1_4, nb_1_5, nb_1_6, nb_2_1, nb_2_2, nb_2_3, nb_2_4, nb_2_5, nb_2_6, nb_3_0, nb_3_2, nb_3_3, nb_3_4, nb_3_5, nb_3_6, nb_4_0, nb_4_1, nb_4_3, nb_4_4, nb_4_5, nb_4_6, nb_5_0, nb_5_1, nb_5_2, nb_5_4, nb_5_5, nb_5_6, nb_6_0, nb_6_1, nb_6_2, nb_6_3, nb_6_4, nb_6_5, nb_6_6, nb_7_0, nb_7_1, nb_7_2, nb_7_3, nb_7_5, nb_7_6, nb_8_0, nb_8_1, nb_8_2, nb_8_3, nb_8_4, nb_8_6, nb_9_0, nb_9_1, nb_9_2, nb_9_3, nb_9_4, nb_9_5, nb_10_0, nb_10_1, nb_10_2, nb_10_3, nb_10_4, nb_10_5, nb_10_6, nb_11_0, nb_11_1, nb_11_2, nb_11_3, nb_11_4, nb_11_5, nb_11_6, nb_12_0, nb_12_1, nb_12_2, nb_12_3, nb_12_4, nb_12_5, nb_12_6, nb_13_0, nb_13_1, nb_13_2, nb_13_3, nb_13_4, nb_13_5, nb_13_6, nb_14_0, nb_14_1, nb_14_2, nb_14_3, nb_14_4, nb_14_5, nb_14_6]; done))
local macro_rules | `(tactic| wtm_at "pu") => `(tactic| first | (with_reducible exact pf_nil) | (simp only [pf_nil, pf_here, pf_skip, nb_0_0, nb_0_1, nb_0_2, nb_0_3, nb_0_4, nb_0_5, nb_0_6, nb_1_0, nb_1_1, nb_1_2, nb_1_3, nb_1_4, nb_1_5, nb_1_6, nb_2_1, nb_2_2, nb_2_3, nb_2_4, nb_2_5, nb_2_6, nb_3_0, nb_3_2, nb_3_3, nb_3_4, nb_3_5, nb_3_6, nb_4_0, nb_4_1, nb_4_3, nb_4_4, nb_4_5, nb_4_6, nb_5_0, nb_5_1, nb_5_2, nb_5_4, nb_5_5, nb_5_6, nb_6_0, nb_6_1, nb_6_2, nb_6_3, nb_6_4, nb_6_5, nb_6_6, nb_7_0, nb_7_1, nb_7_2, nb_7_3, nb_7_5, nb_7_6, nb_8_0, nb_8_1, nb_8_2, nb_8_3, nb_8_4, nb_8_6, nb_9_0, nb_9_1, nb_9_2, nb_9_3, nb_9_4, nb_9_5, nb_10_0, nb_10_1, nb_10_2, nb_10_3, nb_10_4, nb_10_5, nb_10_6, nb_11_0, nb_11_1, nb_11_2, nb_11_3, nb_11_4, nb_11_5, nb_11_6, nb_12_0, nb_12_1, nb_12_2, nb_12_3, nb_12_4, nb_12_5, nb_12_6, nb_13_0, nb_13_1, nb_13_2, nb_13_3, nb_13_4, nb_13_5, nb_13_6, nb_14_0, nb_14_1, nb_14_2, nb_14_3, nb_14_4, nb_14_5, nb_14_6]; first | done | exact rfl))
local macro_rules | `(tactic| wtm_at "tk") => `(tactic| first | (with_reducible exact Take.here) | (exact Take.here) | ((with_reducible apply Take.there); wtm_at "tk"))
local macro_rules | `(tactic| wtm_at "pk") => `(tactic| first | exact Pick.nil | ((with_reducible refine' Pick.cons ?tk1 ?pk1); (case tk1 => wtm_at "tk"); (case pk1 => wtm_at "pk")) | ((with_reducible refine Pick.im (by wtm_at "mem") ?_); wtm_at "pk") | ((with_reducible refine Pick.ims (by wtm_at "mem") ?_); wtm_at "pk"))
section
variable {P : Program} {w : World} {K : PySem.W.Frag} {mg : Str → Option Value} {base : Heap}
/-- bytes as a number, the lowest first -/
def bnum : List Int → Int
  | [] => 0
  | b :: r => b + 256 * bnum r
theorem pow256 (n : Nat) : (256 : Int) ^ n = 2 ^ (8 * n) := by
  rw [Int.pow_mul]
  rfl
theorem bnum_app : ∀ (xs ys : List Int), bnum (xs ++ ys) = bnum xs + 256 ^ xs.length * bnum ys
  | [], ys => by
    show bnum ys = 0 + 1 * bnum ys
    omega
  | b :: r, ys => by
    show b + 256 * bnum (r ++ ys) = b + 256 * bnum r + 256 ^ (r.length + 1) * bnum ys
    rw [bnum_app r ys, Int.pow_succ, Int.mul_add, Int.mul_comm _ 256, Int.mul_assoc]
    omega
structure Byt (xs : List Int) : Prop where
  lo : ∀ x ∈ xs, 0 ≤ x
  hi : ∀ x ∈ xs, x < 256
theorem Byt.nil : Byt [] := ⟨fun _ m => (nomatch m), fun _ m => (nomatch m)⟩
theorem Byt.snoc {xs : List Int} (h : Byt xs) {x : Int} (h0 : 0 ≤ x) (h1 : x < 256) : Byt (xs ++ [x]) :=
  ⟨fun y m => by
    rcases List.mem_append.mp m with m | m
    · exact h.lo y m
    · rw [List.mem_singleton.mp m]
      exact h0, fun y m => by
    rcases List.mem_append.mp m with m | m
    · exact h.hi y m
    · rw [List.mem_singleton.mp m]
      exact h1⟩
theorem Byt.tail {x : Int} {xs : List Int} (h : Byt (x :: xs)) : Byt xs := ⟨fun y m => h.lo y (.tail _ m), fun y m => h.hi y (.tail _ m)⟩
theorem bnum_inj : ∀ {xs ys : List Int}, Byt xs → Byt ys → xs.length = ys.length → bnum xs = bnum ys → xs = ys
  | [], [], _, _, _, _ => rfl
  | x :: xs, y :: ys, hx, hy, hl, he => by
    have x0 := hx.lo x (.head _)
    have x1 := hx.hi x (.head _)
    have y0 := hy.lo y (.head _)
    have y1 := hy.hi y (.head _)
    have he : x + 256 * bnum xs = y + 256 * bnum ys := he
    have e : x = y := by omega
    have e2 : bnum xs = bnum ys := by omega
    rw [e, bnum_inj hx.tail hy.tail (Nat.succ.inj hl) e2]
  | [], _ :: _, _, _, h, _ => by cases h
  | _ :: _, [], _, _, h, _ => by cases h


end
end K11

namespace K11
open PySem PySem.Spec PyProof.Rows L2 Bel
local macro_rules | `(tactic| wtm_at "xs") => `(tactic| simp only [x_next, x_seq, x_brk, x_cont, x_drop, x_ret, x_retN, x_if, sel_t, sel_f, selE_t, selE_f, selT_t, selT_f, selC_t, selC_f, x_test, x_tB, x_op, x_un, x_var, x_c, x_cb, x_nil, x_cons, x_rI, x_rI0, x_rU, x_rEq, x_rNe, x_rIxL, x_rIxT, x_rSlL, x_rCat, x_rRep, x_rApp, x_bm, x_bm0, x_sl, x_nopart, x_part, x_tup, x_lst, x_call, x_callS, x_asg, x_gname, x_gtup, x_gnil, x_gcons, x_gsub, x_setL, x_aug, x_ipI, x_ipC, x_bits, x_getL, x_augS, x_and, x_or, x_not, x_k, x_andV, x_orV, x_notV, x_ife, x_chain, x_for, x_ilist, x_itup, x_ienum, x_irng1, x_irng2, x_irev, x_lc, x_yes, wipe_nil, wipe_cons, List.map_cons, List.map_nil, x_misc, x_misc2, x_rz, lookup_at, Bool.not_true, Bool.not_false, decide_true, decide_false, not_true, not_false_eq_true, and_assoc, exists_and_left, exists_eq_left', exists_eq_left, exists_eq', exists_eq_right', exists_eq_right, V.int.injEq, V.ref.injEq, V.bl.injEq, V.str.injEq, List.cons.injEq, and_true, true_and, and_self, Option.some.injEq, List.cons_append, List.nil_append, List.append_nil, List.getElem?_cons_zero, List.getElem?_cons_succ, List.set_cons_zero, List.set_cons_succ, reduceCtorEq, false_and, and_false, exists_false, exists_const, or_false, false_or, scal_ii, scal_bb, scal_ss, List.length_cons, List.length_nil, Int.reduceToNat, Int.reducePow])
local macro_rules | `(tactic| k_call_by "xs" $h:term) => `(tactic| simp only [$h:term, x_next, x_seq, x_brk, x_cont, x_drop, x_ret, x_retN, x_if, sel_t, sel_f, selE_t, selE_f, selT_t, selT_f, selC_t, selC_f, x_test, x_tB, x_op, x_un, x_var, x_c, x_cb, x_nil, x_cons, x_rI, x_rI0, x_rU, x_rEq, x_rNe, x_rIxL, x_rIxT, x_rSlL, x_rCat, x_rRep, x_rApp, x_bm, x_bm0, x_sl, x_nopart, x_part, x_tup, x_lst, x_call, x_callS, x_asg, x_gname, x_gtup, x_gnil, x_gcons, x_gsub, x_setL, x_aug, x_ipI, x_ipC, x_bits, x_getL, x_augS, x_and, x_or, x_not, x_k, x_andV, x_orV, x_notV, x_ife, x_chain, x_for, x_ilist, x_itup, x_ienum, x_irng1, x_irng2, x_irev, x_lc, x_yes, wipe_nil, wipe_cons, List.map_cons, List.map_nil, x_misc, x_misc2, x_rz, lookup_at, Bool.not_true, Bool.not_false, decide_true, decide_false, not_true, not_false_eq_true, and_assoc, exists_and_left, exists_eq_left', exists_eq_left, exists_eq', exists_eq_right', exists_eq_right, V.int.injEq, V.ref.injEq, V.bl.injEq, V.str.injEq, List.cons.injEq, and_true, true_and, and_self, Option.some.injEq, List.cons_append, List.nil_append, List.append_nil, List.getElem?_cons_zero, List.getElem?_cons_succ, List.set_cons_zero, List.set_cons_succ, reduceCtorEq, false_and, and_false, exists_false, exists_const, or_false, false_or, scal_ii, scal_bb, scal_ss, List.length_cons, List.length_nil, Int.reduceToNat, Int.reducePow])
local macro_rules | `(tactic| wtm_at "hp") => `(tactic| first | (with_reducible assumption) | exact upd_same | (refine upd_keep (by with_reducible assumption) ?_; wtm_at "hp") | (refine Same.get (by with_reducible assumption) ?_; wtm_at "hp") | (refine upd_other (by first | (with_reducible assumption) | exact Ne.symm (by with_reducible assumption)) ?_; wtm_at "hp"))
local macro_rules | `(tactic| wtm_at "sq") => `(tactic| first | (with_reducible assumption) | exact SqL.of (by wtm_at "hp") | exact SqT.of (by wtm_at "hp") | (refine Same.seq (same_upd (by with_reducible assumption)) ?_; wtm_at "sq") | (refine Same.seq (by with_reducible assumption) ?_; wtm_at "sq") | (refine Same.seqT (same_upd (by with_reducible assumption)) ?_; wtm_at "sq") | (refine Same.seqT (by with_reducible assumption) ?_; wtm_at "sq"))
local macro_rules | `(tactic| wtm_at "cl") => `(tactic| first | (with_reducible assumption) | omega | (exact cmul_r (by omega) (by omega)) | (exact cmul_l (by omega) (by omega)) | (exact cdiv_ok (by omega) (by omega)) | (exact cpow_ok (by decide)) | (exact ⟨by omega, by omega, by omega⟩) | decide | (exact ⟨by omega, by omega⟩) | (simp only [List.length_append, List.length_map, List.length_cons, List.length_nil, rngL_len, sizeLine_eq]; omega) | wtm_at "hp" | wtm_at "sq")
local macro_rules | `(tactic| wtm_at "pf") => `(tactic| first | (with_reducible assumption) | omega | (simp only [List.length_append, List.length_map, List.length_cons, List.length_nil, rngL_len]; omega) | (with_reducible rfl) | (with_reducible trivial) | (with_reducible decide))
local macro_rules | `(tactic| wtm_at "st") => `(tactic| first | ((with_reducible refine g_at ?_); refine at_call (by wtm_at "sq") (by omega) (by omega) (fun _ _ => ?_)) | ((with_reducible refine g_row ?_); refine row_call (by wtm_at "hp") ?_) | ((with_reducible refine g_int ?_); refine int_call ?_) | ((with_reducible refine g_isi ?_); first | (refine isi_int rfl ?_) | (refine isi_lst rfl (by wtm_at "hp") ?_) | (refine isi_tup rfl (by wtm_at "hp") ?_)) | ((with_reducible refine g_ned ?_); refine ned_f (dq_lst (by wtm_at "sq")) (dq_lst (by wtm_at "sq")) ?_) | ((with_reducible refine g_eqd ?_); refine eqd_t (dq_lst (by wtm_at "sq")) (dq_lst (by wtm_at "sq")) ?_) | ((with_reducible refine g_tyv ?_); refine and_tyv (by wtm_at "sq") ?_) | ((with_reducible refine g_asq ?_); refine and_sq (by wtm_at "sq") ?_) | ((with_reducible refine g_lst ?_); refine ex_lst (by wtm_at "hp") ?_) | ((with_reducible refine g_or ?_); first | (refine ex_or (by wtm_at "sq") ?_) | (refine ex_ort (by wtm_at "sq") ?_)) | ((with_reducible refine g_sq ?_); refine ex_sq (by wtm_at "sq") ?_) | ((with_reducible refine g_sqt ?_); refine ex_sqt (by wtm_at "sq") ?_) | ((with_reducible refine gd_sel ?_); first | (refine sel_p (by wtm_at "pf") ?_) | (refine sel_n (by wtm_at "pf") ?_)) | ((with_reducible refine gn_sel ?_); first | (refine selN_p (by wtm_at "pf") ?_) | (refine selN_n (by wtm_at "pf") ?_)) | ((with_reducible refine gd_selT ?_); first | (refine selT_p (by wtm_at "pf") ?_) | (refine selT_n (by wtm_at "pf") ?_)) | ((with_reducible refine gn_selT ?_); first | (refine selTN_p (by wtm_at "pf") ?_) | (refine selTN_n (by wtm_at "pf") ?_)) | ((with_reducible refine gd_selE ?_); first | (refine selE_p (by wtm_at "pf") ?_) | (refine selE_n (by wtm_at "pf") ?_)) | ((with_reducible refine gn_selE ?_); first | (refine selEN_p (by wtm_at "pf") ?_) | (refine selEN_n (by wtm_at "pf") ?_)) | ((with_reducible refine g_xf ?_); refine xf_at rfl (by wtm_at "hp") ?_) | ((with_reducible refine g_atI ?_); refine ex_at (by first | exact rfl | exact atI_int (by omega) (by wtm_at "pf")) ?_) | ((with_reducible refine g_and ?_); refine And.intro (by wtm_at "cl") ?_) | ((with_reducible refine g_new ?_); intro _ _))
local macro_rules | `(tactic| wtm_at "go") => `(tactic| repeat (first | wtm_at "xs" | wtm_at "st"))
local macro_rules | `(tactic| wtm_at "xo") => `(tactic| simp only [x_next, x_seq, x_brk, x_cont, x_drop, x_ret, x_retN, x_if, sel_t, sel_f, selE_t, selE_f, selT_t, selT_f, selC_t, selC_f, x_test, x_tB, x_op, x_un, x_var, x_c, x_cb, x_nil, x_cons, x_rI, x_rI0, x_rU, x_rEq, x_rNe, x_rIxL, x_rIxT, n_rSlL, n_rCat, n_rRep, n_rApp, x_bm, x_bm0, x_sl, x_nopart, x_part, n_tup, n_lst, x_call, x_callS, x_asg, x_gname, x_gtup, x_gnil, x_gcons, x_gsub, n_setL, x_aug, x_ipI, x_ipC, x_bits, x_getL, x_augS, x_and, x_or, x_not, x_k, x_andV, x_orV, x_notV, x_ife, x_chain, x_for, x_ilist, x_itup, x_ienum, x_irng1, x_irng2, x_irev, x_lc, x_yes, wipe_nil, wipe_cons, List.map_cons, List.map_nil, x_misc, x_misc2, x_rz, lookup_at, Bool.not_true, Bool.not_false, decide_true, decide_false, not_true, not_false_eq_true, and_assoc, exists_and_left, exists_eq_left', exists_eq_left, exists_eq', exists_eq_right', exists_eq_right, V.int.injEq, V.ref.injEq, V.bl.injEq, V.str.injEq, List.cons.injEq, and_true, true_and, and_self, Option.some.injEq, List.cons_append, List.nil_append, List.append_nil, List.getElem?_cons_zero, List.getElem?_cons_succ, List.set_cons_zero, List.set_cons_succ, reduceCtorEq, false_and, and_false, exists_false, exists_const, or_false, false_or, scal_ii, scal_bb, scal_ss, List.length_cons, List.length_nil, Int.reduceToNat, Int.reducePow, n_fld, n_dnew, n_dput, n_din, n_dget, n_dget2, n_glst, n_sfld, n_aug, n_meth, n_mw, n_make, n_kw, n_rLs, t_s1, t_i1, t_i2, t_i3, t_i4, t_i5, x_chain3, x_irng3, x_irevR, x_rg1, x_rg2, ints_cat, ints_app1, ints_len, ints_take, ints_drop, rep_one])
local macro_rules | `(tactic| k_call_by "xo" $h:term) => `(tactic| simp only [$h:term, x_next, x_seq, x_brk, x_cont, x_drop, x_ret, x_retN, x_if, sel_t, sel_f, selE_t, selE_f, selT_t, selT_f, selC_t, selC_f, x_test, x_tB, x_op, x_un, x_var, x_c, x_cb, x_nil, x_cons, x_rI, x_rI0, x_rU, x_rEq, x_rNe, x_rIxL, x_rIxT, n_rSlL, n_rCat, n_rRep, n_rApp, x_bm, x_bm0, x_sl, x_nopart, x_part, n_tup, n_lst, x_call, x_callS, x_asg, x_gname, x_gtup, x_gnil, x_gcons, x_gsub, n_setL, x_aug, x_ipI, x_ipC, x_bits, x_getL, x_augS, x_and, x_or, x_not, x_k, x_andV, x_orV, x_notV, x_ife, x_chain, x_for, x_ilist, x_itup, x_ienum, x_irng1, x_irng2, x_irev, x_lc, x_yes, wipe_nil, wipe_cons, List.map_cons, List.map_nil, x_misc, x_misc2, x_rz, lookup_at, Bool.not_true, Bool.not_false, decide_true, decide_false, not_true, not_false_eq_true, and_assoc, exists_and_left, exists_eq_left', exists_eq_left, exists_eq', exists_eq_right', exists_eq_right, V.int.injEq, V.ref.injEq, V.bl.injEq, V.str.injEq, List.cons.injEq, and_true, true_and, and_self, Option.some.injEq, List.cons_append, List.nil_append, List.append_nil, List.getElem?_cons_zero, List.getElem?_cons_succ, List.set_cons_zero, List.set_cons_succ, reduceCtorEq, false_and, and_false, exists_false, exists_const, or_false, false_or, scal_ii, scal_bb, scal_ss, List.length_cons, List.length_nil, Int.reduceToNat, Int.reducePow, n_fld, n_dnew, n_dput, n_din, n_dget, n_dget2, n_glst, n_sfld, n_aug, n_meth, n_mw, n_make, n_kw, n_rLs, t_s1, t_i1, t_i2, t_i3, t_i4, t_i5, x_chain3, x_irng3, x_irevR, x_rg1, x_rg2, ints_cat, ints_app1, ints_len, ints_take, ints_drop, rep_one])
local macro_rules | `(tactic| wtm_at "mem") => `(tactic| first | (with_reducible exact mem_here) | (with_reducible refine mem_there ?_; wtm_at "mem"))
local macro_rules | `(tactic| wtm_at "pp") => `(tactic| first | (with_reducible exact Put.here) | (with_reducible apply Put.there; wtm_at "pp"))
local macro_rules | `(tactic| wtm_at "ho") => `(tactic| first | (with_reducible assumption) | exact Own.get (by with_reducible assumption) (by wtm_at "mem") | exact Own.base (by with_reducible assumption) (by with_reducible assumption))
local macro_rules | `(tactic| wtm_at "qo") => `(tactic| first | (with_reducible assumption) | exact SqL.of (by wtm_at "ho") | exact sqT_tupI (by wtm_at "ho") | exact sqT_tupS (by wtm_at "ho") | exact SqT.of (by wtm_at "ho") | exact Own.imT (by with_reducible assumption) (by wtm_at "mem") | exact Own.sq (by with_reducible assumption) (by with_reducible assumption) | exact Own.sqT (by with_reducible assumption) (by with_reducible assumption))
local macro_rules | `(tactic| wtm_at "sub") => `(tactic| first | exact List.nil_sublist _ | (with_reducible refine List.Sublist.cons_cons _ ?_; wtm_at "sub") | (refine List.Sublist.cons _ ?_; wtm_at "sub"))
local macro_rules | `(tactic| wtm_at "co") => `(tactic| first | (with_reducible assumption) | omega | (exact cmul_r (by omega) (by omega)) | (exact cmul_l (by omega) (by omega)) | (exact cdiv_ok (by omega) (by omega)) | (exact cpow_ok (by decide)) | (exact ⟨by omega, by omega, by omega⟩) | decide | (exact ⟨by omega, by omega⟩) | (simp only [List.length_append, List.length_map, List.length_cons, List.length_nil, rngL_len, sizeLine_eq]; omega) | wtm_at "ho" | wtm_at "qo")
local macro_rules | `(tactic| wtm_at "so") => `(tactic| first | ((with_reducible refine g_dputO ?_); refine dputI (by with_reducible assumption) (by wtm_at "pp") (by wtm_at "co") (fun _ _ => ?_)) | ((with_reducible refine g_dinO ?_); refine dinI (by wtm_at "ho") ?_) | ((with_reducible refine g_isDO ?_); refine isDO (by wtm_at "ho") ?_) | ((with_reducible refine g_dg2 ?_); refine dg2I (by wtm_at "ho") ?_) | ((with_reducible refine g_fldO ?_); refine fldO (by wtm_at "ho") (by with_reducible assumption) (by wtm_at "mem") (by wtm_at "lk") ?_) | ((with_reducible refine g_fldC ?_); refine fldC (by wtm_at "ho") (by with_reducible assumption) (by wtm_at "mem") (by wtm_at "lk") ?_) | ((with_reducible refine g_putC ?_); refine putC (by with_reducible assumption) (by wtm_at "pp") (by wtm_at "pu") (by wtm_at "co") (fun _ _ => ?_)) | ((with_reducible refine g_stoO ?_); refine stoO (by with_reducible assumption) (by wtm_at "pp") (by wtm_at "pu") (by with_reducible assumption) (by wtm_at "mem") (by wtm_at "co") (fun _ _ => ?_)) | ((with_reducible refine g_metO ?_); refine metO (by wtm_at "ho") (by wtm_at "ln") ?_) | ((with_reducible refine g_makO ?_); refine makO (by with_reducible assumption) (fun _ _ _ _ => ?_)) | ((with_reducible refine g_sum ?_); refine sum_call (by wtm_at "qo") ?_) | ((with_reducible refine g_cq ?_); exact cq (by with_reducible assumption) (by simp only [rngL_len, List.length_map, List.length_take]; omega)) | ((with_reducible refine g_newO ?_); refine newO (by with_reducible assumption) (fun _ _ _ => ?_)) | ((with_reducible refine g_appO ?_); refine appI (by with_reducible assumption) (by wtm_at "pp") (by wtm_at "co") (fun _ _ => ?_)) | ((with_reducible refine g_setO ?_); refine setI (by with_reducible assumption) (by wtm_at "pp") (by omega) (by wtm_at "co") (fun _ _ => ?_)) | ((with_reducible refine g_appO ?_); refine appO (by with_reducible assumption) (by wtm_at "pp") (by wtm_at "co") (fun _ _ => ?_)) | ((with_reducible refine g_setO ?_); refine setO (by with_reducible assumption) (by wtm_at "pp") (by omega) (by wtm_at "co") (fun _ _ => ?_)) | ((with_reducible refine g_at ?_); refine at_call (by wtm_at "qo") (by omega) (by omega) (fun _ _ => ?_)) | ((with_reducible refine g_row ?_); refine row_call (by wtm_at "ho") ?_) | ((with_reducible refine g_int ?_); refine int_call ?_) | ((with_reducible refine g_isi ?_); first | (refine isi_int rfl ?_) | (refine isi_sqL rfl (by wtm_at "qo") ?_) | (refine isi_sqT rfl (by wtm_at "qo") ?_) | (refine isi_bl rfl ?_) | (refine isi_non rfl ?_) | (refine isi_str rfl ?_)) | ((with_reducible refine g_ned ?_); first | (refine ned_f (dq_lst (by wtm_at "qo")) (dq_lst (by wtm_at "qo")) ?_) | (refine ned_ints (by wtm_at "qo") (by wtm_at "qo") ?_) | (refine nedT_ints (by wtm_at "qo") (by wtm_at "qo") ?_)) | ((with_reducible refine g_eqd ?_); first | (refine eqd_t (dq_lst (by wtm_at "qo")) (dq_lst (by wtm_at "qo")) ?_) | (refine eqd_ints (by wtm_at "qo") (by wtm_at "qo") ?_) | (refine eqdT_ints (by wtm_at "qo") (by wtm_at "qo") ?_)) | ((with_reducible refine g_tyv ?_); refine and_tyv (by wtm_at "qo") ?_) | ((with_reducible refine g_asq ?_); refine and_sq (by wtm_at "qo") ?_) | ((with_reducible refine g_lst ?_); refine ex_lst (by wtm_at "ho") ?_) | ((with_reducible refine g_or ?_); first | (refine ex_or (by wtm_at "qo") ?_) | (refine ex_ort (by wtm_at "qo") ?_)) | ((with_reducible refine g_sq ?_); refine ex_sq (by wtm_at "qo") ?_) | ((with_reducible refine g_sqt ?_); refine ex_sqt (by wtm_at "qo") ?_) | ((with_reducible refine gd_sel ?_); first | (refine sel_p (by wtm_at "pf") ?_) | (refine sel_n (by wtm_at "pf") ?_)) | ((with_reducible refine gn_sel ?_); first | (refine selN_p (by wtm_at "pf") ?_) | (refine selN_n (by wtm_at "pf") ?_)) | ((with_reducible refine gd_selT ?_); first | (refine selT_p (by wtm_at "pf") ?_) | (refine selT_n (by wtm_at "pf") ?_)) | ((with_reducible refine gn_selT ?_); first | (refine selTN_p (by wtm_at "pf") ?_) | (refine selTN_n (by wtm_at "pf") ?_)) | ((with_reducible refine gd_selE ?_); first | (refine selE_p (by wtm_at "pf") ?_) | (refine selE_n (by wtm_at "pf") ?_)) | ((with_reducible refine gn_selE ?_); first | (refine selEN_p (by wtm_at "pf") ?_) | (refine selEN_n (by wtm_at "pf") ?_)) | ((with_reducible refine g_xf ?_); refine xf_at rfl (by wtm_at "ho") ?_) | ((with_reducible refine g_atI ?_); refine ex_at (by first | exact rfl | exact atI_int (by omega) (by wtm_at "pf")) ?_) | ((with_reducible refine g_and ?_); refine And.intro (by wtm_at "co") ?_))
local macro_rules | `(tactic| wtm_at "oo") => `(tactic| repeat (first | wtm_at "xo" | wtm_at "so"))
local macro_rules | `(tactic| wtm_at "cR") => `(tactic| (refine' compRi _ (by with_reducible assumption) (by omega) (fun _ _ _ _ _ => ?_) (fun _ _ _ => ?_); rotate_left; focus (wtm_at "oo")))

local macro_rules | `(tactic| wtm_at "lk") => `(tactic| first | (with_reducible exact lk_here) | (simp only [lk_here, lk_skip, lk_nil, nb_0_0, nb_0_1, nb_0_2, nb_0_3, nb_0_4, nb_0_5, nb_0_6, nb_1_0, nb_1_1, nb_1_2, nb_1_3, nb_1_4, nb_1_5, nb_1_6, nb_2_1, nb_2_2, nb_2_3, nb_2_4, nb_2_5, nb_2_6, nb_3_0, nb_3_2, nb_3_3, nb_3_4, nb_3_5, nb_3_6, nb_4_0, nb_4_1, nb_4_3, nb_4_4, nb_4_5, nb_4_6, nb_5_0, nb_5_1, nb_5_2, nb_5_4, nb_5_5, nb_5_6, nb_6_0, nb_6_1, nb_6_2, nb_6_3, nb_6_4, nb_6_5, nb_6_6, nb_7_0, nb_7_1, nb_7_2, nb_7_3, nb_7_5, nb_7_6, nb_8_0, nb_8_1, nb_8_2, nb_8_3, nb_8_4, nb_8_6, nb_9_0, nb_9_1, nb_9_2, nb_9_3, nb_9_4, nb_9_5, nb_10_0, nb_10_1, nb_10_2, nb_10_3, nb_10_4, nb_10_5, nb_10_6, nb_11_0, nb_11_1, nb_11_2, nb_11_3, nb_11_4, nb_11_5, nb_11_6, nb_12_0, nb_12_1, nb_12_2, nb_12_3, nb_12_4, nb_12_5, nb_12_6, nb_13_0, nb_13_1, nb_13_2, nb_13_3, nb_13_4, nb_13_5, nb_13_6, nb_14_0, nb_14_1, nb_14_2, nb_14_3, nb_14_4, nb_14_5, nb_14_6]; first | done | exact rfl))
local macro_rules | `(tactic| wtm_at "ln") => `(tactic| first | (with_reducible exact lk_nil) | (simp only [lk_skip, lk_nil, nb_0_0, nb_0_1, nb_0_2, nb_0_3, nb_0_4, nb_0_5, nb_0_6, nb_1_0, nb_1_1, nb_1_2, nb_1_3, nb_1_4, nb_1_5, nb_1_6, nb_2_1, nb_2_2, nb_2_3, nb_2_4, nb_2_5, nb_2_6, nb_3_0, nb_3_2, nb_3_3, nb_3_4, nb_3_5, nb_3_6, nb_4_0, nb_4_1, nb_4_3, nb_4_4, nb_4_5, nb_4_6, nb_5_0, nb_5_1, nb_5_2, nb_5_4, nb_5_5, nb_5_6, nb_6_0, nb_6_1, nb_6_2, nb_6_3, nb_6_4, nb_6_5, nb_6_6, nb_7_0, nb_7_1, nb_7_2, nb_7_3, nb_7_5, nb_7_6, nb_8_0, nb_8_1, nb_8_2, nb_8_3, nb_8_4, nb_8_6, nb_9_0, nb_9_1, nb_9_2, nb_9_3, nb_9_4, nb_9_5, nb_10_0, nb_10_1, nb_10_2, nb_10_3, nb_10_4, nb_10_5, nb_10_6, nb_11_0, nb_11_1, nb_11_2, nb_11_3, nb_11_4, nb_11_5, nb_11_6, nb_12_0, nb_12_1, nb_12_2, nb_12_3, nb_12_4, nb_12_5, nb_12_6, nb_13_0, nb_13_1, nb_13_2, nb_13_3, nb_13_4, nb_13_5, nb_13_6, nb_14_0, nb_14_1, nb_14_2, nb_14_3, nb_14_4, nb_14_5, nb_14_6]; done))
local macro_rules | `(tactic| wtm_at "pu") => `(tactic| first | (with_reducible exact pf_nil) | (simp only [pf_nil, pf_here, pf_skip, nb_0_0, nb_0_1, nb_0_2, nb_0_3, nb_0_4, nb_0_5, nb_0_6, nb_1_0, nb_1_1, nb_1_2, nb_1_3, nb_1_4, nb_1_5, nb_1_6, nb_2_1, nb_2_2, nb_2_3, nb_2_4, nb_2_5, nb_2_6, nb_3_0, nb_3_2, nb_3_3, nb_3_4, nb_3_5, nb_3_6, nb_4_0, nb_4_1, nb_4_3, nb_4_4, nb_4_5, nb_4_6, nb_5_0, nb_5_1, nb_5_2, nb_5_4, nb_5_5, nb_5_6, nb_6_0, nb_6_1, nb_6_2, nb_6_3, nb_6_4, nb_6_5, nb_6_6, nb_7_0, nb_7_1, nb_7_2, nb_7_3, nb_7_5, nb_7_6, nb_8_0, nb_8_1, nb_8_2, nb_8_3, nb_8_4, nb_8_6, nb_9_0, nb_9_1, nb_9_2, nb_9_3, nb_9_4, nb_9_5, nb_10_0, nb_10_1, nb_10_2, nb_10_3, nb_10_4, nb_10_5, nb_10_6, nb_11_0, nb_11_1, nb_11_2, nb_11_3, nb_11_4, nb_11_5, nb_11_6, nb_12_0, nb_12_1, nb_12_2, nb_12_3, nb_12_4, nb_12_5, nb_12_6, nb_13_0, nb_13_1, nb_13_2, nb_13_3, nb_13_4, nb_13_5, nb_13_6, nb_14_0, nb_14_1, nb_14_2, nb_14_3, nb_14_4, nb_14_5, nb_14_6]; first | done | exact rfl))
local macro_rules | `(tactic| wtm_at "tk") => `(tactic| first | (with_reducible exact Take.here) | (exact Take.here) | ((with_reducible apply Take.there); wtm_at "tk"))
local macro_rules | `(tactic| wtm_at "pk") => `(tactic| first | exact Pick.nil | ((with_reducible refine' Pick.cons ?tk1 ?pk1); (case tk1 => wtm_at "tk"); (case pk1 => wtm_at "pk")) | ((with_reducible refine Pick.im (by wtm_at "mem") ?_); wtm_at "pk") | ((with_reducible refine Pick.ims (by wtm_at "mem") ?_); wtm_at "pk"))
section
variable {P : Program} {w : World} {K : PySem.W.Frag} {mg : Str → Option Value} {base : Heap}
/-- the bits of a code the other way round -/
def revB (c : Int) : Nat → Int
  | 0 => 0
  | k + 1 => 2 * revB c k + c / 2 ^ k % 2
theorem revB_lo (c : Int) : ∀ k, 0 ≤ revB c k ∧ revB c k < 2 ^ k
  | 0 => ⟨Int.le_refl 0, by show (0 : Int) < 1; decide⟩
  | k + 1 => by
    obtain ⟨h0, h1⟩ := revB_lo c k
    have m0 := Int.emod_nonneg (c / 2 ^ k) (show (2 : Int) ≠ 0 by decide)
    have m1 := Int.emod_lt_of_pos (c / 2 ^ k) (show (0 : Int) < 2 by decide)
    show 0 ≤ 2 * revB c k + c / 2 ^ k % 2 ∧ 2 * revB c k + c / 2 ^ k % 2 < 2 ^ (k + 1)
    rw [Int.pow_succ]
    omega


end
end K11

namespace K11
open PySem PySem.Spec PyProof.Rows L2 Bel
local macro_rules | `(tactic| wtm_at "xs") => `(tactic| simp only [x_next, x_seq, x_brk, x_cont, x_drop, x_ret, x_retN, x_if, sel_t, sel_f, selE_t, selE_f, selT_t, selT_f, selC_t, selC_f, x_test, x_tB, x_op, x_un, x_var, x_c, x_cb, x_nil, x_cons, x_rI, x_rI0, x_rU, x_rEq, x_rNe, x_rIxL, x_rIxT, x_rSlL, x_rCat, x_rRep, x_rApp, x_bm, x_bm0, x_sl, x_nopart, x_part, x_tup, x_lst, x_call, x_callS, x_asg, x_gname, x_gtup, x_gnil, x_gcons, x_gsub, x_setL, x_aug, x_ipI, x_ipC, x_bits, x_getL, x_augS, x_and, x_or, x_not, x_k, x_andV, x_orV, x_notV, x_ife, x_chain, x_for, x_ilist, x_itup, x_ienum, x_irng1, x_irng2, x_irev, x_lc, x_yes, wipe_nil, wipe_cons, List.map_cons, List.map_nil, x_misc, x_misc2, x_rz, lookup_at, Bool.not_true, Bool.not_false, decide_true, decide_false, not_true, not_false_eq_true, and_assoc, exists_and_left, exists_eq_left', exists_eq_left, exists_eq', exists_eq_right', exists_eq_right, V.int.injEq, V.ref.injEq, V.bl.injEq, V.str.injEq, List.cons.injEq, and_true, true_and, and_self, Option.some.injEq, List.cons_append, List.nil_append, List.append_nil, List.getElem?_cons_zero, List.getElem?_cons_succ, List.set_cons_zero, List.set_cons_succ, reduceCtorEq, false_and, and_false, exists_false, exists_const, or_false, false_or, scal_ii, scal_bb, scal_ss, List.length_cons, List.length_nil, Int.reduceToNat, Int.reducePow])
local macro_rules | `(tactic| k_call_by "xs" $h:term) => `(tactic| simp only [$h:term, x_next, x_seq, x_brk, x_cont, x_drop, x_ret, x_retN, x_if, sel_t, sel_f, selE_t, selE_f, selT_t, selT_f, selC_t, selC_f, x_test, x_tB, x_op, x_un, x_var, x_c, x_cb, x_nil, x_cons, x_rI, x_rI0, x_rU, x_rEq, x_rNe, x_rIxL, x_rIxT, x_rSlL, x_rCat, x_rRep, x_rApp, x_bm, x_bm0, x_sl, x_nopart, x_part, x_tup, x_lst, x_call, x_callS, x_asg, x_gname, x_gtup, x_gnil, x_gcons, x_gsub, x_setL, x_aug, x_ipI, x_ipC, x_bits, x_getL, x_augS, x_and, x_or, x_not, x_k, x_andV, x_orV, x_notV, x_ife, x_chain, x_for, x_ilist, x_itup, x_ienum, x_irng1, x_irng2, x_irev, x_lc, x_yes, wipe_nil, wipe_cons, List.map_cons, List.map_nil, x_misc, x_misc2, x_rz, lookup_at, Bool.not_true, Bool.not_false, decide_true, decide_false, not_true, not_false_eq_true, and_assoc, exists_and_left, exists_eq_left', exists_eq_left, exists_eq', exists_eq_right', exists_eq_right, V.int.injEq, V.ref.injEq, V.bl.injEq, V.str.injEq, List.cons.injEq, and_true, true_and, and_self, Option.some.injEq, List.cons_append, List.nil_append, List.append_nil, List.getElem?_cons_zero, List.getElem?_cons_succ, List.set_cons_zero, List.set_cons_succ, reduceCtorEq, false_and, and_false, exists_false, exists_const, or_false, false_or, scal_ii, scal_bb, scal_ss, List.length_cons, List.length_nil, Int.reduceToNat, Int.reducePow])
local macro_rules | `(tactic| wtm_at "hp") => `(tactic| first | (with_reducible assumption) | exact upd_same | (refine upd_keep (by with_reducible assumption) ?_; wtm_at "hp") | (refine Same.get (by with_reducible assumption) ?_; wtm_at "hp") | (refine upd_other (by first | (with_reducible assumption) | exact Ne.symm (by with_reducible assumption)) ?_; wtm_at "hp"))
local macro_rules | `(tactic| wtm_at "sq") => `(tactic| first | (with_reducible assumption) | exact SqL.of (by wtm_at "hp") | exact SqT.of (by wtm_at "hp") | (refine Same.seq (same_upd (by with_reducible assumption)) ?_; wtm_at "sq") | (refine Same.seq (by with_reducible assumption) ?_; wtm_at "sq") | (refine Same.seqT (same_upd (by with_reducible assumption)) ?_; wtm_at "sq") | (refine Same.seqT (by with_reducible assumption) ?_; wtm_at "sq"))
local macro_rules | `(tactic| wtm_at "cl") => `(tactic| first | (with_reducible assumption) | omega | (exact cmul_r (by omega) (by omega)) | (exact cmul_l (by omega) (by omega)) | (exact cdiv_ok (by omega) (by omega)) | (exact cpow_ok (by decide)) | (exact ⟨by omega, by omega, by omega⟩) | decide | (exact ⟨by omega, by omega⟩) | (simp only [List.length_append, List.length_map, List.length_cons, List.length_nil, rngL_len, sizeLine_eq]; omega) | wtm_at "hp" | wtm_at "sq")
local macro_rules | `(tactic| wtm_at "pf") => `(tactic| first | (with_reducible assumption) | omega | (simp only [List.length_append, List.length_map, List.length_cons, List.length_nil, rngL_len]; omega) | (with_reducible rfl) | (with_reducible trivial) | (with_reducible decide))
local macro_rules | `(tactic| wtm_at "st") => `(tactic| first | ((with_reducible refine g_at ?_); refine at_call (by wtm_at "sq") (by omega) (by omega) (fun _ _ => ?_)) | ((with_reducible refine g_row ?_); refine row_call (by wtm_at "hp") ?_) | ((with_reducible refine g_int ?_); refine int_call ?_) | ((with_reducible refine g_isi ?_); first | (refine isi_int rfl ?_) | (refine isi_lst rfl (by wtm_at "hp") ?_) | (refine isi_tup rfl (by wtm_at "hp") ?_)) | ((with_reducible refine g_ned ?_); refine ned_f (dq_lst (by wtm_at "sq")) (dq_lst (by wtm_at "sq")) ?_) | ((with_reducible refine g_eqd ?_); refine eqd_t (dq_lst (by wtm_at "sq")) (dq_lst (by wtm_at "sq")) ?_) | ((with_reducible refine g_tyv ?_); refine and_tyv (by wtm_at "sq") ?_) | ((with_reducible refine g_asq ?_); refine and_sq (by wtm_at "sq") ?_) | ((with_reducible refine g_lst ?_); refine ex_lst (by wtm_at "hp") ?_) | ((with_reducible refine g_or ?_); first | (refine ex_or (by wtm_at "sq") ?_) | (refine ex_ort (by wtm_at "sq") ?_)) | ((with_reducible refine g_sq ?_); refine ex_sq (by wtm_at "sq") ?_) | ((with_reducible refine g_sqt ?_); refine ex_sqt (by wtm_at "sq") ?_) | ((with_reducible refine gd_sel ?_); first | (refine sel_p (by wtm_at "pf") ?_) | (refine sel_n (by wtm_at "pf") ?_)) | ((with_reducible refine gn_sel ?_); first | (refine selN_p (by wtm_at "pf") ?_) | (refine selN_n (by wtm_at "pf") ?_)) | ((with_reducible refine gd_selT ?_); first | (refine selT_p (by wtm_at "pf") ?_) | (refine selT_n (by wtm_at "pf") ?_)) | ((with_reducible refine gn_selT ?_); first | (refine selTN_p (by wtm_at "pf") ?_) | (refine selTN_n (by wtm_at "pf") ?_)) | ((with_reducible refine gd_selE ?_); first | (refine selE_p (by wtm_at "pf") ?_) | (refine selE_n (by wtm_at "pf") ?_)) | ((with_reducible refine gn_selE ?_); first | (refine selEN_p (by wtm_at "pf") ?_) | (refine selEN_n (by wtm_at "pf") ?_)) | ((with_reducible refine g_xf ?_); refine xf_at rfl (by wtm_at "hp") ?_) | ((with_reducible refine g_atI ?_); refine ex_at (by first | exact rfl | exact atI_int (by omega) (by wtm_at "pf")) ?_) | ((with_reducible refine g_and ?_); refine And.intro (by wtm_at "cl") ?_) | ((with_reducible refine g_new ?_); intro _ _))
local macro_rules | `(tactic| wtm_at "go") => `(tactic| repeat (first | wtm_at "xs" | wtm_at "st"))
local macro_rules | `(tactic| wtm_at "xo") => `(tactic| simp only [x_next, x_seq, x_brk, x_cont, x_drop, x_ret, x_retN, x_if, sel_t, sel_f, selE_t, selE_f, selT_t, selT_f, selC_t, selC_f, x_test, x_tB, x_op, x_un, x_var, x_c, x_cb, x_nil, x_cons, x_rI, x_rI0, x_rU, x_rEq, x_rNe, x_rIxL, x_rIxT, n_rSlL, n_rCat, n_rRep, n_rApp, x_bm, x_bm0, x_sl, x_nopart, x_part, n_tup, n_lst, x_call, x_callS, x_asg, x_gname, x_gtup, x_gnil, x_gcons, x_gsub, n_setL, x_aug, x_ipI, x_ipC, x_bits, x_getL, x_augS, x_and, x_or, x_not, x_k, x_andV, x_orV, x_notV, x_ife, x_chain, x_for, x_ilist, x_itup, x_ienum, x_irng1, x_irng2, x_irev, x_lc, x_yes, wipe_nil, wipe_cons, List.map_cons, List.map_nil, x_misc, x_misc2, x_rz, lookup_at, Bool.not_true, Bool.not_false, decide_true, decide_false, not_true, not_false_eq_true, and_assoc, exists_and_left, exists_eq_left', exists_eq_left, exists_eq', exists_eq_right', exists_eq_right, V.int.injEq, V.ref.injEq, V.bl.injEq, V.str.injEq, List.cons.injEq, and_true, true_and, and_self, Option.some.injEq, List.cons_append, List.nil_append, List.append_nil, List.getElem?_cons_zero, List.getElem?_cons_succ, List.set_cons_zero, List.set_cons_succ, reduceCtorEq, false_and, and_false, exists_false, exists_const, or_false, false_or, scal_ii, scal_bb, scal_ss, List.length_cons, List.length_nil, Int.reduceToNat, Int.reducePow, n_fld, n_dnew, n_dput, n_din, n_dget, n_dget2, n_glst, n_sfld, n_aug, n_meth, n_mw, n_make, n_kw, n_rLs, t_s1, t_i1, t_i2, t_i3, t_i4, t_i5, x_chain3, x_irng3, x_irevR, x_rg1, x_rg2, ints_cat, ints_app1, ints_len, ints_take, ints_drop, rep_one])
local macro_rules | `(tactic| k_call_by "xo" $h:term) => `(tactic| simp only [$h:term, x_next, x_seq, x_brk, x_cont, x_drop, x_ret, x_retN, x_if, sel_t, sel_f, selE_t, selE_f, selT_t, selT_f, selC_t, selC_f, x_test, x_tB, x_op, x_un, x_var, x_c, x_cb, x_nil, x_cons, x_rI, x_rI0, x_rU, x_rEq, x_rNe, x_rIxL, x_rIxT, n_rSlL, n_rCat, n_rRep, n_rApp, x_bm, x_bm0, x_sl, x_nopart, x_part, n_tup, n_lst, x_call, x_callS, x_asg, x_gname, x_gtup, x_gnil, x_gcons, x_gsub, n_setL, x_aug, x_ipI, x_ipC, x_bits, x_getL, x_augS, x_and, x_or, x_not, x_k, x_andV, x_orV, x_notV, x_ife, x_chain, x_for, x_ilist, x_itup, x_ienum, x_irng1, x_irng2, x_irev, x_lc, x_yes, wipe_nil, wipe_cons, List.map_cons, List.map_nil, x_misc, x_misc2, x_rz, lookup_at, Bool.not_true, Bool.not_false, decide_true, decide_false, not_true, not_false_eq_true, and_assoc, exists_and_left, exists_eq_left', exists_eq_left, exists_eq', exists_eq_right', exists_eq_right, V.int.injEq, V.ref.injEq, V.bl.injEq, V.str.injEq, List.cons.injEq, and_true, true_and, and_self, Option.some.injEq, List.cons_append, List.nil_append, List.append_nil, List.getElem?_cons_zero, List.getElem?_cons_succ, List.set_cons_zero, List.set_cons_succ, reduceCtorEq, false_and, and_false, exists_false, exists_const, or_false, false_or, scal_ii, scal_bb, scal_ss, List.length_cons, List.length_nil, Int.reduceToNat, Int.reducePow, n_fld, n_dnew, n_dput, n_din, n_dget, n_dget2, n_glst, n_sfld, n_aug, n_meth, n_mw, n_make, n_kw, n_rLs, t_s1, t_i1, t_i2, t_i3, t_i4, t_i5, x_chain3, x_irng3, x_irevR, x_rg1, x_rg2, ints_cat, ints_app1, ints_len, ints_take, ints_drop, rep_one])
local macro_rules | `(tactic| wtm_at "mem") => `(tactic| first | (with_reducible exact mem_here) | (with_reducible refine mem_there ?_; wtm_at "mem"))
local macro_rules | `(tactic| wtm_at "pp") => `(tactic| first | (with_reducible exact Put.here) | (with_reducible apply Put.there; wtm_at "pp"))
local macro_rules | `(tactic| wtm_at "ho") => `(tactic| first | (with_reducible assumption) | exact Own.get (by with_reducible assumption) (by wtm_at "mem") | exact Own.base (by with_reducible assumption) (by with_reducible assumption))
local macro_rules | `(tactic| wtm_at "qo") => `(tactic| first | (with_reducible assumption) | exact SqL.of (by wtm_at "ho") | exact sqT_tupI (by wtm_at "ho") | exact sqT_tupS (by wtm_at "ho") | exact SqT.of (by wtm_at "ho") | exact Own.imT (by with_reducible assumption) (by wtm_at "mem") | exact Own.sq (by with_reducible assumption) (by with_reducible assumption) | exact Own.sqT (by with_reducible assumption) (by with_reducible assumption))
local macro_rules | `(tactic| wtm_at "sub") => `(tactic| first | exact List.nil_sublist _ | (with_reducible refine List.Sublist.cons_cons _ ?_; wtm_at "sub") | (refine List.Sublist.cons _ ?_; wtm_at "sub"))
local macro_rules | `(tactic| wtm_at "co") => `(tactic| first | (with_reducible assumption) | omega | (exact cmul_r (by omega) (by omega)) | (exact cmul_l (by omega) (by omega)) | (exact cdiv_ok (by omega) (by omega)) | (exact cpow_ok (by decide)) | (exact ⟨by omega, by omega, by omega⟩) | decide | (exact ⟨by omega, by omega⟩) | (simp only [List.length_append, List.length_map, List.length_cons, List.length_nil, rngL_len, sizeLine_eq]; omega) | wtm_at "ho" | wtm_at "qo")
local macro_rules | `(tactic| wtm_at "so") => `(tactic| first | ((with_reducible refine g_dputO ?_); refine dputI (by with_reducible assumption) (by wtm_at "pp") (by wtm_at "co") (fun _ _ => ?_)) | ((with_reducible refine g_dinO ?_); refine dinI (by wtm_at "ho") ?_) | ((with_reducible refine g_isDO ?_); refine isDO (by wtm_at "ho") ?_) | ((with_reducible refine g_dg2 ?_); refine dg2I (by wtm_at "ho") ?_) | ((with_reducible refine g_fldO ?_); refine fldO (by wtm_at "ho") (by with_reducible assumption) (by wtm_at "mem") (by wtm_at "lk") ?_) | ((with_reducible refine g_fldC ?_); refine fldC (by wtm_at "ho") (by with_reducible assumption) (by wtm_at "mem") (by wtm_at "lk") ?_) | ((with_reducible refine g_putC ?_); refine putC (by with_reducible assumption) (by wtm_at "pp") (by wtm_at "pu") (by wtm_at "co") (fun _ _ => ?_)) | ((with_reducible refine g_stoO ?_); refine stoO (by with_reducible assumption) (by wtm_at "pp") (by wtm_at "pu") (by with_reducible assumption) (by wtm_at "mem") (by wtm_at "co") (fun _ _ => ?_)) | ((with_reducible refine g_metO ?_); refine metO (by wtm_at "ho") (by wtm_at "ln") ?_) | ((with_reducible refine g_makO ?_); refine makO (by with_reducible assumption) (fun _ _ _ _ => ?_)) | ((with_reducible refine g_sum ?_); refine sum_call (by wtm_at "qo") ?_) | ((with_reducible refine g_cq ?_); exact cq (by with_reducible assumption) (by simp only [rngL_len, List.length_map, List.length_take]; omega)) | ((with_reducible refine g_newO ?_); refine newO (by with_reducible assumption) (fun _ _ _ => ?_)) | ((with_reducible refine g_appO ?_); refine appI (by with_reducible assumption) (by wtm_at "pp") (by wtm_at "co") (fun _ _ => ?_)) | ((with_reducible refine g_setO ?_); refine setI (by with_reducible assumption) (by wtm_at "pp") (by omega) (by wtm_at "co") (fun _ _ => ?_)) | ((with_reducible refine g_appO ?_); refine appO (by with_reducible assumption) (by wtm_at "pp") (by wtm_at "co") (fun _ _ => ?_)) | ((with_reducible refine g_setO ?_); refine setO (by with_reducible assumption) (by wtm_at "pp") (by omega) (by wtm_at "co") (fun _ _ => ?_)) | ((with_reducible refine g_at ?_); refine at_call (by wtm_at "qo") (by omega) (by omega) (fun _ _ => ?_)) | ((with_reducible refine g_row ?_); refine row_call (by wtm_at "ho") ?_) | ((with_reducible refine g_int ?_); refine int_call ?_) | ((with_reducible refine g_isi ?_); first | (refine isi_int rfl ?_) | (refine isi_sqL rfl (by wtm_at "qo") ?_) | (refine isi_sqT rfl (by wtm_at "qo") ?_) | (refine isi_bl rfl ?_) | (refine isi_non rfl ?_) | (refine isi_str rfl ?_)) | ((with_reducible refine g_ned ?_); first | (refine ned_f (dq_lst (by wtm_at "qo")) (dq_lst (by wtm_at "qo")) ?_) | (refine ned_ints (by wtm_at "qo") (by wtm_at "qo") ?_) | (refine nedT_ints (by wtm_at "qo") (by wtm_at "qo") ?_)) | ((with_reducible refine g_eqd ?_); first | (refine eqd_t (dq_lst (by wtm_at "qo")) (dq_lst (by wtm_at "qo")) ?_) | (refine eqd_ints (by wtm_at "qo") (by wtm_at "qo") ?_) | (refine eqdT_ints (by wtm_at "qo") (by wtm_at "qo") ?_)) | ((with_reducible refine g_tyv ?_); refine and_tyv (by wtm_at "qo") ?_) | ((with_reducible refine g_asq ?_); refine and_sq (by wtm_at "qo") ?_) | ((with_reducible refine g_lst ?_); refine ex_lst (by wtm_at "ho") ?_) | ((with_reducible refine g_or ?_); first | (refine ex_or (by wtm_at "qo") ?_) | (refine ex_ort (by wtm_at "qo") ?_)) | ((with_reducible refine g_sq ?_); refine ex_sq (by wtm_at "qo") ?_) | ((with_reducible refine g_sqt ?_); refine ex_sqt (by wtm_at "qo") ?_) | ((with_reducible refine gd_sel ?_); first | (refine sel_p (by wtm_at "pf") ?_) | (refine sel_n (by wtm_at "pf") ?_)) | ((with_reducible refine gn_sel ?_); first | (refine selN_p (by wtm_at "pf") ?_) | (refine selN_n (by wtm_at "pf") ?_)) | ((with_reducible refine gd_selT ?_); first | (refine selT_p (by wtm_at "pf") ?_) | (refine selT_n (by wtm_at "pf") ?_)) | ((with_reducible refine gn_selT ?_); first | (refine selTN_p (by wtm_at "pf") ?_) | (refine selTN_n (by wtm_at "pf") ?_)) | ((with_reducible refine gd_selE ?_); first | (refine selE_p (by wtm_at "pf") ?_) | (refine selE_n (by wtm_at "pf") ?_)) | ((with_reducible refine gn_selE ?_); first | (refine selEN_p (by wtm_at "pf") ?_) | (refine selEN_n (by wtm_at "pf") ?_)) | ((with_reducible refine g_xf ?_); refine xf_at rfl (by wtm_at "ho") ?_) | ((with_reducible refine g_atI ?_); refine ex_at (by first | exact rfl | exact atI_int (by omega) (by wtm_at "pf")) ?_) | ((with_reducible refine g_and ?_); refine And.intro (by wtm_at "co") ?_))
local macro_rules | `(tactic| wtm_at "oo") => `(tactic| repeat (first | wtm_at "xo" | wtm_at "so"))
local macro_rules | `(tactic| wtm_at "cR") => `(tactic| (refine' compRi _ (by with_reducible assumption) (by omega) (fun _ _ _ _ _ => ?_) (fun _ _ _ => ?_); rotate_left; focus (wtm_at "oo")))

local macro_rules | `(tactic| wtm_at "lk") => `(tactic| first | (with_reducible exact lk_here) | (simp only [lk_here, lk_skip, lk_nil, nb_0_0, nb_0_1, nb_0_2, nb_0_3, nb_0_4, nb_0_5, nb_0_6, nb_1_0, nb_1_1, nb_1_2, nb_1_3, nb_1_4, nb_1_5, nb_1_6, nb_2_1, nb_2_2, nb_2_3, nb_2_4, nb_2_5, nb_2_6, nb_3_0, nb_3_2, nb_3_3, nb_3_4, nb_3_5, nb_3_6, nb_4_0, nb_4_1, nb_4_3, nb_4_4, nb_4_5, nb_4_6, nb_5_0, nb_5_1, nb_5_2, nb_5_4, nb_5_5, nb_5_6, nb_6_0, nb_6_1, nb_6_2, nb_6_3, nb_6_4, nb_6_5, nb_6_6, nb_7_0, nb_7_1, nb_7_2, nb_7_3, nb_7_5, nb_7_6, nb_8_0, nb_8_1, nb_8_2, nb_8_3, nb_8_4, nb_8_6, nb_9_0, nb_9_1, nb_9_2, nb_9_3, nb_9_4, nb_9_5, nb_10_0, nb_10_1, nb_10_2, nb_10_3, nb_10_4, nb_10_5, nb_10_6, nb_11_0, nb_11_1, nb_11_2, nb_11_3, nb_11_4, nb_11_5, nb_11_6, nb_12_0, nb_12_1, nb_12_2, nb_12_3, nb_12_4, nb_12_5, nb_12_6, nb_13_0, nb_13_1, nb_13_2, nb_13_3, nb_13_4, nb_13_5, nb_13_6, nb_14_0, nb_14_1, nb_14_2, nb_14_3, nb_14_4, nb_14_5, nb_14_6]; first | done | exact rfl))
local macro_rules | `(tactic| wtm_at "ln") => `(tactic| first | (with_reducible exact lk_nil) | (simp only [lk_skip, lk_nil, nb_0_0, nb_0_1, nb_0_2, nb_0_3, nb_0_4, nb_0_5, nb_0_6, nb_1_0, nb_1_1, nb_1_2, nb_1_3, nb_1_4, nb_1_5, nb_1_6, nb_2_1, nb_2_2, nb_2_3, nb_2_4, nb_2_5, nb_2_6, nb_3_0, nb_3_2, nb_3_3, nb_3_4, nb_3_5, nb_3_6, nb_4_0, nb_4_1, nb_4_3, nb_4_4, nb_4_5, nb_4_6, nb_5_0, nb_5_1, nb_5_2, nb_5_4, nb_5_5, nb_5_6, nb_6_0, nb_6_1, nb_6_2, nb_6_3, nb_6_4, nb_6_5, nb_6_6, nb_7_0, nb_7_1, nb_7_2, nb_7_3, nb_7_5, nb_7_6, nb_8_0, nb_8_1, nb_8_2, nb_8_3, nb_8_4, nb_8_6, nb_9_0, nb_9_1, nb_9_2, nb_9_3, nb_9_4, nb_9_5, nb_10_0, nb_10_1, nb_10_2, nb_10_3, nb_10_4, nb_10_5, nb_10_6, nb_11_0, nb_11_1, nb_11_2, nb_11_3, nb_11_4, nb_11_5, nb_11_6, nb_12_0, nb_12_1, nb_12_2, nb_12_3, nb_12_4, nb_12_5, nb_12_6, nb_13_0, nb_13_1, nb_13_2, nb_13_3, nb_13_4, nb_13_5, nb_13_6, nb_14_0, nb_14_1, nb_14_2, nb_14_3, nb_14_4, nb_14_5, nb_14_6]; done))
local macro_rules | `(tactic| wtm_at "pu") => `(tactic| first | (with_reducible exact pf_nil) | (simp only [pf_nil, pf_here, pf_skip, nb_0_0, nb_0_1, nb_0_2, nb_0_3, nb_0_4, nb_0_5, nb_0_6, nb_1_0, nb_1_1, nb_1_2, nb_1_3, nb_1_4, nb_1_5, nb_1_6, nb_2_1, nb_2_2, nb_2_3, nb_2_4, nb_2_5, nb_2_6, nb_3_0, nb_3_2, nb_3_3, nb_3_4, nb_3_5, nb_3_6, nb_4_0, nb_4_1, nb_4_3, nb_4_4, nb_4_5, nb_4_6, nb_5_0, nb_5_1, nb_5_2, nb_5_4, nb_5_5, nb_5_6, nb_6_0, nb_6_1, nb_6_2, nb_6_3, nb_6_4, nb_6_5, nb_6_6, nb_7_0, nb_7_1, nb_7_2, nb_7_3, nb_7_5, nb_7_6, nb_8_0, nb_8_1, nb_8_2, nb_8_3, nb_8_4, nb_8_6, nb_9_0, nb_9_1, nb_9_2, nb_9_3, nb_9_4, nb_9_5, nb_10_0, nb_10_1, nb_10_2, nb_10_3, nb_10_4, nb_10_5, nb_10_6, nb_11_0, nb_11_1, nb_11_2, nb_11_3, nb_11_4, nb_11_5, nb_11_6, nb_12_0, nb_12_1, nb_12_2, nb_12_3, nb_12_4, nb_12_5, nb_12_6, nb_13_0, nb_13_1, nb_13_2, nb_13_3, nb_13_4, nb_13_5, nb_13_6, nb_14_0, nb_14_1, nb_14_2, nb_14_3, nb_14_4, nb_14_5, nb_14_6]; first | done | exact rfl))
local macro_rules | `(tactic| wtm_at "tk") => `(tactic| first | (with_reducible exact Take.here) | (exact Take.here) | ((with_reducible apply Take.there); wtm_at "tk"))
local macro_rules | `(tactic| wtm_at "pk") => `(tactic| first | exact Pick.nil | ((with_reducible refine' Pick.cons ?tk1 ?pk1); (case tk1 => wtm_at "tk"); (case pk1 => wtm_at "pk")) | ((with_reducible refine Pick.im (by wtm_at "mem") ?_); wtm_at "pk") | ((with_reducible refine Pick.ims (by wtm_at "mem") ?_); wtm_at "pk"))
section
variable {P : Program} {w : World} {K : PySem.W.Frag} {mg : Str → Option Value} {base : Heap}
/-! ### the book of a code -/
def markK (ls : List Int) (k : Nat) : Key := .inl (2 ^ (ls.getD k 0).toNat + codeOf ls k)
def symK (ls : List Int) (n : Nat) : List (Key × V) := (List.range n).foldl (fun kv k => if 0 < ls.getD k 0 then putK kv (markK ls k) (.int (k : Int)) else kv) []
theorem symK_succ {ls : List Int} {n : Nat} : symK ls (n + 1) = if 0 < ls.getD n 0 then putK (symK ls n) (markK ls n) (.int (n : Int)) else symK ls n := by
  unfold symK
  rw [List.range_succ, List.foldl_append]
  rfl
theorem symK_len (ls : List Int) : ∀ n, (symK ls n).length ≤ n
  | 0 => Nat.le_refl 0
  | n + 1 => by
    have ih := symK_len ls n
    rw [symK_succ]
    split
    · have := length_putK (symK ls n) (markK ls n) (.int (n : Int))
      omega
    · omega
abbrev bF0 (c l : Addr) (w : Int) : List (Str × V) := [("_codes", .ref c), ("_lengths", .ref l), ("_weight", .int w)]
abbrev bF (c l : Addr) (w : Int) (d : Addr) : List (Str × V) := [("_codes", .ref c), ("_lengths", .ref l), ("_weight", .int w), ("_symbols", .ref d)]
abbrev bC (K : PySem.W.Frag) (dx c l : Addr) (w : Int) (d : Addr) : HO := .ins (He.ga K "Book") dx (bF c l w d)
abbrev cdL (ls : List Int) : List Int := rngL (codeOf ls) ls.length
def sp_Book__marked_symbols (K : PySem.W.Frag) : Sp := fun vs H Q _ => ∃ (p dx c l : Addr) (w : Int) (ls : List Int), vs = [.ref p] ∧ H p = some (.ins (He.ga K "Book") dx (bF0 c l w)) ∧ H c = some (.lst ((cdL ls).map V.int)) ∧ H l = some (.lst (ls.map V.int)) ∧ okLen ls ∧
  ∀ d H', Own K H H' [.pt d (.dK (symK ls ls.length))] → Q (.ref d) H'
theorem ok_Book__marked_symbols (T : Tx K mg) : Mth P w K base mg 1 "Book" "_marked_symbols" ["self"] (sp_Book__marked_symbols K) [] := by
  obtain ⟨fd, F⟩ := T.d_Book__marked_symbols
  refine ⟨fd, [], F.ok sc_Book__marked_symbols (fun vs H Q E h => ?_) (fun cdv A outer s H vs Q E hr h => ⟨_, (PSs.nox (pss_cons (ps_set (i := 1) sc_Book__marked_symbols.nd rfl (Or.inl rfl) (by exact pe_dnewK))
 (pss_cons (ps_for PassesOwn.never rfl (pi_enum (by rfl) T.b_enumerate (pa_cons (pe_fld (pv 0) rfl) pa_nil)) (pg_tup (by rfl) (pgs_cons (pg_name (i := 2) sc_Book__marked_symbols.nd rfl (Or.inl rfl)) (pgs_cons (pg_name (i := 3) sc_Book__marked_symbols.nd rfl (Or.inl rfl)) pgs_nil)))
 (pss_one (ps_if (pt_cmpR op_gt (pv 3) pe_int (nomark _))
 (pss_one (ps_dput (hu_of hr) (pv 1) (pe_op op_add (pe_op op_shl pe_int (pv 3)) (pe_ix (ixl K) (pe_fld (pv 0) rfl) (pv 2) (fun _ _ => rfl))) (by exact (pv 2)) rfl))
 pss_nil)))
 (pss_one (ps_ret (by exact (pv 1))))))), ?_⟩), T.m_Book__marked_symbols, T.c_Book.cl, F.bindsN (fun _ _ _ _ _ _ us hl => match us, hl with | [_], _ => rfl), .nil⟩
  · first | (obtain ⟨rfl, _⟩ := h; rfl) | (obtain ⟨_, rfl, _⟩ := h; rfl) | (obtain ⟨_, _, rfl, _⟩ := h; rfl) | (obtain ⟨_, _, _, rfl, _⟩ := h; rfl) | (obtain ⟨_, _, _, _, rfl, _⟩ := h; rfl) | (obtain ⟨_, _, _, _, _, rfl, _⟩ := h; rfl) | (obtain ⟨_, _, _, _, _, _, rfl, _⟩ := h; rfl) | (obtain ⟨_, _, _, _, _, _, _, rfl, _⟩ := h; rfl) | (obtain ⟨_, _, _, _, _, _, _, _, rfl, _⟩ := h; rfl) | (obtain ⟨_, _, _, _, _, _, _, _, _, rfl, _⟩ := h; rfl) | (obtain ⟨_, _, _, _, _, _, _, _, _, _, rfl, _⟩ := h; rfl) | (obtain ⟨_, _, _, _, _, _, _, _, _, _, _, rfl, _⟩ := h; rfl) | (obtain ⟨_, _, _, _, _, _, _, _, _, _, _, _, rfl, _⟩ := h; rfl) | (obtain ⟨_, _, _, _, _, _, _, _, _, _, _, _, _, rfl, _⟩ := h; rfl) | (obtain ⟨_, _, _, _, _, _, _, _, _, _, _, _, _, _, rfl, _⟩ := h; rfl) | (obtain ⟨_, _, _, _, _, _, _, _, _, _, _, _, _, _, _, rfl, _⟩ := h; rfl) | (obtain ⟨_, _, _, _, _, _, _, _, _, _, _, _, _, _, _, _, rfl, _⟩ := h; rfl) | (obtain ⟨_, _, _, _, _, _, _, _, _, _, _, _, _, _, _, _, _, rfl, _⟩ := h; rfl) | (obtain ⟨_, _, _, _, _, _, _, _, _, _, _, _, _, _, _, _, _, _, rfl, _⟩ := h; rfl) | (obtain ⟨_, _, _, _, _, _, _, _, _, _, _, _, _, _, _, _, _, _, _, rfl, _⟩ := h; rfl) | (obtain ⟨_, _, _, _, _, _, _, _, _, _, _, _, _, _, _, _, _, _, _, _, rfl, _⟩ := h; rfl) | (obtain ⟨_, _, _, _, _, _, _, _, _, _, _, _, _, _, _, _, _, _, _, _, _, rfl, _⟩ := h; rfl)
  · obtain ⟨p, dx, c, l, w, ls, rfl, hp, hc, hl, ok, qq⟩ := h
    have cW := T.c_Book
    k_call_by "xo" st_Book__marked_symbols
    have L := Own.start (K := K) (H := H)
    have hlen := ok.len
    have hcl : (cdL ls).length = ls.length := rngL_len
    wtm_at "oo"
    rename_i d H1 L1
    refine loop_enum (xs := ls.map V.int) (fun i σ H' => ∃ y2 y3, σ = [some (.ref p), some (.ref d), y2, y3] ∧ Own K H H' [.pt d (.dK (symK ls i))]) ⟨none, none, rfl, L1⟩ (fun i σ H' _ ⟨_, _, _, L⟩ => SqL.of (L.base hl)) ?_ ?_
    · rintro i x σ H2 Tp hx ⟨y2, y3, rfl, L2⟩ hT
      obtain ⟨z, hz, rfl⟩ := int_at hx
      have hi : i < ls.length := (List.getElem?_eq_some_iff.mp hz).1
      have hzz : ls.getD i 0 = z := by rw [List.getD_eq_getElem?_getD, hz]; rfl
      have z0 := ok.lo z (List.mem_of_getElem? hz)
      have z1 := ok.hi z (List.mem_of_getElem? hz)
      have L3 := L2.new hT (.tup [.int (i : Nat), .int z])
      have hb : ∀ {a o}, H a = some o → upd H2 Tp (.tup [.int (i : Nat), .int z]) a = some o := fun e => L3.base e
      have hp3 := hb hp
      have hc3 := hb hc
      have hl3 := hb hl
      generalize upd H2 Tp (.tup [.int (i : Nat), .int z]) = H3 at *
      have hsl := symK_len ls i
      have es : symK ls (i + 1) = if 0 < z then putK (symK ls i) (.inl (1 * 2 ^ z.toNat + codeOf ls i)) (.int (i : Int)) else symK ls i := by
        rw [symK_succ, hzz]
        unfold markK
        rw [hzz, Int.one_mul]
      have ec : (cdL ls).getD (i : Int).toNat 0 = codeOf ls i := by
        rw [Int.toNat_natCast]
        exact rngL_at hi
      have hsz : (symK ls i).length < sizeLine := by rw [sizeLine_eq]; omega
      wtm_at "oo"
      refine And.intro rfl ?_
      refine sel_d (fun c1 => ?_) (fun c1 => ?_)
      · rw [if_pos c1] at es
        wtm_at "oo"
        rename_i L4
        rw [ec, ← es] at L4
        exact L4.sub (by wtm_at "sub")
      · rw [if_neg c1] at es
        wtm_at "oo"
        rw [es]
        exact L3.sub (by wtm_at "sub")
    · rintro σ H' ⟨y2, y3, rfl, L2⟩
      rw [List.length_map] at L2
      wtm_at "oo"
      exact qq d H' L2
def fits (ls : List Int) : Prop := ∀ i, i ≤ ls.length → wts (ls.take i) ≤ 32768
def sp_Book___init__ (K : PySem.W.Frag) : Sp := fun vs H Q E => ∃ (p dx a : Addr) (ls : List Int), vs = [.ref p, .ref a] ∧ H p = some (.ins (He.ga K "Book") dx []) ∧ SqL K H a (ls.map V.int) ∧ okLen ls ∧
  (fits ls → ∀ c l d H', Own K (delL H [p]) H' [.pt p (bC K dx c l (wts ls) d), pI c (cdL ls), pI l ls, .pt d (.dK (symK ls ls.length))] → Q .non H') ∧
  (∀ k : Nat, k < ls.length → (∀ i, i ≤ k → wts (ls.take i) ≤ 32768) → 32768 < wts (ls.take (k + 1)) → ∀ x H', Own K H H' [.pt x (.xd [("at", .int (k : Nat))])] → E (.ref (He.ga K "TooManyCodes")) (some x) H')
theorem ok_Book___init__ (T : Tx K mg) : Mkr P w K base mg 5 "Book" ["self", "lengths"] (sp_Book___init__ K) [] := by
  obtain ⟨fd, F⟩ := T.d_Book___init__
  refine ⟨fd, [], F.ok sc_Book___init__ (fun vs H Q E h => ?_) (fun cdv A outer s H vs Q E hr h => ⟨_, (pss_cons (ps_fld (pv 0) (by exact (pe_clS (ok_codes T) (hr.mono (by decide)) rfl (L2N.takes_of rfl rfl rfl rfl) (pa_cons (pv 1) pa_nil))) rfl)
 (pss_cons (ps_fld (pv 0) (by exact (pe_callTy (lsK K) rfl T.b_list (by decide +kernel) (pa_cons (pv 1) pa_nil))) rfl)
 (pss_cons (ps_fld (pv 0) (by exact (pe_cl (ok_weight T) (hr.mono (by decide)) rfl (pa_cons (pv 1) pa_nil))) rfl)
 (pss_one (ps_fld (pv 0) (by exact (pe_mt0 (ok_Book__marked_symbols T) (hr.mono (by decide)) (pv 0))) rfl))))), ?_⟩), T.m_Book___init__, T.g_Book, F.bindsN (fun _ _ _ _ _ _ us hl => match us, hl with | [_, _], _ => rfl), .nil⟩
  · first | (obtain ⟨rfl, _⟩ := h; rfl) | (obtain ⟨_, rfl, _⟩ := h; rfl) | (obtain ⟨_, _, rfl, _⟩ := h; rfl) | (obtain ⟨_, _, _, rfl, _⟩ := h; rfl) | (obtain ⟨_, _, _, _, rfl, _⟩ := h; rfl) | (obtain ⟨_, _, _, _, _, rfl, _⟩ := h; rfl) | (obtain ⟨_, _, _, _, _, _, rfl, _⟩ := h; rfl) | (obtain ⟨_, _, _, _, _, _, _, rfl, _⟩ := h; rfl) | (obtain ⟨_, _, _, _, _, _, _, _, rfl, _⟩ := h; rfl) | (obtain ⟨_, _, _, _, _, _, _, _, _, rfl, _⟩ := h; rfl) | (obtain ⟨_, _, _, _, _, _, _, _, _, _, rfl, _⟩ := h; rfl) | (obtain ⟨_, _, _, _, _, _, _, _, _, _, _, rfl, _⟩ := h; rfl) | (obtain ⟨_, _, _, _, _, _, _, _, _, _, _, _, rfl, _⟩ := h; rfl) | (obtain ⟨_, _, _, _, _, _, _, _, _, _, _, _, _, rfl, _⟩ := h; rfl) | (obtain ⟨_, _, _, _, _, _, _, _, _, _, _, _, _, _, rfl, _⟩ := h; rfl) | (obtain ⟨_, _, _, _, _, _, _, _, _, _, _, _, _, _, _, rfl, _⟩ := h; rfl) | (obtain ⟨_, _, _, _, _, _, _, _, _, _, _, _, _, _, _, _, rfl, _⟩ := h; rfl) | (obtain ⟨_, _, _, _, _, _, _, _, _, _, _, _, _, _, _, _, _, rfl, _⟩ := h; rfl) | (obtain ⟨_, _, _, _, _, _, _, _, _, _, _, _, _, _, _, _, _, _, rfl, _⟩ := h; rfl) | (obtain ⟨_, _, _, _, _, _, _, _, _, _, _, _, _, _, _, _, _, _, _, rfl, _⟩ := h; rfl) | (obtain ⟨_, _, _, _, _, _, _, _, _, _, _, _, _, _, _, _, _, _, _, _, rfl, _⟩ := h; rfl) | (obtain ⟨_, _, _, _, _, _, _, _, _, _, _, _, _, _, _, _, _, _, _, _, _, rfl, _⟩ := h; rfl)
  · obtain ⟨p, dx, a, ls, rfl, hp, hS, ok, qq, qe⟩ := h
    have cW := T.c_Book
    k_call_by "xo" st_Book___init__
    have hS2 : SqL K (delL H [p]) a (ls.map V.int) := delL_sq hS hp (fun _ z => nomatch z) (fun _ _ z => nomatch z)
    have L := Own.in1 (K := K) hp
    refine ⟨a, ls, rfl, hS, ok, fun hf c H1 s hc hq => ?_, fun k hk h1 h2 H' x s hx => qe k hk h1 h2 x _ (((Own.start (K := K)).call s).new hx _)⟩
    have L := L.add0 s hc hq
    clear s hc hq
    wtm_at "oo"
    rename_i H2 l H3 L3 H4 L4
    clear L H2 L3
    refine ⟨a, ls, rfl, L4.sq hS2, ok, fun H5 s => ?_⟩
    have L := L4.call s
    clear s L4
    wtm_at "oo"
    rename_i H6 L6
    refine ⟨p, dx, c, l, wts ls, ls, rfl, by wtm_at "ho", by wtm_at "ho", by wtm_at "ho", ok, fun d H7 M => ?_⟩
    have L7 := L6.c1 M
    clear M L6
    wtm_at "oo"
    rename_i H8 L8
    exact qq hf c l d _ (L8.pick (by wtm_at "pk"))


end
end K11

namespace K11
open PySem PySem.Spec PyProof.Rows L2 Bel
local macro_rules | `(tactic| wtm_at "xs") => `(tactic| simp only [x_next, x_seq, x_brk, x_cont, x_drop, x_ret, x_retN, x_if, sel_t, sel_f, selE_t, selE_f, selT_t, selT_f, selC_t, selC_f, x_test, x_tB, x_op, x_un, x_var, x_c, x_cb, x_nil, x_cons, x_rI, x_rI0, x_rU, x_rEq, x_rNe, x_rIxL, x_rIxT, x_rSlL, x_rCat, x_rRep, x_rApp, x_bm, x_bm0, x_sl, x_nopart, x_part, x_tup, x_lst, x_call, x_callS, x_asg, x_gname, x_gtup, x_gnil, x_gcons, x_gsub, x_setL, x_aug, x_ipI, x_ipC, x_bits, x_getL, x_augS, x_and, x_or, x_not, x_k, x_andV, x_orV, x_notV, x_ife, x_chain, x_for, x_ilist, x_itup, x_ienum, x_irng1, x_irng2, x_irev, x_lc, x_yes, wipe_nil, wipe_cons, List.map_cons, List.map_nil, x_misc, x_misc2, x_rz, lookup_at, Bool.not_true, Bool.not_false, decide_true, decide_false, not_true, not_false_eq_true, and_assoc, exists_and_left, exists_eq_left', exists_eq_left, exists_eq', exists_eq_right', exists_eq_right, V.int.injEq, V.ref.injEq, V.bl.injEq, V.str.injEq, List.cons.injEq, and_true, true_and, and_self, Option.some.injEq, List.cons_append, List.nil_append, List.append_nil, List.getElem?_cons_zero, List.getElem?_cons_succ, List.set_cons_zero, List.set_cons_succ, reduceCtorEq, false_and, and_false, exists_false, exists_const, or_false, false_or, scal_ii, scal_bb, scal_ss, List.length_cons, List.length_nil, Int.reduceToNat, Int.reducePow])
local macro_rules | `(tactic| k_call_by "xs" $h:term) => `(tactic| simp only [$h:term, x_next, x_seq, x_brk, x_cont, x_drop, x_ret, x_retN, x_if, sel_t, sel_f, selE_t, selE_f, selT_t, selT_f, selC_t, selC_f, x_test, x_tB, x_op, x_un, x_var, x_c, x_cb, x_nil, x_cons, x_rI, x_rI0, x_rU, x_rEq, x_rNe, x_rIxL, x_rIxT, x_rSlL, x_rCat, x_rRep, x_rApp, x_bm, x_bm0, x_sl, x_nopart, x_part, x_tup, x_lst, x_call, x_callS, x_asg, x_gname, x_gtup, x_gnil, x_gcons, x_gsub, x_setL, x_aug, x_ipI, x_ipC, x_bits, x_getL, x_augS, x_and, x_or, x_not, x_k, x_andV, x_orV, x_notV, x_ife, x_chain, x_for, x_ilist, x_itup, x_ienum, x_irng1, x_irng2, x_irev, x_lc, x_yes, wipe_nil, wipe_cons, List.map_cons, List.map_nil, x_misc, x_misc2, x_rz, lookup_at, Bool.not_true, Bool.not_false, decide_true, decide_false, not_true, not_false_eq_true, and_assoc, exists_and_left, exists_eq_left', exists_eq_left, exists_eq', exists_eq_right', exists_eq_right, V.int.injEq, V.ref.injEq, V.bl.injEq, V.str.injEq, List.cons.injEq, and_true, true_and, and_self, Option.some.injEq, List.cons_append, List.nil_append, List.append_nil, List.getElem?_cons_zero, List.getElem?_cons_succ, List.set_cons_zero, List.set_cons_succ, reduceCtorEq, false_and, and_false, exists_false, exists_const, or_false, false_or, scal_ii, scal_bb, scal_ss, List.length_cons, List.length_nil, Int.reduceToNat, Int.reducePow])
local macro_rules | `(tactic| wtm_at "hp") => `(tactic| first | (with_reducible assumption) | exact upd_same | (refine upd_keep (by with_reducible assumption) ?_; wtm_at "hp") | (refine Same.get (by with_reducible assumption) ?_; wtm_at "hp") | (refine upd_other (by first | (with_reducible assumption) | exact Ne.symm (by with_reducible assumption)) ?_; wtm_at "hp"))
local macro_rules | `(tactic| wtm_at "sq") => `(tactic| first | (with_reducible assumption) | exact SqL.of (by wtm_at "hp") | exact SqT.of (by wtm_at "hp") | (refine Same.seq (same_upd (by with_reducible assumption)) ?_; wtm_at "sq") | (refine Same.seq (by with_reducible assumption) ?_; wtm_at "sq") | (refine Same.seqT (same_upd (by with_reducible assumption)) ?_; wtm_at "sq") | (refine Same.seqT (by with_reducible assumption) ?_; wtm_at "sq"))
local macro_rules | `(tactic| wtm_at "cl") => `(tactic| first | (with_reducible assumption) | omega | (exact cmul_r (by omega) (by omega)) | (exact cmul_l (by omega) (by omega)) | (exact cdiv_ok (by omega) (by omega)) | (exact cpow_ok (by decide)) | (exact ⟨by omega, by omega, by omega⟩) | decide | (exact ⟨by omega, by omega⟩) | (simp only [List.length_append, List.length_map, List.length_cons, List.length_nil, rngL_len, sizeLine_eq]; omega) | wtm_at "hp" | wtm_at "sq")
local macro_rules | `(tactic| wtm_at "pf") => `(tactic| first | (with_reducible assumption) | omega | (simp only [List.length_append, List.length_map, List.length_cons, List.length_nil, rngL_len]; omega) | (with_reducible rfl) | (with_reducible trivial) | (with_reducible decide))
local macro_rules | `(tactic| wtm_at "st") => `(tactic| first | ((with_reducible refine g_at ?_); refine at_call (by wtm_at "sq") (by omega) (by omega) (fun _ _ => ?_)) | ((with_reducible refine g_row ?_); refine row_call (by wtm_at "hp") ?_) | ((with_reducible refine g_int ?_); refine int_call ?_) | ((with_reducible refine g_isi ?_); first | (refine isi_int rfl ?_) | (refine isi_lst rfl (by wtm_at "hp") ?_) | (refine isi_tup rfl (by wtm_at "hp") ?_)) | ((with_reducible refine g_ned ?_); refine ned_f (dq_lst (by wtm_at "sq")) (dq_lst (by wtm_at "sq")) ?_) | ((with_reducible refine g_eqd ?_); refine eqd_t (dq_lst (by wtm_at "sq")) (dq_lst (by wtm_at "sq")) ?_) | ((with_reducible refine g_tyv ?_); refine and_tyv (by wtm_at "sq") ?_) | ((with_reducible refine g_asq ?_); refine and_sq (by wtm_at "sq") ?_) | ((with_reducible refine g_lst ?_); refine ex_lst (by wtm_at "hp") ?_) | ((with_reducible refine g_or ?_); first | (refine ex_or (by wtm_at "sq") ?_) | (refine ex_ort (by wtm_at "sq") ?_)) | ((with_reducible refine g_sq ?_); refine ex_sq (by wtm_at "sq") ?_) | ((with_reducible refine g_sqt ?_); refine ex_sqt (by wtm_at "sq") ?_) | ((with_reducible refine gd_sel ?_); first | (refine sel_p (by wtm_at "pf") ?_) | (refine sel_n (by wtm_at "pf") ?_)) | ((with_reducible refine gn_sel ?_); first | (refine selN_p (by wtm_at "pf") ?_) | (refine selN_n (by wtm_at "pf") ?_)) | ((with_reducible refine gd_selT ?_); first | (refine selT_p (by wtm_at "pf") ?_) | (refine selT_n (by wtm_at "pf") ?_)) | ((with_reducible refine gn_selT ?_); first | (refine selTN_p (by wtm_at "pf") ?_) | (refine selTN_n (by wtm_at "pf") ?_)) | ((with_reducible refine gd_selE ?_); first | (refine selE_p (by wtm_at "pf") ?_) | (refine selE_n (by wtm_at "pf") ?_)) | ((with_reducible refine gn_selE ?_); first | (refine selEN_p (by wtm_at "pf") ?_) | (refine selEN_n (by wtm_at "pf") ?_)) | ((with_reducible refine g_xf ?_); refine xf_at rfl (by wtm_at "hp") ?_) | ((with_reducible refine g_atI ?_); refine ex_at (by first | exact rfl | exact atI_int (by omega) (by wtm_at "pf")) ?_) | ((with_reducible refine g_and ?_); refine And.intro (by wtm_at "cl") ?_) | ((with_reducible refine g_new ?_); intro _ _))
local macro_rules | `(tactic| wtm_at "go") => `(tactic| repeat (first | wtm_at "xs" | wtm_at "st"))
local macro_rules | `(tactic| wtm_at "xo") => `(tactic| simp only [x_next, x_seq, x_brk, x_cont, x_drop, x_ret, x_retN, x_if, sel_t, sel_f, selE_t, selE_f, selT_t, selT_f, selC_t, selC_f, x_test, x_tB, x_op, x_un, x_var, x_c, x_cb, x_nil, x_cons, x_rI, x_rI0, x_rU, x_rEq, x_rNe, x_rIxL, x_rIxT, n_rSlL, n_rCat, n_rRep, n_rApp, x_bm, x_bm0, x_sl, x_nopart, x_part, n_tup, n_lst, x_call, x_callS, x_asg, x_gname, x_gtup, x_gnil, x_gcons, x_gsub, n_setL, x_aug, x_ipI, x_ipC, x_bits, x_getL, x_augS, x_and, x_or, x_not, x_k, x_andV, x_orV, x_notV, x_ife, x_chain, x_for, x_ilist, x_itup, x_ienum, x_irng1, x_irng2, x_irev, x_lc, x_yes, wipe_nil, wipe_cons, List.map_cons, List.map_nil, x_misc, x_misc2, x_rz, lookup_at, Bool.not_true, Bool.not_false, decide_true, decide_false, not_true, not_false_eq_true, and_assoc, exists_and_left, exists_eq_left', exists_eq_left, exists_eq', exists_eq_right', exists_eq_right, V.int.injEq, V.ref.injEq, V.bl.injEq, V.str.injEq, List.cons.injEq, and_true, true_and, and_self, Option.some.injEq, List.cons_append, List.nil_append, List.append_nil, List.getElem?_cons_zero, List.getElem?_cons_succ, List.set_cons_zero, List.set_cons_succ, reduceCtorEq, false_and, and_false, exists_false, exists_const, or_false, false_or, scal_ii, scal_bb, scal_ss, List.length_cons, List.length_nil, Int.reduceToNat, Int.reducePow, n_fld, n_dnew, n_dput, n_din, n_dget, n_dget2, n_glst, n_sfld, n_aug, n_meth, n_mw, n_make, n_kw, n_rLs, t_s1, t_i1, t_i2, t_i3, t_i4, t_i5, x_chain3, x_irng3, x_irevR, x_rg1, x_rg2, ints_cat, ints_app1, ints_len, ints_take, ints_drop, rep_one])
local macro_rules | `(tactic| k_call_by "xo" $h:term) => `(tactic| simp only [$h:term, x_next, x_seq, x_brk, x_cont, x_drop, x_ret, x_retN, x_if, sel_t, sel_f, selE_t, selE_f, selT_t, selT_f, selC_t, selC_f, x_test, x_tB, x_op, x_un, x_var, x_c, x_cb, x_nil, x_cons, x_rI, x_rI0, x_rU, x_rEq, x_rNe, x_rIxL, x_rIxT, n_rSlL, n_rCat, n_rRep, n_rApp, x_bm, x_bm0, x_sl, x_nopart, x_part, n_tup, n_lst, x_call, x_callS, x_asg, x_gname, x_gtup, x_gnil, x_gcons, x_gsub, n_setL, x_aug, x_ipI, x_ipC, x_bits, x_getL, x_augS, x_and, x_or, x_not, x_k, x_andV, x_orV, x_notV, x_ife, x_chain, x_for, x_ilist, x_itup, x_ienum, x_irng1, x_irng2, x_irev, x_lc, x_yes, wipe_nil, wipe_cons, List.map_cons, List.map_nil, x_misc, x_misc2, x_rz, lookup_at, Bool.not_true, Bool.not_false, decide_true, decide_false, not_true, not_false_eq_true, and_assoc, exists_and_left, exists_eq_left', exists_eq_left, exists_eq', exists_eq_right', exists_eq_right, V.int.injEq, V.ref.injEq, V.bl.injEq, V.str.injEq, List.cons.injEq, and_true, true_and, and_self, Option.some.injEq, List.cons_append, List.nil_append, List.append_nil, List.getElem?_cons_zero, List.getElem?_cons_succ, List.set_cons_zero, List.set_cons_succ, reduceCtorEq, false_and, and_false, exists_false, exists_const, or_false, false_or, scal_ii, scal_bb, scal_ss, List.length_cons, List.length_nil, Int.reduceToNat, Int.reducePow, n_fld, n_dnew, n_dput, n_din, n_dget, n_dget2, n_glst, n_sfld, n_aug, n_meth, n_mw, n_make, n_kw, n_rLs, t_s1, t_i1, t_i2, t_i3, t_i4, t_i5, x_chain3, x_irng3, x_irevR, x_rg1, x_rg2, ints_cat, ints_app1, ints_len, ints_take, ints_drop, rep_one])
local macro_rules | `(tactic| wtm_at "mem") => `(tactic| first | (with_reducible exact mem_here) | (with_reducible refine mem_there ?_; wtm_at "mem"))
local macro_rules | `(tactic| wtm_at "pp") => `(tactic| first | (with_reducible exact Put.here) | (with_reducible apply Put.there; wtm_at "pp"))
local macro_rules | `(tactic| wtm_at "ho") => `(tactic| first | (with_reducible assumption) | exact Own.get (by with_reducible assumption) (by wtm_at "mem") | exact Own.base (by with_reducible assumption) (by with_reducible assumption))
local macro_rules | `(tactic| wtm_at "qo") => `(tactic| first | (with_reducible assumption) | exact SqL.of (by wtm_at "ho") | exact sqT_tupI (by wtm_at "ho") | exact sqT_tupS (by wtm_at "ho") | exact SqT.of (by wtm_at "ho") | exact Own.imT (by with_reducible assumption) (by wtm_at "mem") | exact Own.sq (by with_reducible assumption) (by with_reducible assumption) | exact Own.sqT (by with_reducible assumption) (by with_reducible assumption))
local macro_rules | `(tactic| wtm_at "sub") => `(tactic| first | exact List.nil_sublist _ | (with_reducible refine List.Sublist.cons_cons _ ?_; wtm_at "sub") | (refine List.Sublist.cons _ ?_; wtm_at "sub"))
local macro_rules | `(tactic| wtm_at "co") => `(tactic| first | (with_reducible assumption) | omega | (exact cmul_r (by omega) (by omega)) | (exact cmul_l (by omega) (by omega)) | (exact cdiv_ok (by omega) (by omega)) | (exact cpow_ok (by decide)) | (exact ⟨by omega, by omega, by omega⟩) | decide | (exact ⟨by omega, by omega⟩) | (simp only [List.length_append, List.length_map, List.length_cons, List.length_nil, rngL_len, sizeLine_eq]; omega) | wtm_at "ho" | wtm_at "qo")
local macro_rules | `(tactic| wtm_at "so") => `(tactic| first | ((with_reducible refine g_dputO ?_); refine dputI (by with_reducible assumption) (by wtm_at "pp") (by wtm_at "co") (fun _ _ => ?_)) | ((with_reducible refine g_dinO ?_); refine dinI (by wtm_at "ho") ?_) | ((with_reducible refine g_isDO ?_); refine isDO (by wtm_at "ho") ?_) | ((with_reducible refine g_dg2 ?_); refine dg2I (by wtm_at "ho") ?_) | ((with_reducible refine g_fldO ?_); refine fldO (by wtm_at "ho") (by with_reducible assumption) (by wtm_at "mem") (by wtm_at "lk") ?_) | ((with_reducible refine g_fldC ?_); refine fldC (by wtm_at "ho") (by with_reducible assumption) (by wtm_at "mem") (by wtm_at "lk") ?_) | ((with_reducible refine g_putC ?_); refine putC (by with_reducible assumption) (by wtm_at "pp") (by wtm_at "pu") (by wtm_at "co") (fun _ _ => ?_)) | ((with_reducible refine g_stoO ?_); refine stoO (by with_reducible assumption) (by wtm_at "pp") (by wtm_at "pu") (by with_reducible assumption) (by wtm_at "mem") (by wtm_at "co") (fun _ _ => ?_)) | ((with_reducible refine g_metO ?_); refine metO (by wtm_at "ho") (by wtm_at "ln") ?_) | ((with_reducible refine g_makO ?_); refine makO (by with_reducible assumption) (fun _ _ _ _ => ?_)) | ((with_reducible refine g_sum ?_); refine sum_call (by wtm_at "qo") ?_) | ((with_reducible refine g_cq ?_); exact cq (by with_reducible assumption) (by simp only [rngL_len, List.length_map, List.length_take]; omega)) | ((with_reducible refine g_newO ?_); refine newO (by with_reducible assumption) (fun _ _ _ => ?_)) | ((with_reducible refine g_appO ?_); refine appI (by with_reducible assumption) (by wtm_at "pp") (by wtm_at "co") (fun _ _ => ?_)) | ((with_reducible refine g_setO ?_); refine setI (by with_reducible assumption) (by wtm_at "pp") (by omega) (by wtm_at "co") (fun _ _ => ?_)) | ((with_reducible refine g_appO ?_); refine appO (by with_reducible assumption) (by wtm_at "pp") (by wtm_at "co") (fun _ _ => ?_)) | ((with_reducible refine g_setO ?_); refine setO (by with_reducible assumption) (by wtm_at "pp") (by omega) (by wtm_at "co") (fun _ _ => ?_)) | ((with_reducible refine g_at ?_); refine at_call (by wtm_at "qo") (by omega) (by omega) (fun _ _ => ?_)) | ((with_reducible refine g_row ?_); refine row_call (by wtm_at "ho") ?_) | ((with_reducible refine g_int ?_); refine int_call ?_) | ((with_reducible refine g_isi ?_); first | (refine isi_int rfl ?_) | (refine isi_sqL rfl (by wtm_at "qo") ?_) | (refine isi_sqT rfl (by wtm_at "qo") ?_) | (refine isi_bl rfl ?_) | (refine isi_non rfl ?_) | (refine isi_str rfl ?_)) | ((with_reducible refine g_ned ?_); first | (refine ned_f (dq_lst (by wtm_at "qo")) (dq_lst (by wtm_at "qo")) ?_) | (refine ned_ints (by wtm_at "qo") (by wtm_at "qo") ?_) | (refine nedT_ints (by wtm_at "qo") (by wtm_at "qo") ?_)) | ((with_reducible refine g_eqd ?_); first | (refine eqd_t (dq_lst (by wtm_at "qo")) (dq_lst (by wtm_at "qo")) ?_) | (refine eqd_ints (by wtm_at "qo") (by wtm_at "qo") ?_) | (refine eqdT_ints (by wtm_at "qo") (by wtm_at "qo") ?_)) | ((with_reducible refine g_tyv ?_); refine and_tyv (by wtm_at "qo") ?_) | ((with_reducible refine g_asq ?_); refine and_sq (by wtm_at "qo") ?_) | ((with_reducible refine g_lst ?_); refine ex_lst (by wtm_at "ho") ?_) | ((with_reducible refine g_or ?_); first | (refine ex_or (by wtm_at "qo") ?_) | (refine ex_ort (by wtm_at "qo") ?_)) | ((with_reducible refine g_sq ?_); refine ex_sq (by wtm_at "qo") ?_) | ((with_reducible refine g_sqt ?_); refine ex_sqt (by wtm_at "qo") ?_) | ((with_reducible refine gd_sel ?_); first | (refine sel_p (by wtm_at "pf") ?_) | (refine sel_n (by wtm_at "pf") ?_)) | ((with_reducible refine gn_sel ?_); first | (refine selN_p (by wtm_at "pf") ?_) | (refine selN_n (by wtm_at "pf") ?_)) | ((with_reducible refine gd_selT ?_); first | (refine selT_p (by wtm_at "pf") ?_) | (refine selT_n (by wtm_at "pf") ?_)) | ((with_reducible refine gn_selT ?_); first | (refine selTN_p (by wtm_at "pf") ?_) | (refine selTN_n (by wtm_at "pf") ?_)) | ((with_reducible refine gd_selE ?_); first | (refine selE_p (by wtm_at "pf") ?_) | (refine selE_n (by wtm_at "pf") ?_)) | ((with_reducible refine gn_selE ?_); first | (refine selEN_p (by wtm_at "pf") ?_) | (refine selEN_n (by wtm_at "pf") ?_)) | ((with_reducible refine g_xf ?_); refine xf_at rfl (by wtm_at "ho") ?_) | ((with_reducible refine g_atI ?_); refine ex_at (by first | exact rfl | exact atI_int (by omega) (by wtm_at "pf")) ?_) | ((with_reducible refine g_and ?_); refine And.intro (by wtm_at "co") ?_))
local macro_rules | `(tactic| wtm_at "oo") => `(tactic| repeat (first | wtm_at "xo" | wtm_at "so"))
local macro_rules | `(tactic| wtm_at "cR") => `(tactic| (refine' compRi _ (by with_reducible assumption) (by omega) (fun _ _ _ _ _ => ?_) (fun _ _ _ => ?_); rotate_left; focus (wtm_at "oo")))

local macro_rules | `(tactic| wtm_at "lk") => `(tactic| first | (with_reducible exact lk_here) | (simp only [lk_here, lk_skip, lk_nil, nb_0_0, nb_0_1, nb_0_2, nb_0_3, nb_0_4, nb_0_5, nb_0_6, nb_1_0, nb_1_1, nb_1_2, nb_1_3, nb_1_4, nb_1_5, nb_1_6, nb_2_1, nb_2_2, nb_2_3, nb_2_4, nb_2_5, nb_2_6, nb_3_0, nb_3_2, nb_3_3, nb_3_4, nb_3_5, nb_3_6, nb_4_0, nb_4_1, nb_4_3, nb_4_4, nb_4_5, nb_4_6, nb_5_0, nb_5_1, nb_5_2, nb_5_4, nb_5_5, nb_5_6, nb_6_0, nb_6_1, nb_6_2, nb_6_3, nb_6_4, nb_6_5, nb_6_6, nb_7_0, nb_7_1, nb_7_2, nb_7_3, nb_7_5, nb_7_6, nb_8_0, nb_8_1, nb_8_2, nb_8_3, nb_8_4, nb_8_6, nb_9_0, nb_9_1, nb_9_2, nb_9_3, nb_9_4, nb_9_5, nb_10_0, nb_10_1, nb_10_2, nb_10_3, nb_10_4, nb_10_5, nb_10_6, nb_11_0, nb_11_1, nb_11_2, nb_11_3, nb_11_4, nb_11_5, nb_11_6, nb_12_0, nb_12_1, nb_12_2, nb_12_3, nb_12_4, nb_12_5, nb_12_6, nb_13_0, nb_13_1, nb_13_2, nb_13_3, nb_13_4, nb_13_5, nb_13_6, nb_14_0, nb_14_1, nb_14_2, nb_14_3, nb_14_4, nb_14_5, nb_14_6]; first | done | exact rfl))
local macro_rules | `(tactic| wtm_at "ln") => `(tactic| first | (with_reducible exact lk_nil) | (simp only [lk_skip, lk_nil, nb_0_0, nb_0_1, nb_0_2, nb_0_3, nb_0_4, nb_0_5, nb_0_6, nb_1_0, nb_1_1, nb_1_2, nb_1_3, nb_1_4, nb_1_5, nb_1_6, nb_2_1, nb_2_2, nb_2_3, nb_2_4, nb_2_5, nb_2_6, nb_3_0, nb_3_2, nb_3_3, nb_3_4, nb_3_5, nb_3_6, nb_4_0, nb_4_1, nb_4_3, nb_4_4, nb_4_5, nb_4_6, nb_5_0, nb_5_1, nb_5_2, nb_5_4, nb_5_5, nb_5_6, nb_6_0, nb_6_1, nb_6_2, nb_6_3, nb_6_4, nb_6_5, nb_6_6, nb_7_0, nb_7_1, nb_7_2, nb_7_3, nb_7_5, nb_7_6, nb_8_0, nb_8_1, nb_8_2, nb_8_3, nb_8_4, nb_8_6, nb_9_0, nb_9_1, nb_9_2, nb_9_3, nb_9_4, nb_9_5, nb_10_0, nb_10_1, nb_10_2, nb_10_3, nb_10_4, nb_10_5, nb_10_6, nb_11_0, nb_11_1, nb_11_2, nb_11_3, nb_11_4, nb_11_5, nb_11_6, nb_12_0, nb_12_1, nb_12_2, nb_12_3, nb_12_4, nb_12_5, nb_12_6, nb_13_0, nb_13_1, nb_13_2, nb_13_3, nb_13_4, nb_13_5, nb_13_6, nb_14_0, nb_14_1, nb_14_2, nb_14_3, nb_14_4, nb_14_5, nb_14_6]; done))
local macro_rules | `(tactic| wtm_at "pu") => `(tactic| first | (with_reducible exact pf_nil) | (simp only [pf_nil, pf_here, pf_skip, nb_0_0, nb_0_1, nb_0_2, nb_0_3, nb_0_4, nb_0_5, nb_0_6, nb_1_0, nb_1_1, nb_1_2, nb_1_3, nb_1_4, nb_1_5, nb_1_6, nb_2_1, nb_2_2, nb_2_3, nb_2_4, nb_2_5, nb_2_6, nb_3_0, nb_3_2, nb_3_3, nb_3_4, nb_3_5, nb_3_6, nb_4_0, nb_4_1, nb_4_3, nb_4_4, nb_4_5, nb_4_6, nb_5_0, nb_5_1, nb_5_2, nb_5_4, nb_5_5, nb_5_6, nb_6_0, nb_6_1, nb_6_2, nb_6_3, nb_6_4, nb_6_5, nb_6_6, nb_7_0, nb_7_1, nb_7_2, nb_7_3, nb_7_5, nb_7_6, nb_8_0, nb_8_1, nb_8_2, nb_8_3, nb_8_4, nb_8_6, nb_9_0, nb_9_1, nb_9_2, nb_9_3, nb_9_4, nb_9_5, nb_10_0, nb_10_1, nb_10_2, nb_10_3, nb_10_4, nb_10_5, nb_10_6, nb_11_0, nb_11_1, nb_11_2, nb_11_3, nb_11_4, nb_11_5, nb_11_6, nb_12_0, nb_12_1, nb_12_2, nb_12_3, nb_12_4, nb_12_5, nb_12_6, nb_13_0, nb_13_1, nb_13_2, nb_13_3, nb_13_4, nb_13_5, nb_13_6, nb_14_0, nb_14_1, nb_14_2, nb_14_3, nb_14_4, nb_14_5, nb_14_6]; first | done | exact rfl))
local macro_rules | `(tactic| wtm_at "tk") => `(tactic| first | (with_reducible exact Take.here) | (exact Take.here) | ((with_reducible apply Take.there); wtm_at "tk"))
local macro_rules | `(tactic| wtm_at "pk") => `(tactic| first | exact Pick.nil | ((with_reducible refine' Pick.cons ?tk1 ?pk1); (case tk1 => wtm_at "tk"); (case pk1 => wtm_at "pk")) | ((with_reducible refine Pick.im (by wtm_at "mem") ?_); wtm_at "pk") | ((with_reducible refine Pick.ims (by wtm_at "mem") ?_); wtm_at "pk"))
section
variable {P : Program} {w : World} {K : PySem.W.Frag} {mg : Str → Option Value} {base : Heap}
theorem low_nat : ∀ t : Nat, 0 < t → ∃ v, t - (t &&& (t - 1)) = 2 ^ v ∧ 2 ^ v ∣ t ∧ t &&& (t - 1) ≤ t := by
  intro t
  induction t using Nat.strongRecOn with
  | _ t ih =>
    intro h
    by_cases c : t % 2 = 1
    · have e : t &&& (t - 1) = t - 1 := by
        apply Nat.eq_of_testBit_eq
        intro i
        rw [Nat.testBit_and]
        cases i with
        | zero =>
          have : (t - 1) % 2 = 0 := by omega
          simp [Nat.testBit_zero, this]
        | succ i =>
          rw [Nat.testBit_succ, Nat.testBit_succ, show (t - 1) / 2 = t / 2 by omega, Bool.and_self]
      exact ⟨0, by rw [e]; show t - (t - 1) = 1; omega, ⟨t, by simp⟩, by omega⟩
    · obtain ⟨v, e1, ⟨q, e2⟩, e3⟩ := ih (t / 2) (by omega) (by omega)
      have e : t &&& (t - 1) = 2 * (t / 2 &&& (t / 2 - 1)) := by
        apply Nat.eq_of_testBit_eq
        intro i
        rw [Nat.testBit_and]
        cases i with
        | zero =>
          have : t % 2 = 0 := by omega
          simp [Nat.testBit_zero, this]
        | succ i =>
          rw [Nat.testBit_succ, Nat.testBit_succ, Nat.testBit_succ, show (t - 1) / 2 = t / 2 - 1 by omega, show 2 * (t / 2 &&& (t / 2 - 1)) / 2 = (t / 2 &&& (t / 2 - 1)) by omega, Nat.testBit_and]
      refine ⟨v + 1, by rw [e, Nat.pow_succ]; omega, ⟨q, by rw [Nat.pow_succ, Nat.mul_right_comm, ← e2]; omega⟩, by rw [e]; omega⟩
theorem low_int {t : Int} (h : 0 < t) : ∃ v : Nat, Builtin.bitAnd t (-t) = 2 ^ v ∧ (2 : Int) ^ v ∣ t := by
  obtain ⟨n, rfl⟩ := Int.eq_ofNat_of_zero_le (Int.le_of_lt h)
  obtain ⟨v, e1, ⟨q, e2⟩, e3⟩ := low_nat n (by omega)
  refine ⟨v, ?_, ⟨(q : Int), by rw [e2, Int.natCast_mul, Int.natCast_pow]; rfl⟩⟩
  rw [bitAnd_pn (by omega) (by omega)]
  have eb : (Builtin.bitNot (-(n : Int))).toNat = n - 1 := by
    unfold Builtin.bitNot
    omega
  rw [eb, Int.toNat_natCast]
  have : ((2 ^ v : Nat) : Int) = (2 : Int) ^ v := by rw [Int.natCast_pow]; rfl
  rw [← this, ← e1]
  omega
theorem wts_set : ∀ {ls : List Int} {k : Nat} {z : Int}, ls[k]? = some 0 → wts (ls.set k z) = wts ls + wt z
  | [], _, _, h => by cases h
  | x :: r, 0, z, h => by
    cases (Option.some.inj h)
    show (wt z :: r.map wt).sum = (wt 0 :: r.map wt).sum + wt z
    rw [List.sum_cons, List.sum_cons]
    show wt z + _ = 0 + _ + wt z
    omega
  | x :: r, k + 1, z, h => by
    have ih := wts_set (ls := r) (k := k) (z := z) h
    show (wt x :: (r.set k z).map wt).sum = (wt x :: r.map wt).sum + wt z
    rw [List.sum_cons, List.sum_cons]
    unfold wts at ih
    omega
theorem okLen_set {ls : List Int} {k : Nat} {z : Int} (h : okLen ls) (z0 : 0 ≤ z) (z1 : z ≤ 15) : okLen (ls.set k z) :=
  ⟨fun l m => (List.mem_or_eq_of_mem_set m).elim (h.lo l) fun e => e ▸ z0, fun l m => (List.mem_or_eq_of_mem_set m).elim (h.hi l) fun e => e ▸ z1, by rw [List.length_set]; exact h.len⟩
/-- a step that fills up -/
theorem fill_step {t : Int} {v : Nat} (h0 : 0 < t) (h1 : t < 32768) (hd : (2 : Int) ^ v ∣ t) : v ≤ 14 ∧ t + 2 ^ v ≤ 32768 := by
  obtain ⟨m, rfl⟩ := hd
  have hp : (0 : Int) < 2 ^ v := pow2_pos
  have hm : 1 ≤ m := by
    apply Decidable.byContradiction
    intro c
    have : (2 : Int) ^ v * m ≤ 0 := Int.mul_nonpos_of_nonneg_of_nonpos (Int.le_of_lt hp) (by omega)
    omega
  have hv : v ≤ 14 := by
    apply Decidable.byContradiction
    intro c
    have h2 : (2 : Int) ^ 15 ≤ 2 ^ v := pow2_le (by omega)
    have h3 : (2 : Int) ^ v * 1 ≤ 2 ^ v * m := Int.mul_le_mul_of_nonneg_left hm (Int.le_of_lt hp)
    omega
  refine ⟨hv, ?_⟩
  have e : (32768 : Int) = 2 ^ v * 2 ^ (15 - v) := by
    rw [← Int.pow_add, show v + (15 - v) = 15 by omega]
    rfl
  rw [e] at h1 ⊢
  have h4 : m < 2 ^ (15 - v) := Int.lt_of_mul_lt_mul_left h1 (Int.le_of_lt hp)
  have h5 : (2 : Int) ^ v * (m + 1) ≤ 2 ^ v * 2 ^ (15 - v) := Int.mul_le_mul_of_nonneg_left (by omega) (Int.le_of_lt hp)
  rw [Int.mul_add, Int.mul_one] at h5
  exact h5
theorem bits_pow (v : Nat) : Builtin.Int.intBits (2 ^ v : Int) = v + 1 := by
  have : (2 : Int) ^ v = ((2 ^ v : Nat) : Int) := by rw [Int.natCast_pow]; rfl
  rw [this]
  exact bits_is (Nat.le_refl _) (by rw [Nat.pow_succ]; have := Nat.two_pow_pos v; omega)
def sp__law_lengths (K : PySem.W.Frag) : Sp := fun vs H Q _ => ∃ (a : Addr) (ds : List Int) (f : Int), vs = [.ref a, .int f] ∧ SqL K H a (ds.map V.int) ∧ 0 ≤ f ∧ ∀ ls p H', okLen ls → wts ls ≤ 32768 → 0 < ls.length → ls.length ≤ 24 → Own K H H' [pI p ls] → Q (.ref p) H'
theorem ok__law_lengths (T : Tx K mg) : Cl P w K mg base 2 "_law_lengths" ["draws", "first"] (sp__law_lengths K) [] := by
  obtain ⟨gm, fd, F⟩ := T.d__law_lengths
  refine ⟨_, fd, [], F.ok sc__law_lengths (fun vs H Q E h => ?_) (fun cdv A outer s H vs Q E hr h => ⟨_, (PSs.nox (pss_cons (ps_set (i := 2) sc__law_lengths.nd rfl (Or.inl rfl) (by exact (pe_op op_add pe_int (pe_cl (ok__law_at T) (hr.mono (by decide)) rfl (pa_cons (pv 0) (pa_cons (pv 1) (pa_cons pe_int pa_nil)))))))
 (pss_cons (ps_set (i := 3) sc__law_lengths.nd rfl (Or.inl rfl) (by exact (pe_lst pa_nil)))
 (pss_cons (ps_set (i := 4) sc__law_lengths.nd rfl (Or.inl rfl) (by exact pe_int))
 (pss_cons (ps_for PassesOwn.never rfl (pi_range1 rfl T.b_range (pa_cons (pe_op op_add pe_int (pe_cl (ok__law_at T) (hr.mono (by decide)) rfl (pa_cons (pv 0) (pa_cons (pe_op op_add (pv 1) pe_int) (pa_cons pe_int pa_nil))))) pa_nil)) (pg_name (i := 5) sc__law_lengths.nd rfl (Or.inl rfl))
 (pss_cons (ps_set (i := 6) sc__law_lengths.nd rfl (Or.inl rfl) (by exact (pe_cl (ok__law_at T) (hr.mono (by decide)) rfl (pa_cons (pv 0) (pa_cons (pe_op op_add (pe_op op_add (pv 1) pe_int) (pv 5)) (pa_cons (pe_op op_add (pv 2) pe_int) pa_nil))))))
 (pss_cons (ps_if (PW.pt (pw_and (pt_cmpR op_gt (pv 6) pe_int (nomark _)) (pw_and1 (pt_cmpR op_gt (pe_op op_add (pv 4) (pe_op op_shr pe_int (pv 6))) pe_int (nomark _)))))
 (pss_one (ps_set (i := 6) sc__law_lengths.nd rfl (Or.inl rfl) (by exact pe_int)))
 pss_nil)
 (pss_cons (ps_if (pt_cmpR op_gt (pv 6) pe_int (nomark _))
 (pss_one (ps_set (i := 4) sc__law_lengths.nd rfl (Or.inl rfl) (by exact (pe_op op_add (pv 4) (pe_op op_shr pe_int (pv 6))))))
 pss_nil)
 (pss_one (ps_expr (pe_bm PySem.F.plainAttrs_list PySem.F.slot_list_append PySem.F.type_list_append mt_append (pv 3) (pa_cons (pv 6) pa_nil))))))))
 (pss_cons (ps_if (pt_cmpR op_eq (pe_cl (ok__law_at T) (hr.mono (by decide)) rfl (pa_cons (pv 0) (pa_cons (pv 1) (pa_cons pe_int pa_nil)))) pe_int (nomark _))
 (pss_one (ps_for PassesOwn.never rfl (pi_range1 rfl T.b_range (pa_cons (pe_callB (lenK K) rfl T.b_len (by decide +kernel) (pa_cons (pv 3) pa_nil)) pa_nil)) (pg_name (i := 5) sc__law_lengths.nd rfl (Or.inl rfl))
 (pss_one (ps_if (PW.pt (pw_and (pt_cmpR op_eq (pe_ix (ixl K) (pv 3) (pv 5) (fun _ _ => rfl)) pe_int (nomark _)) (pw_and1 (pt_cmpR op_lt (pv 4) pe_int (nomark _)))))
 (pss_cons (ps_set (i := 7) sc__law_lengths.nd rfl (Or.inl rfl) (by exact (pe_op op_and (pv 4) (pe_un un_neg (pv 4)))))
 (pss_cons (ps_if (pt_cmpR op_eq (pv 4) pe_int (nomark _))
 (pss_one (ps_set (i := 7) sc__law_lengths.nd rfl (Or.inl rfl) (by exact pe_int)))
 pss_nil)
 (pss_cons (ps_asg (pe_op op_sub pe_int (pe_bits (pv 7))) (pg_sub (pv 3) (pv 5) set_list))
 (pss_one (ps_set (i := 4) sc__law_lengths.nd rfl (Or.inl rfl) (by exact (pe_op op_add (pv 4) (pv 7))))))))
 pss_nil))))
 pss_nil)
 (pss_one (ps_ret (by exact (pv 3)))))))))), ?_⟩), gm, F.kp, F.bindsN (fun _ _ _ _ _ _ us hl => match us, hl with | [_, _], _ => rfl), .nil⟩
  · first | (obtain ⟨rfl, _⟩ := h; rfl) | (obtain ⟨_, rfl, _⟩ := h; rfl) | (obtain ⟨_, _, rfl, _⟩ := h; rfl) | (obtain ⟨_, _, _, rfl, _⟩ := h; rfl) | (obtain ⟨_, _, _, _, rfl, _⟩ := h; rfl) | (obtain ⟨_, _, _, _, _, rfl, _⟩ := h; rfl) | (obtain ⟨_, _, _, _, _, _, rfl, _⟩ := h; rfl) | (obtain ⟨_, _, _, _, _, _, _, rfl, _⟩ := h; rfl) | (obtain ⟨_, _, _, _, _, _, _, _, rfl, _⟩ := h; rfl) | (obtain ⟨_, _, _, _, _, _, _, _, _, rfl, _⟩ := h; rfl) | (obtain ⟨_, _, _, _, _, _, _, _, _, _, rfl, _⟩ := h; rfl) | (obtain ⟨_, _, _, _, _, _, _, _, _, _, _, rfl, _⟩ := h; rfl) | (obtain ⟨_, _, _, _, _, _, _, _, _, _, _, _, rfl, _⟩ := h; rfl) | (obtain ⟨_, _, _, _, _, _, _, _, _, _, _, _, _, rfl, _⟩ := h; rfl) | (obtain ⟨_, _, _, _, _, _, _, _, _, _, _, _, _, _, rfl, _⟩ := h; rfl) | (obtain ⟨_, _, _, _, _, _, _, _, _, _, _, _, _, _, _, rfl, _⟩ := h; rfl) | (obtain ⟨_, _, _, _, _, _, _, _, _, _, _, _, _, _, _, _, rfl, _⟩ := h; rfl) | (obtain ⟨_, _, _, _, _, _, _, _, _, _, _, _, _, _, _, _, _, rfl, _⟩ := h; rfl) | (obtain ⟨_, _, _, _, _, _, _, _, _, _, _, _, _, _, _, _, _, _, rfl, _⟩ := h; rfl) | (obtain ⟨_, _, _, _, _, _, _, _, _, _, _, _, _, _, _, _, _, _, _, rfl, _⟩ := h; rfl) | (obtain ⟨_, _, _, _, _, _, _, _, _, _, _, _, _, _, _, _, _, _, _, _, rfl, _⟩ := h; rfl) | (obtain ⟨_, _, _, _, _, _, _, _, _, _, _, _, _, _, _, _, _, _, _, _, _, rfl, _⟩ := h; rfl)
  · obtain ⟨a, ds, f, rfl, hS, hf, q⟩ := h
    k_call_by "xo" st__law_lengths
    have L := Own.start (K := K) (H := H)
    wtm_at "oo"
    rename_i m0 m1 p H1 L1 n0 n1
    generalize atD ds f 15 = most at *
    generalize atD ds (f + 1) 24 = n at *
    refine loop_range (fun i σ H' => ∃ ls y5 y6, σ = [some (.ref a), some (.int f), some (.int (1 + most)), some (.ref p), some (.int (wts ls)), y5, y6, none] ∧ okLen ls ∧ ls.length = i ∧ wts ls ≤ 32768 ∧ Own K H H' [pI p ls]) ⟨[], none, none, rfl, ⟨fun _ m => (nomatch m), fun _ m => (nomatch m), Nat.zero_le _⟩, rfl, by decide, L1⟩ ?_ ?_
    · rintro i σ H' hi ⟨ls, y4, y5, rfl, ok, hl, hw, L⟩
      wtm_at "oo"
      rename_i l0 l1
      generalize atD ds (f + 2 + (0 + (i : Int))) (1 + most + 1) = len at *
      generalize hk : tSeq _ _ _ = kont
      have fin : ∀ len : Int, 0 ≤ len → len ≤ 15 → (0 < len → wts ls + wt len ≤ 32768) → kont [some (.ref a), some (.int f), some (.int (1 + most)), some (.ref p), some (.int (wts ls)), some (.int (0 + (i : Int))), some (.int len), none] H' := by
        intro len l0 l1 lw
        subst hk
        simp only [x_seq]
        generalize hk : tDrop _ _ = kont
        have fin : kont [some (.ref a), some (.int f), some (.int (1 + most)), some (.ref p), some (.int (wts (ls ++ [len]))), some (.int (0 + (i : Int))), some (.int len), none] H' := by
          subst hk
          wtm_at "oo"
          rename_i L2
          refine ⟨_, rfl, okLen_snoc ok l0 l1 (by omega), by rw [List.length_append, hl]; rfl, ?_, L2⟩
          rw [wts_app]
          by_cases c : 0 < len
          · exact lw c
          · rw [show len = 0 by omega]
            show wts ls + 0 ≤ 32768
            omega
        wtm_at "oo"
        refine sel_d (fun c => ?_) (fun c => ?_)
        · wtm_at "oo"
          rw [wts_app, wt_is c] at fin
          exact fin
        · wtm_at "oo"
          rw [wts_app, show len = 0 by omega, show wt 0 = 0 from rfl, Int.add_zero] at fin
          rw [show len = 0 by omega]
          exact fin
      refine selT_d (fun c => ?_) (fun c => ?_)
      · wtm_at "oo"
        refine sel_d (fun c2 => ?_) (fun c2 => ?_)
        · wtm_at "oo"
          exact fin _ (by omega) (by omega) (fun z => by omega)
        · wtm_at "oo"
          exact fin _ (by omega) (by omega) (fun z => by rw [wt_is z]; omega)
      · wtm_at "oo"
        exact fin _ (by omega) (by omega) (fun z => absurd z c)
    · rintro σ H' ⟨ls, y4, y5, rfl, ok, hl, hw, L⟩
      have hl0 : 0 < ls.length := by omega
      have hl24 : ls.length ≤ 24 := by omega
      clear L1 hl
      wtm_at "oo"
      refine sel_d (fun c => ?_) (fun c => ?_)
      · wtm_at "oo"
        refine loop_rangeN (m := ls.length) (by omega) (fun k σ H' => ∃ ls2 y5 y6 y7, σ = [some (.ref a), some (.int f), some (.int (1 + most)), some (.ref p), some (.int (wts ls2)), y5, y6, y7] ∧ okLen ls2 ∧ ls2.length = ls.length ∧ wts ls2 ≤ 32768 ∧ Own K H H' [pI p ls2]) ⟨ls, _, _, _, rfl, ok, rfl, hw, L⟩ ?_ ?_
        · rintro k σ H2 hk ⟨ls2, y5, y6, y7, rfl, ok, hl, hw, L⟩
          have hz : ls2[k]? = some (ls2.getD k 0) := by
            rw [List.getD_eq_getElem?_getD, List.getElem?_eq_getElem (by omega)]
            rfl
          have ek : (0 + (k : Int)).toNat = k := by omega
          have hw0 := wts_nonneg ls2
          wtm_at "oo"
          rw [ek]
          generalize ls2.getD k 0 = z at *
          refine selT_d (fun c1 => ?_) (fun c1 => ?_)
          · subst c1
            wtm_at "oo"
            refine sel_d (fun c2 => ?_) (fun c2 => ?_)
            · generalize hT : wts ls2 = t at *
              have put : ∀ v : Nat, v ≤ 14 → t + 2 ^ v ≤ 32768 → ∀ H3, Own K H H3 [pI p (ls2.set k (16 - ((v + 1 : Nat) : Int)))] → ∃ ls3, t + 2 ^ v = wts ls3 ∧ okLen ls3 ∧ ls3.length = ls.length ∧ wts ls3 ≤ 32768 ∧ Own K H H3 [pI p ls3] := by
                intro v hv ht H3 L3
                have ew : wts (ls2.set k (16 - ((v + 1 : Nat) : Int))) = t + 2 ^ v := by
                  rw [wts_set hz, hT, wt_pow (by omega) (by omega), show 15 - (16 - ((v + 1 : Nat) : Int)).toNat = v by omega]
                exact ⟨_, ew.symm, okLen_set ok (by omega) (by omega), by rw [List.length_set, hl], by rw [ew]; exact ht, L3⟩
              by_cases c3 : t = 0
              · have eb : Builtin.Int.intBits 16384 = 14 + 1 := bits_pow 14
                wtm_at "oo"
                rename_i H3 L3
                rw [eb, ek] at L3
                obtain ⟨ls3, e1, h3⟩ := put 14 (by decide) (by rw [c3]; decide) H3 L3
                exact ⟨ls3, e1, h3⟩
              · obtain ⟨v, ev, hd⟩ := low_int (t := t) (by omega)
                obtain ⟨v14, ht⟩ := fill_step (by omega) c2 hd
                wtm_at "oo"
                rename_i H3 L3
                rw [ev, bits_pow, ek] at L3
                rw [ev]
                obtain ⟨ls3, e1, h3⟩ := put v v14 ht H3 L3
                exact ⟨ls3, e1, h3⟩
            · wtm_at "oo"
              exact ⟨ls2, rfl, ok, hl, hw, L⟩
          · wtm_at "oo"
            exact ⟨ls2, rfl, ok, hl, hw, L⟩
        · rintro σ H2 ⟨ls2, y5, y6, y7, rfl, ok, hl2, hw, L⟩
          wtm_at "oo"
          exact q ls2 p H2 ok hw (by omega) (by omega) L
      · wtm_at "oo"
        exact q ls p H' ok hw hl0 hl24 L


end
end K11

namespace K11
open PySem PySem.Spec PyProof.Rows L2 Bel
local macro_rules | `(tactic| wtm_at "xs") => `(tactic| simp only [x_next, x_seq, x_brk, x_cont, x_drop, x_ret, x_retN, x_if, sel_t, sel_f, selE_t, selE_f, selT_t, selT_f, selC_t, selC_f, x_test, x_tB, x_op, x_un, x_var, x_c, x_cb, x_nil, x_cons, x_rI, x_rI0, x_rU, x_rEq, x_rNe, x_rIxL, x_rIxT, x_rSlL, x_rCat, x_rRep, x_rApp, x_bm, x_bm0, x_sl, x_nopart, x_part, x_tup, x_lst, x_call, x_callS, x_asg, x_gname, x_gtup, x_gnil, x_gcons, x_gsub, x_setL, x_aug, x_ipI, x_ipC, x_bits, x_getL, x_augS, x_and, x_or, x_not, x_k, x_andV, x_orV, x_notV, x_ife, x_chain, x_for, x_ilist, x_itup, x_ienum, x_irng1, x_irng2, x_irev, x_lc, x_yes, wipe_nil, wipe_cons, List.map_cons, List.map_nil, x_misc, x_misc2, x_rz, lookup_at, Bool.not_true, Bool.not_false, decide_true, decide_false, not_true, not_false_eq_true, and_assoc, exists_and_left, exists_eq_left', exists_eq_left, exists_eq', exists_eq_right', exists_eq_right, V.int.injEq, V.ref.injEq, V.bl.injEq, V.str.injEq, List.cons.injEq, and_true, true_and, and_self, Option.some.injEq, List.cons_append, List.nil_append, List.append_nil, List.getElem?_cons_zero, List.getElem?_cons_succ, List.set_cons_zero, List.set_cons_succ, reduceCtorEq, false_and, and_false, exists_false, exists_const, or_false, false_or, scal_ii, scal_bb, scal_ss, List.length_cons, List.length_nil, Int.reduceToNat, Int.reducePow])
local macro_rules | `(tactic| k_call_by "xs" $h:term) => `(tactic| simp only [$h:term, x_next, x_seq, x_brk, x_cont, x_drop, x_ret, x_retN, x_if, sel_t, sel_f, selE_t, selE_f, selT_t, selT_f, selC_t, selC_f, x_test, x_tB, x_op, x_un, x_var, x_c, x_cb, x_nil, x_cons, x_rI, x_rI0, x_rU, x_rEq, x_rNe, x_rIxL, x_rIxT, x_rSlL, x_rCat, x_rRep, x_rApp, x_bm, x_bm0, x_sl, x_nopart, x_part, x_tup, x_lst, x_call, x_callS, x_asg, x_gname, x_gtup, x_gnil, x_gcons, x_gsub, x_setL, x_aug, x_ipI, x_ipC, x_bits, x_getL, x_augS, x_and, x_or, x_not, x_k, x_andV, x_orV, x_notV, x_ife, x_chain, x_for, x_ilist, x_itup, x_ienum, x_irng1, x_irng2, x_irev, x_lc, x_yes, wipe_nil, wipe_cons, List.map_cons, List.map_nil, x_misc, x_misc2, x_rz, lookup_at, Bool.not_true, Bool.not_false, decide_true, decide_false, not_true, not_false_eq_true, and_assoc, exists_and_left, exists_eq_left', exists_eq_left, exists_eq', exists_eq_right', exists_eq_right, V.int.injEq, V.ref.injEq, V.bl.injEq, V.str.injEq, List.cons.injEq, and_true, true_and, and_self, Option.some.injEq, List.cons_append, List.nil_append, List.append_nil, List.getElem?_cons_zero, List.getElem?_cons_succ, List.set_cons_zero, List.set_cons_succ, reduceCtorEq, false_and, and_false, exists_false, exists_const, or_false, false_or, scal_ii, scal_bb, scal_ss, List.length_cons, List.length_nil, Int.reduceToNat, Int.reducePow])
local macro_rules | `(tactic| wtm_at "hp") => `(tactic| first | (with_reducible assumption) | exact upd_same | (refine upd_keep (by with_reducible assumption) ?_; wtm_at "hp") | (refine Same.get (by with_reducible assumption) ?_; wtm_at "hp") | (refine upd_other (by first | (with_reducible assumption) | exact Ne.symm (by with_reducible assumption)) ?_; wtm_at "hp"))
local macro_rules | `(tactic| wtm_at "sq") => `(tactic| first | (with_reducible assumption) | exact SqL.of (by wtm_at "hp") | exact SqT.of (by wtm_at "hp") | (refine Same.seq (same_upd (by with_reducible assumption)) ?_; wtm_at "sq") | (refine Same.seq (by with_reducible assumption) ?_; wtm_at "sq") | (refine Same.seqT (same_upd (by with_reducible assumption)) ?_; wtm_at "sq") | (refine Same.seqT (by with_reducible assumption) ?_; wtm_at "sq"))
local macro_rules | `(tactic| wtm_at "cl") => `(tactic| first | (with_reducible assumption) | omega | (exact cmul_r (by omega) (by omega)) | (exact cmul_l (by omega) (by omega)) | (exact cdiv_ok (by omega) (by omega)) | (exact cpow_ok (by decide)) | (exact ⟨by omega, by omega, by omega⟩) | decide | (exact ⟨by omega, by omega⟩) | (simp only [List.length_append, List.length_map, List.length_cons, List.length_nil, rngL_len, sizeLine_eq]; omega) | wtm_at "hp" | wtm_at "sq")
local macro_rules | `(tactic| wtm_at "pf") => `(tactic| first | (with_reducible assumption) | omega | (simp only [List.length_append, List.length_map, List.length_cons, List.length_nil, rngL_len]; omega) | (with_reducible rfl) | (with_reducible trivial) | (with_reducible decide))
local macro_rules | `(tactic| wtm_at "st") => `(tactic| first | ((with_reducible refine g_at ?_); refine at_call (by wtm_at "sq") (by omega) (by omega) (fun _ _ => ?_)) | ((with_reducible refine g_row ?_); refine row_call (by wtm_at "hp") ?_) | ((with_reducible refine g_int ?_); refine int_call ?_) | ((with_reducible refine g_isi ?_); first | (refine isi_int rfl ?_) | (refine isi_lst rfl (by wtm_at "hp") ?_) | (refine isi_tup rfl (by wtm_at "hp") ?_)) | ((with_reducible refine g_ned ?_); refine ned_f (dq_lst (by wtm_at "sq")) (dq_lst (by wtm_at "sq")) ?_) | ((with_reducible refine g_eqd ?_); refine eqd_t (dq_lst (by wtm_at "sq")) (dq_lst (by wtm_at "sq")) ?_) | ((with_reducible refine g_tyv ?_); refine and_tyv (by wtm_at "sq") ?_) | ((with_reducible refine g_asq ?_); refine and_sq (by wtm_at "sq") ?_) | ((with_reducible refine g_lst ?_); refine ex_lst (by wtm_at "hp") ?_) | ((with_reducible refine g_or ?_); first | (refine ex_or (by wtm_at "sq") ?_) | (refine ex_ort (by wtm_at "sq") ?_)) | ((with_reducible refine g_sq ?_); refine ex_sq (by wtm_at "sq") ?_) | ((with_reducible refine g_sqt ?_); refine ex_sqt (by wtm_at "sq") ?_) | ((with_reducible refine gd_sel ?_); first | (refine sel_p (by wtm_at "pf") ?_) | (refine sel_n (by wtm_at "pf") ?_)) | ((with_reducible refine gn_sel ?_); first | (refine selN_p (by wtm_at "pf") ?_) | (refine selN_n (by wtm_at "pf") ?_)) | ((with_reducible refine gd_selT ?_); first | (refine selT_p (by wtm_at "pf") ?_) | (refine selT_n (by wtm_at "pf") ?_)) | ((with_reducible refine gn_selT ?_); first | (refine selTN_p (by wtm_at "pf") ?_) | (refine selTN_n (by wtm_at "pf") ?_)) | ((with_reducible refine gd_selE ?_); first | (refine selE_p (by wtm_at "pf") ?_) | (refine selE_n (by wtm_at "pf") ?_)) | ((with_reducible refine gn_selE ?_); first | (refine selEN_p (by wtm_at "pf") ?_) | (refine selEN_n (by wtm_at "pf") ?_)) | ((with_reducible refine g_xf ?_); refine xf_at rfl (by wtm_at "hp") ?_) | ((with_reducible refine g_atI ?_); refine ex_at (by first | exact rfl | exact atI_int (by omega) (by wtm_at "pf")) ?_) | ((with_reducible refine g_and ?_); refine And.intro (by wtm_at "cl") ?_) | ((with_reducible refine g_new ?_); intro _ _))
local macro_rules | `(tactic| wtm_at "go") => `(tactic| repeat (first | wtm_at "xs" | wtm_at "st"))
local macro_rules | `(tactic| wtm_at "xo") => `(tactic| simp only [x_next, x_seq, x_brk, x_cont, x_drop, x_ret, x_retN, x_if, sel_t, sel_f, selE_t, selE_f, selT_t, selT_f, selC_t, selC_f, x_test, x_tB, x_op, x_un, x_var, x_c, x_cb, x_nil, x_cons, x_rI, x_rI0, x_rU, x_rEq, x_rNe, x_rIxL, x_rIxT, n_rSlL, n_rCat, n_rRep, n_rApp, x_bm, x_bm0, x_sl, x_nopart, x_part, n_tup, n_lst, x_call, x_callS, x_asg, x_gname, x_gtup, x_gnil, x_gcons, x_gsub, n_setL, x_aug, x_ipI, x_ipC, x_bits, x_getL, x_augS, x_and, x_or, x_not, x_k, x_andV, x_orV, x_notV, x_ife, x_chain, x_for, x_ilist, x_itup, x_ienum, x_irng1, x_irng2, x_irev, x_lc, x_yes, wipe_nil, wipe_cons, List.map_cons, List.map_nil, x_misc, x_misc2, x_rz, lookup_at, Bool.not_true, Bool.not_false, decide_true, decide_false, not_true, not_false_eq_true, and_assoc, exists_and_left, exists_eq_left', exists_eq_left, exists_eq', exists_eq_right', exists_eq_right, V.int.injEq, V.ref.injEq, V.bl.injEq, V.str.injEq, List.cons.injEq, and_true, true_and, and_self, Option.some.injEq, List.cons_append, List.nil_append, List.append_nil, List.getElem?_cons_zero, List.getElem?_cons_succ, List.set_cons_zero, List.set_cons_succ, reduceCtorEq, false_and, and_false, exists_false, exists_const, or_false, false_or, scal_ii, scal_bb, scal_ss, List.length_cons, List.length_nil, Int.reduceToNat, Int.reducePow, n_fld, n_dnew, n_dput, n_din, n_dget, n_dget2, n_glst, n_sfld, n_aug, n_meth, n_mw, n_make, n_kw, n_rLs, t_s1, t_i1, t_i2, t_i3, t_i4, t_i5, x_chain3, x_irng3, x_irevR, x_rg1, x_rg2, ints_cat, ints_app1, ints_len, ints_take, ints_drop, rep_one])
local macro_rules | `(tactic| k_call_by "xo" $h:term) => `(tactic| simp only [$h:term, x_next, x_seq, x_brk, x_cont, x_drop, x_ret, x_retN, x_if, sel_t, sel_f, selE_t, selE_f, selT_t, selT_f, selC_t, selC_f, x_test, x_tB, x_op, x_un, x_var, x_c, x_cb, x_nil, x_cons, x_rI, x_rI0, x_rU, x_rEq, x_rNe, x_rIxL, x_rIxT, n_rSlL, n_rCat, n_rRep, n_rApp, x_bm, x_bm0, x_sl, x_nopart, x_part, n_tup, n_lst, x_call, x_callS, x_asg, x_gname, x_gtup, x_gnil, x_gcons, x_gsub, n_setL, x_aug, x_ipI, x_ipC, x_bits, x_getL, x_augS, x_and, x_or, x_not, x_k, x_andV, x_orV, x_notV, x_ife, x_chain, x_for, x_ilist, x_itup, x_ienum, x_irng1, x_irng2, x_irev, x_lc, x_yes, wipe_nil, wipe_cons, List.map_cons, List.map_nil, x_misc, x_misc2, x_rz, lookup_at, Bool.not_true, Bool.not_false, decide_true, decide_false, not_true, not_false_eq_true, and_assoc, exists_and_left, exists_eq_left', exists_eq_left, exists_eq', exists_eq_right', exists_eq_right, V.int.injEq, V.ref.injEq, V.bl.injEq, V.str.injEq, List.cons.injEq, and_true, true_and, and_self, Option.some.injEq, List.cons_append, List.nil_append, List.append_nil, List.getElem?_cons_zero, List.getElem?_cons_succ, List.set_cons_zero, List.set_cons_succ, reduceCtorEq, false_and, and_false, exists_false, exists_const, or_false, false_or, scal_ii, scal_bb, scal_ss, List.length_cons, List.length_nil, Int.reduceToNat, Int.reducePow, n_fld, n_dnew, n_dput, n_din, n_dget, n_dget2, n_glst, n_sfld, n_aug, n_meth, n_mw, n_make, n_kw, n_rLs, t_s1, t_i1, t_i2, t_i3, t_i4, t_i5, x_chain3, x_irng3, x_irevR, x_rg1, x_rg2, ints_cat, ints_app1, ints_len, ints_take, ints_drop, rep_one])
local macro_rules | `(tactic| wtm_at "mem") => `(tactic| first | (with_reducible exact mem_here) | (with_reducible refine mem_there ?_; wtm_at "mem"))
local macro_rules | `(tactic| wtm_at "pp") => `(tactic| first | (with_reducible exact Put.here) | (with_reducible apply Put.there; wtm_at "pp"))
local macro_rules | `(tactic| wtm_at "ho") => `(tactic| first | (with_reducible assumption) | exact Own.get (by with_reducible assumption) (by wtm_at "mem") | exact Own.base (by with_reducible assumption) (by with_reducible assumption))
local macro_rules | `(tactic| wtm_at "qo") => `(tactic| first | (with_reducible assumption) | exact SqL.of (by wtm_at "ho") | exact sqT_tupI (by wtm_at "ho") | exact sqT_tupS (by wtm_at "ho") | exact SqT.of (by wtm_at "ho") | exact Own.imT (by with_reducible assumption) (by wtm_at "mem") | exact Own.sq (by with_reducible assumption) (by with_reducible assumption) | exact Own.sqT (by with_reducible assumption) (by with_reducible assumption))
local macro_rules | `(tactic| wtm_at "sub") => `(tactic| first | exact List.nil_sublist _ | (with_reducible refine List.Sublist.cons_cons _ ?_; wtm_at "sub") | (refine List.Sublist.cons _ ?_; wtm_at "sub"))
local macro_rules | `(tactic| wtm_at "co") => `(tactic| first | (with_reducible assumption) | omega | (exact cmul_r (by omega) (by omega)) | (exact cmul_l (by omega) (by omega)) | (exact cdiv_ok (by omega) (by omega)) | (exact cpow_ok (by decide)) | (exact ⟨by omega, by omega, by omega⟩) | decide | (exact ⟨by omega, by omega⟩) | (simp only [List.length_append, List.length_map, List.length_cons, List.length_nil, rngL_len, sizeLine_eq]; omega) | wtm_at "ho" | wtm_at "qo")
local macro_rules | `(tactic| wtm_at "so") => `(tactic| first | ((with_reducible refine g_dputO ?_); refine dputI (by with_reducible assumption) (by wtm_at "pp") (by wtm_at "co") (fun _ _ => ?_)) | ((with_reducible refine g_dinO ?_); refine dinI (by wtm_at "ho") ?_) | ((with_reducible refine g_isDO ?_); refine isDO (by wtm_at "ho") ?_) | ((with_reducible refine g_dg2 ?_); refine dg2I (by wtm_at "ho") ?_) | ((with_reducible refine g_fldO ?_); refine fldO (by wtm_at "ho") (by with_reducible assumption) (by wtm_at "mem") (by wtm_at "lk") ?_) | ((with_reducible refine g_fldC ?_); refine fldC (by wtm_at "ho") (by with_reducible assumption) (by wtm_at "mem") (by wtm_at "lk") ?_) | ((with_reducible refine g_putC ?_); refine putC (by with_reducible assumption) (by wtm_at "pp") (by wtm_at "pu") (by wtm_at "co") (fun _ _ => ?_)) | ((with_reducible refine g_stoO ?_); refine stoO (by with_reducible assumption) (by wtm_at "pp") (by wtm_at "pu") (by with_reducible assumption) (by wtm_at "mem") (by wtm_at "co") (fun _ _ => ?_)) | ((with_reducible refine g_metO ?_); refine metO (by wtm_at "ho") (by wtm_at "ln") ?_) | ((with_reducible refine g_makO ?_); refine makO (by with_reducible assumption) (fun _ _ _ _ => ?_)) | ((with_reducible refine g_sum ?_); refine sum_call (by wtm_at "qo") ?_) | ((with_reducible refine g_cq ?_); exact cq (by with_reducible assumption) (by simp only [rngL_len, List.length_map, List.length_take]; omega)) | ((with_reducible refine g_newO ?_); refine newO (by with_reducible assumption) (fun _ _ _ => ?_)) | ((with_reducible refine g_appO ?_); refine appI (by with_reducible assumption) (by wtm_at "pp") (by wtm_at "co") (fun _ _ => ?_)) | ((with_reducible refine g_setO ?_); refine setI (by with_reducible assumption) (by wtm_at "pp") (by omega) (by wtm_at "co") (fun _ _ => ?_)) | ((with_reducible refine g_appO ?_); refine appO (by with_reducible assumption) (by wtm_at "pp") (by wtm_at "co") (fun _ _ => ?_)) | ((with_reducible refine g_setO ?_); refine setO (by with_reducible assumption) (by wtm_at "pp") (by omega) (by wtm_at "co") (fun _ _ => ?_)) | ((with_reducible refine g_at ?_); refine at_call (by wtm_at "qo") (by omega) (by omega) (fun _ _ => ?_)) | ((with_reducible refine g_row ?_); refine row_call (by wtm_at "ho") ?_) | ((with_reducible refine g_int ?_); refine int_call ?_) | ((with_reducible refine g_isi ?_); first | (refine isi_int rfl ?_) | (refine isi_sqL rfl (by wtm_at "qo") ?_) | (refine isi_sqT rfl (by wtm_at "qo") ?_) | (refine isi_bl rfl ?_) | (refine isi_non rfl ?_) | (refine isi_str rfl ?_)) | ((with_reducible refine g_ned ?_); first | (refine ned_f (dq_lst (by wtm_at "qo")) (dq_lst (by wtm_at "qo")) ?_) | (refine ned_ints (by wtm_at "qo") (by wtm_at "qo") ?_) | (refine nedT_ints (by wtm_at "qo") (by wtm_at "qo") ?_)) | ((with_reducible refine g_eqd ?_); first | (refine eqd_t (dq_lst (by wtm_at "qo")) (dq_lst (by wtm_at "qo")) ?_) | (refine eqd_ints (by wtm_at "qo") (by wtm_at "qo") ?_) | (refine eqdT_ints (by wtm_at "qo") (by wtm_at "qo") ?_)) | ((with_reducible refine g_tyv ?_); refine and_tyv (by wtm_at "qo") ?_) | ((with_reducible refine g_asq ?_); refine and_sq (by wtm_at "qo") ?_) | ((with_reducible refine g_lst ?_); refine ex_lst (by wtm_at "ho") ?_) | ((with_reducible refine g_or ?_); first | (refine ex_or (by wtm_at "qo") ?_) | (refine ex_ort (by wtm_at "qo") ?_)) | ((with_reducible refine g_sq ?_); refine ex_sq (by wtm_at "qo") ?_) | ((with_reducible refine g_sqt ?_); refine ex_sqt (by wtm_at "qo") ?_) | ((with_reducible refine gd_sel ?_); first | (refine sel_p (by wtm_at "pf") ?_) | (refine sel_n (by wtm_at "pf") ?_)) | ((with_reducible refine gn_sel ?_); first | (refine selN_p (by wtm_at "pf") ?_) | (refine selN_n (by wtm_at "pf") ?_)) | ((with_reducible refine gd_selT ?_); first | (refine selT_p (by wtm_at "pf") ?_) | (refine selT_n (by wtm_at "pf") ?_)) | ((with_reducible refine gn_selT ?_); first | (refine selTN_p (by wtm_at "pf") ?_) | (refine selTN_n (by wtm_at "pf") ?_)) | ((with_reducible refine gd_selE ?_); first | (refine selE_p (by wtm_at "pf") ?_) | (refine selE_n (by wtm_at "pf") ?_)) | ((with_reducible refine gn_selE ?_); first | (refine selEN_p (by wtm_at "pf") ?_) | (refine selEN_n (by wtm_at "pf") ?_)) | ((with_reducible refine g_xf ?_); refine xf_at rfl (by wtm_at "ho") ?_) | ((with_reducible refine g_atI ?_); refine ex_at (by first | exact rfl | exact atI_int (by omega) (by wtm_at "pf")) ?_) | ((with_reducible refine g_and ?_); refine And.intro (by wtm_at "co") ?_))
local macro_rules | `(tactic| wtm_at "oo") => `(tactic| repeat (first | wtm_at "xo" | wtm_at "so"))
local macro_rules | `(tactic| wtm_at "cR") => `(tactic| (refine' compRi _ (by with_reducible assumption) (by omega) (fun _ _ _ _ _ => ?_) (fun _ _ _ => ?_); rotate_left; focus (wtm_at "oo")))

local macro_rules | `(tactic| wtm_at "lk") => `(tactic| first | (with_reducible exact lk_here) | (simp only [lk_here, lk_skip, lk_nil, nb_0_0, nb_0_1, nb_0_2, nb_0_3, nb_0_4, nb_0_5, nb_0_6, nb_1_0, nb_1_1, nb_1_2, nb_1_3, nb_1_4, nb_1_5, nb_1_6, nb_2_1, nb_2_2, nb_2_3, nb_2_4, nb_2_5, nb_2_6, nb_3_0, nb_3_2, nb_3_3, nb_3_4, nb_3_5, nb_3_6, nb_4_0, nb_4_1, nb_4_3, nb_4_4, nb_4_5, nb_4_6, nb_5_0, nb_5_1, nb_5_2, nb_5_4, nb_5_5, nb_5_6, nb_6_0, nb_6_1, nb_6_2, nb_6_3, nb_6_4, nb_6_5, nb_6_6, nb_7_0, nb_7_1, nb_7_2, nb_7_3, nb_7_5, nb_7_6, nb_8_0, nb_8_1, nb_8_2, nb_8_3, nb_8_4, nb_8_6, nb_9_0, nb_9_1, nb_9_2, nb_9_3, nb_9_4, nb_9_5, nb_10_0, nb_10_1, nb_10_2, nb_10_3, nb_10_4, nb_10_5, nb_10_6, nb_11_0, nb_11_1, nb_11_2, nb_11_3, nb_11_4, nb_11_5, nb_11_6, nb_12_0, nb_12_1, nb_12_2, nb_12_3, nb_12_4, nb_12_5, nb_12_6, nb_13_0, nb_13_1, nb_13_2, nb_13_3, nb_13_4, nb_13_5, nb_13_6, nb_14_0, nb_14_1, nb_14_2, nb_14_3, nb_14_4, nb_14_5, nb_14_6]; first | done | exact rfl))
local macro_rules | `(tactic| wtm_at "ln") => `(tactic| first | (with_reducible exact lk_nil) | (simp only [lk_skip, lk_nil, nb_0_0, nb_0_1, nb_0_2, nb_0_3, nb_0_4, nb_0_5, nb_0_6, nb_1_0, nb_1_1, nb_1_2, nb_1_3, nb_1_4, nb_1_5, nb_1_6, nb_2_1, nb_2_2, nb_2_3, nb_2_4, nb_2_5, nb_2_6, nb_3_0, nb_3_2, nb_3_3, nb_3_4, nb_3_5, nb_3_6, nb_4_0, nb_4_1, nb_4_3, nb_4_4, nb_4_5, nb_4_6, nb_5_0, nb_5_1, nb_5_2, nb_5_4, nb_5_5, nb_5_6, nb_6_0, nb_6_1, nb_6_2, nb_6_3, nb_6_4, nb_6_5, nb_6_6, nb_7_0, nb_7_1, nb_7_2, nb_7_3, nb_7_5, nb_7_6, nb_8_0, nb_8_1, nb_8_2, nb_8_3, nb_8_4, nb_8_6, nb_9_0, nb_9_1, nb_9_2, nb_9_3, nb_9_4, nb_9_5, nb_10_0, nb_10_1, nb_10_2, nb_10_3, nb_10_4, nb_10_5, nb_10_6, nb_11_0, nb_11_1, nb_11_2, nb_11_3, nb_11_4, nb_11_5, nb_11_6, nb_12_0, nb_12_1, nb_12_2, nb_12_3, nb_12_4, nb_12_5, nb_12_6, nb_13_0, nb_13_1, nb_13_2, nb_13_3, nb_13_4, nb_13_5, nb_13_6, nb_14_0, nb_14_1, nb_14_2, nb_14_3, nb_14_4, nb_14_5, nb_14_6]; done))
local macro_rules | `(tactic| wtm_at "pu") => `(tactic| first | (with_reducible exact pf_nil) | (simp only [pf_nil, pf_here, pf_skip, nb_0_0, nb_0_1, nb_0_2, nb_0_3, nb_0_4, nb_0_5, nb_0_6, nb_1_0, nb_1_1, nb_1_2, nb_1_3, nb_1_4, nb_1_5, nb_1_6, nb_2_1, nb_2_2, nb_2_3, nb_2_4, nb_2_5, nb_2_6, nb_3_0, nb_3_2, nb_3_3, nb_3_4, nb_3_5, nb_3_6, nb_4_0, nb_4_1, nb_4_3, nb_4_4, nb_4_5, nb_4_6, nb_5_0, nb_5_1, nb_5_2, nb_5_4, nb_5_5, nb_5_6, nb_6_0, nb_6_1, nb_6_2, nb_6_3, nb_6_4, nb_6_5, nb_6_6, nb_7_0, nb_7_1, nb_7_2, nb_7_3, nb_7_5, nb_7_6, nb_8_0, nb_8_1, nb_8_2, nb_8_3, nb_8_4, nb_8_6, nb_9_0, nb_9_1, nb_9_2, nb_9_3, nb_9_4, nb_9_5, nb_10_0, nb_10_1, nb_10_2, nb_10_3, nb_10_4, nb_10_5, nb_10_6, nb_11_0, nb_11_1, nb_11_2, nb_11_3, nb_11_4, nb_11_5, nb_11_6, nb_12_0, nb_12_1, nb_12_2, nb_12_3, nb_12_4, nb_12_5, nb_12_6, nb_13_0, nb_13_1, nb_13_2, nb_13_3, nb_13_4, nb_13_5, nb_13_6, nb_14_0, nb_14_1, nb_14_2, nb_14_3, nb_14_4, nb_14_5, nb_14_6]; first | done | exact rfl))
local macro_rules | `(tactic| wtm_at "tk") => `(tactic| first | (with_reducible exact Take.here) | (exact Take.here) | ((with_reducible apply Take.there); wtm_at "tk"))
local macro_rules | `(tactic| wtm_at "pk") => `(tactic| first | exact Pick.nil | ((with_reducible refine' Pick.cons ?tk1 ?pk1); (case tk1 => wtm_at "tk"); (case pk1 => wtm_at "pk")) | ((with_reducible refine Pick.im (by wtm_at "mem") ?_); wtm_at "pk") | ((with_reducible refine Pick.ims (by wtm_at "mem") ?_); wtm_at "pk"))
section
variable {P : Program} {w : World} {K : PySem.W.Frag} {mg : Str → Option Value} {base : Heap}
/-! ### the reader of bits -/
theorem bnum_lo : ∀ {xs : List Int}, Byt xs → 0 ≤ bnum xs ∧ bnum xs < 256 ^ xs.length
  | [], _ => ⟨Int.le_refl 0, by show (0 : Int) < 1; decide⟩
  | x :: r, h => by
    obtain ⟨h0, h1⟩ := bnum_lo h.tail
    have x0 := h.lo x (.head _)
    have x1 := h.hi x (.head _)
    show 0 ≤ x + 256 * bnum r ∧ x + 256 * bnum r < 256 ^ (r.length + 1)
    rw [Int.pow_succ]
    omega
theorem bnum_drop : ∀ {xs : List Int} (j : Nat), Byt xs → bnum (xs.drop j) = bnum xs / 256 ^ j
  | [], j, _ => by
    rw [List.drop_nil]
    show (0 : Int) = 0 / _
    rw [Int.zero_ediv]
  | x :: r, 0, _ => by
    show _ = bnum (x :: r) / 1
    rw [Int.ediv_one]
    rfl
  | x :: r, j + 1, h => by
    have x0 := h.lo x (.head _)
    have x1 := h.hi x (.head _)
    rw [List.drop_succ_cons, bnum_drop j h.tail, Int.pow_succ, Int.mul_comm, ← Int.ediv_ediv_of_nonneg (by decide)]
    congr 1
    show bnum r = (x + 256 * bnum r) / 256
    omega
theorem bnum_take : ∀ {xs : List Int} (m : Nat), Byt xs → bnum (xs.take m) = bnum xs % 256 ^ m
  | [], m, _ => by
    rw [List.take_nil]
    show (0 : Int) = 0 % _
    rw [Int.zero_emod]
  | x :: r, 0, _ => by
    show (0 : Int) = _ % 1
    rw [Int.emod_one]
  | x :: r, m + 1, h => by
    have x0 := h.lo x (.head _)
    have x1 := h.hi x (.head _)
    show x + 256 * bnum (r.take m) = (x + 256 * bnum r) % 256 ^ (m + 1)
    rw [bnum_take m h.tail, Int.pow_succ, Int.mul_comm (256 ^ m)]
    have hp : (0 : Int) < 256 ^ m := Int.pow_pos (by decide)
    have e := Int.emod_add_mul_ediv (bnum r) (256 ^ m)
    have m0 := Int.emod_nonneg (bnum r) (Int.ne_of_gt hp)
    have m1 := Int.emod_lt_of_pos (bnum r) hp
    generalize bnum r % 256 ^ m = u at *
    generalize bnum r / 256 ^ m = q at *
    rw [← e, Int.mul_add, ← Int.mul_assoc, ← Int.add_assoc, Int.add_mul_emod_self_left]
    refine (Int.emod_eq_of_lt (by omega) ?_).symm
    generalize (256 : Int) ^ m = P at *
    omega
/-- the number of w bits from p on -/
def rdV (ds : List Int) (p w : Nat) : Int := bnum ds / 2 ^ p % 2 ^ w
theorem mod_succ {v : Int} (w : Nat) : v % 2 ^ (w + 1) = v % 2 ^ w + 2 ^ w * (v / 2 ^ w % 2) := by
  have e := Int.emod_add_mul_ediv v (2 ^ w)
  have e2 := Int.emod_add_mul_ediv (v / 2 ^ w) 2
  have e3 := Int.emod_add_mul_ediv v (2 ^ (w + 1))
  have e4 : v / 2 ^ w / 2 = v / 2 ^ (w + 1) := by
    rw [Int.ediv_ediv_of_nonneg (Int.le_of_lt pow2_pos)]
    rfl
  rw [e4] at e2
  rw [show (2 : Int) ^ (w + 1) = 2 ^ w * 2 from Int.pow_succ 2 w] at e2 e3 ⊢
  rw [Int.mul_assoc] at e3
  rw [← e2, Int.mul_add] at e
  omega
theorem bit_of {ds : List Int} (h : Byt ds) {p : Nat} (hp : p < 8 * ds.length) : bnum ds / 2 ^ p % 2 = ds.getD (p / 8) 0 / 2 ^ (p % 8) % 2 := by
  have hj : p / 8 < ds.length := by omega
  have e : (2 : Int) ^ p = 256 ^ (p / 8) * 2 ^ (p % 8) := by
    rw [pow256, ← Int.pow_add, show 8 * (p / 8) + p % 8 = p by omega]
  rw [e, ← Int.ediv_ediv_of_nonneg (Int.le_of_lt (Int.pow_pos (by decide))), ← bnum_drop _ h, List.drop_eq_getElem_cons hj]
  have eg : ds.getD (p / 8) 0 = ds[p / 8] := by
    rw [List.getD_eq_getElem?_getD, List.getElem?_eq_getElem hj]
    rfl
  rw [eg]
  show (ds[p / 8] + 256 * bnum (ds.drop (p / 8 + 1))) / 2 ^ (p % 8) % 2 = _
  generalize ds[p / 8] = x
  generalize bnum (ds.drop (p / 8 + 1)) = R
  have : p % 8 = 0 ∨ p % 8 = 1 ∨ p % 8 = 2 ∨ p % 8 = 3 ∨ p % 8 = 4 ∨ p % 8 = 5 ∨ p % 8 = 6 ∨ p % 8 = 7 := by omega
  rcases this with c | c | c | c | c | c | c | c <;> rw [c]
  · show (x + 256 * R) / 1 % 2 = x / 1 % 2
    omega
  · show (x + 256 * R) / 2 % 2 = x / 2 % 2
    omega
  · show (x + 256 * R) / 4 % 2 = x / 4 % 2
    omega
  · show (x + 256 * R) / 8 % 2 = x / 8 % 2
    omega
  · show (x + 256 * R) / 16 % 2 = x / 16 % 2
    omega
  · show (x + 256 * R) / 32 % 2 = x / 32 % 2
    omega
  · show (x + 256 * R) / 64 % 2 = x / 64 % 2
    omega
  · show (x + 256 * R) / 128 % 2 = x / 128 % 2
    omega
theorem rdV_succ {ds : List Int} (h : Byt ds) {p w : Nat} (hp : p + w < 8 * ds.length) : rdV ds p (w + 1) = rdV ds p w + ds.getD ((p + w) / 8) 0 / 2 ^ ((p + w) % 8) % 2 * 2 ^ w := by
  unfold rdV
  rw [mod_succ, ← bit_of h hp, Int.ediv_ediv_of_nonneg (Int.le_of_lt pow2_pos), ← Int.pow_add, Int.mul_comm (2 ^ w)]
/-- a slice of whole bytes holds the bits -/
theorem rdV_slice {ds : List Int} (h : Byt ds) {p w m : Nat} (hm : p % 8 + w ≤ 8 * m) : bnum ((ds.drop (p / 8)).take m) / 2 ^ (p % 8) % 2 ^ w = rdV ds p w := by
  have hd : Byt (ds.drop (p / 8)) := ⟨fun x hx => h.lo x (List.mem_of_mem_drop hx), fun x hx => h.hi x (List.mem_of_mem_drop hx)⟩
  unfold rdV
  rw [bnum_take m hd, bnum_drop _ h, pow256, pow256]
  have e : (2 : Int) ^ p = 2 ^ (8 * (p / 8)) * 2 ^ (p % 8) := by
    rw [← Int.pow_add, show 8 * (p / 8) + p % 8 = p by omega]
  rw [e, ← Int.ediv_ediv_of_nonneg (Int.le_of_lt pow2_pos)]
  generalize bnum ds / 2 ^ (8 * (p / 8)) = v
  obtain ⟨d, hd⟩ : ∃ d, 8 * m = p % 8 + w + d := ⟨8 * m - (p % 8 + w), by omega⟩
  rw [hd, Int.pow_add, Int.pow_add]
  have e3 := Int.emod_add_mul_ediv v (2 ^ (p % 8) * 2 ^ w * 2 ^ d)
  generalize v / (2 ^ (p % 8) * 2 ^ w * 2 ^ d) = q at e3
  have e4 : v % (2 ^ (p % 8) * 2 ^ w * 2 ^ d) = v + 2 ^ (p % 8) * (2 ^ w * (2 ^ d * -q)) := by
    rw [← Int.mul_assoc, ← Int.mul_assoc, Int.mul_neg]
    omega
  rw [e4, Int.add_mul_ediv_left _ _ (Int.ne_of_gt pow2_pos), Int.add_mul_emod_self_left]
abbrev rF (q : Addr) (pl en : Int) : List (Str × V) := [("_data", .ref q), ("_place", .int pl), ("_end", .int en)]
abbrev rC (K : PySem.W.Frag) (dx q : Addr) (pl en : Int) : HO := .ins (He.ga K "BitReader") dx (rF q pl en)


end
end K11

namespace K11
open PySem PySem.Spec PyProof.Rows L2 Bel
local macro_rules | `(tactic| wtm_at "xs") => `(tactic| simp only [x_next, x_seq, x_brk, x_cont, x_drop, x_ret, x_retN, x_if, sel_t, sel_f, selE_t, selE_f, selT_t, selT_f, selC_t, selC_f, x_test, x_tB, x_op, x_un, x_var, x_c, x_cb, x_nil, x_cons, x_rI, x_rI0, x_rU, x_rEq, x_rNe, x_rIxL, x_rIxT, x_rSlL, x_rCat, x_rRep, x_rApp, x_bm, x_bm0, x_sl, x_nopart, x_part, x_tup, x_lst, x_call, x_callS, x_asg, x_gname, x_gtup, x_gnil, x_gcons, x_gsub, x_setL, x_aug, x_ipI, x_ipC, x_bits, x_getL, x_augS, x_and, x_or, x_not, x_k, x_andV, x_orV, x_notV, x_ife, x_chain, x_for, x_ilist, x_itup, x_ienum, x_irng1, x_irng2, x_irev, x_lc, x_yes, wipe_nil, wipe_cons, List.map_cons, List.map_nil, x_misc, x_misc2, x_rz, lookup_at, Bool.not_true, Bool.not_false, decide_true, decide_false, not_true, not_false_eq_true, and_assoc, exists_and_left, exists_eq_left', exists_eq_left, exists_eq', exists_eq_right', exists_eq_right, V.int.injEq, V.ref.injEq, V.bl.injEq, V.str.injEq, List.cons.injEq, and_true, true_and, and_self, Option.some.injEq, List.cons_append, List.nil_append, List.append_nil, List.getElem?_cons_zero, List.getElem?_cons_succ, List.set_cons_zero, List.set_cons_succ, reduceCtorEq, false_and, and_false, exists_false, exists_const, or_false, false_or, scal_ii, scal_bb, scal_ss, List.length_cons, List.length_nil, Int.reduceToNat, Int.reducePow])
local macro_rules | `(tactic| k_call_by "xs" $h:term) => `(tactic| simp only [$h:term, x_next, x_seq, x_brk, x_cont, x_drop, x_ret, x_retN, x_if, sel_t, sel_f, selE_t, selE_f, selT_t, selT_f, selC_t, selC_f, x_test, x_tB, x_op, x_un, x_var, x_c, x_cb, x_nil, x_cons, x_rI, x_rI0, x_rU, x_rEq, x_rNe, x_rIxL, x_rIxT, x_rSlL, x_rCat, x_rRep, x_rApp, x_bm, x_bm0, x_sl, x_nopart, x_part, x_tup, x_lst, x_call, x_callS, x_asg, x_gname, x_gtup, x_gnil, x_gcons, x_gsub, x_setL, x_aug, x_ipI, x_ipC, x_bits, x_getL, x_augS, x_and, x_or, x_not, x_k, x_andV, x_orV, x_notV, x_ife, x_chain, x_for, x_ilist, x_itup, x_ienum, x_irng1, x_irng2, x_irev, x_lc, x_yes, wipe_nil, wipe_cons, List.map_cons, List.map_nil, x_misc, x_misc2, x_rz, lookup_at, Bool.not_true, Bool.not_false, decide_true, decide_false, not_true, not_false_eq_true, and_assoc, exists_and_left, exists_eq_left', exists_eq_left, exists_eq', exists_eq_right', exists_eq_right, V.int.injEq, V.ref.injEq, V.bl.injEq, V.str.injEq, List.cons.injEq, and_true, true_and, and_self, Option.some.injEq, List.cons_append, List.nil_append, List.append_nil, List.getElem?_cons_zero, List.getElem?_cons_succ, List.set_cons_zero, List.set_cons_succ, reduceCtorEq, false_and, and_false, exists_false, exists_const, or_false, false_or, scal_ii, scal_bb, scal_ss, List.length_cons, List.length_nil, Int.reduceToNat, Int.reducePow])
local macro_rules | `(tactic| wtm_at "hp") => `(tactic| first | (with_reducible assumption) | exact upd_same | (refine upd_keep (by with_reducible assumption) ?_; wtm_at "hp") | (refine Same.get (by with_reducible assumption) ?_; wtm_at "hp") | (refine upd_other (by first | (with_reducible assumption) | exact Ne.symm (by with_reducible assumption)) ?_; wtm_at "hp"))
local macro_rules | `(tactic| wtm_at "sq") => `(tactic| first | (with_reducible assumption) | exact SqL.of (by wtm_at "hp") | exact SqT.of (by wtm_at "hp") | (refine Same.seq (same_upd (by with_reducible assumption)) ?_; wtm_at "sq") | (refine Same.seq (by with_reducible assumption) ?_; wtm_at "sq") | (refine Same.seqT (same_upd (by with_reducible assumption)) ?_; wtm_at "sq") | (refine Same.seqT (by with_reducible assumption) ?_; wtm_at "sq"))
local macro_rules | `(tactic| wtm_at "cl") => `(tactic| first | (with_reducible assumption) | omega | (exact cmul_r (by omega) (by omega)) | (exact cmul_l (by omega) (by omega)) | (exact cdiv_ok (by omega) (by omega)) | (exact cpow_ok (by decide)) | (exact ⟨by omega, by omega, by omega⟩) | decide | (exact ⟨by omega, by omega⟩) | (simp only [List.length_append, List.length_map, List.length_cons, List.length_nil, rngL_len, sizeLine_eq]; omega) | wtm_at "hp" | wtm_at "sq")
local macro_rules | `(tactic| wtm_at "pf") => `(tactic| first | (with_reducible assumption) | omega | (simp only [List.length_append, List.length_map, List.length_cons, List.length_nil, rngL_len]; omega) | (with_reducible rfl) | (with_reducible trivial) | (with_reducible decide))
local macro_rules | `(tactic| wtm_at "st") => `(tactic| first | ((with_reducible refine g_at ?_); refine at_call (by wtm_at "sq") (by omega) (by omega) (fun _ _ => ?_)) | ((with_reducible refine g_row ?_); refine row_call (by wtm_at "hp") ?_) | ((with_reducible refine g_int ?_); refine int_call ?_) | ((with_reducible refine g_isi ?_); first | (refine isi_int rfl ?_) | (refine isi_lst rfl (by wtm_at "hp") ?_) | (refine isi_tup rfl (by wtm_at "hp") ?_)) | ((with_reducible refine g_ned ?_); refine ned_f (dq_lst (by wtm_at "sq")) (dq_lst (by wtm_at "sq")) ?_) | ((with_reducible refine g_eqd ?_); refine eqd_t (dq_lst (by wtm_at "sq")) (dq_lst (by wtm_at "sq")) ?_) | ((with_reducible refine g_tyv ?_); refine and_tyv (by wtm_at "sq") ?_) | ((with_reducible refine g_asq ?_); refine and_sq (by wtm_at "sq") ?_) | ((with_reducible refine g_lst ?_); refine ex_lst (by wtm_at "hp") ?_) | ((with_reducible refine g_or ?_); first | (refine ex_or (by wtm_at "sq") ?_) | (refine ex_ort (by wtm_at "sq") ?_)) | ((with_reducible refine g_sq ?_); refine ex_sq (by wtm_at "sq") ?_) | ((with_reducible refine g_sqt ?_); refine ex_sqt (by wtm_at "sq") ?_) | ((with_reducible refine gd_sel ?_); first | (refine sel_p (by wtm_at "pf") ?_) | (refine sel_n (by wtm_at "pf") ?_)) | ((with_reducible refine gn_sel ?_); first | (refine selN_p (by wtm_at "pf") ?_) | (refine selN_n (by wtm_at "pf") ?_)) | ((with_reducible refine gd_selT ?_); first | (refine selT_p (by wtm_at "pf") ?_) | (refine selT_n (by wtm_at "pf") ?_)) | ((with_reducible refine gn_selT ?_); first | (refine selTN_p (by wtm_at "pf") ?_) | (refine selTN_n (by wtm_at "pf") ?_)) | ((with_reducible refine gd_selE ?_); first | (refine selE_p (by wtm_at "pf") ?_) | (refine selE_n (by wtm_at "pf") ?_)) | ((with_reducible refine gn_selE ?_); first | (refine selEN_p (by wtm_at "pf") ?_) | (refine selEN_n (by wtm_at "pf") ?_)) | ((with_reducible refine g_xf ?_); refine xf_at rfl (by wtm_at "hp") ?_) | ((with_reducible refine g_atI ?_); refine ex_at (by first | exact rfl | exact atI_int (by omega) (by wtm_at "pf")) ?_) | ((with_reducible refine g_and ?_); refine And.intro (by wtm_at "cl") ?_) | ((with_reducible refine g_new ?_); intro _ _))
local macro_rules | `(tactic| wtm_at "go") => `(tactic| repeat (first | wtm_at "xs" | wtm_at "st"))
local macro_rules | `(tactic| wtm_at "xo") => `(tactic| simp only [x_next, x_seq, x_brk, x_cont, x_drop, x_ret, x_retN, x_if, sel_t, sel_f, selE_t, selE_f, selT_t, selT_f, selC_t, selC_f, x_test, x_tB, x_op, x_un, x_var, x_c, x_cb, x_nil, x_cons, x_rI, x_rI0, x_rU, x_rEq, x_rNe, x_rIxL, x_rIxT, n_rSlL, n_rCat, n_rRep, n_rApp, x_bm, x_bm0, x_sl, x_nopart, x_part, n_tup, n_lst, x_call, x_callS, x_asg, x_gname, x_gtup, x_gnil, x_gcons, x_gsub, n_setL, x_aug, x_ipI, x_ipC, x_bits, x_getL, x_augS, x_and, x_or, x_not, x_k, x_andV, x_orV, x_notV, x_ife, x_chain, x_for, x_ilist, x_itup, x_ienum, x_irng1, x_irng2, x_irev, x_lc, x_yes, wipe_nil, wipe_cons, List.map_cons, List.map_nil, x_misc, x_misc2, x_rz, lookup_at, Bool.not_true, Bool.not_false, decide_true, decide_false, not_true, not_false_eq_true, and_assoc, exists_and_left, exists_eq_left', exists_eq_left, exists_eq', exists_eq_right', exists_eq_right, V.int.injEq, V.ref.injEq, V.bl.injEq, V.str.injEq, List.cons.injEq, and_true, true_and, and_self, Option.some.injEq, List.cons_append, List.nil_append, List.append_nil, List.getElem?_cons_zero, List.getElem?_cons_succ, List.set_cons_zero, List.set_cons_succ, reduceCtorEq, false_and, and_false, exists_false, exists_const, or_false, false_or, scal_ii, scal_bb, scal_ss, List.length_cons, List.length_nil, Int.reduceToNat, Int.reducePow, n_fld, n_dnew, n_dput, n_din, n_dget, n_dget2, n_glst, n_sfld, n_aug, n_meth, n_mw, n_make, n_kw, n_rLs, t_s1, t_i1, t_i2, t_i3, t_i4, t_i5, x_chain3, x_irng3, x_irevR, x_rg1, x_rg2, ints_cat, ints_app1, ints_len, ints_take, ints_drop, rep_one])
local macro_rules | `(tactic| k_call_by "xo" $h:term) => `(tactic| simp only [$h:term, x_next, x_seq, x_brk, x_cont, x_drop, x_ret, x_retN, x_if, sel_t, sel_f, selE_t, selE_f, selT_t, selT_f, selC_t, selC_f, x_test, x_tB, x_op, x_un, x_var, x_c, x_cb, x_nil, x_cons, x_rI, x_rI0, x_rU, x_rEq, x_rNe, x_rIxL, x_rIxT, n_rSlL, n_rCat, n_rRep, n_rApp, x_bm, x_bm0, x_sl, x_nopart, x_part, n_tup, n_lst, x_call, x_callS, x_asg, x_gname, x_gtup, x_gnil, x_gcons, x_gsub, n_setL, x_aug, x_ipI, x_ipC, x_bits, x_getL, x_augS, x_and, x_or, x_not, x_k, x_andV, x_orV, x_notV, x_ife, x_chain, x_for, x_ilist, x_itup, x_ienum, x_irng1, x_irng2, x_irev, x_lc, x_yes, wipe_nil, wipe_cons, List.map_cons, List.map_nil, x_misc, x_misc2, x_rz, lookup_at, Bool.not_true, Bool.not_false, decide_true, decide_false, not_true, not_false_eq_true, and_assoc, exists_and_left, exists_eq_left', exists_eq_left, exists_eq', exists_eq_right', exists_eq_right, V.int.injEq, V.ref.injEq, V.bl.injEq, V.str.injEq, List.cons.injEq, and_true, true_and, and_self, Option.some.injEq, List.cons_append, List.nil_append, List.append_nil, List.getElem?_cons_zero, List.getElem?_cons_succ, List.set_cons_zero, List.set_cons_succ, reduceCtorEq, false_and, and_false, exists_false, exists_const, or_false, false_or, scal_ii, scal_bb, scal_ss, List.length_cons, List.length_nil, Int.reduceToNat, Int.reducePow, n_fld, n_dnew, n_dput, n_din, n_dget, n_dget2, n_glst, n_sfld, n_aug, n_meth, n_mw, n_make, n_kw, n_rLs, t_s1, t_i1, t_i2, t_i3, t_i4, t_i5, x_chain3, x_irng3, x_irevR, x_rg1, x_rg2, ints_cat, ints_app1, ints_len, ints_take, ints_drop, rep_one])
local macro_rules | `(tactic| wtm_at "mem") => `(tactic| first | (with_reducible exact mem_here) | (with_reducible refine mem_there ?_; wtm_at "mem"))
local macro_rules | `(tactic| wtm_at "pp") => `(tactic| first | (with_reducible exact Put.here) | (with_reducible apply Put.there; wtm_at "pp"))
local macro_rules | `(tactic| wtm_at "ho") => `(tactic| first | (with_reducible assumption) | exact Own.get (by with_reducible assumption) (by wtm_at "mem") | exact Own.base (by with_reducible assumption) (by with_reducible assumption))
local macro_rules | `(tactic| wtm_at "qo") => `(tactic| first | (with_reducible assumption) | exact SqL.of (by wtm_at "ho") | exact sqT_tupI (by wtm_at "ho") | exact sqT_tupS (by wtm_at "ho") | exact SqT.of (by wtm_at "ho") | exact Own.imT (by with_reducible assumption) (by wtm_at "mem") | exact Own.sq (by with_reducible assumption) (by with_reducible assumption) | exact Own.sqT (by with_reducible assumption) (by with_reducible assumption))
local macro_rules | `(tactic| wtm_at "sub") => `(tactic| first | exact List.nil_sublist _ | (with_reducible refine List.Sublist.cons_cons _ ?_; wtm_at "sub") | (refine List.Sublist.cons _ ?_; wtm_at "sub"))
local macro_rules | `(tactic| wtm_at "co") => `(tactic| first | (with_reducible assumption) | omega | (exact cmul_r (by omega) (by omega)) | (exact cmul_l (by omega) (by omega)) | (exact cdiv_ok (by omega) (by omega)) | (exact cpow_ok (by decide)) | (exact ⟨by omega, by omega, by omega⟩) | decide | (exact ⟨by omega, by omega⟩) | (simp only [List.length_append, List.length_map, List.length_cons, List.length_nil, rngL_len, sizeLine_eq]; omega) | wtm_at "ho" | wtm_at "qo")
local macro_rules | `(tactic| wtm_at "so") => `(tactic| first | ((with_reducible refine g_dputO ?_); refine dputI (by with_reducible assumption) (by wtm_at "pp") (by wtm_at "co") (fun _ _ => ?_)) | ((with_reducible refine g_dinO ?_); refine dinI (by wtm_at "ho") ?_) | ((with_reducible refine g_isDO ?_); refine isDO (by wtm_at "ho") ?_) | ((with_reducible refine g_dg2 ?_); refine dg2I (by wtm_at "ho") ?_) | ((with_reducible refine g_fldO ?_); refine fldO (by wtm_at "ho") (by with_reducible assumption) (by wtm_at "mem") (by wtm_at "lk") ?_) | ((with_reducible refine g_fldC ?_); refine fldC (by wtm_at "ho") (by with_reducible assumption) (by wtm_at "mem") (by wtm_at "lk") ?_) | ((with_reducible refine g_putC ?_); refine putC (by with_reducible assumption) (by wtm_at "pp") (by wtm_at "pu") (by wtm_at "co") (fun _ _ => ?_)) | ((with_reducible refine g_stoO ?_); refine stoO (by with_reducible assumption) (by wtm_at "pp") (by wtm_at "pu") (by with_reducible assumption) (by wtm_at "mem") (by wtm_at "co") (fun _ _ => ?_)) | ((with_reducible refine g_metO ?_); refine metO (by wtm_at "ho") (by wtm_at "ln") ?_) | ((with_reducible refine g_makO ?_); refine makO (by with_reducible assumption) (fun _ _ _ _ => ?_)) | ((with_reducible refine g_sum ?_); refine sum_call (by wtm_at "qo") ?_) | ((with_reducible refine g_cq ?_); exact cq (by with_reducible assumption) (by simp only [rngL_len, List.length_map, List.length_take]; omega)) | ((with_reducible refine g_newO ?_); refine newO (by with_reducible assumption) (fun _ _ _ => ?_)) | ((with_reducible refine g_appO ?_); refine appI (by with_reducible assumption) (by wtm_at "pp") (by wtm_at "co") (fun _ _ => ?_)) | ((with_reducible refine g_setO ?_); refine setI (by with_reducible assumption) (by wtm_at "pp") (by omega) (by wtm_at "co") (fun _ _ => ?_)) | ((with_reducible refine g_appO ?_); refine appO (by with_reducible assumption) (by wtm_at "pp") (by wtm_at "co") (fun _ _ => ?_)) | ((with_reducible refine g_setO ?_); refine setO (by with_reducible assumption) (by wtm_at "pp") (by omega) (by wtm_at "co") (fun _ _ => ?_)) | ((with_reducible refine g_at ?_); refine at_call (by wtm_at "qo") (by omega) (by omega) (fun _ _ => ?_)) | ((with_reducible refine g_row ?_); refine row_call (by wtm_at "ho") ?_) | ((with_reducible refine g_int ?_); refine int_call ?_) | ((with_reducible refine g_isi ?_); first | (refine isi_int rfl ?_) | (refine isi_sqL rfl (by wtm_at "qo") ?_) | (refine isi_sqT rfl (by wtm_at "qo") ?_) | (refine isi_bl rfl ?_) | (refine isi_non rfl ?_) | (refine isi_str rfl ?_)) | ((with_reducible refine g_ned ?_); first | (refine ned_f (dq_lst (by wtm_at "qo")) (dq_lst (by wtm_at "qo")) ?_) | (refine ned_ints (by wtm_at "qo") (by wtm_at "qo") ?_) | (refine nedT_ints (by wtm_at "qo") (by wtm_at "qo") ?_)) | ((with_reducible refine g_eqd ?_); first | (refine eqd_t (dq_lst (by wtm_at "qo")) (dq_lst (by wtm_at "qo")) ?_) | (refine eqd_ints (by wtm_at "qo") (by wtm_at "qo") ?_) | (refine eqdT_ints (by wtm_at "qo") (by wtm_at "qo") ?_)) | ((with_reducible refine g_tyv ?_); refine and_tyv (by wtm_at "qo") ?_) | ((with_reducible refine g_asq ?_); refine and_sq (by wtm_at "qo") ?_) | ((with_reducible refine g_lst ?_); refine ex_lst (by wtm_at "ho") ?_) | ((with_reducible refine g_or ?_); first | (refine ex_or (by wtm_at "qo") ?_) | (refine ex_ort (by wtm_at "qo") ?_)) | ((with_reducible refine g_sq ?_); refine ex_sq (by wtm_at "qo") ?_) | ((with_reducible refine g_sqt ?_); refine ex_sqt (by wtm_at "qo") ?_) | ((with_reducible refine gd_sel ?_); first | (refine sel_p (by wtm_at "pf") ?_) | (refine sel_n (by wtm_at "pf") ?_)) | ((with_reducible refine gn_sel ?_); first | (refine selN_p (by wtm_at "pf") ?_) | (refine selN_n (by wtm_at "pf") ?_)) | ((with_reducible refine gd_selT ?_); first | (refine selT_p (by wtm_at "pf") ?_) | (refine selT_n (by wtm_at "pf") ?_)) | ((with_reducible refine gn_selT ?_); first | (refine selTN_p (by wtm_at "pf") ?_) | (refine selTN_n (by wtm_at "pf") ?_)) | ((with_reducible refine gd_selE ?_); first | (refine selE_p (by wtm_at "pf") ?_) | (refine selE_n (by wtm_at "pf") ?_)) | ((with_reducible refine gn_selE ?_); first | (refine selEN_p (by wtm_at "pf") ?_) | (refine selEN_n (by wtm_at "pf") ?_)) | ((with_reducible refine g_xf ?_); refine xf_at rfl (by wtm_at "ho") ?_) | ((with_reducible refine g_atI ?_); refine ex_at (by first | exact rfl | exact atI_int (by omega) (by wtm_at "pf")) ?_) | ((with_reducible refine g_and ?_); refine And.intro (by wtm_at "co") ?_))
local macro_rules | `(tactic| wtm_at "oo") => `(tactic| repeat (first | wtm_at "xo" | wtm_at "so"))
local macro_rules | `(tactic| wtm_at "cR") => `(tactic| (refine' compRi _ (by with_reducible assumption) (by omega) (fun _ _ _ _ _ => ?_) (fun _ _ _ => ?_); rotate_left; focus (wtm_at "oo")))

local macro_rules | `(tactic| wtm_at "lk") => `(tactic| first | (with_reducible exact lk_here) | (simp only [lk_here, lk_skip, lk_nil, nb_0_0, nb_0_1, nb_0_2, nb_0_3, nb_0_4, nb_0_5, nb_0_6, nb_1_0, nb_1_1, nb_1_2, nb_1_3, nb_1_4, nb_1_5, nb_1_6, nb_2_1, nb_2_2, nb_2_3, nb_2_4, nb_2_5, nb_2_6, nb_3_0, nb_3_2, nb_3_3, nb_3_4, nb_3_5, nb_3_6, nb_4_0, nb_4_1, nb_4_3, nb_4_4, nb_4_5, nb_4_6, nb_5_0, nb_5_1, nb_5_2, nb_5_4, nb_5_5, nb_5_6, nb_6_0, nb_6_1, nb_6_2, nb_6_3, nb_6_4, nb_6_5, nb_6_6, nb_7_0, nb_7_1, nb_7_2, nb_7_3, nb_7_5, nb_7_6, nb_8_0, nb_8_1, nb_8_2, nb_8_3, nb_8_4, nb_8_6, nb_9_0, nb_9_1, nb_9_2, nb_9_3, nb_9_4, nb_9_5, nb_10_0, nb_10_1, nb_10_2, nb_10_3, nb_10_4, nb_10_5, nb_10_6, nb_11_0, nb_11_1, nb_11_2, nb_11_3, nb_11_4, nb_11_5, nb_11_6, nb_12_0, nb_12_1, nb_12_2, nb_12_3, nb_12_4, nb_12_5, nb_12_6, nb_13_0, nb_13_1, nb_13_2, nb_13_3, nb_13_4, nb_13_5, nb_13_6, nb_14_0, nb_14_1, nb_14_2, nb_14_3, nb_14_4, nb_14_5, nb_14_6]; first | done | exact rfl))
local macro_rules | `(tactic| wtm_at "ln") => `(tactic| first | (with_reducible exact lk_nil) | (simp only [lk_skip, lk_nil, nb_0_0, nb_0_1, nb_0_2, nb_0_3, nb_0_4, nb_0_5, nb_0_6, nb_1_0, nb_1_1, nb_1_2, nb_1_3, nb_1_4, nb_1_5, nb_1_6, nb_2_1, nb_2_2, nb_2_3, nb_2_4, nb_2_5, nb_2_6, nb_3_0, nb_3_2, nb_3_3, nb_3_4, nb_3_5, nb_3_6, nb_4_0, nb_4_1, nb_4_3, nb_4_4, nb_4_5, nb_4_6, nb_5_0, nb_5_1, nb_5_2, nb_5_4, nb_5_5, nb_5_6, nb_6_0, nb_6_1, nb_6_2, nb_6_3, nb_6_4, nb_6_5, nb_6_6, nb_7_0, nb_7_1, nb_7_2, nb_7_3, nb_7_5, nb_7_6, nb_8_0, nb_8_1, nb_8_2, nb_8_3, nb_8_4, nb_8_6, nb_9_0, nb_9_1, nb_9_2, nb_9_3, nb_9_4, nb_9_5, nb_10_0, nb_10_1, nb_10_2, nb_10_3, nb_10_4, nb_10_5, nb_10_6, nb_11_0, nb_11_1, nb_11_2, nb_11_3, nb_11_4, nb_11_5, nb_11_6, nb_12_0, nb_12_1, nb_12_2, nb_12_3, nb_12_4, nb_12_5, nb_12_6, nb_13_0, nb_13_1, nb_13_2, nb_13_3, nb_13_4, nb_13_5, nb_13_6, nb_14_0, nb_14_1, nb_14_2, nb_14_3, nb_14_4, nb_14_5, nb_14_6]; done))
local macro_rules | `(tactic| wtm_at "pu") => `(tactic| first | (with_reducible exact pf_nil) | (simp only [pf_nil, pf_here, pf_skip, nb_0_0, nb_0_1, nb_0_2, nb_0_3, nb_0_4, nb_0_5, nb_0_6, nb_1_0, nb_1_1, nb_1_2, nb_1_3, nb_1_4, nb_1_5, nb_1_6, nb_2_1, nb_2_2, nb_2_3, nb_2_4, nb_2_5, nb_2_6, nb_3_0, nb_3_2, nb_3_3, nb_3_4, nb_3_5, nb_3_6, nb_4_0, nb_4_1, nb_4_3, nb_4_4, nb_4_5, nb_4_6, nb_5_0, nb_5_1, nb_5_2, nb_5_4, nb_5_5, nb_5_6, nb_6_0, nb_6_1, nb_6_2, nb_6_3, nb_6_4, nb_6_5, nb_6_6, nb_7_0, nb_7_1, nb_7_2, nb_7_3, nb_7_5, nb_7_6, nb_8_0, nb_8_1, nb_8_2, nb_8_3, nb_8_4, nb_8_6, nb_9_0, nb_9_1, nb_9_2, nb_9_3, nb_9_4, nb_9_5, nb_10_0, nb_10_1, nb_10_2, nb_10_3, nb_10_4, nb_10_5, nb_10_6, nb_11_0, nb_11_1, nb_11_2, nb_11_3, nb_11_4, nb_11_5, nb_11_6, nb_12_0, nb_12_1, nb_12_2, nb_12_3, nb_12_4, nb_12_5, nb_12_6, nb_13_0, nb_13_1, nb_13_2, nb_13_3, nb_13_4, nb_13_5, nb_13_6, nb_14_0, nb_14_1, nb_14_2, nb_14_3, nb_14_4, nb_14_5, nb_14_6]; first | done | exact rfl))
local macro_rules | `(tactic| wtm_at "tk") => `(tactic| first | (with_reducible exact Take.here) | (exact Take.here) | ((with_reducible apply Take.there); wtm_at "tk"))
local macro_rules | `(tactic| wtm_at "pk") => `(tactic| first | exact Pick.nil | ((with_reducible refine' Pick.cons ?tk1 ?pk1); (case tk1 => wtm_at "tk"); (case pk1 => wtm_at "pk")) | ((with_reducible refine Pick.im (by wtm_at "mem") ?_); wtm_at "pk") | ((with_reducible refine Pick.ims (by wtm_at "mem") ?_); wtm_at "pk"))
section
variable {P : Program} {w : World} {K : PySem.W.Frag} {mg : Str → Option Value} {base : Heap}
structure RSt (ds : List Int) (pl en : Int) : Prop where
  by_ : Byt ds
  p0 : 0 ≤ pl
  pe : pl ≤ en
  e1 : en ≤ 8 * ds.length
  len : ds.length ≤ 1000000
/-- the end that is meant: None is the list's end -/
def endV (ds : List Int) : V → Int
  | .int e => e
  | _ => 8 * ds.length
def sp_BitReader___init__ (K : PySem.W.Frag) : Sp := fun vs H Q E => ∃ (p dx d : Addr) (ds : List Int) (i : Int) (ev : V), vs = [.ref p, .ref d, .int i, ev] ∧ (ev = .non ∨ ∃ e, ev = .int e) ∧ H p = some (.ins (He.ga K "BitReader") dx []) ∧ SqL K H d (ds.map V.int) ∧ ds.length ≤ 1000000 ∧
  (0 ≤ i ∧ i ≤ endV ds ev ∧ endV ds ev ≤ 8 * ds.length → ∀ q H', Own K (delL H [p]) H' [.pt p (rC K dx q i (endV ds ev)), pI q ds] → Q .non H') ∧
  (¬ (0 ≤ i ∧ i ≤ endV ds ev ∧ endV ds ev ≤ 8 * ds.length) → ∀ x H', Own K H H' [.pt x (.xd [("at", .int 0)])] → E (.ref (He.ga K "OutOfRange")) (some x) H')
theorem okf_BitReader___init__ (T : Tx K mg) {fd : FuncData} (F : FunD K "__init__" "BitReader.__init__" (defArgs s_BitReader___init__) (defBody s_BitReader___init__) (defScope s_BitReader___init__) [(.int (0) : V), (.non : V)] [] (He.ma K (He.ga K "BitReader") "__init__") fd) : FnOk P w K mg base (L2N.CX P w) 3 (He.ma K (He.ga K "BitReader") "__init__") fd ["self", "data", "at", "end"] (sp_BitReader___init__ K) := by
  refine F.ok sc_BitReader___init__ (fun vs H Q E h => ?_) (fun cdv A outer s H vs Q E hr h => ⟨_, (pss_cons (ps_set (i := 4) sc_BitReader___init__.nd rfl (Or.inl rfl) (by exact (pe_op op_mul pe_int (pe_callB (lenK K) rfl T.b_len (by decide +kernel) (pa_cons (pv 1) pa_nil)))))
 (pss_cons (ps_if (pt_cmpR op_isN (pv 3) pe_non (nomark _))
 (pss_one (ps_set (i := 3) sc_BitReader___init__.nd rfl (Or.inl rfl) (by exact (pv 4))))
 pss_nil)
 (pss_cons (ps_if (pt_not (pt_chain3 op_le op_le op_le pe_int (pv 2) (pv 3) (pv 4)))
 (pss_one (ps_raiseB T.x_OutOfRange (ok_init T) (hr.mono (by decide)) (L2N.takes_of rfl rfl rfl rfl) (by exact (pa_cons pe_int pa_nil))))
 pss_nil)
 (pss_cons (ps_fld (pv 0) (by exact (pe_callTy (lsK K) rfl T.b_list (by decide +kernel) (pa_cons (pv 1) pa_nil))) rfl)
 (pss_cons (ps_fld (pv 0) (by exact (pv 2)) rfl)
 (pss_one (ps_fld (pv 0) (by exact (pv 3)) rfl))))))), ?_⟩)
  · first | (obtain ⟨rfl, _⟩ := h; rfl) | (obtain ⟨_, rfl, _⟩ := h; rfl) | (obtain ⟨_, _, rfl, _⟩ := h; rfl) | (obtain ⟨_, _, _, rfl, _⟩ := h; rfl) | (obtain ⟨_, _, _, _, rfl, _⟩ := h; rfl) | (obtain ⟨_, _, _, _, _, rfl, _⟩ := h; rfl) | (obtain ⟨_, _, _, _, _, _, rfl, _⟩ := h; rfl) | (obtain ⟨_, _, _, _, _, _, _, rfl, _⟩ := h; rfl) | (obtain ⟨_, _, _, _, _, _, _, _, rfl, _⟩ := h; rfl) | (obtain ⟨_, _, _, _, _, _, _, _, _, rfl, _⟩ := h; rfl) | (obtain ⟨_, _, _, _, _, _, _, _, _, _, rfl, _⟩ := h; rfl) | (obtain ⟨_, _, _, _, _, _, _, _, _, _, _, rfl, _⟩ := h; rfl) | (obtain ⟨_, _, _, _, _, _, _, _, _, _, _, _, rfl, _⟩ := h; rfl) | (obtain ⟨_, _, _, _, _, _, _, _, _, _, _, _, _, rfl, _⟩ := h; rfl) | (obtain ⟨_, _, _, _, _, _, _, _, _, _, _, _, _, _, rfl, _⟩ := h; rfl) | (obtain ⟨_, _, _, _, _, _, _, _, _, _, _, _, _, _, _, rfl, _⟩ := h; rfl) | (obtain ⟨_, _, _, _, _, _, _, _, _, _, _, _, _, _, _, _, rfl, _⟩ := h; rfl) | (obtain ⟨_, _, _, _, _, _, _, _, _, _, _, _, _, _, _, _, _, rfl, _⟩ := h; rfl) | (obtain ⟨_, _, _, _, _, _, _, _, _, _, _, _, _, _, _, _, _, _, rfl, _⟩ := h; rfl) | (obtain ⟨_, _, _, _, _, _, _, _, _, _, _, _, _, _, _, _, _, _, _, rfl, _⟩ := h; rfl) | (obtain ⟨_, _, _, _, _, _, _, _, _, _, _, _, _, _, _, _, _, _, _, _, rfl, _⟩ := h; rfl) | (obtain ⟨_, _, _, _, _, _, _, _, _, _, _, _, _, _, _, _, _, _, _, _, _, rfl, _⟩ := h; rfl)
  · obtain ⟨p, dx, d, ds, i, ev, rfl, hev, hp, hd, hl, qq, qe⟩ := h
    have cW := T.c_BitReader
    k_call_by "xo" st_BitReader___init__
    have hd2 : SqL K (delL H [p]) d (ds.map V.int) := delL_sq hd hp (fun _ z => nomatch z) (fun _ _ z => nomatch z)
    have L := Own.in1 (K := K) hp
    wtm_at "oo"
    generalize hk : tSeq _ _ _ = kont
    have fin : kont [some (.ref p), some (.ref d), some (.int i), some (.int (endV ds ev)), some (.int (8 * ds.length))] H := by
      subst hk
      generalize endV ds ev = e at *
      simp only [x_seq]
      generalize hk : tSeq _ _ _ = kont
      have bad : ¬ (0 ≤ i ∧ i ≤ e ∧ e ≤ 8 * ds.length) → Bz K (He.ga K "OutOfRange") (fun cls d st H => E cls d H) [some (.ref p), some (.ref d), some (.int i), some (.int e), some (.int (8 * ds.length))] [.int 0] H := fun n => bz T.x_OutOfRange fun x hx => qe n x _ (Own.start.new hx _)
      wtm_at "oo"
      refine selT_d (fun c1 => ?_) (fun c1 => ?_)
      · wtm_at "oo"
        refine selT_d (fun c2 => ?_) (fun c2 => ?_)
        · wtm_at "oo"
          refine sel_nd (fun c3 => ?_) (fun c3 => ?_)
          · wtm_at "oo"
            exact bad (by omega)
          · subst hk
            wtm_at "oo"
            rename_i q _ _ _ _ _ _ H4 L4
            exact qq ⟨c1, c2, c3⟩ q H4 (L4.pick (by wtm_at "pk"))
        · wtm_at "oo"
          exact bad (by omega)
      · wtm_at "oo"
        exact bad (by omega)
    rcases hev with rfl | ⟨e, rfl⟩
    · wtm_at "oo"
      exact fin
    · wtm_at "oo"
      exact fin
theorem ok1_BitReader___init__ (T : Tx K mg) : Mkr P w K base mg 3 "BitReader" ["self", "data", "at", "end"] (sp_BitReader___init__ K) [(.int (0) : V), (.non : V)] := by
  obtain ⟨fd, F⟩ := T.d_BitReader___init__
  obtain ⟨ds, hv, hb⟩ := FunD.binds1 (ps := ["self", "data", "at", "end"]) F 2 0 (List.cons_ne_nil _ _) rfl (fun _ _ _ _ _ _ _ us its hu hi => match us, its, hu, hi with | [_, _], [_, _], _, _ => ⟨_, rfl, rfl⟩)
  exact ⟨fd, ds, okf_BitReader___init__ T F, T.m_BitReader___init__, T.g_BitReader, hb, hv⟩
theorem ok2_BitReader___init__ (T : Tx K mg) : Mkr P w K base mg 3 "BitReader" ["self", "data", "at", "end"] (sp_BitReader___init__ K) [(.non : V)] := by
  obtain ⟨fd, F⟩ := T.d_BitReader___init__
  obtain ⟨ds, hv, hb⟩ := FunD.binds1 (ps := ["self", "data", "at", "end"]) F 3 1 (List.cons_ne_nil _ _) rfl (fun _ _ _ _ _ _ _ us its hu hi => match us, its, hu, hi with | [_, _, _], [_, _], _, _ => ⟨_, rfl, rfl⟩)
  exact ⟨fd, ds, okf_BitReader___init__ T F, T.m_BitReader___init__, T.g_BitReader, hb, hv⟩
theorem ok_BitReader___init__ (T : Tx K mg) : Mkr P w K base mg 3 "BitReader" ["self", "data", "at", "end"] (sp_BitReader___init__ K) [] := by
  obtain ⟨fd, F⟩ := T.d_BitReader___init__
  obtain ⟨ds, hv, hb⟩ := FunD.binds1 (ps := ["self", "data", "at", "end"]) F 4 2 (List.cons_ne_nil _ _) rfl (fun _ _ _ _ _ _ _ us its hu hi => match us, its, hu, hi with | [_, _, _, _], [_, _], _, _ => ⟨_, rfl, rfl⟩)
  exact ⟨fd, ds, okf_BitReader___init__ T F, T.m_BitReader___init__, T.g_BitReader, hb, hv⟩
def sp_BitReader_place (K : PySem.W.Frag) : Sp := fun vs H Q _ => ∃ (p dx q : Addr) (pl en : Int), vs = [.ref p] ∧ H p = some (rC K dx q pl en) ∧ Q (.int pl) H
theorem ok_BitReader_place (T : Tx K mg) : Mth P w K base mg 1 "BitReader" "place" ["self"] (sp_BitReader_place K) [] := by
  obtain ⟨fd, F⟩ := T.d_BitReader_place
  refine ⟨fd, [], F.ok sc_BitReader_place (fun vs H Q E h => ?_) (fun cdv A outer s H vs Q E hr h => ⟨_, (PSs.nox (pss_one (ps_ret (by exact (pe_fld (pv 0) rfl))))), ?_⟩), T.m_BitReader_place, T.c_BitReader.cl, F.bindsN (fun _ _ _ _ _ _ us hl => match us, hl with | [_], _ => rfl), .nil⟩
  · first | (obtain ⟨rfl, _⟩ := h; rfl) | (obtain ⟨_, rfl, _⟩ := h; rfl) | (obtain ⟨_, _, rfl, _⟩ := h; rfl) | (obtain ⟨_, _, _, rfl, _⟩ := h; rfl) | (obtain ⟨_, _, _, _, rfl, _⟩ := h; rfl) | (obtain ⟨_, _, _, _, _, rfl, _⟩ := h; rfl) | (obtain ⟨_, _, _, _, _, _, rfl, _⟩ := h; rfl) | (obtain ⟨_, _, _, _, _, _, _, rfl, _⟩ := h; rfl) | (obtain ⟨_, _, _, _, _, _, _, _, rfl, _⟩ := h; rfl) | (obtain ⟨_, _, _, _, _, _, _, _, _, rfl, _⟩ := h; rfl) | (obtain ⟨_, _, _, _, _, _, _, _, _, _, rfl, _⟩ := h; rfl) | (obtain ⟨_, _, _, _, _, _, _, _, _, _, _, rfl, _⟩ := h; rfl) | (obtain ⟨_, _, _, _, _, _, _, _, _, _, _, _, rfl, _⟩ := h; rfl) | (obtain ⟨_, _, _, _, _, _, _, _, _, _, _, _, _, rfl, _⟩ := h; rfl) | (obtain ⟨_, _, _, _, _, _, _, _, _, _, _, _, _, _, rfl, _⟩ := h; rfl) | (obtain ⟨_, _, _, _, _, _, _, _, _, _, _, _, _, _, _, rfl, _⟩ := h; rfl) | (obtain ⟨_, _, _, _, _, _, _, _, _, _, _, _, _, _, _, _, rfl, _⟩ := h; rfl) | (obtain ⟨_, _, _, _, _, _, _, _, _, _, _, _, _, _, _, _, _, rfl, _⟩ := h; rfl) | (obtain ⟨_, _, _, _, _, _, _, _, _, _, _, _, _, _, _, _, _, _, rfl, _⟩ := h; rfl) | (obtain ⟨_, _, _, _, _, _, _, _, _, _, _, _, _, _, _, _, _, _, _, rfl, _⟩ := h; rfl) | (obtain ⟨_, _, _, _, _, _, _, _, _, _, _, _, _, _, _, _, _, _, _, _, rfl, _⟩ := h; rfl) | (obtain ⟨_, _, _, _, _, _, _, _, _, _, _, _, _, _, _, _, _, _, _, _, _, rfl, _⟩ := h; rfl)
  · obtain ⟨p, dx, q, pl, en, rfl, hp, qq⟩ := h
    have cW := T.c_BitReader
    k_call_by "xo" st_BitReader_place
    wtm_at "oo"
    exact qq
def sp_BitReader_left (K : PySem.W.Frag) : Sp := fun vs H Q _ => ∃ (p dx q : Addr) (pl en : Int), vs = [.ref p] ∧ H p = some (rC K dx q pl en) ∧ Q (.int (en - pl)) H
theorem ok_BitReader_left (T : Tx K mg) : Mth P w K base mg 1 "BitReader" "left" ["self"] (sp_BitReader_left K) [] := by
  obtain ⟨fd, F⟩ := T.d_BitReader_left
  refine ⟨fd, [], F.ok sc_BitReader_left (fun vs H Q E h => ?_) (fun cdv A outer s H vs Q E hr h => ⟨_, (PSs.nox (pss_one (ps_ret (by exact (pe_op op_sub (pe_fld (pv 0) rfl) (pe_fld (pv 0) rfl)))))), ?_⟩), T.m_BitReader_left, T.c_BitReader.cl, F.bindsN (fun _ _ _ _ _ _ us hl => match us, hl with | [_], _ => rfl), .nil⟩
  · first | (obtain ⟨rfl, _⟩ := h; rfl) | (obtain ⟨_, rfl, _⟩ := h; rfl) | (obtain ⟨_, _, rfl, _⟩ := h; rfl) | (obtain ⟨_, _, _, rfl, _⟩ := h; rfl) | (obtain ⟨_, _, _, _, rfl, _⟩ := h; rfl) | (obtain ⟨_, _, _, _, _, rfl, _⟩ := h; rfl) | (obtain ⟨_, _, _, _, _, _, rfl, _⟩ := h; rfl) | (obtain ⟨_, _, _, _, _, _, _, rfl, _⟩ := h; rfl) | (obtain ⟨_, _, _, _, _, _, _, _, rfl, _⟩ := h; rfl) | (obtain ⟨_, _, _, _, _, _, _, _, _, rfl, _⟩ := h; rfl) | (obtain ⟨_, _, _, _, _, _, _, _, _, _, rfl, _⟩ := h; rfl) | (obtain ⟨_, _, _, _, _, _, _, _, _, _, _, rfl, _⟩ := h; rfl) | (obtain ⟨_, _, _, _, _, _, _, _, _, _, _, _, rfl, _⟩ := h; rfl) | (obtain ⟨_, _, _, _, _, _, _, _, _, _, _, _, _, rfl, _⟩ := h; rfl) | (obtain ⟨_, _, _, _, _, _, _, _, _, _, _, _, _, _, rfl, _⟩ := h; rfl) | (obtain ⟨_, _, _, _, _, _, _, _, _, _, _, _, _, _, _, rfl, _⟩ := h; rfl) | (obtain ⟨_, _, _, _, _, _, _, _, _, _, _, _, _, _, _, _, rfl, _⟩ := h; rfl) | (obtain ⟨_, _, _, _, _, _, _, _, _, _, _, _, _, _, _, _, _, rfl, _⟩ := h; rfl) | (obtain ⟨_, _, _, _, _, _, _, _, _, _, _, _, _, _, _, _, _, _, rfl, _⟩ := h; rfl) | (obtain ⟨_, _, _, _, _, _, _, _, _, _, _, _, _, _, _, _, _, _, _, rfl, _⟩ := h; rfl) | (obtain ⟨_, _, _, _, _, _, _, _, _, _, _, _, _, _, _, _, _, _, _, _, rfl, _⟩ := h; rfl) | (obtain ⟨_, _, _, _, _, _, _, _, _, _, _, _, _, _, _, _, _, _, _, _, _, rfl, _⟩ := h; rfl)
  · obtain ⟨p, dx, q, pl, en, rfl, hp, qq⟩ := h
    have cW := T.c_BitReader
    k_call_by "xo" st_BitReader_left
    wtm_at "oo"
    exact qq
def sp_BitReader_look (K : PySem.W.Frag) : Sp := fun vs H Q E => ∃ (p dx q : Addr) (ds : List Int) (pl en w : Int), vs = [.ref p, .int w] ∧ H p = some (rC K dx q pl en) ∧ H q = some (.lst (ds.map V.int)) ∧ RSt ds pl en ∧
  (0 ≤ w ∧ w ≤ 64 → ∀ H', Own K H H' [] → Q (.int (rdV ds pl.toNat (min w (en - pl)).toNat)) H') ∧
  (¬ (0 ≤ w ∧ w ≤ 64) → ∀ x H', Own K H H' [.pt x (.xd [("at", .int pl)])] → E (.ref (He.ga K "OutOfRange")) (some x) H')
theorem ok_BitReader_look (T : Tx K mg) : Mth P w K base mg 3 "BitReader" "look" ["self", "width"] (sp_BitReader_look K) [] := by
  obtain ⟨fd, F⟩ := T.d_BitReader_look
  refine ⟨fd, [], F.ok sc_BitReader_look (fun vs H Q E h => ?_) (fun cdv A outer s H vs Q E hr h => ⟨_, (pss_cons (ps_if (pt_not (pt_chain op_le op_le pe_int (pv 1) (pe_gc rfl T.c__MOST_BITS)))
 (pss_one (ps_raiseB T.x_OutOfRange (ok_init T) (hr.mono (by decide)) (L2N.takes_of rfl rfl rfl rfl) (by exact (pa_cons (pe_fld (pv 0) rfl) pa_nil))))
 pss_nil)
 (pss_cons (ps_set (i := 1) sc_BitReader_look.nd rfl (Or.inl rfl) (by exact (pe_callB (call_min2 rfl) rfl T.b_min (by decide +kernel) (pa_cons (pv 1) (pa_cons (pe_mt0 (ok_BitReader_left T) (hr.mono (by decide)) (pv 0)) pa_nil)))))
 (pss_cons (ps_set (i := 2) sc_BitReader_look.nd rfl (Or.inl rfl) (by exact (pe_op op_fdiv (pe_fld (pv 0) rfl) pe_int)))
 (pss_cons (ps_set (i := 3) sc_BitReader_look.nd rfl (Or.inl rfl) (by exact (pe_op op_fdiv (pe_op op_add (pe_op op_add (pe_fld (pv 0) rfl) (pv 1)) pe_int) pe_int)))
 (pss_cons (ps_set (i := 4) sc_BitReader_look.nd rfl (Or.inl rfl) (by exact pe_int))
 (pss_cons (ps_for (passes_of rfl) rfl (pi_reversed rfl T.b_reversed (pa_cons (pe_slice (slK K) (pe_fld (pv 0) rfl) (po_some (pv 2)) (po_some (pv 3))) pa_nil)) (pg_name (i := 5) sc_BitReader_look.nd rfl (Or.inl rfl))
 (pss_one (ps_set (i := 4) sc_BitReader_look.nd rfl (Or.inl rfl) (by exact (pe_op op_add (pe_op op_mul pe_int (pv 4)) (pv 5))))))
 (pss_one (ps_ret (by exact (pe_op op_and (pe_op op_shr (pv 4) (pe_op op_mod (pe_fld (pv 0) rfl) pe_int)) (pe_op op_sub (pe_op op_shl pe_int (pv 1)) pe_int))))))))))), ?_⟩), T.m_BitReader_look, T.c_BitReader.cl, F.bindsN (fun _ _ _ _ _ _ us hl => match us, hl with | [_, _], _ => rfl), .nil⟩
  · first | (obtain ⟨rfl, _⟩ := h; rfl) | (obtain ⟨_, rfl, _⟩ := h; rfl) | (obtain ⟨_, _, rfl, _⟩ := h; rfl) | (obtain ⟨_, _, _, rfl, _⟩ := h; rfl) | (obtain ⟨_, _, _, _, rfl, _⟩ := h; rfl) | (obtain ⟨_, _, _, _, _, rfl, _⟩ := h; rfl) | (obtain ⟨_, _, _, _, _, _, rfl, _⟩ := h; rfl) | (obtain ⟨_, _, _, _, _, _, _, rfl, _⟩ := h; rfl) | (obtain ⟨_, _, _, _, _, _, _, _, rfl, _⟩ := h; rfl) | (obtain ⟨_, _, _, _, _, _, _, _, _, rfl, _⟩ := h; rfl) | (obtain ⟨_, _, _, _, _, _, _, _, _, _, rfl, _⟩ := h; rfl) | (obtain ⟨_, _, _, _, _, _, _, _, _, _, _, rfl, _⟩ := h; rfl) | (obtain ⟨_, _, _, _, _, _, _, _, _, _, _, _, rfl, _⟩ := h; rfl) | (obtain ⟨_, _, _, _, _, _, _, _, _, _, _, _, _, rfl, _⟩ := h; rfl) | (obtain ⟨_, _, _, _, _, _, _, _, _, _, _, _, _, _, rfl, _⟩ := h; rfl) | (obtain ⟨_, _, _, _, _, _, _, _, _, _, _, _, _, _, _, rfl, _⟩ := h; rfl) | (obtain ⟨_, _, _, _, _, _, _, _, _, _, _, _, _, _, _, _, rfl, _⟩ := h; rfl) | (obtain ⟨_, _, _, _, _, _, _, _, _, _, _, _, _, _, _, _, _, rfl, _⟩ := h; rfl) | (obtain ⟨_, _, _, _, _, _, _, _, _, _, _, _, _, _, _, _, _, _, rfl, _⟩ := h; rfl) | (obtain ⟨_, _, _, _, _, _, _, _, _, _, _, _, _, _, _, _, _, _, _, rfl, _⟩ := h; rfl) | (obtain ⟨_, _, _, _, _, _, _, _, _, _, _, _, _, _, _, _, _, _, _, _, rfl, _⟩ := h; rfl) | (obtain ⟨_, _, _, _, _, _, _, _, _, _, _, _, _, _, _, _, _, _, _, _, _, rfl, _⟩ := h; rfl)
  · obtain ⟨p, dx, q, ds, pl, en, w, rfl, hp, hq, ok, qq, qe⟩ := h
    have cW := T.c_BitReader
    k_call_by "xo" st_BitReader_look
    have L := Own.start (K := K) (H := H)
    by_cases hg : 0 ≤ w ∧ w ≤ 64
    · have qq := qq hg
      obtain ⟨c0, c1⟩ := hg
      clear qe
      have ok0 := ok.p0
      have ok1 := ok.pe
      have ok2 := ok.e1
      have ok3 := ok.len
      wtm_at "oo"
      refine ⟨p, dx, q, pl, en, rfl, hp, ?_⟩
      have em : (if en - pl < w then en - pl else w) = min w (en - pl) := by
        split <;> omega
      wtm_at "xo"
      rw [em]
      have hw0 : 0 ≤ min w (en - pl) := by omega
      have hw1 : min w (en - pl) ≤ 64 := by omega
      have hw2 : pl + min w (en - pl) ≤ en := by omega
      generalize min w (en - pl) = m at *
      wtm_at "oo"
      rename_i s H4 L4
      rw [cut_ii (by omega) (by omega), ints_drop, ints_take] at L4 ⊢
      have e7 : ((pl + m + 7) / 8).toNat - (pl / 8).toNat = (pl.toNat % 8 + m.toNat + 7) / 8 := by omega
      have e8 : (pl / 8).toNat = pl.toNat / 8 := by omega
      rw [e7, e8] at L4 ⊢
      have fin := rdV_slice (p := pl.toNat) (w := m.toNat) (m := (pl.toNat % 8 + m.toNat + 7) / 8) ok.by_ (by omega)
      have hby : Byt ((ds.drop (pl.toNat / 8)).take ((pl.toNat % 8 + m.toNat + 7) / 8)) := ⟨fun x hx => ok.by_.lo x (List.mem_of_mem_drop (List.mem_of_mem_take hx)), fun x hx => ok.by_.hi x (List.mem_of_mem_drop (List.mem_of_mem_take hx))⟩
      generalize (ds.drop (pl.toNat / 8)).take ((pl.toNat % 8 + m.toNat + 7) / 8) = sl at *
      refine loop_rev (xs := sl.map V.int) (fun i σ H' => ∃ y5 y6, σ = [some (.ref p), some (.int m), some (.int (pl / 8)), some (.int ((pl + m + 7) / 8)), some (.int (bnum (sl.drop (sl.length - i)))), y5] ∧ y6 = y5 ∧ Own K H H' [pI s sl]) ⟨none, none, by rw [Nat.sub_zero, List.drop_of_length_le (Nat.le_refl _)]; rfl, rfl, L4⟩ (fun i σ H' _ ⟨_, _, _, _, L⟩ => by wtm_at "qo") ?_ ?_
      · rintro i x σ H5 hx hi ⟨y5, y6, rfl, rfl, L5⟩
        rw [List.length_map] at hx hi
        obtain ⟨z, hz, rfl⟩ := int_at hx
        have hz2 : sl.length - 1 - i < sl.length := by omega
        rw [List.getElem?_eq_getElem hz2] at hz
        have ez := Option.some.inj hz
        have eb : bnum (sl.drop (sl.length - (i + 1))) = 256 * bnum (sl.drop (sl.length - i)) + z := by
          rw [show sl.length - (i + 1) = sl.length - 1 - i by omega, List.drop_eq_getElem_cons hz2, ez]
          show z + 256 * bnum (sl.drop (sl.length - 1 - i + 1)) = _
          rw [show sl.length - 1 - i + 1 = sl.length - i by omega]
          omega
        wtm_at "oo"
        exact L5
      · rintro σ H5 ⟨y5, y6, rfl, rfl, L5⟩
        rw [List.length_map, Nat.sub_self, List.drop_zero]
        have eq := L5.base hp
        wtm_at "oo"
        rw [Int.one_mul, andK (Int.ediv_nonneg (bnum_lo hby).1 (Int.le_of_lt pow2_pos)), show (pl % 8).toNat = pl.toNat % 8 by omega, fin]
        exact qq _ (L5.sub (by wtm_at "sub"))
    · have qe := qe hg
      clear qq
      have : w < 0 ∨ (0 ≤ w ∧ 64 < w) := by omega
      rcases this with h | ⟨h1, h2⟩ <;> (wtm_at "oo"; exact bz T.x_OutOfRange fun x hx => qe x _ (Own.start.new hx _))
def sp_BitReader_take (K : PySem.W.Frag) : Sp := fun vs H Q E => ∃ (p dx q : Addr) (ds : List Int) (pl en w : Int), vs = [.ref p, .int w] ∧ H p = some (rC K dx q pl en) ∧ H q = some (.lst (ds.map V.int)) ∧ RSt ds pl en ∧
  (0 ≤ w ∧ w ≤ 64 → w ≤ en - pl → ∀ H', Own K (delL H [p]) H' [.pt p (rC K dx q (pl + w) en)] → Q (.int (rdV ds pl.toNat w.toNat)) H') ∧
  (0 ≤ w ∧ w ≤ 64 → en - pl < w → ∀ x H', Own K H H' [.pt x (.xd [("at", .int en)])] → E (.ref (He.ga K "Truncated")) (some x) H') ∧
  (¬ (0 ≤ w ∧ w ≤ 64) → ∀ x H', Own K H H' [.pt x (.xd [("at", .int pl)])] → E (.ref (He.ga K "OutOfRange")) (some x) H')
theorem ok_BitReader_take (T : Tx K mg) : Mth P w K base mg 4 "BitReader" "take" ["self", "width"] (sp_BitReader_take K) [] := by
  obtain ⟨fd, F⟩ := T.d_BitReader_take
  refine ⟨fd, [], F.ok sc_BitReader_take (fun vs H Q E h => ?_) (fun cdv A outer s H vs Q E hr h => ⟨_, (pss_cons (ps_set (i := 2) sc_BitReader_take.nd rfl (Or.inl rfl) (by exact (pe_mtS (ok_BitReader_look T) (hr.mono (by decide)) (L2N.takes_of rfl rfl rfl rfl) (pv 0) (pa_cons (pv 1) pa_nil))))
 (pss_cons (ps_if (pt_cmpR op_gt (pv 1) (pe_mt0 (ok_BitReader_left T) (hr.mono (by decide)) (pv 0)) (nomark _))
 (pss_one (ps_raiseB T.x_Truncated (ok_init T) (hr.mono (by decide)) (L2N.takes_of rfl rfl rfl rfl) (by exact (pa_cons (pe_fld (pv 0) rfl) pa_nil))))
 pss_nil)
 (pss_cons (ps_fldaug (pv 0) (by exact (pv 1)) (in_of ip_add))
 (pss_one (ps_ret (by exact (pv 2))))))), ?_⟩), T.m_BitReader_take, T.c_BitReader.cl, F.bindsN (fun _ _ _ _ _ _ us hl => match us, hl with | [_, _], _ => rfl), .nil⟩
  · first | (obtain ⟨rfl, _⟩ := h; rfl) | (obtain ⟨_, rfl, _⟩ := h; rfl) | (obtain ⟨_, _, rfl, _⟩ := h; rfl) | (obtain ⟨_, _, _, rfl, _⟩ := h; rfl) | (obtain ⟨_, _, _, _, rfl, _⟩ := h; rfl) | (obtain ⟨_, _, _, _, _, rfl, _⟩ := h; rfl) | (obtain ⟨_, _, _, _, _, _, rfl, _⟩ := h; rfl) | (obtain ⟨_, _, _, _, _, _, _, rfl, _⟩ := h; rfl) | (obtain ⟨_, _, _, _, _, _, _, _, rfl, _⟩ := h; rfl) | (obtain ⟨_, _, _, _, _, _, _, _, _, rfl, _⟩ := h; rfl) | (obtain ⟨_, _, _, _, _, _, _, _, _, _, rfl, _⟩ := h; rfl) | (obtain ⟨_, _, _, _, _, _, _, _, _, _, _, rfl, _⟩ := h; rfl) | (obtain ⟨_, _, _, _, _, _, _, _, _, _, _, _, rfl, _⟩ := h; rfl) | (obtain ⟨_, _, _, _, _, _, _, _, _, _, _, _, _, rfl, _⟩ := h; rfl) | (obtain ⟨_, _, _, _, _, _, _, _, _, _, _, _, _, _, rfl, _⟩ := h; rfl) | (obtain ⟨_, _, _, _, _, _, _, _, _, _, _, _, _, _, _, rfl, _⟩ := h; rfl) | (obtain ⟨_, _, _, _, _, _, _, _, _, _, _, _, _, _, _, _, rfl, _⟩ := h; rfl) | (obtain ⟨_, _, _, _, _, _, _, _, _, _, _, _, _, _, _, _, _, rfl, _⟩ := h; rfl) | (obtain ⟨_, _, _, _, _, _, _, _, _, _, _, _, _, _, _, _, _, _, rfl, _⟩ := h; rfl) | (obtain ⟨_, _, _, _, _, _, _, _, _, _, _, _, _, _, _, _, _, _, _, rfl, _⟩ := h; rfl) | (obtain ⟨_, _, _, _, _, _, _, _, _, _, _, _, _, _, _, _, _, _, _, _, rfl, _⟩ := h; rfl) | (obtain ⟨_, _, _, _, _, _, _, _, _, _, _, _, _, _, _, _, _, _, _, _, _, rfl, _⟩ := h; rfl)
  · obtain ⟨p, dx, q, ds, pl, en, w, rfl, hp, hq, ok, qq, qt, qe⟩ := h
    have cW := T.c_BitReader
    k_call_by "xo" st_BitReader_take
    wtm_at "oo"
    refine ⟨p, dx, q, ds, pl, en, w, rfl, hp, hq, ok, fun hg H4 M => ?_, qe⟩
    have ok0 := ok.p0
    have ok1 := ok.pe
    have eq := M.base hp
    have L : Own K (delL H [p]) H4 [.pt p (rC K dx q pl en)] := (Own.in1 hp).c0 M
    wtm_at "oo"
    refine ⟨p, dx, q, pl, en, rfl, eq, ?_⟩
    wtm_at "oo"
    refine sel_d (fun c => ?_) (fun c => ?_)
    · wtm_at "oo"
      exact bz T.x_Truncated fun x hx => qt hg (by omega) x _ (M.new hx _)
    · have qq := qq hg (by omega)
      rw [show min w (en - pl) = w by omega]
      wtm_at "oo"
      rename_i L5
      exact qq _ L5


end
end K11

namespace K11
open PySem PySem.Spec PyProof.Rows L2 Bel
local macro_rules | `(tactic| wtm_at "xs") => `(tactic| simp only [x_next, x_seq, x_brk, x_cont, x_drop, x_ret, x_retN, x_if, sel_t, sel_f, selE_t, selE_f, selT_t, selT_f, selC_t, selC_f, x_test, x_tB, x_op, x_un, x_var, x_c, x_cb, x_nil, x_cons, x_rI, x_rI0, x_rU, x_rEq, x_rNe, x_rIxL, x_rIxT, x_rSlL, x_rCat, x_rRep, x_rApp, x_bm, x_bm0, x_sl, x_nopart, x_part, x_tup, x_lst, x_call, x_callS, x_asg, x_gname, x_gtup, x_gnil, x_gcons, x_gsub, x_setL, x_aug, x_ipI, x_ipC, x_bits, x_getL, x_augS, x_and, x_or, x_not, x_k, x_andV, x_orV, x_notV, x_ife, x_chain, x_for, x_ilist, x_itup, x_ienum, x_irng1, x_irng2, x_irev, x_lc, x_yes, wipe_nil, wipe_cons, List.map_cons, List.map_nil, x_misc, x_misc2, x_rz, lookup_at, Bool.not_true, Bool.not_false, decide_true, decide_false, not_true, not_false_eq_true, and_assoc, exists_and_left, exists_eq_left', exists_eq_left, exists_eq', exists_eq_right', exists_eq_right, V.int.injEq, V.ref.injEq, V.bl.injEq, V.str.injEq, List.cons.injEq, and_true, true_and, and_self, Option.some.injEq, List.cons_append, List.nil_append, List.append_nil, List.getElem?_cons_zero, List.getElem?_cons_succ, List.set_cons_zero, List.set_cons_succ, reduceCtorEq, false_and, and_false, exists_false, exists_const, or_false, false_or, scal_ii, scal_bb, scal_ss, List.length_cons, List.length_nil, Int.reduceToNat, Int.reducePow])
local macro_rules | `(tactic| k_call_by "xs" $h:term) => `(tactic| simp only [$h:term, x_next, x_seq, x_brk, x_cont, x_drop, x_ret, x_retN, x_if, sel_t, sel_f, selE_t, selE_f, selT_t, selT_f, selC_t, selC_f, x_test, x_tB, x_op, x_un, x_var, x_c, x_cb, x_nil, x_cons, x_rI, x_rI0, x_rU, x_rEq, x_rNe, x_rIxL, x_rIxT, x_rSlL, x_rCat, x_rRep, x_rApp, x_bm, x_bm0, x_sl, x_nopart, x_part, x_tup, x_lst, x_call, x_callS, x_asg, x_gname, x_gtup, x_gnil, x_gcons, x_gsub, x_setL, x_aug, x_ipI, x_ipC, x_bits, x_getL, x_augS, x_and, x_or, x_not, x_k, x_andV, x_orV, x_notV, x_ife, x_chain, x_for, x_ilist, x_itup, x_ienum, x_irng1, x_irng2, x_irev, x_lc, x_yes, wipe_nil, wipe_cons, List.map_cons, List.map_nil, x_misc, x_misc2, x_rz, lookup_at, Bool.not_true, Bool.not_false, decide_true, decide_false, not_true, not_false_eq_true, and_assoc, exists_and_left, exists_eq_left', exists_eq_left, exists_eq', exists_eq_right', exists_eq_right, V.int.injEq, V.ref.injEq, V.bl.injEq, V.str.injEq, List.cons.injEq, and_true, true_and, and_self, Option.some.injEq, List.cons_append, List.nil_append, List.append_nil, List.getElem?_cons_zero, List.getElem?_cons_succ, List.set_cons_zero, List.set_cons_succ, reduceCtorEq, false_and, and_false, exists_false, exists_const, or_false, false_or, scal_ii, scal_bb, scal_ss, List.length_cons, List.length_nil, Int.reduceToNat, Int.reducePow])
local macro_rules | `(tactic| wtm_at "hp") => `(tactic| first | (with_reducible assumption) | exact upd_same | (refine upd_keep (by with_reducible assumption) ?_; wtm_at "hp") | (refine Same.get (by with_reducible assumption) ?_; wtm_at "hp") | (refine upd_other (by first | (with_reducible assumption) | exact Ne.symm (by with_reducible assumption)) ?_; wtm_at "hp"))
local macro_rules | `(tactic| wtm_at "sq") => `(tactic| first | (with_reducible assumption) | exact SqL.of (by wtm_at "hp") | exact SqT.of (by wtm_at "hp") | (refine Same.seq (same_upd (by with_reducible assumption)) ?_; wtm_at "sq") | (refine Same.seq (by with_reducible assumption) ?_; wtm_at "sq") | (refine Same.seqT (same_upd (by with_reducible assumption)) ?_; wtm_at "sq") | (refine Same.seqT (by with_reducible assumption) ?_; wtm_at "sq"))
local macro_rules | `(tactic| wtm_at "cl") => `(tactic| first | (with_reducible assumption) | omega | (exact cmul_r (by omega) (by omega)) | (exact cmul_l (by omega) (by omega)) | (exact cdiv_ok (by omega) (by omega)) | (exact cpow_ok (by decide)) | (exact ⟨by omega, by omega, by omega⟩) | decide | (exact ⟨by omega, by omega⟩) | (simp only [List.length_append, List.length_map, List.length_cons, List.length_nil, rngL_len, sizeLine_eq]; omega) | wtm_at "hp" | wtm_at "sq")
local macro_rules | `(tactic| wtm_at "pf") => `(tactic| first | (with_reducible assumption) | omega | (simp only [List.length_append, List.length_map, List.length_cons, List.length_nil, rngL_len]; omega) | (with_reducible rfl) | (with_reducible trivial) | (with_reducible decide))
local macro_rules | `(tactic| wtm_at "st") => `(tactic| first | ((with_reducible refine g_at ?_); refine at_call (by wtm_at "sq") (by omega) (by omega) (fun _ _ => ?_)) | ((with_reducible refine g_row ?_); refine row_call (by wtm_at "hp") ?_) | ((with_reducible refine g_int ?_); refine int_call ?_) | ((with_reducible refine g_isi ?_); first | (refine isi_int rfl ?_) | (refine isi_lst rfl (by wtm_at "hp") ?_) | (refine isi_tup rfl (by wtm_at "hp") ?_)) | ((with_reducible refine g_ned ?_); refine ned_f (dq_lst (by wtm_at "sq")) (dq_lst (by wtm_at "sq")) ?_) | ((with_reducible refine g_eqd ?_); refine eqd_t (dq_lst (by wtm_at "sq")) (dq_lst (by wtm_at "sq")) ?_) | ((with_reducible refine g_tyv ?_); refine and_tyv (by wtm_at "sq") ?_) | ((with_reducible refine g_asq ?_); refine and_sq (by wtm_at "sq") ?_) | ((with_reducible refine g_lst ?_); refine ex_lst (by wtm_at "hp") ?_) | ((with_reducible refine g_or ?_); first | (refine ex_or (by wtm_at "sq") ?_) | (refine ex_ort (by wtm_at "sq") ?_)) | ((with_reducible refine g_sq ?_); refine ex_sq (by wtm_at "sq") ?_) | ((with_reducible refine g_sqt ?_); refine ex_sqt (by wtm_at "sq") ?_) | ((with_reducible refine gd_sel ?_); first | (refine sel_p (by wtm_at "pf") ?_) | (refine sel_n (by wtm_at "pf") ?_)) | ((with_reducible refine gn_sel ?_); first | (refine selN_p (by wtm_at "pf") ?_) | (refine selN_n (by wtm_at "pf") ?_)) | ((with_reducible refine gd_selT ?_); first | (refine selT_p (by wtm_at "pf") ?_) | (refine selT_n (by wtm_at "pf") ?_)) | ((with_reducible refine gn_selT ?_); first | (refine selTN_p (by wtm_at "pf") ?_) | (refine selTN_n (by wtm_at "pf") ?_)) | ((with_reducible refine gd_selE ?_); first | (refine selE_p (by wtm_at "pf") ?_) | (refine selE_n (by wtm_at "pf") ?_)) | ((with_reducible refine gn_selE ?_); first | (refine selEN_p (by wtm_at "pf") ?_) | (refine selEN_n (by wtm_at "pf") ?_)) | ((with_reducible refine g_xf ?_); refine xf_at rfl (by wtm_at "hp") ?_) | ((with_reducible refine g_atI ?_); refine ex_at (by first | exact rfl | exact atI_int (by omega) (by wtm_at "pf")) ?_) | ((with_reducible refine g_and ?_); refine And.intro (by wtm_at "cl") ?_) | ((with_reducible refine g_new ?_); intro _ _))
local macro_rules | `(tactic| wtm_at "go") => `(tactic| repeat (first | wtm_at "xs" | wtm_at "st"))
local macro_rules | `(tactic| wtm_at "xo") => `(tactic| simp only [x_next, x_seq, x_brk, x_cont, x_drop, x_ret, x_retN, x_if, sel_t, sel_f, selE_t, selE_f, selT_t, selT_f, selC_t, selC_f, x_test, x_tB, x_op, x_un, x_var, x_c, x_cb, x_nil, x_cons, x_rI, x_rI0, x_rU, x_rEq, x_rNe, x_rIxL, x_rIxT, n_rSlL, n_rCat, n_rRep, n_rApp, x_bm, x_bm0, x_sl, x_nopart, x_part, n_tup, n_lst, x_call, x_callS, x_asg, x_gname, x_gtup, x_gnil, x_gcons, x_gsub, n_setL, x_aug, x_ipI, x_ipC, x_bits, x_getL, x_augS, x_and, x_or, x_not, x_k, x_andV, x_orV, x_notV, x_ife, x_chain, x_for, x_ilist, x_itup, x_ienum, x_irng1, x_irng2, x_irev, x_lc, x_yes, wipe_nil, wipe_cons, List.map_cons, List.map_nil, x_misc, x_misc2, x_rz, lookup_at, Bool.not_true, Bool.not_false, decide_true, decide_false, not_true, not_false_eq_true, and_assoc, exists_and_left, exists_eq_left', exists_eq_left, exists_eq', exists_eq_right', exists_eq_right, V.int.injEq, V.ref.injEq, V.bl.injEq, V.str.injEq, List.cons.injEq, and_true, true_and, and_self, Option.some.injEq, List.cons_append, List.nil_append, List.append_nil, List.getElem?_cons_zero, List.getElem?_cons_succ, List.set_cons_zero, List.set_cons_succ, reduceCtorEq, false_and, and_false, exists_false, exists_const, or_false, false_or, scal_ii, scal_bb, scal_ss, List.length_cons, List.length_nil, Int.reduceToNat, Int.reducePow, n_fld, n_dnew, n_dput, n_din, n_dget, n_dget2, n_glst, n_sfld, n_aug, n_meth, n_mw, n_make, n_kw, n_rLs, t_s1, t_i1, t_i2, t_i3, t_i4, t_i5, x_chain3, x_irng3, x_irevR, x_rg1, x_rg2, ints_cat, ints_app1, ints_len, ints_take, ints_drop, rep_one])
local macro_rules | `(tactic| k_call_by "xo" $h:term) => `(tactic| simp only [$h:term, x_next, x_seq, x_brk, x_cont, x_drop, x_ret, x_retN, x_if, sel_t, sel_f, selE_t, selE_f, selT_t, selT_f, selC_t, selC_f, x_test, x_tB, x_op, x_un, x_var, x_c, x_cb, x_nil, x_cons, x_rI, x_rI0, x_rU, x_rEq, x_rNe, x_rIxL, x_rIxT, n_rSlL, n_rCat, n_rRep, n_rApp, x_bm, x_bm0, x_sl, x_nopart, x_part, n_tup, n_lst, x_call, x_callS, x_asg, x_gname, x_gtup, x_gnil, x_gcons, x_gsub, n_setL, x_aug, x_ipI, x_ipC, x_bits, x_getL, x_augS, x_and, x_or, x_not, x_k, x_andV, x_orV, x_notV, x_ife, x_chain, x_for, x_ilist, x_itup, x_ienum, x_irng1, x_irng2, x_irev, x_lc, x_yes, wipe_nil, wipe_cons, List.map_cons, List.map_nil, x_misc, x_misc2, x_rz, lookup_at, Bool.not_true, Bool.not_false, decide_true, decide_false, not_true, not_false_eq_true, and_assoc, exists_and_left, exists_eq_left', exists_eq_left, exists_eq', exists_eq_right', exists_eq_right, V.int.injEq, V.ref.injEq, V.bl.injEq, V.str.injEq, List.cons.injEq, and_true, true_and, and_self, Option.some.injEq, List.cons_append, List.nil_append, List.append_nil, List.getElem?_cons_zero, List.getElem?_cons_succ, List.set_cons_zero, List.set_cons_succ, reduceCtorEq, false_and, and_false, exists_false, exists_const, or_false, false_or, scal_ii, scal_bb, scal_ss, List.length_cons, List.length_nil, Int.reduceToNat, Int.reducePow, n_fld, n_dnew, n_dput, n_din, n_dget, n_dget2, n_glst, n_sfld, n_aug, n_meth, n_mw, n_make, n_kw, n_rLs, t_s1, t_i1, t_i2, t_i3, t_i4, t_i5, x_chain3, x_irng3, x_irevR, x_rg1, x_rg2, ints_cat, ints_app1, ints_len, ints_take, ints_drop, rep_one])
local macro_rules | `(tactic| wtm_at "mem") => `(tactic| first | (with_reducible exact mem_here) | (with_reducible refine mem_there ?_; wtm_at "mem"))
local macro_rules | `(tactic| wtm_at "pp") => `(tactic| first | (with_reducible exact Put.here) | (with_reducible apply Put.there; wtm_at "pp"))
local macro_rules | `(tactic| wtm_at "ho") => `(tactic| first | (with_reducible assumption) | exact Own.get (by with_reducible assumption) (by wtm_at "mem") | exact Own.base (by with_reducible assumption) (by with_reducible assumption))
local macro_rules | `(tactic| wtm_at "qo") => `(tactic| first | (with_reducible assumption) | exact SqL.of (by wtm_at "ho") | exact sqT_tupI (by wtm_at "ho") | exact sqT_tupS (by wtm_at "ho") | exact SqT.of (by wtm_at "ho") | exact Own.imT (by with_reducible assumption) (by wtm_at "mem") | exact Own.sq (by with_reducible assumption) (by with_reducible assumption) | exact Own.sqT (by with_reducible assumption) (by with_reducible assumption))
local macro_rules | `(tactic| wtm_at "sub") => `(tactic| first | exact List.nil_sublist _ | (with_reducible refine List.Sublist.cons_cons _ ?_; wtm_at "sub") | (refine List.Sublist.cons _ ?_; wtm_at "sub"))
local macro_rules | `(tactic| wtm_at "co") => `(tactic| first | (with_reducible assumption) | omega | (exact cmul_r (by omega) (by omega)) | (exact cmul_l (by omega) (by omega)) | (exact cdiv_ok (by omega) (by omega)) | (exact cpow_ok (by decide)) | (exact ⟨by omega, by omega, by omega⟩) | decide | (exact ⟨by omega, by omega⟩) | (simp only [List.length_append, List.length_map, List.length_cons, List.length_nil, rngL_len, sizeLine_eq]; omega) | wtm_at "ho" | wtm_at "qo")
local macro_rules | `(tactic| wtm_at "so") => `(tactic| first | ((with_reducible refine g_dputO ?_); refine dputI (by with_reducible assumption) (by wtm_at "pp") (by wtm_at "co") (fun _ _ => ?_)) | ((with_reducible refine g_dinO ?_); refine dinI (by wtm_at "ho") ?_) | ((with_reducible refine g_isDO ?_); refine isDO (by wtm_at "ho") ?_) | ((with_reducible refine g_dg2 ?_); refine dg2I (by wtm_at "ho") ?_) | ((with_reducible refine g_fldO ?_); refine fldO (by wtm_at "ho") (by with_reducible assumption) (by wtm_at "mem") (by wtm_at "lk") ?_) | ((with_reducible refine g_fldC ?_); refine fldC (by wtm_at "ho") (by with_reducible assumption) (by wtm_at "mem") (by wtm_at "lk") ?_) | ((with_reducible refine g_putC ?_); refine putC (by with_reducible assumption) (by wtm_at "pp") (by wtm_at "pu") (by wtm_at "co") (fun _ _ => ?_)) | ((with_reducible refine g_stoO ?_); refine stoO (by with_reducible assumption) (by wtm_at "pp") (by wtm_at "pu") (by with_reducible assumption) (by wtm_at "mem") (by wtm_at "co") (fun _ _ => ?_)) | ((with_reducible refine g_metO ?_); refine metO (by wtm_at "ho") (by wtm_at "ln") ?_) | ((with_reducible refine g_makO ?_); refine makO (by with_reducible assumption) (fun _ _ _ _ => ?_)) | ((with_reducible refine g_sum ?_); refine sum_call (by wtm_at "qo") ?_) | ((with_reducible refine g_cq ?_); exact cq (by with_reducible assumption) (by simp only [rngL_len, List.length_map, List.length_take]; omega)) | ((with_reducible refine g_newO ?_); refine newO (by with_reducible assumption) (fun _ _ _ => ?_)) | ((with_reducible refine g_appO ?_); refine appI (by with_reducible assumption) (by wtm_at "pp") (by wtm_at "co") (fun _ _ => ?_)) | ((with_reducible refine g_setO ?_); refine setI (by with_reducible assumption) (by wtm_at "pp") (by omega) (by wtm_at "co") (fun _ _ => ?_)) | ((with_reducible refine g_appO ?_); refine appO (by with_reducible assumption) (by wtm_at "pp") (by wtm_at "co") (fun _ _ => ?_)) | ((with_reducible refine g_setO ?_); refine setO (by with_reducible assumption) (by wtm_at "pp") (by omega) (by wtm_at "co") (fun _ _ => ?_)) | ((with_reducible refine g_at ?_); refine at_call (by wtm_at "qo") (by omega) (by omega) (fun _ _ => ?_)) | ((with_reducible refine g_row ?_); refine row_call (by wtm_at "ho") ?_) | ((with_reducible refine g_int ?_); refine int_call ?_) | ((with_reducible refine g_isi ?_); first | (refine isi_int rfl ?_) | (refine isi_sqL rfl (by wtm_at "qo") ?_) | (refine isi_sqT rfl (by wtm_at "qo") ?_) | (refine isi_bl rfl ?_) | (refine isi_non rfl ?_) | (refine isi_str rfl ?_)) | ((with_reducible refine g_ned ?_); first | (refine ned_f (dq_lst (by wtm_at "qo")) (dq_lst (by wtm_at "qo")) ?_) | (refine ned_ints (by wtm_at "qo") (by wtm_at "qo") ?_) | (refine nedT_ints (by wtm_at "qo") (by wtm_at "qo") ?_)) | ((with_reducible refine g_eqd ?_); first | (refine eqd_t (dq_lst (by wtm_at "qo")) (dq_lst (by wtm_at "qo")) ?_) | (refine eqd_ints (by wtm_at "qo") (by wtm_at "qo") ?_) | (refine eqdT_ints (by wtm_at "qo") (by wtm_at "qo") ?_)) | ((with_reducible refine g_tyv ?_); refine and_tyv (by wtm_at "qo") ?_) | ((with_reducible refine g_asq ?_); refine and_sq (by wtm_at "qo") ?_) | ((with_reducible refine g_lst ?_); refine ex_lst (by wtm_at "ho") ?_) | ((with_reducible refine g_or ?_); first | (refine ex_or (by wtm_at "qo") ?_) | (refine ex_ort (by wtm_at "qo") ?_)) | ((with_reducible refine g_sq ?_); refine ex_sq (by wtm_at "qo") ?_) | ((with_reducible refine g_sqt ?_); refine ex_sqt (by wtm_at "qo") ?_) | ((with_reducible refine gd_sel ?_); first | (refine sel_p (by wtm_at "pf") ?_) | (refine sel_n (by wtm_at "pf") ?_)) | ((with_reducible refine gn_sel ?_); first | (refine selN_p (by wtm_at "pf") ?_) | (refine selN_n (by wtm_at "pf") ?_)) | ((with_reducible refine gd_selT ?_); first | (refine selT_p (by wtm_at "pf") ?_) | (refine selT_n (by wtm_at "pf") ?_)) | ((with_reducible refine gn_selT ?_); first | (refine selTN_p (by wtm_at "pf") ?_) | (refine selTN_n (by wtm_at "pf") ?_)) | ((with_reducible refine gd_selE ?_); first | (refine selE_p (by wtm_at "pf") ?_) | (refine selE_n (by wtm_at "pf") ?_)) | ((with_reducible refine gn_selE ?_); first | (refine selEN_p (by wtm_at "pf") ?_) | (refine selEN_n (by wtm_at "pf") ?_)) | ((with_reducible refine g_xf ?_); refine xf_at rfl (by wtm_at "ho") ?_) | ((with_reducible refine g_atI ?_); refine ex_at (by first | exact rfl | exact atI_int (by omega) (by wtm_at "pf")) ?_) | ((with_reducible refine g_and ?_); refine And.intro (by wtm_at "co") ?_))
local macro_rules | `(tactic| wtm_at "oo") => `(tactic| repeat (first | wtm_at "xo" | wtm_at "so"))
local macro_rules | `(tactic| wtm_at "cR") => `(tactic| (refine' compRi _ (by with_reducible assumption) (by omega) (fun _ _ _ _ _ => ?_) (fun _ _ _ => ?_); rotate_left; focus (wtm_at "oo")))

local macro_rules | `(tactic| wtm_at "lk") => `(tactic| first | (with_reducible exact lk_here) | (simp only [lk_here, lk_skip, lk_nil, nb_0_0, nb_0_1, nb_0_2, nb_0_3, nb_0_4, nb_0_5, nb_0_6, nb_1_0, nb_1_1, nb_1_2, nb_1_3, nb_1_4, nb_1_5, nb_1_6, nb_2_1, nb_2_2, nb_2_3, nb_2_4, nb_2_5, nb_2_6, nb_3_0, nb_3_2, nb_3_3, nb_3_4, nb_3_5, nb_3_6, nb_4_0, nb_4_1, nb_4_3, nb_4_4, nb_4_5, nb_4_6, nb_5_0, nb_5_1, nb_5_2, nb_5_4, nb_5_5, nb_5_6, nb_6_0, nb_6_1, nb_6_2, nb_6_3, nb_6_4, nb_6_5, nb_6_6, nb_7_0, nb_7_1, nb_7_2, nb_7_3, nb_7_5, nb_7_6, nb_8_0, nb_8_1, nb_8_2, nb_8_3, nb_8_4, nb_8_6, nb_9_0, nb_9_1, nb_9_2, nb_9_3, nb_9_4, nb_9_5, nb_10_0, nb_10_1, nb_10_2, nb_10_3, nb_10_4, nb_10_5, nb_10_6, nb_11_0, nb_11_1, nb_11_2, nb_11_3, nb_11_4, nb_11_5, nb_11_6, nb_12_0, nb_12_1, nb_12_2, nb_12_3, nb_12_4, nb_12_5, nb_12_6, nb_13_0, nb_13_1, nb_13_2, nb_13_3, nb_13_4, nb_13_5, nb_13_6, nb_14_0, nb_14_1, nb_14_2, nb_14_3, nb_14_4, nb_14_5, nb_14_6]; first | done | exact rfl))
local macro_rules | `(tactic| wtm_at "ln") => `(tactic| first | (with_reducible exact lk_nil) | (simp only [lk_skip, lk_nil, nb_0_0, nb_0_1, nb_0_2, nb_0_3, nb_0_4, nb_0_5, nb_0_6, nb_1_0, nb_1_1, nb_1_2, nb_1_3, nb_1_4, nb_1_5, nb_1_6, nb_2_1, nb_2_2, nb_2_3, nb_2_4, nb_2_5, nb_2_6, nb_3_0, nb_3_2, nb_3_3, nb_3_4, nb_3_5, nb_3_6, nb_4_0, nb_4_1, nb_4_3, nb_4_4, nb_4_5, nb_4_6, nb_5_0, nb_5_1, nb_5_2, nb_5_4, nb_5_5, nb_5_6, nb_6_0, nb_6_1, nb_6_2, nb_6_3, nb_6_4, nb_6_5, nb_6_6, nb_7_0, nb_7_1, nb_7_2, nb_7_3, nb_7_5, nb_7_6, nb_8_0, nb_8_1, nb_8_2, nb_8_3, nb_8_4, nb_8_6, nb_9_0, nb_9_1, nb_9_2, nb_9_3, nb_9_4, nb_9_5, nb_10_0, nb_10_1, nb_10_2, nb_10_3, nb_10_4, nb_10_5, nb_10_6, nb_11_0, nb_11_1, nb_11_2, nb_11_3, nb_11_4, nb_11_5, nb_11_6, nb_12_0, nb_12_1, nb_12_2, nb_12_3, nb_12_4, nb_12_5, nb_12_6, nb_13_0, nb_13_1, nb_13_2, nb_13_3, nb_13_4, nb_13_5, nb_13_6, nb_14_0, nb_14_1, nb_14_2, nb_14_3, nb_14_4, nb_14_5, nb_14_6]; done))
local macro_rules | `(tactic| wtm_at "pu") => `(tactic| first | (with_reducible exact pf_nil) | (simp only [pf_nil, pf_here, pf_skip, nb_0_0, nb_0_1, nb_0_2, nb_0_3, nb_0_4, nb_0_5, nb_0_6, nb_1_0, nb_1_1, nb_1_2, nb_1_3, nb_1_4, nb_1_5, nb_1_6, nb_2_1, nb_2_2, nb_2_3, nb_2_4, nb_2_5, nb_2_6, nb_3_0, nb_3_2, nb_3_3, nb_3_4, nb_3_5, nb_3_6, nb_4_0, nb_4_1, nb_4_3, nb_4_4, nb_4_5, nb_4_6, nb_5_0, nb_5_1, nb_5_2, nb_5_4, nb_5_5, nb_5_6, nb_6_0, nb_6_1, nb_6_2, nb_6_3, nb_6_4, nb_6_5, nb_6_6, nb_7_0, nb_7_1, nb_7_2, nb_7_3, nb_7_5, nb_7_6, nb_8_0, nb_8_1, nb_8_2, nb_8_3, nb_8_4, nb_8_6, nb_9_0, nb_9_1, nb_9_2, nb_9_3, nb_9_4, nb_9_5, nb_10_0, nb_10_1, nb_10_2, nb_10_3, nb_10_4, nb_10_5, nb_10_6, nb_11_0, nb_11_1, nb_11_2, nb_11_3, nb_11_4, nb_11_5, nb_11_6, nb_12_0, nb_12_1, nb_12_2, nb_12_3, nb_12_4, nb_12_5, nb_12_6, nb_13_0, nb_13_1, nb_13_2, nb_13_3, nb_13_4, nb_13_5, nb_13_6, nb_14_0, nb_14_1, nb_14_2, nb_14_3, nb_14_4, nb_14_5, nb_14_6]; first | done | exact rfl))
local macro_rules | `(tactic| wtm_at "tk") => `(tactic| first | (with_reducible exact Take.here) | (exact Take.here) | ((with_reducible apply Take.there); wtm_at "tk"))
local macro_rules | `(tactic| wtm_at "pk") => `(tactic| first | exact Pick.nil | ((with_reducible refine' Pick.cons ?tk1 ?pk1); (case tk1 => wtm_at "tk"); (case pk1 => wtm_at "pk")) | ((with_reducible refine Pick.im (by wtm_at "mem") ?_); wtm_at "pk") | ((with_reducible refine Pick.ims (by wtm_at "mem") ?_); wtm_at "pk"))
section
variable {P : Program} {w : World} {K : PySem.W.Frag} {mg : Str → Option Value} {base : Heap}
/-! ### reading a symbol: what the bits tell -/
def codeIs (ls : List Int) (S : Int) (w k : Nat) : Prop := ls.getD k 0 = (w : Int) ∧ codeOf ls k = revB S w
instance {ls : List Int} {S : Int} {w k : Nat} : Decidable (codeIs ls S w k) := inferInstanceAs (Decidable (_ ∧ _))
def goesOn (ls : List Int) (S : Int) (w k : Nat) : Prop := (w : Int) < ls.getD k 0 ∧ codeOf ls k / 2 ^ (ls.getD k 0 - w).toNat = revB S w
instance {ls : List Int} {S : Int} {w k : Nat} : Decidable (goesOn ls S w k) := inferInstanceAs (Decidable (_ ∧ _))
def symAt (ls : List Int) (S : Int) (w : Nat) : Option Nat := (List.range ls.length).find? fun k => decide (codeIs ls S w k)
def goTo (ls : List Int) (S : Int) (w j : Nat) : Bool := (List.range j).any fun k => decide (goesOn ls S w k)
inductive Res where
  | sym (k w : Nat)
  | cut
  | bad
def rdF (ls : List Int) (S : Int) (left : Nat) : Nat → Nat → Res
  | 0, _ => .bad
  | f + 1, w => if left < w then .cut else match symAt ls S w with
    | some k => .sym k w
    | none => if goTo ls S w ls.length = true then rdF ls S left f (w + 1) else .bad
def resOf (ls : List Int) (S : Int) (left : Nat) : Res := if wts ls = 0 then .bad else rdF ls S left 16 1
theorem rdF_cut {ls : List Int} {S : Int} {left f w : Nat} (h : left < w) : rdF ls S left (f + 1) w = .cut := if_pos h
theorem rdF_sym {ls : List Int} {S : Int} {left f w k : Nat} (h : ¬ left < w) (e : symAt ls S w = some k) : rdF ls S left (f + 1) w = .sym k w := by
  unfold rdF
  rw [if_neg h, e]
theorem rdF_bad {ls : List Int} {S : Int} {left f w : Nat} (h : ¬ left < w) (e : symAt ls S w = none) (g : goTo ls S w ls.length = false) : rdF ls S left (f + 1) w = .bad := by
  unfold rdF
  rw [if_neg h, e, g]
  rfl
theorem rdF_on {ls : List Int} {S : Int} {left f w : Nat} (h : ¬ left < w) (e : symAt ls S w = none) (g : goTo ls S w ls.length = true) : rdF ls S left (f + 1) w = rdF ls S left f (w + 1) := by
  conv => lhs; unfold rdF
  rw [if_neg h, e, g]
  rfl
theorem symAt_some {ls : List Int} {S : Int} {w k : Nat} (e : symAt ls S w = some k) : k < ls.length ∧ codeIs ls S w k := by
  unfold symAt at e
  have h1 := List.mem_of_find?_eq_some e
  have h2 := List.find?_some e
  exact ⟨List.mem_range.mp h1, of_decide_eq_true h2⟩
theorem symAt_none {ls : List Int} {S : Int} {w : Nat} : symAt ls S w = none ↔ ∀ k, k < ls.length → ¬ codeIs ls S w k := by
  unfold symAt
  rw [List.find?_eq_none]
  exact ⟨fun h k hk z => h k (List.mem_range.mpr hk) (decide_eq_true z), fun h k hk z => h k (List.mem_range.mp hk) (of_decide_eq_true z)⟩
theorem goTo_succ {ls : List Int} {S : Int} {w j : Nat} : goTo ls S w (j + 1) = (goTo ls S w j || decide (goesOn ls S w j)) := by
  unfold goTo
  rw [List.range_succ, List.any_append]
  simp
theorem goTo_iff {ls : List Int} {S : Int} {w j : Nat} : goTo ls S w j = true ↔ ∃ k, k < j ∧ goesOn ls S w k := by
  unfold goTo
  rw [List.any_eq_true]
  exact ⟨fun ⟨k, h, e⟩ => ⟨k, List.mem_range.mp h, of_decide_eq_true e⟩, fun ⟨k, h, e⟩ => ⟨k, List.mem_range.mpr h, decide_eq_true e⟩⟩
theorem revB_div (S : Int) (m : Nat) : ∀ j, revB S (m + j) / 2 ^ j = revB S m
  | 0 => Int.ediv_one _
  | j + 1 => by
    show (2 * revB S (m + j) + S / 2 ^ (m + j) % 2) / 2 ^ (j + 1) = _
    rw [Int.pow_succ, Int.mul_comm (2 ^ j) 2, ← Int.ediv_ediv_of_nonneg (by decide)]
    have e : (2 * revB S (m + j) + S / 2 ^ (m + j) % 2) / 2 = revB S (m + j) := by
      have h1 := Int.emod_nonneg (S / 2 ^ (m + j)) (show (2 : Int) ≠ 0 by decide)
      have h2 := Int.emod_lt_of_pos (S / 2 ^ (m + j)) (show (0 : Int) < 2 by decide)
      omega
    rw [e, revB_div S m j]
theorem up_div {b : Int} {i j : Nat} (h : j ≤ i) : b * 2 ^ i / 2 ^ j = b * 2 ^ (i - j) := by
  rw [show i = (i - j) + j by omega, Int.pow_add, ← Int.mul_assoc, Int.mul_ediv_cancel _ (Int.ne_of_gt pow2_pos), show i - j + j - j = i - j by omega]
theorem up_div2 {b : Int} {i j : Nat} (h : i ≤ j) : b * 2 ^ i / 2 ^ j = b / 2 ^ (j - i) := by
  rw [show j = i + (j - i) by omega, Int.pow_add, Int.mul_comm b, Int.mul_ediv_mul_of_pos _ _ pow2_pos, show i + (j - i) - i = j - i by omega]
theorem codeIs_hit {ls : List Int} {S : Int} {w k : Nat} (h0 : 0 < w) (h : codeIs ls S w k) : hit ls (revB S w * 2 ^ (15 - w)) k := by
  obtain ⟨e1, e2⟩ := h
  refine ⟨by omega, ?_⟩
  rw [e1, e2, show (15 - (w : Int)).toNat = 15 - w by omega, Int.mul_ediv_cancel _ (Int.ne_of_gt pow2_pos)]
theorem codeIs_one {ls : List Int} {S : Int} {w j k : Nat} (ok : okLen ls) (h0 : 0 < w) (hj : j < ls.length) (hk : k < ls.length) (h1 : codeIs ls S w j) (h2 : codeIs ls S w k) : j = k :=
  hit_one ok (Int.mul_nonneg (revB_lo S w).1 (Int.le_of_lt pow2_pos)) hj hk (codeIs_hit h0 h1) (codeIs_hit h0 h2)
theorem symAt_is {ls : List Int} {S : Int} {w k : Nat} (ok : okLen ls) (h0 : 0 < w) (hk : k < ls.length) (h : codeIs ls S w k) : symAt ls S w = some k := by
  cases e : symAt ls S w with
  | none => exact absurd h (symAt_none.mp e k hk)
  | some j =>
    obtain ⟨hj, h2⟩ := symAt_some e
    rw [codeIs_one ok h0 hk hj h h2]
theorem goTo_lt {ls : List Int} {S : Int} {w : Nat} (ok : okLen ls) (h : goTo ls S w ls.length = true) : w < 15 := by
  obtain ⟨k, hk, h1, _⟩ := goTo_iff.mp h
  have hm : ls.getD k 0 ∈ ls := by
    rw [List.getD_eq_getElem?_getD, List.getElem?_eq_getElem hk]
    exact List.getElem_mem hk
  have := ok.hi _ hm
  omega
theorem begins_iff {ls : List Int} {S : Int} {w : Nat} (ok : okLen ls) (hw15 : w ≤ 15) (no : ∀ v, 0 < v → v ≤ w → symAt ls S v = none) : revB S w * 2 ^ (15 - w) < wts ls ↔ goTo ls S w ls.length = true := by
  have hb : ∀ w, 0 ≤ revB S w := fun w => (revB_lo S w).1
  rw [goTo_iff]
  constructor
  · intro h
    have hh := hits_all (b := revB S w * 2 ^ (15 - w)) ok (Int.mul_nonneg (hb w) (Int.le_of_lt pow2_pos))
    rw [if_pos h] at hh
    unfold hits at hh
    obtain ⟨k, hk⟩ : ∃ k, k ∈ (List.range ls.length).filter (fun k => decide (hit ls (revB S w * 2 ^ (15 - w)) k)) := by
      generalize (List.range ls.length).filter (fun k => decide (hit ls (revB S w * 2 ^ (15 - w)) k)) = fs at hh
      match fs, hh with
      | x :: _, _ => exact ⟨x, .head _⟩
    obtain ⟨h1, h2⟩ := List.mem_filter.mp hk
    have hkl := List.mem_range.mp h1
    obtain ⟨l0, hc⟩ := of_decide_eq_true h2
    have hm : ls.getD k 0 ∈ ls := by
      rw [List.getD_eq_getElem?_getD, List.getElem?_eq_getElem hkl]
      exact List.getElem_mem hkl
    have l1 := ok.hi _ hm
    obtain ⟨n, en⟩ := Int.eq_ofNat_of_zero_le (Int.le_of_lt l0)
    have en : ls.getD k 0 = (n : Int) := en
    rw [en] at hc l0 l1
    rw [show (15 - (n : Int)).toNat = 15 - n by omega] at hc
    by_cases c : n ≤ w
    · rw [up_div2 (by omega), show 15 - n - (15 - w) = w - n by omega] at hc
      have e := revB_div S n (w - n)
      rw [show n + (w - n) = w by omega] at e
      rw [e] at hc
      exact absurd ⟨en, hc⟩ (symAt_none.mp (no n (by omega) c) k hkl)
    · rw [up_div (by omega), show 15 - w - (15 - n) = n - w by omega] at hc
      refine ⟨k, hkl, by omega, ?_⟩
      rw [en, hc, show ((n : Int) - w).toNat = n - w by omega, Int.mul_ediv_cancel _ (Int.ne_of_gt pow2_pos)]
  · rintro ⟨k, hkl, h1, h2⟩
    have hm : ls.getD k 0 ∈ ls := by
      rw [List.getD_eq_getElem?_getD, List.getElem?_eq_getElem hkl]
      exact List.getElem_mem hkl
    have l1 := ok.hi _ hm
    obtain ⟨n, en⟩ := Int.eq_ofNat_of_zero_le (show 0 ≤ ls.getD k 0 by omega)
    have en : ls.getD k 0 = (n : Int) := en
    rw [en] at h1 h2 l1
    rw [show ((n : Int) - w).toNat = n - w by omega] at h2
    have hp : (0 : Int) < 2 ^ (n - w) := pow2_pos
    have hle : revB S w * 2 ^ (n - w) ≤ codeOf ls k := by
      rw [← h2]
      exact Int.ediv_mul_le _ (Int.ne_of_gt hp)
    have hc0 : 0 ≤ codeOf ls k := Int.le_trans (Int.mul_nonneg (hb w) (Int.le_of_lt hp)) hle
    have hh : hit ls (codeOf ls k * 2 ^ (15 - n)) k := by
      refine ⟨by omega, ?_⟩
      rw [en, show (15 - (n : Int)).toNat = 15 - n by omega, Int.mul_ediv_cancel _ (Int.ne_of_gt pow2_pos)]
    have hall := hits_all (b := codeOf ls k * 2 ^ (15 - n)) ok (Int.mul_nonneg hc0 (Int.le_of_lt pow2_pos))
    have hlt : codeOf ls k * 2 ^ (15 - n) < wts ls := by
      apply Decidable.byContradiction
      intro z
      rw [if_neg z] at hall
      unfold hits at hall
      have hm : k ∈ (List.range ls.length).filter (fun j => decide (hit ls (codeOf ls k * 2 ^ (15 - n)) j)) := List.mem_filter.mpr ⟨List.mem_range.mpr hkl, decide_eq_true hh⟩
      rw [List.length_eq_zero_iff.mp hall] at hm
      cases hm
    refine Int.lt_of_le_of_lt ?_ hlt
    have := Int.mul_le_mul_of_nonneg_right hle (Int.le_of_lt (pow2_pos (i := 15 - n)))
    rw [Int.mul_assoc, ← Int.pow_add, show n - w + (15 - n) = 15 - w by omega] at this
    exact this
theorem key_one {w v : Nat} {b c : Int} (b0 : 0 ≤ b) (b1 : b < 2 ^ w) (c0 : 0 ≤ c) (c1 : c < 2 ^ v) (e : (2 : Int) ^ w + b = 2 ^ v + c) : w = v ∧ b = c := by
  have hwv : w = v := by
    apply Decidable.byContradiction
    intro n
    rcases Nat.lt_or_gt_of_ne n with h | h
    · have : (2 : Int) ^ (w + 1) ≤ 2 ^ v := pow2_le h
      rw [Int.pow_succ] at this
      omega
    · have : (2 : Int) ^ (v + 1) ≤ 2 ^ w := pow2_le h
      rw [Int.pow_succ] at this
      omega
  subst hwv
  exact ⟨rfl, by omega⟩
/-- what the dict has at a mark -/
theorem symK_get {ls : List Int} {S : Int} {w : Nat} (ok : okLen ls) (hf : wts ls ≤ 32768) (h0 : 0 < w) : ∀ n, n ≤ ls.length →
    valV (symK ls n) (.inl (2 ^ w + revB S w)) = ((List.range n).find? fun k => decide (codeIs ls S w k)).map fun k : Nat => V.int (k : Int)
  | 0, _ => rfl
  | n + 1, hn => by
    have ih := symK_get (S := S) ok hf h0 n (by omega)
    have hm : ls.getD n 0 ∈ ls := by
      rw [List.getD_eq_getElem?_getD, List.getElem?_eq_getElem (show n < ls.length by omega)]
      exact List.getElem_mem (show n < ls.length by omega)
    have l1 := ok.lo _ hm
    rw [symK_succ, List.range_succ, List.find?_append]
    have e1 : ([n].find? fun k => decide (codeIs ls S w k)) = if codeIs ls S w n then some n else none := by
      by_cases c : codeIs ls S w n
      · rw [if_pos c]
        simp [c]
      · rw [if_neg c]
        simp [c]
    rw [e1]
    by_cases c : codeIs ls S w n
    · have c2 : 0 < ls.getD n 0 := by
        have := c.1
        omega
      have em : markK ls n = .inl (2 ^ w + revB S w) := by
        unfold markK
        rw [c.1, c.2, Int.toNat_natCast]
      have en : ((List.range n).find? fun k => decide (codeIs ls S w k)) = none := by
        rw [List.find?_eq_none]
        intro k hk z
        have hk := List.mem_range.mp hk
        have := codeIs_one ok h0 (by omega) (by omega) (of_decide_eq_true z) c
        omega
      rw [if_pos c, if_pos c2, valV_put, em, if_pos rfl, en]
      rfl
    · rw [if_neg c, Option.or_none]
      split
      · rename_i c2
        rw [valV_put, if_neg, ih]
        intro z
        unfold markK at z
        obtain ⟨f0, f1, _⟩ := code_fits ok hf (show n < ls.length by omega) c2
        have hr := revB_lo S w
        have := key_one hr.1 hr.2 f0 f1 (Sum.inl.inj z)
        exact c ⟨by omega, this.2.symm⟩
      · exact ih
theorem symK_sym {ls : List Int} {S : Int} {w : Nat} (ok : okLen ls) (hf : wts ls ≤ 32768) (h0 : 0 < w) : valV (symK ls ls.length) (.inl (2 ^ w + revB S w)) = (symAt ls S w).map fun k : Nat => V.int (k : Int) := symK_get ok hf h0 _ (Nat.le_refl _)
theorem revB_low (S : Int) : ∀ {m w : Nat}, w ≤ m → revB (S % 2 ^ m) w = revB S w
  | _, 0, _ => rfl
  | m, w + 1, h => by
    show 2 * revB (S % 2 ^ m) w + S % 2 ^ m / 2 ^ w % 2 = 2 * revB S w + S / 2 ^ w % 2
    rw [revB_low S (show w ≤ m by omega)]
    congr 1
    have e : (2 : Int) ^ m = 2 ^ w * (2 * 2 ^ (m - w - 1)) := by
      rw [Int.mul_comm 2, ← Int.pow_succ, ← Int.pow_add]
      congr 1
      omega
    have h2 := Int.emod_add_mul_ediv S (2 ^ m)
    have h3 : S = S % 2 ^ m + 2 ^ w * ((2 * 2 ^ (m - w - 1)) * (S / 2 ^ m)) := by
      rw [← Int.mul_assoc, ← e]
      exact h2.symm
    conv => rhs; rw [h3]
    rw [Int.add_mul_ediv_left _ _ (Int.ne_of_gt pow2_pos), Int.mul_assoc]
    generalize S % 2 ^ m / 2 ^ w = x
    generalize 2 ^ (m - w - 1) * (S / 2 ^ m) = y
    omega
theorem wts_pos : ∀ {ls : List Int} {x : Int}, x ∈ ls → 0 < x → x ≤ 15 → 0 < wts ls
  | y :: r, x, m, h0, h1 => by
    have hr := wts_nonneg r
    have hy := wt_nonneg y
    have e : wts (y :: r) = wt y + wts r := by
      unfold wts
      rw [List.map_cons, List.sum_cons]
    rw [e]
    rcases List.mem_cons.mp m with e | m
    · have : 0 < wt x := by
        rw [wt_pow h0 h1]
        exact pow2_pos
      rw [e] at this
      omega
    · have := wts_pos m h0 h1
      omega
theorem wts_all0 : ∀ {ls : List Int}, (∀ x ∈ ls, x = 0) → wts ls = 0
  | [], _ => rfl
  | y :: r, h => by
    have e : wts (y :: r) = wt y + wts r := by
      unfold wts
      rw [List.map_cons, List.sum_cons]
    rw [e, wts_all0 (fun x m => h x (.tail _ m)), h y (.head _)]
    rfl


end
end K11

namespace K11
open PySem PySem.Spec PyProof.Rows L2 Bel
local macro_rules | `(tactic| wtm_at "xs") => `(tactic| simp only [x_next, x_seq, x_brk, x_cont, x_drop, x_ret, x_retN, x_if, sel_t, sel_f, selE_t, selE_f, selT_t, selT_f, selC_t, selC_f, x_test, x_tB, x_op, x_un, x_var, x_c, x_cb, x_nil, x_cons, x_rI, x_rI0, x_rU, x_rEq, x_rNe, x_rIxL, x_rIxT, x_rSlL, x_rCat, x_rRep, x_rApp, x_bm, x_bm0, x_sl, x_nopart, x_part, x_tup, x_lst, x_call, x_callS, x_asg, x_gname, x_gtup, x_gnil, x_gcons, x_gsub, x_setL, x_aug, x_ipI, x_ipC, x_bits, x_getL, x_augS, x_and, x_or, x_not, x_k, x_andV, x_orV, x_notV, x_ife, x_chain, x_for, x_ilist, x_itup, x_ienum, x_irng1, x_irng2, x_irev, x_lc, x_yes, wipe_nil, wipe_cons, List.map_cons, List.map_nil, x_misc, x_misc2, x_rz, lookup_at, Bool.not_true, Bool.not_false, decide_true, decide_false, not_true, not_false_eq_true, and_assoc, exists_and_left, exists_eq_left', exists_eq_left, exists_eq', exists_eq_right', exists_eq_right, V.int.injEq, V.ref.injEq, V.bl.injEq, V.str.injEq, List.cons.injEq, and_true, true_and, and_self, Option.some.injEq, List.cons_append, List.nil_append, List.append_nil, List.getElem?_cons_zero, List.getElem?_cons_succ, List.set_cons_zero, List.set_cons_succ, reduceCtorEq, false_and, and_false, exists_false, exists_const, or_false, false_or, scal_ii, scal_bb, scal_ss, List.length_cons, List.length_nil, Int.reduceToNat, Int.reducePow])
local macro_rules | `(tactic| k_call_by "xs" $h:term) => `(tactic| simp only [$h:term, x_next, x_seq, x_brk, x_cont, x_drop, x_ret, x_retN, x_if, sel_t, sel_f, selE_t, selE_f, selT_t, selT_f, selC_t, selC_f, x_test, x_tB, x_op, x_un, x_var, x_c, x_cb, x_nil, x_cons, x_rI, x_rI0, x_rU, x_rEq, x_rNe, x_rIxL, x_rIxT, x_rSlL, x_rCat, x_rRep, x_rApp, x_bm, x_bm0, x_sl, x_nopart, x_part, x_tup, x_lst, x_call, x_callS, x_asg, x_gname, x_gtup, x_gnil, x_gcons, x_gsub, x_setL, x_aug, x_ipI, x_ipC, x_bits, x_getL, x_augS, x_and, x_or, x_not, x_k, x_andV, x_orV, x_notV, x_ife, x_chain, x_for, x_ilist, x_itup, x_ienum, x_irng1, x_irng2, x_irev, x_lc, x_yes, wipe_nil, wipe_cons, List.map_cons, List.map_nil, x_misc, x_misc2, x_rz, lookup_at, Bool.not_true, Bool.not_false, decide_true, decide_false, not_true, not_false_eq_true, and_assoc, exists_and_left, exists_eq_left', exists_eq_left, exists_eq', exists_eq_right', exists_eq_right, V.int.injEq, V.ref.injEq, V.bl.injEq, V.str.injEq, List.cons.injEq, and_true, true_and, and_self, Option.some.injEq, List.cons_append, List.nil_append, List.append_nil, List.getElem?_cons_zero, List.getElem?_cons_succ, List.set_cons_zero, List.set_cons_succ, reduceCtorEq, false_and, and_false, exists_false, exists_const, or_false, false_or, scal_ii, scal_bb, scal_ss, List.length_cons, List.length_nil, Int.reduceToNat, Int.reducePow])
local macro_rules | `(tactic| wtm_at "hp") => `(tactic| first | (with_reducible assumption) | exact upd_same | (refine upd_keep (by with_reducible assumption) ?_; wtm_at "hp") | (refine Same.get (by with_reducible assumption) ?_; wtm_at "hp") | (refine upd_other (by first | (with_reducible assumption) | exact Ne.symm (by with_reducible assumption)) ?_; wtm_at "hp"))
local macro_rules | `(tactic| wtm_at "sq") => `(tactic| first | (with_reducible assumption) | exact SqL.of (by wtm_at "hp") | exact SqT.of (by wtm_at "hp") | (refine Same.seq (same_upd (by with_reducible assumption)) ?_; wtm_at "sq") | (refine Same.seq (by with_reducible assumption) ?_; wtm_at "sq") | (refine Same.seqT (same_upd (by with_reducible assumption)) ?_; wtm_at "sq") | (refine Same.seqT (by with_reducible assumption) ?_; wtm_at "sq"))
local macro_rules | `(tactic| wtm_at "cl") => `(tactic| first | (with_reducible assumption) | omega | (exact cmul_r (by omega) (by omega)) | (exact cmul_l (by omega) (by omega)) | (exact cdiv_ok (by omega) (by omega)) | (exact cpow_ok (by decide)) | (exact ⟨by omega, by omega, by omega⟩) | decide | (exact ⟨by omega, by omega⟩) | (simp only [List.length_append, List.length_map, List.length_cons, List.length_nil, rngL_len, sizeLine_eq]; omega) | wtm_at "hp" | wtm_at "sq")
local macro_rules | `(tactic| wtm_at "pf") => `(tactic| first | (with_reducible assumption) | omega | (simp only [List.length_append, List.length_map, List.length_cons, List.length_nil, rngL_len]; omega) | (with_reducible rfl) | (with_reducible trivial) | (with_reducible decide))
local macro_rules | `(tactic| wtm_at "st") => `(tactic| first | ((with_reducible refine g_at ?_); refine at_call (by wtm_at "sq") (by omega) (by omega) (fun _ _ => ?_)) | ((with_reducible refine g_row ?_); refine row_call (by wtm_at "hp") ?_) | ((with_reducible refine g_int ?_); refine int_call ?_) | ((with_reducible refine g_isi ?_); first | (refine isi_int rfl ?_) | (refine isi_lst rfl (by wtm_at "hp") ?_) | (refine isi_tup rfl (by wtm_at "hp") ?_)) | ((with_reducible refine g_ned ?_); refine ned_f (dq_lst (by wtm_at "sq")) (dq_lst (by wtm_at "sq")) ?_) | ((with_reducible refine g_eqd ?_); refine eqd_t (dq_lst (by wtm_at "sq")) (dq_lst (by wtm_at "sq")) ?_) | ((with_reducible refine g_tyv ?_); refine and_tyv (by wtm_at "sq") ?_) | ((with_reducible refine g_asq ?_); refine and_sq (by wtm_at "sq") ?_) | ((with_reducible refine g_lst ?_); refine ex_lst (by wtm_at "hp") ?_) | ((with_reducible refine g_or ?_); first | (refine ex_or (by wtm_at "sq") ?_) | (refine ex_ort (by wtm_at "sq") ?_)) | ((with_reducible refine g_sq ?_); refine ex_sq (by wtm_at "sq") ?_) | ((with_reducible refine g_sqt ?_); refine ex_sqt (by wtm_at "sq") ?_) | ((with_reducible refine gd_sel ?_); first | (refine sel_p (by wtm_at "pf") ?_) | (refine sel_n (by wtm_at "pf") ?_)) | ((with_reducible refine gn_sel ?_); first | (refine selN_p (by wtm_at "pf") ?_) | (refine selN_n (by wtm_at "pf") ?_)) | ((with_reducible refine gd_selT ?_); first | (refine selT_p (by wtm_at "pf") ?_) | (refine selT_n (by wtm_at "pf") ?_)) | ((with_reducible refine gn_selT ?_); first | (refine selTN_p (by wtm_at "pf") ?_) | (refine selTN_n (by wtm_at "pf") ?_)) | ((with_reducible refine gd_selE ?_); first | (refine selE_p (by wtm_at "pf") ?_) | (refine selE_n (by wtm_at "pf") ?_)) | ((with_reducible refine gn_selE ?_); first | (refine selEN_p (by wtm_at "pf") ?_) | (refine selEN_n (by wtm_at "pf") ?_)) | ((with_reducible refine g_xf ?_); refine xf_at rfl (by wtm_at "hp") ?_) | ((with_reducible refine g_atI ?_); refine ex_at (by first | exact rfl | exact atI_int (by omega) (by wtm_at "pf")) ?_) | ((with_reducible refine g_and ?_); refine And.intro (by wtm_at "cl") ?_) | ((with_reducible refine g_new ?_); intro _ _))
local macro_rules | `(tactic| wtm_at "go") => `(tactic| repeat (first | wtm_at "xs" | wtm_at "st"))
local macro_rules | `(tactic| wtm_at "xo") => `(tactic| simp only [x_next, x_seq, x_brk, x_cont, x_drop, x_ret, x_retN, x_if, sel_t, sel_f, selE_t, selE_f, selT_t, selT_f, selC_t, selC_f, x_test, x_tB, x_op, x_un, x_var, x_c, x_cb, x_nil, x_cons, x_rI, x_rI0, x_rU, x_rEq, x_rNe, x_rIxL, x_rIxT, n_rSlL, n_rCat, n_rRep, n_rApp, x_bm, x_bm0, x_sl, x_nopart, x_part, n_tup, n_lst, x_call, x_callS, x_asg, x_gname, x_gtup, x_gnil, x_gcons, x_gsub, n_setL, x_aug, x_ipI, x_ipC, x_bits, x_getL, x_augS, x_and, x_or, x_not, x_k, x_andV, x_orV, x_notV, x_ife, x_chain, x_for, x_ilist, x_itup, x_ienum, x_irng1, x_irng2, x_irev, x_lc, x_yes, wipe_nil, wipe_cons, List.map_cons, List.map_nil, x_misc, x_misc2, x_rz, lookup_at, Bool.not_true, Bool.not_false, decide_true, decide_false, not_true, not_false_eq_true, and_assoc, exists_and_left, exists_eq_left', exists_eq_left, exists_eq', exists_eq_right', exists_eq_right, V.int.injEq, V.ref.injEq, V.bl.injEq, V.str.injEq, List.cons.injEq, and_true, true_and, and_self, Option.some.injEq, List.cons_append, List.nil_append, List.append_nil, List.getElem?_cons_zero, List.getElem?_cons_succ, List.set_cons_zero, List.set_cons_succ, reduceCtorEq, false_and, and_false, exists_false, exists_const, or_false, false_or, scal_ii, scal_bb, scal_ss, List.length_cons, List.length_nil, Int.reduceToNat, Int.reducePow, n_fld, n_dnew, n_dput, n_din, n_dget, n_dget2, n_glst, n_sfld, n_aug, n_meth, n_mw, n_make, n_kw, n_rLs, t_s1, t_i1, t_i2, t_i3, t_i4, t_i5, x_chain3, x_irng3, x_irevR, x_rg1, x_rg2, ints_cat, ints_app1, ints_len, ints_take, ints_drop, rep_one])
local macro_rules | `(tactic| k_call_by "xo" $h:term) => `(tactic| simp only [$h:term, x_next, x_seq, x_brk, x_cont, x_drop, x_ret, x_retN, x_if, sel_t, sel_f, selE_t, selE_f, selT_t, selT_f, selC_t, selC_f, x_test, x_tB, x_op, x_un, x_var, x_c, x_cb, x_nil, x_cons, x_rI, x_rI0, x_rU, x_rEq, x_rNe, x_rIxL, x_rIxT, n_rSlL, n_rCat, n_rRep, n_rApp, x_bm, x_bm0, x_sl, x_nopart, x_part, n_tup, n_lst, x_call, x_callS, x_asg, x_gname, x_gtup, x_gnil, x_gcons, x_gsub, n_setL, x_aug, x_ipI, x_ipC, x_bits, x_getL, x_augS, x_and, x_or, x_not, x_k, x_andV, x_orV, x_notV, x_ife, x_chain, x_for, x_ilist, x_itup, x_ienum, x_irng1, x_irng2, x_irev, x_lc, x_yes, wipe_nil, wipe_cons, List.map_cons, List.map_nil, x_misc, x_misc2, x_rz, lookup_at, Bool.not_true, Bool.not_false, decide_true, decide_false, not_true, not_false_eq_true, and_assoc, exists_and_left, exists_eq_left', exists_eq_left, exists_eq', exists_eq_right', exists_eq_right, V.int.injEq, V.ref.injEq, V.bl.injEq, V.str.injEq, List.cons.injEq, and_true, true_and, and_self, Option.some.injEq, List.cons_append, List.nil_append, List.append_nil, List.getElem?_cons_zero, List.getElem?_cons_succ, List.set_cons_zero, List.set_cons_succ, reduceCtorEq, false_and, and_false, exists_false, exists_const, or_false, false_or, scal_ii, scal_bb, scal_ss, List.length_cons, List.length_nil, Int.reduceToNat, Int.reducePow, n_fld, n_dnew, n_dput, n_din, n_dget, n_dget2, n_glst, n_sfld, n_aug, n_meth, n_mw, n_make, n_kw, n_rLs, t_s1, t_i1, t_i2, t_i3, t_i4, t_i5, x_chain3, x_irng3, x_irevR, x_rg1, x_rg2, ints_cat, ints_app1, ints_len, ints_take, ints_drop, rep_one])
local macro_rules | `(tactic| wtm_at "mem") => `(tactic| first | (with_reducible exact mem_here) | (with_reducible refine mem_there ?_; wtm_at "mem"))
local macro_rules | `(tactic| wtm_at "pp") => `(tactic| first | (with_reducible exact Put.here) | (with_reducible apply Put.there; wtm_at "pp"))
local macro_rules | `(tactic| wtm_at "ho") => `(tactic| first | (with_reducible assumption) | exact Own.get (by with_reducible assumption) (by wtm_at "mem") | exact Own.base (by with_reducible assumption) (by with_reducible assumption))
local macro_rules | `(tactic| wtm_at "qo") => `(tactic| first | (with_reducible assumption) | exact SqL.of (by wtm_at "ho") | exact sqT_tupI (by wtm_at "ho") | exact sqT_tupS (by wtm_at "ho") | exact SqT.of (by wtm_at "ho") | exact Own.imT (by with_reducible assumption) (by wtm_at "mem") | exact Own.sq (by with_reducible assumption) (by with_reducible assumption) | exact Own.sqT (by with_reducible assumption) (by with_reducible assumption))
local macro_rules | `(tactic| wtm_at "sub") => `(tactic| first | exact List.nil_sublist _ | (with_reducible refine List.Sublist.cons_cons _ ?_; wtm_at "sub") | (refine List.Sublist.cons _ ?_; wtm_at "sub"))
local macro_rules | `(tactic| wtm_at "co") => `(tactic| first | (with_reducible assumption) | omega | (exact cmul_r (by omega) (by omega)) | (exact cmul_l (by omega) (by omega)) | (exact cdiv_ok (by omega) (by omega)) | (exact cpow_ok (by decide)) | (exact ⟨by omega, by omega, by omega⟩) | decide | (exact ⟨by omega, by omega⟩) | (simp only [List.length_append, List.length_map, List.length_cons, List.length_nil, rngL_len, sizeLine_eq]; omega) | wtm_at "ho" | wtm_at "qo")
local macro_rules | `(tactic| wtm_at "so") => `(tactic| first | ((with_reducible refine g_dputO ?_); refine dputI (by with_reducible assumption) (by wtm_at "pp") (by wtm_at "co") (fun _ _ => ?_)) | ((with_reducible refine g_dinO ?_); refine dinI (by wtm_at "ho") ?_) | ((with_reducible refine g_isDO ?_); refine isDO (by wtm_at "ho") ?_) | ((with_reducible refine g_dg2 ?_); refine dg2I (by wtm_at "ho") ?_) | ((with_reducible refine g_fldO ?_); refine fldO (by wtm_at "ho") (by with_reducible assumption) (by wtm_at "mem") (by wtm_at "lk") ?_) | ((with_reducible refine g_fldC ?_); refine fldC (by wtm_at "ho") (by with_reducible assumption) (by wtm_at "mem") (by wtm_at "lk") ?_) | ((with_reducible refine g_putC ?_); refine putC (by with_reducible assumption) (by wtm_at "pp") (by wtm_at "pu") (by wtm_at "co") (fun _ _ => ?_)) | ((with_reducible refine g_stoO ?_); refine stoO (by with_reducible assumption) (by wtm_at "pp") (by wtm_at "pu") (by with_reducible assumption) (by wtm_at "mem") (by wtm_at "co") (fun _ _ => ?_)) | ((with_reducible refine g_metO ?_); refine metO (by wtm_at "ho") (by wtm_at "ln") ?_) | ((with_reducible refine g_makO ?_); refine makO (by with_reducible assumption) (fun _ _ _ _ => ?_)) | ((with_reducible refine g_sum ?_); refine sum_call (by wtm_at "qo") ?_) | ((with_reducible refine g_cq ?_); exact cq (by with_reducible assumption) (by simp only [rngL_len, List.length_map, List.length_take]; omega)) | ((with_reducible refine g_newO ?_); refine newO (by with_reducible assumption) (fun _ _ _ => ?_)) | ((with_reducible refine g_appO ?_); refine appI (by with_reducible assumption) (by wtm_at "pp") (by wtm_at "co") (fun _ _ => ?_)) | ((with_reducible refine g_setO ?_); refine setI (by with_reducible assumption) (by wtm_at "pp") (by omega) (by wtm_at "co") (fun _ _ => ?_)) | ((with_reducible refine g_appO ?_); refine appO (by with_reducible assumption) (by wtm_at "pp") (by wtm_at "co") (fun _ _ => ?_)) | ((with_reducible refine g_setO ?_); refine setO (by with_reducible assumption) (by wtm_at "pp") (by omega) (by wtm_at "co") (fun _ _ => ?_)) | ((with_reducible refine g_at ?_); refine at_call (by wtm_at "qo") (by omega) (by omega) (fun _ _ => ?_)) | ((with_reducible refine g_row ?_); refine row_call (by wtm_at "ho") ?_) | ((with_reducible refine g_int ?_); refine int_call ?_) | ((with_reducible refine g_isi ?_); first | (refine isi_int rfl ?_) | (refine isi_sqL rfl (by wtm_at "qo") ?_) | (refine isi_sqT rfl (by wtm_at "qo") ?_) | (refine isi_bl rfl ?_) | (refine isi_non rfl ?_) | (refine isi_str rfl ?_)) | ((with_reducible refine g_ned ?_); first | (refine ned_f (dq_lst (by wtm_at "qo")) (dq_lst (by wtm_at "qo")) ?_) | (refine ned_ints (by wtm_at "qo") (by wtm_at "qo") ?_) | (refine nedT_ints (by wtm_at "qo") (by wtm_at "qo") ?_)) | ((with_reducible refine g_eqd ?_); first | (refine eqd_t (dq_lst (by wtm_at "qo")) (dq_lst (by wtm_at "qo")) ?_) | (refine eqd_ints (by wtm_at "qo") (by wtm_at "qo") ?_) | (refine eqdT_ints (by wtm_at "qo") (by wtm_at "qo") ?_)) | ((with_reducible refine g_tyv ?_); refine and_tyv (by wtm_at "qo") ?_) | ((with_reducible refine g_asq ?_); refine and_sq (by wtm_at "qo") ?_) | ((with_reducible refine g_lst ?_); refine ex_lst (by wtm_at "ho") ?_) | ((with_reducible refine g_or ?_); first | (refine ex_or (by wtm_at "qo") ?_) | (refine ex_ort (by wtm_at "qo") ?_)) | ((with_reducible refine g_sq ?_); refine ex_sq (by wtm_at "qo") ?_) | ((with_reducible refine g_sqt ?_); refine ex_sqt (by wtm_at "qo") ?_) | ((with_reducible refine gd_sel ?_); first | (refine sel_p (by wtm_at "pf") ?_) | (refine sel_n (by wtm_at "pf") ?_)) | ((with_reducible refine gn_sel ?_); first | (refine selN_p (by wtm_at "pf") ?_) | (refine selN_n (by wtm_at "pf") ?_)) | ((with_reducible refine gd_selT ?_); first | (refine selT_p (by wtm_at "pf") ?_) | (refine selT_n (by wtm_at "pf") ?_)) | ((with_reducible refine gn_selT ?_); first | (refine selTN_p (by wtm_at "pf") ?_) | (refine selTN_n (by wtm_at "pf") ?_)) | ((with_reducible refine gd_selE ?_); first | (refine selE_p (by wtm_at "pf") ?_) | (refine selE_n (by wtm_at "pf") ?_)) | ((with_reducible refine gn_selE ?_); first | (refine selEN_p (by wtm_at "pf") ?_) | (refine selEN_n (by wtm_at "pf") ?_)) | ((with_reducible refine g_xf ?_); refine xf_at rfl (by wtm_at "ho") ?_) | ((with_reducible refine g_atI ?_); refine ex_at (by first | exact rfl | exact atI_int (by omega) (by wtm_at "pf")) ?_) | ((with_reducible refine g_and ?_); refine And.intro (by wtm_at "co") ?_))
local macro_rules | `(tactic| wtm_at "oo") => `(tactic| repeat (first | wtm_at "xo" | wtm_at "so"))
local macro_rules | `(tactic| wtm_at "cR") => `(tactic| (refine' compRi _ (by with_reducible assumption) (by omega) (fun _ _ _ _ _ => ?_) (fun _ _ _ => ?_); rotate_left; focus (wtm_at "oo")))

local macro_rules | `(tactic| wtm_at "lk") => `(tactic| first | (with_reducible exact lk_here) | (simp only [lk_here, lk_skip, lk_nil, nb_0_0, nb_0_1, nb_0_2, nb_0_3, nb_0_4, nb_0_5, nb_0_6, nb_1_0, nb_1_1, nb_1_2, nb_1_3, nb_1_4, nb_1_5, nb_1_6, nb_2_1, nb_2_2, nb_2_3, nb_2_4, nb_2_5, nb_2_6, nb_3_0, nb_3_2, nb_3_3, nb_3_4, nb_3_5, nb_3_6, nb_4_0, nb_4_1, nb_4_3, nb_4_4, nb_4_5, nb_4_6, nb_5_0, nb_5_1, nb_5_2, nb_5_4, nb_5_5, nb_5_6, nb_6_0, nb_6_1, nb_6_2, nb_6_3, nb_6_4, nb_6_5, nb_6_6, nb_7_0, nb_7_1, nb_7_2, nb_7_3, nb_7_5, nb_7_6, nb_8_0, nb_8_1, nb_8_2, nb_8_3, nb_8_4, nb_8_6, nb_9_0, nb_9_1, nb_9_2, nb_9_3, nb_9_4, nb_9_5, nb_10_0, nb_10_1, nb_10_2, nb_10_3, nb_10_4, nb_10_5, nb_10_6, nb_11_0, nb_11_1, nb_11_2, nb_11_3, nb_11_4, nb_11_5, nb_11_6, nb_12_0, nb_12_1, nb_12_2, nb_12_3, nb_12_4, nb_12_5, nb_12_6, nb_13_0, nb_13_1, nb_13_2, nb_13_3, nb_13_4, nb_13_5, nb_13_6, nb_14_0, nb_14_1, nb_14_2, nb_14_3, nb_14_4, nb_14_5, nb_14_6]; first | done | exact rfl))
local macro_rules | `(tactic| wtm_at "ln") => `(tactic| first | (with_reducible exact lk_nil) | (simp only [lk_skip, lk_nil, nb_0_0, nb_0_1, nb_0_2, nb_0_3, nb_0_4, nb_0_5, nb_0_6, nb_1_0, nb_1_1, nb_1_2, nb_1_3, nb_1_4, nb_1_5, nb_1_6, nb_2_1, nb_2_2, nb_2_3, nb_2_4, nb_2_5, nb_2_6, nb_3_0, nb_3_2, nb_3_3, nb_3_4, nb_3_5, nb_3_6, nb_4_0, nb_4_1, nb_4_3, nb_4_4, nb_4_5, nb_4_6, nb_5_0, nb_5_1, nb_5_2, nb_5_4, nb_5_5, nb_5_6, nb_6_0, nb_6_1, nb_6_2, nb_6_3, nb_6_4, nb_6_5, nb_6_6, nb_7_0, nb_7_1, nb_7_2, nb_7_3, nb_7_5, nb_7_6, nb_8_0, nb_8_1, nb_8_2, nb_8_3, nb_8_4, nb_8_6, nb_9_0, nb_9_1, nb_9_2, nb_9_3, nb_9_4, nb_9_5, nb_10_0, nb_10_1, nb_10_2, nb_10_3, nb_10_4, nb_10_5, nb_10_6, nb_11_0, nb_11_1, nb_11_2, nb_11_3, nb_11_4, nb_11_5, nb_11_6, nb_12_0, nb_12_1, nb_12_2, nb_12_3, nb_12_4, nb_12_5, nb_12_6, nb_13_0, nb_13_1, nb_13_2, nb_13_3, nb_13_4, nb_13_5, nb_13_6, nb_14_0, nb_14_1, nb_14_2, nb_14_3, nb_14_4, nb_14_5, nb_14_6]; done))
local macro_rules | `(tactic| wtm_at "pu") => `(tactic| first | (with_reducible exact pf_nil) | (simp only [pf_nil, pf_here, pf_skip, nb_0_0, nb_0_1, nb_0_2, nb_0_3, nb_0_4, nb_0_5, nb_0_6, nb_1_0, nb_1_1, nb_1_2, nb_1_3, nb_1_4, nb_1_5, nb_1_6, nb_2_1, nb_2_2, nb_2_3, nb_2_4, nb_2_5, nb_2_6, nb_3_0, nb_3_2, nb_3_3, nb_3_4, nb_3_5, nb_3_6, nb_4_0, nb_4_1, nb_4_3, nb_4_4, nb_4_5, nb_4_6, nb_5_0, nb_5_1, nb_5_2, nb_5_4, nb_5_5, nb_5_6, nb_6_0, nb_6_1, nb_6_2, nb_6_3, nb_6_4, nb_6_5, nb_6_6, nb_7_0, nb_7_1, nb_7_2, nb_7_3, nb_7_5, nb_7_6, nb_8_0, nb_8_1, nb_8_2, nb_8_3, nb_8_4, nb_8_6, nb_9_0, nb_9_1, nb_9_2, nb_9_3, nb_9_4, nb_9_5, nb_10_0, nb_10_1, nb_10_2, nb_10_3, nb_10_4, nb_10_5, nb_10_6, nb_11_0, nb_11_1, nb_11_2, nb_11_3, nb_11_4, nb_11_5, nb_11_6, nb_12_0, nb_12_1, nb_12_2, nb_12_3, nb_12_4, nb_12_5, nb_12_6, nb_13_0, nb_13_1, nb_13_2, nb_13_3, nb_13_4, nb_13_5, nb_13_6, nb_14_0, nb_14_1, nb_14_2, nb_14_3, nb_14_4, nb_14_5, nb_14_6]; first | done | exact rfl))
local macro_rules | `(tactic| wtm_at "tk") => `(tactic| first | (with_reducible exact Take.here) | (exact Take.here) | ((with_reducible apply Take.there); wtm_at "tk"))
local macro_rules | `(tactic| wtm_at "pk") => `(tactic| first | exact Pick.nil | ((with_reducible refine' Pick.cons ?tk1 ?pk1); (case tk1 => wtm_at "tk"); (case pk1 => wtm_at "pk")) | ((with_reducible refine Pick.im (by wtm_at "mem") ?_); wtm_at "pk") | ((with_reducible refine Pick.ims (by wtm_at "mem") ?_); wtm_at "pk"))
section
variable {P : Program} {w : World} {K : PySem.W.Frag} {mg : Str → Option Value} {base : Heap}
def sp_Book__begins_code (K : PySem.W.Frag) : Sp := fun vs H Q _ => ∃ (p dx c l d : Addr) (w m : Int) (j : Int), vs = [.ref p, .int m, .int j] ∧ H p = some (bC K dx c l w d) ∧ 0 ≤ j ∧ j ≤ 15 ∧ 0 ≤ m ∧ m < 65536 ∧ Q (.bl (decide (m * 2 ^ (15 - j).toNat - 32768 < w))) H
theorem ok_Book__begins_code (T : Tx K mg) : Mth P w K base mg 1 "Book" "_begins_code" ["self", "mark", "width"] (sp_Book__begins_code K) [] := by
  obtain ⟨fd, F⟩ := T.d_Book__begins_code
  refine ⟨fd, [], F.ok sc_Book__begins_code (fun vs H Q E h => ?_) (fun cdv A outer s H vs Q E hr h => ⟨_, (PSs.nox (pss_one (ps_ret (by exact (pe_cmpR op_lt (pe_op op_sub (pe_op op_shl (pv 1) (pe_op op_sub (pe_gc rfl T.c_MOST_BITS) (pv 2))) (pe_gc rfl T.c_FULL_WEIGHT)) (pe_fld (pv 0) rfl) (nomark _)))))), ?_⟩), T.m_Book__begins_code, T.c_Book.cl, F.bindsN (fun _ _ _ _ _ _ us hl => match us, hl with | [_, _, _], _ => rfl), .nil⟩
  · first | (obtain ⟨rfl, _⟩ := h; rfl) | (obtain ⟨_, rfl, _⟩ := h; rfl) | (obtain ⟨_, _, rfl, _⟩ := h; rfl) | (obtain ⟨_, _, _, rfl, _⟩ := h; rfl) | (obtain ⟨_, _, _, _, rfl, _⟩ := h; rfl) | (obtain ⟨_, _, _, _, _, rfl, _⟩ := h; rfl) | (obtain ⟨_, _, _, _, _, _, rfl, _⟩ := h; rfl) | (obtain ⟨_, _, _, _, _, _, _, rfl, _⟩ := h; rfl) | (obtain ⟨_, _, _, _, _, _, _, _, rfl, _⟩ := h; rfl) | (obtain ⟨_, _, _, _, _, _, _, _, _, rfl, _⟩ := h; rfl) | (obtain ⟨_, _, _, _, _, _, _, _, _, _, rfl, _⟩ := h; rfl) | (obtain ⟨_, _, _, _, _, _, _, _, _, _, _, rfl, _⟩ := h; rfl) | (obtain ⟨_, _, _, _, _, _, _, _, _, _, _, _, rfl, _⟩ := h; rfl) | (obtain ⟨_, _, _, _, _, _, _, _, _, _, _, _, _, rfl, _⟩ := h; rfl) | (obtain ⟨_, _, _, _, _, _, _, _, _, _, _, _, _, _, rfl, _⟩ := h; rfl) | (obtain ⟨_, _, _, _, _, _, _, _, _, _, _, _, _, _, _, rfl, _⟩ := h; rfl) | (obtain ⟨_, _, _, _, _, _, _, _, _, _, _, _, _, _, _, _, rfl, _⟩ := h; rfl) | (obtain ⟨_, _, _, _, _, _, _, _, _, _, _, _, _, _, _, _, _, rfl, _⟩ := h; rfl) | (obtain ⟨_, _, _, _, _, _, _, _, _, _, _, _, _, _, _, _, _, _, rfl, _⟩ := h; rfl) | (obtain ⟨_, _, _, _, _, _, _, _, _, _, _, _, _, _, _, _, _, _, _, rfl, _⟩ := h; rfl) | (obtain ⟨_, _, _, _, _, _, _, _, _, _, _, _, _, _, _, _, _, _, _, _, rfl, _⟩ := h; rfl) | (obtain ⟨_, _, _, _, _, _, _, _, _, _, _, _, _, _, _, _, _, _, _, _, _, rfl, _⟩ := h; rfl)
  · obtain ⟨p, dx, c, l, d, w, m, j, rfl, hp, h0, h1, h2, h3, qq⟩ := h
    have cW := T.c_Book
    k_call_by "xo" st_Book__begins_code
    wtm_at "oo"
    exact qq
/-- the book at p -/
structure BkAt (K : PySem.W.Frag) (H : Hp) (p dx c l d : Addr) (ls : List Int) : Prop where
  hp : H p = some (bC K dx c l (wts ls) d)
  hc : H c = some (.lst ((cdL ls).map V.int))
  hl : H l = some (.lst (ls.map V.int))
  hd : H d = some (.dK (symK ls ls.length))
def sp_Book_read (K : PySem.W.Frag) : Sp := fun vs H Q E => ∃ (p dx c l d rp dr q : Addr) (ls ds : List Int) (pl en : Int), vs = [.ref p, .ref rp] ∧ BkAt K H p dx c l d ls ∧ okLen ls ∧ wts ls ≤ 32768 ∧ H rp = some (rC K dr q pl en) ∧ H q = some (.lst (ds.map V.int)) ∧ RSt ds pl en ∧
  (∀ k w, resOf ls (bnum ds / 2 ^ pl.toNat) (en - pl).toNat = .sym k w → ∀ H', Own K (delL H [rp]) H' [.pt rp (rC K dr q (pl + (w : Int)) en)] → Q (.int (k : Int)) H') ∧
  (resOf ls (bnum ds / 2 ^ pl.toNat) (en - pl).toNat = .cut → ∀ x H', Own K H H' [.pt x (.xd [("at", .int en)])] → E (.ref (He.ga K "Truncated")) (some x) H') ∧
  (resOf ls (bnum ds / 2 ^ pl.toNat) (en - pl).toNat = .bad → ∀ x H', Own K H H' [.pt x (.xd [("at", .int pl)])] → E (.ref (He.ga K "BadCode")) (some x) H')
theorem ok_Book_read (T : Tx K mg) : Mth P w K base mg 5 "Book" "read" ["self", "reader"] (sp_Book_read K) [] := by
  obtain ⟨fd, F⟩ := T.d_Book_read
  refine ⟨fd, [], F.ok sc_Book_read (fun vs H Q E h => ?_) (fun cdv A outer s H vs Q E hr h => ⟨_, (pss_cons (ps_set (i := 2) sc_Book_read.nd rfl (Or.inl rfl) (by exact (pe_mt0 (ok_BitReader_place T) (hr.mono (by decide)) (pv 1))))
 (pss_cons (ps_if (pt_cmpR op_eq (pe_fld (pv 0) rfl) pe_int (nomark _))
 (pss_one (ps_raiseB T.x_BadCode (ok_init T) (hr.mono (by decide)) (L2N.takes_of rfl rfl rfl rfl) (by exact (pa_cons (pv 2) pa_nil))))
 pss_nil)
 (pss_cons (ps_set (i := 3) sc_Book_read.nd rfl (Or.inl rfl) (by exact (pe_mtS (ok_BitReader_look T) (hr.mono (by decide)) (L2N.takes_of rfl rfl rfl rfl) (pv 1) (pa_cons (pe_gc rfl T.c_MOST_BITS) pa_nil))))
 (pss_cons (ps_set (i := 4) sc_Book_read.nd rfl (Or.inl rfl) (by exact pe_int))
 (pss_cons (ps_for (passes_of rfl) rfl (pi_range2 rfl T.b_range (pa_cons pe_int (pa_cons (pe_op op_add (pe_gc rfl T.c_MOST_BITS) pe_int) pa_nil))) (pg_name (i := 5) sc_Book_read.nd rfl (Or.inl rfl))
 (pss_cons (ps_if (pt_cmpR op_gt (pv 5) (pe_mt0 (ok_BitReader_left T) (hr.mono (by decide)) (pv 1)) (nomark _))
 (pss_one (ps_raiseB T.x_Truncated (ok_init T) (hr.mono (by decide)) (L2N.takes_of rfl rfl rfl rfl) (by exact (pa_cons (pe_op op_add (pv 2) (pe_mt0 (ok_BitReader_left T) (hr.mono (by decide)) (pv 1))) pa_nil))))
 pss_nil)
 (pss_cons (ps_set (i := 4) sc_Book_read.nd rfl (Or.inl rfl) (by exact (pe_op op_add (pe_op op_mul pe_int (pv 4)) (pe_op op_and (pv 3) pe_int))))
 (pss_cons (ps_aug (i := 3) sc_Book_read.nd rfl (Or.inl rfl) (by exact pe_int) ip_shr)
 (pss_cons (ps_if (pt_cmp (pc_din (hu_of hr) (pv 4) (pe_fld (pv 0) rfl)))
 (pss_cons (ps_expr (pe_mtS (ok_BitReader_take T) (hr.mono (by decide)) (L2N.takes_of rfl rfl rfl rfl) (pv 1) (pa_cons (pv 5) pa_nil)))
 (pss_one (ps_ret (by exact (pe_dget (hu_of hr) (pe_fld (pv 0) rfl) (pv 4) (fun _ _ => rfl))))))
 pss_nil)
 (pss_one (ps_if (pt_not (pt_val (pe_mt (ok_Book__begins_code T) (hr.mono (by decide)) (pv 0) (pa_cons (pv 4) (pa_cons (pv 5) pa_nil)))))
 (pss_one ps_break)
 pss_nil)))))))
 (pss_one (ps_raiseB T.x_BadCode (ok_init T) (hr.mono (by decide)) (L2N.takes_of rfl rfl rfl rfl) (by exact (pa_cons (pv 2) pa_nil))))))))), ?_⟩), T.m_Book_read, T.c_Book.cl, F.bindsN (fun _ _ _ _ _ _ us hl => match us, hl with | [_, _], _ => rfl), .nil⟩
  · first | (obtain ⟨rfl, _⟩ := h; rfl) | (obtain ⟨_, rfl, _⟩ := h; rfl) | (obtain ⟨_, _, rfl, _⟩ := h; rfl) | (obtain ⟨_, _, _, rfl, _⟩ := h; rfl) | (obtain ⟨_, _, _, _, rfl, _⟩ := h; rfl) | (obtain ⟨_, _, _, _, _, rfl, _⟩ := h; rfl) | (obtain ⟨_, _, _, _, _, _, rfl, _⟩ := h; rfl) | (obtain ⟨_, _, _, _, _, _, _, rfl, _⟩ := h; rfl) | (obtain ⟨_, _, _, _, _, _, _, _, rfl, _⟩ := h; rfl) | (obtain ⟨_, _, _, _, _, _, _, _, _, rfl, _⟩ := h; rfl) | (obtain ⟨_, _, _, _, _, _, _, _, _, _, rfl, _⟩ := h; rfl) | (obtain ⟨_, _, _, _, _, _, _, _, _, _, _, rfl, _⟩ := h; rfl) | (obtain ⟨_, _, _, _, _, _, _, _, _, _, _, _, rfl, _⟩ := h; rfl) | (obtain ⟨_, _, _, _, _, _, _, _, _, _, _, _, _, rfl, _⟩ := h; rfl) | (obtain ⟨_, _, _, _, _, _, _, _, _, _, _, _, _, _, rfl, _⟩ := h; rfl) | (obtain ⟨_, _, _, _, _, _, _, _, _, _, _, _, _, _, _, rfl, _⟩ := h; rfl) | (obtain ⟨_, _, _, _, _, _, _, _, _, _, _, _, _, _, _, _, rfl, _⟩ := h; rfl) | (obtain ⟨_, _, _, _, _, _, _, _, _, _, _, _, _, _, _, _, _, rfl, _⟩ := h; rfl) | (obtain ⟨_, _, _, _, _, _, _, _, _, _, _, _, _, _, _, _, _, _, rfl, _⟩ := h; rfl) | (obtain ⟨_, _, _, _, _, _, _, _, _, _, _, _, _, _, _, _, _, _, _, rfl, _⟩ := h; rfl) | (obtain ⟨_, _, _, _, _, _, _, _, _, _, _, _, _, _, _, _, _, _, _, _, rfl, _⟩ := h; rfl) | (obtain ⟨_, _, _, _, _, _, _, _, _, _, _, _, _, _, _, _, _, _, _, _, _, rfl, _⟩ := h; rfl)
  · obtain ⟨p, dx, c, l, d, rp, dr, q, ls, ds, pl, en, rfl, ⟨hp, hc, hl, hd⟩, ok, hw, hr, hq, rs, qs, qt, qb⟩ := h
    have cW := T.c_Book
    have cR := T.c_BitReader
    k_call_by "xo" st_Book_read
    have L := Own.start (K := K) (H := H)
    have ok0 := rs.p0
    have ok1 := rs.pe
    wtm_at "oo"
    refine ⟨rp, dr, q, pl, en, rfl, hr, ?_⟩
    wtm_at "oo"
    generalize hS : bnum ds / 2 ^ pl.toNat = S at *
    have bad : ∀ σ G, Own K H G [] → resOf ls S (en - pl).toNat = .bad → Bz K (He.ga K "BadCode") (fun cls d st H => E cls d H) σ [.int pl] G := fun σ G L e => bz T.x_BadCode fun x hx => qb e x _ (L.new hx _)
    unfold resOf at qs qt bad
    refine sel_d (fun cz => ?_) (fun cz => ?_)
    · wtm_at "oo"
      exact bad _ _ L (if_pos cz)
    · rw [if_neg cz] at qs qt bad
      wtm_at "oo"
      refine ⟨rp, dr, q, ds, pl, en, 15, rfl, hr, hq, rs, fun _ G M => ?_, fun z => absurd (by decide) z⟩
      wtm_at "oo"
      have hm : ∃ m : Nat, (min 15 (en - pl)).toNat = m ∧ m ≤ 15 ∧ (∀ i : Nat, i < 15 → (i : Int) < en - pl → i < m) := ⟨_, rfl, by omega, fun i h1 h2 => by omega⟩
      obtain ⟨m, em, m15, mi⟩ := hm
      have ev : rdV ds pl.toNat (min 15 (en - pl)).toNat = S % 2 ^ m := by
        unfold rdV
        rw [hS, em]
      rw [ev]
      have hleft : ∃ lf : Nat, (en - pl).toNat = lf ∧ (lf : Int) = en - pl := ⟨_, rfl, by omega⟩
      obtain ⟨lf, elf, elf2⟩ := hleft
      rw [elf] at qs qt bad
      have v0 : 0 ≤ S % 2 ^ m := Int.emod_nonneg _ (Int.ne_of_gt pow2_pos)
      have hrev : ∀ w, w ≤ m → revB (S % 2 ^ m) w = revB S w := fun w h => revB_low S h
      generalize S % 2 ^ m = v at *
      refine loop_rangeN (m := 15) rfl (fun i σ H' => ∃ y5, σ = [some (.ref p), some (.ref rp), some (.int pl), some (.int (v / 2 ^ i)), some (.int (2 ^ i + revB v i)), y5] ∧ Own K H H' [] ∧ rdF ls S lf (16 - i) (i + 1) = rdF ls S lf 16 1 ∧ (∀ u, 0 < u → u ≤ i → symAt ls S u = none) ∧ i ≤ 14)
        ⟨none, by rw [show v / 2 ^ 0 = v from Int.ediv_one v]; rfl, M, rfl, fun u h1 h2 => by omega, by omega⟩ ?_ ?_
      · rintro i σ G2 hi ⟨y5, rfl, L2, ef, no, i14⟩
        have hr2 := L2.base hr
        have hd2 := L2.base hd
        have hp2 := L2.base hp
        have hq2 := L2.base hq
        rw [show 16 - i = (15 - i) + 1 by omega] at ef
        wtm_at "oo"
        refine ⟨rp, dr, q, pl, en, rfl, hr2, ?_⟩
        wtm_at "oo"
        refine sel_d (fun cw => ?_) (fun cw => ?_)
        · wtm_at "oo"
          refine ⟨rp, dr, q, pl, en, rfl, hr2, ?_⟩
          wtm_at "oo"
          rw [show pl + (en - pl) = en by omega]
          exact bz T.x_Truncated fun x hx => qt (by rw [← ef]; exact rdF_cut (by omega)) x _ (L2.new hx _)
        · have him : i < m := mi i hi (by omega)
          have hmark : 2 * (2 ^ i + revB v i) + v / 2 ^ i % 2 = 2 ^ (i + 1) + revB S (i + 1) := by
            rw [← hrev (i + 1) (by omega)]
            show _ = _ + (2 * revB v i + v / 2 ^ i % 2)
            rw [Int.pow_succ]
            omega
          have hdiv : v / 2 ^ i / 2 = v / 2 ^ (i + 1) := by
            rw [Int.ediv_ediv_of_nonneg (Int.le_of_lt pow2_pos), Int.pow_succ]
          have hbit : Builtin.bitAnd (v / 2 ^ i) 1 = v / 2 ^ i % 2 := and1 (Int.ediv_nonneg v0 (Int.le_of_lt pow2_pos))
          have hget := symK_sym (S := S) ok hw (show 0 < i + 1 by omega)
          wtm_at "oo"
          rw [hbit, hmark, hget]
          cases e : symAt ls S (i + 1) with
          | some k =>
            rw [show (Option.map (fun k : Nat => V.int (k : Int)) (some k)).isSome = true from rfl]
            wtm_at "oo"
            refine ⟨rp, dr, q, ds, pl, en, _, rfl, hr2, hq2, rs, fun _ _ G3 M3 => ?_, fun _ z => absurd z (by omega), fun z => absurd ⟨by omega, by omega⟩ z⟩
            have np : p ≠ rp := ne_of hp hr (by intro z; injection z with _ _ z; exact absurd (show (4 : Nat) = 3 from congrArg List.length z) (by decide))
            have nd : d ≠ rp := ne_of hd hr (by intro z; cases z)
            have hp3 : G3 p = some (bC K dx c l (wts ls) d) := M3.base (by rw [delL_out (fun z => np (List.mem_singleton.mp z))]; exact hp2)
            have hd3 : G3 d = some (.dK (symK ls ls.length)) := M3.base (by rw [delL_out (fun z => nd (List.mem_singleton.mp z))]; exact hd2)
            wtm_at "oo"
            refine dgetI hd3 (by rw [hget, e]; rfl) ?_
            have L3 := (Own.in1 (K := K) hr).c0 L2
            have L4 : Own K (delL H [rp]) G3 [.pt rp (rC K dr q (pl + (1 + (i : Int))) en)] := L3.mut1 .here M3
            rw [show pl + (1 + (i : Int)) = pl + ((i + 1 : Nat) : Int) by omega] at L4
            exact qs k (i + 1) (by rw [← ef]; exact rdF_sym (by omega) e) G3 L4
          | none =>
            rw [show (Option.map (fun k : Nat => V.int (k : Int)) none).isSome = false from rfl]
            obtain ⟨b0, b1⟩ := revB_lo S (i + 1)
            have hp15 : (2 : Int) ^ (i + 1) ≤ 2 ^ 15 := pow2_le (by omega)
            have hpp : (0 : Int) < 2 ^ (i + 1) := pow2_pos
            have hbg := begins_iff (S := S) (w := i + 1) ok (by omega) (fun u h1 h2 => by
              by_cases c : u = i + 1
              · rw [c]
                exact e
              · exact no u h1 (by omega))
            have hsh : (2 ^ (i + 1) + revB S (i + 1)) * 2 ^ (15 - (1 + (i : Int))).toNat - 32768 = revB S (i + 1) * 2 ^ (15 - (i + 1)) := by
              rw [show (15 - (1 + (i : Int))).toNat = 15 - (i + 1) by omega, Int.add_mul, ← Int.pow_add, show i + 1 + (15 - (i + 1)) = 15 by omega]
              omega
            wtm_at "oo"
            refine ⟨p, dx, c, l, d, _, _, _, rfl, hp2, by omega, by omega, by omega, by omega, ?_⟩
            rw [hsh]
            wtm_at "oo"
            refine sel_nd (fun c1 => ?_) (fun c1 => ?_)
            · wtm_at "oo"
              refine bad _ _ L2 ?_
              rw [← ef]
              refine rdF_bad (by omega) e ?_
              cases hg : goTo ls S (i + 1) ls.length with
              | false => rfl
              | true => exact absurd (hbg.mpr hg) c1
            · have hg := hbg.mp c1
              wtm_at "oo"
              have hlt := goTo_lt ok hg
              refine ⟨by rw [hrev (i + 1) (by omega)], L2, ?_, fun u h1 h2 => ?_, by omega⟩
              · rw [← ef, rdF_on (by omega) e hg, show 16 - (i + 1) = 15 - i by omega]
              · by_cases c : u = i + 1
                · rw [c]
                  exact e
                · exact no u h1 (by omega)
      · rintro σ G2 ⟨y5, rfl, L2, ef, no, i14⟩
        exact absurd i14 (by decide)


end
end K11

namespace K11
open PySem PySem.Spec PyProof.Rows L2 Bel
local macro_rules | `(tactic| wtm_at "xs") => `(tactic| simp only [x_next, x_seq, x_brk, x_cont, x_drop, x_ret, x_retN, x_if, sel_t, sel_f, selE_t, selE_f, selT_t, selT_f, selC_t, selC_f, x_test, x_tB, x_op, x_un, x_var, x_c, x_cb, x_nil, x_cons, x_rI, x_rI0, x_rU, x_rEq, x_rNe, x_rIxL, x_rIxT, x_rSlL, x_rCat, x_rRep, x_rApp, x_bm, x_bm0, x_sl, x_nopart, x_part, x_tup, x_lst, x_call, x_callS, x_asg, x_gname, x_gtup, x_gnil, x_gcons, x_gsub, x_setL, x_aug, x_ipI, x_ipC, x_bits, x_getL, x_augS, x_and, x_or, x_not, x_k, x_andV, x_orV, x_notV, x_ife, x_chain, x_for, x_ilist, x_itup, x_ienum, x_irng1, x_irng2, x_irev, x_lc, x_yes, wipe_nil, wipe_cons, List.map_cons, List.map_nil, x_misc, x_misc2, x_rz, lookup_at, Bool.not_true, Bool.not_false, decide_true, decide_false, not_true, not_false_eq_true, and_assoc, exists_and_left, exists_eq_left', exists_eq_left, exists_eq', exists_eq_right', exists_eq_right, V.int.injEq, V.ref.injEq, V.bl.injEq, V.str.injEq, List.cons.injEq, and_true, true_and, and_self, Option.some.injEq, List.cons_append, List.nil_append, List.append_nil, List.getElem?_cons_zero, List.getElem?_cons_succ, List.set_cons_zero, List.set_cons_succ, reduceCtorEq, false_and, and_false, exists_false, exists_const, or_false, false_or, scal_ii, scal_bb, scal_ss, List.length_cons, List.length_nil, Int.reduceToNat, Int.reducePow])
local macro_rules | `(tactic| k_call_by "xs" $h:term) => `(tactic| simp only [$h:term, x_next, x_seq, x_brk, x_cont, x_drop, x_ret, x_retN, x_if, sel_t, sel_f, selE_t, selE_f, selT_t, selT_f, selC_t, selC_f, x_test, x_tB, x_op, x_un, x_var, x_c, x_cb, x_nil, x_cons, x_rI, x_rI0, x_rU, x_rEq, x_rNe, x_rIxL, x_rIxT, x_rSlL, x_rCat, x_rRep, x_rApp, x_bm, x_bm0, x_sl, x_nopart, x_part, x_tup, x_lst, x_call, x_callS, x_asg, x_gname, x_gtup, x_gnil, x_gcons, x_gsub, x_setL, x_aug, x_ipI, x_ipC, x_bits, x_getL, x_augS, x_and, x_or, x_not, x_k, x_andV, x_orV, x_notV, x_ife, x_chain, x_for, x_ilist, x_itup, x_ienum, x_irng1, x_irng2, x_irev, x_lc, x_yes, wipe_nil, wipe_cons, List.map_cons, List.map_nil, x_misc, x_misc2, x_rz, lookup_at, Bool.not_true, Bool.not_false, decide_true, decide_false, not_true, not_false_eq_true, and_assoc, exists_and_left, exists_eq_left', exists_eq_left, exists_eq', exists_eq_right', exists_eq_right, V.int.injEq, V.ref.injEq, V.bl.injEq, V.str.injEq, List.cons.injEq, and_true, true_and, and_self, Option.some.injEq, List.cons_append, List.nil_append, List.append_nil, List.getElem?_cons_zero, List.getElem?_cons_succ, List.set_cons_zero, List.set_cons_succ, reduceCtorEq, false_and, and_false, exists_false, exists_const, or_false, false_or, scal_ii, scal_bb, scal_ss, List.length_cons, List.length_nil, Int.reduceToNat, Int.reducePow])
local macro_rules | `(tactic| wtm_at "hp") => `(tactic| first | (with_reducible assumption) | exact upd_same | (refine upd_keep (by with_reducible assumption) ?_; wtm_at "hp") | (refine Same.get (by with_reducible assumption) ?_; wtm_at "hp") | (refine upd_other (by first | (with_reducible assumption) | exact Ne.symm (by with_reducible assumption)) ?_; wtm_at "hp"))
local macro_rules | `(tactic| wtm_at "sq") => `(tactic| first | (with_reducible assumption) | exact SqL.of (by wtm_at "hp") | exact SqT.of (by wtm_at "hp") | (refine Same.seq (same_upd (by with_reducible assumption)) ?_; wtm_at "sq") | (refine Same.seq (by with_reducible assumption) ?_; wtm_at "sq") | (refine Same.seqT (same_upd (by with_reducible assumption)) ?_; wtm_at "sq") | (refine Same.seqT (by with_reducible assumption) ?_; wtm_at "sq"))
local macro_rules | `(tactic| wtm_at "cl") => `(tactic| first | (with_reducible assumption) | omega | (exact cmul_r (by omega) (by omega)) | (exact cmul_l (by omega) (by omega)) | (exact cdiv_ok (by omega) (by omega)) | (exact cpow_ok (by decide)) | (exact ⟨by omega, by omega, by omega⟩) | decide | (exact ⟨by omega, by omega⟩) | (simp only [List.length_append, List.length_map, List.length_cons, List.length_nil, rngL_len, sizeLine_eq]; omega) | wtm_at "hp" | wtm_at "sq")
local macro_rules | `(tactic| wtm_at "pf") => `(tactic| first | (with_reducible assumption) | omega | (simp only [List.length_append, List.length_map, List.length_cons, List.length_nil, rngL_len]; omega) | (with_reducible rfl) | (with_reducible trivial) | (with_reducible decide))
local macro_rules | `(tactic| wtm_at "st") => `(tactic| first | ((with_reducible refine g_at ?_); refine at_call (by wtm_at "sq") (by omega) (by omega) (fun _ _ => ?_)) | ((with_reducible refine g_row ?_); refine row_call (by wtm_at "hp") ?_) | ((with_reducible refine g_int ?_); refine int_call ?_) | ((with_reducible refine g_isi ?_); first | (refine isi_int rfl ?_) | (refine isi_lst rfl (by wtm_at "hp") ?_) | (refine isi_tup rfl (by wtm_at "hp") ?_)) | ((with_reducible refine g_ned ?_); refine ned_f (dq_lst (by wtm_at "sq")) (dq_lst (by wtm_at "sq")) ?_) | ((with_reducible refine g_eqd ?_); refine eqd_t (dq_lst (by wtm_at "sq")) (dq_lst (by wtm_at "sq")) ?_) | ((with_reducible refine g_tyv ?_); refine and_tyv (by wtm_at "sq") ?_) | ((with_reducible refine g_asq ?_); refine and_sq (by wtm_at "sq") ?_) | ((with_reducible refine g_lst ?_); refine ex_lst (by wtm_at "hp") ?_) | ((with_reducible refine g_or ?_); first | (refine ex_or (by wtm_at "sq") ?_) | (refine ex_ort (by wtm_at "sq") ?_)) | ((with_reducible refine g_sq ?_); refine ex_sq (by wtm_at "sq") ?_) | ((with_reducible refine g_sqt ?_); refine ex_sqt (by wtm_at "sq") ?_) | ((with_reducible refine gd_sel ?_); first | (refine sel_p (by wtm_at "pf") ?_) | (refine sel_n (by wtm_at "pf") ?_)) | ((with_reducible refine gn_sel ?_); first | (refine selN_p (by wtm_at "pf") ?_) | (refine selN_n (by wtm_at "pf") ?_)) | ((with_reducible refine gd_selT ?_); first | (refine selT_p (by wtm_at "pf") ?_) | (refine selT_n (by wtm_at "pf") ?_)) | ((with_reducible refine gn_selT ?_); first | (refine selTN_p (by wtm_at "pf") ?_) | (refine selTN_n (by wtm_at "pf") ?_)) | ((with_reducible refine gd_selE ?_); first | (refine selE_p (by wtm_at "pf") ?_) | (refine selE_n (by wtm_at "pf") ?_)) | ((with_reducible refine gn_selE ?_); first | (refine selEN_p (by wtm_at "pf") ?_) | (refine selEN_n (by wtm_at "pf") ?_)) | ((with_reducible refine g_xf ?_); refine xf_at rfl (by wtm_at "hp") ?_) | ((with_reducible refine g_atI ?_); refine ex_at (by first | exact rfl | exact atI_int (by omega) (by wtm_at "pf")) ?_) | ((with_reducible refine g_and ?_); refine And.intro (by wtm_at "cl") ?_) | ((with_reducible refine g_new ?_); intro _ _))
local macro_rules | `(tactic| wtm_at "go") => `(tactic| repeat (first | wtm_at "xs" | wtm_at "st"))
local macro_rules | `(tactic| wtm_at "xo") => `(tactic| simp only [x_next, x_seq, x_brk, x_cont, x_drop, x_ret, x_retN, x_if, sel_t, sel_f, selE_t, selE_f, selT_t, selT_f, selC_t, selC_f, x_test, x_tB, x_op, x_un, x_var, x_c, x_cb, x_nil, x_cons, x_rI, x_rI0, x_rU, x_rEq, x_rNe, x_rIxL, x_rIxT, n_rSlL, n_rCat, n_rRep, n_rApp, x_bm, x_bm0, x_sl, x_nopart, x_part, n_tup, n_lst, x_call, x_callS, x_asg, x_gname, x_gtup, x_gnil, x_gcons, x_gsub, n_setL, x_aug, x_ipI, x_ipC, x_bits, x_getL, x_augS, x_and, x_or, x_not, x_k, x_andV, x_orV, x_notV, x_ife, x_chain, x_for, x_ilist, x_itup, x_ienum, x_irng1, x_irng2, x_irev, x_lc, x_yes, wipe_nil, wipe_cons, List.map_cons, List.map_nil, x_misc, x_misc2, x_rz, lookup_at, Bool.not_true, Bool.not_false, decide_true, decide_false, not_true, not_false_eq_true, and_assoc, exists_and_left, exists_eq_left', exists_eq_left, exists_eq', exists_eq_right', exists_eq_right, V.int.injEq, V.ref.injEq, V.bl.injEq, V.str.injEq, List.cons.injEq, and_true, true_and, and_self, Option.some.injEq, List.cons_append, List.nil_append, List.append_nil, List.getElem?_cons_zero, List.getElem?_cons_succ, List.set_cons_zero, List.set_cons_succ, reduceCtorEq, false_and, and_false, exists_false, exists_const, or_false, false_or, scal_ii, scal_bb, scal_ss, List.length_cons, List.length_nil, Int.reduceToNat, Int.reducePow, n_fld, n_dnew, n_dput, n_din, n_dget, n_dget2, n_glst, n_sfld, n_aug, n_meth, n_mw, n_make, n_kw, n_rLs, t_s1, t_i1, t_i2, t_i3, t_i4, t_i5, x_chain3, x_irng3, x_irevR, x_rg1, x_rg2, ints_cat, ints_app1, ints_len, ints_take, ints_drop, rep_one])
local macro_rules | `(tactic| k_call_by "xo" $h:term) => `(tactic| simp only [$h:term, x_next, x_seq, x_brk, x_cont, x_drop, x_ret, x_retN, x_if, sel_t, sel_f, selE_t, selE_f, selT_t, selT_f, selC_t, selC_f, x_test, x_tB, x_op, x_un, x_var, x_c, x_cb, x_nil, x_cons, x_rI, x_rI0, x_rU, x_rEq, x_rNe, x_rIxL, x_rIxT, n_rSlL, n_rCat, n_rRep, n_rApp, x_bm, x_bm0, x_sl, x_nopart, x_part, n_tup, n_lst, x_call, x_callS, x_asg, x_gname, x_gtup, x_gnil, x_gcons, x_gsub, n_setL, x_aug, x_ipI, x_ipC, x_bits, x_getL, x_augS, x_and, x_or, x_not, x_k, x_andV, x_orV, x_notV, x_ife, x_chain, x_for, x_ilist, x_itup, x_ienum, x_irng1, x_irng2, x_irev, x_lc, x_yes, wipe_nil, wipe_cons, List.map_cons, List.map_nil, x_misc, x_misc2, x_rz, lookup_at, Bool.not_true, Bool.not_false, decide_true, decide_false, not_true, not_false_eq_true, and_assoc, exists_and_left, exists_eq_left', exists_eq_left, exists_eq', exists_eq_right', exists_eq_right, V.int.injEq, V.ref.injEq, V.bl.injEq, V.str.injEq, List.cons.injEq, and_true, true_and, and_self, Option.some.injEq, List.cons_append, List.nil_append, List.append_nil, List.getElem?_cons_zero, List.getElem?_cons_succ, List.set_cons_zero, List.set_cons_succ, reduceCtorEq, false_and, and_false, exists_false, exists_const, or_false, false_or, scal_ii, scal_bb, scal_ss, List.length_cons, List.length_nil, Int.reduceToNat, Int.reducePow, n_fld, n_dnew, n_dput, n_din, n_dget, n_dget2, n_glst, n_sfld, n_aug, n_meth, n_mw, n_make, n_kw, n_rLs, t_s1, t_i1, t_i2, t_i3, t_i4, t_i5, x_chain3, x_irng3, x_irevR, x_rg1, x_rg2, ints_cat, ints_app1, ints_len, ints_take, ints_drop, rep_one])
local macro_rules | `(tactic| wtm_at "mem") => `(tactic| first | (with_reducible exact mem_here) | (with_reducible refine mem_there ?_; wtm_at "mem"))
local macro_rules | `(tactic| wtm_at "pp") => `(tactic| first | (with_reducible exact Put.here) | (with_reducible apply Put.there; wtm_at "pp"))
local macro_rules | `(tactic| wtm_at "ho") => `(tactic| first | (with_reducible assumption) | exact Own.get (by with_reducible assumption) (by wtm_at "mem") | exact Own.base (by with_reducible assumption) (by with_reducible assumption))
local macro_rules | `(tactic| wtm_at "qo") => `(tactic| first | (with_reducible assumption) | exact SqL.of (by wtm_at "ho") | exact sqT_tupI (by wtm_at "ho") | exact sqT_tupS (by wtm_at "ho") | exact SqT.of (by wtm_at "ho") | exact Own.imT (by with_reducible assumption) (by wtm_at "mem") | exact Own.sq (by with_reducible assumption) (by with_reducible assumption) | exact Own.sqT (by with_reducible assumption) (by with_reducible assumption))
local macro_rules | `(tactic| wtm_at "sub") => `(tactic| first | exact List.nil_sublist _ | (with_reducible refine List.Sublist.cons_cons _ ?_; wtm_at "sub") | (refine List.Sublist.cons _ ?_; wtm_at "sub"))
local macro_rules | `(tactic| wtm_at "co") => `(tactic| first | (with_reducible assumption) | omega | (exact cmul_r (by omega) (by omega)) | (exact cmul_l (by omega) (by omega)) | (exact cdiv_ok (by omega) (by omega)) | (exact cpow_ok (by decide)) | (exact ⟨by omega, by omega, by omega⟩) | decide | (exact ⟨by omega, by omega⟩) | (simp only [List.length_append, List.length_map, List.length_cons, List.length_nil, rngL_len, sizeLine_eq]; omega) | wtm_at "ho" | wtm_at "qo")
local macro_rules | `(tactic| wtm_at "so") => `(tactic| first | ((with_reducible refine g_dputO ?_); refine dputI (by with_reducible assumption) (by wtm_at "pp") (by wtm_at "co") (fun _ _ => ?_)) | ((with_reducible refine g_dinO ?_); refine dinI (by wtm_at "ho") ?_) | ((with_reducible refine g_isDO ?_); refine isDO (by wtm_at "ho") ?_) | ((with_reducible refine g_dg2 ?_); refine dg2I (by wtm_at "ho") ?_) | ((with_reducible refine g_fldO ?_); refine fldO (by wtm_at "ho") (by with_reducible assumption) (by wtm_at "mem") (by wtm_at "lk") ?_) | ((with_reducible refine g_fldC ?_); refine fldC (by wtm_at "ho") (by with_reducible assumption) (by wtm_at "mem") (by wtm_at "lk") ?_) | ((with_reducible refine g_putC ?_); refine putC (by with_reducible assumption) (by wtm_at "pp") (by wtm_at "pu") (by wtm_at "co") (fun _ _ => ?_)) | ((with_reducible refine g_stoO ?_); refine stoO (by with_reducible assumption) (by wtm_at "pp") (by wtm_at "pu") (by with_reducible assumption) (by wtm_at "mem") (by wtm_at "co") (fun _ _ => ?_)) | ((with_reducible refine g_metO ?_); refine metO (by wtm_at "ho") (by wtm_at "ln") ?_) | ((with_reducible refine g_makO ?_); refine makO (by with_reducible assumption) (fun _ _ _ _ => ?_)) | ((with_reducible refine g_sum ?_); refine sum_call (by wtm_at "qo") ?_) | ((with_reducible refine g_cq ?_); exact cq (by with_reducible assumption) (by simp only [rngL_len, List.length_map, List.length_take]; omega)) | ((with_reducible refine g_newO ?_); refine newO (by with_reducible assumption) (fun _ _ _ => ?_)) | ((with_reducible refine g_appO ?_); refine appI (by with_reducible assumption) (by wtm_at "pp") (by wtm_at "co") (fun _ _ => ?_)) | ((with_reducible refine g_setO ?_); refine setI (by with_reducible assumption) (by wtm_at "pp") (by omega) (by wtm_at "co") (fun _ _ => ?_)) | ((with_reducible refine g_appO ?_); refine appO (by with_reducible assumption) (by wtm_at "pp") (by wtm_at "co") (fun _ _ => ?_)) | ((with_reducible refine g_setO ?_); refine setO (by with_reducible assumption) (by wtm_at "pp") (by omega) (by wtm_at "co") (fun _ _ => ?_)) | ((with_reducible refine g_at ?_); refine at_call (by wtm_at "qo") (by omega) (by omega) (fun _ _ => ?_)) | ((with_reducible refine g_row ?_); refine row_call (by wtm_at "ho") ?_) | ((with_reducible refine g_int ?_); refine int_call ?_) | ((with_reducible refine g_isi ?_); first | (refine isi_int rfl ?_) | (refine isi_sqL rfl (by wtm_at "qo") ?_) | (refine isi_sqT rfl (by wtm_at "qo") ?_) | (refine isi_bl rfl ?_) | (refine isi_non rfl ?_) | (refine isi_str rfl ?_)) | ((with_reducible refine g_ned ?_); first | (refine ned_f (dq_lst (by wtm_at "qo")) (dq_lst (by wtm_at "qo")) ?_) | (refine ned_ints (by wtm_at "qo") (by wtm_at "qo") ?_) | (refine nedT_ints (by wtm_at "qo") (by wtm_at "qo") ?_)) | ((with_reducible refine g_eqd ?_); first | (refine eqd_t (dq_lst (by wtm_at "qo")) (dq_lst (by wtm_at "qo")) ?_) | (refine eqd_ints (by wtm_at "qo") (by wtm_at "qo") ?_) | (refine eqdT_ints (by wtm_at "qo") (by wtm_at "qo") ?_)) | ((with_reducible refine g_tyv ?_); refine and_tyv (by wtm_at "qo") ?_) | ((with_reducible refine g_asq ?_); refine and_sq (by wtm_at "qo") ?_) | ((with_reducible refine g_lst ?_); refine ex_lst (by wtm_at "ho") ?_) | ((with_reducible refine g_or ?_); first | (refine ex_or (by wtm_at "qo") ?_) | (refine ex_ort (by wtm_at "qo") ?_)) | ((with_reducible refine g_sq ?_); refine ex_sq (by wtm_at "qo") ?_) | ((with_reducible refine g_sqt ?_); refine ex_sqt (by wtm_at "qo") ?_) | ((with_reducible refine gd_sel ?_); first | (refine sel_p (by wtm_at "pf") ?_) | (refine sel_n (by wtm_at "pf") ?_)) | ((with_reducible refine gn_sel ?_); first | (refine selN_p (by wtm_at "pf") ?_) | (refine selN_n (by wtm_at "pf") ?_)) | ((with_reducible refine gd_selT ?_); first | (refine selT_p (by wtm_at "pf") ?_) | (refine selT_n (by wtm_at "pf") ?_)) | ((with_reducible refine gn_selT ?_); first | (refine selTN_p (by wtm_at "pf") ?_) | (refine selTN_n (by wtm_at "pf") ?_)) | ((with_reducible refine gd_selE ?_); first | (refine selE_p (by wtm_at "pf") ?_) | (refine selE_n (by wtm_at "pf") ?_)) | ((with_reducible refine gn_selE ?_); first | (refine selEN_p (by wtm_at "pf") ?_) | (refine selEN_n (by wtm_at "pf") ?_)) | ((with_reducible refine g_xf ?_); refine xf_at rfl (by wtm_at "ho") ?_) | ((with_reducible refine g_atI ?_); refine ex_at (by first | exact rfl | exact atI_int (by omega) (by wtm_at "pf")) ?_) | ((with_reducible refine g_and ?_); refine And.intro (by wtm_at "co") ?_))
local macro_rules | `(tactic| wtm_at "oo") => `(tactic| repeat (first | wtm_at "xo" | wtm_at "so"))
local macro_rules | `(tactic| wtm_at "cR") => `(tactic| (refine' compRi _ (by with_reducible assumption) (by omega) (fun _ _ _ _ _ => ?_) (fun _ _ _ => ?_); rotate_left; focus (wtm_at "oo")))

local macro_rules | `(tactic| wtm_at "lk") => `(tactic| first | (with_reducible exact lk_here) | (simp only [lk_here, lk_skip, lk_nil, nb_0_0, nb_0_1, nb_0_2, nb_0_3, nb_0_4, nb_0_5, nb_0_6, nb_1_0, nb_1_1, nb_1_2, nb_1_3, nb_1_4, nb_1_5, nb_1_6, nb_2_1, nb_2_2, nb_2_3, nb_2_4, nb_2_5, nb_2_6, nb_3_0, nb_3_2, nb_3_3, nb_3_4, nb_3_5, nb_3_6, nb_4_0, nb_4_1, nb_4_3, nb_4_4, nb_4_5, nb_4_6, nb_5_0, nb_5_1, nb_5_2, nb_5_4, nb_5_5, nb_5_6, nb_6_0, nb_6_1, nb_6_2, nb_6_3, nb_6_4, nb_6_5, nb_6_6, nb_7_0, nb_7_1, nb_7_2, nb_7_3, nb_7_5, nb_7_6, nb_8_0, nb_8_1, nb_8_2, nb_8_3, nb_8_4, nb_8_6, nb_9_0, nb_9_1, nb_9_2, nb_9_3, nb_9_4, nb_9_5, nb_10_0, nb_10_1, nb_10_2, nb_10_3, nb_10_4, nb_10_5, nb_10_6, nb_11_0, nb_11_1, nb_11_2, nb_11_3, nb_11_4, nb_11_5, nb_11_6, nb_12_0, nb_12_1, nb_12_2, nb_12_3, nb_12_4, nb_12_5, nb_12_6, nb_13_0, nb_13_1, nb_13_2, nb_13_3, nb_13_4, nb_13_5, nb_13_6, nb_14_0, nb_14_1, nb_14_2, nb_14_3, nb_14_4, nb_14_5, nb_14_6]; first | done | exact rfl))
local macro_rules | `(tactic| wtm_at "ln") => `(tactic| first | (with_reducible exact lk_nil) | (simp only [lk_skip, lk_nil, nb_0_0, nb_0_1, nb_0_2, nb_0_3, nb_0_4, nb_0_5, nb_0_6, nb_1_0, nb_1_1, nb_1_2, nb_1_3, nb_1_4, nb_1_5, nb_1_6, nb_2_1, nb_2_2, nb_2_3, nb_2_4, nb_2_5, nb_2_6, nb_3_0, nb_3_2, nb_3_3, nb_3_4, nb_3_5, nb_3_6, nb_4_0, nb_4_1, nb_4_3, nb_4_4, nb_4_5, nb_4_6, nb_5_0, nb_5_1, nb_5_2, nb_5_4, nb_5_5, nb_5_6, nb_6_0, nb_6_1, nb_6_2, nb_6_3, nb_6_4, nb_6_5, nb_6_6, nb_7_0, nb_7_1, nb_7_2, nb_7_3, nb_7_5, nb_7_6, nb_8_0, nb_8_1, nb_8_2, nb_8_3, nb_8_4, nb_8_6, nb_9_0, nb_9_1, nb_9_2, nb_9_3, nb_9_4, nb_9_5, nb_10_0, nb_10_1, nb_10_2, nb_10_3, nb_10_4, nb_10_5, nb_10_6, nb_11_0, nb_11_1, nb_11_2, nb_11_3, nb_11_4, nb_11_5, nb_11_6, nb_12_0, nb_12_1, nb_12_2, nb_12_3, nb_12_4, nb_12_5, nb_12_6, nb_13_0, nb_13_1, nb_13_2, nb_13_3, nb_13_4, nb_13_5, nb_13_6, nb_14_0, nb_14_1, nb_14_2, nb_14_3, nb_14_4, nb_14_5, nb_14_6]; done))
local macro_rules | `(tactic| wtm_at "pu") => `(tactic| first | (with_reducible exact pf_nil) | (simp only [pf_nil, pf_here, pf_skip, nb_0_0, nb_0_1, nb_0_2, nb_0_3, nb_0_4, nb_0_5, nb_0_6, nb_1_0, nb_1_1, nb_1_2, nb_1_3, nb_1_4, nb_1_5, nb_1_6, nb_2_1, nb_2_2, nb_2_3, nb_2_4, nb_2_5, nb_2_6, nb_3_0, nb_3_2, nb_3_3, nb_3_4, nb_3_5, nb_3_6, nb_4_0, nb_4_1, nb_4_3, nb_4_4, nb_4_5, nb_4_6, nb_5_0, nb_5_1, nb_5_2, nb_5_4, nb_5_5, nb_5_6, nb_6_0, nb_6_1, nb_6_2, nb_6_3, nb_6_4, nb_6_5, nb_6_6, nb_7_0, nb_7_1, nb_7_2, nb_7_3, nb_7_5, nb_7_6, nb_8_0, nb_8_1, nb_8_2, nb_8_3, nb_8_4, nb_8_6, nb_9_0, nb_9_1, nb_9_2, nb_9_3, nb_9_4, nb_9_5, nb_10_0, nb_10_1, nb_10_2, nb_10_3, nb_10_4, nb_10_5, nb_10_6, nb_11_0, nb_11_1, nb_11_2, nb_11_3, nb_11_4, nb_11_5, nb_11_6, nb_12_0, nb_12_1, nb_12_2, nb_12_3, nb_12_4, nb_12_5, nb_12_6, nb_13_0, nb_13_1, nb_13_2, nb_13_3, nb_13_4, nb_13_5, nb_13_6, nb_14_0, nb_14_1, nb_14_2, nb_14_3, nb_14_4, nb_14_5, nb_14_6]; first | done | exact rfl))
local macro_rules | `(tactic| wtm_at "tk") => `(tactic| first | (with_reducible exact Take.here) | (exact Take.here) | ((with_reducible apply Take.there); wtm_at "tk"))
local macro_rules | `(tactic| wtm_at "pk") => `(tactic| first | exact Pick.nil | ((with_reducible refine' Pick.cons ?tk1 ?pk1); (case tk1 => wtm_at "tk"); (case pk1 => wtm_at "pk")) | ((with_reducible refine Pick.im (by wtm_at "mem") ?_); wtm_at "pk") | ((with_reducible refine Pick.ims (by wtm_at "mem") ?_); wtm_at "pk"))
section
variable {P : Program} {w : World} {K : PySem.W.Frag} {mg : Str → Option Value} {base : Heap}
/-! a text and two ints -/
def tupS2 (s : Str) (n m : Int) : HO := .tup [.str s, .int n, .int m]
theorem sqT_tupS2 {K : PySem.W.Frag} {H : Hp} {p : Addr} {s : Str} {n m : Int} (h : H p = some (tupS2 s n m)) : SqT K H p [.str s, .int n, .int m] := SqT.of h
theorem dq_tupS2 {K : PySem.W.Frag} {H : Hp} {p : Addr} {s : Str} {n m : Int} (h : SqT K H p [.str s, .int n, .int m]) (l : (PyData.str s).canLay0 = true) : Dq K H (.ref p) (.tuple [.str s, .int n, .int m]) :=
  ⟨.tup h (.cons (.str s) (.cons (.int n) (.cons (.int m) .nil))), by simp [Bel.plain, Bel.plainAl, l], by simp [PyData.depth, PyData.depthAll]⟩


end
end K11

namespace K11
open PySem PySem.Spec PyProof.Rows L2 Bel
local macro_rules | `(tactic| wtm_at "xs") => `(tactic| simp only [x_next, x_seq, x_brk, x_cont, x_drop, x_ret, x_retN, x_if, sel_t, sel_f, selE_t, selE_f, selT_t, selT_f, selC_t, selC_f, x_test, x_tB, x_op, x_un, x_var, x_c, x_cb, x_nil, x_cons, x_rI, x_rI0, x_rU, x_rEq, x_rNe, x_rIxL, x_rIxT, x_rSlL, x_rCat, x_rRep, x_rApp, x_bm, x_bm0, x_sl, x_nopart, x_part, x_tup, x_lst, x_call, x_callS, x_asg, x_gname, x_gtup, x_gnil, x_gcons, x_gsub, x_setL, x_aug, x_ipI, x_ipC, x_bits, x_getL, x_augS, x_and, x_or, x_not, x_k, x_andV, x_orV, x_notV, x_ife, x_chain, x_for, x_ilist, x_itup, x_ienum, x_irng1, x_irng2, x_irev, x_lc, x_yes, wipe_nil, wipe_cons, List.map_cons, List.map_nil, x_misc, x_misc2, x_rz, lookup_at, Bool.not_true, Bool.not_false, decide_true, decide_false, not_true, not_false_eq_true, and_assoc, exists_and_left, exists_eq_left', exists_eq_left, exists_eq', exists_eq_right', exists_eq_right, V.int.injEq, V.ref.injEq, V.bl.injEq, V.str.injEq, List.cons.injEq, and_true, true_and, and_self, Option.some.injEq, List.cons_append, List.nil_append, List.append_nil, List.getElem?_cons_zero, List.getElem?_cons_succ, List.set_cons_zero, List.set_cons_succ, reduceCtorEq, false_and, and_false, exists_false, exists_const, or_false, false_or, scal_ii, scal_bb, scal_ss, List.length_cons, List.length_nil, Int.reduceToNat, Int.reducePow])
local macro_rules | `(tactic| k_call_by "xs" $h:term) => `(tactic| simp only [$h:term, x_next, x_seq, x_brk, x_cont, x_drop, x_ret, x_retN, x_if, sel_t, sel_f, selE_t, selE_f, selT_t, selT_f, selC_t, selC_f, x_test, x_tB, x_op, x_un, x_var, x_c, x_cb, x_nil, x_cons, x_rI, x_rI0, x_rU, x_rEq, x_rNe, x_rIxL, x_rIxT, x_rSlL, x_rCat, x_rRep, x_rApp, x_bm, x_bm0, x_sl, x_nopart, x_part, x_tup, x_lst, x_call, x_callS, x_asg, x_gname, x_gtup, x_gnil, x_gcons, x_gsub, x_setL, x_aug, x_ipI, x_ipC, x_bits, x_getL, x_augS, x_and, x_or, x_not, x_k, x_andV, x_orV, x_notV, x_ife, x_chain, x_for, x_ilist, x_itup, x_ienum, x_irng1, x_irng2, x_irev, x_lc, x_yes, wipe_nil, wipe_cons, List.map_cons, List.map_nil, x_misc, x_misc2, x_rz, lookup_at, Bool.not_true, Bool.not_false, decide_true, decide_false, not_true, not_false_eq_true, and_assoc, exists_and_left, exists_eq_left', exists_eq_left, exists_eq', exists_eq_right', exists_eq_right, V.int.injEq, V.ref.injEq, V.bl.injEq, V.str.injEq, List.cons.injEq, and_true, true_and, and_self, Option.some.injEq, List.cons_append, List.nil_append, List.append_nil, List.getElem?_cons_zero, List.getElem?_cons_succ, List.set_cons_zero, List.set_cons_succ, reduceCtorEq, false_and, and_false, exists_false, exists_const, or_false, false_or, scal_ii, scal_bb, scal_ss, List.length_cons, List.length_nil, Int.reduceToNat, Int.reducePow])
local macro_rules | `(tactic| wtm_at "hp") => `(tactic| first | (with_reducible assumption) | exact upd_same | (refine upd_keep (by with_reducible assumption) ?_; wtm_at "hp") | (refine Same.get (by with_reducible assumption) ?_; wtm_at "hp") | (refine upd_other (by first | (with_reducible assumption) | exact Ne.symm (by with_reducible assumption)) ?_; wtm_at "hp"))
local macro_rules | `(tactic| wtm_at "sq") => `(tactic| first | (with_reducible assumption) | exact SqL.of (by wtm_at "hp") | exact SqT.of (by wtm_at "hp") | (refine Same.seq (same_upd (by with_reducible assumption)) ?_; wtm_at "sq") | (refine Same.seq (by with_reducible assumption) ?_; wtm_at "sq") | (refine Same.seqT (same_upd (by with_reducible assumption)) ?_; wtm_at "sq") | (refine Same.seqT (by with_reducible assumption) ?_; wtm_at "sq"))
local macro_rules | `(tactic| wtm_at "cl") => `(tactic| first | (with_reducible assumption) | omega | (exact cmul_r (by omega) (by omega)) | (exact cmul_l (by omega) (by omega)) | (exact cdiv_ok (by omega) (by omega)) | (exact cpow_ok (by decide)) | (exact ⟨by omega, by omega, by omega⟩) | decide | (exact ⟨by omega, by omega⟩) | (simp only [List.length_append, List.length_map, List.length_cons, List.length_nil, rngL_len, sizeLine_eq]; omega) | wtm_at "hp" | wtm_at "sq")
local macro_rules | `(tactic| wtm_at "pf") => `(tactic| first | (with_reducible assumption) | omega | (simp only [List.length_append, List.length_map, List.length_cons, List.length_nil, rngL_len]; omega) | (with_reducible rfl) | (with_reducible trivial) | (with_reducible decide))
local macro_rules | `(tactic| wtm_at "st") => `(tactic| first | ((with_reducible refine g_at ?_); refine at_call (by wtm_at "sq") (by omega) (by omega) (fun _ _ => ?_)) | ((with_reducible refine g_row ?_); refine row_call (by wtm_at "hp") ?_) | ((with_reducible refine g_int ?_); refine int_call ?_) | ((with_reducible refine g_isi ?_); first | (refine isi_int rfl ?_) | (refine isi_lst rfl (by wtm_at "hp") ?_) | (refine isi_tup rfl (by wtm_at "hp") ?_)) | ((with_reducible refine g_ned ?_); refine ned_f (dq_lst (by wtm_at "sq")) (dq_lst (by wtm_at "sq")) ?_) | ((with_reducible refine g_eqd ?_); refine eqd_t (dq_lst (by wtm_at "sq")) (dq_lst (by wtm_at "sq")) ?_) | ((with_reducible refine g_tyv ?_); refine and_tyv (by wtm_at "sq") ?_) | ((with_reducible refine g_asq ?_); refine and_sq (by wtm_at "sq") ?_) | ((with_reducible refine g_lst ?_); refine ex_lst (by wtm_at "hp") ?_) | ((with_reducible refine g_or ?_); first | (refine ex_or (by wtm_at "sq") ?_) | (refine ex_ort (by wtm_at "sq") ?_)) | ((with_reducible refine g_sq ?_); refine ex_sq (by wtm_at "sq") ?_) | ((with_reducible refine g_sqt ?_); refine ex_sqt (by wtm_at "sq") ?_) | ((with_reducible refine gd_sel ?_); first | (refine sel_p (by wtm_at "pf") ?_) | (refine sel_n (by wtm_at "pf") ?_)) | ((with_reducible refine gn_sel ?_); first | (refine selN_p (by wtm_at "pf") ?_) | (refine selN_n (by wtm_at "pf") ?_)) | ((with_reducible refine gd_selT ?_); first | (refine selT_p (by wtm_at "pf") ?_) | (refine selT_n (by wtm_at "pf") ?_)) | ((with_reducible refine gn_selT ?_); first | (refine selTN_p (by wtm_at "pf") ?_) | (refine selTN_n (by wtm_at "pf") ?_)) | ((with_reducible refine gd_selE ?_); first | (refine selE_p (by wtm_at "pf") ?_) | (refine selE_n (by wtm_at "pf") ?_)) | ((with_reducible refine gn_selE ?_); first | (refine selEN_p (by wtm_at "pf") ?_) | (refine selEN_n (by wtm_at "pf") ?_)) | ((with_reducible refine g_xf ?_); refine xf_at rfl (by wtm_at "hp") ?_) | ((with_reducible refine g_atI ?_); refine ex_at (by first | exact rfl | exact atI_int (by omega) (by wtm_at "pf")) ?_) | ((with_reducible refine g_and ?_); refine And.intro (by wtm_at "cl") ?_) | ((with_reducible refine g_new ?_); intro _ _))
local macro_rules | `(tactic| wtm_at "go") => `(tactic| repeat (first | wtm_at "xs" | wtm_at "st"))
local macro_rules | `(tactic| wtm_at "xo") => `(tactic| simp only [x_next, x_seq, x_brk, x_cont, x_drop, x_ret, x_retN, x_if, sel_t, sel_f, selE_t, selE_f, selT_t, selT_f, selC_t, selC_f, x_test, x_tB, x_op, x_un, x_var, x_c, x_cb, x_nil, x_cons, x_rI, x_rI0, x_rU, x_rEq, x_rNe, x_rIxL, x_rIxT, n_rSlL, n_rCat, n_rRep, n_rApp, x_bm, x_bm0, x_sl, x_nopart, x_part, n_tup, n_lst, x_call, x_callS, x_asg, x_gname, x_gtup, x_gnil, x_gcons, x_gsub, n_setL, x_aug, x_ipI, x_ipC, x_bits, x_getL, x_augS, x_and, x_or, x_not, x_k, x_andV, x_orV, x_notV, x_ife, x_chain, x_for, x_ilist, x_itup, x_ienum, x_irng1, x_irng2, x_irev, x_lc, x_yes, wipe_nil, wipe_cons, List.map_cons, List.map_nil, x_misc, x_misc2, x_rz, lookup_at, Bool.not_true, Bool.not_false, decide_true, decide_false, not_true, not_false_eq_true, and_assoc, exists_and_left, exists_eq_left', exists_eq_left, exists_eq', exists_eq_right', exists_eq_right, V.int.injEq, V.ref.injEq, V.bl.injEq, V.str.injEq, List.cons.injEq, and_true, true_and, and_self, Option.some.injEq, List.cons_append, List.nil_append, List.append_nil, List.getElem?_cons_zero, List.getElem?_cons_succ, List.set_cons_zero, List.set_cons_succ, reduceCtorEq, false_and, and_false, exists_false, exists_const, or_false, false_or, scal_ii, scal_bb, scal_ss, List.length_cons, List.length_nil, Int.reduceToNat, Int.reducePow, n_fld, n_dnew, n_dput, n_din, n_dget, n_dget2, n_glst, n_sfld, n_aug, n_meth, n_mw, n_make, n_kw, n_rLs, t_s1, t_i1, t_i2, t_i3, t_i4, t_i5, x_chain3, x_irng3, x_irevR, x_rg1, x_rg2, ints_cat, ints_app1, ints_len, ints_take, ints_drop, rep_one])
local macro_rules | `(tactic| k_call_by "xo" $h:term) => `(tactic| simp only [$h:term, x_next, x_seq, x_brk, x_cont, x_drop, x_ret, x_retN, x_if, sel_t, sel_f, selE_t, selE_f, selT_t, selT_f, selC_t, selC_f, x_test, x_tB, x_op, x_un, x_var, x_c, x_cb, x_nil, x_cons, x_rI, x_rI0, x_rU, x_rEq, x_rNe, x_rIxL, x_rIxT, n_rSlL, n_rCat, n_rRep, n_rApp, x_bm, x_bm0, x_sl, x_nopart, x_part, n_tup, n_lst, x_call, x_callS, x_asg, x_gname, x_gtup, x_gnil, x_gcons, x_gsub, n_setL, x_aug, x_ipI, x_ipC, x_bits, x_getL, x_augS, x_and, x_or, x_not, x_k, x_andV, x_orV, x_notV, x_ife, x_chain, x_for, x_ilist, x_itup, x_ienum, x_irng1, x_irng2, x_irev, x_lc, x_yes, wipe_nil, wipe_cons, List.map_cons, List.map_nil, x_misc, x_misc2, x_rz, lookup_at, Bool.not_true, Bool.not_false, decide_true, decide_false, not_true, not_false_eq_true, and_assoc, exists_and_left, exists_eq_left', exists_eq_left, exists_eq', exists_eq_right', exists_eq_right, V.int.injEq, V.ref.injEq, V.bl.injEq, V.str.injEq, List.cons.injEq, and_true, true_and, and_self, Option.some.injEq, List.cons_append, List.nil_append, List.append_nil, List.getElem?_cons_zero, List.getElem?_cons_succ, List.set_cons_zero, List.set_cons_succ, reduceCtorEq, false_and, and_false, exists_false, exists_const, or_false, false_or, scal_ii, scal_bb, scal_ss, List.length_cons, List.length_nil, Int.reduceToNat, Int.reducePow, n_fld, n_dnew, n_dput, n_din, n_dget, n_dget2, n_glst, n_sfld, n_aug, n_meth, n_mw, n_make, n_kw, n_rLs, t_s1, t_i1, t_i2, t_i3, t_i4, t_i5, x_chain3, x_irng3, x_irevR, x_rg1, x_rg2, ints_cat, ints_app1, ints_len, ints_take, ints_drop, rep_one])
local macro_rules | `(tactic| wtm_at "mem") => `(tactic| first | (with_reducible exact mem_here) | (with_reducible refine mem_there ?_; wtm_at "mem"))
local macro_rules | `(tactic| wtm_at "pp") => `(tactic| first | (with_reducible exact Put.here) | (with_reducible apply Put.there; wtm_at "pp"))
local macro_rules | `(tactic| wtm_at "ho") => `(tactic| first | (with_reducible assumption) | exact Own.get (by with_reducible assumption) (by wtm_at "mem") | exact Own.base (by with_reducible assumption) (by with_reducible assumption))
local macro_rules | `(tactic| wtm_at "qo") => `(tactic| first | (with_reducible assumption) | exact SqL.of (by wtm_at "ho") | exact sqT_tupI (by wtm_at "ho") | exact sqT_tupS (by wtm_at "ho") | exact SqT.of (by wtm_at "ho") | exact Own.imT (by with_reducible assumption) (by wtm_at "mem") | exact Own.sq (by with_reducible assumption) (by with_reducible assumption) | exact Own.sqT (by with_reducible assumption) (by with_reducible assumption))
local macro_rules | `(tactic| wtm_at "sub") => `(tactic| first | exact List.nil_sublist _ | (with_reducible refine List.Sublist.cons_cons _ ?_; wtm_at "sub") | (refine List.Sublist.cons _ ?_; wtm_at "sub"))
local macro_rules | `(tactic| wtm_at "co") => `(tactic| first | (with_reducible assumption) | omega | (exact cmul_r (by omega) (by omega)) | (exact cmul_l (by omega) (by omega)) | (exact cdiv_ok (by omega) (by omega)) | (exact cpow_ok (by decide)) | (exact ⟨by omega, by omega, by omega⟩) | decide | (exact ⟨by omega, by omega⟩) | (simp only [List.length_append, List.length_map, List.length_cons, List.length_nil, rngL_len, sizeLine_eq]; omega) | wtm_at "ho" | wtm_at "qo")
local macro_rules | `(tactic| wtm_at "so") => `(tactic| first | ((with_reducible refine g_dputO ?_); refine dputI (by with_reducible assumption) (by wtm_at "pp") (by wtm_at "co") (fun _ _ => ?_)) | ((with_reducible refine g_dinO ?_); refine dinI (by wtm_at "ho") ?_) | ((with_reducible refine g_isDO ?_); refine isDO (by wtm_at "ho") ?_) | ((with_reducible refine g_dg2 ?_); refine dg2I (by wtm_at "ho") ?_) | ((with_reducible refine g_fldO ?_); refine fldO (by wtm_at "ho") (by with_reducible assumption) (by wtm_at "mem") (by wtm_at "lk") ?_) | ((with_reducible refine g_fldC ?_); refine fldC (by wtm_at "ho") (by with_reducible assumption) (by wtm_at "mem") (by wtm_at "lk") ?_) | ((with_reducible refine g_putC ?_); refine putC (by with_reducible assumption) (by wtm_at "pp") (by wtm_at "pu") (by wtm_at "co") (fun _ _ => ?_)) | ((with_reducible refine g_stoO ?_); refine stoO (by with_reducible assumption) (by wtm_at "pp") (by wtm_at "pu") (by with_reducible assumption) (by wtm_at "mem") (by wtm_at "co") (fun _ _ => ?_)) | ((with_reducible refine g_metO ?_); refine metO (by wtm_at "ho") (by wtm_at "ln") ?_) | ((with_reducible refine g_makO ?_); refine makO (by with_reducible assumption) (fun _ _ _ _ => ?_)) | ((with_reducible refine g_sum ?_); refine sum_call (by wtm_at "qo") ?_) | ((with_reducible refine g_cq ?_); exact cq (by with_reducible assumption) (by simp only [rngL_len, List.length_map, List.length_take]; omega)) | ((with_reducible refine g_newO ?_); refine newO (by with_reducible assumption) (fun _ _ _ => ?_)) | ((with_reducible refine g_appO ?_); refine appI (by with_reducible assumption) (by wtm_at "pp") (by wtm_at "co") (fun _ _ => ?_)) | ((with_reducible refine g_setO ?_); refine setI (by with_reducible assumption) (by wtm_at "pp") (by omega) (by wtm_at "co") (fun _ _ => ?_)) | ((with_reducible refine g_appO ?_); refine appO (by with_reducible assumption) (by wtm_at "pp") (by wtm_at "co") (fun _ _ => ?_)) | ((with_reducible refine g_setO ?_); refine setO (by with_reducible assumption) (by wtm_at "pp") (by omega) (by wtm_at "co") (fun _ _ => ?_)) | ((with_reducible refine g_at ?_); refine at_call (by wtm_at "qo") (by omega) (by omega) (fun _ _ => ?_)) | ((with_reducible refine g_row ?_); refine row_call (by wtm_at "ho") ?_) | ((with_reducible refine g_int ?_); refine int_call ?_) | ((with_reducible refine g_isi ?_); first | (refine isi_int rfl ?_) | (refine isi_sqL rfl (by wtm_at "qo") ?_) | (refine isi_sqT rfl (by wtm_at "qo") ?_) | (refine isi_bl rfl ?_) | (refine isi_non rfl ?_) | (refine isi_str rfl ?_)) | ((with_reducible refine g_ned ?_); first | (refine ned_f (dq_lst (by wtm_at "qo")) (dq_lst (by wtm_at "qo")) ?_) | (refine ned_ints (by wtm_at "qo") (by wtm_at "qo") ?_) | (refine nedT_ints (by wtm_at "qo") (by wtm_at "qo") ?_)) | ((with_reducible refine g_eqd ?_); first | (refine eqd_t (dq_lst (by wtm_at "qo")) (dq_lst (by wtm_at "qo")) ?_) | (refine eqd_ints (by wtm_at "qo") (by wtm_at "qo") ?_) | (refine eqdT_ints (by wtm_at "qo") (by wtm_at "qo") ?_)) | ((with_reducible refine g_tyv ?_); refine and_tyv (by wtm_at "qo") ?_) | ((with_reducible refine g_asq ?_); refine and_sq (by wtm_at "qo") ?_) | ((with_reducible refine g_lst ?_); refine ex_lst (by wtm_at "ho") ?_) | ((with_reducible refine g_or ?_); first | (refine ex_or (by wtm_at "qo") ?_) | (refine ex_ort (by wtm_at "qo") ?_)) | ((with_reducible refine g_sq ?_); refine ex_sq (by wtm_at "qo") ?_) | ((with_reducible refine g_sqt ?_); refine ex_sqt (by wtm_at "qo") ?_) | ((with_reducible refine gd_sel ?_); first | (refine sel_p (by wtm_at "pf") ?_) | (refine sel_n (by wtm_at "pf") ?_)) | ((with_reducible refine gn_sel ?_); first | (refine selN_p (by wtm_at "pf") ?_) | (refine selN_n (by wtm_at "pf") ?_)) | ((with_reducible refine gd_selT ?_); first | (refine selT_p (by wtm_at "pf") ?_) | (refine selT_n (by wtm_at "pf") ?_)) | ((with_reducible refine gn_selT ?_); first | (refine selTN_p (by wtm_at "pf") ?_) | (refine selTN_n (by wtm_at "pf") ?_)) | ((with_reducible refine gd_selE ?_); first | (refine selE_p (by wtm_at "pf") ?_) | (refine selE_n (by wtm_at "pf") ?_)) | ((with_reducible refine gn_selE ?_); first | (refine selEN_p (by wtm_at "pf") ?_) | (refine selEN_n (by wtm_at "pf") ?_)) | ((with_reducible refine g_xf ?_); refine xf_at rfl (by wtm_at "ho") ?_) | ((with_reducible refine g_atI ?_); refine ex_at (by first | exact rfl | exact atI_int (by omega) (by wtm_at "pf")) ?_) | ((with_reducible refine g_and ?_); refine And.intro (by wtm_at "co") ?_))
local macro_rules | `(tactic| wtm_at "oo") => `(tactic| repeat (first | wtm_at "xo" | wtm_at "so"))
local macro_rules | `(tactic| wtm_at "cR") => `(tactic| (refine' compRi _ (by with_reducible assumption) (by omega) (fun _ _ _ _ _ => ?_) (fun _ _ _ => ?_); rotate_left; focus (wtm_at "oo")))

local macro_rules | `(tactic| wtm_at "lk") => `(tactic| first | (with_reducible exact lk_here) | (simp only [lk_here, lk_skip, lk_nil, nb_0_0, nb_0_1, nb_0_2, nb_0_3, nb_0_4, nb_0_5, nb_0_6, nb_1_0, nb_1_1, nb_1_2, nb_1_3, nb_1_4, nb_1_5, nb_1_6, nb_2_1, nb_2_2, nb_2_3, nb_2_4, nb_2_5, nb_2_6, nb_3_0, nb_3_2, nb_3_3, nb_3_4, nb_3_5, nb_3_6, nb_4_0, nb_4_1, nb_4_3, nb_4_4, nb_4_5, nb_4_6, nb_5_0, nb_5_1, nb_5_2, nb_5_4, nb_5_5, nb_5_6, nb_6_0, nb_6_1, nb_6_2, nb_6_3, nb_6_4, nb_6_5, nb_6_6, nb_7_0, nb_7_1, nb_7_2, nb_7_3, nb_7_5, nb_7_6, nb_8_0, nb_8_1, nb_8_2, nb_8_3, nb_8_4, nb_8_6, nb_9_0, nb_9_1, nb_9_2, nb_9_3, nb_9_4, nb_9_5, nb_10_0, nb_10_1, nb_10_2, nb_10_3, nb_10_4, nb_10_5, nb_10_6, nb_11_0, nb_11_1, nb_11_2, nb_11_3, nb_11_4, nb_11_5, nb_11_6, nb_12_0, nb_12_1, nb_12_2, nb_12_3, nb_12_4, nb_12_5, nb_12_6, nb_13_0, nb_13_1, nb_13_2, nb_13_3, nb_13_4, nb_13_5, nb_13_6, nb_14_0, nb_14_1, nb_14_2, nb_14_3, nb_14_4, nb_14_5, nb_14_6]; first | done | exact rfl))
local macro_rules | `(tactic| wtm_at "ln") => `(tactic| first | (with_reducible exact lk_nil) | (simp only [lk_skip, lk_nil, nb_0_0, nb_0_1, nb_0_2, nb_0_3, nb_0_4, nb_0_5, nb_0_6, nb_1_0, nb_1_1, nb_1_2, nb_1_3, nb_1_4, nb_1_5, nb_1_6, nb_2_1, nb_2_2, nb_2_3, nb_2_4, nb_2_5, nb_2_6, nb_3_0, nb_3_2, nb_3_3, nb_3_4, nb_3_5, nb_3_6, nb_4_0, nb_4_1, nb_4_3, nb_4_4, nb_4_5, nb_4_6, nb_5_0, nb_5_1, nb_5_2, nb_5_4, nb_5_5, nb_5_6, nb_6_0, nb_6_1, nb_6_2, nb_6_3, nb_6_4, nb_6_5, nb_6_6, nb_7_0, nb_7_1, nb_7_2, nb_7_3, nb_7_5, nb_7_6, nb_8_0, nb_8_1, nb_8_2, nb_8_3, nb_8_4, nb_8_6, nb_9_0, nb_9_1, nb_9_2, nb_9_3, nb_9_4, nb_9_5, nb_10_0, nb_10_1, nb_10_2, nb_10_3, nb_10_4, nb_10_5, nb_10_6, nb_11_0, nb_11_1, nb_11_2, nb_11_3, nb_11_4, nb_11_5, nb_11_6, nb_12_0, nb_12_1, nb_12_2, nb_12_3, nb_12_4, nb_12_5, nb_12_6, nb_13_0, nb_13_1, nb_13_2, nb_13_3, nb_13_4, nb_13_5, nb_13_6, nb_14_0, nb_14_1, nb_14_2, nb_14_3, nb_14_4, nb_14_5, nb_14_6]; done))
local macro_rules | `(tactic| wtm_at "pu") => `(tactic| first | (with_reducible exact pf_nil) | (simp only [pf_nil, pf_here, pf_skip, nb_0_0, nb_0_1, nb_0_2, nb_0_3, nb_0_4, nb_0_5, nb_0_6, nb_1_0, nb_1_1, nb_1_2, nb_1_3, nb_1_4, nb_1_5, nb_1_6, nb_2_1, nb_2_2, nb_2_3, nb_2_4, nb_2_5, nb_2_6, nb_3_0, nb_3_2, nb_3_3, nb_3_4, nb_3_5, nb_3_6, nb_4_0, nb_4_1, nb_4_3, nb_4_4, nb_4_5, nb_4_6, nb_5_0, nb_5_1, nb_5_2, nb_5_4, nb_5_5, nb_5_6, nb_6_0, nb_6_1, nb_6_2, nb_6_3, nb_6_4, nb_6_5, nb_6_6, nb_7_0, nb_7_1, nb_7_2, nb_7_3, nb_7_5, nb_7_6, nb_8_0, nb_8_1, nb_8_2, nb_8_3, nb_8_4, nb_8_6, nb_9_0, nb_9_1, nb_9_2, nb_9_3, nb_9_4, nb_9_5, nb_10_0, nb_10_1, nb_10_2, nb_10_3, nb_10_4, nb_10_5, nb_10_6, nb_11_0, nb_11_1, nb_11_2, nb_11_3, nb_11_4, nb_11_5, nb_11_6, nb_12_0, nb_12_1, nb_12_2, nb_12_3, nb_12_4, nb_12_5, nb_12_6, nb_13_0, nb_13_1, nb_13_2, nb_13_3, nb_13_4, nb_13_5, nb_13_6, nb_14_0, nb_14_1, nb_14_2, nb_14_3, nb_14_4, nb_14_5, nb_14_6]; first | done | exact rfl))
local macro_rules | `(tactic| wtm_at "tk") => `(tactic| first | (with_reducible exact Take.here) | (exact Take.here) | ((with_reducible apply Take.there); wtm_at "tk"))
local macro_rules | `(tactic| wtm_at "pk") => `(tactic| first | exact Pick.nil | ((with_reducible refine' Pick.cons ?tk1 ?pk1); (case tk1 => wtm_at "tk"); (case pk1 => wtm_at "pk")) | ((with_reducible refine Pick.im (by wtm_at "mem") ?_); wtm_at "pk") | ((with_reducible refine Pick.ims (by wtm_at "mem") ?_); wtm_at "pk"))
section
variable {P : Program} {w : World} {K : PySem.W.Frag} {mg : Str → Option Value} {base : Heap}
/-- what the law is told of a reading: a word, a number, the place behind -/
def rdT (ls ds : List Int) (pl en : Int) : Str × Int × Int := match resOf ls (bnum ds / 2 ^ pl.toNat) (en - pl).toNat with
  | .sym k w => ("symbol", (k : Int), pl + (w : Int))
  | .cut => ("Truncated", en, pl)
  | .bad => ("BadCode", pl, pl)
theorem rdT_bad {ls ds : List Int} {pl en : Int} (e : resOf ls (bnum ds / 2 ^ pl.toNat) (en - pl).toNat = .bad) : rdT ls ds pl en = (("BadCode" : Str), pl, pl) := by
  unfold rdT
  rw [e]
theorem rdT_cut {ls ds : List Int} {pl en : Int} (e : resOf ls (bnum ds / 2 ^ pl.toNat) (en - pl).toNat = .cut) : rdT ls ds pl en = (("Truncated" : Str), en, pl) := by
  unfold rdT
  rw [e]
theorem rdT_sym {ls ds : List Int} {pl en : Int} {k w : Nat} (e : resOf ls (bnum ds / 2 ^ pl.toNat) (en - pl).toNat = .sym k w) : rdT ls ds pl en = (("symbol" : Str), (k : Int), pl + (w : Int)) := by
  unfold rdT
  rw [e]
theorem t_s2 {s : Str} {n m : Int} : HO.tup [.str s, .int n, .int m] = tupS2 s n m := rfl
def sp__law_due (K : PySem.W.Frag) : Sp := fun vs H Q _ => ∃ (a m dd : Addr) (ls ds : List Int) (pl en : Int), vs = [.ref a, .ref m, .ref dd, .int pl, .int en] ∧ SqL K H a (ls.map V.int) ∧ SqL K H m ((cdL ls).map V.int) ∧ SqL K H dd (ds.map V.int) ∧ okLen ls ∧ wts ls ≤ 32768 ∧ 0 < ls.length ∧ RSt ds pl en ∧
  ∀ t H', Own K H H' [.pt t (tupS2 (rdT ls ds pl en).1 (rdT ls ds pl en).2.1 (rdT ls ds pl en).2.2)] → Q (.ref t) H'
theorem ok__law_due (T : Tx K mg) : Cl P w K mg base 1 "_law_due" ["lengths", "made", "data", "at", "end"] (sp__law_due K) [] := by
  obtain ⟨gm, fd, F⟩ := T.d__law_due
  refine ⟨_, fd, [], F.ok sc__law_due (fun vs H Q E h => ?_) (fun cdv A outer s H vs Q E hr h => ⟨_, (PSs.nox (pss_cons (ps_if (pt_cmpR op_eq (pe_callB (maxK K rfl) rfl T.b_max (by decide +kernel) (pa_cons (pv 0) pa_nil)) pe_int (nomark _))
 (pss_one (ps_ret (by exact (pe_tup (pa_cons pe_str (pa_cons (pv 3) (pa_cons (pv 3) pa_nil)))))))
 pss_nil)
 (pss_cons (ps_set (i := 5) sc__law_due.nd rfl (Or.inl rfl) (by exact pe_int))
 (pss_cons (ps_for PassesOwn.never rfl (pi_range2 rfl T.b_range (pa_cons pe_int (pa_cons pe_int pa_nil))) (pg_name (i := 6) sc__law_due.nd rfl (Or.inl rfl))
 (pss_cons (ps_set (i := 7) sc__law_due.nd rfl (Or.inl rfl) (by exact (pe_op op_sub (pe_op op_add (pv 3) (pv 6)) pe_int)))
 (pss_cons (ps_if (pt_cmpR op_ge (pv 7) (pv 4) (nomark _))
 (pss_one (ps_ret (by exact (pe_tup (pa_cons pe_str (pa_cons (pv 4) (pa_cons (pv 3) pa_nil)))))))
 pss_nil)
 (pss_cons (ps_set (i := 5) sc__law_due.nd rfl (Or.inl rfl) (by exact (pe_op op_add (pe_op op_mul pe_int (pv 5)) (pe_op op_mod (pe_callTy call_int1 rfl T.b_int (by decide +kernel) (pa_cons (pe_op op_shr (pe_ix (ixl K) (pv 2) (pe_op op_fdiv (pv 7) pe_int) (fun _ _ => rfl)) (pe_op op_mod (pe_callTy call_int1 rfl T.b_int (by decide +kernel) (pa_cons (pv 7) pa_nil)) pe_int)) pa_nil)) pe_int))))
 (pss_cons (ps_set (i := 8) sc__law_due.nd rfl (Or.inl rfl) (by exact pe_bl))
 (pss_cons (ps_for PassesOwn.never rfl (pi_range1 rfl T.b_range (pa_cons (pe_callB (lenK K) rfl T.b_len (by decide +kernel) (pa_cons (pv 0) pa_nil)) pa_nil)) (pg_name (i := 9) sc__law_due.nd rfl (Or.inl rfl))
 (pss_cons (ps_if (PW.pt (pw_and (pt_cmpR op_eq (pe_ix (ixl K) (pv 0) (pv 9) (fun _ _ => rfl)) (pv 6) (nomark _)) (pw_and1 (pt_cmpR op_eq (pe_ix (ixl K) (pv 1) (pv 9) (fun _ _ => rfl)) (pv 5) (nomark _)))))
 (pss_one (ps_ret (by exact (pe_tup (pa_cons pe_str (pa_cons (pv 9) (pa_cons (pe_op op_add (pv 7) pe_int) pa_nil)))))))
 pss_nil)
 (pss_one (ps_if (PW.pt (pw_and (pt_cmpR op_gt (pe_ix (ixl K) (pv 0) (pv 9) (fun _ _ => rfl)) (pv 6) (nomark _)) (pw_and1 (pt_cmpR op_eq (pe_op op_shr (pe_ix (ixl K) (pv 1) (pv 9) (fun _ _ => rfl)) (pe_op op_sub (pe_ix (ixl K) (pv 0) (pv 9) (fun _ _ => rfl)) (pv 6))) (pv 5) (nomark _)))))
 (pss_one (ps_set (i := 8) sc__law_due.nd rfl (Or.inl rfl) (by exact pe_bl)))
 pss_nil))))
 (pss_one (ps_if (pt_not (pt_val (pv 8)))
 (pss_one (ps_ret (by exact (pe_tup (pa_cons pe_str (pa_cons (pv 3) (pa_cons (pv 3) pa_nil)))))))
 pss_nil))))))))
 (pss_one (ps_ret (by exact (pe_tup (pa_cons pe_str (pa_cons pe_int (pa_cons (pv 3) pa_nil))))))))))), ?_⟩), gm, F.kp, F.bindsN (fun _ _ _ _ _ _ us hl => match us, hl with | [_, _, _, _, _], _ => rfl), .nil⟩
  · first | (obtain ⟨rfl, _⟩ := h; rfl) | (obtain ⟨_, rfl, _⟩ := h; rfl) | (obtain ⟨_, _, rfl, _⟩ := h; rfl) | (obtain ⟨_, _, _, rfl, _⟩ := h; rfl) | (obtain ⟨_, _, _, _, rfl, _⟩ := h; rfl) | (obtain ⟨_, _, _, _, _, rfl, _⟩ := h; rfl) | (obtain ⟨_, _, _, _, _, _, rfl, _⟩ := h; rfl) | (obtain ⟨_, _, _, _, _, _, _, rfl, _⟩ := h; rfl) | (obtain ⟨_, _, _, _, _, _, _, _, rfl, _⟩ := h; rfl) | (obtain ⟨_, _, _, _, _, _, _, _, _, rfl, _⟩ := h; rfl) | (obtain ⟨_, _, _, _, _, _, _, _, _, _, rfl, _⟩ := h; rfl) | (obtain ⟨_, _, _, _, _, _, _, _, _, _, _, rfl, _⟩ := h; rfl) | (obtain ⟨_, _, _, _, _, _, _, _, _, _, _, _, rfl, _⟩ := h; rfl) | (obtain ⟨_, _, _, _, _, _, _, _, _, _, _, _, _, rfl, _⟩ := h; rfl) | (obtain ⟨_, _, _, _, _, _, _, _, _, _, _, _, _, _, rfl, _⟩ := h; rfl) | (obtain ⟨_, _, _, _, _, _, _, _, _, _, _, _, _, _, _, rfl, _⟩ := h; rfl) | (obtain ⟨_, _, _, _, _, _, _, _, _, _, _, _, _, _, _, _, rfl, _⟩ := h; rfl) | (obtain ⟨_, _, _, _, _, _, _, _, _, _, _, _, _, _, _, _, _, rfl, _⟩ := h; rfl) | (obtain ⟨_, _, _, _, _, _, _, _, _, _, _, _, _, _, _, _, _, _, rfl, _⟩ := h; rfl) | (obtain ⟨_, _, _, _, _, _, _, _, _, _, _, _, _, _, _, _, _, _, _, rfl, _⟩ := h; rfl) | (obtain ⟨_, _, _, _, _, _, _, _, _, _, _, _, _, _, _, _, _, _, _, _, rfl, _⟩ := h; rfl) | (obtain ⟨_, _, _, _, _, _, _, _, _, _, _, _, _, _, _, _, _, _, _, _, _, rfl, _⟩ := h; rfl)
  · obtain ⟨a, m, dd, ls, ds, pl, en, rfl, hA, hM, hD, ok, hw, hl0, rs, q⟩ := h
    k_call_by "xo" st__law_due
    have L := Own.start (K := K) (H := H)
    have ok0 := rs.p0
    have ok1 := rs.pe
    have ok2 := rs.e1
    have ok3 := rs.len
    have hlen := ok.len
    have hcl : (cdL ls).length = ls.length := rngL_len
    refine max_call hA hl0 fun mx hmx hall => ?_
    wtm_at "oo"
    refine sel_d (fun cz => ?_) (fun cz => ?_)
    · have e0 : resOf ls (bnum ds / 2 ^ pl.toNat) (en - pl).toNat = .bad := if_pos (wts_all0 fun x hx => by
        have := hall x hx
        have := ok.lo x hx
        omega)
      rw [rdT_bad e0] at q
      wtm_at "oo"
      rename_i t H1 L1
      exact q t H1 L1
    · have hwp := wts_pos hmx (by have := ok.lo mx hmx; omega) (ok.hi mx hmx)
      have eres : resOf ls (bnum ds / 2 ^ pl.toNat) (en - pl).toNat = rdF ls (bnum ds / 2 ^ pl.toNat) (en - pl).toNat 16 1 := if_neg (by omega)
      have hbit : ∀ i : Nat, pl + (i : Int) < en → bnum ds / 2 ^ pl.toNat / 2 ^ i % 2 = ds.getD ((pl + (i : Int)) / 8).toNat 0 / 2 ^ ((pl + (i : Int)) % 8).toNat % 2 := by
        intro i hi
        rw [Int.ediv_ediv_of_nonneg (Int.le_of_lt pow2_pos), ← Int.pow_add, bit_of rs.by_ (by omega), show ((pl + (i : Int)) / 8).toNat = (pl.toNat + i) / 8 by omega, show ((pl + (i : Int)) % 8).toNat = (pl.toNat + i) % 8 by omega]
      obtain ⟨lf, elf, elf2⟩ : ∃ lf : Nat, (en - pl).toNat = lf ∧ (lf : Int) = en - pl := ⟨_, rfl, by omega⟩
      have qb := fun e => rdT_bad (ls := ls) (ds := ds) (pl := pl) (en := en) (eres.trans e)
      have qc := fun e => rdT_cut (ls := ls) (ds := ds) (pl := pl) (en := en) (eres.trans e)
      have qs := fun k w e => rdT_sym (ls := ls) (ds := ds) (pl := pl) (en := en) (k := k) (w := w) (eres.trans e)
      rw [elf] at qb qc qs
      generalize rdT ls ds pl en = R at *
      generalize bnum ds / 2 ^ pl.toNat = S at *
      clear eres
      wtm_at "oo"
      refine loop_rangeN (m := 16) rfl (fun i σ H' => ∃ y6 y7 y8 y9, σ = [some (.ref a), some (.ref m), some (.ref dd), some (.int pl), some (.int en), some (.int (revB S i)), y6, y7, y8, y9] ∧ H' = H ∧ rdF ls S lf (16 - i) (i + 1) = rdF ls S lf 16 1 ∧ i ≤ 14) ⟨none, none, none, none, rfl, rfl, rfl, by decide⟩ ?_ ?_
      · rintro i σ H' hi ⟨y6, y7, y8, y9, rfl, rfl, ef, i14⟩
        rw [show 16 - i = (15 - i) + 1 by omega] at ef
        have ep : pl + (1 + (i : Int)) - 1 = pl + (i : Int) := by omega
        wtm_at "oo"
        rw [ep]
        refine sel_d (fun c1 => ?_) (fun c1 => ?_)
        · rw [qc (by rw [← ef]; exact rdF_cut (by omega))] at q
          wtm_at "oo"
          rename_i t H1 L1
          exact q t H1 L1
        · have hb := hbit i (by omega)
          have erev : 2 * revB S i + S / 2 ^ i % 2 = revB S (i + 1) := rfl
          rw [hb] at erev
          wtm_at "oo"
          rw [erev]
          wtm_at "oo"
          refine loop_rangeN (m := ls.length) (by omega) (fun j σ H2 => ∃ y9, σ = [some (.ref a), some (.ref m), some (.ref dd), some (.int pl), some (.int en), some (.int (revB S (i + 1))), some (.int (1 + (i : Int))), some (.int (pl + (i : Int))), some (.bl (goTo ls S (i + 1) j)), y9] ∧ H2 = H' ∧ ∀ k, k < j → ¬ codeIs ls S (i + 1) k) ⟨_, rfl, rfl, fun k hk => absurd hk (Nat.not_lt_zero _)⟩ ?_ ?_
          · rintro j σ H2 hj ⟨y9, rfl, rfl, no⟩
            have ej : (0 + (j : Int)).toNat = j := by omega
            have eg : (cdL ls).getD j 0 = codeOf ls j := rngL_at hj
            have hm : ls.getD j 0 ∈ ls := by
              rw [List.getD_eq_getElem?_getD, List.getElem?_eq_getElem hj]
              exact List.getElem_mem hj
            have l0 := ok.lo _ hm
            have l1 := ok.hi _ hm
            have egs := goTo_succ (ls := ls) (S := S) (w := i + 1) (j := j)
            have nn : ¬ codeIs ls S (i + 1) j → ∀ k, k < j + 1 → ¬ codeIs ls S (i + 1) k := fun h k hk => by
              by_cases e : k = j
              · rw [e]
                exact h
              · exact no k (by omega)
            wtm_at "oo"
            rw [ej]
            refine selT_d (fun d1 => ?_) (fun d1 => ?_)
            · wtm_at "oo"
              rw [ej, eg]
              refine sel_d (fun d2 => ?_) (fun d2 => ?_)
              · have hc : codeIs ls S (i + 1) j := ⟨by omega, d2⟩
                rw [qs j (i + 1) (by rw [← ef]; exact rdF_sym (by omega) (symAt_is ok (by omega) hj hc))] at q
                wtm_at "oo"
                rename_i t H1 L1
                rw [show pl + (i : Int) + 1 = pl + ((i + 1 : Nat) : Int) by omega, show (0 + (j : Int)) = (j : Int) by omega] at L1
                exact q t H1 L1
              · have e1 : decide (goesOn ls S (i + 1) j) = false := decide_eq_false fun z => by
                  have := z.1
                  omega
                rw [e1, Bool.or_false] at egs
                rw [egs]
                wtm_at "oo"
                rw [ej]
                wtm_at "oo"
                exact nn fun z => d2 z.2
            · wtm_at "oo"
              rw [ej]
              have nc : ¬ codeIs ls S (i + 1) j := fun z => d1 (by have := z.1; omega)
              refine selT_d (fun d2 => ?_) (fun d2 => ?_)
              · wtm_at "oo"
                rw [ej, eg]
                have es : (ls.getD j 0 - (1 + (i : Int))).toNat = (ls.getD j 0 - ((i + 1 : Nat) : Int)).toNat := by omega
                rw [es]
                refine And.intro (by omega) ?_
                refine sel_d (fun d3 => ?_) (fun d3 => ?_)
                · have e1 : decide (goesOn ls S (i + 1) j) = true := decide_eq_true ⟨by omega, d3⟩
                  rw [e1, Bool.or_true] at egs
                  rw [egs]
                  wtm_at "oo"
                  exact nn nc
                · have e1 : decide (goesOn ls S (i + 1) j) = false := decide_eq_false fun z => d3 z.2
                  rw [e1, Bool.or_false] at egs
                  rw [egs]
                  wtm_at "oo"
                  exact nn nc
              · have e1 : decide (goesOn ls S (i + 1) j) = false := decide_eq_false fun z => by
                  have := z.1
                  omega
                rw [e1, Bool.or_false] at egs
                rw [egs]
                wtm_at "oo"
                exact nn nc
          · rintro σ H2 ⟨y9, rfl, rfl, no⟩
            have en : symAt ls S (i + 1) = none := symAt_none.mpr no
            wtm_at "oo"
            cases hg : goTo ls S (i + 1) ls.length with
            | true =>
              have := goTo_lt ok hg
              wtm_at "oo"
              refine ⟨?_, by omega⟩
              rw [← ef, rdF_on (by omega) en hg, show 16 - (i + 1) = 15 - i by omega]
            | false =>
              rw [qb (by rw [← ef]; exact rdF_bad (by omega) en hg)] at q
              wtm_at "oo"
              rename_i t H1 L1
              exact q t H1 L1
      · rintro σ H' ⟨y6, y7, y8, y9, rfl, rfl, ef, i14⟩
        exact absurd i14 (by decide)


end
end K11

namespace K11
open PySem PySem.Spec PyProof.Rows L2 Bel
local macro_rules | `(tactic| wtm_at "xs") => `(tactic| simp only [x_next, x_seq, x_brk, x_cont, x_drop, x_ret, x_retN, x_if, sel_t, sel_f, selE_t, selE_f, selT_t, selT_f, selC_t, selC_f, x_test, x_tB, x_op, x_un, x_var, x_c, x_cb, x_nil, x_cons, x_rI, x_rI0, x_rU, x_rEq, x_rNe, x_rIxL, x_rIxT, x_rSlL, x_rCat, x_rRep, x_rApp, x_bm, x_bm0, x_sl, x_nopart, x_part, x_tup, x_lst, x_call, x_callS, x_asg, x_gname, x_gtup, x_gnil, x_gcons, x_gsub, x_setL, x_aug, x_ipI, x_ipC, x_bits, x_getL, x_augS, x_and, x_or, x_not, x_k, x_andV, x_orV, x_notV, x_ife, x_chain, x_for, x_ilist, x_itup, x_ienum, x_irng1, x_irng2, x_irev, x_lc, x_yes, wipe_nil, wipe_cons, List.map_cons, List.map_nil, x_misc, x_misc2, x_rz, lookup_at, Bool.not_true, Bool.not_false, decide_true, decide_false, not_true, not_false_eq_true, and_assoc, exists_and_left, exists_eq_left', exists_eq_left, exists_eq', exists_eq_right', exists_eq_right, V.int.injEq, V.ref.injEq, V.bl.injEq, V.str.injEq, List.cons.injEq, and_true, true_and, and_self, Option.some.injEq, List.cons_append, List.nil_append, List.append_nil, List.getElem?_cons_zero, List.getElem?_cons_succ, List.set_cons_zero, List.set_cons_succ, reduceCtorEq, false_and, and_false, exists_false, exists_const, or_false, false_or, scal_ii, scal_bb, scal_ss, List.length_cons, List.length_nil, Int.reduceToNat, Int.reducePow])
local macro_rules | `(tactic| k_call_by "xs" $h:term) => `(tactic| simp only [$h:term, x_next, x_seq, x_brk, x_cont, x_drop, x_ret, x_retN, x_if, sel_t, sel_f, selE_t, selE_f, selT_t, selT_f, selC_t, selC_f, x_test, x_tB, x_op, x_un, x_var, x_c, x_cb, x_nil, x_cons, x_rI, x_rI0, x_rU, x_rEq, x_rNe, x_rIxL, x_rIxT, x_rSlL, x_rCat, x_rRep, x_rApp, x_bm, x_bm0, x_sl, x_nopart, x_part, x_tup, x_lst, x_call, x_callS, x_asg, x_gname, x_gtup, x_gnil, x_gcons, x_gsub, x_setL, x_aug, x_ipI, x_ipC, x_bits, x_getL, x_augS, x_and, x_or, x_not, x_k, x_andV, x_orV, x_notV, x_ife, x_chain, x_for, x_ilist, x_itup, x_ienum, x_irng1, x_irng2, x_irev, x_lc, x_yes, wipe_nil, wipe_cons, List.map_cons, List.map_nil, x_misc, x_misc2, x_rz, lookup_at, Bool.not_true, Bool.not_false, decide_true, decide_false, not_true, not_false_eq_true, and_assoc, exists_and_left, exists_eq_left', exists_eq_left, exists_eq', exists_eq_right', exists_eq_right, V.int.injEq, V.ref.injEq, V.bl.injEq, V.str.injEq, List.cons.injEq, and_true, true_and, and_self, Option.some.injEq, List.cons_append, List.nil_append, List.append_nil, List.getElem?_cons_zero, List.getElem?_cons_succ, List.set_cons_zero, List.set_cons_succ, reduceCtorEq, false_and, and_false, exists_false, exists_const, or_false, false_or, scal_ii, scal_bb, scal_ss, List.length_cons, List.length_nil, Int.reduceToNat, Int.reducePow])
local macro_rules | `(tactic| wtm_at "hp") => `(tactic| first | (with_reducible assumption) | exact upd_same | (refine upd_keep (by with_reducible assumption) ?_; wtm_at "hp") | (refine Same.get (by with_reducible assumption) ?_; wtm_at "hp") | (refine upd_other (by first | (with_reducible assumption) | exact Ne.symm (by with_reducible assumption)) ?_; wtm_at "hp"))
local macro_rules | `(tactic| wtm_at "sq") => `(tactic| first | (with_reducible assumption) | exact SqL.of (by wtm_at "hp") | exact SqT.of (by wtm_at "hp") | (refine Same.seq (same_upd (by with_reducible assumption)) ?_; wtm_at "sq") | (refine Same.seq (by with_reducible assumption) ?_; wtm_at "sq") | (refine Same.seqT (same_upd (by with_reducible assumption)) ?_; wtm_at "sq") | (refine Same.seqT (by with_reducible assumption) ?_; wtm_at "sq"))
local macro_rules | `(tactic| wtm_at "cl") => `(tactic| first | (with_reducible assumption) | omega | (exact cmul_r (by omega) (by omega)) | (exact cmul_l (by omega) (by omega)) | (exact cdiv_ok (by omega) (by omega)) | (exact cpow_ok (by decide)) | (exact ⟨by omega, by omega, by omega⟩) | decide | (exact ⟨by omega, by omega⟩) | (simp only [List.length_append, List.length_map, List.length_cons, List.length_nil, rngL_len, sizeLine_eq]; omega) | wtm_at "hp" | wtm_at "sq")
local macro_rules | `(tactic| wtm_at "pf") => `(tactic| first | (with_reducible assumption) | omega | (simp only [List.length_append, List.length_map, List.length_cons, List.length_nil, rngL_len]; omega) | (with_reducible rfl) | (with_reducible trivial) | (with_reducible decide))
local macro_rules | `(tactic| wtm_at "st") => `(tactic| first | ((with_reducible refine g_at ?_); refine at_call (by wtm_at "sq") (by omega) (by omega) (fun _ _ => ?_)) | ((with_reducible refine g_row ?_); refine row_call (by wtm_at "hp") ?_) | ((with_reducible refine g_int ?_); refine int_call ?_) | ((with_reducible refine g_isi ?_); first | (refine isi_int rfl ?_) | (refine isi_lst rfl (by wtm_at "hp") ?_) | (refine isi_tup rfl (by wtm_at "hp") ?_)) | ((with_reducible refine g_ned ?_); refine ned_f (dq_lst (by wtm_at "sq")) (dq_lst (by wtm_at "sq")) ?_) | ((with_reducible refine g_eqd ?_); refine eqd_t (dq_lst (by wtm_at "sq")) (dq_lst (by wtm_at "sq")) ?_) | ((with_reducible refine g_tyv ?_); refine and_tyv (by wtm_at "sq") ?_) | ((with_reducible refine g_asq ?_); refine and_sq (by wtm_at "sq") ?_) | ((with_reducible refine g_lst ?_); refine ex_lst (by wtm_at "hp") ?_) | ((with_reducible refine g_or ?_); first | (refine ex_or (by wtm_at "sq") ?_) | (refine ex_ort (by wtm_at "sq") ?_)) | ((with_reducible refine g_sq ?_); refine ex_sq (by wtm_at "sq") ?_) | ((with_reducible refine g_sqt ?_); refine ex_sqt (by wtm_at "sq") ?_) | ((with_reducible refine gd_sel ?_); first | (refine sel_p (by wtm_at "pf") ?_) | (refine sel_n (by wtm_at "pf") ?_)) | ((with_reducible refine gn_sel ?_); first | (refine selN_p (by wtm_at "pf") ?_) | (refine selN_n (by wtm_at "pf") ?_)) | ((with_reducible refine gd_selT ?_); first | (refine selT_p (by wtm_at "pf") ?_) | (refine selT_n (by wtm_at "pf") ?_)) | ((with_reducible refine gn_selT ?_); first | (refine selTN_p (by wtm_at "pf") ?_) | (refine selTN_n (by wtm_at "pf") ?_)) | ((with_reducible refine gd_selE ?_); first | (refine selE_p (by wtm_at "pf") ?_) | (refine selE_n (by wtm_at "pf") ?_)) | ((with_reducible refine gn_selE ?_); first | (refine selEN_p (by wtm_at "pf") ?_) | (refine selEN_n (by wtm_at "pf") ?_)) | ((with_reducible refine g_xf ?_); refine xf_at rfl (by wtm_at "hp") ?_) | ((with_reducible refine g_atI ?_); refine ex_at (by first | exact rfl | exact atI_int (by omega) (by wtm_at "pf")) ?_) | ((with_reducible refine g_and ?_); refine And.intro (by wtm_at "cl") ?_) | ((with_reducible refine g_new ?_); intro _ _))
local macro_rules | `(tactic| wtm_at "go") => `(tactic| repeat (first | wtm_at "xs" | wtm_at "st"))
local macro_rules | `(tactic| wtm_at "xo") => `(tactic| simp only [x_next, x_seq, x_brk, x_cont, x_drop, x_ret, x_retN, x_if, sel_t, sel_f, selE_t, selE_f, selT_t, selT_f, selC_t, selC_f, x_test, x_tB, x_op, x_un, x_var, x_c, x_cb, x_nil, x_cons, x_rI, x_rI0, x_rU, x_rEq, x_rNe, x_rIxL, x_rIxT, n_rSlL, n_rCat, n_rRep, n_rApp, x_bm, x_bm0, x_sl, x_nopart, x_part, n_tup, n_lst, x_call, x_callS, x_asg, x_gname, x_gtup, x_gnil, x_gcons, x_gsub, n_setL, x_aug, x_ipI, x_ipC, x_bits, x_getL, x_augS, x_and, x_or, x_not, x_k, x_andV, x_orV, x_notV, x_ife, x_chain, x_for, x_ilist, x_itup, x_ienum, x_irng1, x_irng2, x_irev, x_lc, x_yes, wipe_nil, wipe_cons, List.map_cons, List.map_nil, x_misc, x_misc2, x_rz, lookup_at, Bool.not_true, Bool.not_false, decide_true, decide_false, not_true, not_false_eq_true, and_assoc, exists_and_left, exists_eq_left', exists_eq_left, exists_eq', exists_eq_right', exists_eq_right, V.int.injEq, V.ref.injEq, V.bl.injEq, V.str.injEq, List.cons.injEq, and_true, true_and, and_self, Option.some.injEq, List.cons_append, List.nil_append, List.append_nil, List.getElem?_cons_zero, List.getElem?_cons_succ, List.set_cons_zero, List.set_cons_succ, reduceCtorEq, false_and, and_false, exists_false, exists_const, or_false, false_or, scal_ii, scal_bb, scal_ss, List.length_cons, List.length_nil, Int.reduceToNat, Int.reducePow, n_fld, n_dnew, n_dput, n_din, n_dget, n_dget2, n_glst, n_sfld, n_aug, n_meth, n_mw, n_make, n_kw, n_rLs, t_s1, t_i1, t_i2, t_i3, t_i4, t_i5, x_chain3, x_irng3, x_irevR, x_rg1, x_rg2, ints_cat, ints_app1, ints_len, ints_take, ints_drop, rep_one])
local macro_rules | `(tactic| k_call_by "xo" $h:term) => `(tactic| simp only [$h:term, x_next, x_seq, x_brk, x_cont, x_drop, x_ret, x_retN, x_if, sel_t, sel_f, selE_t, selE_f, selT_t, selT_f, selC_t, selC_f, x_test, x_tB, x_op, x_un, x_var, x_c, x_cb, x_nil, x_cons, x_rI, x_rI0, x_rU, x_rEq, x_rNe, x_rIxL, x_rIxT, n_rSlL, n_rCat, n_rRep, n_rApp, x_bm, x_bm0, x_sl, x_nopart, x_part, n_tup, n_lst, x_call, x_callS, x_asg, x_gname, x_gtup, x_gnil, x_gcons, x_gsub, n_setL, x_aug, x_ipI, x_ipC, x_bits, x_getL, x_augS, x_and, x_or, x_not, x_k, x_andV, x_orV, x_notV, x_ife, x_chain, x_for, x_ilist, x_itup, x_ienum, x_irng1, x_irng2, x_irev, x_lc, x_yes, wipe_nil, wipe_cons, List.map_cons, List.map_nil, x_misc, x_misc2, x_rz, lookup_at, Bool.not_true, Bool.not_false, decide_true, decide_false, not_true, not_false_eq_true, and_assoc, exists_and_left, exists_eq_left', exists_eq_left, exists_eq', exists_eq_right', exists_eq_right, V.int.injEq, V.ref.injEq, V.bl.injEq, V.str.injEq, List.cons.injEq, and_true, true_and, and_self, Option.some.injEq, List.cons_append, List.nil_append, List.append_nil, List.getElem?_cons_zero, List.getElem?_cons_succ, List.set_cons_zero, List.set_cons_succ, reduceCtorEq, false_and, and_false, exists_false, exists_const, or_false, false_or, scal_ii, scal_bb, scal_ss, List.length_cons, List.length_nil, Int.reduceToNat, Int.reducePow, n_fld, n_dnew, n_dput, n_din, n_dget, n_dget2, n_glst, n_sfld, n_aug, n_meth, n_mw, n_make, n_kw, n_rLs, t_s1, t_i1, t_i2, t_i3, t_i4, t_i5, x_chain3, x_irng3, x_irevR, x_rg1, x_rg2, ints_cat, ints_app1, ints_len, ints_take, ints_drop, rep_one])
local macro_rules | `(tactic| wtm_at "mem") => `(tactic| first | (with_reducible exact mem_here) | (with_reducible refine mem_there ?_; wtm_at "mem"))
local macro_rules | `(tactic| wtm_at "pp") => `(tactic| first | (with_reducible exact Put.here) | (with_reducible apply Put.there; wtm_at "pp"))
local macro_rules | `(tactic| wtm_at "ho") => `(tactic| first | (with_reducible assumption) | exact Own.get (by with_reducible assumption) (by wtm_at "mem") | exact Own.base (by with_reducible assumption) (by with_reducible assumption))
local macro_rules | `(tactic| wtm_at "qo") => `(tactic| first | (with_reducible assumption) | exact SqL.of (by wtm_at "ho") | exact sqT_tupI (by wtm_at "ho") | exact sqT_tupS (by wtm_at "ho") | exact SqT.of (by wtm_at "ho") | exact Own.imT (by with_reducible assumption) (by wtm_at "mem") | exact Own.sq (by with_reducible assumption) (by with_reducible assumption) | exact Own.sqT (by with_reducible assumption) (by with_reducible assumption))
local macro_rules | `(tactic| wtm_at "sub") => `(tactic| first | exact List.nil_sublist _ | (with_reducible refine List.Sublist.cons_cons _ ?_; wtm_at "sub") | (refine List.Sublist.cons _ ?_; wtm_at "sub"))
local macro_rules | `(tactic| wtm_at "co") => `(tactic| first | (with_reducible assumption) | omega | (exact cmul_r (by omega) (by omega)) | (exact cmul_l (by omega) (by omega)) | (exact cdiv_ok (by omega) (by omega)) | (exact cpow_ok (by decide)) | (exact ⟨by omega, by omega, by omega⟩) | decide | (exact ⟨by omega, by omega⟩) | (simp only [List.length_append, List.length_map, List.length_cons, List.length_nil, rngL_len, sizeLine_eq]; omega) | wtm_at "ho" | wtm_at "qo")
local macro_rules | `(tactic| wtm_at "so") => `(tactic| first | ((with_reducible refine g_dputO ?_); refine dputI (by with_reducible assumption) (by wtm_at "pp") (by wtm_at "co") (fun _ _ => ?_)) | ((with_reducible refine g_dinO ?_); refine dinI (by wtm_at "ho") ?_) | ((with_reducible refine g_isDO ?_); refine isDO (by wtm_at "ho") ?_) | ((with_reducible refine g_dg2 ?_); refine dg2I (by wtm_at "ho") ?_) | ((with_reducible refine g_fldO ?_); refine fldO (by wtm_at "ho") (by with_reducible assumption) (by wtm_at "mem") (by wtm_at "lk") ?_) | ((with_reducible refine g_fldC ?_); refine fldC (by wtm_at "ho") (by with_reducible assumption) (by wtm_at "mem") (by wtm_at "lk") ?_) | ((with_reducible refine g_putC ?_); refine putC (by with_reducible assumption) (by wtm_at "pp") (by wtm_at "pu") (by wtm_at "co") (fun _ _ => ?_)) | ((with_reducible refine g_stoO ?_); refine stoO (by with_reducible assumption) (by wtm_at "pp") (by wtm_at "pu") (by with_reducible assumption) (by wtm_at "mem") (by wtm_at "co") (fun _ _ => ?_)) | ((with_reducible refine g_metO ?_); refine metO (by wtm_at "ho") (by wtm_at "ln") ?_) | ((with_reducible refine g_makO ?_); refine makO (by with_reducible assumption) (fun _ _ _ _ => ?_)) | ((with_reducible refine g_sum ?_); refine sum_call (by wtm_at "qo") ?_) | ((with_reducible refine g_cq ?_); exact cq (by with_reducible assumption) (by simp only [rngL_len, List.length_map, List.length_take]; omega)) | ((with_reducible refine g_newO ?_); refine newO (by with_reducible assumption) (fun _ _ _ => ?_)) | ((with_reducible refine g_appO ?_); refine appI (by with_reducible assumption) (by wtm_at "pp") (by wtm_at "co") (fun _ _ => ?_)) | ((with_reducible refine g_setO ?_); refine setI (by with_reducible assumption) (by wtm_at "pp") (by omega) (by wtm_at "co") (fun _ _ => ?_)) | ((with_reducible refine g_appO ?_); refine appO (by with_reducible assumption) (by wtm_at "pp") (by wtm_at "co") (fun _ _ => ?_)) | ((with_reducible refine g_setO ?_); refine setO (by with_reducible assumption) (by wtm_at "pp") (by omega) (by wtm_at "co") (fun _ _ => ?_)) | ((with_reducible refine g_at ?_); refine at_call (by wtm_at "qo") (by omega) (by omega) (fun _ _ => ?_)) | ((with_reducible refine g_row ?_); refine row_call (by wtm_at "ho") ?_) | ((with_reducible refine g_int ?_); refine int_call ?_) | ((with_reducible refine g_isi ?_); first | (refine isi_int rfl ?_) | (refine isi_sqL rfl (by wtm_at "qo") ?_) | (refine isi_sqT rfl (by wtm_at "qo") ?_) | (refine isi_bl rfl ?_) | (refine isi_non rfl ?_) | (refine isi_str rfl ?_)) | ((with_reducible refine g_ned ?_); first | (refine ned_f (dq_lst (by wtm_at "qo")) (dq_lst (by wtm_at "qo")) ?_) | (refine ned_ints (by wtm_at "qo") (by wtm_at "qo") ?_) | (refine nedT_ints (by wtm_at "qo") (by wtm_at "qo") ?_)) | ((with_reducible refine g_eqd ?_); first | (refine eqd_t (dq_lst (by wtm_at "qo")) (dq_lst (by wtm_at "qo")) ?_) | (refine eqd_ints (by wtm_at "qo") (by wtm_at "qo") ?_) | (refine eqdT_ints (by wtm_at "qo") (by wtm_at "qo") ?_)) | ((with_reducible refine g_tyv ?_); refine and_tyv (by wtm_at "qo") ?_) | ((with_reducible refine g_asq ?_); refine and_sq (by wtm_at "qo") ?_) | ((with_reducible refine g_lst ?_); refine ex_lst (by wtm_at "ho") ?_) | ((with_reducible refine g_or ?_); first | (refine ex_or (by wtm_at "qo") ?_) | (refine ex_ort (by wtm_at "qo") ?_)) | ((with_reducible refine g_sq ?_); refine ex_sq (by wtm_at "qo") ?_) | ((with_reducible refine g_sqt ?_); refine ex_sqt (by wtm_at "qo") ?_) | ((with_reducible refine gd_sel ?_); first | (refine sel_p (by wtm_at "pf") ?_) | (refine sel_n (by wtm_at "pf") ?_)) | ((with_reducible refine gn_sel ?_); first | (refine selN_p (by wtm_at "pf") ?_) | (refine selN_n (by wtm_at "pf") ?_)) | ((with_reducible refine gd_selT ?_); first | (refine selT_p (by wtm_at "pf") ?_) | (refine selT_n (by wtm_at "pf") ?_)) | ((with_reducible refine gn_selT ?_); first | (refine selTN_p (by wtm_at "pf") ?_) | (refine selTN_n (by wtm_at "pf") ?_)) | ((with_reducible refine gd_selE ?_); first | (refine selE_p (by wtm_at "pf") ?_) | (refine selE_n (by wtm_at "pf") ?_)) | ((with_reducible refine gn_selE ?_); first | (refine selEN_p (by wtm_at "pf") ?_) | (refine selEN_n (by wtm_at "pf") ?_)) | ((with_reducible refine g_xf ?_); refine xf_at rfl (by wtm_at "ho") ?_) | ((with_reducible refine g_atI ?_); refine ex_at (by first | exact rfl | exact atI_int (by omega) (by wtm_at "pf")) ?_) | ((with_reducible refine g_and ?_); refine And.intro (by wtm_at "co") ?_))
local macro_rules | `(tactic| wtm_at "oo") => `(tactic| repeat (first | wtm_at "xo" | wtm_at "so"))
local macro_rules | `(tactic| wtm_at "cR") => `(tactic| (refine' compRi _ (by with_reducible assumption) (by omega) (fun _ _ _ _ _ => ?_) (fun _ _ _ => ?_); rotate_left; focus (wtm_at "oo")))

local macro_rules | `(tactic| wtm_at "lk") => `(tactic| first | (with_reducible exact lk_here) | (simp only [lk_here, lk_skip, lk_nil, nb_0_0, nb_0_1, nb_0_2, nb_0_3, nb_0_4, nb_0_5, nb_0_6, nb_1_0, nb_1_1, nb_1_2, nb_1_3, nb_1_4, nb_1_5, nb_1_6, nb_2_1, nb_2_2, nb_2_3, nb_2_4, nb_2_5, nb_2_6, nb_3_0, nb_3_2, nb_3_3, nb_3_4, nb_3_5, nb_3_6, nb_4_0, nb_4_1, nb_4_3, nb_4_4, nb_4_5, nb_4_6, nb_5_0, nb_5_1, nb_5_2, nb_5_4, nb_5_5, nb_5_6, nb_6_0, nb_6_1, nb_6_2, nb_6_3, nb_6_4, nb_6_5, nb_6_6, nb_7_0, nb_7_1, nb_7_2, nb_7_3, nb_7_5, nb_7_6, nb_8_0, nb_8_1, nb_8_2, nb_8_3, nb_8_4, nb_8_6, nb_9_0, nb_9_1, nb_9_2, nb_9_3, nb_9_4, nb_9_5, nb_10_0, nb_10_1, nb_10_2, nb_10_3, nb_10_4, nb_10_5, nb_10_6, nb_11_0, nb_11_1, nb_11_2, nb_11_3, nb_11_4, nb_11_5, nb_11_6, nb_12_0, nb_12_1, nb_12_2, nb_12_3, nb_12_4, nb_12_5, nb_12_6, nb_13_0, nb_13_1, nb_13_2, nb_13_3, nb_13_4, nb_13_5, nb_13_6, nb_14_0, nb_14_1, nb_14_2, nb_14_3, nb_14_4, nb_14_5, nb_14_6]; first | done | exact rfl))
local macro_rules | `(tactic| wtm_at "ln") => `(tactic| first | (with_reducible exact lk_nil) | (simp only [lk_skip, lk_nil, nb_0_0, nb_0_1, nb_0_2, nb_0_3, nb_0_4, nb_0_5, nb_0_6, nb_1_0, nb_1_1, nb_1_2, nb_1_3, nb_1_4, nb_1_5, nb_1_6, nb_2_1, nb_2_2, nb_2_3, nb_2_4, nb_2_5, nb_2_6, nb_3_0, nb_3_2, nb_3_3, nb_3_4, nb_3_5, nb_3_6, nb_4_0, nb_4_1, nb_4_3, nb_4_4, nb_4_5, nb_4_6, nb_5_0, nb_5_1, nb_5_2, nb_5_4, nb_5_5, nb_5_6, nb_6_0, nb_6_1, nb_6_2, nb_6_3, nb_6_4, nb_6_5, nb_6_6, nb_7_0, nb_7_1, nb_7_2, nb_7_3, nb_7_5, nb_7_6, nb_8_0, nb_8_1, nb_8_2, nb_8_3, nb_8_4, nb_8_6, nb_9_0, nb_9_1, nb_9_2, nb_9_3, nb_9_4, nb_9_5, nb_10_0, nb_10_1, nb_10_2, nb_10_3, nb_10_4, nb_10_5, nb_10_6, nb_11_0, nb_11_1, nb_11_2, nb_11_3, nb_11_4, nb_11_5, nb_11_6, nb_12_0, nb_12_1, nb_12_2, nb_12_3, nb_12_4, nb_12_5, nb_12_6, nb_13_0, nb_13_1, nb_13_2, nb_13_3, nb_13_4, nb_13_5, nb_13_6, nb_14_0, nb_14_1, nb_14_2, nb_14_3, nb_14_4, nb_14_5, nb_14_6]; done))
local macro_rules | `(tactic| wtm_at "pu") => `(tactic| first | (with_reducible exact pf_nil) | (simp only [pf_nil, pf_here, pf_skip, nb_0_0, nb_0_1, nb_0_2, nb_0_3, nb_0_4, nb_0_5, nb_0_6, nb_1_0, nb_1_1, nb_1_2, nb_1_3, nb_1_4, nb_1_5, nb_1_6, nb_2_1, nb_2_2, nb_2_3, nb_2_4, nb_2_5, nb_2_6, nb_3_0, nb_3_2, nb_3_3, nb_3_4, nb_3_5, nb_3_6, nb_4_0, nb_4_1, nb_4_3, nb_4_4, nb_4_5, nb_4_6, nb_5_0, nb_5_1, nb_5_2, nb_5_4, nb_5_5, nb_5_6, nb_6_0, nb_6_1, nb_6_2, nb_6_3, nb_6_4, nb_6_5, nb_6_6, nb_7_0, nb_7_1, nb_7_2, nb_7_3, nb_7_5, nb_7_6, nb_8_0, nb_8_1, nb_8_2, nb_8_3, nb_8_4, nb_8_6, nb_9_0, nb_9_1, nb_9_2, nb_9_3, nb_9_4, nb_9_5, nb_10_0, nb_10_1, nb_10_2, nb_10_3, nb_10_4, nb_10_5, nb_10_6, nb_11_0, nb_11_1, nb_11_2, nb_11_3, nb_11_4, nb_11_5, nb_11_6, nb_12_0, nb_12_1, nb_12_2, nb_12_3, nb_12_4, nb_12_5, nb_12_6, nb_13_0, nb_13_1, nb_13_2, nb_13_3, nb_13_4, nb_13_5, nb_13_6, nb_14_0, nb_14_1, nb_14_2, nb_14_3, nb_14_4, nb_14_5, nb_14_6]; first | done | exact rfl))
local macro_rules | `(tactic| wtm_at "tk") => `(tactic| first | (with_reducible exact Take.here) | (exact Take.here) | ((with_reducible apply Take.there); wtm_at "tk"))
local macro_rules | `(tactic| wtm_at "pk") => `(tactic| first | exact Pick.nil | ((with_reducible refine' Pick.cons ?tk1 ?pk1); (case tk1 => wtm_at "tk"); (case pk1 => wtm_at "pk")) | ((with_reducible refine Pick.im (by wtm_at "mem") ?_); wtm_at "pk") | ((with_reducible refine Pick.ims (by wtm_at "mem") ?_); wtm_at "pk"))
section
variable {P : Program} {w : World} {K : PySem.W.Frag} {mg : Str → Option Value} {base : Heap}
theorem okH_BitReader_place (T : Tx K mg) : MthH P w K base mg 1 "BitReader" "place" ["self"] (sp_BitReader_place K) := by
  obtain ⟨fd, F⟩ := T.d_BitReader_place
  refine ⟨fd, okN F sc_BitReader_place (fun vs H Q E h => ?_) (fun cd A outer s H vs Q E p hr h => ⟨_, PSs.nox (pss_one (ps_ret (by exact (pe_fld (pv 0) rfl)))), ?_⟩), T.m_BitReader_place, T.c_BitReader.cl, F.bindsN (fun _ _ _ _ _ _ us hl => match us, hl with | [_], _ => rfl)⟩
  · obtain ⟨_, _, _, _, _, rfl, _⟩ := h
    rfl
  · obtain ⟨p, dx, q, pl, en, rfl, hp, qq⟩ := h
    have cW := T.c_BitReader
    k_call_by "xo" st_BitReader_place
    exact fldO hp cW (by wtm_at "mem") (by wtm_at "lk") qq
def sp__law_told (K : PySem.W.Frag) : Sp := fun vs H Q _ => ∃ (p dx c l d rp dr q : Addr) (ls ds : List Int) (pl en : Int), vs = [.ref p, .ref rp] ∧ BkAt K H p dx c l d ls ∧ okLen ls ∧ wts ls ≤ 32768 ∧ H rp = some (rC K dr q pl en) ∧ H q = some (.lst (ds.map V.int)) ∧ RSt ds pl en ∧
  ∀ t H', Own K (delL H [rp]) H' [.pt rp (rC K dr q (rdT ls ds pl en).2.2 en), .pt t (tupS2 (rdT ls ds pl en).1 (rdT ls ds pl en).2.1 (rdT ls ds pl en).2.2)] → Q (.ref t) H'
theorem ok__law_told (T : Tx K mg) : Cl P w K mg base 6 "_law_told" ["book", "reader"] (sp__law_told K) [] := by
  obtain ⟨gm, fd, F⟩ := T.d__law_told
  refine ⟨_, fd, [], F.ok sc__law_told (fun vs H Q E h => ?_) (fun cdv A outer s H vs Q E hr h => ⟨_, (PSs.nox (pss_cons (ps_try_manyB rfl rfl sc__law_told.nd takes0N
 (fun W pn xe tk hp => (pss_one (ps_set (i := 2) sc__law_told.nd rfl (Or.inl rfl) (by exact (pe_mtS (ok_Book_read T) (hr.mono (by decide)) tk (pv 0) (pa_cons (pv 1) pa_nil))))))
 (HdsB.cons (i := 3) rfl rfl ⟨rfl, by decide, .inl T.x_Truncated.g⟩ (fun a oe cls d pn hz hf => (pss_one (ps_ret (by exact (pe_tup (pa_cons pe_str (pa_cons (pe_xfB T.x_Truncated hz hf (pv 3)) (pa_cons (pe_mtH0 (okH_BitReader_place T) (L2H.roomH_mark (hr.mono (show 1 ≤ 5 by decide)) _) (hotC_of hz hf) (pv 1)) pa_nil))))))))
 (HdsB.cons (i := 3) rfl rfl ⟨rfl, by decide, .inl T.x_BadCode.g⟩ (fun a oe cls d pn hz hf => (pss_one (ps_ret (by exact (pe_tup (pa_cons pe_str (pa_cons (pe_xfB T.x_BadCode hz hf (pv 3)) (pa_cons (pe_mtH0 (okH_BitReader_place T) (L2H.roomH_mark (hr.mono (show 1 ≤ 5 by decide)) _) (hotC_of hz hf) (pv 1)) pa_nil))))))))
 HdsB.nil)))
 (pss_cons (ps_if (pt_not (pt_val (pe_cl (ok__law_is_integer T) (hr.mono (by decide)) rfl (pa_cons (pv 2) pa_nil))))
 (pss_one (ps_ret (by exact (pe_tup (pa_cons pe_str (pa_cons pe_int (pa_cons pe_int pa_nil)))))))
 pss_nil)
 (pss_one (ps_ret (by exact (pe_tup (pa_cons pe_str (pa_cons (pv 2) (pa_cons (pe_mt0 (ok_BitReader_place T) (hr.mono (by decide)) (pv 1)) pa_nil)))))))))), ?_⟩), gm, F.kp, F.bindsN (fun _ _ _ _ _ _ us hl => match us, hl with | [_, _], _ => rfl), .nil⟩
  · first | (obtain ⟨rfl, _⟩ := h; rfl) | (obtain ⟨_, rfl, _⟩ := h; rfl) | (obtain ⟨_, _, rfl, _⟩ := h; rfl) | (obtain ⟨_, _, _, rfl, _⟩ := h; rfl) | (obtain ⟨_, _, _, _, rfl, _⟩ := h; rfl) | (obtain ⟨_, _, _, _, _, rfl, _⟩ := h; rfl) | (obtain ⟨_, _, _, _, _, _, rfl, _⟩ := h; rfl) | (obtain ⟨_, _, _, _, _, _, _, rfl, _⟩ := h; rfl) | (obtain ⟨_, _, _, _, _, _, _, _, rfl, _⟩ := h; rfl) | (obtain ⟨_, _, _, _, _, _, _, _, _, rfl, _⟩ := h; rfl) | (obtain ⟨_, _, _, _, _, _, _, _, _, _, rfl, _⟩ := h; rfl) | (obtain ⟨_, _, _, _, _, _, _, _, _, _, _, rfl, _⟩ := h; rfl) | (obtain ⟨_, _, _, _, _, _, _, _, _, _, _, _, rfl, _⟩ := h; rfl) | (obtain ⟨_, _, _, _, _, _, _, _, _, _, _, _, _, rfl, _⟩ := h; rfl) | (obtain ⟨_, _, _, _, _, _, _, _, _, _, _, _, _, _, rfl, _⟩ := h; rfl) | (obtain ⟨_, _, _, _, _, _, _, _, _, _, _, _, _, _, _, rfl, _⟩ := h; rfl) | (obtain ⟨_, _, _, _, _, _, _, _, _, _, _, _, _, _, _, _, rfl, _⟩ := h; rfl) | (obtain ⟨_, _, _, _, _, _, _, _, _, _, _, _, _, _, _, _, _, rfl, _⟩ := h; rfl) | (obtain ⟨_, _, _, _, _, _, _, _, _, _, _, _, _, _, _, _, _, _, rfl, _⟩ := h; rfl) | (obtain ⟨_, _, _, _, _, _, _, _, _, _, _, _, _, _, _, _, _, _, _, rfl, _⟩ := h; rfl) | (obtain ⟨_, _, _, _, _, _, _, _, _, _, _, _, _, _, _, _, _, _, _, _, rfl, _⟩ := h; rfl) | (obtain ⟨_, _, _, _, _, _, _, _, _, _, _, _, _, _, _, _, _, _, _, _, _, rfl, _⟩ := h; rfl)
  · obtain ⟨p, dx, c, l, d, rp, dr, q, ls, ds, pl, en, rfl, bk, ok, hw, hr, hq, rs, qq⟩ := h
    have cW := T.c_Book
    have cR := T.c_BitReader
    k_call_by "xo" st__law_told
    have hp := bk.hp
    have L := Own.in1 (K := K) hr
    have np : p ≠ rp := ne_of hp hr (by intro z; injection z with _ _ z; exact absurd (show (4 : Nat) = 3 from congrArg List.length z) (by decide))
    wtm_at "oo"
    unfold rdT at qq
    refine ⟨p, dx, c, l, d, rp, dr, q, ls, ds, pl, en, rfl, bk, ok, hw, hr, hq, rs, fun k w e G M => ?_, fun e x G M => ?_, fun e x G M => ?_⟩
    · rw [e] at qq
      dsimp only at qq
      wtm_at "oo"
      refine ⟨rp, dr, q, _, en, rfl, M.get mem_here, ?_⟩
      wtm_at "oo"
      rename_i t G2 L2
      exact qq t G2 (L2.pick (by wtm_at "pk"))
    · rw [e] at qq
      dsimp only at qq
      have L := L.c1 M
      refine many_yes T.x_Truncated fun z hz => ?_
      wtm_at "oo"
      refine ⟨rp, dr, q, _, en, rfl, by wtm_at "ho", ?_⟩
      wtm_at "oo"
      rename_i t G2 L2
      exact qq t G2 (L2.pick (by wtm_at "pk"))
    · rw [e] at qq
      dsimp only at qq
      have L := L.c1 M
      refine many_no T.n_BadCode_Truncated (many_yes T.x_BadCode fun z hz => ?_)
      wtm_at "oo"
      refine ⟨rp, dr, q, _, en, rfl, by wtm_at "ho", ?_⟩
      wtm_at "oo"
      rename_i t G2 L2
      exact qq t G2 (L2.pick (by wtm_at "pk"))

theorem lay_sym : (PyData.str "symbol").canLay0 = true := by decide +kernel
theorem lay_cut : (PyData.str "Truncated").canLay0 = true := by decide +kernel
theorem lay_bad : (PyData.str "BadCode").canLay0 = true := by decide +kernel
theorem s_cs : (("Truncated" : Str) = "symbol") = False := eq_false (by decide +kernel)
theorem s_bs : (("BadCode" : Str) = "symbol") = False := eq_false (by decide +kernel)
theorem rdF_le {ls : List Int} {S : Int} {left k w : Nat} : ∀ f v, rdF ls S left f v = .sym k w → w ≤ left
  | 0, _, e => by cases e
  | f + 1, v, e => by
    unfold rdF at e
    split at e
    · cases e
    · split at e
      · cases e
        omega
      · split at e
        · exact rdF_le f (v + 1) e
        · cases e
theorem rdT_cases {ls bs : List Int} {pl en : Int} (rs : RSt bs pl en) : ∃ s n m, rdT ls bs pl en = (s, n, m) ∧ ((s = "symbol" ∧ RSt bs m en) ∨ (s = "Truncated" ∧ m = pl) ∨ (s = "BadCode" ∧ m = pl)) := by
  cases e : resOf ls (bnum bs / 2 ^ pl.toNat) (en - pl).toNat with
  | sym k w =>
    have hw : w ≤ (en - pl).toNat := by
      unfold resOf at e
      split at e
      · cases e
      · exact rdF_le _ _ e
    have := rs.pe
    have := rs.p0
    exact ⟨_, _, _, rdT_sym e, .inl ⟨rfl, rs.by_, by omega, by omega, rs.e1, rs.len⟩⟩
  | cut => exact ⟨_, _, _, rdT_cut e, .inr (.inl ⟨rfl, rfl⟩)⟩
  | bad => exact ⟨_, _, _, rdT_bad e, .inr (.inr ⟨rfl, rfl⟩)⟩
def sp_law (K : PySem.W.Frag) : Sp := fun vs H Q _ => ∃ (a : Addr) (ns : List Int), vs = [.ref a] ∧ SqL K H a (ns.map V.int) ∧ ns.length ≤ 63 ∧ ∀ H', Q (.bl true) H'
theorem okf_law (T : Tx K mg) {fd : FuncData} (F : FunD K "law" "law" (defArgs s_law) (defBody s_law) (defScope s_law) [] [] (He.ga K "law") fd) : FnOk P w K mg base (L2N.CX P w) 7 (He.ga K "law") fd ["script"] (sp_law K) := by
  refine F.ok sc_law (fun vs H Q E h => ?_) (fun cdv A outer s H vs Q E hr h => ⟨_, (PSs.nox (pss_cons (ps_set (i := 1) sc_law.nd rfl (Or.inr rfl) (by exact (pe_cl (ok__law_draws T) (hr.mono (by decide)) rfl (pa_cons (pv 0) pa_nil))))
 (pss_cons (ps_set (i := 2) sc_law.nd rfl (Or.inl rfl) (by exact (pe_cl (ok__law_lengths T) (hr.mono (by decide)) rfl (pa_cons (pv 1) (pa_cons pe_int pa_nil)))))
 (pss_cons (ps_if (pt_cmpR op_eq (pe_cl (ok__law_at T) (hr.mono (by decide)) rfl (pa_cons (pv 1) (pa_cons pe_int (pa_cons pe_int pa_nil)))) pe_int (nomark _))
 (pss_one (ps_setLc (i := 2) (own := [("length", 3)]) (g := (gName 3)) (tt := tYes) rfl sc_law.nd rfl rfl (sw_true rfl rfl rfl (by decide +kernel)) (pi_list (pv 2)) (blkOk_by (own := [("length", 3)]) (N := N_law) (sc := defScope s_law) (by decide +kernel)) (fun _ _ _ _ _ => pg_name (i := 3) sc_law.nd rfl (Or.inl rfl)) (fun _ _ _ _ _ => pts_nil) (fun _ _ _ _ _ => pe_int)))
 pss_nil)
 (pss_cons (ps_set (i := 4) sc_law.nd rfl (Or.inl rfl) (by exact (pe_cl (ok__law_codes T) (hr.mono (by decide)) rfl (pa_cons (pv 2) pa_nil))))
 (pss_cons (ps_setLc (i := 5) (own := [("k", 6)]) (g := (gName 6)) (tt := tYes) rfl sc_law.nd rfl rfl (sw_true rfl rfl rfl (by decide +kernel)) (pi_range1 rfl T.b_range (pa_cons (pe_cl (ok__law_at T) (hr.mono (by decide)) rfl (pa_cons (pv 1) (pa_cons pe_int (pa_cons pe_int pa_nil)))) pa_nil)) (blkOk_by (own := [("k", 6)]) (N := N_law) (sc := defScope s_law) (by decide +kernel)) (fun _ _ _ _ _ => pg_name (i := 6) sc_law.nd rfl (Or.inl rfl)) (fun _ _ _ _ _ => pts_nil) (fun _ _ _ _ _ => (pe_cl (ok__law_at T) (hr.mono (by decide)) rfl (pa_cons (pv 1) (pa_cons (pe_op op_add pe_int (pv 6)) (pa_cons pe_int pa_nil))))))
 (pss_cons (ps_set (i := 7) sc_law.nd rfl (Or.inl rfl) (by exact (pe_cl (ok__law_at T) (hr.mono (by decide)) rfl (pa_cons (pv 1) (pa_cons pe_int (pa_cons (pe_op op_add (pe_op op_mul pe_int (pe_callB (lenK K) rfl T.b_len (by decide +kernel) (pa_cons (pv 5) pa_nil))) pe_int) pa_nil))))))
 (pss_cons (ps_set (i := 8) sc_law.nd rfl (Or.inl rfl) (by exact (pe_op op_add (pv 7) (pe_cl (ok__law_at T) (hr.mono (by decide)) rfl (pa_cons (pv 1) (pa_cons pe_int (pa_cons (pe_op op_add (pe_op op_sub (pe_op op_mul pe_int (pe_callB (lenK K) rfl T.b_len (by decide +kernel) (pa_cons (pv 5) pa_nil))) (pv 7)) pe_int) pa_nil)))))))
 (pss_cons (ps_if (pt_cmpR op_eq (pe_cl (ok__law_at T) (hr.mono (by decide)) rfl (pa_cons (pv 1) (pa_cons pe_int (pa_cons pe_int pa_nil)))) pe_int (nomark _))
 (pss_one (ps_set (i := 8) sc_law.nd rfl (Or.inl rfl) (by exact (pe_op op_mul pe_int (pe_callB (lenK K) rfl T.b_len (by decide +kernel) (pa_cons (pv 5) pa_nil))))))
 pss_nil)
 (pss_cons (ps_set (i := 9) sc_law.nd rfl (Or.inl rfl) (by exact (pe_mk (ok_Book___init__ T) (hr.mono (by decide)) rfl (pa_cons (pe_callTy (lsK K) rfl T.b_list (by decide +kernel) (pa_cons (pv 2) pa_nil)) pa_nil))))
 (pss_cons (ps_set (i := 10) sc_law.nd rfl (Or.inl rfl) (by exact (pe_mk (ok_BitReader___init__ T) (hr.mono (by decide)) rfl (pa_cons (pe_callTy (lsK K) rfl T.b_list (by decide +kernel) (pa_cons (pv 5) pa_nil)) (pa_cons (pv 7) (pa_cons (pv 8) pa_nil))))))
 (pss_cons (ps_for PassesOwn.never rfl (pi_range1 rfl T.b_range (pa_cons pe_int pa_nil)) (pg_name (i := 11) sc_law.nd rfl (Or.inl rfl))
 (pss_cons (ps_set (i := 12) sc_law.nd rfl (Or.inl rfl) (by exact (pe_cl (ok__law_due T) (hr.mono (by decide)) rfl (pa_cons (pv 2) (pa_cons (pv 4) (pa_cons (pv 5) (pa_cons (pv 7) (pa_cons (pv 8) pa_nil))))))))
 (pss_cons (ps_if (pt_cmpR (neK K hr.units) (pe_cl (ok__law_told T) (hr.mono (by decide)) rfl (pa_cons (pv 9) (pa_cons (pv 10) pa_nil))) (pv 12) (nomark _))
 (pss_one (ps_ret (by exact pe_bl)))
 pss_nil)
 (pss_cons (ps_if (pt_cmpR op_ne (pe_ix (ixt K) (pv 12) pe_int (fun _ _ => rfl)) pe_str (nomark _))
 (pss_one (ps_ret (by exact (pe_cmpR (eqK K hr.units) (pe_cl (ok__law_told T) (hr.mono (by decide)) rfl (pa_cons (pv 9) (pa_cons (pv 10) pa_nil))) (pv 12) (nomark _)))))
 pss_nil)
 (pss_one (ps_set (i := 7) sc_law.nd rfl (Or.inl rfl) (by exact (pe_ix (ixt K) (pv 12) pe_int (fun _ _ => rfl)))))))))
 (pss_one (ps_ret (by exact pe_bl))))))))))))))), ?_⟩)
  · first | (obtain ⟨rfl, _⟩ := h; rfl) | (obtain ⟨_, rfl, _⟩ := h; rfl) | (obtain ⟨_, _, rfl, _⟩ := h; rfl) | (obtain ⟨_, _, _, rfl, _⟩ := h; rfl) | (obtain ⟨_, _, _, _, rfl, _⟩ := h; rfl) | (obtain ⟨_, _, _, _, _, rfl, _⟩ := h; rfl) | (obtain ⟨_, _, _, _, _, _, rfl, _⟩ := h; rfl) | (obtain ⟨_, _, _, _, _, _, _, rfl, _⟩ := h; rfl) | (obtain ⟨_, _, _, _, _, _, _, _, rfl, _⟩ := h; rfl) | (obtain ⟨_, _, _, _, _, _, _, _, _, rfl, _⟩ := h; rfl) | (obtain ⟨_, _, _, _, _, _, _, _, _, _, rfl, _⟩ := h; rfl) | (obtain ⟨_, _, _, _, _, _, _, _, _, _, _, rfl, _⟩ := h; rfl) | (obtain ⟨_, _, _, _, _, _, _, _, _, _, _, _, rfl, _⟩ := h; rfl) | (obtain ⟨_, _, _, _, _, _, _, _, _, _, _, _, _, rfl, _⟩ := h; rfl) | (obtain ⟨_, _, _, _, _, _, _, _, _, _, _, _, _, _, rfl, _⟩ := h; rfl) | (obtain ⟨_, _, _, _, _, _, _, _, _, _, _, _, _, _, _, rfl, _⟩ := h; rfl) | (obtain ⟨_, _, _, _, _, _, _, _, _, _, _, _, _, _, _, _, rfl, _⟩ := h; rfl) | (obtain ⟨_, _, _, _, _, _, _, _, _, _, _, _, _, _, _, _, _, rfl, _⟩ := h; rfl) | (obtain ⟨_, _, _, _, _, _, _, _, _, _, _, _, _, _, _, _, _, _, rfl, _⟩ := h; rfl) | (obtain ⟨_, _, _, _, _, _, _, _, _, _, _, _, _, _, _, _, _, _, _, rfl, _⟩ := h; rfl) | (obtain ⟨_, _, _, _, _, _, _, _, _, _, _, _, _, _, _, _, _, _, _, _, rfl, _⟩ := h; rfl) | (obtain ⟨_, _, _, _, _, _, _, _, _, _, _, _, _, _, _, _, _, _, _, _, _, rfl, _⟩ := h; rfl)
  · obtain ⟨a, ns, rfl, hS, hlen, q⟩ := h
    k_call_by "xo" st_law
    have cB := T.c_Book
    have cR := T.c_BitReader
    have L := Own.start (K := K) (H := H)
    refine ⟨a, ns, rfl, hS, hlen, fun ds p H1 hd hs hp hl => ?_⟩
    have L := L.add0 hs hp hl
    clear hs hp hl hS
    wtm_at "oo"
    refine ⟨p, ds, 0, rfl, by wtm_at "qo", Int.le_refl 0, fun ls g H2 ok hw hl0 hl24 M => ?_⟩
    have L := L.c1 M
    clear M
    wtm_at "oo"
    generalize hk : tSeq _ _ _ = kont
    have fin : ∀ (ls : List Int) g y3 H2, okLen ls → wts ls ≤ 32768 → 0 < ls.length → Own K H H2 [pI g ls, pI p ds] → kont [some (.ref a), some (.ref p), some (.ref g), y3, none, none, none, none, none, none, none, none, none] H2 := by
      clear L ok hw hl0 hl24
      intro ls g y3 H2 ok hw hl0 L
      subst hk
      have hlen2 := ok.len
      wtm_at "oo"
      refine ⟨g, ls, rfl, by wtm_at "qo", ok, fun m H3 M => ?_⟩
      have L := L.c1 M
      clear M
      wtm_at "oo"
      wtm_at "cR"
      rename_i D H4 L4
      have hby : Byt (rngL (fun k => atD ds (30 + (0 + (k : Int))) 256) (atD ds 28 31).toNat) := by
        have key : ∀ x ∈ rngL (fun k => atD ds (30 + (0 + (k : Int))) 256) (atD ds 28 31).toNat, 0 ≤ x ∧ x < 256 := fun x m => by
          obtain ⟨k, _, rfl⟩ := List.mem_map.mp m
          exact ⟨atD_lo (by decide), atD_hi (by decide)⟩
        exact ⟨fun x m => (key x m).1, fun x m => (key x m).2⟩
      have hbl : (rngL (fun k => atD ds (30 + (0 + (k : Int))) 256) (atD ds 28 31).toNat).length ≤ 31 := by
        rw [rngL_len]
        omega
      generalize rngL (fun k => atD ds (30 + (0 + (k : Int))) 256) (atD ds 28 31).toNat = bs at *
      wtm_at "oo"
      rename_i a0 a1 e0 e1 z0 z1
      generalize atD ds 29 (8 * (bs.length : Int) + 1) = pl at *
      generalize atD ds 27 (8 * (bs.length : Int) - pl + 1) = more at *
      generalize hk : tSeq _ _ _ = kont
      have fin2 : ∀ en : Int, pl ≤ en → en ≤ 8 * bs.length → kont [some (.ref a), some (.ref p), some (.ref g), y3, some (.ref m), some (.ref D), none, some (.int pl), some (.int en), none, none, none, none] H4 := by
        intro en he1 he2
        subst hk
        wtm_at "oo"
        rename_i Lc H5 L5 b dxb H6 L6
        refine ⟨b, dxb, Lc, ls, rfl, by wtm_at "ho", by wtm_at "qo", ok, fun hf c l d H7 M => ⟨rfl, ?_⟩, fun k hk _ z => absurd (Int.le_trans (wts_pre ls (k + 1)) hw) (by omega)⟩
        have L := L6.mut1 (by wtm_at "tk") M
        have L : Own K H H7 [.pt b (bC K dxb c l (wts ls) d), pI c (cdL ls), pI l ls, .pt d (.dK (symK ls ls.length)), .pt dxb (.own b), pI Lc ls, pI D bs, pI m (cdL ls), pI g ls, pI p ds] := L
        have L := L.pick (l' := [.pt b (bC K dxb c l (wts ls) d), pI c (cdL ls), pI l ls, .pt d (.dK (symK ls ls.length)), pI D bs, pI m (cdL ls), pI g ls, pI p ds]) (by wtm_at "pk")
        clear M L5 L6
        wtm_at "oo"
        rename_i Dc H8 L8 x dx H9 L9
        refine ⟨x, dx, Dc, bs, pl, .int en, rfl, .inr ⟨en, rfl⟩, by wtm_at "ho", by wtm_at "qo", by omega, fun hg q1 H10 M => ⟨rfl, ?_⟩, fun z => absurd ⟨a0, he1, he2⟩ z⟩
        have L := L9.mut1 (by wtm_at "tk") M
        have L : Own K H H10 [.pt x (rC K dx q1 pl en), pI q1 bs, .pt dx (.own x), pI Dc bs, .pt b (bC K dxb c l (wts ls) d), pI c (cdL ls), pI l ls, .pt d (.dK (symK ls ls.length)), pI D bs, pI m (cdL ls), pI g ls, pI p ds] := L
        have L := L.pick (l' := [.pt x (rC K dx q1 pl en), pI q1 bs, .pt b (bC K dxb c l (wts ls) d), pI c (cdL ls), pI l ls, .pt d (.dK (symK ls ls.length)), pI D bs, pI m (cdL ls), pI g ls, pI p ds]) (by wtm_at "pk")
        clear M L8 L9
        wtm_at "oo"
        refine loop_rangeN (m := 40) rfl (fun i σ H' => ∃ pl y11 y12, σ = [some (.ref a), some (.ref p), some (.ref g), y3, some (.ref m), some (.ref D), none, some (.int pl), some (.int en), some (.ref b), some (.ref x), y11, y12] ∧
          Own K H H' [.pt x (rC K dx q1 pl en), pI q1 bs, .pt b (bC K dxb c l (wts ls) d), pI c (cdL ls), pI l ls, .pt d (.dK (symK ls ls.length)), pI D bs, pI m (cdL ls), pI g ls, pI p ds] ∧ RSt bs pl en) ⟨pl, _, _, rfl, L, hby, a0, he1, he2, by omega⟩ ?_ ?_
        · clear L he1 a0 a1 e0 e1
          rintro i σ H11 hi ⟨pl, y11, y12, rfl, L, rs⟩
          obtain ⟨s, n, m2, eR, hc⟩ := rdT_cases (ls := ls) rs
          wtm_at "oo"
          refine ⟨g, m, D, ls, bs, pl, en, rfl, by wtm_at "qo", by wtm_at "qo", by wtm_at "qo", ok, hw, hl0, rs, fun t H12 M => ?_⟩
          have L := L.c1 M
          clear M
          rw [eR] at L
          have L : Own K H H12 [.pt t (tupS2 s n m2), .pt x (rC K dx q1 pl en), pI q1 bs, .pt b (bC K dxb c l (wts ls) d), pI c (cdL ls), pI l ls, .pt d (.dK (symK ls ls.length)), pI D bs, pI m (cdL ls), pI g ls, pI p ds] := L
          wtm_at "oo"
          refine ⟨b, dxb, c, l, d, x, dx, q1, ls, bs, pl, en, rfl, ⟨by wtm_at "ho", by wtm_at "ho", by wtm_at "ho", by wtm_at "ho"⟩, ok, hw, by wtm_at "ho", by wtm_at "ho", rs, fun t2 H13 M => ?_⟩
          have L := L.mut1 (by wtm_at "tk") M
          clear M
          rw [eR] at L
          have L13 : Own K H H13 [.pt x (rC K dx q1 m2 en), .pt t2 (tupS2 s n m2), .pt t (tupS2 s n m2), pI q1 bs, .pt b (bC K dxb c l (wts ls) d), pI c (cdL ls), pI l ls, .pt d (.dK (symK ls ls.length)), pI D bs, pI m (cdL ls), pI g ls, pI p ds] := L
          have qt : SqT K H13 t [.str s, .int n, .int m2] := sqT_tupS2 (by wtm_at "ho")
          have qt2 : SqT K H13 t2 [.str s, .int n, .int m2] := sqT_tupS2 (by wtm_at "ho")
          have lay : (PyData.str s).canLay0 = true := by
            rcases hc with ⟨rfl, _⟩ | ⟨rfl, _⟩ | ⟨rfl, _⟩
            · exact lay_sym
            · exact lay_cut
            · exact lay_bad
          wtm_at "oo"
          refine ned_f (dq_tupS2 qt2 lay) (dq_tupS2 qt lay) ?_
          wtm_at "oo"
          refine sel_nd (fun cs => ?_) (fun cs => ?_)
          · have em : m2 = pl := by
              rcases hc with ⟨e, _⟩ | ⟨_, e⟩ | ⟨_, e⟩
              · exact absurd e cs
              · exact e
              · exact e
            subst em
            wtm_at "oo"
            refine ⟨b, dxb, c, l, d, x, dx, q1, ls, bs, _, en, rfl, ⟨by wtm_at "ho", by wtm_at "ho", by wtm_at "ho", by wtm_at "ho"⟩, ok, hw, by wtm_at "ho", by wtm_at "ho", rs, fun t3 H14 M => ?_⟩
            have L := L13.mut1 (by wtm_at "tk") M
            clear M
            rw [eR] at L
            have L : Own K H H14 [.pt x (rC K dx q1 m2 en), .pt t3 (tupS2 s n m2), .pt t2 (tupS2 s n m2), .pt t (tupS2 s n m2), pI q1 bs, .pt b (bC K dxb c l (wts ls) d), pI c (cdL ls), pI l ls, .pt d (.dK (symK ls ls.length)), pI D bs, pI m (cdL ls), pI g ls, pI p ds] := L
            have qt : SqT K H14 t [.str s, .int n, .int m2] := sqT_tupS2 (by wtm_at "ho")
            have qt3 : SqT K H14 t3 [.str s, .int n, .int m2] := sqT_tupS2 (by wtm_at "ho")
            wtm_at "oo"
            refine eqd_t (dq_tupS2 qt3 lay) (dq_tupS2 qt lay) ?_
            exact q _
          · have rs2 : RSt bs m2 en := by
              rcases hc with ⟨_, e⟩ | ⟨e, _⟩ | ⟨e, _⟩
              · exact e
              · rw [e, s_cs] at cs
                exact cs.elim
              · rw [e, s_bs] at cs
                exact cs.elim
            wtm_at "oo"
            exact ⟨L13.pick (by wtm_at "pk"), rs2⟩
        · rintro σ H11 ⟨pl, y11, y12, rfl, L, rs⟩
          wtm_at "oo"
          exact q _
      refine sel_d (fun c => ?_) (fun c => ?_)
      · wtm_at "oo"
        exact fin2 _ (by omega) (by omega)
      · wtm_at "oo"
        exact fin2 _ (by omega) (by omega)
    wtm_at "oo"
    refine sel_d (fun c => ?_) (fun c => ?_)
    · wtm_at "oo"
      have hlen2 := ok.len
      refine compLi (xs := ls) (fun _ => 0) L (by wtm_at "qo") (by omega) (fun k x D H3 hx L3 => ?_) (fun H' L => by wtm_at "qo") (fun D H3 L3 => ?_)
      · wtm_at "oo"
      have hz : ∀ x ∈ ls.map (fun _ => (0 : Int)), x = 0 := fun x m => by
        obtain ⟨_, _, rfl⟩ := List.mem_map.mp m
        rfl
      have hl2 : (ls.map (fun _ => (0 : Int))).length = ls.length := List.length_map ..
      exact fin (ls.map fun _ => 0) D _ H3 ⟨fun x m => by rw [hz x m]; decide, fun x m => by rw [hz x m]; decide, by omega⟩ (by rw [wts_all0 hz]; decide) (by omega) (L3.pick (by wtm_at "pk"))
    · wtm_at "oo"
      exact fin ls g _ H2 ok hw hl0 L


end
end K11

namespace K11
open PySem PySem.Spec PyProof.Rows L2 Bel
def fa : List He.Fa := [.glo "_law_draws", .glo "_law_at", .glo "_law_is_integer", .glo "_law_is_row", .glo "_weight_of", .glo "weight", .glo "_check_weight", .glo "_first_codes", .glo "codes", .glo "_law_codes", .glo "_law_lengths", .glo "_law_due", .glo "_law_told", .glo "law", .free "abs", .free "bool", .free "enumerate", .free "int", .free "isinstance", .free "len", .free "list", .free "max", .free "min", .free "range", .free "reversed", .free "sum", .exm "BadCode" "Truncated" false, .glo "BitReader", .cls "BitReader", .noat "BitReader" "_data", .noat "BitReader" "_place", .noat "BitReader" "_end", .glo "Book", .cls "Book", .noat "Book" "_codes", .noat "Book" "_lengths", .noat "Book" "_weight", .noat "Book" "_symbols", .meth "Book" "_marked_symbols", .mkr "Book", .meth "Book" "_begins_code", .mkr "BitReader", .meth "BitReader" "place", .meth "BitReader" "left", .meth "BitReader" "look", .meth "BitReader" "take", .meth "Book" "read"]
def fn : List He.DefD := [⟨("_law_draws", none), "_law_draws", "_law_draws", defArgs s__law_draws, defBody s__law_draws, defScope s__law_draws, [], []⟩, ⟨("_law_at", none), "_law_at", "_law_at", defArgs s__law_at, defBody s__law_at, defScope s__law_at, [], []⟩, ⟨("_law_is_integer", none), "_law_is_integer", "_law_is_integer", defArgs s__law_is_integer, defBody s__law_is_integer, defScope s__law_is_integer, [], []⟩, ⟨("_law_is_row", none), "_law_is_row", "_law_is_row", defArgs s__law_is_row, defBody s__law_is_row, defScope s__law_is_row, [], []⟩, ⟨("_weight_of", none), "_weight_of", "_weight_of", defArgs s__weight_of, defBody s__weight_of, defScope s__weight_of, [], []⟩, ⟨("weight", none), "weight", "weight", defArgs s_weight, defBody s_weight, defScope s_weight, [], []⟩, ⟨("_check_weight", none), "_check_weight", "_check_weight", defArgs s__check_weight, defBody s__check_weight, defScope s__check_weight, [], []⟩, ⟨("_first_codes", none), "_first_codes", "_first_codes", defArgs s__first_codes, defBody s__first_codes, defScope s__first_codes, [], []⟩, ⟨("codes", none), "codes", "codes", defArgs s_codes, defBody s_codes, defScope s_codes, [], []⟩, ⟨("_law_codes", none), "_law_codes", "_law_codes", defArgs s__law_codes, defBody s__law_codes, defScope s__law_codes, [], []⟩, ⟨("_law_lengths", none), "_law_lengths", "_law_lengths", defArgs s__law_lengths, defBody s__law_lengths, defScope s__law_lengths, [], []⟩, ⟨("_law_due", none), "_law_due", "_law_due", defArgs s__law_due, defBody s__law_due, defScope s__law_due, [], []⟩, ⟨("_law_told", none), "_law_told", "_law_told", defArgs s__law_told, defBody s__law_told, defScope s__law_told, [], []⟩, ⟨("law", none), "law", "law", defArgs s_law, defBody s_law, defScope s_law, [], []⟩, ⟨("Book", some "_marked_symbols"), "_marked_symbols", "Book._marked_symbols", defArgs s_Book__marked_symbols, defBody s_Book__marked_symbols, defScope s_Book__marked_symbols, [], []⟩, ⟨("Book", some "__init__"), "__init__", "Book.__init__", defArgs s_Book___init__, defBody s_Book___init__, defScope s_Book___init__, [], []⟩, ⟨("Book", some "_begins_code"), "_begins_code", "Book._begins_code", defArgs s_Book__begins_code, defBody s_Book__begins_code, defScope s_Book__begins_code, [], []⟩, ⟨("BitReader", some "__init__"), "__init__", "BitReader.__init__", defArgs s_BitReader___init__, defBody s_BitReader___init__, defScope s_BitReader___init__, [.int (0), .non], []⟩, ⟨("BitReader", some "place"), "place", "BitReader.place", defArgs s_BitReader_place, defBody s_BitReader_place, defScope s_BitReader_place, [], []⟩, ⟨("BitReader", some "left"), "left", "BitReader.left", defArgs s_BitReader_left, defBody s_BitReader_left, defScope s_BitReader_left, [], []⟩, ⟨("BitReader", some "look"), "look", "BitReader.look", defArgs s_BitReader_look, defBody s_BitReader_look, defScope s_BitReader_look, [], []⟩, ⟨("BitReader", some "take"), "take", "BitReader.take", defArgs s_BitReader_take, defBody s_BitReader_take, defScope s_BitReader_take, [], []⟩, ⟨("Book", some "read"), "read", "Book.read", defArgs s_Book_read, defBody s_Book_read, defScope s_Book_read, [], []⟩, ⟨("BellowsError", some "__init__"), "__init__", "BellowsError.__init__", defArgs s_BellowsError___init__, defBody s_BellowsError___init__, defScope s_BellowsError___init__, [], []⟩]
def ck (K : PySem.W.Frag) : List Bool := [exFB K "OutOfRange", exFB K "Truncated", exFB K "TooManyCodes", exFB K "BadCode", decide (PySem.W.typeIn K (.ref (He.ma K (He.ga K "BellowsError") "__init__")) = some (.type "function")), cvB K "MOST_BITS" (.int (15)), cvB K "FULL_WEIGHT" (.int (32768)), cvB K "_MOST_BITS" (.int (64))]
def ex (K : PySem.W.Frag) : Bool := (ck K).all id
abbrev R : PySem.W.OpenRow := PySem.W.OpenLaw.row PySem.Challenge.rw_bellows_k11_symbols_read
abbrev hk : PySem.W.Hook := He.hookX 4 fa fn [] [] ex
def ob (s : PySem.W.SharedT) : He.AlX := He.obsX 4 fa fn [] [] ex (HandSHeadRun.getT s)
theorem ob_eq (s : PySem.W.SharedT) : ob s = hk.obs s.abs := He.obsX_eq (HandSHeadRun.getT_eq s)
def loose : List Str := (["BadCode", "BellowsError", "BitReader", "Book", "FULL_WEIGHT", "MOST_BITS", "NoCode", "OutOfRange", "TooManyCodes", "Truncated", "_MOST_BITS", "_check_weight", "_first_codes", "_law_at", "_law_codes", "_law_draws", "_law_due", "_law_is_integer", "_law_is_row", "_law_lengths", "_law_told", "_wall", "_weight_of", "codes", "weight"] : List Str)
theorem run (w : World) : HandSHeadRun.RunEq R (PySem.W.view R.prog [30]) hk ob 6000 loose w := by
  intro os
  kernel_rfl
theorem tx_of {w : World} {K : PySem.W.Frag} {h : Heap} {mg : Str → Option Value} (X : K.In h) (G : h.Ns mainGlobals mg) (c : He.SaysX fa fn [] [] ex w h K) : Tx K mg := by
  have hf : ∀ {f : He.Fa}, f ∈ fa → f.ok K = true := fun m => He.SaysD.facts c.t.d m
  have hx : ∀ (i : Nat) {b : Bool}, (ck K)[i]? = some b → b = true := fun i b e => List.all_eq_true.mp c.more b (List.mem_of_getElem? e)
  exact ⟨He.free_ok X G (hf (List.mem_of_getElem? (i := 14) rfl)),
    He.free_ok X G (hf (List.mem_of_getElem? (i := 15) rfl)),
    He.free_ok X G (hf (List.mem_of_getElem? (i := 16) rfl)),
    He.free_ok X G (hf (List.mem_of_getElem? (i := 17) rfl)),
    He.free_ok X G (hf (List.mem_of_getElem? (i := 18) rfl)),
    He.free_ok X G (hf (List.mem_of_getElem? (i := 19) rfl)),
    He.free_ok X G (hf (List.mem_of_getElem? (i := 20) rfl)),
    He.free_ok X G (hf (List.mem_of_getElem? (i := 21) rfl)),
    He.free_ok X G (hf (List.mem_of_getElem? (i := 22) rfl)),
    He.free_ok X G (hf (List.mem_of_getElem? (i := 23) rfl)),
    He.free_ok X G (hf (List.mem_of_getElem? (i := 24) rfl)),
    He.free_ok X G (hf (List.mem_of_getElem? (i := 25) rfl)),
    cvB_ok X G (hx 5 rfl),
    cvB_ok X G (hx 6 rfl),
    cvB_ok X G (hx 7 rfl),
    exFB_ok X G (hx 0 rfl),
    exFB_ok X G (hx 1 rfl),
    exFB_ok X G (hx 2 rfl),
    exFB_ok X G (hx 3 rfl),
    He.exm_ok (hf (List.mem_of_getElem? (i := 26) rfl)),
    He.glo_ok X G (hf (List.mem_of_getElem? (i := 27) rfl)),
    ⟨He.cls_ok (hf (List.mem_of_getElem? (i := 28) rfl)), fun f hm => match f, hm with | _, .head _ => He.noat_ok (hf (List.mem_of_getElem? (i := 29) rfl)) | _, .tail _ (.head _) => He.noat_ok (hf (List.mem_of_getElem? (i := 30) rfl)) | _, .tail _ (.tail _ (.head _)) => He.noat_ok (hf (List.mem_of_getElem? (i := 31) rfl))⟩,
    He.glo_ok X G (hf (List.mem_of_getElem? (i := 32) rfl)),
    ⟨He.cls_ok (hf (List.mem_of_getElem? (i := 33) rfl)), fun f hm => match f, hm with | _, .head _ => He.noat_ok (hf (List.mem_of_getElem? (i := 34) rfl)) | _, .tail _ (.head _) => He.noat_ok (hf (List.mem_of_getElem? (i := 35) rfl)) | _, .tail _ (.tail _ (.head _)) => He.noat_ok (hf (List.mem_of_getElem? (i := 36) rfl)) | _, .tail _ (.tail _ (.tail _ (.head _))) => He.noat_ok (hf (List.mem_of_getElem? (i := 37) rfl))⟩,
    ⟨He.glo_ok X G (hf (List.mem_of_getElem? (i := 0) rfl)), He.SaysD.defs c.t.d (d := fn[0]) (List.mem_of_getElem? (i := 0) rfl)⟩,
    ⟨He.glo_ok X G (hf (List.mem_of_getElem? (i := 1) rfl)), He.SaysD.defs c.t.d (d := fn[1]) (List.mem_of_getElem? (i := 1) rfl)⟩,
    ⟨He.glo_ok X G (hf (List.mem_of_getElem? (i := 2) rfl)), He.SaysD.defs c.t.d (d := fn[2]) (List.mem_of_getElem? (i := 2) rfl)⟩,
    ⟨He.glo_ok X G (hf (List.mem_of_getElem? (i := 3) rfl)), He.SaysD.defs c.t.d (d := fn[3]) (List.mem_of_getElem? (i := 3) rfl)⟩,
    ⟨He.glo_ok X G (hf (List.mem_of_getElem? (i := 4) rfl)), He.SaysD.defs c.t.d (d := fn[4]) (List.mem_of_getElem? (i := 4) rfl)⟩,
    ⟨He.glo_ok X G (hf (List.mem_of_getElem? (i := 5) rfl)), He.SaysD.defs c.t.d (d := fn[5]) (List.mem_of_getElem? (i := 5) rfl)⟩,
    ⟨He.glo_ok X G (hf (List.mem_of_getElem? (i := 6) rfl)), He.SaysD.defs c.t.d (d := fn[6]) (List.mem_of_getElem? (i := 6) rfl)⟩,
    ⟨He.glo_ok X G (hf (List.mem_of_getElem? (i := 7) rfl)), He.SaysD.defs c.t.d (d := fn[7]) (List.mem_of_getElem? (i := 7) rfl)⟩,
    ⟨He.glo_ok X G (hf (List.mem_of_getElem? (i := 8) rfl)), He.SaysD.defs c.t.d (d := fn[8]) (List.mem_of_getElem? (i := 8) rfl)⟩,
    ⟨He.glo_ok X G (hf (List.mem_of_getElem? (i := 9) rfl)), He.SaysD.defs c.t.d (d := fn[9]) (List.mem_of_getElem? (i := 9) rfl)⟩,
    He.SaysD.defs c.t.d (d := fn[14]) (List.mem_of_getElem? (i := 14) rfl),
    He.meth_ok (hf (List.mem_of_getElem? (i := 38) rfl)),
    He.SaysD.defs c.t.d (d := fn[15]) (List.mem_of_getElem? (i := 15) rfl),
    He.mkr_ok (hf (List.mem_of_getElem? (i := 39) rfl)),
    He.SaysD.defs c.t.d (d := fn[16]) (List.mem_of_getElem? (i := 16) rfl),
    He.meth_ok (hf (List.mem_of_getElem? (i := 40) rfl)),
    ⟨He.glo_ok X G (hf (List.mem_of_getElem? (i := 10) rfl)), He.SaysD.defs c.t.d (d := fn[10]) (List.mem_of_getElem? (i := 10) rfl)⟩,
    He.SaysD.defs c.t.d (d := fn[17]) (List.mem_of_getElem? (i := 17) rfl),
    He.mkr_ok (hf (List.mem_of_getElem? (i := 41) rfl)),
    He.SaysD.defs c.t.d (d := fn[18]) (List.mem_of_getElem? (i := 18) rfl),
    He.meth_ok (hf (List.mem_of_getElem? (i := 42) rfl)),
    He.SaysD.defs c.t.d (d := fn[19]) (List.mem_of_getElem? (i := 19) rfl),
    He.meth_ok (hf (List.mem_of_getElem? (i := 43) rfl)),
    He.SaysD.defs c.t.d (d := fn[20]) (List.mem_of_getElem? (i := 20) rfl),
    He.meth_ok (hf (List.mem_of_getElem? (i := 44) rfl)),
    He.SaysD.defs c.t.d (d := fn[21]) (List.mem_of_getElem? (i := 21) rfl),
    He.meth_ok (hf (List.mem_of_getElem? (i := 45) rfl)),
    He.SaysD.defs c.t.d (d := fn[22]) (List.mem_of_getElem? (i := 22) rfl),
    He.meth_ok (hf (List.mem_of_getElem? (i := 46) rfl)),
    ⟨He.glo_ok X G (hf (List.mem_of_getElem? (i := 11) rfl)), He.SaysD.defs c.t.d (d := fn[11]) (List.mem_of_getElem? (i := 11) rfl)⟩,
    ⟨He.glo_ok X G (hf (List.mem_of_getElem? (i := 12) rfl)), He.SaysD.defs c.t.d (d := fn[12]) (List.mem_of_getElem? (i := 12) rfl)⟩,
    ⟨He.glo_ok X G (hf (List.mem_of_getElem? (i := 13) rfl)), He.SaysD.defs c.t.d (d := fn[13]) (List.mem_of_getElem? (i := 13) rfl)⟩,
    ⟨of_decide_eq_true (hx 4 rfl), He.SaysD.defs c.t.d (d := fn[23]) (List.mem_of_getElem? (i := 23) rfl)⟩⟩
theorem last {l : PySem.W.OpenLaw} {w : World} {K : PySem.W.Frag} {h : Heap} {mg : Str → Option Value} {fa : Addr} (T : Tx K mg) (KX : K.In h) (hmg : mg "law" = some (.ref fa)) :
    ∃ (K : PySem.W.Frag) (fd : FuncData) (sp : Sp), K.In h ∧ (∀ (s : Shared) (u : Value), BindsTo s fd ⟨[u], []⟩ [("script", u)]) ∧
        (∀ (H : Hp) (a : Addr) (ns : List Int), ns.length ≤ 63 → Only H → SqL K H a (ns.map V.int) → sp [.ref a] H (fun v _ => v = .bl true) fun _ _ _ => False) ∧
        ∀ base : Heap, K.In base → base.Ns mainGlobals mg → FnOk l.prog w K mg base CX0 7 fa fd ["script"] sp := by
  obtain ⟨gm, fd, F⟩ := T.d_law
  have e := hmg.symm.trans gm
  cases e
  have b := FunD.bindsA (ps := ["script"]) F fun _ _ _ _ _ _ us hl => match us, hl with | [_], _ => rfl
  exact ⟨K, fd, sp_law K, KX, fun s u => b s [u] rfl, fun H a ns hl _ hS => ⟨a, ns, rfl, hS, hl, fun _ => rfl⟩, fun base _ _ => toCX0 (okf_law T F) fun _ _ _ _ z => z⟩
end K11

open PySem PySem.W PySem.Calls PyProof.Rows
set_option maxHeartbeats 0 in
theorem PySem.Challenge.cw_bellows_k11_symbols_read_holds : PySem.Challenge.rw_bellows_k11_symbols_read.Holds := by
  w_on; o_law
  refine HandSHeadRun.head_any (r := OpenLaw.row PySem.Challenge.rw_bellows_k11_symbols_read) (q := view (OpenLaw.row PySem.Challenge.rw_bellows_k11_symbols_read).prog [30]) (H := K11.hk) (ob := K11.ob) (M := 6000) (loose := K11.loose) (d := HandSHeadRun.topDef (OpenLaw.row PySem.Challenge.rw_bellows_k11_symbols_read).prog 30) (kwd := []) K11.ob_eq
    (by kernel_rfl) (fun s => by kernel_rfl) K11.run (by kernel_rfl) (by kernel_rfl) (by kernel_rfl) (by rfl) (by first | assumption | decide +kernel) (by decide +kernel) ⟨rfl, rfl, rfl, rfl, rfl, by decide +kernel⟩ ?hw ?hc
  case hw => w_witness2
  case hc =>
    refine L2.walk_ofE (l := PySem.Challenge.rw_bellows_k11_symbols_read) (n := 63) (k := 7) (x := "script") (CX := L2.CX0) rfl (by decide) (by kernel_rfl) ⟨rfl, by decide, by decide⟩ ?F (fun _ _ _ _ z => z)
    intro w mg fa h Y G hmg0
    obtain ⟨K, KX, c⟩ := Y
    have hmg : mg ("law" : PySem.Str) = some (.ref fa) := by
      have e : (HandSHeadRun.topDef (OpenLaw.row PySem.Challenge.rw_bellows_k11_symbols_read).prog 30).name = ("law" : PySem.Str) := by kernel_rfl
      rw [← e]
      exact hmg0
    have T := K11.tx_of KX G c
    exact K11.last T KX hmg
