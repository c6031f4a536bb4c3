import PyProof.Rows.All
import Wide.All
import OpenK.AllK
import Wide.FinOn
import HandS.ForMost
import HandS.ForExc
import HandS.ExcInit
import HandS.ExcField
import HandS.IsInst
import HandS.Defaults
import HandS.Head0
import HandS.Head1
import HandS.Head2
import HandS.HeadEnd
import HandS.HeadHook4
import HandS.WideBits
import HandS.SetFor
import HandS.ExcCtx
import HandS.HotCalls
import HandS.ExcInitHot
import HandS.RevRange
import HandS.TryOnly
import HandS.ExcIs
import HandS.Style
import HandS.More
import PySem.Challenge.RW_bellows_k41_fewest_rows
set_option Elab.async false
set_option linter.all false
set_option maxRecDepth 100000
set_option maxHeartbeats 4000000
namespace Bel
open PySem PySem.Spec PyProof.Rows L2
theorem passN {X : Cx} : Passes (L2N.CX X.prog X.w) X E0 := fun _ _ _ _ _ _ _ z => by
  obtain ⟨_, _, _, _, _, _, _, _, _, _, _, _, no⟩ := z
  cases no
theorem takes0N {X : Cx} : L2N.Takes X (fun _ _ _ _ => False) := fun _ _ z => by
  obtain ⟨_, _, _, _, _, _, _, _, _, _, _, _, _, _, _, _, no⟩ := z
  cases no
section
variable {X : Cx} {es : List Expr} {e : Expr} {ta : TA} {p pos : Pos}
/-- an own exception made by its __init__: its context is None -/
theorem made_n {CX : CXT} {x : Str} {C fI : Addr} {k : Nat} {fd : FuncData} {ps : List Str} {sp : Sp} {ds : List Value} {dvs : List V}
    (T : OexC X.K C)
    (ini : PySem.W.findIn X.K (.ref C) "__init__" = some (some (.ref fI)))
    (isf : PySem.W.typeIn X.K (.ref fI) = some (.type "function"))
    (pr : FnOk X.prog X.w X.K X.mg X.base CX k fI fd ps sp)
    (room : Room (k + 1) X.A) (bnd : Binds X.K fd ps ds) (dv : Vals dvs ds)
    (out : Passes CX X (fun _ _ _ => False)) (hg : Gl X x) (hm : X.mg x = some (.ref C)) (ha : PA X (e :: es) ta)
    (hdb : (x == ("__debug__" : Str)) = false)
    (h1 : starEach (e :: es) X.env = (false, eval e X.env) :: starEach es X.env)
    (h2 : (backTo pos (starEach es X.env)).any (·.1) = false) :
    L2N.PMk X (.Call (.Name x p) (e :: es) [] pos) (tMkO C sp dvs ta) := by
  intro pn st σ H Q hin want
  obtain ⟨_, _, _, _, m, _, _, _, _, _, _, _, _, _, _, cl, mref⟩ := T.cls
  refine wpAny_Call_Name_kw (ld_glob hin hg hm ?_ hdb)
  refine PySem.W.callWith_K (h₀ := X.base)
    hin.ok.mod.kin T.kC (thn (ha.run pos pn st σ H _ hin want) fun us s1 got => ?_) h1 h2
  obtain ⟨vs, G, in1, rel, small, start⟩ := got
  refine ⟨in1.kIn, ?_⟩
  show wpAny _ _ (call (.ref C) us) _ _ _
  obtain ⟨hp, g, dr, tk, os⟩ := s1
  let N := hp.objs.size
  have up : N ≤ N + 1 := Nat.le_succ _
  have go := start (N + 1) (in1.hok.fresh up)
  let h' := (hp.push (PySem.W.kdv_tup us)).push (PySem.HandSPX.excO C N)
  have keep : ∀ b o, hp.get? b = some o → h'.get? b = some o := fun b o z =>
    Heap.get?_push_of_some _ (Heap.get?_push_of_some _ z)
  have there : h'.get? (N + 1) = some (PySem.HandSPX.excO C N) := by
    show ((hp.push (PySem.W.kdv_tup us)).push (PySem.HandSPX.excO C hp.objs.size)).get? (hp.objs.size + 1) = _
    heap_get
  have in2 : Inv X pn σ (upd G (N + 1) (exo (N + 1) C none)) ⟨h', g, dr, tk, os⟩ :=
    in1.laid (t' := tk) (a := N + 1) (o := exo (N + 1) C none) (h' := h') keep up (exo_ok there)
  have all : Vals (V.ref (N + 1) :: (vs ++ dvs)) (Value.ref (N + 1) :: (us ++ ds)) :=
    .cons rfl (rel.append dv)
  have size : (Value.ref (N + 1) :: us ++ ds).length = ps.length :=
    all.length.symm.trans (pr.len _ _ _ _ go)
  have few : us.length ≤ sizeLine := by
    rw [← Paired.length rel, sizeLine_eq]
    omega
  have body := pr.run _ X.stack _ _ ⟨Value.ref (N + 1) :: us, []⟩
    (Value.ref (N + 1) :: (us ++ ds)) _ _ (fun _ _ _ => False)
    (room.make C us []) (in2.env0.make C us [])
    (bnd _ (Value.ref (N + 1) :: us) in2.kIn size) all go
  refine wpAny_call (PySem.HandSPX.call_own PySem.F.excBase_ValueError
    (fun Y => PySem.HandSPX.refsVE_contains Y m mref) (in1.kIn _ _ cl)
    (PySem.W.looks_findIn in1.kIn ini) (fun self => PySem.W.bind_fn in1.kIn self isf) few
    (codeAny_mono body fun r s' fin => ?_))
  rcases r with er | fl
  · exact out pn σ _ _ er s' in2 fin
  · cases fl with
    | ret u =>
      obtain ⟨v, H2, os2, bare2, un2, hok2, rv, ev, d, fs, ea, ed, fresh, q2⟩ := fin
      subst ev
      obtain ⟨w2, g2, d2, t2, os'⟩ := s'
      obtain ⟨t0, B, J, kB, gone, obj, na⟩ :=
        mk_end0 (d2 := d2) (t2 := t2) in1 up keep un2 hok2 os2 bare2 ea ed fresh
      have ctx : PySem.PXN.CtxN ({ cls := .ref C, dict := some d, data := .fields #[.ref t0, .none, .none, .none, .bool false, .none] } : Obj) := fun vs z => by
        cases z
        rfl
      exact ⟨rv, N + 1, _, _, ⟨B, g2, d2, t2, os'⟩, _, .ref C, some d, rfl, J, kB, gone, obj,
        ⟨rfl, rfl, ctx⟩, rfl, rfl, na, rfl, bare2, raises_own T.exC T.tyC, q2⟩
    | next => exact fin.elim
    | brk => exact fin.elim
    | cont => exact fin.elim
end
/-! ### defs by name -/
structure Cl (P : Program) (w : World) (K : PySem.W.Frag) (mg : Str → Option Value) (base : Heap) (k : Nat) (x : Str) (ps : List Str) (sp : Sp) (dvs : List V) : Prop where
  ex : ∃ (f : Addr) (fd : FuncData) (ds : List Value), FnOk P w K mg base (L2N.CX P w) k f fd ps sp ∧ mg x = some (.ref f) ∧ PySem.W.keepIn K (.ref f) = true ∧ Binds K fd ps ds ∧ Vals dvs ds
section
variable {X : Cx} {k : Nat} {x : Str} {ps : List Str} {sp : Sp} {dvs : List V} {p pos : Pos} {e : Expr} {es : List Expr} {t : TA} {W : WX}
theorem pe_cl (c : Cl X.prog X.w X.K X.mg X.base k x ps sp dvs) (hr : Room k X.A) (hg : Gl X x) (ha : PA X (e :: es) t)
    (hdb : (x == ("__debug__" : Str)) = false := by decide) (he : starEach (e :: es) X.env = (false, eval e X.env) :: starEach es X.env := by rfl) (hpl : (backTo pos (starEach es X.env)).any (·.1) = false := by rfl) :
    PE X (.Call (.Name x p) (e :: es) [] pos) (tCall sp dvs E0 t) := by
  obtain ⟨f, fd, ds, F, hm, hk, hb, hd⟩ := c.ex
  exact pe_call F hr hg hm hk hb hd passN ha hdb he hpl
theorem pe_cl0 (c : Cl X.prog X.w X.K X.mg X.base k x ps sp dvs) (hr : Room k X.A) (hg : Gl X x)
    (hdb : (x == ("__debug__" : Str)) = false := by decide) :
    PE X (.Call (.Name x p) [] [] pos) (tCall sp dvs E0 tNil) := by
  obtain ⟨f, fd, ds, F, hm, hk, hb, hd⟩ := c.ex
  exact pe_call0 F hr hg hm hk hb hd passN hdb
theorem run_fnD {f : Addr} {fd : FuncData} {dl : List Value} {Ex : XK} {pn : List (Addr × Obj)} {st : L2.St} {Hs : Hp} {sh : Shared} {Qv : VK} {args : List Value} {av : List V} (hr : Room k X.A) (hin : Inv X pn st Hs sh) (rel : Vals av args) (hd : Vals dvs dl)
    (ok : FnOk X.prog X.w X.K X.mg X.base (L2N.CX X.prog X.w) k f fd ps sp) (bnd : Binds X.K fd ps dl) (out : PassesAt (L2N.CX X.prog X.w) X st Ex)
    (pr : sp (av ++ dvs) Hs Qv Ex) : wpAny (model X.prog X.w) X.A (call (.ref f) args) (EP X pn st Qv) X.xe sh := by
  have all := rel.append hd
  have size : (args ++ dl).length = ps.length := by
    rw [← all.length]
    exact ok.len _ _ _ _ pr
  refine wpAny_call (codeAny_mono (ok.run X.A X.stack sh Hs ⟨args, []⟩ (args ++ dl) (av ++ dvs) Qv Ex hr hin.env0 (bnd sh args hin.kIn size) all pr) fun res sh2 fin => ?_)
  rcases res with er | fl
  · exact out pn Hs sh er sh2 hin fin
  · cases fl with
    | ret u => exact hin.after fin
    | next => exact fin.elim
    | brk => exact fin.elim
    | cont => exact fin.elim
/-- a call whose exceptions the body takes by W -/
def tClS (sp : Sp) (dvs : List V) (W : WX) (t : TA) : TE := fun σ H Q => t σ H fun vs H1 => sp (vs ++ dvs) H1 Q (WE W σ)
theorem pe_clS
    (c : Cl X.prog X.w X.K X.mg X.base k x ps sp dvs) (hr : Room k X.A) (hg : Gl X x) (tk : L2N.Takes X W) (ha : PA X (e :: es) t)
    (hdb : (x == ("__debug__" : Str)) = false := by decide) (he : starEach (e :: es) X.env = (false, eval e X.env) :: starEach es X.env := by rfl) (hpl : (backTo pos (starEach es X.env)).any (·.1) = false := by rfl) :
    PE X (.Call (.Name x p) (e :: es) [] pos) (tClS sp dvs W t) := by
  obtain ⟨f, fd, dl, ok, gm, kept, bnd, hd⟩ := c.ex
  refine ⟨fun pn sh st Hs Qv hin hq => wpAny_Call_Name_kw (ld_glob hin hg gm ?_ hdb)⟩
  refine PySem.W.callWith_K (h₀ := X.base) hin.ok.mod.kin kept (thn (ha.run pos pn sh st Hs _ hin hq) fun args sh1 ⟨av, H1, in1, rel, pr⟩ => ⟨in1.kIn, ?_⟩) he hpl
  exact run_fnD hr in1 rel hd ok bnd (L2N.passAt tk st) pr
end
theorem pe_gc {X : Cx} {x : Str} {pos : Pos} {v : V} (hg : Gl X x) (h : ∃ u, X.mg x = some u ∧ RelV v u) (hd : (x == ("__debug__" : Str)) = false := by decide) : PE X (.Name x pos) (tC v) := by
  obtain ⟨u, hm, r⟩ := h
  exact pe_glob hg hm r hd
theorem toCX0 {P : Program} {w : World} {K : PySem.W.Frag} {mg : Str → Option Value} {base : Heap} {k : Nat} {f : Addr} {fd : FuncData} {ps : List Str} {sp : Sp} (F : FnOk P w K mg base (L2N.CX P w) k f fd ps sp) (h : ∀ vs H Q E, sp vs H Q E → sp vs H Q E0) : FnOk P w K mg base CX0 k f fd ps sp := by
  refine ⟨F.len, fun A outer s H args us vs Q E hr e0 hb r hs => codeAny_mono (F.run A outer s H args us vs Q E0 hr e0 hb r (h _ _ _ _ hs)) fun r s' hq => ?_⟩
  cases r with
  | error e =>
    obtain ⟨_, _, _, _, _, _, _, _, _, _, _, _, z⟩ := hq
    exact z
  | ok fl => cases fl <;> exact hq
/-! ### own exceptions with the one attribute at -/
open He in
structure ExF (K : PySem.W.Frag) (mg : Str → Option Value) (x : Str) : Prop where
  g : mg x = some (.ref (ga K x))
  oex : OexC K (ga K x)
  iC : PySem.W.findIn K (.ref (ga K x)) "__init__" = some (some (.ref (ma K (ga K "BellowsError") "__init__")))
  noat : PySem.W.findIn K (.ref (ga K x)) "at" = some none
  xf : XfC K (ga K x)
  te : PySem.W.exmOne K (.ref (ga K x)) (.ref (ga K x)) = some true
open He in
def oexB (K : PySem.W.Frag) (C : Addr) : Bool := (match K.lookup C with
  | some ⟨.type "type", _, .cls data, slots⟩ => (match data.mro, slots.toList with
    | .ref C' :: line, [_, _, _, _, some (.builtin n), _] => decide (C' = C) && (decide (n = "ValueError.__new__") && (!data.hasDel && (data.hasDict && PySem.HandSPX.refsVE line)))
    | _, _ => false)
  | _ => false) && (decide (PySem.W.findIn K (.ref C) "__setattr__" = some (some (.builtin "object.__setattr__"))) && (decide (PySem.W.subIn K (.ref C) (.type "BaseException") = some true) && (decide (PySem.W.typeIn K (.ref C) = some (.type "type")) && PySem.W.keepIn K (.ref C))))
theorem ba {x y : Bool} (e : (x && y) = true) : x = true ∧ y = true := by
  cases x <;> cases y <;> first | exact ⟨rfl, rfl⟩ | cases e
theorem oexB_ok {K : PySem.W.Frag} {C : Addr} (h : oexB K C = true) : OexC K C := by
  obtain ⟨q, h⟩ := ba h
  obtain ⟨h2, h⟩ := ba h
  obtain ⟨h3, h⟩ := ba h
  obtain ⟨h4, h5⟩ := ba h
  refine ⟨?_, of_decide_eq_true h2, of_decide_eq_true h3, of_decide_eq_true h4, h5⟩
  split at q
  · rename_i own data slots there
    split at q
    · rename_i C2 line z0 z1 z2 z3 n z5 em es
      simp only [Bool.and_eq_true, decide_eq_true_eq, Bool.not_eq_true'] at q
      obtain ⟨rfl, rfl, nodel, dict, tail⟩ := q
      obtain ⟨nm, bases, mro, ns, qn, hdict, sn, subs, abs, coll, del⟩ := data
      dsimp only at em nodel dict
      subst em nodel dict
      have e6 : slots = #[z0, z1, z2, z3, some (.builtin "ValueError.__new__"), z5] := by
        cases slots with
        | mk l =>
          simp only at es
          rw [es]
      subst e6
      exact ⟨_, _, _, _, _, _, _, _, _, _, _, _, _, _, _, there, tail⟩
    · cases q
  · cases q
open He in
def exFB (K : PySem.W.Frag) (x : Str) : Bool := decide (PySem.W.nsIn K mainGlobals x = some (some (.ref (ga K x)))) && (oexB K (ga K x) && (decide (PySem.W.findIn K (.ref (ga K x)) "__init__" = some (some (.ref (ma K (ga K "BellowsError") "__init__")))) && (decide (PySem.W.findIn K (.ref (ga K x)) "at" = some none) && (xfB K (ga K x) && decide (PySem.W.exmOne K (.ref (ga K x)) (.ref (ga K x)) = some true)))))
theorem exFB_ok {K : PySem.W.Frag} {h : Heap} {mg : Str → Option Value} {x : Str} (X : K.In h) (G : h.Ns mainGlobals mg) (c : exFB K x = true) : ExF K mg x := by
  obtain ⟨h1, c⟩ := ba c
  obtain ⟨h2, c⟩ := ba c
  obtain ⟨h3, c⟩ := ba c
  obtain ⟨h4, c⟩ := ba c
  obtain ⟨h5, h6⟩ := ba c
  exact ⟨PySem.W.mg_of X G (of_decide_eq_true h1), oexB_ok h2, of_decide_eq_true h3, of_decide_eq_true h4, xfB_ok h5, of_decide_eq_true h6⟩
def cvB (K : PySem.W.Frag) (x : Str) (v : V) : Bool := match PySem.W.nsIn K mainGlobals x with
  | some (some u) => He.relB v u
  | _ => false
theorem cvB_ok {K : PySem.W.Frag} {h : Heap} {mg : Str → Option Value} {x : Str} {v : V} (X : K.In h) (G : h.Ns mainGlobals mg) (c : cvB K x v = true) : ∃ u, mg x = some u ∧ RelV v u := by
  unfold cvB at c
  split at c
  · rename_i u e
    exact ⟨u, PySem.W.mg_of X G e, He.relB_ok c⟩
  · cases c
/-- BellowsError.__init__ -/
def spInit (K : PySem.W.Frag) : Sp := fun vs H Q _ => ∃ (a C : Addr) (v : V), vs = [.ref a, v] ∧ OexC K C ∧ PySem.W.findIn K (.ref C) "at" = some none ∧ H a = some (exo a C none) ∧
  ∀ dx, H dx = none → dx ≠ a → Q .non (upd (upd H dx (exd dx [("at", v)])) a (exo a C (some dx)))
structure InitOk (P : Program) (w : World) (K : PySem.W.Frag) (mg : Str → Option Value) (base : Heap) : Prop where
  ex : ∃ fd, FnOk P w K mg base (L2N.CX P w) 1 (He.ma K (He.ga K "BellowsError") "__init__") fd ["self", "at"] (spInit K) ∧ Binds K fd ["self", "at"] [] ∧ PySem.W.typeIn K (.ref (He.ma K (He.ga K "BellowsError") "__init__")) = some (.type "function")
/-- raise X(e) -/
def Bz (K : PySem.W.Frag) (C : Addr) (W : WX) (σ : L2.St) (vs : List V) (H1 : Hp) : Prop := vs.length ≤ 1000 ∧ ∀ a, H1 a = none → spInit K (.ref a :: (vs ++ [])) (upd H1 a (exo a C none))
  (fun v H2 => v = .non ∧ ∃ (d : Addr) (fs : List (Str × V)), H2 a = some (exo a C (some d)) ∧ H2 d = some (exd d fs) ∧ H1 d = none ∧ W (.ref C) (some d) σ (upd (del H2 a) d (.xd fs))) (fun _ _ _ => False)
def tRz (K : PySem.W.Frag) (C : Addr) (W : WX) (ta : TA) : TS := fun _ σ H => ta σ H fun vs H1 => Bz K C W σ vs H1
theorem bz {K : PySem.W.Frag} {mg : Str → Option Value} {x : Str} {W : WX} {σ : L2.St} {v : V} {H : Hp} (T : ExF K mg x) (h : ∀ d, H d = none → W (.ref (He.ga K x)) (some d) σ (upd H d (.xd [("at", v)]))) : Bz K (He.ga K x) W σ [v] H := by
  refine ⟨(by show 1 ≤ 1000; decide), fun a ha => ⟨a, He.ga K x, v, rfl, T.oex, T.noat, upd_same, fun dx hdx hne => ⟨rfl, dx, [("at", v)], upd_same, ?_, ?_, ?_⟩⟩⟩
  · rw [upd_ne hne, upd_same]
  · rw [upd_ne hne] at hdx
    exact hdx
  · rw [upd_ne hne] at hdx
    have e : upd (del (upd (upd (upd H a (exo a (He.ga K x) none)) dx (exd dx [("at", v)])) a (exo a (He.ga K x) (some dx))) a) dx (.xd [("at", v)]) = upd H dx (.xd [("at", v)]) := by
      funext b
      by_cases hb : b = dx
      · rw [hb, upd_same, upd_same]
      · rw [upd_ne hb, upd_ne hb]
        by_cases hc : b = a
        · rw [hc, del_same, ha]
        · rw [del_ne hc, upd_ne hc, upd_ne hb, upd_ne hc]
    rw [e]
    exact h dx hdx
theorem ps_raiseB {X : Cx} {x : Str} {p pos pos2 : Pos} {e : Expr} {te : TA} {W : WX} (T : ExF X.K X.mg x) (I : InitOk X.prog X.w X.K X.mg X.base) (hr : Room 2 X.A) (tk : L2N.Takes X W) (he : PA X [e] te) (hc : X.calm = true := by rfl) (hg : Gl X x := by rfl)
    (hdb : (x == ("__debug__" : Str)) = false := by decide) (hst : starEach (e :: []) X.env = (false, eval e X.env) :: starEach [] X.env := by rfl) (hpl : (backTo pos (starEach [] X.env)).any (·.1) = false := by rfl) :
    PS X (.Raise (some (.Call (.Name x p) [e] [] pos)) none pos2) (tRz X.K (He.ga X.K x) W te) := by
  obtain ⟨fd, F, b, ti⟩ := I.ex
  exact L2N.ps_raise hc tk (made_n (dvs := []) (ds := []) (CX := L2N.CX X.prog X.w) T.oex T.iC ti F hr b .nil passN hg T.g he hdb hst hpl)
/-- e.at in a suite -/
theorem pe_xfB {X : Cx} {a : Addr} {oe : Obj} {cls : Value} {d : Option Addr} {pn : List (Addr × Obj)} {e : Expr} {te : TE} {pos : Pos} {x : Str} (T : ExF X.K X.mg x)
    (hz : L2N.Zn cls d oe) (hf : ∃ vs, oe.data = .fields vs) (he : PE (X.suite a ((a, oe) :: pn)) e te) (hb : attributeBase e "at" X.env (eval e X.env) = eval e X.env := by rfl) :
    PE (X.suite a ((a, oe) :: pn)) (.Attribute e "at" pos) (tXf a cls d (He.ga X.K x) "at" te) := pe_xf T.xf T.noat hz.zc hf he hb
/-! ### try with several clauses, each with a name -/
abbrev Cls3 := Value × Nat × (Addr → Value → Option Addr → TS)
abbrev freed (D : Ends) (i : Nat) : Ends := ⟨fun s h => D.nx (s.set i none) h, D.rt, fun s h => D.bk (s.set i none) h, fun s h => D.ct (s.set i none) h⟩
def wManyB (K : PySem.W.Frag) (Wout : WX) (D : Ends) : List Cls3 → WX
  | [] => Wout
  | (c, i, ts) :: more => fun cls d st Hs => ∃ yes, PySem.W.exmOne K cls c = some yes ∧
      (yes = true → ∀ a, Hs a = none → ts a cls d (freed D i) (st.set i (some (.ref a))) Hs) ∧ (yes = false → wManyB K Wout D more cls d st Hs)
inductive HdsB (X : Cx) : List ExceptHandler → List Cls3 → Prop
  | nil : HdsB X [] []
  | cons {x n : Str} {c : Value} {i : Nat} {ts : Addr → Value → Option Addr → TS} {s0 : Stmt} {suite : List Stmt} {p1 p2 : Pos} {hds : List ExceptHandler} {l : List Cls3}
      (at_ : X.N[i]? = some n) (own : X.env.kindOf n = some .local) (nm : Names X x c)
      (run : ∀ (a : Addr) (oe : Obj) (cls : Value) (d : Option Addr) (pn : List (Addr × Obj)), L2N.Zn cls d oe → (∃ vs, oe.data = .fields vs) → PSs (X.suite a ((a, oe) :: pn)) (s0 :: suite) (ts a cls d))
      (more : HdsB X hds l) : HdsB X (.ExceptHandler (some (.Name x p1)) (some n) (s0 :: suite) p2 :: hds) ((c, i, ts) :: l)
theorem ps_try_manyB {X : Cx} {body : List Stmt} {h0 : ExceptHandler} {hds : List ExceptHandler} {l : List Cls3} {pos : Pos} {tb : WX → TS} {Wout : WX}
    (stk : X.stack = X.env :: X.outer) (frm : X.env.frame = some X.env.locals) (nodup : X.N.Nodup) (tk : L2N.Takes X Wout)
    (hb : ∀ (W : WX) (pn : List (Addr × Obj)) (xe : Value → Shared → Prop), L2N.Takes (X.tr pn xe) W → PassesOwn (model X.prog X.w) X.A X.env xe → PSs (X.tr pn xe) body (tb W))
    (hh : HdsB X (h0 :: hds) l) : PS X (.Try body (h0 :: hds) [] [] pos) (fun D st Hs => tb (wManyB X.K Wout D l) D st Hs) := by
  refine ⟨fun pn sh st Hs D hin hq => ?_⟩
  have good := hin.ok
  have frames : X.A.frames = some (X.env :: X.outer) := by
    rw [good.frames, stk]
  refine wpAny_Try_except (wpAny_mono ((hb (wManyB X.K Wout D l) (X.pn ++ pn) (fun e t1 => wpAny (model X.prog X.w) X.A (noteFrame e X.env) (fun _ t2 => wpAny (model X.prog X.w) X.A (setFlight e none) (fun _ t3 =>
    wpAny (model X.prog X.w) X.A (handleBy e X.env (h0 :: hds)) (SP X pn D) X.xe t3) X.xe t2) X.xe t1) (fun u t xx => ?_) PassesOwn.looking).run [] sh st Hs D (hin.toTry _) hq) (fun fl t1 fin => ?_) (fun e t1 z => z))
  · obtain ⟨a, ground, sI, pn2, st2, H2, cls, d, rfl, inT, nb, up, sky, free, os, bare, wish⟩ := xx
    have in2 : Inv X pn st2 H2 sI := inT.ofTry good
    rw [show (X.tr (X.pn ++ pn) _).stack = X.env :: X.outer from stk] at sky
    show wpAny (model X.prog X.w) X.A (noteFrame (.ref a) X.env) _ _ _
    refine L2N.Sky.land L2N.Zn.steady frames frm sky fun g3 fly3 up3 => ?_
    have in3 : Inv X pn st2 H2 { t with heap := g3 } := in2.landed nb fly3.1 (up.trans up3) os bare
    obtain ⟨ob3, fs3, get3, zc3, dat3⟩ := fly3.there
    have notIn : a ∉ frs (X.env :: X.outer) := fun hm => by
      obtain ⟨_, o2, e2, nf⟩ := fly3.2.2.1.mem hm
      rw [get3] at e2
      cases e2
      exact nf _ dat3
    have nL : a ≠ X.env.locals := fun z => notIn (List.mem_filterMap.mpr ⟨X.env, List.mem_cons_self, by rw [frm, z]⟩)
    have nF : a ∉ X.fs := fun hm => by
      obtain ⟨en, men, q⟩ := List.mem_filterMap.mp hm
      exact notIn (List.mem_filterMap.mpr ⟨en, List.mem_cons_of_mem _ men, q⟩)
    have su3 := in3.suite get3 dat3 free nL nF
    have go : ∀ {hs' : List ExceptHandler} {l' : List Cls3}, HdsB X hs' l' → wManyB X.K Wout D l' cls d st2 H2 → wpAny (model X.prog X.w) X.A (handleBy (.ref a) X.env hs') (SP X pn D) X.xe { t with heap := g3 } := by
      intro hs' l' hk
      induction hk with
      | nil =>
        intro wish
        refine wpAny_handleBy_nil ?_
        obtain ⟨_, _, _, ob, fs, T, oT, _, get, _, dat, f1, _⟩ := id fly3
        unfold PySem.passOn
        refine wpAny_bind (wpAny_field get dat f1 ?_)
        rw [if_neg (show ¬ ((Value.ref T == Value.none) = true) by simp)]
        have last : wpAny (model X.prog X.w) X.A (setFlight (.ref a) X.env.frame) (fun _ t4 => wpAny (model X.prog X.w) X.A (throw (.ref a) : Sem Flow) (SP X pn D) X.xe t4) X.xe { t with heap := g3 } := by
          rw [frm]
          refine HandSPX.setFlight_upZ fly3 fun g4 held up4 => wpAny_throw (tk _ _ ⟨a, ground, sI, pn, st2, H2, cls, d, rfl, in2, nb, (up.trans up3).trans up4, .inr (.inr ?_), free, os, bare, wish⟩)
          rw [stk]
          exact held
        first | exact wpAny_bind last | exact wpAny_bind (wpAny_pure (wpAny_bind last))
      | @cons x n c i ts s0 suite p1 p2 hds2 l2 at_ own nm run more ih =>
        rintro ⟨yes, he, hy, hn⟩
        refine wpAny_handleBy_cons (codeAny_handlers_test ?_) (by intro q; cases q)
        have isCls : PySem.W.Looks (model X.prog X.w) g3 (typeOf (.ref a)) cls := fun _ _ _ _ kp q => wpAny_typeOf_ref (kp _ _ get3) (by rw [zc3.1]; exact q)
        have named : ∀ {Qv : Value → Shared → Prop} {Ev : Value → Shared → Prop}, Qv c { t with heap := g3 } → wpAny (model X.prog X.w) (X.A.mark (some (.ref a))) (eval (.Name x p1) X.env) Qv Ev { t with heap := g3 } := fun q => by
          obtain ⟨hg, hdb, hm | ⟨hm, hv, hne⟩⟩ := nm
          · exact ld_glob (X := X.suite a ((a, ob3) :: (X.pn ++ pn))) su3 hg hm q hdb
          · exact ld_blt (X := X.suite a ((a, ob3) :: (X.pn ++ pn))) su3 hg hm hv q hne hdb
        refine named ((PySem.W.exm_one (M := model X.prog X.w) in3.kIn isCls he).here ?_)
        cases yes with
        | false => exact ih (hn rfl)
        | true =>
          refine codeAny_handlers_suite_as (HandSPX.lands_againZ fly3 fun g4 fly4 up4 => ?_)
          have in4 : Inv X pn st2 H2 { t with heap := g4 } := in2.landed nb fly4.1 ((up.trans up3).trans up4) os bare
          obtain ⟨ob4, fs4, get4, zc4, dat4⟩ := fly4.there
          refine store_ok (X := X.suite a ((a, ob4) :: (X.pn ++ pn))) (v := .ref a) (in4.suite get4 dat4 free nL nF) nodup at_ (.inl own) rfl (fun t5 in5 => ?_) (.inr own)
          refine wpAny_mono ((run a ob4 cls d (X.pn ++ pn) zc4 ⟨_, dat4⟩).run [] t5 _ H2 _ in5 (hy rfl a free)) (fun fl t6 fin => ?_) (fun _ _ z => z.elim)
          cases fl with
          | next =>
            obtain ⟨_, _, in6, q⟩ := fin
            exact gone_ok (in6.unsuite good) nodup at_ own fun _ in7 => ⟨_, _, in7, q⟩
          | brk =>
            obtain ⟨_, _, in6, q⟩ := fin
            exact gone_ok (in6.unsuite good) nodup at_ own fun _ in7 => ⟨_, _, in7, q⟩
          | cont =>
            obtain ⟨_, _, in6, q⟩ := fin
            exact gone_ok (in6.unsuite good) nodup at_ own fun _ in7 => ⟨_, _, in7, q⟩
          | ret u =>
            obtain ⟨_, _, _, in6, r6, q⟩ := fin
            exact gone_ok (in6.unsuite good) nodup at_ own fun _ in7 => ⟨_, _, _, in7, r6, q⟩
    exact go hh wish
  · cases fl with
    | next =>
      obtain ⟨_, _, inE, q⟩ := fin
      exact wpAny_execs_nil ⟨_, _, inE.ofTry good, q⟩
    | brk =>
      obtain ⟨_, _, inE, q⟩ := fin
      exact ⟨_, _, inE.ofTry good, q⟩
    | cont =>
      obtain ⟨_, _, inE, q⟩ := fin
      exact ⟨_, _, inE.ofTry good, q⟩
    | ret u =>
      obtain ⟨_, _, _, inE, r, q⟩ := fin
      exact ⟨_, _, _, inE.ofTry good, r, q⟩
theorem many_yes {K : PySem.W.Frag} {mg : Str → Option Value} {x : Str} {i : Nat} {ts : Addr → Value → Option Addr → TS} {l : List Cls3} {Wout : WX} {D : Ends} {st : L2.St} {Hs : Hp} {d : Option Addr} (T : ExF K mg x)
    (h : ∀ a, Hs a = none → ts a (.ref (He.ga K x)) d (freed D i) (st.set i (some (.ref a))) Hs) : wManyB K Wout D ((.ref (He.ga K x), i, ts) :: l) (.ref (He.ga K x)) d st Hs := ⟨true, T.te, fun _ => h, fun z => nomatch z⟩
theorem many_no {K : PySem.W.Frag} {c cls : Value} {i : Nat} {ts : Addr → Value → Option Addr → TS} {l : List Cls3} {Wout : WX} {D : Ends} {st : L2.St} {Hs : Hp} {d : Option Addr} (T : PySem.W.exmOne K cls c = some false)
    (h : wManyB K Wout D l cls d st Hs) : wManyB K Wout D ((c, i, ts) :: l) cls d st Hs := ⟨false, T, (fun z => nomatch z), fun _ => h⟩
/-! ### rules whose reading names the written part itself (for comprehensions) -/
section
variable {X : Cx} (K : PySem.W.Frag)
theorem ixl (h : X.K = K := by rfl) : IxR X (rIxL K) := h ▸ ix_list
theorem ixt (h : X.K = K := by rfl) : IxR X (rIxT K) := h ▸ ix_tup
theorem slK (h : X.K = K := by rfl) : SlR X (rSlL K) := h ▸ sl_list
theorem lenK (h : X.K = K := by rfl) : CallR X (.builtin "len") (fun xs H Q => ∃ p ys, xs = [.ref p] ∧ (SqL K H p ys ∨ SqT K H p ys) ∧ Q (.int ys.length) H) := h ▸ call_len_seq
theorem isiK (h : X.K = K := by rfl) : CallR X (.builtin "isinstance") (rIsi K) := h ▸ call_isi
theorem lstK (h : X.K = K := by rfl) : CallR X (.type "list") (fun xs H Q => ∃ p ys, xs = [.ref p] ∧ (SqL K H p ys ∨ SqT K H p ys) ∧ ∀ l, H l = none → Q (.ref l) (upd H l (.lst ys))) := h ▸ call_list_of
theorem eqK (hu : X.A.units + 64 < cLine) (h : X.K = K := by rfl) : OpR X (compareOp .Eq) (rEqD K) := h ▸ op_eqD hu
theorem neK (hu : X.A.units + 64 < cLine) (h : X.K = K := by rfl) : OpR X (compareOp .NotEq) (rNeD K) := h ▸ op_neD hu
theorem sumK (hc : X.calm = true) (h : X.K = K := by rfl) : CallR X (.builtin "sum") (rSum K) := h ▸ cr_sum hc
theorem cntK (h : X.K = K := by rfl) : MtR X "list.count" (rCntI K) := h ▸ mt_lcount
end
end Bel

namespace Bel
open PySem PySem.Spec PyProof.Rows L2
/-! ### readings opened step by step (each an equation) -/
def Sel (b : Bool) (t u : TS) : TS := if b = true then t else u
def SelE (b : Bool) (t u : TE) : TE := if b = true then t else u
def SelT (b : Bool) (t u : TT) : TT := if b = true then t else u
def SelC (b : Bool) (A B : Prop) : Prop := if b = true then A else B
def tK (b : Bool) : TT := fun _ H Q => Q b H
section
variable {t u : TS} {ta tb tc te : TE} {tA tB' : TT} {D : Ends} {σ : L2.St} {H : Hp} {Q : VK} {QT : Bool → Hp → Prop} {QA : List V → Hp → Prop} {K : PySem.W.Frag} {r : R2} {l : TA} {v : V} {i : Nat}
theorem x_next : tNext D σ H = D.nx σ H := rfl
theorem x_seq : tSeq t u D σ H = t { D with nx := u D } σ H := rfl
theorem x_brk : tBreak D σ H = D.bk σ H := rfl
theorem x_cont : tCont D σ H = D.ct σ H := rfl
theorem x_drop : tDrop te D σ H = te σ H (fun _ H1 => D.nx σ H1) := rfl
theorem x_ret : tRet te D σ H = te σ H D.rt := rfl
theorem x_retN : tRetN D σ H = D.rt .non H := rfl
theorem x_if : tIfS tA t u D σ H = tA σ H (fun b H1 => Sel b t u D σ H1) := by
  show tA σ H _ = tA σ H _
  congr 1
  funext b H1
  cases b <;> rfl
theorem sel_t : Sel true t u = t := rfl
theorem sel_f : Sel false t u = u := rfl
theorem selE_t : SelE true ta tb = ta := rfl
theorem selE_f : SelE false ta tb = tb := rfl
theorem selT_t : SelT true tA tB' = tA := rfl
theorem selT_f : SelT false tA tB' = tB' := rfl
theorem selC_t {A B : Prop} : SelC true A B = A := rfl
theorem selC_f {A B : Prop} : SelC false A B = B := rfl
theorem sel {b : Bool} (h1 : b = true → t D σ H) (h2 : b = false → u D σ H) : Sel b t u D σ H := by
  cases b
  · exact h2 rfl
  · exact h1 rfl
theorem selE {b : Bool} (h1 : b = true → ta σ H Q) (h2 : b = false → tb σ H Q) : SelE b ta tb σ H Q := by
  cases b
  · exact h2 rfl
  · exact h1 rfl
theorem selT {b : Bool} (h1 : b = true → tA σ H QT) (h2 : b = false → tB' σ H QT) : SelT b tA tB' σ H QT := by
  cases b
  · exact h2 rfl
  · exact h1 rfl
theorem sel_d {p : Prop} {_ : Decidable p} (h1 : p → t D σ H) (h2 : ¬ p → u D σ H) : Sel (decide p) t u D σ H := sel (fun e => h1 (of_decide_eq_true e)) (fun e => h2 (of_decide_eq_false e))
theorem selE_d {p : Prop} {_ : Decidable p} (h1 : p → ta σ H Q) (h2 : ¬ p → tb σ H Q) : SelE (decide p) ta tb σ H Q := selE (fun e => h1 (of_decide_eq_true e)) (fun e => h2 (of_decide_eq_false e))
theorem selT_d {p : Prop} {_ : Decidable p} (h1 : p → tA σ H QT) (h2 : ¬ p → tB' σ H QT) : SelT (decide p) tA tB' σ H QT := selT (fun e => h1 (of_decide_eq_true e)) (fun e => h2 (of_decide_eq_false e))
theorem x_test : tTest te σ H QT = te σ H (fun x H' => ∃ k, x = .bl k ∧ QT k H') := rfl
theorem x_tB : L2.tB te σ H QT = te σ H (fun x H' => ∃ k, x = .bl k ∧ QT k H') := rfl
theorem x_op : tOp r ta tb σ H Q = ta σ H (fun x H1 => tb σ H1 (fun y H2 => r x y H2 Q)) := rfl
theorem x_un {ru : V → Hp → VK → Prop} : tUn ru ta σ H Q = ta σ H (fun x H1 => ru x H1 Q) := rfl
theorem x_var : tVar i σ H Q = ∃ v, σ[i]? = some (some v) ∧ Q v H := rfl
theorem x_c : tC v σ H Q = Q v H := rfl
theorem x_cb {rl : List V → Hp → VK → Prop} : tCB rl l σ H Q = l σ H (fun vs H1 => rl vs H1 Q) := rfl
theorem x_nil : tNil σ H QA = QA [] H := rfl
theorem x_cons : tCons ta l σ H QA = ta σ H (fun x H1 => l σ H1 (fun xs H2 => QA (x :: xs) H2)) := rfl
theorem x_rI {C : Int → Int → Prop} {g : Int → Int → V} {a b : V} : rI C g a b H Q = ∃ i j, a = .int i ∧ b = .int j ∧ C i j ∧ Q (g i j) H := rfl
theorem x_rI0 {g : Int → Int → V} {a b : V} : rI0 g a b H Q = ∃ i j, a = .int i ∧ b = .int j ∧ Q (g i j) H := rfl
theorem x_rU {g : Int → V} {a : V} : rU g a H Q = ∃ i, a = .int i ∧ Q (g i) H := rfl
theorem x_rEq {a b : V} : rEq a b H Q = (scal a b = true ∧ Q (.bl (decide (a = b))) H) := rfl
theorem x_rNe {a b : V} : rNe a b H Q = (scal a b = true ∧ Q (.bl (!decide (a = b))) H) := rfl
theorem x_rIxL {a b : V} : rIxL K a b H Q = ∃ p xs i v, a = .ref p ∧ b = .int i ∧ SqL K H p xs ∧ atI xs i = some v ∧ Q v H := rfl
theorem x_rIxT {a b : V} : rIxT K a b H Q = ∃ p xs i v, a = .ref p ∧ b = .int i ∧ SqT K H p xs ∧ atI xs i = some v ∧ Q v H := rfl
theorem x_rSlL {a : V} {lo hi : Option Int} : rSlL K a lo hi H Q = ∃ p xs, a = .ref p ∧ SqL K H p xs ∧ ∀ q, H q = none → Q (.ref q) (upd H q (.lst (cutV xs lo hi))) := rfl
theorem x_rCat {a b : V} : rCat a b H Q = ∃ l m xs zs, a = .ref l ∧ b = .ref m ∧ H l = some (.lst xs) ∧ H m = some (.lst zs) ∧ xs.length + zs.length ≤ sizeLine ∧ ∀ p, H p = none → Q (.ref p) (upd H p (.lst (xs ++ zs))) := rfl
theorem x_rRep {a b : V} : rRep a b H Q = ∃ l k xs, a = .ref l ∧ b = .int k ∧ H l = some (.lst xs) ∧ -(2 ^ 63) ≤ k ∧ k < 2 ^ 63 ∧ xs.length * k.toNat ≤ sizeLine ∧ ∀ p, H p = none → Q (.ref p) (upd H p (.lst (List.replicate k.toNat xs).flatten)) := by first | rfl | (unfold rRep; rfl)
theorem x_rApp {a : V} {vs : List V} : rAppend a vs H Q = ∃ l xs y, a = .ref l ∧ vs = [y] ∧ H l = some (.lst xs) ∧ xs.length < sizeLine ∧ Q .non (upd H l (.lst (xs ++ [y]))) := rfl
theorem x_bm {T : String} {rm : V → List V → Hp → VK → Prop} : tBM K T rm ta l σ H Q = ta σ H (fun x H1 => tyV K T x H1 ∧ l σ H1 (fun xs H2 => rm x xs H2 Q)) := rfl
theorem x_bm0 {T : String} {rm : V → List V → Hp → VK → Prop} : tBM0 K T rm ta σ H Q = ta σ H (fun x H1 => tyV K T x H1 ∧ rm x [] H1 Q) := rfl
theorem x_sl {rs : V → Option Int → Option Int → Hp → VK → Prop} {tl th : TO} : tSl rs te tl th σ H Q = te σ H (fun x H1 => tl σ H1 (fun l H2 => th σ H2 (fun u H3 => rs x l u H3 Q))) := rfl
theorem x_nopart {QO : Option Int → Hp → Prop} : tNoPart σ H QO = QO none H := rfl
theorem x_part {QO : Option Int → Hp → Prop} : tPart te σ H QO = te σ H (fun x H1 => ∃ i, x = .int i ∧ QO (some i) H1) := rfl
theorem x_tup : tTup l σ H Q = l σ H (fun xs H1 => xs.length ≤ sizeLine ∧ ∀ p, H1 p = none → Q (.ref p) (upd H1 p (.tup xs))) := rfl
theorem x_lst : tLst l σ H Q = l σ H (fun xs H1 => xs.length ≤ sizeLine ∧ ∀ p, H1 p = none → Q (.ref p) (upd H1 p (.lst xs))) := rfl
theorem x_call {sp : Sp} {dvs : List V} {E : XK} : tCall sp dvs E l σ H Q = l σ H (fun vs H1 => sp (vs ++ dvs) H1 Q E) := rfl
theorem x_callS {sp : Sp} {dvs : List V} {W : WX} : tClS sp dvs W l σ H Q = l σ H (fun vs H1 => sp (vs ++ dvs) H1 Q (WE W σ)) := rfl
theorem x_asg {g : TG} : tAsg te g D σ H = te σ H (fun x H1 => g x σ H1 D.nx) := rfl
theorem x_gname {QG : L2.St → Hp → Prop} : gName i v σ H QG = QG (σ.set i (some v)) H := rfl
theorem x_gtup {n : Nat} {gs : TGs} {QG : L2.St → Hp → Prop} : gTup K n gs v σ H QG = ∃ a xs, v = .ref a ∧ SqT K H a xs ∧ xs.length = n ∧ gs xs σ H QG := rfl
theorem x_gnil {vs : List V} {QG : L2.St → Hp → Prop} : gNil vs σ H QG = (vs = [] ∧ QG σ H) := rfl
theorem x_gcons {vs : List V} {g : TG} {gs : TGs} {QG : L2.St → Hp → Prop} : gCons g gs vs σ H QG = ∃ v r, vs = v :: r ∧ g v σ H (fun σ' H' => gs r σ' H' QG) := rfl
theorem x_gsub {to ti : TE} {ts : TSet} {QG : L2.St → Hp → Prop} : gSub to ti ts v σ H QG = to σ H (fun o H1 => ti σ H1 (fun i H2 => ts o i v H2 (fun H3 => QG σ H3))) := rfl
theorem x_setL {o i' : V} {QH : Hp → Prop} : rSetL o i' v H QH = ∃ p xs k j, o = .ref p ∧ i' = .int k ∧ H p = some (.lst xs) ∧ ixN xs.length k = some j ∧ QH (upd H p (.lst (xs.set j v))) := rfl
theorem x_aug {ti : TIp} : tAug i te ti D σ H = ∃ x, σ[i]? = some (some x) ∧ te σ H (fun y H1 => ti x y H1 (fun z H2 => D.nx (σ.set i (some z)) H2)) := rfl
theorem x_ipI {f : Int → Int → Int} {a b : V} : ipI f a b H Q = ∃ i j, a = .int i ∧ b = .int j ∧ Q (.int (f i j)) H := rfl
theorem x_and : tAnd tA tB' σ H QT = tA σ H (fun c H1 => SelT c tB' (tK false) σ H1 QT) := by
  show tA σ H _ = tA σ H _
  congr 1
  funext c H1
  cases c <;> rfl
theorem x_or : tOr tA tB' σ H QT = tA σ H (fun c H1 => SelT c (tK true) tB' σ H1 QT) := by
  show tA σ H _ = tA σ H _
  congr 1
  funext c H1
  cases c <;> rfl
theorem x_not : tNot tA σ H QT = tA σ H (fun c H1 => QT (!c) H1) := rfl
theorem x_k {b : Bool} : tK b σ H QT = QT b H := rfl
theorem x_andV : tAndV ta tb σ H Q = ta σ H (fun x H1 => ∃ c, x = .bl c ∧ SelE c tb (tC (.bl false)) σ H1 Q) := by
  show ta σ H _ = ta σ H _
  congr 1
  funext x H1
  congr 1
  funext c
  cases c <;> rfl
theorem x_orV : tOrV ta tb σ H Q = ta σ H (fun x H1 => ∃ c, x = .bl c ∧ SelE c (tC (.bl true)) tb σ H1 Q) := by
  show ta σ H _ = ta σ H _
  congr 1
  funext x H1
  congr 1
  funext c
  cases c <;> rfl
theorem x_notV : tNotV ta σ H Q = ta σ H (fun x H1 => ∃ c, x = .bl c ∧ Q (.bl (!c)) H1) := rfl
theorem x_ife : tIf tA ta tb σ H Q = tA σ H (fun c H1 => SelE c ta tb σ H1 Q) := by
  show tA σ H _ = tA σ H _
  congr 1
  funext c H1
  cases c <;> rfl
theorem x_chain {r' : R2} : tChain r r' ta tb tc σ H Q = ta σ H (fun x H1 => tb σ H1 (fun y H2 => r x y H2 (fun z H3 => ∃ k, z = .bl k ∧ SelE k (fun σ' H' Q' => tc σ' H' (fun w' H4 => r' y w' H4 Q')) (tC (.bl false)) σ H3 Q))) := by
  show ta σ H _ = ta σ H _
  congr 1
  funext x H1
  congr 1
  funext y H2
  congr 1
  funext z H3
  congr 1
  funext k
  cases k <;> rfl
/-! loops -/
def LoopI (J : It) (g : TG) (tb : TS) (D : Ends) (σ : L2.St) (H1 : Hp) : Prop := ∃ W : Nat → Nat → L2.St → Hp → Prop, (∃ m, W 0 m σ H1) ∧ ∀ i m σ H, W i m σ H →
  (J.stop i H ∧ D.nx σ H) ∨ (J.go i H ∧ ∃ N : L2.St → Hp → Prop, (∀ σ' H', N σ' H' → ∃ m', m' < m ∧ W (i + 1) m' σ' H') ∧ ∀ x H', J.yld i H x H' → g x σ H' fun σ2 H2 => tb { D with nx := N, ct := N, bk := D.nx } σ2 H2)
theorem x_for {wi : TI} {g : TG} : tFor wi g t D σ H = wi σ H (fun J H1 => LoopI J g t D σ H1) := rfl
theorem x_ilist {R : It → Hp → Prop} : iList K te σ H R = te σ H (fun x H1 => ∃ a, x = .ref a ∧ (∃ xs, SqL K H1 a xs) ∧ R (Itl K a) H1) := rfl
theorem x_itup {R : It → Hp → Prop} : iTup K te σ H R = te σ H (fun x H1 => ∃ a, x = .ref a ∧ (∃ xs, SqT K H1 a xs) ∧ R (Itt K a) H1) := rfl
theorem x_irng1 {R : It → Hp → Prop} : iRng1 l σ H R = l σ H (fun vs H1 => ∃ j : Int, vs = [.int j] ∧ -(2 ^ 62) ≤ j ∧ j < 2 ^ 62 ∧ R (Itr 0 j.toNat) H1) := rfl
theorem x_irng2 {R : It → Hp → Prop} : iRng2 l σ H R = l σ H (fun vs H1 => ∃ i j : Int, vs = [.int i, .int j] ∧ (-(2 ^ 62) ≤ i ∧ i < 2 ^ 62 ∧ -(2 ^ 62) ≤ j ∧ j < 2 ^ 62) ∧ R (Itr i (j - i).toNat) H1) := rfl
theorem x_irev {R : It → Hp → Prop} : iRev K l σ H R = l σ H (fun vs H1 => ∃ (a : Addr) (xs : List V), vs = [.ref a] ∧ SqL K H1 a xs ∧ R (Itv K a xs.length) H1) := rfl
theorem loop_list {a : Addr} {xs : List V} {g : TG} (Pv : Nat → L2.St → Hp → Prop) (h0 : Pv 0 σ H) (hl : ∀ i σ H, i ≤ xs.length → Pv i σ H → SqL K H a xs)
    (hs : ∀ i x σ H, xs[i]? = some x → Pv i σ H → g x σ H fun σ2 H2 => t { D with nx := Pv (i + 1), ct := Pv (i + 1), bk := D.nx } σ2 H2) (hd : ∀ σ H, Pv xs.length σ H → D.nx σ H) : LoopI (Itl K a) g t D σ H := for_list Pv h0 hl hs hd
theorem loop_range {lo : Int} {n : Nat} {g : TG} (Pv : Nat → L2.St → Hp → Prop) (h0 : Pv 0 σ H)
    (hs : ∀ i σ H, i < n → Pv i σ H → g (.int (lo + i)) σ H fun σ2 H2 => t { D with nx := Pv (i + 1), ct := Pv (i + 1), bk := D.nx } σ2 H2) (hd : ∀ σ H, Pv n σ H → D.nx σ H) : LoopI (Itr lo n) g t D σ H := for_range Pv h0 hs hd
/-! comprehensions -/
def CompI (J : It) (g : TG) (tt : TT) (te : TE) (vs : List Nat) (st : L2.St) (Hs : Hp) (D : Addr) (Qd : Hp → Prop) : Prop :=
  ∃ W : Nat → Nat → Hp → Prop, (∃ m, W 0 m (upd Hs D (.lst []))) ∧ ∀ i m H, W i m H →
    (J.stop i H ∧ Qd H) ∨ (J.go i H ∧ ∃ Nx : Hp → Prop, (∀ G, Nx G → ∃ m2, m2 < m ∧ W (i + 1) m2 G) ∧
      ∀ x G, J.yld i H x G → g x (wipe st vs) G fun s2 G2 => wipe s2 vs = wipe st vs ∧ tt s2 G2 fun b G3 =>
        if b = true then te s2 G3 fun y G4 => ∃ acc, G4 D = some (.lst acc) ∧ acc.length < sizeLine ∧ Nx (upd G4 D (.lst (acc ++ [y]))) else Nx G3)
theorem x_lc {wi : TI} {g : TG} {vs : List Nat} : tLc wi g tA te vs σ H Q = wi σ H (fun J H1 => ∀ D, H1 D = none → CompI J g tA te vs σ H1 D (fun H => Q (.ref D) H)) := rfl
theorem x_yes : tYes σ H QT = QT true H := rfl
theorem comp_range {lo : Int} {n : Nat} {g : TG} {vs : List Nat} {D : Addr} {Qd : Hp → Prop} (Pv : Nat → Hp → Prop) (h0 : Pv 0 (upd H D (.lst [])))
    (hs : ∀ i H, i < n → Pv i H → g (.int (lo + i)) (wipe σ vs) H fun σ2 H2 => wipe σ2 vs = wipe σ vs ∧ tA σ2 H2 fun b H3 =>
      if b = true then te σ2 H3 fun y H4 => ∃ acc, H4 D = some (.lst acc) ∧ acc.length < sizeLine ∧ Pv (i + 1) (upd H4 D (.lst (acc ++ [y]))) else Pv (i + 1) H3) (hd : ∀ H, Pv n H → Qd H) : CompI (Itr lo n) g tA te vs σ H D Qd := lc_range Pv h0 hs hd
theorem comp_list {a : Addr} {xs : List V} {g : TG} {vs : List Nat} {D : Addr} {Qd : Hp → Prop} (Pv : Nat → Hp → Prop) (h0 : Pv 0 (upd H D (.lst []))) (hl : ∀ i H, i ≤ xs.length → Pv i H → SqL K H a xs)
    (hs : ∀ i x H, xs[i]? = some x → Pv i H → g x (wipe σ vs) H fun σ2 H2 => wipe σ2 vs = wipe σ vs ∧ tA σ2 H2 fun b H3 =>
      if b = true then te σ2 H3 fun y H4 => ∃ acc, H4 D = some (.lst acc) ∧ acc.length < sizeLine ∧ Pv (i + 1) (upd H4 D (.lst (acc ++ [y]))) else Pv (i + 1) H3) (hd : ∀ H, Pv xs.length H → Qd H) : CompI (Itl K a) g tA te vs σ H D Qd := lc_list Pv h0 hl hs hd
theorem scal_ii {a b : Int} : scal (.int a) (.int b) = true := rfl
theorem scal_bb {a b : Bool} : scal (.bl a) (.bl b) = true := rfl
theorem scal_ss {a b : Str} : scal (.str a) (.str b) = true := by first | rfl | (unfold scal; rfl)
theorem x_misc {CX : CXT} {P : Program} {w : World} {mg : Str → Option Value} {base : Heap} {N : List Str} {qual : Str} {scope : Scope} {f : Addr} {cd : Value} {A : Around} {outer : List Env} {s : Shared} {E : XK} : (cxOf CX P w K mg base N qual scope f cd A outer s H E).K = K := rfl
theorem x_misc2 {X : Cx} : X.nox.K = X.K := rfl
theorem tyv {a : Addr} {xs : List V} (h : SqL K H a xs) : tyV K "list" (.ref a) H := .inl ⟨rfl, _, h⟩
/-- isinstance -/
theorem isi_int {c : String} {b : Bool} {j : Int} (h : kitB "int" c = some b) (q : Q (.bl b) H) : rIsi K [.int j, .ty c] H Q := ⟨_, _, _, _, b, rfl, .ty c, .base (.int _), kit_ty h, q⟩
theorem isi_lst {c : String} {b : Bool} {a : Addr} {xs : List V} (h : kitB "list" c = some b) (hl : H a = some (.lst xs)) (q : Q (.bl b) H) : rIsi K [.ref a, .ty c] H Q := ⟨_, _, _, _, b, rfl, .ty c, .base (.lst hl), kit_ty h, q⟩
theorem isi_tup {c : String} {b : Bool} {a : Addr} {xs : List V} (h : kitB "tuple" c = some b) (hl : H a = some (.tup xs)) (q : Q (.bl b) H) : rIsi K [.ref a, .ty c] H Q := ⟨_, _, _, _, b, rfl, .ty c, .base (.tup hl), kit_ty h, q⟩
end
/-! ### heaps -/
theorem same_upd {H : Hp} {p : Addr} {o : HO} (h : H p = none) : Same H (upd H p o) := fun b x e => by
  rw [upd_ne (ne_of_none e h)]
  exact e
theorem Same.free' {H H' : Hp} {p : Addr} (s : Same H H') (h : H' p = none) : H p = none := s.free h
theorem Same.seqT {K : PySem.W.Frag} {H H' : Hp} {a : Addr} {xs : List V} (e : Same H H') (h : SqT K H a xs) : SqT K H' a xs := by
  rcases h with (h | ⟨o, h⟩) | h
  · exact .inl (.inl (e _ _ h))
  · exact .inl (.inr ⟨o, e _ _ h⟩)
  · exact .inr h
theorem upd_upd {H : Hp} {p : Addr} {o u : HO} : upd (upd H p o) p u = upd H p u := by
  funext b
  by_cases h : b = p
  · rw [h, upd_same, upd_same]
  · rw [upd_ne h, upd_ne h, upd_ne h]
theorem atI_int {xs : List Int} {k : Int} (h0 : 0 ≤ k) (h1 : k < xs.length) : atI (xs.map V.int) k = some (.int (xs.getD k.toNat 0)) := by
  obtain ⟨n, rfl⟩ := Int.eq_ofNat_of_zero_le h0
  refine atI_nat ?_
  have h2 : n < xs.length := by omega
  rw [List.getElem?_map, List.getElem?_eq_getElem h2, Int.toNat_natCast, List.getD_eq_getElem?_getD, List.getElem?_eq_getElem h2]
  rfl
/-! ### == of data -/
mutual
def plain : PyData → Bool
  | .none => true
  | .bool _ => false
  | .int _ => true
  | .str x => (PyData.str x).canLay0
  | .list xs => plainAl xs
  | .tuple xs => plainAl xs
  | .dict _ => false
def plainAl : List PyData → Bool
  | [] => true
  | x :: xs => (plainAl xs && plain x)
end
mutual
theorem plain_lay : ∀ d : PyData, plain d = true → d.canLay0 = true
  | .none, _ => by simp [PyData.canLay0]
  | .bool _, h => by simp [plain] at h
  | .int _, _ => by simp [PyData.canLay0]
  | .str x, h => by simpa [plain] using h
  | .list xs, h => by
    simp only [plain] at h
    simp only [PyData.canLay0]
    exact plainAl_lay xs h
  | .tuple xs, h => by
    simp only [plain] at h
    simp only [PyData.canLay0]
    exact plainAl_lay xs h
  | .dict _, h => by simp [plain] at h
theorem plainAl_lay : ∀ ds : List PyData, plainAl ds = true → PyData.canLayAll0 ds = true
  | [], _ => by simp [PyData.canLayAll0]
  | x :: xs, h => by
    simp only [plainAl, Bool.and_eq_true] at h
    simp only [PyData.canLayAll0, Bool.and_eq_true]
    exact ⟨plain_lay x h.2, plainAl_lay xs h.1⟩
end
mutual
theorem eqv_iff : ∀ d e : PyData, plain d = true → plain e = true → (PyData.eqv d e = true ↔ d = e)
  | .none, .none, _, _ => by simp [PyData.eqv]
  | .int i, .int j, _, _ => by simp [PyData.eqv]
  | .str i, .str j, _, _ => by simp [PyData.eqv]
  | .list xs, .list ys, h1, h2 => by
    simp only [plain] at h1 h2
    simp only [PyData.eqv, PyData.list.injEq]
    exact eqvAll_iff xs ys h1 h2
  | .tuple xs, .tuple ys, h1, h2 => by
    simp only [plain] at h1 h2
    simp only [PyData.eqv, PyData.tuple.injEq]
    exact eqvAll_iff xs ys h1 h2
  | .bool _, _, h1, _ => by simp [plain] at h1
  | .dict _, _, h1, _ => by simp [plain] at h1
  | _, .bool _, _, h2 => by simp [plain] at h2
  | _, .dict _, _, h2 => by simp [plain] at h2
  | .none, .int _, _, _ => by simp [PyData.eqv]
  | .none, .str _, _, _ => by simp [PyData.eqv]
  | .none, .list _, _, _ => by simp [PyData.eqv]
  | .none, .tuple _, _, _ => by simp [PyData.eqv]
  | .int _, .none, _, _ => by simp [PyData.eqv]
  | .int _, .str _, _, _ => by simp [PyData.eqv]
  | .int _, .list _, _, _ => by simp [PyData.eqv]
  | .int _, .tuple _, _, _ => by simp [PyData.eqv]
  | .str _, .none, _, _ => by simp [PyData.eqv]
  | .str _, .int _, _, _ => by simp [PyData.eqv]
  | .str _, .list _, _, _ => by simp [PyData.eqv]
  | .str _, .tuple _, _, _ => by simp [PyData.eqv]
  | .list _, .none, _, _ => by simp [PyData.eqv]
  | .list _, .int _, _, _ => by simp [PyData.eqv]
  | .list _, .str _, _, _ => by simp [PyData.eqv]
  | .list _, .tuple _, _, _ => by simp [PyData.eqv]
  | .tuple _, .none, _, _ => by simp [PyData.eqv]
  | .tuple _, .int _, _, _ => by simp [PyData.eqv]
  | .tuple _, .str _, _, _ => by simp [PyData.eqv]
  | .tuple _, .list _, _, _ => by simp [PyData.eqv]
theorem eqvAll_iff : ∀ ds es : List PyData, plainAl ds = true → plainAl es = true → (PyData.eqvAll ds es = true ↔ ds = es)
  | [], [], _, _ => by simp [PyData.eqvAll]
  | [], _ :: _, _, _ => by simp [PyData.eqvAll]
  | _ :: _, [], _, _ => by simp [PyData.eqvAll]
  | x :: xs, y :: ys, h1, h2 => by
    simp only [plainAl, Bool.and_eq_true] at h1 h2
    simp only [PyData.eqvAll, Bool.and_eq_true, List.cons.injEq]
    rw [eqv_iff x y h1.2 h2.2, eqvAll_iff xs ys h1.1 h2.1]
end
/-- data as it is compared: its value, and that it is plain and not deep -/
structure Dq (K : PySem.W.Frag) (H : Hp) (v : V) (d : PyData) : Prop where
  dp : Dp K H v d
  pl : plain d = true
  de : d.depth ≤ 64
theorem Dq.sh {K : PySem.W.Frag} {H : Hp} {v : V} {d : PyData} (h : Dq K H v d) : SeqAt.shaped d = true := by
  show (d.canLay0 && decide (d.depth ≤ 64)) = true
  rw [plain_lay d h.pl, decide_eq_true h.de]
  rfl
theorem eqd {K : PySem.W.Frag} {H : Hp} {x y : V} {d e : PyData} {Q : VK} (h1 : Dq K H x d) (h2 : Dq K H y e) (q : ∀ b : Bool, (b = true ↔ d = e) → Q (.bl b) H) : rEqD K x y H Q := ⟨d, e, h1.dp, h2.dp, h1.sh, h2.sh, q _ (eqv_iff d e h1.pl h2.pl)⟩
theorem ned {K : PySem.W.Frag} {H : Hp} {x y : V} {d e : PyData} {Q : VK} (h1 : Dq K H x d) (h2 : Dq K H y e) (q : ∀ b : Bool, (b = true ↔ d = e) → Q (.bl (!b)) H) : rNeD K x y H Q := ⟨d, e, h1.dp, h2.dp, h1.sh, h2.sh, q _ (eqv_iff d e h1.pl h2.pl)⟩
/-- equal data: the answer is known -/
theorem eqd_t {K : PySem.W.Frag} {H : Hp} {x y : V} {d : PyData} {Q : VK} (h1 : Dq K H x d) (h2 : Dq K H y d) (q : Q (.bl true) H) : rEqD K x y H Q := eqd h1 h2 fun b e => by
  rw [e.mpr rfl]
  exact q
theorem ned_f {K : PySem.W.Frag} {H : Hp} {x y : V} {d : PyData} {Q : VK} (h1 : Dq K H x d) (h2 : Dq K H y d) (q : Q (.bl false) H) : rNeD K x y H Q := ned h1 h2 fun b e => by
  rw [e.mpr rfl]
  exact q
theorem dpAll_ints {K : PySem.W.Frag} {H : Hp} : ∀ ns : List Int, DpAll K H (ns.map V.int) (ns.map PyData.int)
  | [] => .nil
  | n :: r => .cons (.int n) (dpAll_ints r)
theorem plainAl_ints : ∀ ns : List Int, plainAl (ns.map PyData.int) = true
  | [] => by simp [plainAl]
  | n :: r => by simp [plainAl, plain, plainAl_ints r]
theorem depthAll_ints' : ∀ ns : List Int, PyData.depthAll (ns.map PyData.int) ≤ 1
  | [] => by simp [PyData.depthAll]
  | n :: r => by
    have := depthAll_ints' r
    simp only [List.map_cons, PyData.depthAll, PyData.depth]
    omega
section
variable {K : PySem.W.Frag} {H : Hp}
theorem dq_int {i : Int} : Dq K H (.int i) (.int i) := ⟨.int i, by simp [plain], by simp [PyData.depth]⟩
theorem dq_lst {a : Addr} {ns : List Int} (h : SqL K H a (ns.map V.int)) : Dq K H (.ref a) (.list (ns.map PyData.int)) := ⟨.lst h (dpAll_ints ns), by simp only [plain]; exact plainAl_ints ns, by
  have := depthAll_ints' ns
  simp only [PyData.depth]
  omega⟩
theorem dq_tup {a : Addr} {ns : List Int} (h : SqT K H a (ns.map V.int)) : Dq K H (.ref a) (.tuple (ns.map PyData.int)) := ⟨.tup h (dpAll_ints ns), by simp only [plain]; exact plainAl_ints ns, by
  have := depthAll_ints' ns
  simp only [PyData.depth]
  omega⟩
theorem map_int_inj {ns ms : List Int} : ns.map PyData.int = ms.map PyData.int ↔ ns = ms := by
  refine ⟨fun h => ?_, fun h => by rw [h]⟩
  have e : ∀ l : List Int, (l.map PyData.int).map (fun d => match d with | .int i => i | _ => 0) = l := fun l => by
    rw [List.map_map]
    exact List.map_id'' (fun _ => rfl) l
  rw [← e ns, ← e ms, h]
end
theorem x_eqd {K : PySem.W.Frag} {H : Hp} {x y : V} {Q : VK} : rEqD K x y H Q = rEqD K x y H Q := rfl
/-! ### reversed lists, slices -/
theorem loop_rev {K : PySem.W.Frag} {t : TS} {D : Ends} {σ : L2.St} {H : Hp} {a : Addr} {xs : List V} {g : TG} (Pv : Nat → L2.St → Hp → Prop) (h0 : Pv 0 σ H) (hl : ∀ i σ H, i ≤ xs.length → Pv i σ H → SqL K H a xs)
    (hs : ∀ i x σ H, xs[xs.length - 1 - i]? = some x → i < xs.length → Pv i σ H → g x σ H fun σ2 H2 => t { D with nx := Pv (i + 1), ct := Pv (i + 1), bk := D.nx } σ2 H2) (hd : ∀ σ H, Pv xs.length σ H → D.nx σ H) : LoopI (Itv K a xs.length) g t D σ H := by
  refine ⟨fun i left σ H => left = xs.length - i ∧ i ≤ xs.length ∧ Pv i σ H, ⟨xs.length, by omega, by omega, h0⟩, ?_⟩
  rintro i left σ H ⟨rfl, hi, p⟩
  have q := hl i σ H hi p
  by_cases hlt : i < xs.length
  · have hk : xs.length - 1 - i < xs.length := by omega
    refine .inr ⟨⟨hlt, xs, xs[xs.length - 1 - i], q, by simp [hk]⟩, Pv (i + 1), fun σ' H' p' => ⟨xs.length - (i + 1), by omega, rfl, hlt, p'⟩, fun x H' y => ?_⟩
    obtain ⟨e, y⟩ := y
    subst e
    exact hs i x σ _ (y xs q) hlt p
  · obtain rfl : i = xs.length := Nat.le_antisymm hi (by omega)
    exact .inl ⟨Nat.le_refl xs.length, hd σ H p⟩
theorem cutV_nn {xs : List V} {i j : Nat} (h : i ≤ j) (hj : j ≤ xs.length) : cutV xs (some (i : Int)) (some (j : Int)) = (xs.drop i).take (j - i) := by
  unfold cutV
  rw [HT.sIx_nat, HT.sIx_nat, Nat.min_eq_left hj, Nat.min_eq_left (Nat.le_trans h hj)]
theorem cutV_from {xs : List V} {i : Nat} (h : i ≤ xs.length) : cutV xs (some (i : Int)) none = xs.drop i := by
  unfold cutV
  rw [HT.sIx_nat, HT.sIx_none, Nat.min_eq_left h]
  exact List.take_of_length_le (by rw [List.length_drop]; exact Nat.le_refl _)
theorem cutV_upto {xs : List V} {j : Nat} (hj : j ≤ xs.length) : cutV xs none (some (j : Int)) = xs.take j := by
  unfold cutV
  rw [HT.sIx_nat, HT.sIx_none, Nat.min_eq_left hj, List.drop_zero, Nat.sub_zero]
/-! ### exceptions caught -/
theorem x_xf {a : Addr} {cls : Value} {d : Option Addr} {C : Addr} {f : Str} {te : TE} {σ : L2.St} {H : Hp} {Q : VK} : tXf a cls d C f te σ H Q = te σ H (fun x H1 => x = .ref a ∧ cls = .ref C ∧ ∃ (dd : Addr) (fs : List (Str × V)) (v : V), d = some dd ∧ H1 dd = some (.xd fs) ∧ fs.lookup f = some v ∧ Q v H1) := rfl
theorem x_rz {K : PySem.W.Frag} {C : Addr} {W : WX} {ta : TA} {D : Ends} {σ : L2.St} {H : Hp} : tRz K C W ta D σ H = ta σ H (fun vs H1 => Bz K C W σ vs H1) := rfl
theorem lookup_at {v : V} : List.lookup ("at" : Str) [(("at" : Str), v)] = some v := rfl
theorem as_yes {K : PySem.W.Frag} {mg : Str → Option Value} {x : Str} {i : Nat} {ts : Addr → Value → Option Addr → TS} {Wout : WX} {D : Ends} {σ : L2.St} {H : Hp} {d : Option Addr} (T : ExF K mg x)
    (h : ∀ a, H a = none → ts a (.ref (He.ga K x)) d { nx := fun σ' H' => D.nx (σ'.set i none) H', rt := D.rt, bk := fun σ' H' => D.bk (σ'.set i none) H', ct := fun σ' H' => D.ct (σ'.set i none) H' } (σ.set i (some (.ref a))) H) :
    wAs K (.ref (He.ga K x)) i ts Wout D (.ref (He.ga K x)) d σ H := ⟨true, T.te, fun _ => h, fun z => nomatch z⟩
theorem int_at {ns : List Int} {i : Nat} {x : V} (h : (ns.map V.int)[i]? = some x) : ∃ z, ns[i]? = some z ∧ x = .int z := by
  rw [List.getElem?_map] at h
  cases e : ns[i]? with
  | none =>
    rw [e] at h
    cases h
  | some z =>
    rw [e] at h
    exact ⟨z, rfl, (Option.some.inj h).symm⟩
theorem upd_keep {H : Hp} {b c : Addr} {o x : HO} (hb : H b = none) (h : H c = some x) : upd H b o c = some x := same_upd hb c x h
theorem upd_other {H : Hp} {b c : Addr} {o x : HO} (hb : c ≠ b) (h : H c = some x) : upd H b o c = some x := (upd_ne hb).trans h
theorem Same.get {H H' : Hp} {a : Addr} {o : HO} (s : Same H H') (h : H a = some o) : H' a = some o := s a o h
theorem same_put {H H' : Hp} {p : Addr} {o : HO} (s : Same H H') (h : H p = none) : Same H (upd H' p o) := fun b x e => by
  rw [upd_ne (ne_of_none e h)]
  exact s b x e
theorem line_map {ds : List Int} {n : Nat} (h : ds.length ≤ n) (hn : n < 16777216) : (ds.map V.int).length < sizeLine := by
  rw [List.length_map, sizeLine_eq]
  omega
theorem line_map' {ds : List Int} {n : Nat} (h : ds.length ≤ n) (hn : n < 16777216) : (ds.map V.int).length ≤ sizeLine := Nat.le_of_lt (line_map h hn)
/-! ### x op= e of ints -/
def ipC (C : Int → Int → Prop) (f : Int → Int → Int) : TIp := fun x y H Q => ∃ i j, x = .int i ∧ y = .int j ∧ C i j ∧ Q (.int (f i j)) H
theorem x_ipC {C : Int → Int → Prop} {f : Int → Int → Int} {x y : V} {H : Hp} {Q : VK} : ipC C f x y H Q = ∃ i j, x = .int i ∧ y = .int j ∧ C i j ∧ Q (.int (f i j)) H := rfl
section
variable {X : Cx}
theorem ip_fdiv : PIp X .FloorDiv (ipC CDiv fun i j => i / j) := by
  intro pins s σ H x y v u Q I r1 r2 h
  obtain ⟨i, j, e1, e2, hc, q⟩ := h
  subst e1; subst e2
  obtain ⟨t, rfl⟩ := r1
  obtain ⟨t', rfl⟩ := r2
  have h1 : (0 : Int) < j := hc.1
  have h2 := hc.2
  exact ifloordiv_int (by omega) (by rw [Int.fdiv_eq_ediv_of_nonneg i (by omega)]; exact ⟨.int _, H, I.tok _, ⟨_, rfl⟩, q⟩) (.inl (PyProof.noPylong_small (by omega)))
theorem ip_mod : PIp X .Mod (ipC (fun _ j => 0 < j) fun i j => i % j) := by
  intro pins s σ H x y v u Q I r1 r2 h
  obtain ⟨i, j, e1, e2, hc, q⟩ := h
  subst e1; subst e2
  obtain ⟨t, rfl⟩ := r1
  obtain ⟨t', rfl⟩ := r2
  exact imod_int (by omega) (by rw [Int.fmod_eq_emod_of_nonneg i (by omega)]; exact ⟨.int _, H, I.tok _, ⟨_, rfl⟩, q⟩)
theorem ip_shr : PIp X .RShift (ipC (fun _ j => 0 ≤ j) fun i j => i / 2 ^ j.toNat) := by
  intro pins s σ H x y v u Q I r1 r2 h
  obtain ⟨i, j, e1, e2, hc, q⟩ := h
  subst e1; subst e2
  obtain ⟨t, rfl⟩ := r1
  obtain ⟨t', rfl⟩ := r2
  exact irshift_int hc (by rw [Int.fdiv_eq_ediv_of_nonneg i (Int.le_of_lt (Int.pow_pos (by decide)))]; exact ⟨.int _, H, I.tok _, ⟨_, rfl⟩, q⟩)
theorem ip_shl : PIp X .LShift (ipC (fun i j => 0 ≤ j ∧ (Builtin.Int.intBits i : Int) + j ≤ 2 ^ 27) fun i j => i * 2 ^ j.toNat) := by
  intro pins s σ H x y v u Q I r1 r2 h
  obtain ⟨i, j, e1, e2, hc, q⟩ := h
  subst e1; subst e2
  obtain ⟨t, rfl⟩ := r1
  obtain ⟨t', rfl⟩ := r2
  exact ilshift_int hc.1 hc.2 ⟨.int _, H, I.tok _, ⟨_, rfl⟩, q⟩
theorem ip_mul : PIp X .Mult (ipC CMul fun i j => i * j) := by
  intro pins s σ H x y v u Q I r1 r2 h
  obtain ⟨i, j, e1, e2, hc, q⟩ := h
  subst e1; subst e2
  obtain ⟨t, rfl⟩ := r1
  obtain ⟨t', rfl⟩ := r2
  exact PyProof.Rows.imul_int ⟨.int _, H, I.tok _, ⟨_, rfl⟩, q⟩ hc.ok
theorem ip_and : PIp X .BitAnd (ipI fun i j => Builtin.bitAnd i j) := by
  intro pins s σ H x y v u Q I r1 r2 h
  obtain ⟨i, j, e1, e2, q⟩ := h
  subst e1; subst e2
  obtain ⟨t, rfl⟩ := r1
  obtain ⟨t', rfl⟩ := r2
  exact iand_int ⟨.int _, H, I.tok _, ⟨_, rfl⟩, q⟩
theorem ip_or : PIp X .BitOr (ipI fun i j => Builtin.bitOr i j) := by
  intro pins s σ H x y v u Q I r1 r2 h
  obtain ⟨i, j, e1, e2, q⟩ := h
  subst e1; subst e2
  obtain ⟨t, rfl⟩ := r1
  obtain ⟨t', rfl⟩ := r2
  exact ior_int ⟨.int _, H, I.tok _, ⟨_, rfl⟩, q⟩
theorem ip_xor : PIp X .BitXor (ipI fun i j => Builtin.bitXor i j) := by
  intro pins s σ H x y v u Q I r1 r2 h
  obtain ⟨i, j, e1, e2, q⟩ := h
  subst e1; subst e2
  obtain ⟨t, rfl⟩ := r1
  obtain ⟨t', rfl⟩ := r2
  exact ixor_int ⟨.int _, H, I.tok _, ⟨_, rfl⟩, q⟩
end
/-! ### while -/
def WhB (Pv : L2.St → Hp → Prop) (μ : L2.St → Hp → Nat) (tb : TS) (D : Ends) (σ : L2.St) (H : Hp) (b : Bool) (H1 : Hp) : Prop :=
  if b = true then ∃ N : L2.St → Hp → Prop, (∀ σ' H', N σ' H' → ∃ m', m' < μ σ H ∧ (m' = μ σ' H' ∧ Pv σ' H')) ∧ tb { D with nx := N, ct := N, bk := D.nx } σ H1 else D.nx σ H1
section
variable {c : TT} {tb : TS} {D : Ends} {σ : L2.St} {H H1 : Hp} {Pv : L2.St → Hp → Prop} {μ : L2.St → Hp → Nat}
theorem loop_while (Pv : L2.St → Hp → Prop) (μ : L2.St → Hp → Nat) (h0 : Pv σ H) (hs : ∀ σ H, Pv σ H → c σ H fun b H1 => WhB Pv μ tb D σ H b H1) : tWhile c tb D σ H := by
  refine ⟨fun left σ H => left = μ σ H ∧ Pv σ H, ⟨μ σ H, rfl, h0⟩, ?_⟩
  rintro left σ H ⟨rfl, p⟩
  exact hs σ H p
theorem wh {b : Bool} (h1 : b = true → tb { D with nx := fun σ' H' => Pv σ' H' ∧ μ σ' H' < μ σ H, ct := fun σ' H' => Pv σ' H' ∧ μ σ' H' < μ σ H, bk := D.nx } σ H1) (h2 : b = false → D.nx σ H1) : WhB Pv μ tb D σ H b H1 := by
  cases b
  · exact h2 rfl
  · exact ⟨_, fun σ' H' ⟨p, l⟩ => ⟨_, l, rfl, p⟩, h1 rfl⟩
theorem wh_d {p : Prop} {_ : Decidable p} (h1 : p → tb { D with nx := fun σ' H' => Pv σ' H' ∧ μ σ' H' < μ σ H, ct := fun σ' H' => Pv σ' H' ∧ μ σ' H' < μ σ H, bk := D.nx } σ H1) (h2 : ¬ p → D.nx σ H1) : WhB Pv μ tb D σ H (decide p) H1 := wh (fun e => h1 (of_decide_eq_true e)) (fun e => h2 (of_decide_eq_false e))
end
theorem cpow_ok {i j : Int} (h : (decide (0 ≤ j) && decide (j ≤ 1000000) && decide (i.natAbs < 2 ^ 64)) = true) : CPow i j := by
  simp only [Bool.and_eq_true, decide_eq_true_eq] at h
  exact ⟨h.1.1, h.1.2, h.2⟩
theorem xf_at {a d : Addr} {C : Addr} {i : Nat} {σ : L2.St} {H : Hp} {Q : VK} {v : V} (hi : σ[i]? = some (some (.ref a))) (h : H d = some (.xd [("at", v)])) (q : Q v H) : tXf a (.ref C) (some d) C "at" (tVar i) σ H Q := ⟨_, hi, rfl, rfl, d, _, v, rfl, h, lookup_at, q⟩
section
variable {K : PySem.W.Frag} {H : Hp} {a : Addr} {xs : List V} {P : List V → Prop}
theorem ex_lst (h : H a = some (.lst xs)) (q : P xs) : ∃ x, H a = some (.lst x) ∧ P x := ⟨xs, h, q⟩
theorem ex_sq (h : SqL K H a xs) (q : P xs) : ∃ x, SqL K H a x ∧ P x := ⟨xs, h, q⟩
theorem ex_sqt (h : SqT K H a xs) (q : P xs) : ∃ x, SqT K H a x ∧ P x := ⟨xs, h, q⟩
theorem ex_or (h : SqL K H a xs) (q : P xs) : ∃ x, (SqL K H a x ∨ SqT K H a x) ∧ P x := ⟨xs, .inl h, q⟩
theorem ex_ort (h : SqT K H a xs) (q : P xs) : ∃ x, (SqL K H a x ∨ SqT K H a x) ∧ P x := ⟨xs, .inr h, q⟩
theorem and_sq {B : Prop} (h : SqL K H a xs) (q : B) : (∃ x, SqL K H a x) ∧ B := ⟨⟨xs, h⟩, q⟩
theorem and_tyv {B : Prop} (h : SqL K H a xs) (q : B) : tyV K "list" (.ref a) H ∧ B := ⟨tyv h, q⟩
end
theorem pow2_le {i j : Nat} (h : i ≤ j) : (2 : Int) ^ i ≤ 2 ^ j := by exact_mod_cast Nat.pow_le_pow_right (by decide) h
theorem pow2_pos {i : Nat} : (0 : Int) < 2 ^ i := Int.pow_pos (by decide)
/-! guards: the goal's shape, nothing else -/
section
variable {K : PySem.W.Frag} {H : Hp} {a : Addr} {P : List V → Prop} {B : Prop}
theorem g_xf {cls : Value} {d : Option Addr} {C : Addr} {f : Str} {te : TE} {σ : L2.St} {Q : VK} (h : tXf a cls d C f te σ H Q) : tXf a cls d C f te σ H Q := h
theorem g_and {A : Prop} (h : A ∧ B) : A ∧ B := h
theorem g_tyv (h : tyV K "list" (.ref a) H ∧ B) : tyV K "list" (.ref a) H ∧ B := h
theorem g_asq (h : (∃ x, SqL K H a x) ∧ B) : (∃ x, SqL K H a x) ∧ B := h
theorem g_lst (h : ∃ x, H a = some (.lst x) ∧ P x) : ∃ x, H a = some (.lst x) ∧ P x := h
theorem g_or (h : ∃ x, (SqL K H a x ∨ SqT K H a x) ∧ P x) : ∃ x, (SqL K H a x ∨ SqT K H a x) ∧ P x := h
theorem g_sq (h : ∃ x, SqL K H a x ∧ P x) : ∃ x, SqL K H a x ∧ P x := h
theorem g_sqt (h : ∃ x, SqT K H a x ∧ P x) : ∃ x, SqT K H a x ∧ P x := h
end
theorem cmul_r {i j : Int} (h1 : -18446744073709551616 < j) (h2 : j < 18446744073709551616) : CMul i j := .inr ⟨h1, h2⟩
theorem cmul_l {i j : Int} (h1 : -18446744073709551616 < i) (h2 : i < 18446744073709551616) : CMul i j := .inl ⟨h1, h2⟩
theorem cdiv_ok {i j : Int} (h1 : 0 < j) (h2 : j < 1073741824) : CDiv i j := ⟨h1, h2⟩
/-! comprehensions of ints over a range, nothing else made -/
def CP (D : Addr) (H1 : Hp) (y : V) (H4 : Hp) : Prop := ∃ acc, H4 D = some (.lst acc) ∧ acc.length < sizeLine ∧ upd H4 D (.lst (acc ++ [y])) = H1
def rngL (f : Nat → Int) (n : Nat) : List Int := (List.range n).map f
theorem rngL_len {f : Nat → Int} {n : Nat} : (rngL f n).length = n := by unfold rngL; rw [List.length_map, List.length_range]
theorem rngL_succ {f : Nat → Int} {n : Nat} : rngL f (n + 1) = rngL f n ++ [f n] := by
  unfold rngL
  rw [List.range_succ, List.map_append]
  rfl
theorem comp_rngY {te : TE} {σ : L2.St} {H : Hp} {lo : Int} {n : Nat} {g : TG} {vs : List Nat} {D : Addr} {Qd : Hp → Prop} (f : Nat → Int)
    (hs : ∀ i, i < n → g (.int (lo + i)) (wipe σ vs) (upd H D (.lst ((rngL f i).map V.int))) fun σ2 H2 => wipe σ2 vs = wipe σ vs ∧ te σ2 H2 (CP D (upd H D (.lst ((rngL f (i + 1)).map V.int)))))
    (hd : Qd (upd H D (.lst ((rngL f n).map V.int)))) : CompI (Itr lo n) g tYes te vs σ H D Qd := by
  refine comp_range (fun i H' => H' = upd H D (.lst ((rngL f i).map V.int))) rfl ?_ ?_
  · rintro i H' hi rfl
    exact hs i hi
  · rintro H' rfl
    exact hd
theorem cp {f : Nat → Int} {i : Nat} {D : Addr} {H : Hp} {y : V} (hn : i < 100000) (hy : y = .int (f i)) : CP D (upd H D (.lst ((rngL f (i + 1)).map V.int))) y (upd H D (.lst ((rngL f i).map V.int))) := by
  refine ⟨_, upd_same, ?_, ?_⟩
  · rw [List.length_map, rngL_len, sizeLine_eq]
    omega
  · rw [Bel.upd_upd, rngL_succ, List.map_append, hy]
    rfl
theorem wipe_nil {σ : L2.St} : wipe σ [] = σ := rfl
theorem wipe_cons {σ : L2.St} {v : Nat} {vs : List Nat} : wipe σ (v :: vs) = (wipe σ vs).set v none := rfl
theorem loop_rangeN {t : TS} {D : Ends} {σ : L2.St} {H : Hp} {lo : Int} {n m : Nat} {g : TG} (hn : n = m) (Pv : Nat → L2.St → Hp → Prop) (h0 : Pv 0 σ H)
    (hs : ∀ i σ H, i < m → Pv i σ H → g (.int (lo + i)) σ H fun σ2 H2 => t { D with nx := Pv (i + 1), ct := Pv (i + 1), bk := D.nx } σ2 H2) (hd : ∀ σ H, Pv m σ H → D.nx σ H) : LoopI (Itr lo n) g t D σ H := by
  subst hn
  exact loop_range Pv h0 hs hd
section
variable {K : PySem.W.Frag} {H : Hp} {x y : V} {Q : VK} {vs : List V}
theorem g_new {Pa : Addr → Prop} (h : ∀ p : Addr, H p = none → Pa p) : ∀ p : Addr, H p = none → Pa p := h
theorem g_ned (h : rNeD K x y H Q) : rNeD K x y H Q := h
theorem g_eqd (h : rEqD K x y H Q) : rEqD K x y H Q := h
theorem g_isi (h : rIsi K vs H Q) : rIsi K vs H Q := h
end
section
variable {t u : TS} {ta tb : TE} {tA tB' : TT} {D : Ends} {σ : L2.St} {H : Hp} {Q : VK} {QT : Bool → Hp → Prop} {p : Prop} {_ : Decidable p} {b : Bool}
theorem g_sel (h : Sel b t u D σ H) : Sel b t u D σ H := h
theorem g_selE (h : SelE b ta tb σ H Q) : SelE b ta tb σ H Q := h
theorem g_selT (h : SelT b tA tB' σ H QT) : SelT b tA tB' σ H QT := h
theorem sel_p (h : p) (q : t D σ H) : Sel (decide p) t u D σ H := by
  rw [decide_eq_true h]
  exact q
theorem sel_n (h : ¬ p) (q : u D σ H) : Sel (decide p) t u D σ H := by
  rw [decide_eq_false h]
  exact q
theorem selN_p (h : p) (q : u D σ H) : Sel (!decide p) t u D σ H := by
  rw [decide_eq_true h]
  exact q
theorem selN_n (h : ¬ p) (q : t D σ H) : Sel (!decide p) t u D σ H := by
  rw [decide_eq_false h]
  exact q
theorem selE_p (h : p) (q : ta σ H Q) : SelE (decide p) ta tb σ H Q := by
  rw [decide_eq_true h]
  exact q
theorem selE_n (h : ¬ p) (q : tb σ H Q) : SelE (decide p) ta tb σ H Q := by
  rw [decide_eq_false h]
  exact q
theorem selEN_p (h : p) (q : tb σ H Q) : SelE (!decide p) ta tb σ H Q := by
  rw [decide_eq_true h]
  exact q
theorem selEN_n (h : ¬ p) (q : ta σ H Q) : SelE (!decide p) ta tb σ H Q := by
  rw [decide_eq_false h]
  exact q
theorem selT_p (h : p) (q : tA σ H QT) : SelT (decide p) tA tB' σ H QT := by
  rw [decide_eq_true h]
  exact q
theorem selT_n (h : ¬ p) (q : tB' σ H QT) : SelT (decide p) tA tB' σ H QT := by
  rw [decide_eq_false h]
  exact q
theorem selTN_p (h : p) (q : tB' σ H QT) : SelT (!decide p) tA tB' σ H QT := by
  rw [decide_eq_true h]
  exact q
theorem selTN_n (h : ¬ p) (q : tA σ H QT) : SelT (!decide p) tA tB' σ H QT := by
  rw [decide_eq_false h]
  exact q
end
section
variable {t u : TS} {ta tb : TE} {tA tB' : TT} {D : Ends} {σ : L2.St} {H : Hp} {Q : VK} {QT : Bool → Hp → Prop} {p : Prop} {_ : Decidable p}
theorem gd_sel (h : Sel (decide p) t u D σ H) : Sel (decide p) t u D σ H := h
theorem gn_sel (h : Sel (!decide p) t u D σ H) : Sel (!decide p) t u D σ H := h
theorem gd_selE (h : SelE (decide p) ta tb σ H Q) : SelE (decide p) ta tb σ H Q := h
theorem gn_selE (h : SelE (!decide p) ta tb σ H Q) : SelE (!decide p) ta tb σ H Q := h
theorem gd_selT (h : SelT (decide p) tA tB' σ H QT) : SelT (decide p) tA tB' σ H QT := h
theorem gn_selT (h : SelT (!decide p) tA tB' σ H QT) : SelT (!decide p) tA tB' σ H QT := h
end
theorem ex_at {xs : List V} {i : Int} {v : V} {P : V → Prop} (h : atI xs i = some v) (q : P v) : ∃ x, atI xs i = some x ∧ P x := ⟨v, h, q⟩
theorem g_atI {xs : List V} {i : Int} {P : V → Prop} (h : ∃ x, atI xs i = some x ∧ P x) : ∃ x, atI xs i = some x ∧ P x := h
theorem ixN_ok {n : Nat} {i : Int} (h0 : 0 ≤ i) (h1 : i < n) : ixN n i = some i.toNat := by
  unfold ixN
  rw [if_pos h0, if_pos h1]
theorem set_ints {xs : List Int} {j : Nat} {v : Int} : (xs.map V.int).set j (.int v) = (xs.set j v).map V.int := (List.map_set ..).symm
theorem x_bits {te : TE} {σ : L2.St} {H : Hp} {Q : VK} : tBits te σ H Q = te σ H (fun x H1 => ∃ i, x = .int i ∧ Q (.int (Builtin.Int.intBits i : Nat)) H1) := rfl
theorem loop_tup {K : PySem.W.Frag} {t : TS} {D : Ends} {σ : L2.St} {H : Hp} {a : Addr} {xs : List V} {g : TG} (Pv : Nat → L2.St → Hp → Prop) (h0 : Pv 0 σ H) (hl : ∀ i σ H, i ≤ xs.length → Pv i σ H → SqT K H a xs)
    (hs : ∀ i x σ H, xs[i]? = some x → Pv i σ H → g x σ H fun σ2 H2 => t { D with nx := Pv (i + 1), ct := Pv (i + 1), bk := D.nx } σ2 H2) (hd : ∀ σ H, Pv xs.length σ H → D.nx σ H) : LoopI (Itt K a) g t D σ H := for_tup Pv h0 hl hs hd
/-! the number of bits -/
theorem bits_is {r k : Nat} (h1 : 2 ^ k ≤ r) (h2 : r < 2 ^ (k + 1)) : Builtin.Int.intBits (r : Int) = k + 1 := by
  have h0 : r ≠ 0 := by
    have := Nat.two_pow_pos k
    omega
  unfold Builtin.Int.intBits
  rw [if_neg (by simpa using h0), Int.natAbs_natCast]
  have a : k ≤ r.log2 := (Nat.le_log2 h0).mpr h1
  have b : r.log2 < k + 1 := (Nat.log2_lt h0).mpr h2
  omega
theorem bits_at {r : Nat} (h0 : r ≠ 0) : ∃ k, Builtin.Int.intBits (r : Int) = k + 1 ∧ 2 ^ k ≤ r ∧ r < 2 ^ (k + 1) := by
  refine ⟨r.log2, ?_, Nat.log2_self_le h0, Nat.lt_log2_self⟩
  exact bits_is (Nat.log2_self_le h0) Nat.lt_log2_self
/-! enumerate of a list: a new pair each turn -/
theorem x_ienum {K : PySem.W.Frag} {l : TA} {σ : L2.St} {H : Hp} {R : It → Hp → Prop} : iEnum K l σ H R = l σ H (fun vs H1 => ∃ (a : Addr) (xs : List V), vs = [.ref a] ∧ SqL K H1 a xs ∧ R (Ite K a) H1) := rfl
theorem loop_enum {K : PySem.W.Frag} {t : TS} {D : Ends} {σ : L2.St} {H : Hp} {a : Addr} {xs : List V} {g : TG} (Pv : Nat → L2.St → Hp → Prop) (h0 : Pv 0 σ H) (hl : ∀ i σ H, i ≤ xs.length → Pv i σ H → SqL K H a xs)
    (hs : ∀ i x σ H T, xs[i]? = some x → Pv i σ H → H T = none → g (.ref T) σ (upd H T (.tup [.int (i : Nat), x])) fun σ2 H2 => t { D with nx := Pv (i + 1), ct := Pv (i + 1), bk := D.nx } σ2 H2) (hd : ∀ σ H, Pv xs.length σ H → D.nx σ H) : LoopI (Ite K a) g t D σ H := by
  refine ⟨fun i left σ H => left = xs.length - i ∧ i ≤ xs.length ∧ Pv i σ H, ⟨xs.length, by omega, by omega, h0⟩, ?_⟩
  rintro i left σ H ⟨rfl, hi, p⟩
  have q := hl i σ H hi p
  by_cases hlt : i < xs.length
  · refine .inr ⟨⟨xs, xs[i], q, List.getElem?_eq_getElem hlt⟩, Pv (i + 1), fun σ' H' p' => ⟨xs.length - (i + 1), by omega, rfl, hlt, p'⟩, fun x H' y => ?_⟩
    obtain ⟨T, x2, e1, hT, e2, y⟩ := y
    subst e1; subst e2
    exact hs i x2 σ H T (y xs q) p hT
  · obtain rfl : i = xs.length := Nat.le_antisymm hi (by omega)
    exact .inl ⟨⟨xs, q, Nat.le_refl _⟩, hd σ H p⟩
/-- an empty tuple of the program -/
def etB (K : PySem.W.Frag) (p : Addr) : Bool := match K.lookup p with
  | some ⟨.type c, _, .seq its _, _⟩ => decide (c = "tuple") && its.isEmpty
  | _ => false
theorem etB_ok {K : PySem.W.Frag} {p : Addr} (h : etB K p = true) (H : Hp) : SqT K H p [] := by
  unfold etB at h
  split at h
  · rename_i c od its n osl q
    simp only [Bool.and_eq_true, decide_eq_true_eq, Array.isEmpty_iff] at h
    obtain ⟨rfl, rfl⟩ := h
    exact .inr ⟨_, _, n, q, rfl, rfl, Nat.zero_le _, .nil⟩
  · cases h
/-! lists of tuples of ints -/
inductive TkAll (H : Hp) : List V → List (List Int) → Prop
  | nil : TkAll H [] []
  | cons {r : Addr} {t : List Int} {vs : List V} {ts : List (List Int)} : H r = some (.tup (t.map V.int)) → TkAll H vs ts → TkAll H (.ref r :: vs) (t :: ts)
namespace TkAll
variable {H G : Hp} {vs us : List V} {ts ws : List (List Int)}
theorem len (h : TkAll H vs ts) : vs.length = ts.length := by
  induction h with
  | nil => rfl
  | cons _ _ ih => exact congrArg (· + 1) ih
theorem same (h : TkAll H vs ts) (s : Same H G) : TkAll G vs ts := by
  induction h with
  | nil => exact .nil
  | cons e _ ih => exact .cons (s _ _ e) ih
theorem put {m : Addr} {l : List V} {o : HO} (h : TkAll H vs ts) (hm : H m = some (.lst l)) : TkAll (upd H m o) vs ts := by
  induction h with
  | nil => exact .nil
  | cons e _ ih =>
    refine .cons ?_ ih
    rw [upd_ne ?_]
    · exact e
    · intro z
      rw [z, hm] at e
      cases e
theorem append (h : TkAll H vs ts) (g : TkAll H us ws) : TkAll H (vs ++ us) (ts ++ ws) := by
  induction h with
  | nil => exact g
  | cons e _ ih => exact .cons e ih
theorem take (h : TkAll H vs ts) (n : Nat) : TkAll H (vs.take n) (ts.take n) := by
  induction h generalizing n with
  | nil =>
    rw [List.take_nil, List.take_nil]
    exact .nil
  | cons e _ ih =>
    cases n with
    | zero => exact .nil
    | succ n => exact .cons e (ih n)
theorem drop (h : TkAll H vs ts) (n : Nat) : TkAll H (vs.drop n) (ts.drop n) := by
  induction h generalizing n with
  | nil =>
    rw [List.drop_nil, List.drop_nil]
    exact .nil
  | cons e g ih =>
    cases n with
    | zero => exact .cons e g
    | succ n => exact ih n
theorem get (h : TkAll H vs ts) {i : Nat} {x : V} (hx : vs[i]? = some x) : ∃ r t, x = .ref r ∧ ts[i]? = some t ∧ H r = some (.tup (t.map V.int)) := by
  induction h generalizing i with
  | nil => cases hx
  | cons e _ ih =>
    cases i with
    | zero =>
      cases hx
      exact ⟨_, _, rfl, rfl, e⟩
    | succ i => exact ih hx
theorem dp {K : PySem.W.Frag} (h : TkAll H vs ts) : DpAll K H vs (ts.map fun t => .tuple (t.map PyData.int)) := by
  induction h with
  | nil => exact .nil
  | cons e _ ih => exact .cons (.tup (SqT.of e) (dpAll_ints _)) ih
end TkAll
theorem plainAl_toks : ∀ ts : List (List Int), plainAl (ts.map fun t => .tuple (t.map PyData.int)) = true
  | [] => by simp [plainAl]
  | t :: r => by simp [plainAl, plain, plainAl_toks r, plainAl_ints t]
theorem depthAll_toks : ∀ ts : List (List Int), PyData.depthAll (ts.map fun t => .tuple (t.map PyData.int)) ≤ 2
  | [] => by simp [PyData.depthAll]
  | t :: r => by
    have := depthAll_toks r
    have := depthAll_ints' t
    simp only [List.map_cons, PyData.depthAll, PyData.depth]
    omega
theorem dq_toks {K : PySem.W.Frag} {H : Hp} {a : Addr} {vs : List V} {ts : List (List Int)} (h : SqL K H a vs) (g : TkAll H vs ts) : Dq K H (.ref a) (.list (ts.map fun t => .tuple (t.map PyData.int))) := ⟨.lst h g.dp, by simp only [plain]; exact plainAl_toks ts, by
  have := depthAll_toks ts
  simp only [PyData.depth]
  omega⟩
/-! xs[i] op= e, i from the front -/
def rGetL (K : PySem.W.Frag) : V → V → Hp → VK → Prop := fun a b H Q => ∃ (p : Addr) (xs : List V) (i : Int) (v : V), a = .ref p ∧ b = .int i ∧ SqL K H p xs ∧ 0 ≤ i ∧ atI xs i = some v ∧ Q v H
theorem x_getL {K : PySem.W.Frag} {a b : V} {H : Hp} {Q : VK} : rGetL K a b H Q = ∃ (p : Addr) (xs : List V) (i : Int) (v : V), a = .ref p ∧ b = .int i ∧ SqL K H p xs ∧ 0 ≤ i ∧ atI xs i = some v ∧ Q v H := rfl
theorem getL {X : Cx} (K : PySem.W.Frag) (e : X.K = K := by rfl) : PGet X (rGetL K) := by
  subst e
  intro pins s σ H o i ov iv Q I ro ri h
  obtain ⟨p, xs, k, z, rfl, rfl, hq, h0, he, q⟩ := h
  cases ro
  obtain ⟨t, rfl⟩ := ri
  obtain ⟨its, r, pl, hz⟩ := I.list hq
  obtain ⟨j, g1, g2, g3, g4, g5⟩ := atI_get he
  obtain ⟨w, ew, rw'⟩ := r.get g2
  have hn := line63
  have hj : k.toNat = j := by
    rw [seqIndex_of h0 g5] at g1
    exact Option.some.inj g1
  exact PySem.wpAny_getItem_list pl.isList h0 (by omega) (by rw [hj]; simpa using ew) ⟨z, H, I, rw', q⟩
theorem x_augS {to ti te : TE} {tget : V → V → Hp → VK → Prop} {tip : TIp} {tset : TSet} {D : Ends} {σ : L2.St} {H : Hp} : tAugS to ti te tget tip tset D σ H = to σ H (fun o H1 => ti σ H1 (fun i H2 => tget o i H2 (fun x H3 => te σ H3 (fun y H4 => tip x y H4 (fun z H5 => tset o i z H5 (fun H6 => D.nx σ H6)))))) := rfl
/-! replicated, pairs of lists -/
theorem rep_one {n : Nat} {x : Int} : (List.replicate n [V.int x]).flatten = (List.replicate n x).map V.int := by
  rw [List.map_replicate]
  induction n with
  | zero => rfl
  | succ n ih =>
    rw [List.replicate_succ, List.replicate_succ, List.flatten_cons, ih]
    rfl
theorem dq_pair {K : PySem.W.Frag} {H : Hp} {q a b : Addr} {xs ys : List Int} (hq : SqT K H q [.ref a, .ref b]) (ha : SqL K H a (xs.map V.int)) (hb : SqL K H b (ys.map V.int)) : Dq K H (.ref q) (.tuple [.list (xs.map PyData.int), .list (ys.map PyData.int)]) :=
  ⟨.tup hq (.cons (.lst ha (dpAll_ints xs)) (.cons (.lst hb (dpAll_ints ys)) .nil)), by simp [plain, plainAl, plainAl_ints], by
    have := depthAll_ints' xs
    have := depthAll_ints' ys
    simp only [PyData.depth, PyData.depthAll]
    omega⟩
/-! comprehensions of ints over a list of ints, nothing else made -/
theorem take_map_snoc {xs : List Int} {f : Int → Int} {i : Nat} {x : Int} (h : xs[i]? = some x) : (xs.take (i + 1)).map f = (xs.take i).map f ++ [f x] := by
  rw [List.take_add_one, h, List.map_append]
  rfl
theorem comp_intY {K : PySem.W.Frag} {te : TE} {σ : L2.St} {H : Hp} {a : Addr} {xs : List Int} {g : TG} {vs : List Nat} {D : Addr} {Qd : Hp → Prop} (f : Int → Int) (hS : SqL K H a (xs.map V.int)) (hD : H D = none)
    (hs : ∀ i x, xs[i]? = some x → g (.int x) (wipe σ vs) (upd H D (.lst (((xs.take i).map f).map V.int))) fun σ2 H2 => wipe σ2 vs = wipe σ vs ∧ te σ2 H2 (CP D (upd H D (.lst (((xs.take (i + 1)).map f).map V.int)))))
    (hd : Qd (upd H D (.lst ((xs.map f).map V.int)))) : CompI (Itl K a) g tYes te vs σ H D Qd := by
  refine comp_list (xs := xs.map V.int) (fun i H' => H' = upd H D (.lst (((xs.take i).map f).map V.int))) rfl ?_ ?_ ?_
  · rintro i H' _ rfl
    exact (same_upd hD).seq hS
  · rintro i x H' hx rfl
    obtain ⟨z, hz, rfl⟩ := int_at hx
    exact hs i z hz
  · rintro H' rfl
    rw [List.length_map, List.take_length]
    exact hd
theorem cpi {xs : List Int} {f : Int → Int} {i : Nat} {x : Int} {D : Addr} {H : Hp} {y : V} (hx : xs[i]? = some x) (hn : xs.length < 100000) (hy : y = .int (f x)) : CP D (upd H D (.lst (((xs.take (i + 1)).map f).map V.int))) y (upd H D (.lst (((xs.take i).map f).map V.int))) := by
  refine ⟨_, upd_same, ?_, ?_⟩
  · rw [List.length_map, List.length_map, List.length_take, sizeLine_eq]
    omega
  · rw [Bel.upd_upd, take_map_snoc hx, List.map_append, hy]
    rfl
end Bel

namespace Bel
open PySem PySem.Spec PyProof.Rows L2
/-! ### data that never changes: ints, texts, tuples of such -/
mutual
inductive Imm (K : PySem.W.Frag) (H : Hp) : V → PyData → Prop
  | non : Imm K H .non .none
  | bl (b : Bool) : Imm K H (.bl b) (.bool b)
  | int (i : Int) : Imm K H (.int i) (.int i)
  | str (x : Str) : Imm K H (.str x) (.str x)
  | tup {a : Addr} {xs : List V} {ds : List PyData} : SqT K H a xs → ImmL K H xs ds → Imm K H (.ref a) (.tuple ds)
inductive ImmL (K : PySem.W.Frag) (H : Hp) : List V → List PyData → Prop
  | nil : ImmL K H [] []
  | cons {v : V} {vs : List V} {d : PyData} {ds : List PyData} : Imm K H v d → ImmL K H vs ds → ImmL K H (v :: vs) (d :: ds)
end
mutual
theorem Imm.mono {K : PySem.W.Frag} {H H' : Hp} (st : ∀ a xs, SqT K H a xs → SqT K H' a xs) : ∀ {v : V} {d : PyData}, Imm K H v d → Imm K H' v d
  | _, _, .non => .non
  | _, _, .bl b => .bl b
  | _, _, .int i => .int i
  | _, _, .str x => .str x
  | _, _, .tup h g => .tup (st _ _ h) (ImmL.mono st g)
theorem ImmL.mono {K : PySem.W.Frag} {H H' : Hp} (st : ∀ a xs, SqT K H a xs → SqT K H' a xs) : ∀ {vs : List V} {ds : List PyData}, ImmL K H vs ds → ImmL K H' vs ds
  | _, _, .nil => .nil
  | _, _, .cons h g => .cons (Imm.mono st h) (ImmL.mono st g)
end
mutual
theorem Imm.dp {K : PySem.W.Frag} {H : Hp} : ∀ {v : V} {d : PyData}, Imm K H v d → Dp K H v d
  | _, _, .non => .non
  | _, _, .bl b => .bl b
  | _, _, .int i => .int i
  | _, _, .str x => .str x
  | _, _, .tup h g => .tup h (ImmL.dp g)
theorem ImmL.dp {K : PySem.W.Frag} {H : Hp} : ∀ {vs : List V} {ds : List PyData}, ImmL K H vs ds → DpAll K H vs ds
  | _, _, .nil => .nil
  | _, _, .cons h g => .cons (Imm.dp h) (ImmL.dp g)
end
namespace ImmL
variable {K : PySem.W.Frag} {H : Hp} {vs us : List V} {ds es : List PyData}
theorem len : ∀ {vs : List V} {ds : List PyData}, ImmL K H vs ds → vs.length = ds.length
  | _, _, .nil => rfl
  | _, _, .cons _ g => congrArg (· + 1) (len g)
theorem append : ∀ {vs : List V} {ds : List PyData}, ImmL K H vs ds → ImmL K H us es → ImmL K H (vs ++ us) (ds ++ es)
  | _, _, .nil, g => g
  | _, _, .cons h k, g => .cons h (append k g)
theorem one {x : V} {d : PyData} (h : Imm K H x d) : ImmL K H [x] [d] := .cons h .nil
theorem snoc {x : V} {d : PyData} (g : ImmL K H vs ds) (h : Imm K H x d) : ImmL K H (vs ++ [x]) (ds ++ [d]) := g.append (.one h)
theorem get : ∀ {vs : List V} {ds : List PyData} {i : Nat} {x : V}, ImmL K H vs ds → vs[i]? = some x → ∃ d, ds[i]? = some d ∧ Imm K H x d
  | _, _, _, _, .nil, e => by cases e
  | _, _, 0, _, .cons h _, e => by
    cases e
    exact ⟨_, rfl, h⟩
  | _, _, i + 1, _, .cons _ g, e => get (i := i) g e
theorem at_ : ∀ {vs : List V} {ds : List PyData} {i : Nat} {d : PyData}, ImmL K H vs ds → ds[i]? = some d → ∃ x, vs[i]? = some x ∧ Imm K H x d
  | _, _, _, _, .nil, e => by cases e
  | _, _, 0, _, .cons h _, e => by
    cases e
    exact ⟨_, rfl, h⟩
  | _, _, i + 1, _, .cons _ g, e => at_ (i := i) g e
theorem take : ∀ {vs : List V} {ds : List PyData} (n : Nat), ImmL K H vs ds → ImmL K H (vs.take n) (ds.take n)
  | _, _, n, .nil => by
    rw [List.take_nil, List.take_nil]
    exact .nil
  | _, _, 0, .cons _ _ => .nil
  | _, _, n + 1, .cons h g => .cons h (take n g)
theorem drop : ∀ {vs : List V} {ds : List PyData} (n : Nat), ImmL K H vs ds → ImmL K H (vs.drop n) (ds.drop n)
  | _, _, n, .nil => by
    rw [List.drop_nil, List.drop_nil]
    exact .nil
  | _, _, 0, .cons h g => .cons h g
  | _, _, n + 1, .cons _ g => drop n g
theorem of_is : ∀ ns : List Int, ImmL K H (ns.map V.int) (ns.map PyData.int)
  | [] => .nil
  | n :: r => .cons (.int n) (of_is r)
theorem of_ints : ∀ {ns : List Int} {vs : List V}, ImmL K H vs (ns.map PyData.int) → vs = ns.map V.int
  | [], _, .nil => rfl
  | _ :: _, _, .cons (.int _) g => by rw [of_ints g]; rfl
theorem rev : ∀ {vs : List V} {ds : List PyData}, ImmL K H vs ds → ImmL K H vs.reverse ds.reverse
  | _, _, .nil => .nil
  | _, _, .cons h g => by
    rw [List.reverse_cons, List.reverse_cons]
    exact (rev g).snoc h
theorem set : ∀ {vs : List V} {ds : List PyData} {x : V} {d : PyData} (i : Nat), Imm K H x d → ImmL K H vs ds → ImmL K H (vs.set i x) (ds.set i d)
  | _, _, _, _, _, _, .nil => .nil
  | _, _, _, _, 0, h, .cons _ g => .cons h g
  | _, _, _, _, i + 1, h, .cons k g => .cons k (set i h g)
end ImmL
theorem Imm.of_int {K : PySem.W.Frag} {H : Hp} {v : V} {i : Int} (h : Imm K H v (.int i)) : v = .int i := by
  cases h
  rfl
theorem Imm.of_str {K : PySem.W.Frag} {H : Hp} {v : V} {x : Str} (h : Imm K H v (.str x)) : v = .str x := by
  cases h
  rfl
theorem Imm.of_tup {K : PySem.W.Frag} {H : Hp} {v : V} {ds : List PyData} (h : Imm K H v (.tuple ds)) : ∃ a xs, v = .ref a ∧ SqT K H a xs ∧ ImmL K H xs ds := by
  cases h with
  | tup h g => exact ⟨_, _, rfl, h, g⟩
theorem Imm.of_ints {K : PySem.W.Frag} {H : Hp} {v : V} {ns : List Int} (h : Imm K H v (.tuple (ns.map PyData.int))) : ∃ a, v = .ref a ∧ SqT K H a (ns.map V.int) := by
  cases h with
  | tup h g => exact ⟨_, rfl, ImmL.of_ints g ▸ h⟩
/-- a tuple of ints -/
abbrev tI (ns : List Int) : PyData := .tuple (ns.map PyData.int)
theorem Imm.of_is {K : PySem.W.Frag} {H : Hp} {a : Addr} {ns : List Int} (h : SqT K H a (ns.map V.int)) : Imm K H (.ref a) (tI ns) := .tup h (ImmL.of_is ns)
/-! ### what is owned -/
inductive As where
  | pt (a : Addr) (o : HO)
  | im (v : V) (d : PyData)
  | ims (vs : List V) (ds : List PyData)
  | objs (ps : List (Addr × HO))
def As.holds (K : PySem.W.Frag) (B H : Hp) : As → Prop
  | .pt a o => H a = some o ∧ B a = none
  | .im v d => Imm K H v d
  | .ims vs ds => ImmL K H vs ds
  | .objs ps => ∀ q ∈ ps, H q.1 = some q.2 ∧ B q.1 = none
/-- addresses -/
def As.ad : As → List Addr
  | .pt a _ => [a]
  | .objs ps => ps.map Prod.fst
  | _ => []
def ads (l : List As) : List Addr := l.flatMap As.ad
structure Own (K : PySem.W.Frag) (B H : Hp) (l : List As) : Prop where
  same : Same B H
  nd : (ads l).Nodup
  all : ∀ x ∈ l, x.holds K B H
/-- may be changed -/
def mutb : HO → Bool
  | .tup _ => false
  | .frz _ _ => false
  | _ => true
theorem sqT_upd {K : PySem.W.Frag} {H : Hp} {a b : Addr} {o o' : HO} {xs : List V} (h : H b = some o) (m : mutb o = true) (g : SqT K H a xs) : SqT K (upd H b o') a xs := by
  rcases g with (g | ⟨u, g⟩) | g
  · refine .inl (.inl ?_)
    rw [upd_ne ?_]
    · exact g
    · rintro rfl
      rw [g] at h
      cases h
      cases m
  · refine .inl (.inr ⟨u, ?_⟩)
    rw [upd_ne ?_]
    · exact g
    · rintro rfl
      rw [g] at h
      cases h
      cases m
  · exact .inr g
inductive Put : List As → Addr → HO → HO → List As → Prop
  | here {l : List As} {a : Addr} {o o' : HO} : Put (.pt a o :: l) a o o' (.pt a o' :: l)
  | there {l l' : List As} {x : As} {a : Addr} {o o' : HO} : Put l a o o' l' → Put (x :: l) a o o' (x :: l')
theorem Put.mem {l l' : List As} {a : Addr} {o o' : HO} (p : Put l a o o' l') : As.pt a o ∈ l := by
  induction p with
  | here => exact .head _
  | there _ ih => exact .tail _ ih
theorem Put.ads {l l' : List As} {a : Addr} {o o' : HO} (p : Put l a o o' l') : ads l' = ads l := by
  induction p with
  | here => rfl
  | there _ ih =>
    unfold Bel.ads at ih ⊢
    rw [List.flatMap_cons, List.flatMap_cons, ih]
theorem mem_ads {l : List As} {a : Addr} {o : HO} (h : As.pt a o ∈ l) : a ∈ ads l := List.mem_flatMap.mpr ⟨_, h, List.mem_singleton.mpr rfl⟩
theorem Put.old {l l' : List As} {a : Addr} {o o' : HO} (p : Put l a o o' l') (nd : (Bel.ads l).Nodup) : ∀ x ∈ l', x = .pt a o' ∨ (x ∈ l ∧ a ∉ x.ad) := by
  induction p with
  | @here l a o o' =>
    intro x hx
    rcases List.mem_cons.mp hx with e | h
    · exact .inl e
    · refine .inr ⟨.tail _ h, fun z => ?_⟩
      unfold Bel.ads at nd
      rw [List.flatMap_cons] at nd
      exact (List.nodup_append.mp nd).2.2 a (List.mem_singleton.mpr rfl) a (List.mem_flatMap.mpr ⟨x, h, z⟩) rfl
  | @there l l' y a o o' q ih =>
    intro x hx
    unfold Bel.ads at nd
    rw [List.flatMap_cons] at nd
    have nd2 := List.nodup_append.mp nd
    rcases List.mem_cons.mp hx with e | h
    · subst e
      refine .inr ⟨.head _, fun z => ?_⟩
      exact nd2.2.2 a z a (mem_ads q.mem) rfl
    · rcases ih nd2.2.1 x h with e | ⟨g, z⟩
      · exact .inl e
      · exact .inr ⟨.tail _ g, z⟩
theorem ads_sub {l l' : List As} (s : l'.Sublist l) : (ads l').Sublist (ads l) := by
  unfold ads
  induction s with
  | slnil => exact List.Sublist.refl _
  | cons y _ ih =>
    rw [List.flatMap_cons]
    exact ih.trans (List.sublist_append_right _ _)
  | cons_cons y _ ih =>
    rw [List.flatMap_cons, List.flatMap_cons]
    exact (List.Sublist.refl _).append ih
namespace Own
variable {K : PySem.W.Frag} {B H H' : Hp} {l l' : List As} {a : Addr} {o o' : HO}
theorem start : Own K H H [] := ⟨Same.refl H, List.nodup_nil, fun _ h => nomatch h⟩
theorem get (L : Own K B H l) (m : As.pt a o ∈ l) : H a = some o := (L.all _ m).1
theorem fresh (L : Own K B H l) (m : As.pt a o ∈ l) : B a = none := (L.all _ m).2
theorem imm (L : Own K B H l) {v : V} {d : PyData} (m : As.im v d ∈ l) : Imm K H v d := L.all _ m
theorem imms (L : Own K B H l) {vs : List V} {ds : List PyData} (m : As.ims vs ds ∈ l) : ImmL K H vs ds := L.all _ m
theorem sq (L : Own K B H l) {xs : List V} (h : SqL K B a xs) : SqL K H a xs := L.same.seq h
theorem sqT (L : Own K B H l) {xs : List V} (h : SqT K B a xs) : SqT K H a xs := Same.seqT L.same h
theorem base (L : Own K B H l) {o : HO} (h : B a = some o) : H a = some o := L.same _ _ h
theorem holds_same {x : As} (s : Same H H') (h : x.holds K B H) : x.holds K B H' := by
  cases x with
  | pt a o => exact ⟨s _ _ h.1, h.2⟩
  | im v d => exact Imm.mono (fun _ _ g => Same.seqT s g) h
  | ims v d => exact ImmL.mono (fun _ _ g => Same.seqT s g) h
  | objs ps => exact fun q m => ⟨s _ _ (h q m).1, (h q m).2⟩
theorem call (L : Own K B H l) (s : Same H H') : Own K B H' l := ⟨L.same.trans s, L.nd, fun x hx => holds_same s (L.all x hx)⟩
theorem add0 (L : Own K B H l) {H1 : Hp} {p : Addr} {o : HO} (s : Same H H1) (hp : H p = none) (hl : H1 p = some o) : Own K B H1 (.pt p o :: l) := by
  refine ⟨L.same.trans s, ?_, fun x hx => ?_⟩
  · refine List.nodup_append.mpr ⟨List.nodup_cons.mpr ⟨List.not_mem_nil, List.nodup_nil⟩, L.nd, fun b hb c hc e => ?_⟩
    obtain rfl := List.mem_singleton.mp hb
    subst e
    obtain ⟨x, hx, hb⟩ := List.mem_flatMap.mp hc
    cases x with
    | pt a o =>
      obtain rfl := List.mem_singleton.mp hb
      have := (L.all _ hx).1
      rw [hp] at this
      cases this
    | im _ _ => cases hb
    | ims _ _ => cases hb
    | objs ps =>
      obtain ⟨q, m, e⟩ := List.mem_map.mp hb
      have := (L.all _ hx q m).1
      rw [e, hp] at this
      cases this
  · rcases List.mem_cons.mp hx with e | h
    · rw [e]
      exact ⟨hl, L.same.free hp⟩
    · exact holds_same s (L.all x h)
theorem add (L : Own K B H l) {y : As} (h : y.holds K B H) (n : ∀ b ∈ y.ad, b ∉ ads l) (nob : ∀ ps, y = .objs ps → (ps.map Prod.fst).Nodup := by intro _ h; cases h) : Own K B H (y :: l) := by
  refine ⟨L.same, ?_, fun x hx => ?_⟩
  · unfold ads
    rw [List.flatMap_cons]
    refine List.nodup_append.mpr ⟨?_, L.nd, fun b hb c hc e => n b hb (e ▸ hc)⟩
    cases y with
    | pt a o => exact List.nodup_cons.mpr ⟨List.not_mem_nil, List.nodup_nil⟩
    | im _ _ => exact List.nodup_nil
    | ims _ _ => exact List.nodup_nil
    | objs ps => exact nob ps rfl
  · rcases List.mem_cons.mp hx with e | h'
    · rw [e]
      exact h
    · exact L.all x h'
theorem addIm (L : Own K B H l) {v : V} {d : PyData} (h : Imm K H v d) : Own K B H (.im v d :: l) := L.add h (fun _ h => nomatch h)
theorem addIms (L : Own K B H l) {vs : List V} {ds : List PyData} (h : ImmL K H vs ds) : Own K B H (.ims vs ds :: l) := L.add h (fun _ h => nomatch h)
theorem ad_some (L : Own K B H l) {b : Addr} (h : b ∈ ads l) : ∃ o, H b = some o := by
  obtain ⟨x, hx, hb⟩ := List.mem_flatMap.mp h
  cases x with
  | pt a o =>
    rw [List.mem_singleton.mp hb]
    exact ⟨o, (L.all _ hx).1⟩
  | im _ _ => cases hb
  | ims _ _ => cases hb
  | objs ps =>
    obtain ⟨q, m, e⟩ := List.mem_map.mp hb
    rw [← e]
    exact ⟨q.2, (L.all _ hx q m).1⟩
theorem ad_fresh (L : Own K B H l) {b : Addr} (h : b ∈ ads l) : B b = none := by
  obtain ⟨x, hx, hb⟩ := List.mem_flatMap.mp h
  cases x with
  | pt a o =>
    rw [List.mem_singleton.mp hb]
    exact (L.all _ hx).2
  | im _ _ => cases hb
  | ims _ _ => cases hb
  | objs ps =>
    obtain ⟨q, m, e⟩ := List.mem_map.mp hb
    rw [← e]
    exact (L.all _ hx q m).2
/-- a call that made what l' says -/
theorem calls (L : Own K B H l) (M : Own K H H' l') : Own K B H' (l' ++ l) := by
  refine ⟨L.same.trans M.same, ?_, fun x hx => ?_⟩
  · unfold ads
    rw [List.flatMap_append]
    refine List.nodup_append.mpr ⟨M.nd, L.nd, fun b hb c hc e => ?_⟩
    obtain ⟨o, h⟩ := L.ad_some (e ▸ hc : b ∈ ads l)
    rw [M.ad_fresh hb] at h
    cases h
  · rcases List.mem_append.mp hx with h | h
    · have := M.all x h
      cases x with
      | pt a o => exact ⟨this.1, L.same.free this.2⟩
      | im _ _ => exact this
      | ims _ _ => exact this
      | objs ps => exact fun q m => ⟨(this q m).1, L.same.free (this q m).2⟩
    · exact holds_same M.same (L.all x h)
theorem c0 (L : Own K B H l) (M : Own K H H' []) : Own K B H' l := L.calls M
theorem c1 {x : As} (L : Own K B H l) (M : Own K H H' [x]) : Own K B H' (x :: l) := L.calls M
theorem c2 {x y : As} (L : Own K B H l) (M : Own K H H' [x, y]) : Own K B H' (x :: y :: l) := L.calls M
theorem c3 {x y z : As} (L : Own K B H l) (M : Own K H H' [x, y, z]) : Own K B H' (x :: y :: z :: l) := L.calls M
theorem new (L : Own K B H l) {p : Addr} (h : H p = none) (o : HO) : Own K B (upd H p o) (.pt p o :: l) := by
  refine (L.call (same_upd h)).add ⟨upd_same, L.same.free h⟩ fun b hb hn => ?_
  obtain rfl := List.mem_singleton.mp hb
  obtain ⟨u, e⟩ := L.ad_some hn
  rw [h] at e
  cases e
theorem put (L : Own K B H l) (m : mutb o = true) (p : Put l a o o' l') : Own K B (upd H a o') l' := by
  have ha := L.get p.mem
  have hB := L.fresh p.mem
  refine ⟨same_put L.same hB, p.ads ▸ L.nd, fun x hx => ?_⟩
  rcases p.old L.nd x hx with e | ⟨h, n⟩
  · subst e
    exact ⟨upd_same, hB⟩
  · have q := L.all x h
    cases x with
    | pt b u =>
      refine ⟨?_, q.2⟩
      rw [upd_ne fun e => n (List.mem_singleton.mpr e.symm)]
      exact q.1
    | im _ _ => exact Imm.mono (fun _ _ g => sqT_upd ha m g) q
    | ims _ _ => exact ImmL.mono (fun _ _ g => sqT_upd ha m g) q
    | objs ps =>
      refine fun r hr => ⟨?_, (q r hr).2⟩
      rw [upd_ne fun e => n (by rw [← e]; exact List.mem_map.mpr ⟨r, hr, rfl⟩)]
      exact (q r hr).1
theorem drop1 {x : As} (L : Own K B H (x :: l)) : Own K B H l := by
  refine ⟨L.same, ?_, fun y hy => L.all y (.tail _ hy)⟩
  have := L.nd
  unfold ads at this
  rw [List.flatMap_cons] at this
  exact (List.nodup_append.mp this).2.1
theorem sub (L : Own K B H l) (s : l'.Sublist l) : Own K B H l' := by
  refine ⟨L.same, ?_, fun y hy => L.all y (s.subset hy)⟩
  exact List.Nodup.sublist (ads_sub s) L.nd
theorem perm (L : Own K B H l) (s : l.Perm l') : Own K B H l' := ⟨L.same, (s.flatMap_right _).nodup_iff.mp L.nd, fun x hx => L.all x (s.mem_iff.mpr hx)⟩
theorem rebase {B' : Hp} (L : Own K B H l) (s : Same B' B) : Own K B' H l := by
  refine ⟨s.trans L.same, L.nd, fun x hx => ?_⟩
  have q := L.all x hx
  cases x with
  | pt a o => exact ⟨q.1, s.free q.2⟩
  | im _ _ => exact q
  | ims _ _ => exact q
  | objs ps => exact fun r hr => ⟨(q r hr).1, s.free (q r hr).2⟩
end Own
/-! ### without some cells: what a call may change -/
def delL (H : Hp) (as : List Addr) : Hp := fun b => if b ∈ as then none else H b
theorem delL_in {H : Hp} {as : List Addr} {b : Addr} (h : b ∈ as) : delL H as b = none := if_pos h
theorem delL_out {H : Hp} {as : List Addr} {b : Addr} (h : b ∉ as) : delL H as b = H b := if_neg h
/-- taken out of l: the cells of l1; what stays: l0 -/
theorem Own.muts {K : PySem.W.Frag} {B H H' : Hp} {l1 l0 l' : List As} (L : Own K B H (l1 ++ l0)) (m : ∀ a o, As.pt a o ∈ l1 → mutb o = true) (M : Own K (delL H (ads l1)) H' l') (mo : ∀ ps, As.objs ps ∈ l1 → ∀ q ∈ ps, mutb q.2 = true := by intro ps h; exact absurd h (by simp)) : Own K B H' (l' ++ l0) := by
  have nd := L.nd
  unfold ads at nd
  rw [List.flatMap_append] at nd
  have nd := List.nodup_append.mp nd
  have key : ∀ b o, H b = some o → b ∉ ads l1 → H' b = some o := fun b o h n => M.same b o ((delL_out n).trans h)
  have hB : Same B H' := fun b o h => by
    refine key b o (L.same b o h) fun z => ?_
    have : B b = none := L.ad_fresh (by unfold ads; rw [List.flatMap_append]; exact List.mem_append_left _ z)
    rw [h] at this
    cases this
  have hT : ∀ a xs, SqT K H a xs → SqT K H' a xs := by
    intro a xs g
    have no : ∀ o, H a = some o → mutb o = false → a ∉ ads l1 := fun o h e z => by
      obtain ⟨x, hx, hb⟩ := List.mem_flatMap.mp z
      cases x with
      | pt b u =>
        obtain rfl := List.mem_singleton.mp hb
        have := L.get (List.mem_append_left _ hx)
        rw [h] at this
        cases this
        rw [m _ _ hx] at e
        cases e
      | im _ _ => cases hb
      | ims _ _ => cases hb
      | objs ps =>
        obtain ⟨q, mq, eq⟩ := List.mem_map.mp hb
        have := (L.all _ (List.mem_append_left _ hx) q mq).1
        rw [eq, h] at this
        cases this
        rw [mo ps hx q mq] at e
        cases e
    rcases g with (g | ⟨u, g⟩) | g
    · exact .inl (.inl (key _ _ g (no _ g rfl)))
    · exact .inl (.inr ⟨u, key _ _ g (no _ g rfl)⟩)
    · exact .inr g
  refine ⟨hB, ?_, fun x hx => ?_⟩
  · unfold ads
    rw [List.flatMap_append]
    refine List.nodup_append.mpr ⟨M.nd, nd.2.1, fun b hb c hc e => ?_⟩
    subst e
    obtain ⟨o, h⟩ := L.ad_some (b := b) (by unfold ads; rw [List.flatMap_append]; exact List.mem_append_right _ hc)
    have f := M.ad_fresh hb
    by_cases z : b ∈ ads l1
    · exact nd.2.2 b z b hc rfl
    · rw [delL_out z, h] at f
      cases f
  · rcases List.mem_append.mp hx with h | h
    · have q := M.all x h
      cases x with
      | pt a o =>
        refine ⟨q.1, ?_⟩
        have f := q.2
        by_cases z : a ∈ ads l1
        · exact L.ad_fresh (by unfold ads; rw [List.flatMap_append]; exact List.mem_append_left _ z)
        · rw [delL_out z] at f
          exact L.same.free f
      | im _ _ => exact q
      | ims _ _ => exact q
      | objs ps =>
        refine fun r hr => ⟨(q r hr).1, ?_⟩
        have f := (q r hr).2
        by_cases z : r.1 ∈ ads l1
        · exact L.ad_fresh (by unfold ads; rw [List.flatMap_append]; exact List.mem_append_left _ z)
        · rw [delL_out z] at f
          exact L.same.free f
    · have q := L.all x (List.mem_append_right _ h)
      cases x with
      | pt a o =>
        refine ⟨key a o q.1 fun z => ?_, q.2⟩
        exact nd.2.2 a z a (mem_ads h) rfl
      | im _ _ => exact Imm.mono hT q
      | ims _ _ => exact ImmL.mono hT q
      | objs ps =>
        refine fun r hr => ⟨key r.1 r.2 (q r hr).1 fun z => ?_, (q r hr).2⟩
        exact nd.2.2 r.1 z r.1 (List.mem_flatMap.mpr ⟨_, h, List.mem_map.mpr ⟨r, hr, rfl⟩⟩) rfl
/-- the cells of l0 alone are changed by the def: its base is without them -/
theorem Own.enter {K : PySem.W.Frag} {B H : Hp} {l0 : List As} (L : Own K B H l0) : Own K (delL H (ads l0)) H l0 := by
  refine ⟨fun b o h => ?_, L.nd, fun x hx => ?_⟩
  · by_cases z : b ∈ ads l0
    · rw [delL_in z] at h
      cases h
    · rw [delL_out z] at h
      exact h
  · have q := L.all x hx
    cases x with
    | pt a o => exact ⟨q.1, delL_in (mem_ads hx)⟩
    | im _ _ => exact q
    | ims _ _ => exact q
    | objs ps => exact fun r hr => ⟨(q r hr).1, delL_in (List.mem_flatMap.mpr ⟨_, hx, List.mem_map.mpr ⟨r, hr, rfl⟩⟩)⟩
/-! ### steps that make and change, the heap told by what is owned -/
def NewO (H : Hp) (o : HO) (Q : VK) : Prop := ∀ p : Addr, H p = none → Q (.ref p) (upd H p o)
def AppO (H : Hp) (p : Addr) (y : V) (Q : VK) : Prop := ∃ xs, H p = some (.lst xs) ∧ xs.length < sizeLine ∧ Q .non (upd H p (.lst (xs ++ [y])))
def SetO (H : Hp) (p : Addr) (k : Int) (v : V) (QH : Hp → Prop) : Prop := ∃ xs j, H p = some (.lst xs) ∧ ixN xs.length k = some j ∧ QH (upd H p (.lst (xs.set j v)))
section
variable {K : PySem.W.Frag} {B H : Hp} {l l' : List As} {o : HO} {Q : VK} {QH : Hp → Prop} {p : Addr} {xs : List V} {y : V} {k : Int} {j : Nat}
theorem newO (L : Own K B H l) (h : ∀ p H', Own K B H' (.pt p o :: l) → Q (.ref p) H') : NewO H o Q := fun p hp => h p _ (L.new hp o)
theorem appO (L : Own K B H l) (pp : Put l p (.lst xs) (.lst (xs ++ [y])) l') (hs : xs.length < sizeLine) (h : ∀ H', Own K B H' l' → Q .non H') : AppO H p y Q := ⟨xs, L.get pp.mem, hs, h _ (L.put rfl pp)⟩
theorem setO (L : Own K B H l) (pp : Put l p (.lst xs) (.lst (xs.set k.toNat y)) l') (h0 : 0 ≤ k) (h1 : k < xs.length) (h : ∀ H', Own K B H' l' → QH H') : SetO H p k y QH := ⟨xs, _, L.get pp.mem, ixN_ok h0 h1, h _ (L.put rfl pp)⟩
theorem g_newO (h : NewO H o Q) : NewO H o Q := h
theorem g_appO (h : AppO H p y Q) : AppO H p y Q := h
theorem g_setO (h : SetO H p k y QH) : SetO H p k y QH := h
end
section
variable {K : PySem.W.Frag} {H : Hp} {Q : VK} {a b v : V} {vs : List V} {l : TA} {σ : L2.St} {lo hi : Option Int} {QH : Hp → Prop}
theorem n_tup : tTup l σ H Q = l σ H (fun xs H1 => xs.length ≤ sizeLine ∧ NewO H1 (.tup xs) Q) := rfl
theorem n_lst : tLst l σ H Q = l σ H (fun xs H1 => xs.length ≤ sizeLine ∧ NewO H1 (.lst xs) Q) := rfl
theorem n_rSlL : rSlL K a lo hi H Q = ∃ p xs, a = .ref p ∧ SqL K H p xs ∧ NewO H (.lst (cutV xs lo hi)) Q := rfl
theorem n_rCat : rCat a b H Q = ∃ l m xs zs, a = .ref l ∧ b = .ref m ∧ H l = some (.lst xs) ∧ H m = some (.lst zs) ∧ xs.length + zs.length ≤ sizeLine ∧ NewO H (.lst (xs ++ zs)) Q := rfl
theorem n_rRep : rRep a b H Q = ∃ l k xs, a = .ref l ∧ b = .int k ∧ H l = some (.lst xs) ∧ -(2 ^ 63) ≤ k ∧ k < 2 ^ 63 ∧ xs.length * k.toNat ≤ sizeLine ∧ NewO H (.lst (List.replicate k.toNat xs).flatten) Q := by first | rfl | (unfold rRep; rfl)
theorem n_rApp : rAppend a vs H Q = ∃ l y, a = .ref l ∧ vs = [y] ∧ AppO H l y Q := propext ⟨fun ⟨l, xs, y, e1, e2, h⟩ => ⟨l, y, e1, e2, xs, h⟩, fun ⟨l, y, e1, e2, xs, h⟩ => ⟨l, xs, y, e1, e2, h⟩⟩
theorem n_setL {o i' : V} : rSetL o i' v H QH = ∃ p k, o = .ref p ∧ i' = .int k ∧ SetO H p k v QH := propext ⟨fun ⟨p, xs, k, j, e1, e2, h⟩ => ⟨p, k, e1, e2, xs, j, h⟩, fun ⟨p, k, e1, e2, xs, j, h⟩ => ⟨p, xs, k, j, e1, e2, h⟩⟩
/-- list(..) -/
def rLs (K : PySem.W.Frag) (xs : List V) (H : Hp) (Q : VK) : Prop := ∃ p ys, xs = [.ref p] ∧ (SqL K H p ys ∨ SqT K H p ys) ∧ NewO H (.lst ys) Q
theorem n_rLs {xs : List V} : rLs K xs H Q = ∃ p ys, xs = [.ref p] ∧ (SqL K H p ys ∨ SqT K H p ys) ∧ NewO H (.lst ys) Q := rfl
end
theorem lsK {X : Cx} (K : PySem.W.Frag) (h : X.K = K := by rfl) : CallR X (.type "list") (rLs K) := h ▸ call_list_of
/-! comprehensions -/
def EndC (D : Addr) (N : Hp → Prop) (y : V) (H4 : Hp) : Prop := ∃ acc, H4 D = some (.lst acc) ∧ acc.length < sizeLine ∧ N (upd H4 D (.lst (acc ++ [y])))
theorem endC {K : PySem.W.Frag} {B H : Hp} {l l' : List As} {D : Addr} {N : Hp → Prop} {y : V} {acc : List V} (L : Own K B H l) (pp : Put l D (.lst acc) (.lst (acc ++ [y])) l') (hs : acc.length < sizeLine) (h : ∀ H', Own K B H' l' → N H') : ∃ acc, H D = some (.lst acc) ∧ acc.length < sizeLine ∧ N (upd H D (.lst (acc ++ [y]))) := ⟨acc, L.get pp.mem, hs, h _ (L.put rfl pp)⟩
theorem mem_here {α : Type} {x : α} {l : List α} : x ∈ x :: l := List.Mem.head _
theorem mem_there {α : Type} {x y : α} {l : List α} (h : x ∈ l) : x ∈ y :: l := List.Mem.tail _ h
/-! lists of ints -/
abbrev pI (a : Addr) (ns : List Int) : As := .pt a (.lst (ns.map V.int))
theorem appI {K : PySem.W.Frag} {B H : Hp} {l l' : List As} {Q : VK} {p : Addr} {ns : List Int} {y : Int} (L : Own K B H l) (pp : Put l p (.lst (ns.map V.int)) (.lst ((ns ++ [y]).map V.int)) l') (hs : ns.length < sizeLine) (h : ∀ H', Own K B H' l' → Q .non H') : AppO H p (.int y) Q :=
  ⟨ns.map V.int, L.get pp.mem, by rw [List.length_map]; exact hs, by
    have e : ns.map V.int ++ [V.int y] = (ns ++ [y]).map V.int := by rw [List.map_append]; rfl
    rw [e]
    exact h _ (L.put rfl pp)⟩
theorem setI {K : PySem.W.Frag} {B H : Hp} {l l' : List As} {QH : Hp → Prop} {p : Addr} {ns : List Int} {k y : Int} (L : Own K B H l) (pp : Put l p (.lst (ns.map V.int)) (.lst ((ns.set k.toNat y).map V.int)) l') (h0 : 0 ≤ k) (h1 : k < ns.length) (h : ∀ H', Own K B H' l' → QH H') : SetO H p k (.int y) QH :=
  ⟨ns.map V.int, k.toNat, L.get pp.mem, ixN_ok h0 (by rw [List.length_map]; exact h1), by
    rw [set_ints]
    exact h _ (L.put rfl pp)⟩
theorem ints_cat {xs ys : List Int} : xs.map V.int ++ ys.map V.int = (xs ++ ys).map V.int := List.map_append.symm
theorem ints_app1 {xs : List Int} {y : Int} : xs.map V.int ++ [V.int y] = (xs ++ [y]).map V.int := by rw [List.map_append]; rfl
theorem ints_len {xs : List Int} : (xs.map V.int).length = xs.length := List.length_map ..
theorem ints_take {xs : List Int} {n : Nat} : (xs.map V.int).take n = (xs.take n).map V.int := List.map_take.symm
theorem ints_drop {xs : List Int} {n : Nat} : (xs.map V.int).drop n = (xs.drop n).map V.int := List.map_drop.symm
/-! comprehensions of ints -/
/-- the end of a turn: the list goes on as ys -/
def CQ (K : PySem.W.Frag) (B : Hp) (D : Addr) (l : List As) (ys : List Int) (y : V) (H4 : Hp) : Prop := ∃ acc, H4 D = some (.lst acc) ∧ acc.length < sizeLine ∧ Own K B (upd H4 D (.lst (acc ++ [y]))) (.pt D (.lst (ys.map V.int)) :: l)
theorem cq {K : PySem.W.Frag} {B H : Hp} {D : Addr} {l : List As} {ys : List Int} {y : Int} (L : Own K B H (.pt D (.lst (ys.map V.int)) :: l)) (hn : ys.length < 100000) : CQ K B D l (ys ++ [y]) (.int y) H := by
  refine ⟨_, L.get (.head _), line_map (Nat.le_of_lt hn) (by decide), ?_⟩
  have := L.put (o' := .lst (ys.map V.int ++ [V.int y])) rfl .here
  rw [List.map_append]
  exact this
theorem g_cq {K : PySem.W.Frag} {B H : Hp} {D : Addr} {l : List As} {ys : List Int} {y : V} (h : CQ K B D l ys y H) : CQ K B D l ys y H := h
section
variable {K : PySem.W.Frag} {B H : Hp} {l : List As} {te : TE} {tA : TT} {σ : L2.St} {lo : Int} {n : Nat} {g : TG} {vs : List Nat} {Q : Addr → Hp → Prop}
/-- over a range -/
theorem compRi (f : Nat → Int) (L : Own K B H l) (hn : n < 100000)
    (hs : ∀ i D H1, i < n → Own K B H1 (.pt D (.lst ((rngL f i).map V.int)) :: l) → g (.int (lo + i)) (wipe σ vs) H1 fun σ2 H2 => wipe σ2 vs = wipe σ vs ∧ te σ2 H2 (CQ K B D l (rngL f i ++ [f i])))
    (hd : ∀ D H', Own K B H' (.pt D (.lst ((rngL f n).map V.int)) :: l) → Q D H') : ∀ D, H D = none → CompI (Itr lo n) g tYes te vs σ H D (Q D) := by
  intro D hD
  refine comp_range (fun i H' => Own K B H' (.pt D (.lst ((rngL f i).map V.int)) :: l)) (L.new hD _) (fun i H' hi h => ?_) (fun H' h => hd D H' h)
  have := hs i D H' hi h
  unfold CQ at this
  rw [← rngL_succ] at this
  exact this
/-- over a range, with a test -/
theorem compRt (f : Nat → Int) (p : Nat → Bool) (L : Own K B H l) (hn : n < 100000)
    (hs : ∀ i D H1, i < n → Own K B H1 (.pt D (.lst ((((List.range i).filter p).map f).map V.int)) :: l) → g (.int (lo + i)) (wipe σ vs) H1 fun σ2 H2 => wipe σ2 vs = wipe σ vs ∧ tA σ2 H2 fun b H3 =>
      if b = true then te σ2 H3 (CQ K B D l (((List.range (i + 1)).filter p).map f)) else Own K B H3 (.pt D (.lst ((((List.range (i + 1)).filter p).map f).map V.int)) :: l))
    (hd : ∀ D H', Own K B H' (.pt D (.lst ((((List.range n).filter p).map f).map V.int)) :: l) → Q D H') : ∀ D, H D = none → CompI (Itr lo n) g tA te vs σ H D (Q D) := by
  intro D hD
  exact comp_range (fun i H' => Own K B H' (.pt D (.lst ((((List.range i).filter p).map f).map V.int)) :: l)) (L.new hD _) (fun i H' hi h => hs i D H' hi h) (fun H' h => hd D H' h)
/-- over a list of ints -/
theorem compLi {a : Addr} {xs : List Int} (f : Int → Int) (L : Own K B H l) (hS : SqL K H a (xs.map V.int)) (hn : xs.length < 100000)
    (hs : ∀ i x D H1, xs[i]? = some x → Own K B H1 (.pt D (.lst (((xs.take i).map f).map V.int)) :: l) → g (.int x) (wipe σ vs) H1 fun σ2 H2 => wipe σ2 vs = wipe σ vs ∧ te σ2 H2 (CQ K B D l ((xs.take i).map f ++ [f x])))
    (hk : ∀ H', Own K B H' l → SqL K H' a (xs.map V.int))
    (hd : ∀ D H', Own K B H' (.pt D (.lst ((xs.map f).map V.int)) :: l) → Q D H') : ∀ D, H D = none → CompI (Itl K a) g tYes te vs σ H D (Q D) := by
  intro D hD
  refine comp_list (xs := xs.map V.int) (fun i H' => Own K B H' (.pt D (.lst (((xs.take i).map f).map V.int)) :: l)) (L.new hD _) (fun i H' _ h => hk H' h.drop1) (fun i x H' hx h => ?_) (fun H' h => ?_)
  · obtain ⟨z, hz, rfl⟩ := int_at hx
    have := hs i z D H' hz h
    unfold CQ at this
    rw [← take_map_snoc hz] at this
    exact this
  · rw [List.length_map, List.take_length] at h
    exact hd D H' h
/-- over a list of ints, with a test -/
theorem compLt {a : Addr} {xs : List Int} (f : Int → Int) (p : Int → Bool) (L : Own K B H l) (hS : SqL K H a (xs.map V.int)) (hn : xs.length < 100000)
    (hs : ∀ i x D H1, xs[i]? = some x → Own K B H1 (.pt D (.lst ((((xs.take i).filter p).map f).map V.int)) :: l) → g (.int x) (wipe σ vs) H1 fun σ2 H2 => wipe σ2 vs = wipe σ vs ∧ tA σ2 H2 fun b H3 =>
      if b = true then te σ2 H3 (CQ K B D l (((xs.take (i + 1)).filter p).map f)) else Own K B H3 (.pt D (.lst ((((xs.take (i + 1)).filter p).map f).map V.int)) :: l))
    (hk : ∀ H', Own K B H' l → SqL K H' a (xs.map V.int))
    (hd : ∀ D H', Own K B H' (.pt D (.lst (((xs.filter p).map f).map V.int)) :: l) → Q D H') : ∀ D, H D = none → CompI (Itl K a) g tA te vs σ H D (Q D) := by
  intro D hD
  refine comp_list (xs := xs.map V.int) (fun i H' => Own K B H' (.pt D (.lst ((((xs.take i).filter p).map f).map V.int)) :: l)) (L.new hD _) (fun i H' _ h => hk H' h.drop1) (fun i x H' hx h => ?_) (fun H' h => ?_)
  · obtain ⟨z, hz, rfl⟩ := int_at hx
    exact hs i z D H' hz h
  · rw [List.length_map, List.take_length] at h
    exact hd D H' h
end
/-! ranges with a step, reversed ranges -/
theorem x_irng3 {l : TA} {σ : L2.St} {H : Hp} {R : It → Hp → Prop} : iRng3 l σ H R = l σ H (fun vs H1 => ∃ (i j c : Int) (n : Nat), vs = [.int i, .int j, .int c] ∧ RgC i j c n ∧ R (Itc i c n) H1) := rfl
theorem x_irevR {tr : L2.St → Hp → (Int → Int → Hp → Prop) → Prop} {σ : L2.St} {H : Hp} {R : It → Hp → Prop} : iRevR tr σ H R = tr σ H (fun a b H1 => (-(2 ^ 62) ≤ a ∧ a < 2 ^ 62 ∧ -(2 ^ 62) ≤ b ∧ b < 2 ^ 62) ∧ R (Itc (a + (((b - a).toNat : Nat) : Int) - 1) (-1) (b - a).toNat) H1) := by
  unfold iRevR
  congr 1
  funext a b H1
  simp only [and_assoc]
theorem x_rg1 {te : TE} {σ : L2.St} {H : Hp} {Q : Int → Int → Hp → Prop} : tRg1 te σ H Q = te σ H (fun x H1 => ∃ n, x = .int n ∧ Q 0 n H1) := rfl
theorem x_rg2 {ta tb : TE} {σ : L2.St} {H : Hp} {Q : Int → Int → Hp → Prop} : tRg2 ta tb σ H Q = ta σ H (fun x H1 => tb σ H1 (fun y H2 => ∃ i j, x = .int i ∧ y = .int j ∧ Q i j H2)) := rfl
theorem rgNeg {i j : Int} {P : Nat → Prop} (h : -(2 ^ 62) ≤ i ∧ i < 2 ^ 62 ∧ -(2 ^ 62) ≤ j ∧ j < 2 ^ 62) (q : P (i - j).toNat) : ∃ n, RgC i j (-1) n ∧ P n := ⟨_, RgC.neg h.1 h.2.1 h.2.2.1 h.2.2.2, q⟩
theorem loop_rangeC {t : TS} {D : Ends} {σ : L2.St} {H : Hp} {lo c : Int} {n : Nat} {g : TG} (Pv : Nat → L2.St → Hp → Prop) (h0 : Pv 0 σ H)
    (hs : ∀ i σ H, i < n → Pv i σ H → g (.int (lo + (i : Nat) * c)) σ H fun σ2 H2 => t { D with nx := Pv (i + 1), ct := Pv (i + 1), bk := D.nx } σ2 H2) (hd : ∀ σ H, Pv n σ H → D.nx σ H) : LoopI (Itc lo c n) g t D σ H := for_rangeC Pv h0 hs hd
theorem comp_rangeC {te : TE} {tA : TT} {σ : L2.St} {H : Hp} {lo c : Int} {n : Nat} {g : TG} {vs : List Nat} {D : Addr} {Qd : Hp → Prop} (Pv : Nat → Hp → Prop) (h0 : Pv 0 (upd H D (.lst [])))
    (hs : ∀ i H, i < n → Pv i H → g (.int (lo + (i : Nat) * c)) (wipe σ vs) H fun σ2 H2 => wipe σ2 vs = wipe σ vs ∧ tA σ2 H2 fun b H3 =>
      if b = true then te σ2 H3 fun y H4 => ∃ acc, H4 D = some (.lst acc) ∧ acc.length < sizeLine ∧ Pv (i + 1) (upd H4 D (.lst (acc ++ [y]))) else Pv (i + 1) H3) (hd : ∀ H, Pv n H → Qd H) : CompI (Itc lo c n) g tA te vs σ H D Qd := by
  refine ⟨fun i left H => left = n - i ∧ i ≤ n ∧ Pv i H, ⟨n, by omega, by omega, h0⟩, ?_⟩
  rintro i left H ⟨rfl, hi, p⟩
  by_cases hlt : i < n
  · refine .inr ⟨hlt, Pv (i + 1), fun H' p' => ⟨n - (i + 1), by omega, rfl, hlt, p'⟩, fun x H' y => ?_⟩
    obtain ⟨e1, e2⟩ := y
    subst e1; subst e2
    exact hs i H' hlt p
  · obtain rfl : i = n := Nat.le_antisymm hi (by omega)
    exact .inl ⟨Nat.le_refl _, hd H p⟩
section
variable {K : PySem.W.Frag} {B H : Hp} {l : List As} {te : TE} {tA : TT} {σ : L2.St} {lo c : Int} {n : Nat} {g : TG} {vs : List Nat} {Q : Addr → Hp → Prop}
/-- over a range with a step, with a test -/
theorem compRtc (f : Nat → Int) (p : Nat → Bool) (L : Own K B H l) (hn : n < 100000)
    (hs : ∀ i D H1, i < n → Own K B H1 (pI D (((List.range i).filter p).map f) :: l) → g (.int (lo + (i : Nat) * c)) (wipe σ vs) H1 fun σ2 H2 => wipe σ2 vs = wipe σ vs ∧ tA σ2 H2 fun b H3 =>
      if b = true then te σ2 H3 (CQ K B D l (((List.range (i + 1)).filter p).map f)) else Own K B H3 (pI D (((List.range (i + 1)).filter p).map f) :: l))
    (hd : ∀ D H', Own K B H' (pI D (((List.range n).filter p).map f) :: l) → Q D H') : ∀ D, H D = none → CompI (Itc lo c n) g tA te vs σ H D (Q D) := by
  intro D hD
  exact comp_rangeC (fun i H' => Own K B H' (pI D (((List.range i).filter p).map f) :: l)) (L.new hD _) (fun i H' hi h => hs i D H' hi h) (fun H' h => hd D H' h)
end
theorem filt_snoc {f : Nat → Int} {p : Nat → Bool} {i : Nat} : ((List.range (i + 1)).filter p).map f = if p i = true then ((List.range i).filter p).map f ++ [f i] else ((List.range i).filter p).map f := by
  rw [List.range_succ, List.filter_append, List.map_append]
  by_cases h : p i = true
  · rw [if_pos h, List.filter_cons_of_pos h]
    rfl
  · rw [if_neg h, List.filter_cons_of_neg h]
    exact List.append_nil _
/-- the turn of a comprehension with a test -/
theorem ct_yes {K : PySem.W.Frag} {B H : Hp} {l : List As} {D : Addr} {f : Nat → Int} {p : Nat → Bool} {i : Nat} {y : Int} (L : Own K B H (pI D (((List.range i).filter p).map f) :: l)) (hn : i < 100000) (hp : p i = true) (hy : y = f i) : CQ K B D l (((List.range (i + 1)).filter p).map f) (.int y) H := by
  rw [filt_snoc, if_pos hp, hy]
  refine cq L ?_
  rw [List.length_map]
  have := List.length_filter_le p (List.range i)
  rw [List.length_range] at this
  omega
theorem ct_no {K : PySem.W.Frag} {B H : Hp} {l : List As} {D : Addr} {f : Nat → Int} {p : Nat → Bool} {i : Nat} (L : Own K B H (pI D (((List.range i).filter p).map f) :: l)) (hp : ¬ p i = true) : Own K B H (pI D (((List.range (i + 1)).filter p).map f) :: l) := by
  rw [filt_snoc, if_neg hp]
  exact L
theorem filtL_snoc {xs : List Int} {f : Int → Int} {p : Int → Bool} {i : Nat} {x : Int} (h : xs[i]? = some x) : ((xs.take (i + 1)).filter p).map f = if p x = true then ((xs.take i).filter p).map f ++ [f x] else ((xs.take i).filter p).map f := by
  rw [List.take_add_one, h, List.filter_append, List.map_append]
  by_cases h : p x = true
  · rw [if_pos h]
    show _ ++ (List.filter p [x]).map f = _
    rw [List.filter_cons_of_pos h]
    rfl
  · rw [if_neg h]
    show _ ++ (List.filter p [x]).map f = _
    rw [List.filter_cons_of_neg h]
    exact List.append_nil _
theorem cl_yes {K : PySem.W.Frag} {B H : Hp} {l : List As} {D : Addr} {xs : List Int} {f : Int → Int} {p : Int → Bool} {i : Nat} {x y : Int} (L : Own K B H (pI D (((xs.take i).filter p).map f) :: l)) (hx : xs[i]? = some x) (hn : xs.length < 100000) (hp : p x = true) (hy : y = f x) : CQ K B D l (((xs.take (i + 1)).filter p).map f) (.int y) H := by
  rw [filtL_snoc hx, if_pos hp, hy]
  refine cq L ?_
  rw [List.length_map]
  have := List.length_filter_le p (xs.take i)
  rw [List.length_take] at this
  omega
theorem cl_no {K : PySem.W.Frag} {B H : Hp} {l : List As} {D : Addr} {xs : List Int} {f : Int → Int} {p : Int → Bool} {i : Nat} {x : Int} (L : Own K B H (pI D (((xs.take i).filter p).map f) :: l)) (hx : xs[i]? = some x) (hp : ¬ p x = true) : Own K B H (pI D (((xs.take (i + 1)).filter p).map f) :: l) := by
  rw [filtL_snoc hx, if_neg hp]
  exact L
/-! slices -/
theorem cut_ii {xs : List V} {i j : Int} (h0 : 0 ≤ i) (h1 : 0 ≤ j) : cutV xs (some i) (some j) = (xs.drop i.toNat).take (j.toNat - i.toNat) := by
  obtain ⟨i, rfl⟩ := Int.eq_ofNat_of_zero_le h0
  obtain ⟨j, rfl⟩ := Int.eq_ofNat_of_zero_le h1
  unfold cutV
  rw [HT.sIx_nat, HT.sIx_nat, Int.toNat_natCast, Int.toNat_natCast]
  by_cases h : i ≤ xs.length
  · rw [Nat.min_eq_left h]
    by_cases k : j ≤ xs.length
    · rw [Nat.min_eq_left k]
    · rw [Nat.min_eq_right (by omega), List.take_of_length_le (by rw [List.length_drop]; omega), List.take_of_length_le (by rw [List.length_drop]; omega)]
  · rw [show min i xs.length = xs.length by omega, List.drop_of_length_le (Nat.le_refl _), List.drop_of_length_le (show xs.length ≤ i by omega), List.take_nil, List.take_nil]
theorem cut_in {xs : List V} {i : Int} (h0 : 0 ≤ i) : cutV xs (some i) none = xs.drop i.toNat := by
  obtain ⟨i, rfl⟩ := Int.eq_ofNat_of_zero_le h0
  unfold cutV
  rw [HT.sIx_nat, HT.sIx_none, Int.toNat_natCast]
  by_cases h : i ≤ xs.length
  · rw [Nat.min_eq_left h]
    exact List.take_of_length_le (by rw [List.length_drop]; exact Nat.le_refl _)
  · rw [Nat.min_eq_right (by omega), List.drop_of_length_le (Nat.le_refl _), List.drop_of_length_le (show xs.length ≤ i by omega), List.take_nil]
theorem cut_ni {xs : List V} {j : Int} (h1 : 0 ≤ j) : cutV xs none (some j) = xs.take j.toNat := by
  obtain ⟨j, rfl⟩ := Int.eq_ofNat_of_zero_le h1
  unfold cutV
  rw [HT.sIx_nat, HT.sIx_none, Int.toNat_natCast, List.drop_zero, Nat.sub_zero]
  by_cases k : j ≤ xs.length
  · rw [Nat.min_eq_left k]
  · rw [Nat.min_eq_right (by omega), List.take_of_length_le (Nat.le_refl _), List.take_of_length_le (show xs.length ≤ j by omega)]
/-! == of lists of ints -/
theorem eqd_ints {K : PySem.W.Frag} {H : Hp} {a b : Addr} {xs ys : List Int} {Q : VK} (h1 : SqL K H a (xs.map V.int)) (h2 : SqL K H b (ys.map V.int)) (q : Q (.bl (decide (xs = ys))) H) : rEqD K (.ref a) (.ref b) H Q := by
  refine eqd (dq_lst h1) (dq_lst h2) fun r e => ?_
  have : r = decide (xs = ys) := by
    rw [PyData.list.injEq, map_int_inj] at e
    by_cases c : xs = ys
    · rw [decide_eq_true c, e.mpr c]
    · rw [decide_eq_false c]
      cases r with
      | false => rfl
      | true => exact absurd (e.mp rfl) c
  rw [this]
  exact q
theorem ned_ints {K : PySem.W.Frag} {H : Hp} {a b : Addr} {xs ys : List Int} {Q : VK} (h1 : SqL K H a (xs.map V.int)) (h2 : SqL K H b (ys.map V.int)) (q : Q (.bl (!decide (xs = ys))) H) : rNeD K (.ref a) (.ref b) H Q := by
  refine ned (dq_lst h1) (dq_lst h2) fun r e => ?_
  have : r = decide (xs = ys) := by
    rw [PyData.list.injEq, map_int_inj] at e
    by_cases c : xs = ys
    · rw [decide_eq_true c, e.mpr c]
    · rw [decide_eq_false c]
      cases r with
      | false => rfl
      | true => exact absurd (e.mp rfl) c
  rw [this]
  exact q
theorem ite_d {A B p : Prop} {_ : Decidable p} (h1 : p → A) (h2 : ¬ p → B) : if decide p = true then A else B := by
  by_cases c : p
  · rw [if_pos (decide_eq_true c)]
    exact h1 c
  · rw [if_neg (by rw [decide_eq_false c]; decide)]
    exact h2 c
theorem ite_nd {A B p : Prop} {_ : Decidable p} (h1 : ¬ p → A) (h2 : p → B) : if (!decide p) = true then A else B := by
  by_cases c : p
  · rw [if_neg (by rw [decide_eq_true c]; decide)]
    exact h2 c
  · rw [if_pos (by rw [decide_eq_false c]; rfl)]
    exact h1 c
/-! tuples of ints -/
def tupI (ns : List Int) : HO := .tup (ns.map V.int)
theorem t_i1 {x : Int} : HO.tup [.int x] = tupI [x] := rfl
theorem t_i2 {x y : Int} : HO.tup [.int x, .int y] = tupI [x, y] := rfl
theorem t_i3 {x y z : Int} : HO.tup [.int x, .int y, .int z] = tupI [x, y, z] := rfl
theorem t_i4 {x y z u : Int} : HO.tup [.int x, .int y, .int z, .int u] = tupI [x, y, z, u] := rfl
theorem t_i5 {x y z u v : Int} : HO.tup [.int x, .int y, .int z, .int u, .int v] = tupI [x, y, z, u, v] := rfl
abbrev pT (a : Addr) (ns : List Int) : As := .pt a (tupI ns)
theorem sqT_tupI {K : PySem.W.Frag} {H : Hp} {p : Addr} {ns : List Int} (h : H p = some (tupI ns)) : SqT K H p (ns.map V.int) := SqT.of h
theorem Own.imT {K : PySem.W.Frag} {B H : Hp} {l : List As} {p : Addr} {ns : List Int} (L : Own K B H l) (m : As.im (.ref p) (tI ns) ∈ l) : SqT K H p (ns.map V.int) := by
  obtain ⟨a, e, h⟩ := Imm.of_ints (L.imm m)
  cases e
  exact h
theorem Own.imI {K : PySem.W.Frag} {B H : Hp} {l : List As} {p : Addr} {ns : List Int} (L : Own K B H l) (m : As.pt p (tupI ns) ∈ l) : Imm K H (.ref p) (tI ns) := Imm.of_is (SqT.of (L.get m))
section
variable {K : PySem.W.Frag} {H : Hp} {a b : Addr} {xs ys : List Int} {Q : VK}
theorem eqdT_ints (h1 : SqT K H a (xs.map V.int)) (h2 : SqT K H b (ys.map V.int)) (q : Q (.bl (decide (xs = ys))) H) : rEqD K (.ref a) (.ref b) H Q := by
  refine eqd (dq_tup h1) (dq_tup h2) fun r e => ?_
  have : r = decide (xs = ys) := by
    rw [PyData.tuple.injEq, map_int_inj] at e
    by_cases c : xs = ys
    · rw [decide_eq_true c, e.mpr c]
    · rw [decide_eq_false c]
      cases r with
      | false => rfl
      | true => exact absurd (e.mp rfl) c
  rw [this]
  exact q
theorem nedT_ints (h1 : SqT K H a (xs.map V.int)) (h2 : SqT K H b (ys.map V.int)) (q : Q (.bl (!decide (xs = ys))) H) : rNeD K (.ref a) (.ref b) H Q := by
  refine ned (dq_tup h1) (dq_tup h2) fun r e => ?_
  have : r = decide (xs = ys) := by
    rw [PyData.tuple.injEq, map_int_inj] at e
    by_cases c : xs = ys
    · rw [decide_eq_true c, e.mpr c]
    · rw [decide_eq_false c]
      cases r with
      | false => rfl
      | true => exact absurd (e.mp rfl) c
  rw [this]
  exact q
/-! isinstance of what is read -/
theorem isi_sqT {c : String} {r : Bool} {vs : List V} (h : kitB "tuple" c = some r) (hl : SqT K H a vs) (q : Q (.bl r) H) : rIsi K [.ref a, .ty c] H Q := by
  rcases hl with (g | ⟨o, g⟩) | ⟨o, its, n, g, c1, _⟩
  · exact ⟨_, _, _, _, r, rfl, .ty c, .base (.tup g), kit_ty h, q⟩
  · exact ⟨_, _, _, _, r, rfl, .ty c, .fTuple g, kit_ty h, q⟩
  · exact ⟨_, _, _, _, r, rfl, .ty c, .kTuple g c1, kit_ty h, q⟩
theorem isi_sqL {c : String} {r : Bool} {vs : List V} (h : kitB "list" c = some r) (hl : SqL K H a vs) (q : Q (.bl r) H) : rIsi K [.ref a, .ty c] H Q := by
  rcases hl with (g | ⟨o, g⟩) | ⟨o, its, n, g, c1, _⟩
  · exact ⟨_, _, _, _, r, rfl, .ty c, .base (.lst g), kit_ty h, q⟩
  · exact ⟨_, _, _, _, r, rfl, .ty c, .base (.frz g), kit_ty h, q⟩
  · exact ⟨_, _, _, _, r, rfl, .ty c, .kList g c1, kit_ty h, q⟩
theorem isi_non {c : String} {r : Bool} (h : kitB "NoneType" c = some r) (q : Q (.bl r) H) : rIsi K [.non, .ty c] H Q := ⟨_, _, _, _, r, rfl, .ty c, .base .non, kit_ty h, q⟩
theorem isi_bl {c : String} {r x : Bool} (h : kitB "bool" c = some r) (q : Q (.bl r) H) : rIsi K [.bl x, .ty c] H Q := ⟨_, _, _, _, r, rfl, .ty c, .base (.bl x), kit_ty h, q⟩
theorem isi_str {c : String} {r : Bool} {x : Str} (h : kitB "str" c = some r) (q : Q (.bl r) H) : rIsi K [.str x, .ty c] H Q := ⟨_, _, _, _, r, rfl, .ty c, .base (.str x), kit_ty h, q⟩
end
theorem g_sum {K : PySem.W.Frag} {H : Hp} {vs : List V} {Q : VK} (h : rSum K vs H Q) : rSum K vs H Q := h
theorem sum_call {K : PySem.W.Frag} {H : Hp} {a : Addr} {ns : List Int} {Q : VK} (h : SqL K H a (ns.map V.int)) (q : Q (.int ns.sum) H) : rSum K [.ref a] H Q := ⟨a, ns, rfl, h, q⟩
/-! an error caught: its dict is what is new -/
theorem caught {K : PySem.W.Frag} {B H H' : Hp} {l : List As} {d : Addr} {n : Int} {C : Value} {P : Hp → Prop} (L : Own K B H l) (s : Same H H') (hd : H' d = none) (h : ∀ G, Own K B G (.pt d (.xd [("at", .int n)]) :: l) → P G) : P (upd H' d (.xd [("at", .int n)])) := h _ ((L.call s).new hd _)
theorem maxK {X : Cx} (K : PySem.W.Frag) (hc : X.calm = true) (h : X.K = K := by rfl) : CallR X (.builtin "max") (rMax K) := h ▸ cr_max hc
theorem minK {X : Cx} (K : PySem.W.Frag) (hc : X.calm = true) (h : X.K = K := by rfl) : CallR X (.builtin "min") (rMin K) := h ▸ cr_min hc
theorem g_max {K : PySem.W.Frag} {H : Hp} {vs : List V} {Q : VK} (h : rMax K vs H Q) : rMax K vs H Q := h
theorem max_call {K : PySem.W.Frag} {H : Hp} {a : Addr} {ns : List Int} {Q : VK} (h : SqL K H a (ns.map V.int)) (n : 0 < ns.length) (q : ∀ m, m ∈ ns → (∀ y, y ∈ ns → y ≤ m) → Q (.int m) H) : rMax K [.ref a] H Q := ⟨a, ns, rfl, h, n, q⟩
theorem and_low (a k : Nat) : Builtin.bitAnd (a : Int) (2 ^ k - 1) = ((a % 2 ^ k : Nat) : Int) := by
  have e : ((2 : Int) ^ k - 1) = ((2 ^ k - 1 : Nat) : Int) := by
    have := Nat.two_pow_pos k
    rw [Int.natCast_sub (by omega), Int.natCast_pow]
    rfl
  rw [e]
  show ((a &&& (2 ^ k - 1) : Nat) : Int) = _
  rw [Nat.and_two_pow_sub_one_eq_mod]
theorem and255 {x : Int} (h : 0 ≤ x) : Builtin.bitAnd x 255 = x % 256 := by
  obtain ⟨a, rfl⟩ := Int.eq_ofNat_of_zero_le h
  exact and_low a 8
theorem and1 {x : Int} (h : 0 ≤ x) : Builtin.bitAnd x 1 = x % 2 := by
  obtain ⟨a, rfl⟩ := Int.eq_ofNat_of_zero_le h
  exact and_low a 1
theorem andK {x : Int} (h : 0 ≤ x) (k : Nat) : Builtin.bitAnd x (2 ^ k - 1) = x % 2 ^ k := by
  obtain ⟨a, rfl⟩ := Int.eq_ofNat_of_zero_le h
  rw [and_low a k, Int.natCast_emod, Int.natCast_pow]
  rfl
/-! a < b < c < d -/
def tChain3 (r r' r'' : R2) (ta tb tc td : TE) : TT := fun σ H Q => ta σ H fun x H1 => tb σ H1 fun y H2 => r x y H2 fun z H3 => ∃ k, z = .bl k ∧
  (if k = true then tc σ H3 fun u H4 => r' y u H4 fun z' H5 => ∃ k', z' = .bl k' ∧ (if k' = true then td σ H5 fun u' H6 => r'' u u' H6 fun z'' H7 => ∃ k'', z'' = .bl k'' ∧ Q k'' H7 else Q false H5) else Q false H3)
theorem pt_chain3 {X : Cx} {o1 o2 o3 : CmpOp} {r r' r'' : R2} {a b c d : Expr} {ta tb tc td : TE} {pos : Pos} (h1 : OpR X (compareOp o1) r) (h2 : OpR X (compareOp o2) r') (h3 : OpR X (compareOp o3) r'') (ha : PE X a ta) (hb : PE X b tb) (hc : PE X c tc) (hd : PE X d td)
    (marks : lastMarks [o1, o2, o3] [b, c, d] = false := by with_unfolding_all rfl) : PT X (.Compare a [o1, o2, o3] [b, c, d] pos) (tChain3 r r' r'' ta tb tc td) := by
  refine ⟨fun pn sh st Hs Qv hin hq => isTrue_chain (thn (ha.run pn sh st Hs _ hin hq) fun va s1 ha1 => ?_) marks⟩
  obtain ⟨x, G1, in1, r1, q1⟩ := ha1
  refine test_link (thn (hb.run pn s1 st G1 _ in1 q1) fun vb s2 hb1 => ?_)
  obtain ⟨y, G2, in2, r2, q2⟩ := hb1
  refine thn (h1 pn s2 st G2 x y va vb _ in2 r1 r2 q2) fun vt s3 ht => ?_
  obtain ⟨z, G3, in3, r3, k, e, q3⟩ := ht
  subst e
  cases r3
  refine wpAny_truthy_bool ?_
  cases k with
  | false => exact ite_ff ⟨G3, in3, q3⟩
  | true =>
    refine ite_tt (test_link (thn (hc.run pn s3 st G3 _ in3 q3) fun vc s4 hc1 => ?_))
    obtain ⟨u, G4, in4, r4, q4⟩ := hc1
    refine thn (h2 pn s4 st G4 y u vb vc _ in4 r2 r4 q4) fun vt s5 ht => ?_
    obtain ⟨z', G5, in5, r5, k', e, q5⟩ := ht
    subst e
    cases r5
    refine wpAny_truthy_bool ?_
    cases k' with
    | false => exact ite_ff ⟨G5, in5, q5⟩
    | true =>
      refine ite_tt (test_last (thn (hd.run pn s5 st G5 _ in5 q5) fun vd s6 hd1 => ?_))
      obtain ⟨u', G6, in6, r6, q6⟩ := hd1
      refine thn (h3 pn s6 st G6 u u' vc vd _ in6 r4 r6 q6) fun vt s7 ht => ?_
      obtain ⟨z'', G7, in7, r7, k'', e, q7⟩ := ht
      subst e
      cases r7
      exact wpAny_truthy_bool ⟨G7, in7, q7⟩
theorem x_chain3 {r r' r'' : R2} {ta tb tc td : TE} {σ : L2.St} {H : Hp} {Q : Bool → Hp → Prop} : tChain3 r r' r'' ta tb tc td σ H Q = ta σ H (fun x H1 => tb σ H1 (fun y H2 => r x y H2 (fun z H3 => ∃ k, z = .bl k ∧
  SelT k (fun σ' H' Q' => tc σ' H' (fun u H4 => r' y u H4 (fun z' H5 => ∃ k', z' = .bl k' ∧ SelT k' (fun σ'' H'' Q'' => td σ'' H'' (fun u' H6 => r'' u u' H6 (fun z'' H7 => ∃ k'', z'' = .bl k'' ∧ Q'' k'' H7))) (tK false) σ' H5 Q'))) (tK false) σ H3 Q))) := by
  unfold tChain3
  congr 1
  funext x H1
  congr 1
  funext y H2
  congr 1
  funext z H3
  congr 1
  funext k
  cases k with
  | false => rfl
  | true =>
    refine congrArg (z = V.bl true ∧ ·) ?_
    show tc σ H3 _ = tc σ H3 _
    congr 1
    funext u H4
    congr 1
    funext z' H5
    congr 1
    funext k'
    cases k' <;> rfl
theorem sel_nd {t u : TS} {D : Ends} {σ : L2.St} {H : Hp} {p : Prop} {_ : Decidable p} (h1 : ¬ p → t D σ H) (h2 : p → u D σ H) : Sel (!decide p) t u D σ H := by
  by_cases c : p
  · rw [decide_eq_true c]
    exact h2 c
  · rw [decide_eq_false c]
    exact h1 c
/-! a text and an int -/
def tupS (s : Str) (n : Int) : HO := .tup [.str s, .int n]
theorem t_s1 {s : Str} {n : Int} : HO.tup [.str s, .int n] = tupS s n := rfl
theorem sqT_tupS {K : PySem.W.Frag} {H : Hp} {p : Addr} {s : Str} {n : Int} (h : H p = some (tupS s n)) : SqT K H p [.str s, .int n] := SqT.of h
theorem dq_tupS {K : PySem.W.Frag} {H : Hp} {p : Addr} {s : Str} {n : Int} (h : SqT K H p [.str s, .int n]) (l : (PyData.str s).canLay0 = true) : Dq K H (.ref p) (.tuple [.str s, .int n]) :=
  ⟨.tup h (.cons (.str s) (.cons (.int n) .nil)), by simp [plain, plainAl, l], by simp [PyData.depth, PyData.depthAll]⟩
end Bel

namespace Bel
open PySem PySem.Spec PyProof.Rows L2
/-! ### classes: what the text must say of one, and its methods -/
structure ClsF (K : PySem.W.Frag) (C : Str) (fs : List Str) : Prop where
  cl : Cls K (He.ga K C)
  na : ∀ f ∈ fs, NoAttr K (He.ga K C) f
structure Mth (P : Program) (w : World) (K : PySem.W.Frag) (base : Heap) (mg : Str → Option Value) (k : Nat) (C m : Str) (ps : List Str) (sp : Sp) (dvs : List V) : Prop where
  ex : ∃ (fd : FuncData) (ds : List Value), FnOk P w K mg base (L2N.CX P w) k (He.ma K (He.ga K C) m) fd ps sp ∧ Meth K (He.ga K C) m (He.ma K (He.ga K C) m) ∧ Cls K (He.ga K C) ∧ Binds K fd ps ds ∧ Vals dvs ds
structure Mkr (P : Program) (w : World) (K : PySem.W.Frag) (base : Heap) (mg : Str → Option Value) (k : Nat) (C : Str) (ps : List Str) (sp : Sp) (dvs : List V) : Prop where
  ex : ∃ (fd : FuncData) (ds : List Value), FnOk P w K mg base (L2N.CX P w) k (He.ma K (He.ga K C) "__init__") fd ps sp ∧ Mk K (He.ga K C) (He.ma K (He.ga K C) "__init__") ∧ mg C = some (.ref (He.ga K C)) ∧ Binds K fd ps ds ∧ Vals dvs ds
/-- o.m(..), what is raised taken by W -/
def tMW (C : Addr) (m : Str) (sp : Sp) (dvs : List V) (W : WX) (ta : TE) (t : TA) : TE := fun σ H Q => ta σ H fun x H1 => ∃ a dx fs, x = .ref a ∧ H1 a = some (.ins C dx fs) ∧ fs.lookup m = none ∧ t σ H1 fun vs H2 => sp (x :: (vs ++ dvs)) H2 Q (WE W σ)
/-- C(..), what is raised taken by W -/
def tKW (C : Addr) (sp : Sp) (dvs : List V) (W : WX) (t : TA) : TE := fun σ H Q => t σ H fun vs H1 => ∀ x dx, H1 x = none → H1 dx = none → dx ≠ x → sp (.ref x :: (vs ++ dvs)) (upd (upd H1 dx (.own x)) x (.ins C dx [])) (fun v H2 => v = .non ∧ Q (.ref x) H2) (WE W σ)
section
variable {X : Cx} {K : PySem.W.Frag} {k : Nat} {C m : Str} {ps : List Str} {sp : Sp} {dvs : List V} {p apos pos : Pos} {o e : Expr} {es : List Expr} {ta : TE} {t : TA} {W : WX} {pl : Sem Bool}
theorem pe_mt (c : Mth X.prog X.w K X.base X.mg k C m ps sp dvs) (hr : Room k X.A) (ho : PE X o ta) (ha : PA X (e :: es) t)
    (h1 : starEach (e :: es) X.env = (false, eval e X.env) :: starEach es X.env := by rfl) (h2 : (backTo pos (starEach es X.env)).any (·.1) = false := by rfl)
    (h3 : eval (.Call (.Attribute o m apos) (e :: es) [] pos) X.env = (do
      let ov ← eval o X.env
      standAt apos.atName
      let (f, first) ← holding [ov] (getMethod ov m pl)
      callWith pos f first (backTo pos (starEach (e :: es) X.env)) (backToKw pos (keywordEach [] X.env))) := by rfl) (hK : X.K = K := by rfl) :
    PE X (.Call (.Attribute o m apos) (e :: es) [] pos) (tMeth (He.ga K C) m sp dvs E0 ta t) := by
  subst hK
  obtain ⟨fd, ds, F, me, cl, hb, hd⟩ := c.ex
  exact pe_meth ho cl me F hr hb hd passN ha h1 h2 h3
theorem pe_mt0 (c : Mth X.prog X.w K X.base X.mg k C m ps sp dvs) (hr : Room k X.A) (ho : PE X o ta)
    (h3 : eval (.Call (.Attribute o m apos) [] [] pos) X.env = (do
      let ov ← eval o X.env
      standAt apos.atName
      let (f, first) ← holding [ov] (getMethod ov m pl)
      callWith pos f first (backTo pos (starEach [] X.env)) (backToKw pos (keywordEach [] X.env))) := by rfl) (hK : X.K = K := by rfl) :
    PE X (.Call (.Attribute o m apos) [] [] pos) (tMeth (He.ga K C) m sp dvs E0 ta tNil) := by
  subst hK
  obtain ⟨fd, ds, F, me, cl, hb, hd⟩ := c.ex
  exact pe_meth0 ho cl me F hr hb hd passN h3
theorem pe_mtS (c : Mth X.prog X.w K X.base X.mg k C m ps sp dvs) (hr : Room k X.A) (tk : L2N.Takes X W) (ho : PE X o ta) (ha : PA X (e :: es) t)
    (h1 : starEach (e :: es) X.env = (false, eval e X.env) :: starEach es X.env := by rfl) (h2 : (backTo pos (starEach es X.env)).any (·.1) = false := by rfl)
    (h3 : eval (.Call (.Attribute o m apos) (e :: es) [] pos) X.env = (do
      let ov ← eval o X.env
      standAt apos.atName
      let (f, first) ← holding [ov] (getMethod ov m pl)
      callWith pos f first (backTo pos (starEach (e :: es) X.env)) (backToKw pos (keywordEach [] X.env))) := by rfl) (hK : X.K = K := by rfl) :
    PE X (.Call (.Attribute o m apos) (e :: es) [] pos) (tMW (He.ga K C) m sp dvs W ta t) := by
  subst hK
  obtain ⟨fd, dl, ok, me, cl, hb, hd⟩ := c.ex
  refine ⟨fun pn sh st Hs Qv hin hq => PySem.W.methodCall_KW (pl := pl) (thn (ho.run pn sh st Hs _ hin hq) fun ov sh1 hx => ?_) h3⟩
  obtain ⟨x, G, in1, rx, a, dx, fs, ex, at_, no, hq2⟩ := hx
  subst ex
  cases rx
  refine getmeth_ok in1 at_ cl me no (PySem.W.callWith_K (first := [.ref a]) (h₀ := X.base) in1.ok.mod.kin me.kp (thn (ha.run pos pn sh1 st G _ in1 hq2) fun us sh2 hy => ?_) h1 h2)
  obtain ⟨av, G2, in2, rel, pr⟩ := hy
  exact ⟨in2.kIn, run_fnD (args := .ref a :: us) (av := .ref a :: av) hr in2 (.cons rfl rel) hd ok hb (L2N.passAt tk st) pr⟩
theorem pe_mtS0 (c : Mth X.prog X.w K X.base X.mg k C m ps sp dvs) (hr : Room k X.A) (tk : L2N.Takes X W) (ho : PE X o ta)
    (h3 : eval (.Call (.Attribute o m apos) [] [] pos) X.env = (do
      let ov ← eval o X.env
      standAt apos.atName
      let (f, first) ← holding [ov] (getMethod ov m pl)
      callWith pos f first (backTo pos (starEach [] X.env)) (backToKw pos (keywordEach [] X.env))) := by rfl) (hK : X.K = K := by rfl) :
    PE X (.Call (.Attribute o m apos) [] [] pos) (tMW (He.ga K C) m sp dvs W ta tNil) := by
  subst hK
  obtain ⟨fd, dl, ok, me, cl, hb, hd⟩ := c.ex
  refine ⟨fun pn sh st Hs Qv hin hq => PySem.W.methodCall_KW (pl := pl) (thn (ho.run pn sh st Hs _ hin hq) fun ov sh1 hx => ?_) h3⟩
  obtain ⟨x, G, in1, rx, a, dx, fs, ex, at_, no, pr⟩ := hx
  subst ex
  cases rx
  exact getmeth_ok in1 at_ cl me no (PySem.W.callWith_K0 (first := [.ref a]) in1.kIn me.kp (run_fnD (args := [.ref a]) (av := [.ref a]) hr in1 (.cons rfl .nil) hd ok hb (L2N.passAt tk st) pr))
theorem pe_mk (c : Mkr X.prog X.w K X.base X.mg k C ps sp dvs) (hr : Room (k + 1) X.A) (hg : Gl X C) (ha : PA X (e :: es) t)
    (hdb : (C == ("__debug__" : Str)) = false := by decide) (h1 : starEach (e :: es) X.env = (false, eval e X.env) :: starEach es X.env := by rfl) (h2 : (backTo pos (starEach es X.env)).any (·.1) = false := by rfl) (hK : X.K = K := by rfl) :
    PE X (.Call (.Name C p) (e :: es) [] pos) (tMake (He.ga K C) sp dvs E0 t) := by
  subst hK
  obtain ⟨fd, ds, F, mk, hm, hb, hd⟩ := c.ex
  exact pe_make mk F hr hg hm hb hd passN ha hdb h1 h2
theorem pe_mk0 (c : Mkr X.prog X.w K X.base X.mg k C ps sp dvs) (hr : Room (k + 1) X.A) (hg : Gl X C) (hdb : (C == ("__debug__" : Str)) = false := by decide) (hK : X.K = K := by rfl) :
    PE X (.Call (.Name C p) [] [] pos) (tMake (He.ga K C) sp dvs E0 tNil) := by
  subst hK
  obtain ⟨fd, ds, F, mk, hm, hb, hd⟩ := c.ex
  exact pe_make0 mk F hr hg hm hb hd passN hdb
theorem run_mkW {f C : Addr} {fd : FuncData} {dl : List Value} {Ex : XK} {pn : List (Addr × Obj)} {st : L2.St} {Hs : Hp} {sh : Shared} {Qv : VK} {args : List Value} {av : List V} (mk : Mk X.K C f) (hr : Room (k + 1) X.A) (hin : Inv X pn st Hs sh) (rel : Vals av args) (hd : Vals dvs dl)
    (ok : FnOk X.prog X.w X.K X.mg X.base (L2N.CX X.prog X.w) k f fd ps sp) (hb : Binds X.K fd ps dl) (out : PassesAt (L2N.CX X.prog X.w) X st Ex)
    (h : ∀ x dx, Hs x = none → Hs dx = none → dx ≠ x → sp (.ref x :: (av ++ dvs)) (upd (upd Hs dx (.own x)) x (.ins C dx [])) (fun v H2 => v = .non ∧ Qv (.ref x) H2) Ex) :
    wpAny (model X.prog X.w) X.A (call (.ref C) args) (EP X pn st Qv) X.xe sh := by
  have hq := h (sh.heap.objs.size + 1) sh.heap.objs.size (hin.hok.fresh (Nat.le_succ _)) (hin.hok.fresh (Nat.le_refl _)) (Nat.ne_of_lt (Nat.lt_succ_self _))
  have born := Inv.made (C := C) hin
  have rel2 : Vals (V.ref (sh.heap.objs.size + 1) :: (av ++ dvs)) (Value.ref (sh.heap.objs.size + 1) :: (args ++ dl)) := .cons rfl (rel.append hd)
  have size : (Value.ref (sh.heap.objs.size + 1) :: args ++ dl).length = ps.length := rel2.length.symm.trans (ok.len _ _ _ _ hq)
  refine wpAny_call (make_map (f := f) hin.kIn mk.makes mk.init (beq_iff_eq.mp mk.fn) (codeAny_mono (ok.run _ X.stack _ _ ⟨Value.ref (sh.heap.objs.size + 1) :: args, []⟩ (Value.ref (sh.heap.objs.size + 1) :: (args ++ dl)) _ _ Ex (hr.make C args [])
    (born.env0.make C args []) (hb _ (Value.ref (sh.heap.objs.size + 1) :: args) born.kIn size) rel2 hq) fun res sh2 fin => ?_))
  rcases res with er | fl
  · exact out pn _ _ er sh2 born fin
  · cases fl with
    | ret u =>
      obtain ⟨v, H', in3, rv, ev, q3⟩ := born.after fin
      subst ev
      exact ⟨rv, ⟨V.ref (sh.heap.objs.size + 1), H', in3, rfl, q3⟩⟩
    | next => exact fin.elim
    | brk => exact fin.elim
    | cont => exact fin.elim
theorem pe_mkS (c : Mkr X.prog X.w K X.base X.mg k C ps sp dvs) (hr : Room (k + 1) X.A) (tk : L2N.Takes X W) (hg : Gl X C) (ha : PA X (e :: es) t)
    (hdb : (C == ("__debug__" : Str)) = false := by decide) (h1 : starEach (e :: es) X.env = (false, eval e X.env) :: starEach es X.env := by rfl) (h2 : (backTo pos (starEach es X.env)).any (·.1) = false := by rfl) (hK : X.K = K := by rfl) :
    PE X (.Call (.Name C p) (e :: es) [] pos) (tKW (He.ga K C) sp dvs W t) := by
  subst hK
  obtain ⟨fd, dl, ok, mk, hm, hb, hd⟩ := c.ex
  refine ⟨fun pn sh st Hs Qv hin hq => wpAny_Call_Name_kw (ld_glob hin hg hm ?_ hdb)⟩
  refine PySem.W.callWith_K (h₀ := X.base) hin.ok.mod.kin mk.kp (thn (ha.run pos pn sh st Hs _ hin hq) fun us sh1 hy => ?_) h1 h2
  obtain ⟨av, G, in1, rel, pr⟩ := hy
  exact ⟨in1.kIn, run_mkW mk hr in1 rel hd ok hb (L2N.passAt tk st) pr⟩
end
theorem in_of {X : Cx} {op : Operator} {t : TIp} (h : PIp X op t) : InOp X op t := fun pn s σ H x y u v Q I r1 r2 z => h pn s σ H x y u v Q I r1 r2 z
/-! ### readings -/
def FldO (K : PySem.W.Frag) (H : Hp) (a : Addr) (f : Str) (Q : VK) : Prop := ∃ C dx fs v, H a = some (.ins C dx fs) ∧ Cls K C ∧ NoAttr K C f ∧ fs.lookup f = some v ∧ Q v H
def FldC (K : PySem.W.Frag) (H : Hp) (a : Addr) (f : Str) (R : Addr → V → Prop) : Prop := ∃ C dx fs v, H a = some (.ins C dx fs) ∧ Cls K C ∧ NoAttr K C f ∧ fs.lookup f = some v ∧ R C v
def PutC (H : Hp) (a C : Addr) (f : Str) (y : V) (QH : Hp → Prop) : Prop := ∃ dx fs, H a = some (.ins C dx fs) ∧ fs.length < 1000 ∧ QH (upd H a (.ins C dx (putF f y fs)))
def StoO (K : PySem.W.Frag) (H : Hp) (a : Addr) (f : Str) (y : V) (QH : Hp → Prop) : Prop := ∃ C dx fs, H a = some (.ins C dx fs) ∧ Cls K C ∧ NoAttr K C f ∧ fs.length < 1000 ∧ QH (upd H a (.ins C dx (putF f y fs)))
def MetO (H : Hp) (a C : Addr) (m : Str) (P : Prop) : Prop := ∃ dx fs, H a = some (.ins C dx fs) ∧ fs.lookup m = none ∧ P
def MakO (H : Hp) (C : Addr) (P : Addr → Hp → Prop) : Prop := ∀ x dx, H x = none → H dx = none → dx ≠ x → P x (upd (upd H dx (.own x)) x (.ins C dx []))
section
variable {K : PySem.W.Frag} {ta tv : TE} {t : TA} {f m : Str} {σ : L2.St} {H : Hp} {Q : VK} {D : Ends} {C : Addr} {sp : Sp} {dvs : List V} {E : XK} {W : WX} {rd : V → V → Hp → VK → Prop}
theorem n_fld : tFld K ta f σ H Q = ta σ H (fun x H1 => ∃ a, x = .ref a ∧ FldO K H1 a f Q) := by
  unfold tFld FldO
  congr 1
  funext x H1
  refine propext ⟨fun ⟨a, C, dx, fs, v, e1, h⟩ => ⟨a, e1, C, dx, fs, v, h⟩, fun ⟨a, e1, C, dx, fs, v, h⟩ => ⟨a, C, dx, fs, v, e1, h⟩⟩
theorem n_sfld : sFld K ta tv f D σ H = tv σ H (fun y H1 => ta σ H1 (fun x H2 => ∃ a, x = .ref a ∧ StoO K H2 a f y (fun H' => D.nx σ H'))) := by
  unfold sFld StoO
  congr 1
  funext y H1
  congr 1
  funext x H2
  refine propext ⟨fun ⟨a, C, dx, fs, e1, h⟩ => ⟨a, e1, C, dx, fs, h⟩, fun ⟨a, e1, C, dx, fs, h⟩ => ⟨a, C, dx, fs, e1, h⟩⟩
theorem n_aug : sFldAug K ta tv rd f D σ H = ta σ H (fun x H1 => ∃ a, x = .ref a ∧ FldC K H1 a f (fun C v => tv σ H1 (fun y H2 => rd v y H2 (fun z H3 => PutC H3 a C f z (fun H' => D.nx σ H'))))) := by
  unfold sFldAug FldC PutC
  congr 1
  funext x H1
  refine propext ⟨fun ⟨a, C, dx, fs, v, e1, h⟩ => ⟨a, e1, C, dx, fs, v, h⟩, fun ⟨a, e1, C, dx, fs, v, h⟩ => ⟨a, C, dx, fs, v, e1, h⟩⟩
theorem n_meth : tMeth C m sp dvs E ta t σ H Q = ta σ H (fun x H1 => ∃ a, x = .ref a ∧ MetO H1 a C m (t σ H1 (fun vs H2 => sp (x :: (vs ++ dvs)) H2 Q E))) := by
  unfold tMeth MetO
  congr 1
  funext x H1
  refine propext ⟨fun ⟨a, dx, fs, e1, e2, e3, h⟩ => ⟨a, e1, dx, fs, e2, e3, h⟩, fun ⟨a, e1, dx, fs, e2, e3, h⟩ => ⟨a, dx, fs, e1, e2, e3, h⟩⟩
theorem n_mw : tMW C m sp dvs W ta t σ H Q = ta σ H (fun x H1 => ∃ a, x = .ref a ∧ MetO H1 a C m (t σ H1 (fun vs H2 => sp (x :: (vs ++ dvs)) H2 Q (WE W σ)))) := by
  unfold tMW MetO
  congr 1
  funext x H1
  refine propext ⟨fun ⟨a, dx, fs, e1, e2, e3, h⟩ => ⟨a, e1, dx, fs, e2, e3, h⟩, fun ⟨a, e1, dx, fs, e2, e3, h⟩ => ⟨a, dx, fs, e1, e2, e3, h⟩⟩
theorem n_make : tMake C sp dvs E t σ H Q = t σ H (fun vs H1 => MakO H1 C (fun x H2 => sp (.ref x :: (vs ++ dvs)) H2 (fun v H3 => v = .non ∧ Q (.ref x) H3) E)) := rfl
theorem n_kw : tKW C sp dvs W t σ H Q = t σ H (fun vs H1 => MakO H1 C (fun x H2 => sp (.ref x :: (vs ++ dvs)) H2 (fun v H3 => v = .non ∧ Q (.ref x) H3) (WE W σ))) := rfl
end
section
variable {K : PySem.W.Frag} {B H : Hp} {l l' : List As} {a C dx : Addr} {f m : Str} {fs fs' : List (Str × V)} {v y : V} {Q : VK} {QH : Hp → Prop} {P : Prop}
theorem g_fldO (h : FldO K H a f Q) : FldO K H a f Q := h
theorem g_fldC {R : Addr → V → Prop} (h : FldC K H a f R) : FldC K H a f R := h
theorem g_putC (h : PutC H a C f y QH) : PutC H a C f y QH := h
theorem fldC {R : Addr → V → Prop} {Cn : Str} {ns : List Str} (ha : H a = some (.ins (He.ga K Cn) dx fs)) (tc : ClsF K Cn ns) (hf : f ∈ ns) (lk : fs.lookup f = some v) (q : R (He.ga K Cn) v) : FldC K H a f R := ⟨_, _, _, _, ha, tc.cl, tc.na f hf, lk, q⟩
theorem putC (L : Own K B H l) (pp : Put l a (.ins C dx fs) (.ins C dx fs') l') (e : putF f y fs = fs') (hn : fs.length < 1000) (h : ∀ H', Own K B H' l' → QH H') : PutC H a C f y QH := by
  subst e
  exact ⟨_, _, L.get pp.mem, hn, h _ (L.put rfl pp)⟩
theorem g_stoO (h : StoO K H a f y QH) : StoO K H a f y QH := h
theorem g_metO (h : MetO H a C m P) : MetO H a C m P := h
theorem g_makO {P : Addr → Hp → Prop} (h : MakO H C P) : MakO H C P := h
theorem fldO {Cn : Str} {ns : List Str} (ha : H a = some (.ins (He.ga K Cn) dx fs)) (tc : ClsF K Cn ns) (hf : f ∈ ns) (lk : fs.lookup f = some v) (q : Q v H) : FldO K H a f Q := ⟨_, _, _, _, ha, tc.cl, tc.na f hf, lk, q⟩
theorem stoO {Cn : Str} {ns : List Str} (L : Own K B H l) (pp : Put l a (.ins (He.ga K Cn) dx fs) (.ins (He.ga K Cn) dx fs') l') (e : putF f y fs = fs') (tc : ClsF K Cn ns) (hf : f ∈ ns) (hn : fs.length < 1000) (h : ∀ H', Own K B H' l' → QH H') : StoO K H a f y QH := by
  subst e
  exact ⟨_, _, _, L.get pp.mem, tc.cl, tc.na f hf, hn, h _ (L.put rfl pp)⟩
theorem metO (ha : H a = some (.ins C dx fs)) (lk : fs.lookup m = none) (q : P) : MetO H a C m P := ⟨_, _, ha, lk, q⟩
theorem makO {P : Addr → Hp → Prop} (L : Own K B H l) (h : ∀ x dx H', Own K B H' (.pt x (.ins C dx []) :: .pt dx (.own x) :: l) → P x H') : MakO H C P := by
  intro x dx hx hd hn
  refine h x dx _ ((L.new hd _).new ?_ _)
  rw [upd_ne (Ne.symm hn)]
  exact hx
end
/-! lookups in written lists of fields -/
theorem lk_here {k : Str} {v : V} {l : List (Str × V)} : List.lookup k ((k, v) :: l) = some v := by
  show (match k == k with | true => some v | false => List.lookup k l) = some v
  rw [beq_self_eq_true]
theorem lk_skip {k g : Str} {v : V} {l : List (Str × V)} (h : (k == g) = false) : List.lookup k ((g, v) :: l) = List.lookup k l := by
  show (match k == g with | true => some v | false => List.lookup k l) = _
  rw [h]
theorem lk_nil {k : Str} : List.lookup k ([] : List (Str × V)) = none := rfl
theorem pf_nil {k : Str} {v : V} : putF k v [] = [(k, v)] := rfl
theorem pf_here {k : Str} {u v : V} {l : List (Str × V)} : putF k v ((k, u) :: l) = (k, v) :: l := if_pos rfl
theorem pf_skip {k g : Str} {u v : V} {l : List (Str × V)} (h : (k == g) = false) : putF k v ((g, u) :: l) = (g, u) :: putF k v l := if_neg fun e => by
  rw [e, beq_self_eq_true] at h
  cases h
/-! ### calls that change cells -/
inductive Take : List As → Addr → HO → List As → Prop
  | here {l : List As} {a : Addr} {o : HO} : Take (.pt a o :: l) a o l
  | there {l l' : List As} {x : As} {a : Addr} {o : HO} : Take l a o l' → Take (x :: l) a o (x :: l')
theorem Take.perm {l l' : List As} {a : Addr} {o : HO} (t : Take l a o l') : l.Perm (.pt a o :: l') := by
  induction t with
  | here => exact List.Perm.refl _
  | there _ ih => exact (List.Perm.cons _ ih).trans (List.Perm.swap _ _ _)
theorem Own.mut1 {K : PySem.W.Frag} {B H H' : Hp} {l l0 l' : List As} {a : Addr} {o : HO} (L : Own K B H l) (t : Take l a o l0) (M : Own K (delL H [a]) H' l') (m : mutb o = true := by rfl) : Own K B H' (l' ++ l0) := by
  refine Own.muts (l1 := [.pt a o]) (L.perm t.perm) (fun b u h => ?_) M
  cases List.mem_singleton.mp h
  exact m
theorem Own.mut2 {K : PySem.W.Frag} {B H H' : Hp} {l l1 l0 l' : List As} {a b : Addr} {o u : HO} (L : Own K B H l) (t : Take l a o l1) (t2 : Take l1 b u l0) (M : Own K (delL H [a, b]) H' l') (m : mutb o = true := by rfl) (m2 : mutb u = true := by rfl) : Own K B H' (l' ++ l0) := by
  refine Own.muts (l1 := [.pt a o, .pt b u]) (L.perm (t.perm.trans (List.Perm.cons _ t2.perm))) (fun c w h => ?_) M
  rcases List.mem_cons.mp h with e | h
  · cases e
    exact m
  · cases List.mem_singleton.mp h
    exact m2
/-- inside a def that changes the cells of l alone -/
theorem Own.in1 {K : PySem.W.Frag} {H : Hp} {a : Addr} {o : HO} (h : H a = some o) : Own K (delL H [a]) H [.pt a o] := by
  refine ⟨fun b u e => ?_, ?_, fun x hx => ?_⟩
  · by_cases z : b ∈ [a]
    · rw [delL_in z] at e
      cases e
    · rw [delL_out z] at e
      exact e
  · exact List.nodup_cons.mpr ⟨List.not_mem_nil, List.nodup_nil⟩
  · rw [List.mem_singleton.mp hx]
    exact ⟨h, delL_in (.head _)⟩
theorem Own.in2 {K : PySem.W.Frag} {H : Hp} {a b : Addr} {o u : HO} (h : H a = some o) (h2 : H b = some u) (n : a ≠ b) : Own K (delL H [a, b]) H [.pt a o, .pt b u] := by
  refine ⟨fun c w e => ?_, ?_, fun x hx => ?_⟩
  · by_cases z : c ∈ [a, b]
    · rw [delL_in z] at e
      cases e
    · rw [delL_out z] at e
      exact e
  · exact List.nodup_cons.mpr ⟨fun z => n (List.mem_singleton.mp z), List.nodup_cons.mpr ⟨List.not_mem_nil, List.nodup_nil⟩⟩
  · rcases List.mem_cons.mp hx with e | hx
    · rw [e]
      exact ⟨h, delL_in (.head _)⟩
    · rw [List.mem_singleton.mp hx]
      exact ⟨h2, delL_in (.tail _ (.head _))⟩
theorem delL_sq {K : PySem.W.Frag} {H : Hp} {a b : Addr} {o : HO} {xs : List V} (h : SqL K H b xs) (e : H a = some o) (n : ∀ ys, o ≠ .lst ys) (n2 : ∀ w u, o ≠ .frz w u) : SqL K (delL H [a]) b xs := by
  rcases h with (g | ⟨w, g⟩) | g
  · refine .inl (.inl ?_)
    rw [delL_out]
    · exact g
    · intro z
      rw [List.mem_singleton.mp z, e] at g
      cases g
      exact n _ rfl
  · refine .inl (.inr ⟨w, ?_⟩)
    rw [delL_out]
    · exact g
    · intro z
      rw [List.mem_singleton.mp z, e] at g
      cases g
      exact n2 _ _ rfl
  · exact .inr g
/-! what is needed, in another order -/
inductive Pick : List As → List As → Prop
  | nil {l : List As} : Pick l []
  | cons {l l1 l' : List As} {a : Addr} {o : HO} : Take l a o l1 → Pick l1 l' → Pick l (.pt a o :: l')
  | im {l l' : List As} {v : V} {d : PyData} : As.im v d ∈ l → Pick l l' → Pick l (.im v d :: l')
  | ims {l l' : List As} {vs : List V} {ds : List PyData} : As.ims vs ds ∈ l → Pick l l' → Pick l (.ims vs ds :: l')
theorem Own.pick0 {K : PySem.W.Frag} {B H : Hp} {l l' : List As} (p : Pick l l') : Own K B H l → Own K B H l' := by
  induction p with
  | nil => exact fun L => L.sub (List.nil_sublist _)
  | @cons l l1 l' a o t q ih =>
    intro L
    have L1 := L.perm t.perm
    have L2 := ih L1.drop1
    refine L2.add (L1.all _ (.head _)) fun b hb hn => ?_
    obtain rfl := List.mem_singleton.mp hb
    have nd := L1.nd
    unfold ads at nd
    rw [List.flatMap_cons] at nd
    have dis := (List.nodup_append.mp nd).2.2 b hb
    have sub : ∀ {l l' : List As}, Pick l l' → ∀ x ∈ ads l', x ∈ ads l := by
      intro l l' p
      induction p with
      | nil => exact fun x m => nomatch m
      | @cons l l1 l' a o t q ih2 =>
        intro x m
        have e : ads (As.pt a o :: l') = a :: ads l' := rfl
        rw [e] at m
        have pe : (ads l).Perm (a :: ads l1) := t.perm.flatMap_right _
        rcases List.mem_cons.mp m with h | h
        · exact pe.mem_iff.mpr (h ▸ .head _)
        · exact pe.mem_iff.mpr (.tail _ (ih2 x h))
      | im _ _ ih2 => exact fun x m => ih2 x m
      | ims _ _ ih2 => exact fun x m => ih2 x m
    exact dis b (sub q b hn) rfl
  | im h _ ih => exact fun L => (ih L).addIm (L.imm h)
  | ims h _ ih => exact fun L => (ih L).addIms (L.imms h)
theorem Own.pick {K : PySem.W.Frag} {B H : Hp} {l l' : List As} (L : Own K B H l) (p : Pick l l') : Own K B H l' := Own.pick0 p L
end Bel
namespace Bel
open PySem PySem.Spec PyProof.Rows L2
/-! ### methods called where an exception is handled -/
structure MthH (P : Program) (w : World) (K : PySem.W.Frag) (base : Heap) (mg : Str → Option Value) (k : Nat) (C m : Str) (ps : List Str) (sp : Sp) : Prop where
  ex : ∃ fd : FuncData, L2H.FnH P w K mg base (L2N.CX P w) k (He.ma K (He.ga K C) m) fd ps sp ∧ Meth K (He.ga K C) m (He.ma K (He.ga K C) m) ∧ Cls K (He.ga K C) ∧ Binds K fd ps []
theorem okN {P : Program} {w : World} {K : PySem.W.Frag} {mg : Str → Option Value} {base : Heap} {x qual : Str} {params : Arguments} {body : List Stmt} {scope : Scope} {f : Addr} {fd : FuncData} {N ps : List Str} {k : Nat} {sp : Sp}
    (F : FunD K x qual params body scope [] [] f fd) (S : FnScope N ps scope) (len : ∀ vs H Q E, sp vs H Q E → vs.length = ps.length)
    (go : ∀ (cd : Value) (A : Around) (outer : List Env) (s : Shared) (H : Hp) (vs : List V) (Q : VK) (E : XK) (p : Addr × Obj), L2H.RoomH k (A.deeper (envOfC qual scope s.heap.objs.size f cd)) → sp vs H Q E →
      ∃ t, PSs (L2H.cxH (L2N.CX P w) P w K mg base N qual scope f cd A outer s H E p) body t ∧ t { nx := fun _ H' => Q .non H', rt := Q } (L2.start N vs) H) :
    L2H.FnH P w K mg base (L2N.CX P w) (k + 1) f fd ps sp := by
  obtain ⟨_, _, _, _, _, _, _, cd, _, _, rfl, at_, code, _, _⟩ := F.ex
  exact L2H.fn_ofH at_ code S len fun A outer s H vs Q E p _ room want => go cd A outer s H vs Q E p room want
theorem hotC_of {X : Cx} {a : Addr} {oe : Obj} {cls : Value} {d : Option Addr} {pn : List (Addr × Obj)} (hz : L2N.Zn cls d oe) (hf : ∃ vs, oe.data = .fields vs) : L2H.HotC (X.suite a ((a, oe) :: pn)) := by
  obtain ⟨vs, e⟩ := hf
  exact ⟨(a, oe), ⟨rfl, vs, e, hz.2.2 vs e⟩, .head _⟩
theorem pe_mtH0 {X : Cx} {K : PySem.W.Frag} {k : Nat} {C m : Str} {ps : List Str} {sp : Sp} {o : Expr} {ta : TE} {apos pos : Pos} {pl : Sem Bool} (c : MthH X.prog X.w K X.base X.mg k C m ps sp) (hr : L2H.RoomH k X.A) (hot : L2H.HotC X) (ho : PE X o ta)
    (h3 : eval (.Call (.Attribute o m apos) [] [] pos) X.env = (do
      let ov ← eval o X.env
      standAt apos.atName
      let (f, first) ← holding [ov] (getMethod ov m pl)
      callWith pos f first (backTo pos (starEach [] X.env)) (backToKw pos (keywordEach [] X.env))) := by rfl) (hK : X.K = K := by rfl) :
    PE X (.Call (.Attribute o m apos) [] [] pos) (tMeth (He.ga K C) m sp [] E0 ta tNil) := by
  subst hK
  obtain ⟨fd, F, me, cl, hb⟩ := c.ex
  refine ⟨fun pn sh st Hs Qv hin hq => PySem.W.methodCall_KW (pl := pl) (thn (ho.run pn sh st Hs _ hin hq) fun ov sh1 hx => ?_) h3⟩
  obtain ⟨x, G, in1, rx, a, dx, fs, ex, at_, no, pr⟩ := hx
  subst ex
  cases rx
  have out : ∀ σ, PassesAt (L2N.CX X.prog X.w) X σ E0 := fun σ pins H s e s' _ z => by
    obtain ⟨_, _, _, _, _, _, _, _, _, _, _, _, f⟩ := z
    cases f
  exact getmeth_ok in1 at_ cl me no (PySem.W.callWith_K0 (first := [.ref a]) in1.kIn me.kp (L2H.run_fnH (E := fun _ => E0) (us := [.ref a]) (vs := [.ref a]) F hr hot hb (out st) in1 (.cons rfl .nil) pr))
end Bel

namespace Bel
open PySem PySem.Spec PyProof.Rows L2
/-! ### dicts: made, filled, asked -/
def DPO (H : Hp) (a : Addr) (y v : V) (QH : Hp → Prop) : Prop := ∃ H4, DPut H a y v H4 ∧ QH H4
def DGO (H : Hp) (a : Addr) (y : V) (Q : VK) : Prop := ∃ v, DGet H a y (some v) ∧ Q v H
def DIO (H : Hp) (a : Addr) (y : V) (Q : VK) : Prop := ∃ o, DGet H a y o ∧ Q (.bl o.isSome) H
section
variable {K : PySem.W.Frag} {td ty tv : TE} {σ : L2.St} {H : Hp} {Q : VK} {D : Ends}
theorem n_dput : sDPut td ty tv D σ H = tv σ H (fun v H1 => td σ H1 (fun x H2 => ty σ H2 (fun y H3 => ∃ a, x = .ref a ∧ DPO H3 a y v (fun H4 => D.nx σ H4)))) := by
  unfold sDPut DPO
  congr 1
  funext v H1
  congr 1
  funext x H2
  congr 1
  funext y H3
  refine propext ⟨fun ⟨a, H4, e, h⟩ => ⟨a, e, H4, h⟩, fun ⟨a, e, H4, h⟩ => ⟨a, H4, e, h⟩⟩
theorem n_dget : tDGet td ty σ H Q = td σ H (fun x H1 => ty σ H1 (fun y H2 => ∃ a, x = .ref a ∧ DGO H2 a y Q)) := by
  unfold tDGet DGO
  congr 1
  funext x H1
  congr 1
  funext y H2
  refine propext ⟨fun ⟨a, v, e, h⟩ => ⟨a, e, v, h⟩, fun ⟨a, e, v, h⟩ => ⟨a, v, e, h⟩⟩
theorem n_din : tDIn ty td σ H Q = ty σ H (fun y H1 => td σ H1 (fun x H2 => ∃ a, x = .ref a ∧ DIO H2 a y Q)) := by
  unfold tDIn DIO
  congr 1
  funext y H1
  congr 1
  funext x H2
  refine propext ⟨fun ⟨a, v, e, h⟩ => ⟨a, e, v, h⟩, fun ⟨a, e, v, h⟩ => ⟨a, v, e, h⟩⟩
def IsDO (H : Hp) (a : Addr) (P : Prop) : Prop := IsD H a ∧ P
def DG2 (H : Hp) (a : Addr) (y z : V) (Q : VK) : Prop := ∃ o, DGet H a y o ∧ Q (o.getD z) H
theorem n_dget2 {tx : TE} : tDGet2 td ty tx σ H Q = td σ H (fun x H1 => ∃ a, x = .ref a ∧ IsDO H1 a (ty σ H1 (fun y H2 => tx σ H2 (fun z H3 => DG2 H3 a y z Q)))) := rfl
theorem n_glst {n : Nat} {gs : TGs} {v : V} {QG : L2.St → Hp → Prop} : gLst K n gs v σ H QG = ∃ a xs, v = .ref a ∧ SqL K H a xs ∧ xs.length = n ∧ gs xs σ H QG := rfl
theorem n_dnew : tDNewK σ H Q = NewO H (.dK []) Q := rfl
end
section
variable {K : PySem.W.Frag} {B H : Hp} {l l' : List As} {a : Addr} {kvs : List (Key × V)} {i : Int} {v y : V} {Q : VK} {QH : Hp → Prop}
theorem g_dputO (h : DPO H a y v QH) : DPO H a y v QH := h
theorem g_dgetO (h : DGO H a y Q) : DGO H a y Q := h
theorem g_dinO (h : DIO H a y Q) : DIO H a y Q := h
theorem dputI (L : Own K B H l) (pp : Put l a (.dK kvs) (.dK (putK kvs (.inl i) v)) l') (hl : kvs.length < sizeLine) (h : ∀ H', Own K B H' l' → QH H') : DPO H a (.int i) v QH := ⟨_, DPut.k (k := .inl i) (L.get pp.mem) hl, h _ (L.put rfl pp)⟩
theorem dgetI (e : H a = some (.dK kvs)) (h : valV kvs (.inl i) = some v) (q : Q v H) : DGO H a (.int i) Q := ⟨v, h ▸ DGet.k (k := .inl i) e, q⟩
theorem g_isDO {P : Prop} (h : IsDO H a P) : IsDO H a P := h
theorem g_dg2 {z : V} (h : DG2 H a y z Q) : DG2 H a y z Q := h
theorem isDO {P : Prop} (e : H a = some (.dK kvs)) (p : P) : IsDO H a P := ⟨.inl ⟨kvs, .inl e⟩, p⟩
theorem dg2I {z : V} (e : H a = some (.dK kvs)) (q : Q ((valV kvs (.inl i)).getD z) H) : DG2 H a (.int i) z Q := ⟨_, DGet.k (k := .inl i) e, q⟩
theorem dinI (e : H a = some (.dK kvs)) (q : Q (.bl (valV kvs (.inl i)).isSome) H) : DIO H a (.int i) Q := ⟨_, DGet.k (k := .inl i) e, q⟩
end
end Bel

/-! ### isinstance of a caught error whose object has a dict -/
namespace PySem.W
open PySem PySem.Spec PySem.Calls PyProof.Rows
section
variable {prog : Program} {w : World} {A : Around} {E : Value → Shared → Prop} {s : Shared} {K : Frag} {x D : Addr} {ox : Obj} {od : Option Obj}
theorem bel_find {C : Addr} {name : Str} {a g : Value} (hc : (clsIn K C).isSome = true) (ha : findIn K (.ref C) name = some (some a))
    (hg : specialIn K a "__get__" = some (some g)) (ht : takesIn K a = some true) : findObj K C od name = some (.bind g a) := by
  cases e : clsIn K C with
  | none =>
    rw [e] at hc
    cases hc
  | some cd =>
    simp [findObj, e, ha, hg, ht]
theorem bel_class {Q : Option Value → Shared → Prop} (F : L2.ExcC K D) (X : K.In s.heap) (I : InstAt s.heap x ox D od)
    (h : Q (some (.ref D)) { s with toks := s.toks + 1 }) :
    wpAny (model prog w) A (getAttr? (.ref x) "__class__") Q E s := by
  obtain ⟨own, kept, sub0, dic, cla, get0, tak, mro⟩ := F
  have some_ : (clsIn K D).isSome = true := by
    obtain ⟨_, e, _⟩ := any_some dic
    rw [e]
    rfl
  obtain ⟨hp, g, d, t, os⟩ := s
  have l0 := I.type (M := model prog w)
  have l1 := looks_findIn (M := model prog w) X own
  have l2 := looks_findIn (M := model prog w) X kept
  have l3 := looks_find (M := model prog w) X I (bel_find some_ cla get0 tak)
  have isB : Looks (model prog w) hp (isInstance (.ref x) (.type "BaseException")) true :=
    l0.andThen (looks_subIn X sub0)
  have no : (Value.builtin "BaseException.__getattribute__" == Value.builtin "object.__getattribute__") = false := by
    decide +kernel
  have no2 : (onTheHeap (Value.ref D) && (Value.builtin "BaseException.__getattribute__" == Value.builtin "object.__getattribute__")) = false := by
    rw [no]
    rfl
  unfold getAttr? getAttrBy? getAttrBy
  refine wpAny_bind (wpAny_mkText (wpAny_bind (wpAny_attempt (wpAny_holding
    (wpAny_bind (l0.at (wpAny_bind (l1.at ?_))))))))
  show wpAny _ _ (if (onTheHeap (Value.ref D) && _) = true then _ else _) _ _ _
  rw [no2]
  rw [if_neg Bool.false_ne_true]
  unfold getAttrByItsOwn hookBefore
  refine wpAny_bind ?_
  rw [if_pos (show onTheHeap (.ref D) = true from rfl)]
  refine l2.at (wpAny_bind (wpAny_attempt (wpAny_holding ?_)))
  unfold callGetattribute
  rw [show (false && onTheHeap (.builtin "BaseException.__getattribute__")) = false from rfl]
  rw [if_neg Bool.false_ne_true]
  unfold boundAndCalled
  rw [F.excAttr_ValueError.ga.bind (.ref x)]
  refine wpAny_bind (wpAny_pure ?_)
  show wpAny _ _ (call (.builtin "BaseException.__getattribute__") [_, _]) _ _ _
  refine wpAny_call (codeAny_call_builtin
    F.excAttr_ValueError.ga.plain F.entry_bexc_ga ?_)
  refine @check_slot (model prog w) _ _ ⟨hp, g, d, t + 1, os⟩ "BaseException.__getattribute__"
    "BaseException" "__getattribute__" (.ref x) [.str "__class__" t] [] _
    (by decide +kernel) (by decide +kernel) isB (F.args_bexc_ga _ _) ?_
  unfold Builtin.«object.__getattribute__»
  refine wpAny_bind (wpAny_of_eq (a := ((Value.ref x : Value), [Value.str "__class__" t]))
    (by first | rfl | (simp only [slotArgs]; rfl)) ?_)
  refine wpAny_bind (wpAny_pure (wpAny_bind (l0.at (wpAny_bind (l3.at ?_)))))
  show wpAny _ _ (holding [_] (call (.builtin "getset_descriptor.__get__") [_, _, _]) >>= ret) _ _ _
  refine wpAny_bind (wpAny_holding (wpAny_call
    (class_get (s := ⟨hp, g, d, t + 1, os⟩) (ox := ox) (od := od) X I mro ?_)))
  refine wpAny_pure ?_
  show wpAny _ _ (handedOut (.ref D)) _ _ _
  rw [handedOut_of (v := .ref D) rfl]
  first
    | exact wpAny_pure (wpAny_pure h)
    | exact wpAny_pure h
    | exact wpAny_pure (wpAny_bind (wpAny_pure (wpAny_pure h)))
end
end PySem.W
namespace PySem.W
open PySem PySem.Spec PySem.Calls PyProof.Rows
theorem bel_kit {K : Frag} {x D : Addr} {ox : Obj} {od : Option Obj} (F : L2.ExcC K D) : KitX K (.ref x) (.ref D) (fun h => InstAt h x ox D od) := by
  have cls : ∃ c d cd sl, K.lookup D = some ⟨c, d, .cls cd, sl⟩ := by
    obtain ⟨cd, e, _⟩ := any_some F.hd
    unfold clsIn at e
    split at e
    · rename_i c d cd sl there
      exact ⟨c, d, cd, sl, there⟩
    · cases e
  obtain ⟨c, d, cd, sl, there⟩ := cls
  refine ⟨fun _ _ _ I => I.type, fun _ _ X _ => ?_, fun h tp dd its n sl' X at_ => ?_, fun X I k => bel_class F X I k⟩
  · intro A Q E s k q
    unfold isType loadHead
    exact wpAny_bind (wpAny_loadPart (k _ _ (X _ _ there)) (wpAny_pure q))
  · apply Bool.eq_false_iff.mpr
    intro q
    cases Value.ref.inj (beq_iff_eq.mp q)
    cases (X _ _ there).symm.trans at_
end PySem.W
namespace Bel
open PySem PySem.Spec PyProof.Rows L2
/-- isinstance(e, c) of the error that the suite holds -/
def rIsX (K : PySem.W.Frag) (a : Addr) (cls : Value) (d : Option Addr) : List V → Hp → VK → Prop := fun xs H Q => ∃ (c : V) (cv : Value) (b : Bool) (D dd : Addr) (fs : List (Str × V)), xs = [.ref a, c] ∧ cls = .ref D ∧ d = some dd ∧ H dd = some (.xd fs) ∧ ExcC K D ∧
  (∀ u, RelV c u → u = cv) ∧ PySem.W.kitOne K (.ref D) cv = some b ∧ Q (.bl b) H
theorem call_isX {X : Cx} {a : Addr} {oe : Obj} {cls : Value} {d : Option Addr} {pn : List (Addr × Obj)} (hz : L2N.Zn cls d oe) (hf : ∃ vs, oe.data = .fields vs) : CallR (X.suite a ((a, oe) :: pn)) (.builtin "isinstance") (rIsX X.K a cls d) := by
  intro pins s σ H xs us Q I r h
  obtain ⟨c, cv, b, D, dd, fs, rfl, rfl, rfl, hx, F, same, e, q⟩ := h
  obtain ⟨u1, u2, rfl, r1, r2⟩ := vals2 r
  cases r1
  cases same _ r2
  obtain ⟨here, _⟩ := I.pin (a, oe) (List.mem_append_left _ (.head _))
  obtain ⟨vs, hv⟩ := hf
  obtain ⟨_, ⟨od, _, _, ho, _⟩, _⟩ := (show ObjOk X.prog X.w H s.heap dd (.xd fs) from I.hok dd _ hx)
  have J : PySem.W.InstAt s.heap a oe D (some od) :=
    ⟨here, hz.1, by unfold PySem.W.notCls; rw [hv], by rw [hz.2.1]; exact ho⟩
  exact PySem.W.kia_one (PySem.W.bel_kit F) I.kIn J e (fun z => nomatch z) fun tk => ⟨.bl b, H, I.tok tk, rfl, q⟩
end Bel
namespace Bel
open PySem PySem.Spec PyProof.Rows L2
/-! ### tuples in a constant tuple -/
def elA (x : Str) (i : Nat) (K : PySem.W.Frag) : Addr := match K.lookup (He.ga K x) with
  | some ⟨_, _, .seq its _, _⟩ => (match its.toList[i]? with
    | some (.ref a) => a
    | _ => 0)
  | _ => 0
def tpB (K : PySem.W.Frag) (a : Addr) (vs : List He.Dv) : Bool := match K.lookup a with
  | some ⟨.type c, _, .seq its _, _⟩ => decide (c = "tuple") && (decide (its.size ≤ sizeLine) && He.relAll (vs.map (He.Dv.v K)) its.toList)
  | _ => false
theorem tpB_ok {K : PySem.W.Frag} {a : Addr} {vs : List He.Dv} (h : tpB K a vs = true) (H : Hp) : SqT K H a (vs.map (He.Dv.v K)) := by
  unfold tpB at h
  split at h
  · rename_i c d its n sl at_
    obtain ⟨e1, h⟩ := ba h
    obtain ⟨e2, e3⟩ := ba h
    exact .inr ⟨_, its, n, at_, by rw [of_decide_eq_true e1], rfl, of_decide_eq_true e2, He.relAll_ok e3⟩
  · cases h
/-! ### what isinstance of an error asks of its class -/
def exCB (K : PySem.W.Frag) (x : Str) : Bool :=
  decide (PySem.W.findIn K (.ref (He.ga K x)) "__getattribute__" = some (some (.builtin "BaseException.__getattribute__"))) &&
  (decide (PySem.W.findIn K (.ref (He.ga K x)) "__getattr__" = some none) &&
  (decide (PySem.W.subIn K (.ref (He.ga K x)) (.type "BaseException") = some true) &&
  (PySem.W.hasDictIn K (He.ga K x) &&
  (decide (PySem.W.findIn K (.ref (He.ga K x)) "__class__" = some (some (.builtin "object.__class__"))) &&
  (decide (PySem.W.specialIn K (.builtin "object.__class__") "__get__" = some (some (.builtin "getset_descriptor.__get__"))) &&
  (decide (PySem.W.takesIn K (.builtin "object.__class__") = some true) &&
  decide (PySem.W.mroIn K (He.ga K x) (.type "object") = some true)))))))
theorem exCB_ok {K : PySem.W.Frag} {x : Str} (c : exCB K x = true) : ExcC K (He.ga K x) := by
  obtain ⟨a1, c⟩ := ba c
  obtain ⟨a2, c⟩ := ba c
  obtain ⟨a3, c⟩ := ba c
  obtain ⟨a4, c⟩ := ba c
  obtain ⟨a5, c⟩ := ba c
  obtain ⟨a6, c⟩ := ba c
  obtain ⟨a7, a8⟩ := ba c
  exact ⟨of_decide_eq_true a1, of_decide_eq_true a2, of_decide_eq_true a3, a4, of_decide_eq_true a5, of_decide_eq_true a6, of_decide_eq_true a7, of_decide_eq_true a8⟩
theorem isX {X : Cx} (K : PySem.W.Frag) {a : Addr} {oe : Obj} {cls : Value} {d : Option Addr} {pn : List (Addr × Obj)} (hz : L2N.Zn cls d oe) (hf : ∃ vs, oe.data = .fields vs) (h : X.K = K := by rfl) : CallR (X.suite a ((a, oe) :: pn)) (.builtin "isinstance") (rIsX K a cls d) := h ▸ call_isX hz hf
end Bel

namespace Bel
open PySem PySem.Spec PyProof.Rows L2
theorem g_asl {n : Nat} {es : List Expr} {env : Env} {B : Prop} (h : n = (assignEach es env).length ∧ B) : n = (assignEach es env).length ∧ B := h
/-! where the error's class lies below the clause's -/
theorem as_base {K : PySem.W.Frag} {x b : Str} {i : Nat} {ts : Addr → Value → Option Addr → TS} {Wout : WX} {D : Ends} {σ : L2.St} {H : Hp} {d : Option Addr} (e : PySem.W.exmOne K (.ref (He.ga K x)) (.ref (He.ga K b)) = some true)
    (h : ∀ a, H a = none → ts a (.ref (He.ga K x)) d { nx := fun σ' H' => D.nx (σ'.set i none) H', rt := D.rt, bk := fun σ' H' => D.bk (σ'.set i none) H', ct := fun σ' H' => D.ct (σ'.set i none) H' } (σ.set i (some (.ref a))) H) :
    wAs K (.ref (He.ga K b)) i ts Wout D (.ref (He.ga K x)) d σ H := ⟨true, e, fun _ => h, fun z => nomatch z⟩
/-! lists of ints from behind -/
theorem atI_end {xs : List Int} (h : 0 < xs.length) : atI (xs.map V.int) (-1) = some (.int (xs.getD (xs.length - 1) 0)) := by
  obtain ⟨ys, y, rfl⟩ : ∃ ys y, xs = ys ++ [y] := ⟨xs.dropLast, xs.getLast (List.length_pos_iff.mp h), (List.dropLast_concat_getLast _).symm⟩
  rw [List.map_append]
  have e : (ys ++ [y]).getD ((ys ++ [y]).length - 1) 0 = y := by
    rw [List.getD_eq_getElem?_getD, List.length_append, List.length_singleton, Nat.add_sub_cancel, List.getElem?_append_right (Nat.le_refl _), Nat.sub_self]
    rfl
  rw [e]
  exact atI_last _ _
theorem isi_ii {K : PySem.W.Frag} {H : Hp} {Q : VK} {j : Int} (q : Q (.bl true) H) : rIsi K [.int j, .ty "int"] H Q := isi_int (b := true) rfl q
theorem isi_ib {K : PySem.W.Frag} {H : Hp} {Q : VK} {j : Int} (q : Q (.bl false) H) : rIsi K [.int j, .ty "bool"] H Q := isi_int (b := false) rfl q
/-! x += list, xs[::-1], tuple(list) -/
def ExtO (H : Hp) (p : Addr) (zs : List V) (Q : VK) : Prop := ∃ xs, H p = some (.lst xs) ∧ xs.length + zs.length ≤ sizeLine ∧ Q (.ref p) (upd H p (.lst (xs ++ zs)))
section
variable {K : PySem.W.Frag} {B H : Hp} {l l' : List As} {Q : VK} {p : Addr} {x y : V}
theorem ip_ext {X : Cx} : PIp X .Add rExt2 := iop_ext
theorem n_ext : rExt2 x y H Q = ∃ l b, x = .ref l ∧ y = .ref b ∧ ∃ zs, H b = some (.lst zs) ∧ ExtO H l zs Q := propext ⟨fun ⟨l, b, xs, zs, e1, e2, h1, h2, h3, h4⟩ => ⟨l, b, e1, e2, zs, h2, xs, h1, h3, h4⟩, fun ⟨l, b, e1, e2, zs, h2, xs, h1, h3, h4⟩ => ⟨l, b, xs, zs, e1, e2, h1, h2, h3, h4⟩⟩
theorem g_extO {zs : List V} (h : ExtO H p zs Q) : ExtO H p zs Q := h
theorem extO {xs zs : List V} (L : Own K B H l) (pp : Put l p (.lst xs) (.lst (xs ++ zs)) l') (hs : xs.length + zs.length ≤ sizeLine) (h : ∀ H', Own K B H' l' → Q (.ref p) H') : ExtO H p zs Q := ⟨xs, L.get pp.mem, hs, h _ (L.put rfl pp)⟩
theorem extI {xs zs : List Int} (L : Own K B H l) (pp : Put l p (.lst (xs.map V.int)) (.lst ((xs ++ zs).map V.int)) l') (hs : xs.length + zs.length ≤ sizeLine) (h : ∀ H', Own K B H' l' → Q (.ref p) H') : ExtO H p (zs.map V.int) Q :=
  ⟨xs.map V.int, L.get pp.mem, by rw [List.length_map, List.length_map]; exact hs, by
    have e : xs.map V.int ++ zs.map V.int = (xs ++ zs).map V.int := List.map_append.symm
    rw [e]
    exact h _ (L.put rfl pp)⟩
theorem n_revL {te : TE} {σ : L2.St} : tRevL K te σ H Q = te σ H (fun x H1 => ∃ a xs, x = .ref a ∧ SqL K H1 a xs ∧ NewO H1 (.lst xs.reverse) Q) := rfl
theorem ints_rev {xs : List Int} : (xs.map V.int).reverse = xs.reverse.map V.int := List.map_reverse.symm
def rTp (K : PySem.W.Frag) (xs : List V) (H : Hp) (Q : VK) : Prop := ∃ p ys, xs = [.ref p] ∧ ((SqL K H p ys ∧ NewO H (.tup ys) Q) ∨ (SqT K H p ys ∧ Q (.ref p) H))
theorem n_rTp {xs : List V} : rTp K xs H Q = ∃ p, xs = [.ref p] ∧ ∃ ys, ((SqL K H p ys ∧ NewO H (.tup ys) Q) ∨ (SqT K H p ys ∧ Q (.ref p) H)) := propext ⟨fun ⟨p, ys, e, h⟩ => ⟨p, e, ys, h⟩, fun ⟨p, e, ys, h⟩ => ⟨p, ys, e, h⟩⟩
theorem g_tp {P : List V → Prop} {R : Prop} (h : ∃ ys, ((SqL K H p ys ∧ P ys) ∨ (SqT K H p ys ∧ R))) : ∃ ys, ((SqL K H p ys ∧ P ys) ∨ (SqT K H p ys ∧ R)) := h
theorem tp_l {P : List V → Prop} {R : Prop} {ys : List V} (h : SqL K H p ys) (q : P ys) : ∃ ys, ((SqL K H p ys ∧ P ys) ∨ (SqT K H p ys ∧ R)) := ⟨ys, .inl ⟨h, q⟩⟩
theorem tp_t {P : List V → Prop} {R : Prop} {ys : List V} (h : SqT K H p ys) (q : R) : ∃ ys, ((SqL K H p ys ∧ P ys) ∨ (SqT K H p ys ∧ R)) := ⟨ys, .inr ⟨h, q⟩⟩
theorem t_im {ns : List Int} : HO.tup (ns.map V.int) = tupI ns := rfl
end
theorem tpK {X : Cx} (K : PySem.W.Frag) (h : X.K = K := by rfl) : CallR X (.type "tuple") (rTp K) := h ▸ call_tuple_of
/-! ranges with a step upwards -/
theorem rgSize_pos {i j c : Int} (hc : 0 < c) : Builtin.Range.rangeSize i j c = (((j - i + c - 1) / c).toNat : Int) := by
  unfold Builtin.Range.rangeSize
  rw [if_pos hc]
  by_cases h : i < j
  · rw [if_pos h]
    have e : (j - i + c - 1) / c = (j - i - 1) / c + 1 := by
      rw [show j - i + c - 1 = (j - i - 1) + 1 * c by omega, Int.add_mul_ediv_right _ _ (by omega)]
    have p : 0 ≤ (j - i - 1) / c := Int.ediv_nonneg (by omega) (by omega)
    rw [e]
    omega
  · rw [if_neg h]
    have e : (j - i + c - 1) / c ≤ 0 := by
      have : (j - i + c - 1) / c ≤ (c - 1) / c := Int.ediv_le_ediv hc (by omega)
      have z : (c - 1) / c = 0 := Int.ediv_eq_zero_of_lt (by omega) (by omega)
      omega
    omega
theorem RgC.pos {i j c : Int} (hc : 0 < c) (hc' : c < 1073741824) (h1 : -(2 ^ 30) ≤ i) (h2 : i < 2 ^ 30) (h3 : -(2 ^ 30) ≤ j) (h4 : j < 2 ^ 30) : RgC i j c ((j - i + c - 1) / c).toNat := by
  refine ⟨by omega, by omega, ?_, rgSize_pos hc⟩
  unfold Builtin.Range.small
  rw [rgSize_pos hc]
  have b1 : (j - i + c - 1) / c ≤ 2 ^ 32 := by
    by_cases z : 0 ≤ j - i + c - 1
    · exact Int.le_trans (Int.ediv_le_self _ z) (by omega)
    · exact Int.le_trans (Int.ediv_le_of_le_mul hc (b := 0) (by omega)) (by decide)
  simp only [Builtin.Range.rangeFitsLong, Bool.and_eq_true, Bool.or_eq_true, decide_eq_true_eq, beq_iff_eq]
  rw [if_pos (show c > 0 from hc)]
  simp only [Bool.and_eq_true, decide_eq_true_eq]
  repeat' apply And.intro
  all_goals omega
/-- a comprehension of ints over a range with a step -/
theorem compCi {K : PySem.W.Frag} {B H : Hp} {l : List As} {te : TE} {σ : L2.St} {lo c : Int} {n : Nat} {g : TG} {vs : List Nat} {Q : Addr → Hp → Prop} (f : Nat → Int) (L : Own K B H l) (hn : n < 100000)
    (hs : ∀ i D H1, i < n → Own K B H1 (pI D (rngL f i) :: l) → g (.int (lo + (i : Nat) * c)) (wipe σ vs) H1 fun σ2 H2 => wipe σ2 vs = wipe σ vs ∧ te σ2 H2 (CQ K B D l (rngL f i ++ [f i])))
    (hd : ∀ D H', Own K B H' (pI D (rngL f n) :: l) → Q D H') : ∀ D, H D = none → CompI (Itc lo c n) g tYes te vs σ H D (Q D) := by
  intro D hD
  refine comp_rangeC (fun i H' => Own K B H' (pI D (rngL f i) :: l)) (L.new hD _) (fun i H' hi h => ?_) (fun H' h => hd D H' h)
  have := hs i D H' hi h
  unfold CQ at this
  rw [← rngL_succ] at this
  exact this
theorem rgPos {i j c : Int} {P : Nat → Prop} (hc : 0 < c) (hc' : c < 1073741824) (h1 : -(2 ^ 30) ≤ i) (h2 : i < 2 ^ 30) (h3 : -(2 ^ 30) ≤ j) (h4 : j < 2 ^ 30) (q : P ((j - i + c - 1) / c).toNat) : ∃ n, RgC i j c n ∧ P n := ⟨_, RgC.pos hc hc' h1 h2 h3 h4, q⟩
theorem g_asqT {K : PySem.W.Frag} {H : Hp} {a : Addr} {B : Prop} (h : (∃ x, SqT K H a x) ∧ B) : (∃ x, SqT K H a x) ∧ B := h
theorem and_sqT {K : PySem.W.Frag} {H : Hp} {a : Addr} {xs : List V} {B : Prop} (h : SqT K H a xs) (q : B) : (∃ x, SqT K H a x) ∧ B := ⟨⟨xs, h⟩, q⟩
theorem pg_tupK {X : Cx} {pos : Pos} {es : List Expr} {k : Nat} {t : TGs} (K : PySem.W.Frag) (n : Nat) (hc : X.calm = true) (h : PGs X es t) (hK : X.K = K := by rfl)
    (hn : (assignEach es X.env).length = n := by rfl) (hst : (assignEach es X.env).findIdx? (·.1) = none := by rfl) : PG X (.Tuple es k pos) (gTup K n t) := by
  subst hK
  exact pg_tup hc h hn hst
theorem inV_ints {c : Int} {xs : List Int} : inV (.int c) (xs.map V.int) = decide (c ∈ xs) := by
  unfold inV
  rw [Bool.eq_iff_iff, decide_eq_true_iff, List.any_eq_true]
  constructor
  · rintro ⟨y, m, e⟩
    obtain ⟨z, mz, rfl⟩ := List.mem_map.mp m
    have : z = c := by simpa [eqV] using e
    exact this ▸ mz
  · intro m
    exact ⟨.int c, List.mem_map.mpr ⟨c, m, rfl⟩, by simp [eqV]⟩
theorem flat_ints {xs : List Int} : (xs.map V.int).all flatV = true := by
  rw [List.all_eq_true]
  intro y m
  obtain ⟨z, _, rfl⟩ := List.mem_map.mp m
  rfl
theorem in_ints {K : PySem.W.Frag} {H : Hp} {Q : VK} {p : Addr} {c : Int} {xs : List Int} (h : SqL K H p (xs.map V.int)) (q : Q (.bl (decide (c ∈ xs))) H) : rIn K false (.int c) (.ref p) H Q := ⟨p, _, rfl, .inl h, rfl, flat_ints, by
  rw [inV_ints]
  exact q⟩
theorem notIn_ints {K : PySem.W.Frag} {H : Hp} {Q : VK} {p : Addr} {c : Int} {xs : List Int} (h : SqL K H p (xs.map V.int)) (q : Q (.bl (!decide (c ∈ xs))) H) : rIn K true (.int c) (.ref p) H Q := ⟨p, _, rfl, .inl h, rfl, flat_ints, by
  rw [inV_ints]
  exact q⟩
end Bel

namespace Bel
open PySem PySem.Spec PyProof.Rows L2
/-! ### many owned cells -/
theorem Own.conv {K : PySem.W.Frag} {B H : Hp} {l l' : List As} (L : Own K B H l) (e : (ads l').Perm (ads l)) (h : ∀ x ∈ l', x.holds K B H) : Own K B H l' := ⟨L.same, e.nodup_iff.mpr L.nd, h⟩
theorem ads_cons {x : As} {l : List As} : ads (x :: l) = x.ad ++ ads l := by
  unfold ads
  rw [List.flatMap_cons]
section
variable {K : PySem.W.Frag} {B H : Hp} {l l' : List As} {p : Addr} {o o' : HO} {ps qs : List (Addr × HO)}
theorem Own.objs0 (L : Own K B H l) : Own K B H (.objs [] :: l) := L.conv (by rw [ads_cons]; exact List.Perm.refl _) fun x m => by
  rcases List.mem_cons.mp m with rfl | m
  · exact fun q h => nomatch h
  · exact L.all x m
theorem Own.obj (L : Own K B H l) (m : As.objs ps ∈ l) (h : (p, o) ∈ ps) : H p = some o := (L.all _ m _ h).1
/-- one more, behind -/
theorem Own.objIn (L : Own K B H (.pt p o :: .objs ps :: l)) : Own K B H (.objs (ps ++ [(p, o)]) :: l) := by
  refine L.conv ?_ fun x m => ?_
  · rw [ads_cons, ads_cons, ads_cons]
    show ((ps ++ [(p, o)]).map Prod.fst ++ ads l).Perm ([p] ++ (ps.map Prod.fst ++ ads l))
    rw [List.map_append, List.append_assoc]
    exact List.perm_append_comm_assoc _ _ _
  · rcases List.mem_cons.mp m with rfl | m
    · intro q hq
      rcases List.mem_append.mp hq with hq | hq
      · exact L.all (.objs ps) (.tail _ (.head _)) q hq
      · rw [List.mem_singleton.mp hq]
        exact L.all (.pt p o) (.head _)
    · exact L.all x (.tail _ (.tail _ m))
/-- one of them alone -/
theorem Own.objOut (L : Own K B H (.objs (ps ++ (p, o) :: qs) :: l)) : Own K B H (.pt p o :: .objs (ps ++ qs) :: l) := by
  refine L.conv ?_ fun x m => ?_
  · rw [ads_cons, ads_cons, ads_cons]
    show ([p] ++ ((ps ++ qs).map Prod.fst ++ ads l)).Perm ((ps ++ (p, o) :: qs).map Prod.fst ++ ads l)
    rw [List.map_append, List.map_append, List.map_cons]
    refine List.Perm.symm ?_
    rw [← List.append_assoc [p]]
    exact List.Perm.append_right _ List.perm_middle
  · rcases List.mem_cons.mp m with rfl | m
    · exact L.all (.objs _) (.head _) (p, o) (List.mem_append_right _ (.head _))
    · rcases List.mem_cons.mp m with rfl | m
      · intro q hq
        refine L.all (.objs _) (.head _) q ?_
        rcases List.mem_append.mp hq with hq | hq
        · exact List.mem_append_left _ hq
        · exact List.mem_append_right _ (.tail _ hq)
      · exact L.all x (.tail _ m)
theorem Own.objBack (L : Own K B H (.pt p o :: .objs (ps ++ qs) :: l)) : Own K B H (.objs (ps ++ (p, o) :: qs) :: l) := by
  refine L.conv ?_ fun x m => ?_
  · rw [ads_cons, ads_cons, ads_cons]
    show ((ps ++ (p, o) :: qs).map Prod.fst ++ ads l).Perm ([p] ++ ((ps ++ qs).map Prod.fst ++ ads l))
    rw [List.map_append, List.map_append, List.map_cons, ← List.append_assoc [p]]
    exact List.Perm.append_right _ List.perm_middle
  · rcases List.mem_cons.mp m with rfl | m
    · intro q hq
      rcases List.mem_append.mp hq with hq | hq
      · exact L.all (.objs _) (.tail _ (.head _)) q (List.mem_append_left _ hq)
      · rcases List.mem_cons.mp hq with rfl | hq
        · exact L.all (.pt p o) (.head _)
        · exact L.all (.objs _) (.tail _ (.head _)) q (List.mem_append_right _ hq)
    · exact L.all x (.tail _ (.tail _ m))
end
/-- taken to the front -/
inductive TakeA : List As → As → List As → Prop
  | here {l : List As} {x : As} : TakeA (x :: l) x l
  | there {l l' : List As} {x y : As} : TakeA l x l' → TakeA (y :: l) x (y :: l')
theorem TakeA.perm {l l' : List As} {x : As} (t : TakeA l x l') : l.Perm (x :: l') := by
  induction t with
  | here => exact List.Perm.refl _
  | there _ ih => exact (List.Perm.cons _ ih).trans (List.Perm.swap _ _ _)
theorem Own.front {K : PySem.W.Frag} {B H : Hp} {l l' : List As} {x : As} (L : Own K B H l) (t : TakeA l x l') : Own K B H (x :: l') := L.perm t.perm
/-! lists of lists of ints: places and contents -/
abbrev PL := List (Addr × List Int)
def oI (pl : PL) : List (Addr × HO) := pl.map fun q => (q.1, .lst (q.2.map V.int))
def rfs (pl : PL) : List V := pl.map fun q => V.ref q.1
def cts (pl : PL) : List (List Int) := pl.map Prod.snd
theorem oI_snoc {pl : PL} {p : Addr} {xs : List Int} : oI (pl ++ [(p, xs)]) = oI pl ++ [(p, .lst (xs.map V.int))] := by
  unfold oI
  rw [List.map_append]
  rfl
theorem rfs_snoc {pl : PL} {p : Addr} {xs : List Int} : rfs pl ++ [V.ref p] = rfs (pl ++ [(p, xs)]) := by
  unfold rfs
  rw [List.map_append]
  rfl
theorem cts_snoc {pl : PL} {p : Addr} {xs : List Int} : cts (pl ++ [(p, xs)]) = cts pl ++ [xs] := by
  unfold cts
  rw [List.map_append]
  rfl
theorem rfs_len {pl : PL} : (rfs pl).length = pl.length := List.length_map ..
theorem cts_len {pl : PL} : (cts pl).length = pl.length := List.length_map ..
theorem rfs_at {pl : PL} {i : Nat} {x : V} (h : (rfs pl)[i]? = some x) : ∃ p xs, pl[i]? = some (p, xs) ∧ x = .ref p := by
  unfold rfs at h
  rw [List.getElem?_map] at h
  cases e : pl[i]? with
  | none =>
    rw [e] at h
    cases h
  | some q =>
    rw [e] at h
    exact ⟨q.1, q.2, rfl, (Option.some.inj h).symm⟩
theorem cts_at {pl : PL} {i : Nat} {p : Addr} {xs : List Int} (h : pl[i]? = some (p, xs)) : (cts pl)[i]? = some xs := by
  unfold cts
  rw [List.getElem?_map, h]
  rfl
theorem oI_at {pl : PL} {i : Nat} {p : Addr} {xs : List Int} (h : pl[i]? = some (p, xs)) : (p, HO.lst (xs.map V.int)) ∈ oI pl := List.mem_map.mpr ⟨(p, xs), List.mem_of_getElem? h, rfl⟩
abbrev pO (pl : PL) : As := .objs (oI pl)
theorem Own.lls {K : PySem.W.Frag} {B H : Hp} {l : List As} {pl : PL} {i : Nat} {p : Addr} {xs : List Int} (L : Own K B H l) (m : pO pl ∈ l) (h : pl[i]? = some (p, xs)) : H p = some (.lst (xs.map V.int)) := L.obj m (oI_at h)
theorem Own.llsIn {K : PySem.W.Frag} {B H : Hp} {l : List As} {pl : PL} {p : Addr} {xs : List Int} (L : Own K B H (pI p xs :: pO pl :: l)) : Own K B H (pO (pl ++ [(p, xs)]) :: l) := by
  have := L.objIn
  rw [← oI_snoc] at this
  exact this
theorem Own.llsOut {K : PySem.W.Frag} {B H : Hp} {l : List As} {pl ql : PL} {p : Addr} {xs : List Int} (L : Own K B H (pO (pl ++ (p, xs) :: ql) :: l)) : Own K B H (pI p xs :: pO (pl ++ ql) :: l) := by
  have e : oI (pl ++ (p, xs) :: ql) = oI pl ++ (p, .lst (xs.map V.int)) :: oI ql := by
    unfold oI
    rw [List.map_append]
    rfl
  have e2 : oI (pl ++ ql) = oI pl ++ oI ql := List.map_append
  unfold pO at *
  rw [e] at L
  rw [e2]
  exact L.objOut
theorem Own.llsBack {K : PySem.W.Frag} {B H : Hp} {l : List As} {pl ql : PL} {p : Addr} {xs : List Int} (L : Own K B H (pI p xs :: pO (pl ++ ql) :: l)) : Own K B H (pO (pl ++ (p, xs) :: ql) :: l) := by
  have e : oI (pl ++ (p, xs) :: ql) = oI pl ++ (p, .lst (xs.map V.int)) :: oI ql := by
    unfold oI
    rw [List.map_append]
    rfl
  have e2 : oI (pl ++ ql) = oI pl ++ oI ql := List.map_append
  unfold pO at *
  rw [e]
  rw [e2] at L
  exact L.objBack
/-- a list of them is equal to a list of them -/
def dLL (xss : List (List Int)) : PyData := .list (xss.map fun xs => .list (xs.map PyData.int))
theorem dLL_inj {a b : List (List Int)} : dLL a = dLL b ↔ a = b := by
  refine ⟨fun h => ?_, fun h => by rw [h]⟩
  unfold dLL at h
  rw [PyData.list.injEq] at h
  induction a generalizing b with
  | nil =>
    cases b with
    | nil => rfl
    | cons _ _ => cases h
  | cons x r ih =>
    cases b with
    | nil => cases h
    | cons y s =>
      rw [List.map_cons, List.map_cons, List.cons.injEq, PyData.list.injEq, map_int_inj] at h
      rw [h.1, ih h.2]
theorem plain_dLL : ∀ xss : List (List Int), plainAl (xss.map fun xs => PyData.list (xs.map PyData.int)) = true
  | [] => by simp [plainAl]
  | x :: r => by simp [plainAl, plain, plain_dLL r, plainAl_ints]
theorem depth_dLL : ∀ xss : List (List Int), PyData.depthAll (xss.map fun xs => PyData.list (xs.map PyData.int)) ≤ 2
  | [] => by simp [PyData.depthAll]
  | x :: r => by
    have := depth_dLL r
    have := depthAll_ints' x
    simp only [List.map_cons, PyData.depthAll, PyData.depth]
    omega
theorem dq_lls {K : PySem.W.Frag} {B H : Hp} {l : List As} {D : Addr} {pl : PL} (L : Own K B H l) (m : pO pl ∈ l) (h : SqL K H D (rfs pl)) : Dq K H (.ref D) (dLL (cts pl)) := by
  have key : ∀ ql : PL, (∀ q ∈ ql, H q.1 = some (.lst (q.2.map V.int))) → DpAll K H (rfs ql) ((cts ql).map fun xs => PyData.list (xs.map PyData.int)) := by
    intro ql
    induction ql with
    | nil => exact fun _ => .nil
    | cons q r ih => exact fun hq => .cons (.lst (SqL.of (hq q (.head _))) (dpAll_ints _)) (ih fun x hx => hq x (.tail _ hx))
  refine ⟨.lst h (key pl fun q hq => ?_), ?_, ?_⟩
  · exact L.obj m (List.mem_map.mpr ⟨q, hq, rfl⟩)
  · show plain (.list _) = true
    simp only [plain]
    exact plain_dLL _
  · have := depth_dLL (cts pl)
    show (PyData.list _).depth ≤ 64
    simp only [PyData.depth]
    omega
theorem dq_nils {K : PySem.W.Frag} {H : Hp} {D : Addr} (h : SqL K H D []) : Dq K H (.ref D) (dLL []) := ⟨.lst h .nil, by show plain (.list []) = true; simp [plain, plainAl], by show (PyData.list []).depth ≤ 64; simp [PyData.depth, PyData.depthAll]⟩
section
variable {K : PySem.W.Frag} {H : Hp} {a b : V} {xs ys : List (List Int)} {Q : VK}
theorem eqd_lls (h1 : Dq K H a (dLL xs)) (h2 : Dq K H b (dLL ys)) (q : Q (.bl (decide (xs = ys))) H) : rEqD K a b H Q := by
  refine eqd h1 h2 fun r e => ?_
  have : r = decide (xs = ys) := by
    rw [dLL_inj] at e
    by_cases c : xs = ys
    · rw [decide_eq_true c, e.mpr c]
    · rw [decide_eq_false c]
      cases r with
      | false => rfl
      | true => exact absurd (e.mp rfl) c
  rw [this]
  exact q
theorem ned_lls (h1 : Dq K H a (dLL xs)) (h2 : Dq K H b (dLL ys)) (q : Q (.bl (!decide (xs = ys))) H) : rNeD K a b H Q := by
  refine ned h1 h2 fun r e => ?_
  have : r = decide (xs = ys) := by
    rw [dLL_inj] at e
    by_cases c : xs = ys
    · rw [decide_eq_true c, e.mpr c]
    · rw [decide_eq_false c]
      cases r with
      | false => rfl
      | true => exact absurd (e.mp rfl) c
  rw [this]
  exact q
end
/-- one clause without a name, for a class above -/
theorem many_base {K : PySem.W.Frag} {x b : Str} {ts : Addr → Value → Option Addr → TS} {Wout : WX} {D : Ends} {σ : L2.St} {H : Hp} {d : Option Addr} (e : PySem.W.exmOne K (.ref (He.ga K x)) (.ref (He.ga K b)) = some true)
    (h : ∀ a, H a = none → ts a (.ref (He.ga K x)) d D σ H) : wMany K Wout D [(.ref (He.ga K b), ts)] (.ref (He.ga K x)) d σ H := ⟨true, e, fun _ => h, fun z => nomatch z⟩
/-! comprehensions that make lists of ints -/
/-- the end of a turn: one list more -/
def CLe (K : PySem.W.Frag) (B : Hp) (D : Addr) (l : List As) (R : PL → Prop) (y : V) (H4 : Hp) : Prop :=
  ∃ acc, H4 D = some (.lst acc) ∧ acc.length < sizeLine ∧ ∃ ql, Own K B (upd H4 D (.lst (acc ++ [y]))) (.pt D (.lst (rfs ql)) :: pO ql :: l) ∧ R ql
theorem cle {K : PySem.W.Frag} {B : Hp} {D : Addr} {l : List As} {R : PL → Prop} {ql : PL} {p : Addr} {ys : List Int} {H4 : Hp} (L : Own K B H4 (pI p ys :: .pt D (.lst (rfs ql)) :: pO ql :: l)) (hn : ql.length < 100000) (r : R (ql ++ [(p, ys)])) : CLe K B D l R (.ref p) H4 := by
  refine ⟨rfs ql, L.get (mem_there mem_here), by rw [rfs_len, sizeLine_eq]; omega, ql ++ [(p, ys)], ?_, r⟩
  have L2 := L.put (o' := .lst (rfs ql ++ [V.ref p])) rfl (.there .here)
  rw [rfs_snoc (xs := ys)] at L2 ⊢
  exact ((L2.perm (List.Perm.cons _ (List.Perm.swap _ _ _))).llsIn).perm (List.Perm.swap _ _ _)
theorem compLL {K : PySem.W.Frag} {B H : Hp} {l : List As} {te : TE} {σ : L2.St} {a : Addr} {xs : List V} {g : TG} {vs : List Nat} {Q : Addr → Hp → Prop} (R : Nat → PL → Prop) (L : Own K B H l) (h0 : R 0 [])
    (hk : ∀ H', Own K B H' l → SqL K H' a xs)
    (hs : ∀ i x D ql H1, xs[i]? = some x → R i ql → Own K B H1 (.pt D (.lst (rfs ql)) :: pO ql :: l) → g x (wipe σ vs) H1 fun σ2 H2 => wipe σ2 vs = wipe σ vs ∧ te σ2 H2 (CLe K B D l (R (i + 1))))
    (hd : ∀ D ql H', R xs.length ql → Own K B H' (.pt D (.lst (rfs ql)) :: pO ql :: l) → Q D H') : ∀ D, H D = none → CompI (Itl K a) g tYes te vs σ H D (Q D) := by
  intro D hD
  refine comp_list (xs := xs) (fun i H' => ∃ ql, Own K B H' (.pt D (.lst (rfs ql)) :: pO ql :: l) ∧ R i ql) ⟨[], (((L.new hD (.lst [])).objs0).perm (List.Perm.swap _ _ _)), h0⟩ (fun i H' _ ⟨_, h, _⟩ => hk H' h.drop1.drop1) (fun i x H' hx ⟨ql, h, r⟩ => ?_) (fun H' ⟨ql, h, r⟩ => hd D ql H' r h)
  exact hs i x D ql H' hx r h
theorem dq_llsS {K : PySem.W.Frag} {B H : Hp} {l : List As} {D : Addr} {pl ql : PL} (L : Own K B H l) (m : pO pl ∈ l) (h : SqL K H D (rfs ql)) (sub : ∀ q ∈ ql, q ∈ pl) : Dq K H (.ref D) (dLL (cts ql)) := by
  have key : ∀ ql : PL, (∀ q ∈ ql, H q.1 = some (.lst (q.2.map V.int))) → DpAll K H (rfs ql) ((cts ql).map fun xs => PyData.list (xs.map PyData.int)) := by
    intro ql
    induction ql with
    | nil => exact fun _ => .nil
    | cons q r ih => exact fun hq => .cons (.lst (SqL.of (hq q (.head _))) (dpAll_ints _)) (ih fun x hx => hq x (.tail _ hx))
  refine ⟨.lst h (key ql fun q hq => ?_), ?_, ?_⟩
  · exact L.obj m (List.mem_map.mpr ⟨q, sub q hq, rfl⟩)
  · show plain (.list _) = true
    simp only [plain]
    exact plain_dLL _
  · have := depth_dLL (cts ql)
    show (PyData.list _).depth ≤ 64
    simp only [PyData.depth]
    omega
theorem rfs_take {pl : PL} {n : Nat} : (rfs pl).take n = rfs (pl.take n) := List.map_take.symm
theorem rfs_drop {pl : PL} {n : Nat} : (rfs pl).drop n = rfs (pl.drop n) := List.map_drop.symm
theorem cts_takeN {pl : PL} {n : Nat} : cts (pl.take n) = (cts pl).take n := List.map_take
end Bel

namespace Bel
open PySem PySem.Spec PyProof.Rows L2
/-! ### dict(d): a copy -/
def rDcp : List V → Hp → VK → Prop := fun xs H Q => ∃ (a : Addr) (kvs : List (Key × V)), xs = [.ref a] ∧ Rd H a (.dK kvs) ∧ ∀ p, H p = none → Q (.ref p) (upd H p (.dK kvs))
theorem dcK {X : Cx} : CallR X (.type "dict") rDcp := call_dictD
def DCp (H : Hp) (a : Addr) (Q : VK) : Prop := ∃ kvs, Rd H a (.dK kvs) ∧ NewO H (.dK kvs) Q
theorem n_dcp {xs : List V} {H : Hp} {Q : VK} : rDcp xs H Q = ∃ a, xs = [.ref a] ∧ DCp H a Q := propext ⟨fun ⟨a, kvs, e, h, q⟩ => ⟨a, e, kvs, h, q⟩, fun ⟨a, e, kvs, h, q⟩ => ⟨a, kvs, e, h, q⟩⟩
theorem g_dcp {H : Hp} {a : Addr} {Q : VK} (h : DCp H a Q) : DCp H a Q := h
theorem dcpI {H : Hp} {a : Addr} {Q : VK} {kvs : List (Key × V)} (e : H a = some (.dK kvs)) (q : NewO H (.dK kvs) Q) : DCp H a Q := ⟨kvs, .inl e, q⟩
/-! ### x in (a, b) for tuples of ints -/
theorem inT_ints {K : PySem.W.Frag} {H : Hp} {Q : VK} {p : Addr} {c : Int} {xs : List Int} (h : SqT K H p (xs.map V.int)) (q : Q (.bl (decide (c ∈ xs))) H) : rIn K false (.int c) (.ref p) H Q := ⟨p, _, rfl, .inr h, rfl, flat_ints, by
  rw [inV_ints]
  exact q⟩
theorem notInT_ints {K : PySem.W.Frag} {H : Hp} {Q : VK} {p : Addr} {c : Int} {xs : List Int} (h : SqT K H p (xs.map V.int)) (q : Q (.bl (!decide (c ∈ xs))) H) : rIn K true (.int c) (.ref p) H Q := ⟨p, _, rfl, .inr h, rfl, flat_ints, by
  rw [inV_ints]
  exact q⟩
theorem selE_gen {c : Bool} {t u : TE} {σ : L2.St} {H : Hp} {Q : VK} (h : ∀ kont, Q = kont → SelE c t u σ H kont) : SelE c t u σ H Q := h Q rfl
/-! ### lists of tuples of ints -/
theorem oneT {K : PySem.W.Frag} {B H : Hp} {l : List As} (L : Own K B H l) {v : V} {t : List Int} (m : As.im v (tI t) ∈ l) : Own K B H (.ims [v] ([t].map tI) :: l) := L.addIms (ImmL.one (L.imm m))
theorem twoT {K : PySem.W.Frag} {B H : Hp} {l : List As} (L : Own K B H l) {v u : V} {t r : List Int} (m : As.im v (tI t) ∈ l) (m2 : As.im u (tI r) ∈ l) : Own K B H (.ims [v, u] ([t, r].map tI) :: l) := L.addIms (.cons (L.imm m) (ImmL.one (L.imm m2)))
theorem nilT {K : PySem.W.Frag} {B H : Hp} {l : List As} (L : Own K B H l) : Own K B H (.ims [] (([] : List (List Int)).map tI) :: l) := L.addIms .nil
theorem newT {K : PySem.W.Frag} {B H : Hp} {l : List As} {p : Addr} {ns : List Int} (L : Own K B H l) (m : As.pt p (tupI ns) ∈ l) : Own K B H (.im (.ref p) (tI ns) :: l) := L.addIm (L.imI m)
theorem catT {K : PySem.W.Frag} {B H : Hp} {l : List As} {vs us : List V} {ts rs : List (List Int)} (L : Own K B H l) (m : As.ims vs (ts.map tI) ∈ l) (m2 : As.ims us (rs.map tI) ∈ l) : Own K B H (.ims (vs ++ us) ((ts ++ rs).map tI) :: l) := L.addIms (by
  rw [List.map_append]
  exact ImmL.append (L.imms m) (L.imms m2))
theorem lenT {K : PySem.W.Frag} {B H : Hp} {l : List As} {vs : List V} {ts : List (List Int)} (L : Own K B H l) (m : As.ims vs (ts.map tI) ∈ l) : vs.length = ts.length := by
  have := (L.imms m).len
  rw [List.length_map] at this
  exact this
theorem dq_tks {K : PySem.W.Frag} {H : Hp} {a : Addr} {vs : List V} {ts : List (List Int)} (h : SqL K H a vs) (g : ImmL K H vs (ts.map tI)) : Dq K H (.ref a) (.list (ts.map fun t => .tuple (t.map PyData.int))) := ⟨.lst h g.dp, by simp only [Bel.plain]; exact plainAl_toks ts, by
  have := depthAll_toks ts
  simp only [PyData.depth]
  omega⟩
/-- an item of a list of tuples -/
theorem itemT {K : PySem.W.Frag} {B H : Hp} {l : List As} {vs : List V} {ts : List (List Int)} (L : Own K B H l) (m : As.ims vs (ts.map tI) ∈ l) {k : Nat} {v : V} (hx : vs[k]? = some v) : ∃ t r, ts[k]? = some t ∧ v = .ref r ∧ SqT K H r (t.map V.int) := by
  obtain ⟨dd, hdd, im⟩ := ImmL.get (L.imms m) hx
  rw [List.getElem?_map] at hdd
  obtain ⟨tt, htt, rfl⟩ := Option.map_eq_some_iff.mp hdd
  obtain ⟨r, rfl, hr⟩ := Imm.of_ints im
  exact ⟨tt, r, htt, rfl, hr⟩
end Bel

namespace Bel
open PySem PySem.Spec PyProof.Rows L2
/-! ### a dict of the module with ints for keys -/
/-- the address that stands at the entry i of the module's dict x -/
def dvA (x : Str) (i : Nat) (K : PySem.W.Frag) : Addr := match K.lookup (He.ga K x) with
  | some ⟨_, _, .dict es _, _⟩ => (match es.toList[i]? with
    | some e => (match e.val with
      | .ref a => a
      | _ => 0)
    | _ => 0)
  | _ => 0
def entB (K : PySem.W.Frag) : List DictEntry → List (Int × He.Dv) → Bool
  | [], [] => true
  | e :: r, q :: s => (match e.key with
    | .int i _ => decide (i = q.1)
    | _ => false) && (decide (e.hash = hashInt q.1) && (He.relB (q.2.v K) e.val && entB K r s))
  | _, _ => false
def gdB (K : PySem.W.Frag) (x : Str) (kvs : List (Int × He.Dv)) : Bool := match K.lookup (He.ga K x) with
  | some ⟨.type c, none, .dict es _, sl⟩ => decide (c = "dict") && (sl.isEmpty && (!(He.ga K x == sysModules) && (entB K es.toList kvs && decide ((kvs.map (·.1)).Nodup))))
  | _ => false
/-- its entries, as the walk sees them -/
def gkv (K : PySem.W.Frag) (kvs : List (Int × He.Dv)) : List (Key × V) := kvs.map fun q => (Sum.inl q.1, q.2.v K)
theorem entB_ok {P : Program} {w : World} {K : PySem.W.Frag} : ∀ {es : List DictEntry} {kvs : List (Int × He.Dv)}, entB K es kvs = true →
    ∃ vs, KV (gkv K kvs) vs ∧ Pairs (mixKind P w) es vs ∧ (∀ e ∈ es, ∃ k, (mixKind P w).is k e.key = true ∧ e.hash = (mixKind P w).hash k) ∧ vs.map (·.1) = kvs.map fun q => Sum.inl q.1
  | [], [], _ => ⟨[], .nil, .nil, (fun _ h => nomatch h), rfl⟩
  | [], _ :: _, h => by cases h
  | _ :: _, [], h => by cases h
  | e :: r, q :: s, h => by
    unfold entB at h
    obtain ⟨h1, h⟩ := ba h
    obtain ⟨h2, h⟩ := ba h
    obtain ⟨h3, h4⟩ := ba h
    obtain ⟨vs, g1, g2, g3, g4⟩ := entB_ok (P := P) (w := w) h4
    have hk : (mixKind P w).is (Sum.inl q.1) e.key = true := by
      cases ek : e.key with
      | int i t =>
        rw [ek] at h1
        have := of_decide_eq_true h1
        subst this
        exact mixKind_int P w _ t
      | _ =>
        rw [ek] at h1
        cases h1
    refine ⟨(Sum.inl q.1, e.val) :: vs, .cons ⟨rfl, He.relB_ok h3⟩ g1, .cons hk rfl g2, fun e' he => ?_, ?_⟩
    · rcases List.mem_cons.mp he with rfl | he
      · exact ⟨_, hk, of_decide_eq_true h2⟩
      · exact g3 e' he
    · rw [List.map_cons, List.map_cons, g4]
/-- what a dict of the module tells -/
structure GDct (K : PySem.W.Frag) (x : Str) (kvs : List (Int × He.Dv)) : Prop where
  low : (He.ga K x == sysModules) = false
  get : ∀ (P : Program) (w : World) (h : Heap), K.In h → ∃ vs, KV (gkv K kvs) vs ∧ h.DictOf (mixKind P w) (He.ga K x) vs
theorem gdB_ok {K : PySem.W.Frag} {x : Str} {kvs : List (Int × He.Dv)} (c : gdB K x kvs = true) : GDct K x kvs := by
  unfold gdB at c
  split at c
  · rename_i c' es ep sl at_
    obtain ⟨c1, c⟩ := ba c
    obtain ⟨c2, c⟩ := ba c
    obtain ⟨c3, c⟩ := ba c
    obtain ⟨c4, c5⟩ := ba c
    have e1 := of_decide_eq_true c1
    subst e1
    have e2 : sl = #[] := Array.isEmpty_iff.mp c2
    subst e2
    refine ⟨?_, fun P w h X => ?_⟩
    · cases z : He.ga K x == sysModules with
      | false => rfl
      | true =>
        rw [z] at c3
        cases c3
    · obtain ⟨vs, g1, g2, g3, g4⟩ := entB_ok (P := P) (w := w) c4
      refine ⟨vs, g1, _, es, ep, X _ _ at_, ⟨rfl, rfl, rfl⟩, rfl, fun e he => g3 e (by simpa using he), g2, ?_⟩
      rw [g4]
      have hn := of_decide_eq_true c5
      have : (kvs.map fun q => (Sum.inl q.1 : Key)) = (kvs.map (·.1)).map Sum.inl := by
        rw [List.map_map]
        rfl
      rw [this]
      exact List.Pairwise.map _ (fun a b n e => n (Sum.inl.inj e)) hn
  · cases c
/-- d.get(k, e), d the module's -/
def tGget (K : PySem.W.Frag) (x : Str) (kvs : List (Int × He.Dv)) (td ty tx : TE) : TE := fun σ H Q => td σ H fun v H1 => v = .ref (He.ga K x) ∧ ty σ H1 fun y H2 => tx σ H2 fun z H3 => ∃ i, y = .int i ∧ Q ((valV (gkv K kvs) (.inl i)).getD z) H3
theorem pe_gget2 {X : Cx} {x : Str} {kvs : List (Int × He.Dv)} {o e f : Expr} {td ty tx : TE} {apos cpos : Pos} (K : PySem.W.Frag) (D : GDct K x kvs) (ho : PE X o td) (he : PE X e ty) (hf : PE X f tx) (m : M2 X o "get" apos e f cpos) (hK : X.K = K := by rfl) :
    PE X (.Call (.Attribute o "get" apos) [e, f] [] cpos) (tGget K x kvs td ty tx) := by
  subst hK
  refine ⟨fun pins s σ H Q I h => ?_⟩
  refine wpAny_Call_method m.base m.few m.line PySem.F.plainAttrs_dict PySem.F.slot_dict_get PySem.F.type_dict_get (thn (ho.run pins s σ H _ I h) fun u s1 ⟨v, H1, I1, rx, ex, q1⟩ => ?_)
  subst ex
  obtain rfl : u = Value.ref (He.ga X.K x) := rx
  obtain ⟨vs, rel, dd⟩ := D.get X.prog X.w s1.heap I1.kIn
  refine ⟨dd.typeIs, fun b q => ?_, ?_⟩
  · cases q
    obtain ⟨ob, _, _, h1, h2, _⟩ := dd
    exact ⟨ob, h1, h2.2.1⟩
  rw [m.trees]
  refine Calls.callWith_builtin rfl (Calls.evalArgs_plain (Calls.spliced_cons (thn (he.run pins s1 σ H1 _ I1 q1) fun iv s2 ⟨y, H2, I2, ry, q2⟩ =>
    Calls.spliced_cons (thn (hf.run pins s2 σ H2 _ I2 q2) fun fv s3 ⟨z, H3, I3, rz, i, ey, q3⟩ => Calls.spliced_nil ?_))))
  subst ey
  obtain ⟨vs, rel, dd⟩ := D.get X.prog X.w s3.heap I3.kIn
  refine call_meetsIn PySem.F.slot_dict_get dd.typeIs PySem.F.entry_dict_get (PySem.F.args_dict_get_3 _ _ _) (meets_dict_get_default (mixKind X.prog X.w) (He.ga X.K x) (kV_is (k := Sum.inl i) ry) D.low fv) ⟨_, dd.mapOf, ?_⟩
  exact ⟨_, H3, I3.tok _, (rel.val (Sum.inl i)).getD rz, q3⟩
theorem n_gget {K : PySem.W.Frag} {x : Str} {kvs : List (Int × He.Dv)} {td ty tx : TE} {σ : L2.St} {H : Hp} {Q : VK} : tGget K x kvs td ty tx σ H Q = td σ H (fun v H1 => v = .ref (He.ga K x) ∧ ty σ H1 (fun y H2 => tx σ H2 (fun z H3 => ∃ i, y = .int i ∧ Q ((valV (gkv K kvs) (.inl i)).getD z) H3))) := rfl
end Bel
namespace Bel
open PySem PySem.Spec PyProof.Rows L2
/-! ### comprehensions that make tuples of ints -/
def CTe (K : PySem.W.Frag) (B : Hp) (D : Addr) (l : List As) (R : List (List Int) → Prop) (y : V) (H4 : Hp) : Prop :=
  ∃ acc, H4 D = some (.lst acc) ∧ acc.length < sizeLine ∧ ∃ vs ts, Own K B (upd H4 D (.lst (acc ++ [y]))) (.pt D (.lst vs) :: .ims vs (ts.map tI) :: l) ∧ R ts
theorem cte {K : PySem.W.Frag} {B : Hp} {D : Addr} {l : List As} {R : List (List Int) → Prop} {vs : List V} {ts : List (List Int)} {v : V} {t : List Int} {H4 : Hp} (L : Own K B H4 (.im v (tI t) :: .pt D (.lst vs) :: .ims vs (ts.map tI) :: l)) (hn : ts.length < 100000) (r : R (ts ++ [t])) : CTe K B D l R v H4 := by
  have hl := lenT L (vs := vs) (ts := ts) (mem_there (mem_there mem_here))
  refine ⟨vs, L.get (mem_there mem_here), by rw [sizeLine_eq]; omega, vs ++ [v], ts ++ [t], ?_, r⟩
  have L2 := L.put (o' := .lst (vs ++ [v])) rfl (.there .here)
  have L3 := L2.addIms (vs := vs ++ [v]) (ds := (ts ++ [t]).map tI) (by
    rw [List.map_append]
    exact ImmL.snoc (L2.imms (vs := vs) (ds := ts.map tI) (mem_there (mem_there mem_here))) (L2.imm (v := v) (d := tI t) mem_here))
  have L4 := L3.sub (l' := .ims (vs ++ [v]) ((ts ++ [t]).map tI) :: .pt D (.lst (vs ++ [v])) :: l) (List.Sublist.cons_cons _ (List.Sublist.cons _ (List.Sublist.cons_cons _ (List.Sublist.cons _ (List.Sublist.refl _)))))
  exact L4.perm (List.Perm.swap _ _ _)
theorem compLT {K : PySem.W.Frag} {B H : Hp} {l : List As} {te : TE} {σ : L2.St} {a : Addr} {xs : List V} {g : TG} {vs : List Nat} {Q : Addr → Hp → Prop} (R : Nat → List (List Int) → Prop) (L : Own K B H l) (h0 : R 0 [])
    (hk : ∀ H', Own K B H' l → SqL K H' a xs)
    (hs : ∀ i x D us ts H1, xs[i]? = some x → R i ts → Own K B H1 (.pt D (.lst us) :: .ims us (ts.map tI) :: l) → g x (wipe σ vs) H1 fun σ2 H2 => wipe σ2 vs = wipe σ vs ∧ te σ2 H2 (CTe K B D l (R (i + 1))))
    (hd : ∀ D us ts H', R xs.length ts → Own K B H' (.pt D (.lst us) :: .ims us (ts.map tI) :: l) → Q D H') : ∀ D, H D = none → CompI (Itl K a) g tYes te vs σ H D (Q D) := by
  intro D hD
  refine comp_list (xs := xs) (fun i H' => ∃ us ts, Own K B H' (.pt D (.lst us) :: .ims us (ts.map tI) :: l) ∧ R i ts) ⟨[], [], ((L.new hD (.lst [])).addIms (vs := []) (ds := ([] : List (List Int)).map tI) .nil).perm (List.Perm.swap _ _ _), h0⟩ (fun i H' _ ⟨_, _, h, _⟩ => hk H' h.drop1.drop1) (fun i x H' hx ⟨us, ts, h, r⟩ => ?_) (fun H' ⟨us, ts, h, r⟩ => hd D us ts H' r h)
  exact hs i x D us ts H' hx r h
theorem comp_enum {K : PySem.W.Frag} {te : TE} {tA : TT} {σ : L2.St} {H : Hp} {a : Addr} {xs : List V} {g : TG} {vs : List Nat} {D : Addr} {Qd : Hp → Prop} (Pv : Nat → Hp → Prop) (h0 : Pv 0 (upd H D (.lst []))) (hl : ∀ i H, i ≤ xs.length → Pv i H → SqL K H a xs)
    (hs : ∀ i x H T, xs[i]? = some x → Pv i H → H T = none → g (.ref T) (wipe σ vs) (upd H T (.tup [.int (i : Nat), x])) fun σ2 H2 => wipe σ2 vs = wipe σ vs ∧ tA σ2 H2 fun b H3 =>
      if b = true then te σ2 H3 fun y H4 => ∃ acc, H4 D = some (.lst acc) ∧ acc.length < sizeLine ∧ Pv (i + 1) (upd H4 D (.lst (acc ++ [y]))) else Pv (i + 1) H3) (hd : ∀ H, Pv xs.length H → Qd H) : CompI (Ite K a) g tA te vs σ H D Qd := by
  refine ⟨fun i left H => left = xs.length - i ∧ i ≤ xs.length ∧ Pv i H, ⟨xs.length, by omega, by omega, h0⟩, ?_⟩
  rintro i left H ⟨rfl, hi, p⟩
  have q := hl i H hi p
  by_cases hlt : i < xs.length
  · refine .inr ⟨⟨xs, xs[i], q, List.getElem?_eq_getElem hlt⟩, Pv (i + 1), fun G p' => ⟨xs.length - (i + 1), by omega, rfl, hlt, p'⟩, fun x H' y => ?_⟩
    obtain ⟨T, x2, e1, hT, e2, y⟩ := y
    subst e1; subst e2
    exact hs i x2 H T (y xs q) p hT
  · obtain rfl : i = xs.length := Nat.le_antisymm hi (by omega)
    exact .inl ⟨⟨xs, q, Nat.le_refl _⟩, hd H p⟩
theorem compET {K : PySem.W.Frag} {B H : Hp} {l : List As} {te : TE} {σ : L2.St} {a : Addr} {xs : List V} {g : TG} {vs : List Nat} {Q : Addr → Hp → Prop} (R : Nat → List (List Int) → Prop) (L : Own K B H l) (h0 : R 0 [])
    (hk : ∀ H', Own K B H' l → SqL K H' a xs)
    (hs : ∀ i x D us ts T H1, xs[i]? = some x → R i ts → Own K B H1 (.pt T (.tup [.int (i : Nat), x]) :: .pt D (.lst us) :: .ims us (ts.map tI) :: l) → g (.ref T) (wipe σ vs) H1 fun σ2 H2 => wipe σ2 vs = wipe σ vs ∧ te σ2 H2 (CTe K B D l (R (i + 1))))
    (hd : ∀ D us ts H', R xs.length ts → Own K B H' (.pt D (.lst us) :: .ims us (ts.map tI) :: l) → Q D H') : ∀ D, H D = none → CompI (Ite K a) g tYes te vs σ H D (Q D) := by
  intro D hD
  refine comp_enum (xs := xs) (fun i H' => ∃ us ts, Own K B H' (.pt D (.lst us) :: .ims us (ts.map tI) :: l) ∧ R i ts) ⟨[], [], ((L.new hD (.lst [])).addIms (vs := []) (ds := ([] : List (List Int)).map tI) .nil).perm (List.Perm.swap _ _ _), h0⟩ (fun i H' _ ⟨_, _, h, _⟩ => hk H' h.drop1.drop1) (fun i x H' T hx ⟨us, ts, h, r⟩ hT => ?_) (fun H' ⟨us, ts, h, r⟩ => hd D us ts H' r h)
  exact hs i x D us ts T _ hx r (h.new hT _)
/-! ### `<` of tuples of ints -/
theorem n_rLtT {K : PySem.W.Frag} {x y : V} {H : Hp} {Q : VK} : rLtT K x y H Q = ∃ a b ns ms, x = .ref a ∧ y = .ref b ∧ SqT K H a (ns.map V.int) ∧ SqT K H b (ms.map V.int) ∧ Q (.bl (HT.lexLt ns ms)) H := by
  first | rfl | (unfold rLtT; rfl)
theorem ltT_ints {K : PySem.W.Frag} {x y : V} {H : Hp} {Q : VK} {a b : Addr} {ns ms : List Int} (hx : x = .ref a) (hy : y = .ref b) (h1 : SqT K H a (ns.map V.int)) (h2 : SqT K H b (ms.map V.int)) (q : Q (.bl (HT.lexLt ns ms)) H) : rLtT K x y H Q := by
  rw [n_rLtT]
  exact ⟨a, b, ns, ms, hx, hy, h1, h2, q⟩
end Bel

namespace K41
open PySem PySem.Spec PyProof.Rows L2 Bel
abbrev topS (i : Nat) : Stmt := PySem.Challenge.pw_bellows_k41_fewest_rows.main.body.getD i (.Pass ⟨0, 0, 0, 0⟩)
abbrev s__law_draws : Stmt := topS 16
abbrev N__law_draws : List Str := ["script", "draws", "k", "rest", "turn", "mixed"]
theorem sc__law_draws : FnScope N__law_draws ["script"] (defScope s__law_draws) := ⟨rfl, rfl, rfl, by decide +kernel, rfl, by decide +kernel, by decide +kernel⟩
abbrev s__law_at : Stmt := topS 17
abbrev N__law_at : List Str := ["draws", "k", "many"]
theorem sc__law_at : FnScope N__law_at ["draws", "k", "many"] (defScope s__law_at) := ⟨rfl, rfl, rfl, by decide +kernel, rfl, by decide +kernel, by decide +kernel⟩
abbrev s__law_is_integer : Stmt := topS 18
abbrev N__law_is_integer : List Str := ["actual"]
theorem sc__law_is_integer : FnScope N__law_is_integer ["actual"] (defScope s__law_is_integer) := ⟨rfl, rfl, rfl, by decide +kernel, rfl, by decide +kernel, by decide +kernel⟩
abbrev s_row_parts : Stmt := topS 5
abbrev N_row_parts : List Str := ["symbol"]
theorem sc_row_parts : FnScope N_row_parts ["symbol"] (defScope s_row_parts) := ⟨rfl, rfl, rfl, by decide +kernel, rfl, by decide +kernel, by decide +kernel⟩
abbrev s__row : Stmt := topS 14
abbrev N__row : List Str := ["length", "portion", "can_repeat", "symbol"]
theorem sc__row : FnScope N__row ["length", "portion", "can_repeat"] (defScope s__row) := ⟨rfl, rfl, rfl, by decide +kernel, rfl, by decide +kernel, by decide +kernel⟩
abbrev s__portions : Stmt := topS 13
abbrev N__portions : List Str := ["size", "most", "portions", "portion"]
theorem sc__portions : FnScope N__portions ["size", "most"] (defScope s__portions) := ⟨rfl, rfl, rfl, by decide +kernel, rfl, by decide +kernel, by decide +kernel⟩
abbrev s__rows_of_run : Stmt := topS 12
abbrev N__rows_of_run : List Str := ["length", "size", "portions", "portion", "index"]
theorem sc__rows_of_run : FnScope N__rows_of_run ["length", "size"] (defScope s__rows_of_run) := ⟨rfl, rfl, rfl, by decide +kernel, rfl, by decide +kernel, by decide +kernel⟩
abbrev s__run_size : Stmt := topS 11
abbrev N__run_size : List Str := ["lengths", "start", "index"]
theorem sc__run_size : FnScope N__run_size ["lengths", "start"] (defScope s__run_size) := ⟨rfl, rfl, rfl, by decide +kernel, rfl, by decide +kernel, by decide +kernel⟩
abbrev s_rows_of : Stmt := topS 10
abbrev N_rows_of : List Str := ["lengths", "rows", "index", "size"]
theorem sc_rows_of : FnScope N_rows_of ["lengths"] (defScope s_rows_of) := ⟨rfl, rfl, rfl, by decide +kernel, rfl, by decide +kernel, by decide +kernel⟩
abbrev s__law_lengths : Stmt := topS 19
abbrev N__law_lengths : List Str := ["draws", "lengths", "k", "value", "size", "turn"]
theorem sc__law_lengths : FnScope N__law_lengths ["draws"] (defScope s__law_lengths) := ⟨rfl, rfl, rfl, by decide +kernel, rfl, by decide +kernel, by decide +kernel⟩
abbrev s__law_run : Stmt := topS 20
abbrev N__law_run : List Str := ["lengths", "at", "value", "size"]
theorem sc__law_run : FnScope N__law_run ["lengths", "at", "value"] (defScope s__law_run) := ⟨rfl, rfl, rfl, by decide +kernel, rfl, by decide +kernel, by decide +kernel⟩
abbrev s__law_options : Stmt := topS 21
abbrev N__law_options : List Str := ["lengths", "at", "out", "size", "zeros"]
theorem sc__law_options : FnScope N__law_options ["lengths", "at"] (defScope s__law_options) := ⟨rfl, rfl, rfl, by decide +kernel, rfl, by decide +kernel, by decide +kernel⟩
abbrev s__law_best : Stmt := topS 22
abbrev N__law_best : List Str := ["lengths", "many", "k", "first", "turn", "at", "best", "size", "symbol", "extra", "rank", "rows"]
theorem sc__law_best : FnScope N__law_best ["lengths"] (defScope s__law_best) := ⟨rfl, rfl, rfl, by decide +kernel, rfl, by decide +kernel, by decide +kernel⟩
abbrev s_law : Stmt := topS 23
abbrev N_law : List Str := ["script", "lengths", "kept", "rows", "row"]
theorem sc_law : FnScope N_law ["script"] (defScope s_law) := ⟨rfl, rfl, rfl, by decide +kernel, rfl, by decide +kernel, by decide +kernel⟩
theorem st__law_draws {v0 : V} : L2.start N__law_draws [v0] = [some v0, none, none, none, none, none] := rfl
theorem st__law_at {v0 v1 v2 : V} : L2.start N__law_at [v0, v1, v2] = [some v0, some v1, some v2] := rfl
theorem st__law_is_integer {v0 : V} : L2.start N__law_is_integer [v0] = [some v0] := rfl
theorem st_row_parts {v0 : V} : L2.start N_row_parts [v0] = [some v0] := rfl
theorem st__row {v0 v1 v2 : V} : L2.start N__row [v0, v1, v2] = [some v0, some v1, some v2, none] := rfl
theorem st__portions {v0 v1 : V} : L2.start N__portions [v0, v1] = [some v0, some v1, none, none] := rfl
theorem st__rows_of_run {v0 v1 : V} : L2.start N__rows_of_run [v0, v1] = [some v0, some v1, none, none, none] := rfl
theorem st__run_size {v0 v1 : V} : L2.start N__run_size [v0, v1] = [some v0, some v1, none] := rfl
theorem st_rows_of {v0 : V} : L2.start N_rows_of [v0] = [some v0, none, none, none] := rfl
theorem st__law_lengths {v0 : V} : L2.start N__law_lengths [v0] = [some v0, none, none, none, none, none] := rfl
theorem st__law_run {v0 v1 v2 : V} : L2.start N__law_run [v0, v1, v2] = [some v0, some v1, some v2, none] := rfl
theorem st__law_options {v0 v1 : V} : L2.start N__law_options [v0, v1] = [some v0, some v1, none, none, none] := rfl
theorem st__law_best {v0 : V} : L2.start N__law_best [v0] = [some v0, none, none, none, none, none, none, none, none, none, none, none] := rfl
theorem st_law {v0 : V} : L2.start N_law [v0] = [some v0, none, none, none, none] := rfl
structure Tx (K : PySem.W.Frag) (mg : Str → Option Value) : Prop where
  b_abs : mg "abs" = none
  b_bool : mg "bool" = none
  b_enumerate : mg "enumerate" = none
  b_int : mg "int" = none
  b_isinstance : mg "isinstance" = none
  b_len : mg "len" = none
  b_list : mg "list" = none
  b_min : mg "min" = none
  b_range : mg "range" = none
  b_tuple : mg "tuple" = none
  c_REPEAT_LAST : ∃ u, mg "REPEAT_LAST" = some u ∧ RelV (.int (16)) u
  c_FEW_ZEROS : ∃ u, mg "FEW_ZEROS" = some u ∧ RelV (.int (17)) u
  c_MANY_ZEROS : ∃ u, mg "MANY_ZEROS" = some u ∧ RelV (.int (18)) u
  c__REPEATS : ∃ u, mg "_REPEATS" = some u ∧ RelV (.ref (He.ga K "_REPEATS")) u
  gd__REPEATS : GDct K "_REPEATS" ([(16, .adr (dvA "_REPEATS" 0)), (17, .adr (dvA "_REPEATS" 1)), (18, .adr (dvA "_REPEATS" 2))] : List (Int × He.Dv))
  gt__REPEATS0 : ∀ H, SqT K H (dvA "_REPEATS" 0 K) (([.int (2), .int (3)] : List He.Dv).map (He.Dv.v K))
  gt__REPEATS1 : ∀ H, SqT K H (dvA "_REPEATS" 1 K) (([.int (3), .int (3)] : List He.Dv).map (He.Dv.v K))
  gt__REPEATS2 : ∀ H, SqT K H (dvA "_REPEATS" 2 K) (([.int (7), .int (11)] : List He.Dv).map (He.Dv.v K))
  c__MOST_REPEATED : ∃ u, mg "_MOST_REPEATED" = some u ∧ RelV (.int (6)) u
  c__MOST_FEW_ZEROS : ∃ u, mg "_MOST_FEW_ZEROS" = some u ∧ RelV (.int (10)) u
  c__MOST_MANY_ZEROS : ∃ u, mg "_MOST_MANY_ZEROS" = some u ∧ RelV (.int (138)) u
  d__law_draws : mg "_law_draws" = some (.ref (He.ga K "_law_draws")) ∧ ∃ fd, FunD K "_law_draws" "_law_draws" (defArgs s__law_draws) (defBody s__law_draws) (defScope s__law_draws) [] [] (He.ga K "_law_draws") fd
  d__law_at : mg "_law_at" = some (.ref (He.ga K "_law_at")) ∧ ∃ fd, FunD K "_law_at" "_law_at" (defArgs s__law_at) (defBody s__law_at) (defScope s__law_at) [] [] (He.ga K "_law_at") fd
  d__law_is_integer : mg "_law_is_integer" = some (.ref (He.ga K "_law_is_integer")) ∧ ∃ fd, FunD K "_law_is_integer" "_law_is_integer" (defArgs s__law_is_integer) (defBody s__law_is_integer) (defScope s__law_is_integer) [] [] (He.ga K "_law_is_integer") fd
  d_row_parts : mg "row_parts" = some (.ref (He.ga K "row_parts")) ∧ ∃ fd, FunD K "row_parts" "row_parts" (defArgs s_row_parts) (defBody s_row_parts) (defScope s_row_parts) [] [] (He.ga K "row_parts") fd
  d__row : mg "_row" = some (.ref (He.ga K "_row")) ∧ ∃ fd, FunD K "_row" "_row" (defArgs s__row) (defBody s__row) (defScope s__row) [] [] (He.ga K "_row") fd
  d__portions : mg "_portions" = some (.ref (He.ga K "_portions")) ∧ ∃ fd, FunD K "_portions" "_portions" (defArgs s__portions) (defBody s__portions) (defScope s__portions) [] [] (He.ga K "_portions") fd
  d__rows_of_run : mg "_rows_of_run" = some (.ref (He.ga K "_rows_of_run")) ∧ ∃ fd, FunD K "_rows_of_run" "_rows_of_run" (defArgs s__rows_of_run) (defBody s__rows_of_run) (defScope s__rows_of_run) [] [] (He.ga K "_rows_of_run") fd
  d__run_size : mg "_run_size" = some (.ref (He.ga K "_run_size")) ∧ ∃ fd, FunD K "_run_size" "_run_size" (defArgs s__run_size) (defBody s__run_size) (defScope s__run_size) [] [] (He.ga K "_run_size") fd
  d_rows_of : mg "rows_of" = some (.ref (He.ga K "rows_of")) ∧ ∃ fd, FunD K "rows_of" "rows_of" (defArgs s_rows_of) (defBody s_rows_of) (defScope s_rows_of) [] [] (He.ga K "rows_of") fd
  d__law_lengths : mg "_law_lengths" = some (.ref (He.ga K "_law_lengths")) ∧ ∃ fd, FunD K "_law_lengths" "_law_lengths" (defArgs s__law_lengths) (defBody s__law_lengths) (defScope s__law_lengths) [] [] (He.ga K "_law_lengths") fd
  d__law_run : mg "_law_run" = some (.ref (He.ga K "_law_run")) ∧ ∃ fd, FunD K "_law_run" "_law_run" (defArgs s__law_run) (defBody s__law_run) (defScope s__law_run) [] [] (He.ga K "_law_run") fd
  d__law_options : mg "_law_options" = some (.ref (He.ga K "_law_options")) ∧ ∃ fd, FunD K "_law_options" "_law_options" (defArgs s__law_options) (defBody s__law_options) (defScope s__law_options) [] [] (He.ga K "_law_options") fd
  d__law_best : mg "_law_best" = some (.ref (He.ga K "_law_best")) ∧ ∃ fd, FunD K "_law_best" "_law_best" (defArgs s__law_best) (defBody s__law_best) (defScope s__law_best) [] [] (He.ga K "_law_best") fd
  d_law : mg "law" = some (.ref (He.ga K "law")) ∧ ∃ fd, FunD K "law" "law" (defArgs s_law) (defBody s_law) (defScope s_law) [] [] (He.ga K "law") fd
end K41

namespace K41
open PySem PySem.Spec PyProof.Rows L2 Bel
local macro_rules | `(tactic| wtm_at "xs") => `(tactic| simp only [x_next, x_seq, x_brk, x_cont, x_drop, x_ret, x_retN, x_if, sel_t, sel_f, selE_t, selE_f, selT_t, selT_f, selC_t, selC_f, x_test, x_tB, x_op, x_un, x_var, x_c, x_cb, x_nil, x_cons, x_rI, x_rI0, x_rU, x_rEq, x_rNe, x_rIxL, x_rIxT, x_rSlL, x_rCat, x_rRep, x_rApp, x_bm, x_bm0, x_sl, x_nopart, x_part, x_tup, x_lst, x_call, x_callS, x_asg, x_gname, x_gtup, x_gnil, x_gcons, x_gsub, x_setL, x_aug, x_ipI, x_ipC, x_bits, x_getL, x_augS, x_and, x_or, x_not, x_k, x_andV, x_orV, x_notV, x_ife, x_chain, x_for, x_ilist, x_itup, x_ienum, x_irng1, x_irng2, x_irev, x_lc, x_yes, wipe_nil, wipe_cons, List.map_cons, List.map_nil, x_misc, x_misc2, x_rz, lookup_at, Bool.not_true, Bool.not_false, decide_true, decide_false, not_true, not_false_eq_true, and_assoc, exists_and_left, exists_eq_left', exists_eq_left, exists_eq', exists_eq_right', exists_eq_right, V.int.injEq, V.ref.injEq, V.bl.injEq, V.str.injEq, List.cons.injEq, and_true, true_and, and_self, Option.some.injEq, List.cons_append, List.nil_append, List.append_nil, List.getElem?_cons_zero, List.getElem?_cons_succ, List.set_cons_zero, List.set_cons_succ, reduceCtorEq, false_and, and_false, exists_false, exists_const, or_false, false_or, scal_ii, scal_bb, scal_ss, List.length_cons, List.length_nil, Int.reduceToNat, Int.reducePow])
local macro_rules | `(tactic| k_call_by "xs" $h:term) => `(tactic| simp only [$h:term, x_next, x_seq, x_brk, x_cont, x_drop, x_ret, x_retN, x_if, sel_t, sel_f, selE_t, selE_f, selT_t, selT_f, selC_t, selC_f, x_test, x_tB, x_op, x_un, x_var, x_c, x_cb, x_nil, x_cons, x_rI, x_rI0, x_rU, x_rEq, x_rNe, x_rIxL, x_rIxT, x_rSlL, x_rCat, x_rRep, x_rApp, x_bm, x_bm0, x_sl, x_nopart, x_part, x_tup, x_lst, x_call, x_callS, x_asg, x_gname, x_gtup, x_gnil, x_gcons, x_gsub, x_setL, x_aug, x_ipI, x_ipC, x_bits, x_getL, x_augS, x_and, x_or, x_not, x_k, x_andV, x_orV, x_notV, x_ife, x_chain, x_for, x_ilist, x_itup, x_ienum, x_irng1, x_irng2, x_irev, x_lc, x_yes, wipe_nil, wipe_cons, List.map_cons, List.map_nil, x_misc, x_misc2, x_rz, lookup_at, Bool.not_true, Bool.not_false, decide_true, decide_false, not_true, not_false_eq_true, and_assoc, exists_and_left, exists_eq_left', exists_eq_left, exists_eq', exists_eq_right', exists_eq_right, V.int.injEq, V.ref.injEq, V.bl.injEq, V.str.injEq, List.cons.injEq, and_true, true_and, and_self, Option.some.injEq, List.cons_append, List.nil_append, List.append_nil, List.getElem?_cons_zero, List.getElem?_cons_succ, List.set_cons_zero, List.set_cons_succ, reduceCtorEq, false_and, and_false, exists_false, exists_const, or_false, false_or, scal_ii, scal_bb, scal_ss, List.length_cons, List.length_nil, Int.reduceToNat, Int.reducePow])
local macro_rules | `(tactic| wtm_at "hp") => `(tactic| first | (with_reducible assumption) | exact upd_same | (refine upd_keep (by with_reducible assumption) ?_; wtm_at "hp") | (refine Same.get (by with_reducible assumption) ?_; wtm_at "hp") | (refine upd_other (by first | (with_reducible assumption) | exact Ne.symm (by with_reducible assumption)) ?_; wtm_at "hp"))
local macro_rules | `(tactic| wtm_at "sq") => `(tactic| first | (with_reducible assumption) | exact SqL.of (by wtm_at "hp") | exact SqT.of (by wtm_at "hp") | (refine Same.seq (same_upd (by with_reducible assumption)) ?_; wtm_at "sq") | (refine Same.seq (by with_reducible assumption) ?_; wtm_at "sq") | (refine Same.seqT (same_upd (by with_reducible assumption)) ?_; wtm_at "sq") | (refine Same.seqT (by with_reducible assumption) ?_; wtm_at "sq"))
local macro_rules | `(tactic| wtm_at "cl") => `(tactic| first | (with_reducible assumption) | omega | (exact cmul_r (by omega) (by omega)) | (exact cmul_l (by omega) (by omega)) | (exact cdiv_ok (by omega) (by omega)) | (exact cpow_ok (by decide)) | (exact ⟨by omega, by omega, by omega⟩) | decide | (exact ⟨by omega, by omega⟩) | (simp only [List.length_append, List.length_map, List.length_set, List.length_cons, List.length_nil, rngL_len, sizeLine_eq]; omega) | wtm_at "hp" | wtm_at "sq")
local macro_rules | `(tactic| wtm_at "pf") => `(tactic| first | (with_reducible assumption) | omega | (simp only [List.length_append, List.length_map, List.length_set, List.length_cons, List.length_nil, rngL_len]; omega) | (with_reducible rfl) | (with_reducible trivial) | (with_reducible decide))
local macro_rules | `(tactic| wtm_at "st") => `(tactic| first | ((with_reducible refine g_isi ?_); first | (with_reducible refine isi_ii ?_) | (with_reducible refine isi_ib ?_) | (refine isi_int rfl ?_) | (refine isi_lst rfl (by wtm_at "hp") ?_) | (refine isi_tup rfl (by wtm_at "hp") ?_)) | ((with_reducible refine g_ned ?_); refine ned_f (dq_lst (by wtm_at "sq")) (dq_lst (by wtm_at "sq")) ?_) | ((with_reducible refine g_eqd ?_); refine eqd_t (dq_lst (by wtm_at "sq")) (dq_lst (by wtm_at "sq")) ?_) | ((with_reducible refine g_tyv ?_); refine and_tyv (by wtm_at "sq") ?_) | ((with_reducible refine g_asq ?_); refine and_sq (by wtm_at "sq") ?_) | ((with_reducible refine g_lst ?_); refine ex_lst (by wtm_at "hp") ?_) | ((with_reducible refine g_or ?_); first | (refine ex_or (by wtm_at "sq") ?_) | (refine ex_ort (by wtm_at "sq") ?_)) | ((with_reducible refine g_sq ?_); refine ex_sq (by wtm_at "sq") ?_) | ((with_reducible refine g_sqt ?_); refine ex_sqt (by wtm_at "sq") ?_) | ((with_reducible refine gd_sel ?_); first | (refine sel_p (by wtm_at "pf") ?_) | (refine sel_n (by wtm_at "pf") ?_)) | ((with_reducible refine gn_sel ?_); first | (refine selN_p (by wtm_at "pf") ?_) | (refine selN_n (by wtm_at "pf") ?_)) | ((with_reducible refine gd_selT ?_); first | (refine selT_p (by wtm_at "pf") ?_) | (refine selT_n (by wtm_at "pf") ?_)) | ((with_reducible refine gn_selT ?_); first | (refine selTN_p (by wtm_at "pf") ?_) | (refine selTN_n (by wtm_at "pf") ?_)) | ((with_reducible refine gd_selE ?_); first | (refine selE_p (by wtm_at "pf") ?_) | (refine selE_n (by wtm_at "pf") ?_)) | ((with_reducible refine gn_selE ?_); first | (refine selEN_p (by wtm_at "pf") ?_) | (refine selEN_n (by wtm_at "pf") ?_)) | ((with_reducible refine g_xf ?_); refine xf_at rfl (by wtm_at "hp") ?_) | ((with_reducible refine g_atI ?_); refine ex_at (by first | exact rfl | exact atI_int (by omega) (by wtm_at "pf") | exact atI_end (by wtm_at "pf")) ?_) | ((with_reducible refine g_and ?_); refine And.intro (by wtm_at "cl") ?_) | ((with_reducible refine g_new ?_); intro _ _))
local macro_rules | `(tactic| wtm_at "go") => `(tactic| repeat (first | wtm_at "xs" | wtm_at "st"))
local macro_rules | `(tactic| wtm_at "xo") => `(tactic| simp only [x_next, x_seq, x_brk, x_cont, x_drop, x_ret, x_retN, x_if, sel_t, sel_f, selE_t, selE_f, selT_t, selT_f, selC_t, selC_f, x_test, x_tB, x_op, x_un, x_var, x_c, x_cb, x_nil, x_cons, x_rI, x_rI0, x_rU, x_rEq, x_rNe, x_rIxL, x_rIxT, n_rSlL, n_rCat, n_rRep, n_rApp, x_bm, x_bm0, x_sl, x_nopart, x_part, n_tup, n_lst, x_call, x_callS, x_asg, x_gname, x_gtup, x_gnil, x_gcons, x_gsub, n_setL, x_aug, x_ipI, x_ipC, x_bits, x_getL, x_augS, x_and, x_or, x_not, x_k, x_andV, x_orV, x_notV, x_ife, x_chain, x_for, x_ilist, x_itup, x_ienum, x_irng1, x_irng2, x_irev, x_lc, x_yes, wipe_nil, wipe_cons, List.map_cons, List.map_nil, x_misc, x_misc2, x_rz, lookup_at, Bool.not_true, Bool.not_false, decide_true, decide_false, not_true, not_false_eq_true, and_assoc, exists_and_left, exists_eq_left', exists_eq_left, exists_eq', exists_eq_right', exists_eq_right, V.int.injEq, V.ref.injEq, V.bl.injEq, V.str.injEq, List.cons.injEq, and_true, true_and, and_self, Option.some.injEq, List.cons_append, List.nil_append, List.append_nil, List.getElem?_cons_zero, List.getElem?_cons_succ, List.set_cons_zero, List.set_cons_succ, reduceCtorEq, false_and, and_false, exists_false, exists_const, or_false, false_or, scal_ii, scal_bb, scal_ss, List.length_cons, List.length_nil, Int.reduceToNat, Int.reducePow, n_fld, n_sfld, n_aug, n_meth, n_mw, n_make, n_kw, n_rLs, n_dcp, n_gget, n_rLtT, n_ext, n_revL, n_rTp, t_im, ints_rev, t_s1, t_i1, t_i2, t_i3, t_i4, t_i5, x_chain3, x_irng3, x_irevR, x_rg1, x_rg2, ints_cat, ints_app1, ints_len, ints_take, ints_drop, rep_one])
local macro_rules | `(tactic| k_call_by "xo" $h:term) => `(tactic| simp only [$h:term, x_next, x_seq, x_brk, x_cont, x_drop, x_ret, x_retN, x_if, sel_t, sel_f, selE_t, selE_f, selT_t, selT_f, selC_t, selC_f, x_test, x_tB, x_op, x_un, x_var, x_c, x_cb, x_nil, x_cons, x_rI, x_rI0, x_rU, x_rEq, x_rNe, x_rIxL, x_rIxT, n_rSlL, n_rCat, n_rRep, n_rApp, x_bm, x_bm0, x_sl, x_nopart, x_part, n_tup, n_lst, x_call, x_callS, x_asg, x_gname, x_gtup, x_gnil, x_gcons, x_gsub, n_setL, x_aug, x_ipI, x_ipC, x_bits, x_getL, x_augS, x_and, x_or, x_not, x_k, x_andV, x_orV, x_notV, x_ife, x_chain, x_for, x_ilist, x_itup, x_ienum, x_irng1, x_irng2, x_irev, x_lc, x_yes, wipe_nil, wipe_cons, List.map_cons, List.map_nil, x_misc, x_misc2, x_rz, lookup_at, Bool.not_true, Bool.not_false, decide_true, decide_false, not_true, not_false_eq_true, and_assoc, exists_and_left, exists_eq_left', exists_eq_left, exists_eq', exists_eq_right', exists_eq_right, V.int.injEq, V.ref.injEq, V.bl.injEq, V.str.injEq, List.cons.injEq, and_true, true_and, and_self, Option.some.injEq, List.cons_append, List.nil_append, List.append_nil, List.getElem?_cons_zero, List.getElem?_cons_succ, List.set_cons_zero, List.set_cons_succ, reduceCtorEq, false_and, and_false, exists_false, exists_const, or_false, false_or, scal_ii, scal_bb, scal_ss, List.length_cons, List.length_nil, Int.reduceToNat, Int.reducePow, n_fld, n_sfld, n_aug, n_meth, n_mw, n_make, n_kw, n_rLs, n_dcp, n_gget, n_rLtT, n_ext, n_revL, n_rTp, t_im, ints_rev, t_s1, t_i1, t_i2, t_i3, t_i4, t_i5, x_chain3, x_irng3, x_irevR, x_rg1, x_rg2, ints_cat, ints_app1, ints_len, ints_take, ints_drop, rep_one])
local macro_rules | `(tactic| wtm_at "mem") => `(tactic| first | (with_reducible exact mem_here) | (with_reducible refine mem_there ?_; wtm_at "mem"))
local macro_rules | `(tactic| wtm_at "pp") => `(tactic| first | (with_reducible exact Put.here) | (with_reducible apply Put.there; wtm_at "pp"))
local macro_rules | `(tactic| wtm_at "ho") => `(tactic| first | (with_reducible assumption) | exact Own.get (by with_reducible assumption) (by wtm_at "mem") | exact Own.base (by with_reducible assumption) (by with_reducible assumption))
local macro_rules | `(tactic| wtm_at "qo") => `(tactic| first | (with_reducible assumption) | exact SqL.of (by wtm_at "ho") | exact sqT_tupI (by wtm_at "ho") | exact sqT_tupS (by wtm_at "ho") | exact SqT.of (by wtm_at "ho") | exact Own.imT (by with_reducible assumption) (by wtm_at "mem") | exact Own.sq (by with_reducible assumption) (by with_reducible assumption) | exact Own.sqT (by with_reducible assumption) (by with_reducible assumption))
local macro_rules | `(tactic| wtm_at "sub") => `(tactic| first | exact List.nil_sublist _ | (with_reducible refine List.Sublist.cons_cons _ ?_; wtm_at "sub") | (refine List.Sublist.cons _ ?_; wtm_at "sub"))
local macro_rules | `(tactic| wtm_at "co") => `(tactic| first | (with_reducible assumption) | omega | (exact cmul_r (by omega) (by omega)) | (exact cmul_l (by omega) (by omega)) | (exact cdiv_ok (by omega) (by omega)) | (exact cpow_ok (by decide)) | (exact ⟨by omega, by omega, by omega⟩) | decide | (exact ⟨by omega, by omega⟩) | (simp only [List.length_append, List.length_map, List.length_set, List.length_cons, List.length_nil, rngL_len, sizeLine_eq]; omega) | wtm_at "ho" | wtm_at "qo")
local macro_rules | `(tactic| wtm_at "so") => `(tactic| first | ((with_reducible refine g_dcp ?_); refine dcpI (by wtm_at "ho") ?_) | ((with_reducible refine g_asl ?_); refine And.intro (by rfl) ?_) | ((with_reducible refine g_asqT ?_); refine and_sqT (by wtm_at "qo") ?_) | ((with_reducible refine g_extO ?_); first | (refine extI (by with_reducible assumption) (by wtm_at "pp") (by wtm_at "co") (fun _ _ => ?_)) | (refine extO (by with_reducible assumption) (by wtm_at "pp") (by wtm_at "co") (fun _ _ => ?_))) | ((with_reducible refine g_tp ?_); first | (refine tp_l (by wtm_at "qo") ?_) | (refine tp_t (by wtm_at "qo") ?_)) | ((with_reducible refine g_fldO ?_); refine fldO (by wtm_at "ho") (by with_reducible assumption) (by wtm_at "mem") (by wtm_at "lk") ?_) | ((with_reducible refine g_fldC ?_); refine fldC (by wtm_at "ho") (by with_reducible assumption) (by wtm_at "mem") (by wtm_at "lk") ?_) | ((with_reducible refine g_putC ?_); refine putC (by with_reducible assumption) (by wtm_at "pp") (by wtm_at "pu") (by wtm_at "co") (fun _ _ => ?_)) | ((with_reducible refine g_stoO ?_); refine stoO (by with_reducible assumption) (by wtm_at "pp") (by wtm_at "pu") (by with_reducible assumption) (by wtm_at "mem") (by wtm_at "co") (fun _ _ => ?_)) | ((with_reducible refine g_metO ?_); refine metO (by wtm_at "ho") (by wtm_at "ln") ?_) | ((with_reducible refine g_makO ?_); refine makO (by with_reducible assumption) (fun _ _ _ _ => ?_)) | ((with_reducible refine g_sum ?_); refine sum_call (by wtm_at "qo") ?_) | ((with_reducible refine g_cq ?_); exact cq (by with_reducible assumption) (by simp only [rngL_len, List.length_map, List.length_take]; omega)) | ((with_reducible refine g_newO ?_); refine newO (by with_reducible assumption) (fun _ _ _ => ?_)) | ((with_reducible refine g_appO ?_); refine appI (by with_reducible assumption) (by wtm_at "pp") (by wtm_at "co") (fun _ _ => ?_)) | ((with_reducible refine g_setO ?_); refine setI (by with_reducible assumption) (by wtm_at "pp") (by omega) (by wtm_at "co") (fun _ _ => ?_)) | ((with_reducible refine g_appO ?_); refine appO (by with_reducible assumption) (by wtm_at "pp") (by wtm_at "co") (fun _ _ => ?_)) | ((with_reducible refine g_setO ?_); refine setO (by with_reducible assumption) (by wtm_at "pp") (by omega) (by wtm_at "co") (fun _ _ => ?_)) | ((with_reducible refine g_isi ?_); first | (with_reducible refine isi_ii ?_) | (with_reducible refine isi_ib ?_) | (refine isi_int rfl ?_) | (refine isi_sqL rfl (by wtm_at "qo") ?_) | (refine isi_sqT rfl (by wtm_at "qo") ?_) | (refine isi_bl rfl ?_) | (refine isi_non rfl ?_) | (refine isi_str rfl ?_)) | ((with_reducible refine g_ned ?_); first | (refine ned_f (dq_lst (by wtm_at "qo")) (dq_lst (by wtm_at "qo")) ?_) | (refine ned_ints (by wtm_at "qo") (by wtm_at "qo") ?_) | (refine nedT_ints (by wtm_at "qo") (by wtm_at "qo") ?_)) | ((with_reducible refine g_eqd ?_); first | (refine eqd_t (dq_lst (by wtm_at "qo")) (dq_lst (by wtm_at "qo")) ?_) | (refine eqd_ints (by wtm_at "qo") (by wtm_at "qo") ?_) | (refine eqdT_ints (by wtm_at "qo") (by wtm_at "qo") ?_)) | ((with_reducible refine g_tyv ?_); refine and_tyv (by wtm_at "qo") ?_) | ((with_reducible refine g_asq ?_); refine and_sq (by wtm_at "qo") ?_) | ((with_reducible refine g_lst ?_); refine ex_lst (by wtm_at "ho") ?_) | ((with_reducible refine g_or ?_); first | (refine ex_or (by wtm_at "qo") ?_) | (refine ex_ort (by wtm_at "qo") ?_)) | ((with_reducible refine g_sq ?_); refine ex_sq (by wtm_at "qo") ?_) | ((with_reducible refine g_sqt ?_); refine ex_sqt (by wtm_at "qo") ?_) | ((with_reducible refine gd_sel ?_); first | (refine sel_p (by wtm_at "pf") ?_) | (refine sel_n (by wtm_at "pf") ?_)) | ((with_reducible refine gn_sel ?_); first | (refine selN_p (by wtm_at "pf") ?_) | (refine selN_n (by wtm_at "pf") ?_)) | ((with_reducible refine gd_selT ?_); first | (refine selT_p (by wtm_at "pf") ?_) | (refine selT_n (by wtm_at "pf") ?_)) | ((with_reducible refine gn_selT ?_); first | (refine selTN_p (by wtm_at "pf") ?_) | (refine selTN_n (by wtm_at "pf") ?_)) | ((with_reducible refine gd_selE ?_); first | (refine selE_p (by wtm_at "pf") ?_) | (refine selE_n (by wtm_at "pf") ?_)) | ((with_reducible refine gn_selE ?_); first | (refine selEN_p (by wtm_at "pf") ?_) | (refine selEN_n (by wtm_at "pf") ?_)) | ((with_reducible refine g_xf ?_); refine xf_at rfl (by wtm_at "ho") ?_) | ((with_reducible refine g_atI ?_); refine ex_at (by first | exact rfl | exact atI_int (by omega) (by wtm_at "pf") | exact atI_end (by wtm_at "pf")) ?_) | ((with_reducible refine g_and ?_); refine And.intro (by wtm_at "co") ?_))
local macro_rules | `(tactic| wtm_at "oo") => `(tactic| repeat (first | wtm_at "xo" | wtm_at "so"))
local macro_rules | `(tactic| wtm_at "cR") => `(tactic| (refine' compRi _ (by with_reducible assumption) (by omega) (fun _ _ _ _ _ => ?_) (fun _ _ _ => ?_); rotate_left; focus (wtm_at "oo")))

local macro_rules | `(tactic| wtm_at "lk") => `(tactic| first | (with_reducible exact lk_here) | (simp only [lk_here, lk_skip, lk_nil]; first | done | exact rfl))
local macro_rules | `(tactic| wtm_at "ln") => `(tactic| first | (with_reducible exact lk_nil) | (simp only [lk_skip, lk_nil]; done))
local macro_rules | `(tactic| wtm_at "pu") => `(tactic| first | (with_reducible exact pf_nil) | (simp only [pf_nil, pf_here, pf_skip]; first | done | exact rfl))
local macro_rules | `(tactic| wtm_at "tk") => `(tactic| first | (with_reducible exact Take.here) | (exact Take.here) | ((with_reducible apply Take.there); wtm_at "tk"))
local macro_rules | `(tactic| wtm_at "pk") => `(tactic| first | exact Pick.nil | ((with_reducible refine' Pick.cons ?tk1 ?pk1); (case tk1 => wtm_at "tk"); (case pk1 => wtm_at "pk")) | ((with_reducible refine Pick.im (by wtm_at "mem") ?_); wtm_at "pk") | ((with_reducible refine Pick.ims (by wtm_at "mem") ?_); wtm_at "pk"))
section
variable {P : Program} {w : World} {K : PySem.W.Frag} {mg : Str → Option Value} {base : Heap}
def atD (ds : List Int) (k many : Int) : Int := if k < ds.length then ds.getD k.toNat 0 % many else 0
theorem atD_lo {ds : List Int} {k many : Int} (hm : 0 < many) : 0 ≤ atD ds k many := by
  unfold atD
  split
  · exact Int.emod_nonneg _ (by omega)
  · exact Int.le_refl 0
theorem atD_hi {ds : List Int} {k many : Int} (hm : 0 < many) : atD ds k many < many := by
  unfold atD
  split
  · exact Int.emod_lt_of_pos _ hm
  · exact hm
def sp__law_at (K : PySem.W.Frag) : Sp := fun vs H Q _ => ∃ (a : Addr) (ds : List Int) (k many : Int), vs = [.ref a, .int k, .int many] ∧ SqL K H a (ds.map V.int) ∧ 0 ≤ k ∧ 0 < many ∧ Q (.int (atD ds k many)) H
theorem ok__law_at (T : Tx K mg) : Cl P w K mg base 1 "_law_at" ["draws", "k", "many"] (sp__law_at K) [] := by
  obtain ⟨gm, fd, F⟩ := T.d__law_at
  refine ⟨_, fd, [], F.ok sc__law_at (fun vs H Q E h => ?_) (fun cdv A outer s H vs Q E hr h => ⟨_, (PSs.nox (pss_cons (ps_if (pt_cmpR op_lt (pv 1) (pe_callB (lenK K) rfl T.b_len (by decide +kernel) (pa_cons (pv 0) pa_nil)) (nomark _))
 (pss_one (ps_ret (by exact (pe_op op_mod (pe_callTy call_int1 rfl T.b_int (by decide +kernel) (pa_cons (pe_ix (ixl K) (pv 0) (pv 1) (fun _ _ => rfl)) pa_nil)) (pv 2)))))
 pss_nil)
 (pss_one (ps_ret (by exact pe_int))))), ?_⟩), gm, F.kp, F.bindsN (fun _ _ _ _ _ _ us hl => match us, hl with | [_, _, _], _ => rfl), .nil⟩
  · first | (obtain ⟨rfl, _⟩ := h; rfl) | (obtain ⟨_, rfl, _⟩ := h; rfl) | (obtain ⟨_, _, rfl, _⟩ := h; rfl) | (obtain ⟨_, _, _, rfl, _⟩ := h; rfl) | (obtain ⟨_, _, _, _, rfl, _⟩ := h; rfl) | (obtain ⟨_, _, _, _, _, rfl, _⟩ := h; rfl) | (obtain ⟨_, _, _, _, _, _, rfl, _⟩ := h; rfl) | (obtain ⟨_, _, _, _, _, _, _, rfl, _⟩ := h; rfl) | (obtain ⟨_, _, _, _, _, _, _, _, rfl, _⟩ := h; rfl) | (obtain ⟨_, _, _, _, _, _, _, _, _, rfl, _⟩ := h; rfl) | (obtain ⟨_, _, _, _, _, _, _, _, _, _, rfl, _⟩ := h; rfl) | (obtain ⟨_, _, _, _, _, _, _, _, _, _, _, rfl, _⟩ := h; rfl) | (obtain ⟨_, _, _, _, _, _, _, _, _, _, _, _, rfl, _⟩ := h; rfl) | (obtain ⟨_, _, _, _, _, _, _, _, _, _, _, _, _, rfl, _⟩ := h; rfl) | (obtain ⟨_, _, _, _, _, _, _, _, _, _, _, _, _, _, rfl, _⟩ := h; rfl) | (obtain ⟨_, _, _, _, _, _, _, _, _, _, _, _, _, _, _, rfl, _⟩ := h; rfl) | (obtain ⟨_, _, _, _, _, _, _, _, _, _, _, _, _, _, _, _, rfl, _⟩ := h; rfl) | (obtain ⟨_, _, _, _, _, _, _, _, _, _, _, _, _, _, _, _, _, rfl, _⟩ := h; rfl) | (obtain ⟨_, _, _, _, _, _, _, _, _, _, _, _, _, _, _, _, _, _, rfl, _⟩ := h; rfl) | (obtain ⟨_, _, _, _, _, _, _, _, _, _, _, _, _, _, _, _, _, _, _, rfl, _⟩ := h; rfl) | (obtain ⟨_, _, _, _, _, _, _, _, _, _, _, _, _, _, _, _, _, _, _, _, rfl, _⟩ := h; rfl) | (obtain ⟨_, _, _, _, _, _, _, _, _, _, _, _, _, _, _, _, _, _, _, _, _, rfl, _⟩ := h; rfl)
  · obtain ⟨a, ds, k, many, rfl, hS, h0, hm, q⟩ := h
    k_call_by "xs" st__law_at
    refine ⟨_, .inl hS, sel_d (fun h1 => ?_) (fun h1 => ?_)⟩
    · wtm_at "xs"
      rw [List.length_map] at h1
      refine ⟨_, hS, _, atI_int h0 h1, ?_⟩
      wtm_at "xs"
      unfold atD at q
      rw [if_pos h1] at q
      exact ⟨hm, q⟩
    · wtm_at "xs"
      rw [List.length_map] at h1
      unfold atD at q
      rw [if_neg h1] at q
      exact q
theorem g_at {K : PySem.W.Frag} {H : Hp} {vs : List V} {Q : VK} {E : XK} (h : sp__law_at K vs H Q E) : sp__law_at K vs H Q E := h
theorem at_call {K : PySem.W.Frag} {H : Hp} {a : Addr} {ds : List Int} {k many : Int} {Q : VK} {E : XK} (hS : SqL K H a (ds.map V.int)) (h0 : 0 ≤ k) (hm : 0 < many) (q : 0 ≤ atD ds k many → atD ds k many < many → Q (.int (atD ds k many)) H) : sp__law_at K [.ref a, .int k, .int many] H Q E := ⟨a, ds, k, many, rfl, hS, h0, hm, q (atD_lo hm) (atD_hi hm)⟩
/-- the draws: all that is asked of them -/
structure Drawn (ds : List Int) : Prop where
  lo : ∀ d ∈ ds, 0 ≤ d
  hi : ∀ d ∈ ds, d < 65536
  len : ds.length ≤ 3780
def sp__law_draws (K : PySem.W.Frag) : Sp := fun vs H Q _ => ∃ (a : Addr) (ns : List Int), vs = [.ref a] ∧ SqL K H a (ns.map V.int) ∧ ns.length ≤ 63 ∧ ∀ ds p H', Drawn ds → Same H H' → H p = none → H' p = some (.lst (ds.map V.int)) → Q (.ref p) H'
structure DrI (a p : Addr) (H : Hp) (most : Nat) (H' : Hp) (ds : List Int) : Prop where
  same : Same H H'
  at_ : H' p = some (.lst (ds.map V.int))
  lo : ∀ d ∈ ds, 0 ≤ d
  hi : ∀ d ∈ ds, d < 65536
  len : ds.length ≤ most
theorem DrI.put {a p : Addr} {H : Hp} {most : Nat} {H' : Hp} {ds : List Int} (I : DrI a p H most H' ds) (hp : H p = none) {x : Int} (h0 : 0 ≤ x) (h1 : x < 65536) {m2 : Nat} (hm : most + 1 ≤ m2) : DrI a p H m2 (upd H' p (.lst (ds.map V.int ++ [.int x]))) (ds ++ [x]) := by
  refine ⟨same_put I.same hp, ?_, ?_, ?_, ?_⟩
  · rw [upd_same, List.map_append]
    rfl
  · intro d hd
    rcases List.mem_append.mp hd with h | h
    · exact I.lo d h
    · rw [List.mem_singleton.mp h]
      exact h0
  · intro d hd
    rcases List.mem_append.mp hd with h | h
    · exact I.hi d h
    · rw [List.mem_singleton.mp h]
      exact h1
  · rw [List.length_append, List.length_singleton]
    have := I.len
    omega
theorem DrI.mono {a p : Addr} {H : Hp} {most m2 : Nat} {H' : Hp} {ds : List Int} (I : DrI a p H most H' ds) (h : most ≤ m2) : DrI a p H m2 H' ds := ⟨I.same, I.at_, I.lo, I.hi, Nat.le_trans I.len h⟩
theorem ok__law_draws (T : Tx K mg) : Cl P w K mg base 1 "_law_draws" ["script"] (sp__law_draws K) [] := by
  obtain ⟨gm, fd, F⟩ := T.d__law_draws
  refine ⟨_, fd, [], F.ok sc__law_draws (fun vs H Q E h => ?_) (fun cdv A outer s H vs Q E hr h => ⟨_, (PSs.nox (pss_cons (ps_set (i := 1) sc__law_draws.nd rfl (Or.inl rfl) (by exact (pe_lst pa_nil)))
 (pss_cons (ps_for PassesOwn.never rfl (pi_range1 rfl T.b_range (pa_cons (pe_callB (call_min2 rfl) rfl T.b_min (by decide +kernel) (pa_cons pe_int (pa_cons (pe_callB (lenK K) rfl T.b_len (by decide +kernel) (pa_cons (pv 0) pa_nil)) pa_nil))) pa_nil)) (pg_name (i := 2) sc__law_draws.nd rfl (Or.inl rfl))
 (pss_cons (ps_set (i := 3) sc__law_draws.nd rfl (Or.inl rfl) (by exact (pe_callB call_abs rfl T.b_abs (by decide +kernel) (pa_cons (pe_ix (ixl K) (pv 0) (pv 2) (fun _ _ => rfl)) pa_nil))))
 (pss_one (ps_if (pt_cmpR op_ge (pv 3) (pe_op op_pow pe_int pe_int) (nomark _))
 (pss_one (ps_for PassesOwn.never rfl (pi_range1 rfl T.b_range (pa_cons pe_int pa_nil)) (pg_name (i := 4) sc__law_draws.nd rfl (Or.inl rfl))
 (pss_one (ps_if (pt_cmpR op_gt (pv 3) pe_int (nomark _))
 (pss_cons (ps_expr (pe_bm PySem.F.plainAttrs_list PySem.F.slot_list_append PySem.F.type_list_append mt_append (pv 1) (pa_cons (pe_op op_mod (pe_callTy call_int1 rfl T.b_int (by decide +kernel) (pa_cons (pv 3) pa_nil)) pe_int) pa_nil)))
 (pss_one (ps_set (i := 3) sc__law_draws.nd rfl (Or.inl rfl) (by exact (pe_op op_fdiv (pv 3) pe_int)))))
 pss_nil))))
 (pss_cons (ps_set (i := 5) sc__law_draws.nd rfl (Or.inl rfl) (by exact (pe_op op_mod (pe_callTy call_int1 rfl T.b_int (by decide +kernel) (pa_cons (pe_op op_add (pe_op op_mul (pv 3) pe_int) (pe_op op_mul (pe_op op_add (pv 2) pe_int) pe_int)) pa_nil)) pe_int)))
 (pss_cons (ps_set (i := 5) sc__law_draws.nd rfl (Or.inl rfl) (by exact (pe_op op_mod (pe_callTy call_int1 rfl T.b_int (by decide +kernel) (pa_cons (pe_op op_add (pe_op op_add (pe_op op_mul (pv 5) pe_int) (pe_op op_mul pe_int (pv 2))) pe_int) pa_nil)) pe_int)))
 (pss_cons (ps_expr (pe_bm PySem.F.plainAttrs_list PySem.F.slot_list_append PySem.F.type_list_append mt_append (pv 1) (pa_cons (pe_op op_mod (pe_callTy call_int1 rfl T.b_int (by decide +kernel) (pa_cons (pv 5) pa_nil)) pe_int) pa_nil)))
 (pss_one (ps_expr (pe_bm PySem.F.plainAttrs_list PySem.F.slot_list_append PySem.F.type_list_append mt_append (pv 1) (pa_cons (pe_op op_mod (pe_callTy call_int1 rfl T.b_int (by decide +kernel) (pa_cons (pe_op op_fdiv (pv 5) pe_int) pa_nil)) pe_int) pa_nil)))))))))))
 (pss_one (ps_ret (by exact (pv 1))))))), ?_⟩), gm, F.kp, F.bindsN (fun _ _ _ _ _ _ us hl => match us, hl with | [_], _ => rfl), .nil⟩
  · first | (obtain ⟨rfl, _⟩ := h; rfl) | (obtain ⟨_, rfl, _⟩ := h; rfl) | (obtain ⟨_, _, rfl, _⟩ := h; rfl) | (obtain ⟨_, _, _, rfl, _⟩ := h; rfl) | (obtain ⟨_, _, _, _, rfl, _⟩ := h; rfl) | (obtain ⟨_, _, _, _, _, rfl, _⟩ := h; rfl) | (obtain ⟨_, _, _, _, _, _, rfl, _⟩ := h; rfl) | (obtain ⟨_, _, _, _, _, _, _, rfl, _⟩ := h; rfl) | (obtain ⟨_, _, _, _, _, _, _, _, rfl, _⟩ := h; rfl) | (obtain ⟨_, _, _, _, _, _, _, _, _, rfl, _⟩ := h; rfl) | (obtain ⟨_, _, _, _, _, _, _, _, _, _, rfl, _⟩ := h; rfl) | (obtain ⟨_, _, _, _, _, _, _, _, _, _, _, rfl, _⟩ := h; rfl) | (obtain ⟨_, _, _, _, _, _, _, _, _, _, _, _, rfl, _⟩ := h; rfl) | (obtain ⟨_, _, _, _, _, _, _, _, _, _, _, _, _, rfl, _⟩ := h; rfl) | (obtain ⟨_, _, _, _, _, _, _, _, _, _, _, _, _, _, rfl, _⟩ := h; rfl) | (obtain ⟨_, _, _, _, _, _, _, _, _, _, _, _, _, _, _, rfl, _⟩ := h; rfl) | (obtain ⟨_, _, _, _, _, _, _, _, _, _, _, _, _, _, _, _, rfl, _⟩ := h; rfl) | (obtain ⟨_, _, _, _, _, _, _, _, _, _, _, _, _, _, _, _, _, rfl, _⟩ := h; rfl) | (obtain ⟨_, _, _, _, _, _, _, _, _, _, _, _, _, _, _, _, _, _, rfl, _⟩ := h; rfl) | (obtain ⟨_, _, _, _, _, _, _, _, _, _, _, _, _, _, _, _, _, _, _, rfl, _⟩ := h; rfl) | (obtain ⟨_, _, _, _, _, _, _, _, _, _, _, _, _, _, _, _, _, _, _, _, rfl, _⟩ := h; rfl) | (obtain ⟨_, _, _, _, _, _, _, _, _, _, _, _, _, _, _, _, _, _, _, _, _, rfl, _⟩ := h; rfl)
  · obtain ⟨a, ns, rfl, hS, hlen, q⟩ := h
    k_call_by "xs" st__law_draws
    refine ⟨Nat.zero_le _, fun p hp => ⟨_, .inl ((same_upd hp).seq hS), ?_⟩⟩
    have hj : (if (((ns.map V.int).length : Nat) : Int) < 63 then (((ns.map V.int).length : Nat) : Int) else 63) = (ns.length : Int) := by
      rw [List.length_map]
      split <;> omega
    rw [hj]
    refine ⟨by omega, by omega, loop_range (fun i σ H' => ∃ ds y2 y3 y4 y5, σ = [some (.ref a), some (.ref p), y2, y3, y4, y5] ∧ DrI a p H (60 * i) H' ds) ⟨[], none, none, none, none, rfl, same_upd hp, upd_same, by simp, by simp, Nat.zero_le _⟩ ?_ ?_⟩
    · rintro i σ H' hi ⟨ds, y2, y3, y4, y5, rfl, I⟩
      rw [Int.toNat_natCast] at hi
      wtm_at "xs"
      have hi2 : (0 : Int) + (i : Nat) < (ns.length : Nat) := by omega
      refine ⟨_, I.same.seq hS, _, atI_int (by omega) hi2, ?_⟩
      wtm_at "xs"
      refine ⟨⟨by decide, by decide, by decide⟩, sel_d (fun h1 => ?_) (fun h1 => ?_)⟩
      · wtm_at "xs"
        refine ⟨by decide, by decide, loop_range (fun j σ H2 => ∃ ds y3 y4, σ = [some (.ref a), some (.ref p), some (.int (0 + (i : Nat))), some (.int y3), y4, y5] ∧ DrI a p H (60 * i + j) H2 ds) ⟨_, _, _, rfl, I⟩ ?_ ?_⟩
        · rintro j σ H2 hj2 ⟨ds2, z3, z4, rfl, J⟩
          wtm_at "xs"
          refine sel_d (fun h2 => ?_) (fun h2 => ?_)
          · wtm_at "xs"
            have hj3 : j < 60 := hj2
            refine ⟨tyv (SqL.of J.at_), by decide, _, J.at_, line_map J.len (by omega), ⟨by decide, by decide⟩, ?_⟩
            exact ⟨_, J.put hp (Int.emod_nonneg _ (by decide)) (Int.emod_lt_of_pos _ (by decide)) (Nat.le_refl _)⟩
          · wtm_at "xs"
            exact ⟨_, J.mono (Nat.le_succ _)⟩
        · rintro σ H2 ⟨ds2, z3, z4, rfl, J⟩
          wtm_at "xs"
          exact ⟨_, J.mono (by show 60 * i + (60 : Int).toNat ≤ 60 * (i + 1); omega)⟩
      · wtm_at "xs"
        refine ⟨.inr ⟨by decide, by decide⟩, .inr ⟨by decide, by decide⟩, by decide, .inr ⟨by decide, by decide⟩, .inl ⟨by decide, by decide⟩, by decide, tyv (SqL.of I.at_), by decide, _, I.at_, line_map I.len (by omega), ?_⟩
        generalize (_ : Int) % 2147483629 = M
        have J := I.put hp (x := M % 65536) (Int.emod_nonneg _ (by decide)) (Int.emod_lt_of_pos _ (by decide)) (Nat.le_refl _)
        have L := J.put hp (x := M / 65536 % 32768) (Int.emod_nonneg _ (by decide)) (Int.lt_trans (Int.emod_lt_of_pos _ (by decide)) (by decide : (32768 : Int) < 65536)) (m2 := 60 * (i + 1)) (by omega)
        rw [List.map_append] at L
        refine ⟨tyv (SqL.of upd_same), ⟨by decide, by decide⟩, by decide, _, upd_same, ?_, _, L⟩
        have := line_map J.len (by omega)
        rw [List.map_append] at this
        exact this
    · rintro σ H' ⟨ds, y2, y3, y4, y5, rfl, I⟩
      rw [Int.toNat_natCast] at I
      wtm_at "xs"
      exact q ds p H' ⟨I.lo, I.hi, Nat.le_trans I.len (by omega)⟩ I.same hp I.at_


end
end K41

namespace K41
open PySem PySem.Spec PyProof.Rows L2 Bel
local macro_rules | `(tactic| wtm_at "xs") => `(tactic| simp only [x_next, x_seq, x_brk, x_cont, x_drop, x_ret, x_retN, x_if, sel_t, sel_f, selE_t, selE_f, selT_t, selT_f, selC_t, selC_f, x_test, x_tB, x_op, x_un, x_var, x_c, x_cb, x_nil, x_cons, x_rI, x_rI0, x_rU, x_rEq, x_rNe, x_rIxL, x_rIxT, x_rSlL, x_rCat, x_rRep, x_rApp, x_bm, x_bm0, x_sl, x_nopart, x_part, x_tup, x_lst, x_call, x_callS, x_asg, x_gname, x_gtup, x_gnil, x_gcons, x_gsub, x_setL, x_aug, x_ipI, x_ipC, x_bits, x_getL, x_augS, x_and, x_or, x_not, x_k, x_andV, x_orV, x_notV, x_ife, x_chain, x_for, x_ilist, x_itup, x_ienum, x_irng1, x_irng2, x_irev, x_lc, x_yes, wipe_nil, wipe_cons, List.map_cons, List.map_nil, x_misc, x_misc2, x_rz, lookup_at, Bool.not_true, Bool.not_false, decide_true, decide_false, not_true, not_false_eq_true, and_assoc, exists_and_left, exists_eq_left', exists_eq_left, exists_eq', exists_eq_right', exists_eq_right, V.int.injEq, V.ref.injEq, V.bl.injEq, V.str.injEq, List.cons.injEq, and_true, true_and, and_self, Option.some.injEq, List.cons_append, List.nil_append, List.append_nil, List.getElem?_cons_zero, List.getElem?_cons_succ, List.set_cons_zero, List.set_cons_succ, reduceCtorEq, false_and, and_false, exists_false, exists_const, or_false, false_or, scal_ii, scal_bb, scal_ss, List.length_cons, List.length_nil, Int.reduceToNat, Int.reducePow])
local macro_rules | `(tactic| k_call_by "xs" $h:term) => `(tactic| simp only [$h:term, x_next, x_seq, x_brk, x_cont, x_drop, x_ret, x_retN, x_if, sel_t, sel_f, selE_t, selE_f, selT_t, selT_f, selC_t, selC_f, x_test, x_tB, x_op, x_un, x_var, x_c, x_cb, x_nil, x_cons, x_rI, x_rI0, x_rU, x_rEq, x_rNe, x_rIxL, x_rIxT, x_rSlL, x_rCat, x_rRep, x_rApp, x_bm, x_bm0, x_sl, x_nopart, x_part, x_tup, x_lst, x_call, x_callS, x_asg, x_gname, x_gtup, x_gnil, x_gcons, x_gsub, x_setL, x_aug, x_ipI, x_ipC, x_bits, x_getL, x_augS, x_and, x_or, x_not, x_k, x_andV, x_orV, x_notV, x_ife, x_chain, x_for, x_ilist, x_itup, x_ienum, x_irng1, x_irng2, x_irev, x_lc, x_yes, wipe_nil, wipe_cons, List.map_cons, List.map_nil, x_misc, x_misc2, x_rz, lookup_at, Bool.not_true, Bool.not_false, decide_true, decide_false, not_true, not_false_eq_true, and_assoc, exists_and_left, exists_eq_left', exists_eq_left, exists_eq', exists_eq_right', exists_eq_right, V.int.injEq, V.ref.injEq, V.bl.injEq, V.str.injEq, List.cons.injEq, and_true, true_and, and_self, Option.some.injEq, List.cons_append, List.nil_append, List.append_nil, List.getElem?_cons_zero, List.getElem?_cons_succ, List.set_cons_zero, List.set_cons_succ, reduceCtorEq, false_and, and_false, exists_false, exists_const, or_false, false_or, scal_ii, scal_bb, scal_ss, List.length_cons, List.length_nil, Int.reduceToNat, Int.reducePow])
local macro_rules | `(tactic| wtm_at "hp") => `(tactic| first | (with_reducible assumption) | exact upd_same | (refine upd_keep (by with_reducible assumption) ?_; wtm_at "hp") | (refine Same.get (by with_reducible assumption) ?_; wtm_at "hp") | (refine upd_other (by first | (with_reducible assumption) | exact Ne.symm (by with_reducible assumption)) ?_; wtm_at "hp"))
local macro_rules | `(tactic| wtm_at "sq") => `(tactic| first | (with_reducible assumption) | exact SqL.of (by wtm_at "hp") | exact SqT.of (by wtm_at "hp") | (refine Same.seq (same_upd (by with_reducible assumption)) ?_; wtm_at "sq") | (refine Same.seq (by with_reducible assumption) ?_; wtm_at "sq") | (refine Same.seqT (same_upd (by with_reducible assumption)) ?_; wtm_at "sq") | (refine Same.seqT (by with_reducible assumption) ?_; wtm_at "sq"))
local macro_rules | `(tactic| wtm_at "cl") => `(tactic| first | (with_reducible assumption) | omega | (exact cmul_r (by omega) (by omega)) | (exact cmul_l (by omega) (by omega)) | (exact cdiv_ok (by omega) (by omega)) | (exact cpow_ok (by decide)) | (exact ⟨by omega, by omega, by omega⟩) | decide | (exact ⟨by omega, by omega⟩) | (simp only [List.length_append, List.length_map, List.length_set, List.length_cons, List.length_nil, rngL_len, sizeLine_eq]; omega) | wtm_at "hp" | wtm_at "sq")
local macro_rules | `(tactic| wtm_at "pf") => `(tactic| first | (with_reducible assumption) | omega | (simp only [List.length_append, List.length_map, List.length_set, List.length_cons, List.length_nil, rngL_len]; omega) | (with_reducible rfl) | (with_reducible trivial) | (with_reducible decide))
local macro_rules | `(tactic| wtm_at "st") => `(tactic| first | ((with_reducible refine g_at ?_); refine at_call (by wtm_at "sq") (by omega) (by omega) (fun _ _ => ?_)) | ((with_reducible refine g_isi ?_); first | (with_reducible refine isi_ii ?_) | (with_reducible refine isi_ib ?_) | (refine isi_int rfl ?_) | (refine isi_lst rfl (by wtm_at "hp") ?_) | (refine isi_tup rfl (by wtm_at "hp") ?_)) | ((with_reducible refine g_ned ?_); refine ned_f (dq_lst (by wtm_at "sq")) (dq_lst (by wtm_at "sq")) ?_) | ((with_reducible refine g_eqd ?_); refine eqd_t (dq_lst (by wtm_at "sq")) (dq_lst (by wtm_at "sq")) ?_) | ((with_reducible refine g_tyv ?_); refine and_tyv (by wtm_at "sq") ?_) | ((with_reducible refine g_asq ?_); refine and_sq (by wtm_at "sq") ?_) | ((with_reducible refine g_lst ?_); refine ex_lst (by wtm_at "hp") ?_) | ((with_reducible refine g_or ?_); first | (refine ex_or (by wtm_at "sq") ?_) | (refine ex_ort (by wtm_at "sq") ?_)) | ((with_reducible refine g_sq ?_); refine ex_sq (by wtm_at "sq") ?_) | ((with_reducible refine g_sqt ?_); refine ex_sqt (by wtm_at "sq") ?_) | ((with_reducible refine gd_sel ?_); first | (refine sel_p (by wtm_at "pf") ?_) | (refine sel_n (by wtm_at "pf") ?_)) | ((with_reducible refine gn_sel ?_); first | (refine selN_p (by wtm_at "pf") ?_) | (refine selN_n (by wtm_at "pf") ?_)) | ((with_reducible refine gd_selT ?_); first | (refine selT_p (by wtm_at "pf") ?_) | (refine selT_n (by wtm_at "pf") ?_)) | ((with_reducible refine gn_selT ?_); first | (refine selTN_p (by wtm_at "pf") ?_) | (refine selTN_n (by wtm_at "pf") ?_)) | ((with_reducible refine gd_selE ?_); first | (refine selE_p (by wtm_at "pf") ?_) | (refine selE_n (by wtm_at "pf") ?_)) | ((with_reducible refine gn_selE ?_); first | (refine selEN_p (by wtm_at "pf") ?_) | (refine selEN_n (by wtm_at "pf") ?_)) | ((with_reducible refine g_xf ?_); refine xf_at rfl (by wtm_at "hp") ?_) | ((with_reducible refine g_atI ?_); refine ex_at (by first | exact rfl | exact atI_int (by omega) (by wtm_at "pf") | exact atI_end (by wtm_at "pf")) ?_) | ((with_reducible refine g_and ?_); refine And.intro (by wtm_at "cl") ?_) | ((with_reducible refine g_new ?_); intro _ _))
local macro_rules | `(tactic| wtm_at "go") => `(tactic| repeat (first | wtm_at "xs" | wtm_at "st"))
local macro_rules | `(tactic| wtm_at "xo") => `(tactic| simp only [x_next, x_seq, x_brk, x_cont, x_drop, x_ret, x_retN, x_if, sel_t, sel_f, selE_t, selE_f, selT_t, selT_f, selC_t, selC_f, x_test, x_tB, x_op, x_un, x_var, x_c, x_cb, x_nil, x_cons, x_rI, x_rI0, x_rU, x_rEq, x_rNe, x_rIxL, x_rIxT, n_rSlL, n_rCat, n_rRep, n_rApp, x_bm, x_bm0, x_sl, x_nopart, x_part, n_tup, n_lst, x_call, x_callS, x_asg, x_gname, x_gtup, x_gnil, x_gcons, x_gsub, n_setL, x_aug, x_ipI, x_ipC, x_bits, x_getL, x_augS, x_and, x_or, x_not, x_k, x_andV, x_orV, x_notV, x_ife, x_chain, x_for, x_ilist, x_itup, x_ienum, x_irng1, x_irng2, x_irev, x_lc, x_yes, wipe_nil, wipe_cons, List.map_cons, List.map_nil, x_misc, x_misc2, x_rz, lookup_at, Bool.not_true, Bool.not_false, decide_true, decide_false, not_true, not_false_eq_true, and_assoc, exists_and_left, exists_eq_left', exists_eq_left, exists_eq', exists_eq_right', exists_eq_right, V.int.injEq, V.ref.injEq, V.bl.injEq, V.str.injEq, List.cons.injEq, and_true, true_and, and_self, Option.some.injEq, List.cons_append, List.nil_append, List.append_nil, List.getElem?_cons_zero, List.getElem?_cons_succ, List.set_cons_zero, List.set_cons_succ, reduceCtorEq, false_and, and_false, exists_false, exists_const, or_false, false_or, scal_ii, scal_bb, scal_ss, List.length_cons, List.length_nil, Int.reduceToNat, Int.reducePow, n_fld, n_sfld, n_aug, n_meth, n_mw, n_make, n_kw, n_rLs, n_dcp, n_gget, n_rLtT, n_ext, n_revL, n_rTp, t_im, ints_rev, t_s1, t_i1, t_i2, t_i3, t_i4, t_i5, x_chain3, x_irng3, x_irevR, x_rg1, x_rg2, ints_cat, ints_app1, ints_len, ints_take, ints_drop, rep_one])
local macro_rules | `(tactic| k_call_by "xo" $h:term) => `(tactic| simp only [$h:term, x_next, x_seq, x_brk, x_cont, x_drop, x_ret, x_retN, x_if, sel_t, sel_f, selE_t, selE_f, selT_t, selT_f, selC_t, selC_f, x_test, x_tB, x_op, x_un, x_var, x_c, x_cb, x_nil, x_cons, x_rI, x_rI0, x_rU, x_rEq, x_rNe, x_rIxL, x_rIxT, n_rSlL, n_rCat, n_rRep, n_rApp, x_bm, x_bm0, x_sl, x_nopart, x_part, n_tup, n_lst, x_call, x_callS, x_asg, x_gname, x_gtup, x_gnil, x_gcons, x_gsub, n_setL, x_aug, x_ipI, x_ipC, x_bits, x_getL, x_augS, x_and, x_or, x_not, x_k, x_andV, x_orV, x_notV, x_ife, x_chain, x_for, x_ilist, x_itup, x_ienum, x_irng1, x_irng2, x_irev, x_lc, x_yes, wipe_nil, wipe_cons, List.map_cons, List.map_nil, x_misc, x_misc2, x_rz, lookup_at, Bool.not_true, Bool.not_false, decide_true, decide_false, not_true, not_false_eq_true, and_assoc, exists_and_left, exists_eq_left', exists_eq_left, exists_eq', exists_eq_right', exists_eq_right, V.int.injEq, V.ref.injEq, V.bl.injEq, V.str.injEq, List.cons.injEq, and_true, true_and, and_self, Option.some.injEq, List.cons_append, List.nil_append, List.append_nil, List.getElem?_cons_zero, List.getElem?_cons_succ, List.set_cons_zero, List.set_cons_succ, reduceCtorEq, false_and, and_false, exists_false, exists_const, or_false, false_or, scal_ii, scal_bb, scal_ss, List.length_cons, List.length_nil, Int.reduceToNat, Int.reducePow, n_fld, n_sfld, n_aug, n_meth, n_mw, n_make, n_kw, n_rLs, n_dcp, n_gget, n_rLtT, n_ext, n_revL, n_rTp, t_im, ints_rev, t_s1, t_i1, t_i2, t_i3, t_i4, t_i5, x_chain3, x_irng3, x_irevR, x_rg1, x_rg2, ints_cat, ints_app1, ints_len, ints_take, ints_drop, rep_one])
local macro_rules | `(tactic| wtm_at "mem") => `(tactic| first | (with_reducible exact mem_here) | (with_reducible refine mem_there ?_; wtm_at "mem"))
local macro_rules | `(tactic| wtm_at "pp") => `(tactic| first | (with_reducible exact Put.here) | (with_reducible apply Put.there; wtm_at "pp"))
local macro_rules | `(tactic| wtm_at "ho") => `(tactic| first | (with_reducible assumption) | exact Own.get (by with_reducible assumption) (by wtm_at "mem") | exact Own.base (by with_reducible assumption) (by with_reducible assumption))
local macro_rules | `(tactic| wtm_at "qo") => `(tactic| first | (with_reducible assumption) | exact SqL.of (by wtm_at "ho") | exact sqT_tupI (by wtm_at "ho") | exact sqT_tupS (by wtm_at "ho") | exact SqT.of (by wtm_at "ho") | exact Own.imT (by with_reducible assumption) (by wtm_at "mem") | exact Own.sq (by with_reducible assumption) (by with_reducible assumption) | exact Own.sqT (by with_reducible assumption) (by with_reducible assumption))
local macro_rules | `(tactic| wtm_at "sub") => `(tactic| first | exact List.nil_sublist _ | (with_reducible refine List.Sublist.cons_cons _ ?_; wtm_at "sub") | (refine List.Sublist.cons _ ?_; wtm_at "sub"))
local macro_rules | `(tactic| wtm_at "co") => `(tactic| first | (with_reducible assumption) | omega | (exact cmul_r (by omega) (by omega)) | (exact cmul_l (by omega) (by omega)) | (exact cdiv_ok (by omega) (by omega)) | (exact cpow_ok (by decide)) | (exact ⟨by omega, by omega, by omega⟩) | decide | (exact ⟨by omega, by omega⟩) | (simp only [List.length_append, List.length_map, List.length_set, List.length_cons, List.length_nil, rngL_len, sizeLine_eq]; omega) | wtm_at "ho" | wtm_at "qo")
local macro_rules | `(tactic| wtm_at "so") => `(tactic| first | ((with_reducible refine g_dcp ?_); refine dcpI (by wtm_at "ho") ?_) | ((with_reducible refine g_asl ?_); refine And.intro (by rfl) ?_) | ((with_reducible refine g_asqT ?_); refine and_sqT (by wtm_at "qo") ?_) | ((with_reducible refine g_extO ?_); first | (refine extI (by with_reducible assumption) (by wtm_at "pp") (by wtm_at "co") (fun _ _ => ?_)) | (refine extO (by with_reducible assumption) (by wtm_at "pp") (by wtm_at "co") (fun _ _ => ?_))) | ((with_reducible refine g_tp ?_); first | (refine tp_l (by wtm_at "qo") ?_) | (refine tp_t (by wtm_at "qo") ?_)) | ((with_reducible refine g_fldO ?_); refine fldO (by wtm_at "ho") (by with_reducible assumption) (by wtm_at "mem") (by wtm_at "lk") ?_) | ((with_reducible refine g_fldC ?_); refine fldC (by wtm_at "ho") (by with_reducible assumption) (by wtm_at "mem") (by wtm_at "lk") ?_) | ((with_reducible refine g_putC ?_); refine putC (by with_reducible assumption) (by wtm_at "pp") (by wtm_at "pu") (by wtm_at "co") (fun _ _ => ?_)) | ((with_reducible refine g_stoO ?_); refine stoO (by with_reducible assumption) (by wtm_at "pp") (by wtm_at "pu") (by with_reducible assumption) (by wtm_at "mem") (by wtm_at "co") (fun _ _ => ?_)) | ((with_reducible refine g_metO ?_); refine metO (by wtm_at "ho") (by wtm_at "ln") ?_) | ((with_reducible refine g_makO ?_); refine makO (by with_reducible assumption) (fun _ _ _ _ => ?_)) | ((with_reducible refine g_sum ?_); refine sum_call (by wtm_at "qo") ?_) | ((with_reducible refine g_cq ?_); exact cq (by with_reducible assumption) (by simp only [rngL_len, List.length_map, List.length_take]; omega)) | ((with_reducible refine g_newO ?_); refine newO (by with_reducible assumption) (fun _ _ _ => ?_)) | ((with_reducible refine g_appO ?_); refine appI (by with_reducible assumption) (by wtm_at "pp") (by wtm_at "co") (fun _ _ => ?_)) | ((with_reducible refine g_setO ?_); refine setI (by with_reducible assumption) (by wtm_at "pp") (by omega) (by wtm_at "co") (fun _ _ => ?_)) | ((with_reducible refine g_appO ?_); refine appO (by with_reducible assumption) (by wtm_at "pp") (by wtm_at "co") (fun _ _ => ?_)) | ((with_reducible refine g_setO ?_); refine setO (by with_reducible assumption) (by wtm_at "pp") (by omega) (by wtm_at "co") (fun _ _ => ?_)) | ((with_reducible refine g_at ?_); refine at_call (by wtm_at "qo") (by omega) (by omega) (fun _ _ => ?_)) | ((with_reducible refine g_isi ?_); first | (with_reducible refine isi_ii ?_) | (with_reducible refine isi_ib ?_) | (refine isi_int rfl ?_) | (refine isi_sqL rfl (by wtm_at "qo") ?_) | (refine isi_sqT rfl (by wtm_at "qo") ?_) | (refine isi_bl rfl ?_) | (refine isi_non rfl ?_) | (refine isi_str rfl ?_)) | ((with_reducible refine g_ned ?_); first | (refine ned_f (dq_lst (by wtm_at "qo")) (dq_lst (by wtm_at "qo")) ?_) | (refine ned_ints (by wtm_at "qo") (by wtm_at "qo") ?_) | (refine nedT_ints (by wtm_at "qo") (by wtm_at "qo") ?_)) | ((with_reducible refine g_eqd ?_); first | (refine eqd_t (dq_lst (by wtm_at "qo")) (dq_lst (by wtm_at "qo")) ?_) | (refine eqd_ints (by wtm_at "qo") (by wtm_at "qo") ?_) | (refine eqdT_ints (by wtm_at "qo") (by wtm_at "qo") ?_)) | ((with_reducible refine g_tyv ?_); refine and_tyv (by wtm_at "qo") ?_) | ((with_reducible refine g_asq ?_); refine and_sq (by wtm_at "qo") ?_) | ((with_reducible refine g_lst ?_); refine ex_lst (by wtm_at "ho") ?_) | ((with_reducible refine g_or ?_); first | (refine ex_or (by wtm_at "qo") ?_) | (refine ex_ort (by wtm_at "qo") ?_)) | ((with_reducible refine g_sq ?_); refine ex_sq (by wtm_at "qo") ?_) | ((with_reducible refine g_sqt ?_); refine ex_sqt (by wtm_at "qo") ?_) | ((with_reducible refine gd_sel ?_); first | (refine sel_p (by wtm_at "pf") ?_) | (refine sel_n (by wtm_at "pf") ?_)) | ((with_reducible refine gn_sel ?_); first | (refine selN_p (by wtm_at "pf") ?_) | (refine selN_n (by wtm_at "pf") ?_)) | ((with_reducible refine gd_selT ?_); first | (refine selT_p (by wtm_at "pf") ?_) | (refine selT_n (by wtm_at "pf") ?_)) | ((with_reducible refine gn_selT ?_); first | (refine selTN_p (by wtm_at "pf") ?_) | (refine selTN_n (by wtm_at "pf") ?_)) | ((with_reducible refine gd_selE ?_); first | (refine selE_p (by wtm_at "pf") ?_) | (refine selE_n (by wtm_at "pf") ?_)) | ((with_reducible refine gn_selE ?_); first | (refine selEN_p (by wtm_at "pf") ?_) | (refine selEN_n (by wtm_at "pf") ?_)) | ((with_reducible refine g_xf ?_); refine xf_at rfl (by wtm_at "ho") ?_) | ((with_reducible refine g_atI ?_); refine ex_at (by first | exact rfl | exact atI_int (by omega) (by wtm_at "pf") | exact atI_end (by wtm_at "pf")) ?_) | ((with_reducible refine g_and ?_); refine And.intro (by wtm_at "co") ?_))
local macro_rules | `(tactic| wtm_at "oo") => `(tactic| repeat (first | wtm_at "xo" | wtm_at "so"))
local macro_rules | `(tactic| wtm_at "cR") => `(tactic| (refine' compRi _ (by with_reducible assumption) (by omega) (fun _ _ _ _ _ => ?_) (fun _ _ _ => ?_); rotate_left; focus (wtm_at "oo")))

local macro_rules | `(tactic| wtm_at "lk") => `(tactic| first | (with_reducible exact lk_here) | (simp only [lk_here, lk_skip, lk_nil]; first | done | exact rfl))
local macro_rules | `(tactic| wtm_at "ln") => `(tactic| first | (with_reducible exact lk_nil) | (simp only [lk_skip, lk_nil]; done))
local macro_rules | `(tactic| wtm_at "pu") => `(tactic| first | (with_reducible exact pf_nil) | (simp only [pf_nil, pf_here, pf_skip]; first | done | exact rfl))
local macro_rules | `(tactic| wtm_at "tk") => `(tactic| first | (with_reducible exact Take.here) | (exact Take.here) | ((with_reducible apply Take.there); wtm_at "tk"))
local macro_rules | `(tactic| wtm_at "pk") => `(tactic| first | exact Pick.nil | ((with_reducible refine' Pick.cons ?tk1 ?pk1); (case tk1 => wtm_at "tk"); (case pk1 => wtm_at "pk")) | ((with_reducible refine Pick.im (by wtm_at "mem") ?_); wtm_at "pk") | ((with_reducible refine Pick.ims (by wtm_at "mem") ?_); wtm_at "pk"))
section
variable {P : Program} {w : World} {K : PySem.W.Frag} {mg : Str → Option Value} {base : Heap}
def sp__law_is_integer (K : PySem.W.Frag) : Sp := fun vs H Q _ => ∃ (i : Int), vs = [.int i] ∧ Q (.bl true) H
theorem ok__law_is_integer (T : Tx K mg) : Cl P w K mg base 1 "_law_is_integer" ["actual"] (sp__law_is_integer K) [] := by
  obtain ⟨gm, fd, F⟩ := T.d__law_is_integer
  refine ⟨_, fd, [], F.ok sc__law_is_integer (fun vs H Q E h => ?_) (fun cdv A outer s H vs Q E hr h => ⟨_, (PSs.nox (pss_one (ps_ret (by exact (pe_and (pe_callB (isiK K) rfl T.b_isinstance (by decide +kernel) (pa_cons (pv 0) (pa_cons (pe_bltn (v := .ty "int") rfl T.b_int (by decide +kernel) rfl) pa_nil))) (pe_one (pe_not (pe_callB (isiK K) rfl T.b_isinstance (by decide +kernel) (pa_cons (pv 0) (pa_cons (pe_bltn (v := .ty "bool") rfl T.b_bool (by decide +kernel) rfl) pa_nil)))))))))), ?_⟩), gm, F.kp, F.bindsN (fun _ _ _ _ _ _ us hl => match us, hl with | [_], _ => rfl), .nil⟩
  · first | (obtain ⟨rfl, _⟩ := h; rfl) | (obtain ⟨_, rfl, _⟩ := h; rfl) | (obtain ⟨_, _, rfl, _⟩ := h; rfl) | (obtain ⟨_, _, _, rfl, _⟩ := h; rfl) | (obtain ⟨_, _, _, _, rfl, _⟩ := h; rfl) | (obtain ⟨_, _, _, _, _, rfl, _⟩ := h; rfl) | (obtain ⟨_, _, _, _, _, _, rfl, _⟩ := h; rfl) | (obtain ⟨_, _, _, _, _, _, _, rfl, _⟩ := h; rfl) | (obtain ⟨_, _, _, _, _, _, _, _, rfl, _⟩ := h; rfl) | (obtain ⟨_, _, _, _, _, _, _, _, _, rfl, _⟩ := h; rfl) | (obtain ⟨_, _, _, _, _, _, _, _, _, _, rfl, _⟩ := h; rfl) | (obtain ⟨_, _, _, _, _, _, _, _, _, _, _, rfl, _⟩ := h; rfl) | (obtain ⟨_, _, _, _, _, _, _, _, _, _, _, _, rfl, _⟩ := h; rfl) | (obtain ⟨_, _, _, _, _, _, _, _, _, _, _, _, _, rfl, _⟩ := h; rfl) | (obtain ⟨_, _, _, _, _, _, _, _, _, _, _, _, _, _, rfl, _⟩ := h; rfl) | (obtain ⟨_, _, _, _, _, _, _, _, _, _, _, _, _, _, _, rfl, _⟩ := h; rfl) | (obtain ⟨_, _, _, _, _, _, _, _, _, _, _, _, _, _, _, _, rfl, _⟩ := h; rfl) | (obtain ⟨_, _, _, _, _, _, _, _, _, _, _, _, _, _, _, _, _, rfl, _⟩ := h; rfl) | (obtain ⟨_, _, _, _, _, _, _, _, _, _, _, _, _, _, _, _, _, _, rfl, _⟩ := h; rfl) | (obtain ⟨_, _, _, _, _, _, _, _, _, _, _, _, _, _, _, _, _, _, _, rfl, _⟩ := h; rfl) | (obtain ⟨_, _, _, _, _, _, _, _, _, _, _, _, _, _, _, _, _, _, _, _, rfl, _⟩ := h; rfl) | (obtain ⟨_, _, _, _, _, _, _, _, _, _, _, _, _, _, _, _, _, _, _, _, _, rfl, _⟩ := h; rfl)
  · obtain ⟨i, rfl, q⟩ := h
    k_call_by "xs" st__law_is_integer
    refine isi_int rfl ?_
    wtm_at "xs"
    refine isi_int rfl ?_
    wtm_at "xs"
    exact q
theorem g_int {K : PySem.W.Frag} {H : Hp} {vs : List V} {Q : VK} {E : XK} (h : sp__law_is_integer K vs H Q E) : sp__law_is_integer K vs H Q E := h
theorem int_call {K : PySem.W.Frag} {H : Hp} {i : Int} {Q : VK} {E : XK} (q : Q (.bl true) H) : sp__law_is_integer K [.int i] H Q E := ⟨i, rfl, q⟩


end
end K41

namespace K41
open PySem PySem.Spec PyProof.Rows L2 Bel
local macro_rules | `(tactic| wtm_at "xs") => `(tactic| simp only [x_next, x_seq, x_brk, x_cont, x_drop, x_ret, x_retN, x_if, sel_t, sel_f, selE_t, selE_f, selT_t, selT_f, selC_t, selC_f, x_test, x_tB, x_op, x_un, x_var, x_c, x_cb, x_nil, x_cons, x_rI, x_rI0, x_rU, x_rEq, x_rNe, x_rIxL, x_rIxT, x_rSlL, x_rCat, x_rRep, x_rApp, x_bm, x_bm0, x_sl, x_nopart, x_part, x_tup, x_lst, x_call, x_callS, x_asg, x_gname, x_gtup, x_gnil, x_gcons, x_gsub, x_setL, x_aug, x_ipI, x_ipC, x_bits, x_getL, x_augS, x_and, x_or, x_not, x_k, x_andV, x_orV, x_notV, x_ife, x_chain, x_for, x_ilist, x_itup, x_ienum, x_irng1, x_irng2, x_irev, x_lc, x_yes, wipe_nil, wipe_cons, List.map_cons, List.map_nil, x_misc, x_misc2, x_rz, lookup_at, Bool.not_true, Bool.not_false, decide_true, decide_false, not_true, not_false_eq_true, and_assoc, exists_and_left, exists_eq_left', exists_eq_left, exists_eq', exists_eq_right', exists_eq_right, V.int.injEq, V.ref.injEq, V.bl.injEq, V.str.injEq, List.cons.injEq, and_true, true_and, and_self, Option.some.injEq, List.cons_append, List.nil_append, List.append_nil, List.getElem?_cons_zero, List.getElem?_cons_succ, List.set_cons_zero, List.set_cons_succ, reduceCtorEq, false_and, and_false, exists_false, exists_const, or_false, false_or, scal_ii, scal_bb, scal_ss, List.length_cons, List.length_nil, Int.reduceToNat, Int.reducePow])
local macro_rules | `(tactic| k_call_by "xs" $h:term) => `(tactic| simp only [$h:term, x_next, x_seq, x_brk, x_cont, x_drop, x_ret, x_retN, x_if, sel_t, sel_f, selE_t, selE_f, selT_t, selT_f, selC_t, selC_f, x_test, x_tB, x_op, x_un, x_var, x_c, x_cb, x_nil, x_cons, x_rI, x_rI0, x_rU, x_rEq, x_rNe, x_rIxL, x_rIxT, x_rSlL, x_rCat, x_rRep, x_rApp, x_bm, x_bm0, x_sl, x_nopart, x_part, x_tup, x_lst, x_call, x_callS, x_asg, x_gname, x_gtup, x_gnil, x_gcons, x_gsub, x_setL, x_aug, x_ipI, x_ipC, x_bits, x_getL, x_augS, x_and, x_or, x_not, x_k, x_andV, x_orV, x_notV, x_ife, x_chain, x_for, x_ilist, x_itup, x_ienum, x_irng1, x_irng2, x_irev, x_lc, x_yes, wipe_nil, wipe_cons, List.map_cons, List.map_nil, x_misc, x_misc2, x_rz, lookup_at, Bool.not_true, Bool.not_false, decide_true, decide_false, not_true, not_false_eq_true, and_assoc, exists_and_left, exists_eq_left', exists_eq_left, exists_eq', exists_eq_right', exists_eq_right, V.int.injEq, V.ref.injEq, V.bl.injEq, V.str.injEq, List.cons.injEq, and_true, true_and, and_self, Option.some.injEq, List.cons_append, List.nil_append, List.append_nil, List.getElem?_cons_zero, List.getElem?_cons_succ, List.set_cons_zero, List.set_cons_succ, reduceCtorEq, false_and, and_false, exists_false, exists_const, or_false, false_or, scal_ii, scal_bb, scal_ss, List.length_cons, List.length_nil, Int.reduceToNat, Int.reducePow])
local macro_rules | `(tactic| wtm_at "hp") => `(tactic| first | (with_reducible assumption) | exact upd_same | (refine upd_keep (by with_reducible assumption) ?_; wtm_at "hp") | (refine Same.get (by with_reducible assumption) ?_; wtm_at "hp") | (refine upd_other (by first | (with_reducible assumption) | exact Ne.symm (by with_reducible assumption)) ?_; wtm_at "hp"))
local macro_rules | `(tactic| wtm_at "sq") => `(tactic| first | (with_reducible assumption) | exact SqL.of (by wtm_at "hp") | exact SqT.of (by wtm_at "hp") | (refine Same.seq (same_upd (by with_reducible assumption)) ?_; wtm_at "sq") | (refine Same.seq (by with_reducible assumption) ?_; wtm_at "sq") | (refine Same.seqT (same_upd (by with_reducible assumption)) ?_; wtm_at "sq") | (refine Same.seqT (by with_reducible assumption) ?_; wtm_at "sq"))
local macro_rules | `(tactic| wtm_at "cl") => `(tactic| first | (with_reducible assumption) | omega | (exact cmul_r (by omega) (by omega)) | (exact cmul_l (by omega) (by omega)) | (exact cdiv_ok (by omega) (by omega)) | (exact cpow_ok (by decide)) | (exact ⟨by omega, by omega, by omega⟩) | decide | (exact ⟨by omega, by omega⟩) | (simp only [List.length_append, List.length_map, List.length_set, List.length_cons, List.length_nil, rngL_len, sizeLine_eq]; omega) | wtm_at "hp" | wtm_at "sq")
local macro_rules | `(tactic| wtm_at "pf") => `(tactic| first | (with_reducible assumption) | omega | (simp only [List.length_append, List.length_map, List.length_set, List.length_cons, List.length_nil, rngL_len]; omega) | (with_reducible rfl) | (with_reducible trivial) | (with_reducible decide))
local macro_rules | `(tactic| wtm_at "st") => `(tactic| first | ((with_reducible refine g_at ?_); refine at_call (by wtm_at "sq") (by omega) (by omega) (fun _ _ => ?_)) | ((with_reducible refine g_int ?_); refine int_call ?_) | ((with_reducible refine g_isi ?_); first | (with_reducible refine isi_ii ?_) | (with_reducible refine isi_ib ?_) | (refine isi_int rfl ?_) | (refine isi_lst rfl (by wtm_at "hp") ?_) | (refine isi_tup rfl (by wtm_at "hp") ?_)) | ((with_reducible refine g_ned ?_); refine ned_f (dq_lst (by wtm_at "sq")) (dq_lst (by wtm_at "sq")) ?_) | ((with_reducible refine g_eqd ?_); refine eqd_t (dq_lst (by wtm_at "sq")) (dq_lst (by wtm_at "sq")) ?_) | ((with_reducible refine g_tyv ?_); refine and_tyv (by wtm_at "sq") ?_) | ((with_reducible refine g_asq ?_); refine and_sq (by wtm_at "sq") ?_) | ((with_reducible refine g_lst ?_); refine ex_lst (by wtm_at "hp") ?_) | ((with_reducible refine g_or ?_); first | (refine ex_or (by wtm_at "sq") ?_) | (refine ex_ort (by wtm_at "sq") ?_)) | ((with_reducible refine g_sq ?_); refine ex_sq (by wtm_at "sq") ?_) | ((with_reducible refine g_sqt ?_); refine ex_sqt (by wtm_at "sq") ?_) | ((with_reducible refine gd_sel ?_); first | (refine sel_p (by wtm_at "pf") ?_) | (refine sel_n (by wtm_at "pf") ?_)) | ((with_reducible refine gn_sel ?_); first | (refine selN_p (by wtm_at "pf") ?_) | (refine selN_n (by wtm_at "pf") ?_)) | ((with_reducible refine gd_selT ?_); first | (refine selT_p (by wtm_at "pf") ?_) | (refine selT_n (by wtm_at "pf") ?_)) | ((with_reducible refine gn_selT ?_); first | (refine selTN_p (by wtm_at "pf") ?_) | (refine selTN_n (by wtm_at "pf") ?_)) | ((with_reducible refine gd_selE ?_); first | (refine selE_p (by wtm_at "pf") ?_) | (refine selE_n (by wtm_at "pf") ?_)) | ((with_reducible refine gn_selE ?_); first | (refine selEN_p (by wtm_at "pf") ?_) | (refine selEN_n (by wtm_at "pf") ?_)) | ((with_reducible refine g_xf ?_); refine xf_at rfl (by wtm_at "hp") ?_) | ((with_reducible refine g_atI ?_); refine ex_at (by first | exact rfl | exact atI_int (by omega) (by wtm_at "pf") | exact atI_end (by wtm_at "pf")) ?_) | ((with_reducible refine g_and ?_); refine And.intro (by wtm_at "cl") ?_) | ((with_reducible refine g_new ?_); intro _ _))
local macro_rules | `(tactic| wtm_at "go") => `(tactic| repeat (first | wtm_at "xs" | wtm_at "st"))
local macro_rules | `(tactic| wtm_at "xo") => `(tactic| simp only [x_next, x_seq, x_brk, x_cont, x_drop, x_ret, x_retN, x_if, sel_t, sel_f, selE_t, selE_f, selT_t, selT_f, selC_t, selC_f, x_test, x_tB, x_op, x_un, x_var, x_c, x_cb, x_nil, x_cons, x_rI, x_rI0, x_rU, x_rEq, x_rNe, x_rIxL, x_rIxT, n_rSlL, n_rCat, n_rRep, n_rApp, x_bm, x_bm0, x_sl, x_nopart, x_part, n_tup, n_lst, x_call, x_callS, x_asg, x_gname, x_gtup, x_gnil, x_gcons, x_gsub, n_setL, x_aug, x_ipI, x_ipC, x_bits, x_getL, x_augS, x_and, x_or, x_not, x_k, x_andV, x_orV, x_notV, x_ife, x_chain, x_for, x_ilist, x_itup, x_ienum, x_irng1, x_irng2, x_irev, x_lc, x_yes, wipe_nil, wipe_cons, List.map_cons, List.map_nil, x_misc, x_misc2, x_rz, lookup_at, Bool.not_true, Bool.not_false, decide_true, decide_false, not_true, not_false_eq_true, and_assoc, exists_and_left, exists_eq_left', exists_eq_left, exists_eq', exists_eq_right', exists_eq_right, V.int.injEq, V.ref.injEq, V.bl.injEq, V.str.injEq, List.cons.injEq, and_true, true_and, and_self, Option.some.injEq, List.cons_append, List.nil_append, List.append_nil, List.getElem?_cons_zero, List.getElem?_cons_succ, List.set_cons_zero, List.set_cons_succ, reduceCtorEq, false_and, and_false, exists_false, exists_const, or_false, false_or, scal_ii, scal_bb, scal_ss, List.length_cons, List.length_nil, Int.reduceToNat, Int.reducePow, n_fld, n_sfld, n_aug, n_meth, n_mw, n_make, n_kw, n_rLs, n_dcp, n_gget, n_rLtT, n_ext, n_revL, n_rTp, t_im, ints_rev, t_s1, t_i1, t_i2, t_i3, t_i4, t_i5, x_chain3, x_irng3, x_irevR, x_rg1, x_rg2, ints_cat, ints_app1, ints_len, ints_take, ints_drop, rep_one])
local macro_rules | `(tactic| k_call_by "xo" $h:term) => `(tactic| simp only [$h:term, x_next, x_seq, x_brk, x_cont, x_drop, x_ret, x_retN, x_if, sel_t, sel_f, selE_t, selE_f, selT_t, selT_f, selC_t, selC_f, x_test, x_tB, x_op, x_un, x_var, x_c, x_cb, x_nil, x_cons, x_rI, x_rI0, x_rU, x_rEq, x_rNe, x_rIxL, x_rIxT, n_rSlL, n_rCat, n_rRep, n_rApp, x_bm, x_bm0, x_sl, x_nopart, x_part, n_tup, n_lst, x_call, x_callS, x_asg, x_gname, x_gtup, x_gnil, x_gcons, x_gsub, n_setL, x_aug, x_ipI, x_ipC, x_bits, x_getL, x_augS, x_and, x_or, x_not, x_k, x_andV, x_orV, x_notV, x_ife, x_chain, x_for, x_ilist, x_itup, x_ienum, x_irng1, x_irng2, x_irev, x_lc, x_yes, wipe_nil, wipe_cons, List.map_cons, List.map_nil, x_misc, x_misc2, x_rz, lookup_at, Bool.not_true, Bool.not_false, decide_true, decide_false, not_true, not_false_eq_true, and_assoc, exists_and_left, exists_eq_left', exists_eq_left, exists_eq', exists_eq_right', exists_eq_right, V.int.injEq, V.ref.injEq, V.bl.injEq, V.str.injEq, List.cons.injEq, and_true, true_and, and_self, Option.some.injEq, List.cons_append, List.nil_append, List.append_nil, List.getElem?_cons_zero, List.getElem?_cons_succ, List.set_cons_zero, List.set_cons_succ, reduceCtorEq, false_and, and_false, exists_false, exists_const, or_false, false_or, scal_ii, scal_bb, scal_ss, List.length_cons, List.length_nil, Int.reduceToNat, Int.reducePow, n_fld, n_sfld, n_aug, n_meth, n_mw, n_make, n_kw, n_rLs, n_dcp, n_gget, n_rLtT, n_ext, n_revL, n_rTp, t_im, ints_rev, t_s1, t_i1, t_i2, t_i3, t_i4, t_i5, x_chain3, x_irng3, x_irevR, x_rg1, x_rg2, ints_cat, ints_app1, ints_len, ints_take, ints_drop, rep_one])
local macro_rules | `(tactic| wtm_at "mem") => `(tactic| first | (with_reducible exact mem_here) | (with_reducible refine mem_there ?_; wtm_at "mem"))
local macro_rules | `(tactic| wtm_at "pp") => `(tactic| first | (with_reducible exact Put.here) | (with_reducible apply Put.there; wtm_at "pp"))
local macro_rules | `(tactic| wtm_at "ho") => `(tactic| first | (with_reducible assumption) | exact Own.get (by with_reducible assumption) (by wtm_at "mem") | exact Own.base (by with_reducible assumption) (by with_reducible assumption))
local macro_rules | `(tactic| wtm_at "qo") => `(tactic| first | (with_reducible assumption) | exact SqL.of (by wtm_at "ho") | exact sqT_tupI (by wtm_at "ho") | exact sqT_tupS (by wtm_at "ho") | exact SqT.of (by wtm_at "ho") | exact Own.imT (by with_reducible assumption) (by wtm_at "mem") | exact Own.sq (by with_reducible assumption) (by with_reducible assumption) | exact Own.sqT (by with_reducible assumption) (by with_reducible assumption))
local macro_rules | `(tactic| wtm_at "sub") => `(tactic| first | exact List.nil_sublist _ | (with_reducible refine List.Sublist.cons_cons _ ?_; wtm_at "sub") | (refine List.Sublist.cons _ ?_; wtm_at "sub"))
local macro_rules | `(tactic| wtm_at "co") => `(tactic| first | (with_reducible assumption) | omega | (exact cmul_r (by omega) (by omega)) | (exact cmul_l (by omega) (by omega)) | (exact cdiv_ok (by omega) (by omega)) | (exact cpow_ok (by decide)) | (exact ⟨by omega, by omega, by omega⟩) | decide | (exact ⟨by omega, by omega⟩) | (simp only [List.length_append, List.length_map, List.length_set, List.length_cons, List.length_nil, rngL_len, sizeLine_eq]; omega) | wtm_at "ho" | wtm_at "qo")
local macro_rules | `(tactic| wtm_at "so") => `(tactic| first | ((with_reducible refine g_dcp ?_); refine dcpI (by wtm_at "ho") ?_) | ((with_reducible refine g_asl ?_); refine And.intro (by rfl) ?_) | ((with_reducible refine g_asqT ?_); refine and_sqT (by wtm_at "qo") ?_) | ((with_reducible refine g_extO ?_); first | (refine extI (by with_reducible assumption) (by wtm_at "pp") (by wtm_at "co") (fun _ _ => ?_)) | (refine extO (by with_reducible assumption) (by wtm_at "pp") (by wtm_at "co") (fun _ _ => ?_))) | ((with_reducible refine g_tp ?_); first | (refine tp_l (by wtm_at "qo") ?_) | (refine tp_t (by wtm_at "qo") ?_)) | ((with_reducible refine g_fldO ?_); refine fldO (by wtm_at "ho") (by with_reducible assumption) (by wtm_at "mem") (by wtm_at "lk") ?_) | ((with_reducible refine g_fldC ?_); refine fldC (by wtm_at "ho") (by with_reducible assumption) (by wtm_at "mem") (by wtm_at "lk") ?_) | ((with_reducible refine g_putC ?_); refine putC (by with_reducible assumption) (by wtm_at "pp") (by wtm_at "pu") (by wtm_at "co") (fun _ _ => ?_)) | ((with_reducible refine g_stoO ?_); refine stoO (by with_reducible assumption) (by wtm_at "pp") (by wtm_at "pu") (by with_reducible assumption) (by wtm_at "mem") (by wtm_at "co") (fun _ _ => ?_)) | ((with_reducible refine g_metO ?_); refine metO (by wtm_at "ho") (by wtm_at "ln") ?_) | ((with_reducible refine g_makO ?_); refine makO (by with_reducible assumption) (fun _ _ _ _ => ?_)) | ((with_reducible refine g_sum ?_); refine sum_call (by wtm_at "qo") ?_) | ((with_reducible refine g_cq ?_); exact cq (by with_reducible assumption) (by simp only [rngL_len, List.length_map, List.length_take]; omega)) | ((with_reducible refine g_newO ?_); refine newO (by with_reducible assumption) (fun _ _ _ => ?_)) | ((with_reducible refine g_appO ?_); refine appI (by with_reducible assumption) (by wtm_at "pp") (by wtm_at "co") (fun _ _ => ?_)) | ((with_reducible refine g_setO ?_); refine setI (by with_reducible assumption) (by wtm_at "pp") (by omega) (by wtm_at "co") (fun _ _ => ?_)) | ((with_reducible refine g_appO ?_); refine appO (by with_reducible assumption) (by wtm_at "pp") (by wtm_at "co") (fun _ _ => ?_)) | ((with_reducible refine g_setO ?_); refine setO (by with_reducible assumption) (by wtm_at "pp") (by omega) (by wtm_at "co") (fun _ _ => ?_)) | ((with_reducible refine g_at ?_); refine at_call (by wtm_at "qo") (by omega) (by omega) (fun _ _ => ?_)) | ((with_reducible refine g_int ?_); refine int_call ?_) | ((with_reducible refine g_isi ?_); first | (with_reducible refine isi_ii ?_) | (with_reducible refine isi_ib ?_) | (refine isi_int rfl ?_) | (refine isi_sqL rfl (by wtm_at "qo") ?_) | (refine isi_sqT rfl (by wtm_at "qo") ?_) | (refine isi_bl rfl ?_) | (refine isi_non rfl ?_) | (refine isi_str rfl ?_)) | ((with_reducible refine g_ned ?_); first | (refine ned_f (dq_lst (by wtm_at "qo")) (dq_lst (by wtm_at "qo")) ?_) | (refine ned_ints (by wtm_at "qo") (by wtm_at "qo") ?_) | (refine nedT_ints (by wtm_at "qo") (by wtm_at "qo") ?_)) | ((with_reducible refine g_eqd ?_); first | (refine eqd_t (dq_lst (by wtm_at "qo")) (dq_lst (by wtm_at "qo")) ?_) | (refine eqd_ints (by wtm_at "qo") (by wtm_at "qo") ?_) | (refine eqdT_ints (by wtm_at "qo") (by wtm_at "qo") ?_)) | ((with_reducible refine g_tyv ?_); refine and_tyv (by wtm_at "qo") ?_) | ((with_reducible refine g_asq ?_); refine and_sq (by wtm_at "qo") ?_) | ((with_reducible refine g_lst ?_); refine ex_lst (by wtm_at "ho") ?_) | ((with_reducible refine g_or ?_); first | (refine ex_or (by wtm_at "qo") ?_) | (refine ex_ort (by wtm_at "qo") ?_)) | ((with_reducible refine g_sq ?_); refine ex_sq (by wtm_at "qo") ?_) | ((with_reducible refine g_sqt ?_); refine ex_sqt (by wtm_at "qo") ?_) | ((with_reducible refine gd_sel ?_); first | (refine sel_p (by wtm_at "pf") ?_) | (refine sel_n (by wtm_at "pf") ?_)) | ((with_reducible refine gn_sel ?_); first | (refine selN_p (by wtm_at "pf") ?_) | (refine selN_n (by wtm_at "pf") ?_)) | ((with_reducible refine gd_selT ?_); first | (refine selT_p (by wtm_at "pf") ?_) | (refine selT_n (by wtm_at "pf") ?_)) | ((with_reducible refine gn_selT ?_); first | (refine selTN_p (by wtm_at "pf") ?_) | (refine selTN_n (by wtm_at "pf") ?_)) | ((with_reducible refine gd_selE ?_); first | (refine selE_p (by wtm_at "pf") ?_) | (refine selE_n (by wtm_at "pf") ?_)) | ((with_reducible refine gn_selE ?_); first | (refine selEN_p (by wtm_at "pf") ?_) | (refine selEN_n (by wtm_at "pf") ?_)) | ((with_reducible refine g_xf ?_); refine xf_at rfl (by wtm_at "ho") ?_) | ((with_reducible refine g_atI ?_); refine ex_at (by first | exact rfl | exact atI_int (by omega) (by wtm_at "pf") | exact atI_end (by wtm_at "pf")) ?_) | ((with_reducible refine g_and ?_); refine And.intro (by wtm_at "co") ?_))
local macro_rules | `(tactic| wtm_at "oo") => `(tactic| repeat (first | wtm_at "xo" | wtm_at "so"))
local macro_rules | `(tactic| wtm_at "cR") => `(tactic| (refine' compRi _ (by with_reducible assumption) (by omega) (fun _ _ _ _ _ => ?_) (fun _ _ _ => ?_); rotate_left; focus (wtm_at "oo")))

local macro_rules | `(tactic| wtm_at "lk") => `(tactic| first | (with_reducible exact lk_here) | (simp only [lk_here, lk_skip, lk_nil]; first | done | exact rfl))
local macro_rules | `(tactic| wtm_at "ln") => `(tactic| first | (with_reducible exact lk_nil) | (simp only [lk_skip, lk_nil]; done))
local macro_rules | `(tactic| wtm_at "pu") => `(tactic| first | (with_reducible exact pf_nil) | (simp only [pf_nil, pf_here, pf_skip]; first | done | exact rfl))
local macro_rules | `(tactic| wtm_at "tk") => `(tactic| first | (with_reducible exact Take.here) | (exact Take.here) | ((with_reducible apply Take.there); wtm_at "tk"))
local macro_rules | `(tactic| wtm_at "pk") => `(tactic| first | exact Pick.nil | ((with_reducible refine' Pick.cons ?tk1 ?pk1); (case tk1 => wtm_at "tk"); (case pk1 => wtm_at "pk")) | ((with_reducible refine Pick.im (by wtm_at "mem") ?_); wtm_at "pk") | ((with_reducible refine Pick.ims (by wtm_at "mem") ?_); wtm_at "pk"))
section
variable {P : Program} {w : World} {K : PySem.W.Frag} {mg : Str → Option Value} {base : Heap}
theorem ga16 {K : PySem.W.Frag} : valV (gkv K ([(16, .adr (dvA "_REPEATS" 0)), (17, .adr (dvA "_REPEATS" 1)), (18, .adr (dvA "_REPEATS" 2))] : List (Int × He.Dv))) (.inl 16) = some (.ref (dvA "_REPEATS" 0 K)) := rfl
theorem ga17 {K : PySem.W.Frag} : valV (gkv K ([(16, .adr (dvA "_REPEATS" 0)), (17, .adr (dvA "_REPEATS" 1)), (18, .adr (dvA "_REPEATS" 2))] : List (Int × He.Dv))) (.inl 17) = some (.ref (dvA "_REPEATS" 1 K)) := rfl
theorem ga18 {K : PySem.W.Frag} : valV (gkv K ([(16, .adr (dvA "_REPEATS" 0)), (17, .adr (dvA "_REPEATS" 1)), (18, .adr (dvA "_REPEATS" 2))] : List (Int × He.Dv))) (.inl 18) = some (.ref (dvA "_REPEATS" 2 K)) := rfl
/-- bits and least size of a row -/
def rpB (s : Int) : Int := if s = 16 then 2 else if s = 17 then 3 else if s = 18 then 7 else 0
def rpL (s : Int) : Int := if s = 16 then 3 else if s = 17 then 3 else if s = 18 then 11 else 1
theorem ga_no {K : PySem.W.Frag} {s : Int} (h : ¬ s = 16 ∧ ¬ s = 17 ∧ ¬ s = 18) : valV (gkv K ([(16, .adr (dvA "_REPEATS" 0)), (17, .adr (dvA "_REPEATS" 1)), (18, .adr (dvA "_REPEATS" 2))] : List (Int × He.Dv))) (.inl s) = none := by
  unfold valV gkv
  simp only [List.map_cons, List.map_nil, List.find?_cons, List.find?_nil]
  have e1 : decide ((Sum.inl (16 : Int) : Key) = .inl s) = false := decide_eq_false fun z => h.1 (Sum.inl.inj z).symm
  have e2 : decide ((Sum.inl (17 : Int) : Key) = .inl s) = false := decide_eq_false fun z => h.2.1 (Sum.inl.inj z).symm
  have e3 : decide ((Sum.inl (18 : Int) : Key) = .inl s) = false := decide_eq_false fun z => h.2.2 (Sum.inl.inj z).symm
  rw [e1, e2, e3]
  rfl
def sp_row_parts (K : PySem.W.Frag) : Sp := fun vs H Q _ => ∃ (s : Int), vs = [.int s] ∧ ∀ p H', Own K H H' [.im (.ref p) (tI [rpB s, rpL s])] → Q (.ref p) H'
theorem ok_row_parts (T : Tx K mg) : Cl P w K mg base 1 "row_parts" ["symbol"] (sp_row_parts K) [] := by
  obtain ⟨gm, fd, F⟩ := T.d_row_parts
  refine ⟨_, fd, [], F.ok sc_row_parts (fun vs H Q E h => ?_) (fun cdv A outer s H vs Q E hr h => ⟨_, (PSs.nox (pss_one (ps_ret (by exact (pe_gget2 K T.gd__REPEATS (pe_gc rfl T.c__REPEATS) (pv 0) (pe_tup (pa_cons pe_int (pa_cons pe_int pa_nil))) ⟨rfl, rfl, rfl, rfl⟩))))), ?_⟩), gm, F.kp, F.bindsN (fun _ _ _ _ _ _ us hl => match us, hl with | [_], _ => rfl), .nil⟩
  · first | (obtain ⟨rfl, _⟩ := h; rfl) | (obtain ⟨_, rfl, _⟩ := h; rfl) | (obtain ⟨_, _, rfl, _⟩ := h; rfl) | (obtain ⟨_, _, _, rfl, _⟩ := h; rfl) | (obtain ⟨_, _, _, _, rfl, _⟩ := h; rfl) | (obtain ⟨_, _, _, _, _, rfl, _⟩ := h; rfl) | (obtain ⟨_, _, _, _, _, _, rfl, _⟩ := h; rfl) | (obtain ⟨_, _, _, _, _, _, _, rfl, _⟩ := h; rfl) | (obtain ⟨_, _, _, _, _, _, _, _, rfl, _⟩ := h; rfl) | (obtain ⟨_, _, _, _, _, _, _, _, _, rfl, _⟩ := h; rfl) | (obtain ⟨_, _, _, _, _, _, _, _, _, _, rfl, _⟩ := h; rfl) | (obtain ⟨_, _, _, _, _, _, _, _, _, _, _, rfl, _⟩ := h; rfl) | (obtain ⟨_, _, _, _, _, _, _, _, _, _, _, _, rfl, _⟩ := h; rfl) | (obtain ⟨_, _, _, _, _, _, _, _, _, _, _, _, _, rfl, _⟩ := h; rfl) | (obtain ⟨_, _, _, _, _, _, _, _, _, _, _, _, _, _, rfl, _⟩ := h; rfl) | (obtain ⟨_, _, _, _, _, _, _, _, _, _, _, _, _, _, _, rfl, _⟩ := h; rfl) | (obtain ⟨_, _, _, _, _, _, _, _, _, _, _, _, _, _, _, _, rfl, _⟩ := h; rfl) | (obtain ⟨_, _, _, _, _, _, _, _, _, _, _, _, _, _, _, _, _, rfl, _⟩ := h; rfl) | (obtain ⟨_, _, _, _, _, _, _, _, _, _, _, _, _, _, _, _, _, _, rfl, _⟩ := h; rfl) | (obtain ⟨_, _, _, _, _, _, _, _, _, _, _, _, _, _, _, _, _, _, _, rfl, _⟩ := h; rfl) | (obtain ⟨_, _, _, _, _, _, _, _, _, _, _, _, _, _, _, _, _, _, _, _, rfl, _⟩ := h; rfl) | (obtain ⟨_, _, _, _, _, _, _, _, _, _, _, _, _, _, _, _, _, _, _, _, _, rfl, _⟩ := h; rfl)
  · obtain ⟨s, rfl, q⟩ := h
    k_call_by "xo" st_row_parts
    have L := Own.start (K := K) (H := H)
    have t0 : ∀ H, SqT K H (dvA "_REPEATS" 0 K) (([2, 3] : List Int).map V.int) := T.gt__REPEATS0
    have t1 : ∀ H, SqT K H (dvA "_REPEATS" 1 K) (([3, 3] : List Int).map V.int) := T.gt__REPEATS1
    have t2 : ∀ H, SqT K H (dvA "_REPEATS" 2 K) (([7, 11] : List Int).map V.int) := T.gt__REPEATS2
    wtm_at "oo"
    rename_i d0 H1 L1
    by_cases c0 : s = 16
    · rw [c0, ga16]
      rw [c0] at q
      exact q _ H1 (L1.addIm (Imm.of_is (t0 H1)) |>.sub (List.Sublist.cons_cons _ (List.nil_sublist _)))
    by_cases c1 : s = 17
    · rw [c1, ga17]
      rw [c1] at q
      exact q _ H1 (L1.addIm (Imm.of_is (t1 H1)) |>.sub (List.Sublist.cons_cons _ (List.nil_sublist _)))
    by_cases c2 : s = 18
    · rw [c2, ga18]
      rw [c2] at q
      exact q _ H1 (L1.addIm (Imm.of_is (t2 H1)) |>.sub (List.Sublist.cons_cons _ (List.nil_sublist _)))
    rw [ga_no ⟨c0, c1, c2⟩]
    refine q _ H1 ?_
    unfold rpB rpL
    rw [if_neg c0, if_neg c1, if_neg c2, if_neg c0, if_neg c1, if_neg c2]
    exact (newT L1 (p := d0) (ns := [0, 1]) mem_here).sub (List.Sublist.cons_cons _ (List.nil_sublist _))
/-- one row -/
def rowR (v p : Int) (can : Bool) : List Int := if p = 1 then [v, 0] else if can = true ∧ p ≤ 6 then [16, p - 3] else if p ≤ 10 then [17, p - 3] else [18, p - 11]
def sp__row (K : PySem.W.Frag) : Sp := fun vs H Q _ => ∃ (v p : Int) (b : Bool), vs = [.int v, .int p, .bl b] ∧ ∀ t H', Own K H H' [.im (.ref t) (tI (rowR v p b))] → Q (.ref t) H'
theorem ok__row (T : Tx K mg) : Cl P w K mg base 2 "_row" ["length", "portion", "can_repeat"] (sp__row K) [] := by
  obtain ⟨gm, fd, F⟩ := T.d__row
  refine ⟨_, fd, [], F.ok sc__row (fun vs H Q E h => ?_) (fun cdv A outer s H vs Q E hr h => ⟨_, (PSs.nox (pss_cons (ps_if (pt_cmpR op_eq (pv 1) pe_int (nomark _))
 (pss_one (ps_ret (by exact (pe_tup (pa_cons (pv 0) (pa_cons pe_int pa_nil))))))
 pss_nil)
 (pss_cons (ps_if (PW.pt (pw_and (pt_val (pv 2)) (pw_and1 (pt_cmpR op_le (pv 1) (pe_gc rfl T.c__MOST_REPEATED) (nomark _)))))
 (pss_one (ps_set (i := 3) sc__row.nd rfl (Or.inl rfl) (by exact (pe_gc rfl T.c_REPEAT_LAST))))
 (pss_one (ps_if (pt_cmpR op_le (pv 1) (pe_gc rfl T.c__MOST_FEW_ZEROS) (nomark _))
 (pss_one (ps_set (i := 3) sc__row.nd rfl (Or.inl rfl) (by exact (pe_gc rfl T.c_FEW_ZEROS))))
 (pss_one (ps_set (i := 3) sc__row.nd rfl (Or.inl rfl) (by exact (pe_gc rfl T.c_MANY_ZEROS)))))))
 (pss_one (ps_ret (by exact (pe_tup (pa_cons (pv 3) (pa_cons (pe_op op_sub (pv 1) (pe_ix (ixt K) (pe_cl (ok_row_parts T) (hr.mono (by decide)) rfl (pa_cons (pv 3) pa_nil)) pe_int (fun _ _ => rfl))) pa_nil))))))))), ?_⟩), gm, F.kp, F.bindsN (fun _ _ _ _ _ _ us hl => match us, hl with | [_, _, _], _ => rfl), .nil⟩
  · first | (obtain ⟨rfl, _⟩ := h; rfl) | (obtain ⟨_, rfl, _⟩ := h; rfl) | (obtain ⟨_, _, rfl, _⟩ := h; rfl) | (obtain ⟨_, _, _, rfl, _⟩ := h; rfl) | (obtain ⟨_, _, _, _, rfl, _⟩ := h; rfl) | (obtain ⟨_, _, _, _, _, rfl, _⟩ := h; rfl) | (obtain ⟨_, _, _, _, _, _, rfl, _⟩ := h; rfl) | (obtain ⟨_, _, _, _, _, _, _, rfl, _⟩ := h; rfl) | (obtain ⟨_, _, _, _, _, _, _, _, rfl, _⟩ := h; rfl) | (obtain ⟨_, _, _, _, _, _, _, _, _, rfl, _⟩ := h; rfl) | (obtain ⟨_, _, _, _, _, _, _, _, _, _, rfl, _⟩ := h; rfl) | (obtain ⟨_, _, _, _, _, _, _, _, _, _, _, rfl, _⟩ := h; rfl) | (obtain ⟨_, _, _, _, _, _, _, _, _, _, _, _, rfl, _⟩ := h; rfl) | (obtain ⟨_, _, _, _, _, _, _, _, _, _, _, _, _, rfl, _⟩ := h; rfl) | (obtain ⟨_, _, _, _, _, _, _, _, _, _, _, _, _, _, rfl, _⟩ := h; rfl) | (obtain ⟨_, _, _, _, _, _, _, _, _, _, _, _, _, _, _, rfl, _⟩ := h; rfl) | (obtain ⟨_, _, _, _, _, _, _, _, _, _, _, _, _, _, _, _, rfl, _⟩ := h; rfl) | (obtain ⟨_, _, _, _, _, _, _, _, _, _, _, _, _, _, _, _, _, rfl, _⟩ := h; rfl) | (obtain ⟨_, _, _, _, _, _, _, _, _, _, _, _, _, _, _, _, _, _, rfl, _⟩ := h; rfl) | (obtain ⟨_, _, _, _, _, _, _, _, _, _, _, _, _, _, _, _, _, _, _, rfl, _⟩ := h; rfl) | (obtain ⟨_, _, _, _, _, _, _, _, _, _, _, _, _, _, _, _, _, _, _, _, rfl, _⟩ := h; rfl) | (obtain ⟨_, _, _, _, _, _, _, _, _, _, _, _, _, _, _, _, _, _, _, _, _, rfl, _⟩ := h; rfl)
  · obtain ⟨v, p, b, rfl, q⟩ := h
    k_call_by "xo" st__row
    have L := Own.start (K := K) (H := H)
    have fin : ∀ (t : Addr) H' r rest, r = rowR v p b → Own K H H' (pT t r :: rest) → Q (.ref t) H' := by
      intro t H' r rest e L
      rw [← e] at q
      exact q t H' ((newT L (p := t) (ns := r) mem_here).sub (List.Sublist.cons_cons _ (List.nil_sublist _)))
    clear q
    wtm_at "oo"
    refine sel_d (fun c1 => ?_) (fun c1 => ?_)
    · wtm_at "oo"
      rename_i t H1 L1
      exact fin t H1 _ _ (if_pos c1).symm L1
    · wtm_at "oo"
      generalize hk : tRet _ _ = kont
      have fin2 : ∀ s : Int, [s, p - rpL s] = rowR v p b → kont [some (.int v), some (.int p), some (.bl b), some (.int s)] H := by
        intro s e
        subst hk
        wtm_at "oo"
        refine ⟨s, rfl, fun p2 H2 M => ?_⟩
        have L2 := L.c1 M
        wtm_at "oo"
        rename_i t H1 L1
        exact fin t H1 _ _ e L1
      clear hk fin
      cases b with
      | true =>
        wtm_at "oo"
        refine sel_d (fun c2 => ?_) (fun c2 => ?_)
        · wtm_at "oo"
          exact fin2 16 ((if_neg c1).trans (if_pos ⟨rfl, c2⟩)).symm
        · wtm_at "oo"
          refine sel_d (fun c3 => ?_) (fun c3 => ?_)
          · wtm_at "oo"
            exact fin2 17 ((if_neg c1).trans ((if_neg (fun z => c2 z.2)).trans (if_pos c3))).symm
          · wtm_at "oo"
            exact fin2 18 ((if_neg c1).trans ((if_neg (fun z => c2 z.2)).trans (if_neg c3))).symm
      | false =>
        wtm_at "oo"
        refine sel_d (fun c3 => ?_) (fun c3 => ?_)
        · wtm_at "oo"
          exact fin2 17 ((if_neg c1).trans ((if_neg (fun z => nomatch z.1)).trans (if_pos c3))).symm
        · wtm_at "oo"
          exact fin2 18 ((if_neg c1).trans ((if_neg (fun z => nomatch z.1)).trans (if_neg c3))).symm
/-- one portion of what is left -/
def porG (M r : Nat) : Nat := if r = 2 then 1 else if r - min r M = 2 then min r M - 1 else min r M
def porF (M : Nat) : Nat → Nat → List Int
  | 0, _ => []
  | n + 1, r => if r = 0 then [] else (porG M r : Int) :: porF M n (r - porG M r)
def pors (M r : Nat) : List Int := porF M r r
theorem porG_le {M r : Nat} (hM : 5 ≤ M) (h : 0 < r) : 1 ≤ porG M r ∧ porG M r ≤ r ∧ porG M r ≤ M := by
  unfold porG
  split
  · omega
  · split <;> omega
theorem porF_more {M : Nat} (hM : 5 ≤ M) : ∀ (n k r : Nat), r ≤ n → r ≤ k → porF M n r = porF M k r
  | 0, k, r, h, _ => by
    obtain rfl : r = 0 := by omega
    cases k with
    | zero => rfl
    | succ k =>
      unfold porF
      rw [if_pos rfl]
  | n + 1, 0, r, _, h => by
    obtain rfl : r = 0 := by omega
    unfold porF
    rw [if_pos rfl]
  | n + 1, k + 1, r, h1, h2 => by
    unfold porF
    by_cases c : r = 0
    · rw [if_pos c, if_pos c]
    · have := porG_le (M := M) (r := r) hM (by omega)
      rw [if_neg c, if_neg c, porF_more hM n k (r - porG M r) (by omega) (by omega)]
theorem pors_zero {M : Nat} : pors M 0 = [] := rfl
theorem pors_go {M r : Nat} (hM : 5 ≤ M) (h : 0 < r) : pors M r = (porG M r : Int) :: pors M (r - porG M r) := by
  have := porG_le (M := M) (r := r) hM h
  obtain ⟨n, rfl⟩ : ∃ n, r = n + 1 := ⟨r - 1, by omega⟩
  show porF M (n + 1) (n + 1) = _
  conv => lhs; unfold porF
  rw [if_neg (by omega), porF_more hM n (n + 1 - porG M (n + 1)) _ (by omega) (Nat.le_refl _)]
  rfl
theorem pors_len {M : Nat} : ∀ (n r : Nat), (porF M n r).length ≤ n
  | 0, r => Nat.le_refl 0
  | n + 1, r => by
    unfold porF
    split
    · exact Nat.zero_le _
    · rw [List.length_cons]
      have := pors_len (M := M) n (r - porG M r)
      omega
def sp__portions (K : PySem.W.Frag) : Sp := fun vs H Q _ => ∃ (r M : Nat), vs = [.int (r : Int), .int (M : Int)] ∧ 5 ≤ M ∧ r ≤ 5000 ∧ ∀ p H', Own K H H' [pI p (pors M r)] → Q (.ref p) H'
theorem ok__portions (T : Tx K mg) : Cl P w K mg base 1 "_portions" ["size", "most"] (sp__portions K) [] := by
  obtain ⟨gm, fd, F⟩ := T.d__portions
  refine ⟨_, fd, [], F.ok sc__portions (fun vs H Q E h => ?_) (fun cdv A outer s H vs Q E hr h => ⟨_, (PSs.nox (pss_cons (ps_set (i := 2) sc__portions.nd rfl (Or.inl rfl) (by exact (pe_lst pa_nil)))
 (pss_cons (ps_while PassesOwn.never (pt_cmpR op_gt (pv 0) pe_int (nomark _))
 (pss_cons (ps_set (i := 3) sc__portions.nd rfl (Or.inl rfl) (by exact (pe_callB (call_min2 rfl) rfl T.b_min (by decide +kernel) (pa_cons (pv 0) (pa_cons (pv 1) pa_nil)))))
 (pss_cons (ps_if (pt_cmpR op_eq (pv 0) pe_int (nomark _))
 (pss_one (ps_set (i := 3) sc__portions.nd rfl (Or.inl rfl) (by exact pe_int)))
 (pss_one (ps_if (pt_cmpR op_eq (pe_op op_sub (pv 0) (pv 3)) pe_int (nomark _))
 (pss_one (ps_aug (i := 3) sc__portions.nd rfl (Or.inl rfl) (by exact pe_int) ip_sub))
 pss_nil)))
 (pss_cons (ps_expr (pe_bm PySem.F.plainAttrs_list PySem.F.slot_list_append PySem.F.type_list_append mt_append (pv 2) (pa_cons (pv 3) pa_nil)))
 (pss_one (ps_aug (i := 0) sc__portions.nd rfl (Or.inl rfl) (by exact (pv 3)) ip_sub))))))
 (pss_one (ps_ret (by exact (pv 2))))))), ?_⟩), gm, F.kp, F.bindsN (fun _ _ _ _ _ _ us hl => match us, hl with | [_, _], _ => rfl), .nil⟩
  · first | (obtain ⟨rfl, _⟩ := h; rfl) | (obtain ⟨_, rfl, _⟩ := h; rfl) | (obtain ⟨_, _, rfl, _⟩ := h; rfl) | (obtain ⟨_, _, _, rfl, _⟩ := h; rfl) | (obtain ⟨_, _, _, _, rfl, _⟩ := h; rfl) | (obtain ⟨_, _, _, _, _, rfl, _⟩ := h; rfl) | (obtain ⟨_, _, _, _, _, _, rfl, _⟩ := h; rfl) | (obtain ⟨_, _, _, _, _, _, _, rfl, _⟩ := h; rfl) | (obtain ⟨_, _, _, _, _, _, _, _, rfl, _⟩ := h; rfl) | (obtain ⟨_, _, _, _, _, _, _, _, _, rfl, _⟩ := h; rfl) | (obtain ⟨_, _, _, _, _, _, _, _, _, _, rfl, _⟩ := h; rfl) | (obtain ⟨_, _, _, _, _, _, _, _, _, _, _, rfl, _⟩ := h; rfl) | (obtain ⟨_, _, _, _, _, _, _, _, _, _, _, _, rfl, _⟩ := h; rfl) | (obtain ⟨_, _, _, _, _, _, _, _, _, _, _, _, _, rfl, _⟩ := h; rfl) | (obtain ⟨_, _, _, _, _, _, _, _, _, _, _, _, _, _, rfl, _⟩ := h; rfl) | (obtain ⟨_, _, _, _, _, _, _, _, _, _, _, _, _, _, _, rfl, _⟩ := h; rfl) | (obtain ⟨_, _, _, _, _, _, _, _, _, _, _, _, _, _, _, _, rfl, _⟩ := h; rfl) | (obtain ⟨_, _, _, _, _, _, _, _, _, _, _, _, _, _, _, _, _, rfl, _⟩ := h; rfl) | (obtain ⟨_, _, _, _, _, _, _, _, _, _, _, _, _, _, _, _, _, _, rfl, _⟩ := h; rfl) | (obtain ⟨_, _, _, _, _, _, _, _, _, _, _, _, _, _, _, _, _, _, _, rfl, _⟩ := h; rfl) | (obtain ⟨_, _, _, _, _, _, _, _, _, _, _, _, _, _, _, _, _, _, _, _, rfl, _⟩ := h; rfl) | (obtain ⟨_, _, _, _, _, _, _, _, _, _, _, _, _, _, _, _, _, _, _, _, _, rfl, _⟩ := h; rfl)
  · obtain ⟨r, M, rfl, hM, hr, q⟩ := h
    k_call_by "xo" st__portions
    have L := Own.start (K := K) (H := H)
    wtm_at "oo"
    rename_i p H1 L1
    refine loop_while (fun σ H' => ∃ k out y3, σ = [some (.int ((k : Nat) : Int)), some (.int (M : Int)), some (.ref p), y3] ∧ Own K H H' [pI p out] ∧ out ++ pors M k = pors M r ∧ k ≤ r ∧ out.length ≤ r - k) (fun σ _ => match σ with
      | some (.int k) :: _ => k.toNat
      | _ => 0) ⟨r, [], none, rfl, L1, rfl, Nat.le_refl _, Nat.zero_le _⟩ ?_
    rintro σ H' ⟨k, out, y3, rfl, L, e, hk, ho⟩
    wtm_at "oo"
    refine wh_d (fun c => ?_) (fun c => ?_)
    · have g := porG_le (M := M) (r := k) hM (by omega)
      wtm_at "oo"
      have em : (if (M : Int) < (k : Int) then (M : Int) else (k : Int)) = ((min k M : Nat) : Int) := by
        split <;> omega
      rw [em]
      generalize hkk : tSeq _ _ _ = kont
      have fin : ∀ z : Int, z = ((porG M k : Nat) : Int) → kont [some (.int (k : Int)), some (.int (M : Int)), some (.ref p), some (.int z)] H' := by
        intro z ez
        subst ez
        subst hkk
        wtm_at "oo"
        rename_i H2 L2
        refine ⟨⟨k - porG M k, by have := g.2.1; omega, _, L2, ?_, by have := g.1; omega, ?_⟩, by have := g.1; omega⟩
        · rw [← e, pors_go (r := k) hM (by omega), List.append_assoc]
          rfl
        · rw [List.length_append, List.length_singleton]
          omega
      clear hkk
      refine sel_d (fun c1 => ?_) (fun c1 => ?_)
      · wtm_at "oo"
        exact fin _ (by unfold porG; rw [if_pos (by omega)]; rfl)
      · wtm_at "oo"
        refine sel_d (fun c2 => ?_) (fun c2 => ?_)
        · wtm_at "oo"
          refine fin _ ?_
          unfold porG
          rw [if_neg (by omega), if_pos (by omega)]
          omega
        · wtm_at "oo"
          refine fin _ ?_
          unfold porG
          rw [if_neg (by omega), if_neg (by omega)]
    · wtm_at "oo"
      obtain rfl : k = 0 := by omega
      rw [pors_zero, List.append_nil] at e
      rw [← e] at q
      exact q p H' L


end
end K41

namespace K41
open PySem PySem.Spec PyProof.Rows L2 Bel
local macro_rules | `(tactic| wtm_at "xs") => `(tactic| simp only [x_next, x_seq, x_brk, x_cont, x_drop, x_ret, x_retN, x_if, sel_t, sel_f, selE_t, selE_f, selT_t, selT_f, selC_t, selC_f, x_test, x_tB, x_op, x_un, x_var, x_c, x_cb, x_nil, x_cons, x_rI, x_rI0, x_rU, x_rEq, x_rNe, x_rIxL, x_rIxT, x_rSlL, x_rCat, x_rRep, x_rApp, x_bm, x_bm0, x_sl, x_nopart, x_part, x_tup, x_lst, x_call, x_callS, x_asg, x_gname, x_gtup, x_gnil, x_gcons, x_gsub, x_setL, x_aug, x_ipI, x_ipC, x_bits, x_getL, x_augS, x_and, x_or, x_not, x_k, x_andV, x_orV, x_notV, x_ife, x_chain, x_for, x_ilist, x_itup, x_ienum, x_irng1, x_irng2, x_irev, x_lc, x_yes, wipe_nil, wipe_cons, List.map_cons, List.map_nil, x_misc, x_misc2, x_rz, lookup_at, Bool.not_true, Bool.not_false, decide_true, decide_false, not_true, not_false_eq_true, and_assoc, exists_and_left, exists_eq_left', exists_eq_left, exists_eq', exists_eq_right', exists_eq_right, V.int.injEq, V.ref.injEq, V.bl.injEq, V.str.injEq, List.cons.injEq, and_true, true_and, and_self, Option.some.injEq, List.cons_append, List.nil_append, List.append_nil, List.getElem?_cons_zero, List.getElem?_cons_succ, List.set_cons_zero, List.set_cons_succ, reduceCtorEq, false_and, and_false, exists_false, exists_const, or_false, false_or, scal_ii, scal_bb, scal_ss, List.length_cons, List.length_nil, Int.reduceToNat, Int.reducePow])
local macro_rules | `(tactic| k_call_by "xs" $h:term) => `(tactic| simp only [$h:term, x_next, x_seq, x_brk, x_cont, x_drop, x_ret, x_retN, x_if, sel_t, sel_f, selE_t, selE_f, selT_t, selT_f, selC_t, selC_f, x_test, x_tB, x_op, x_un, x_var, x_c, x_cb, x_nil, x_cons, x_rI, x_rI0, x_rU, x_rEq, x_rNe, x_rIxL, x_rIxT, x_rSlL, x_rCat, x_rRep, x_rApp, x_bm, x_bm0, x_sl, x_nopart, x_part, x_tup, x_lst, x_call, x_callS, x_asg, x_gname, x_gtup, x_gnil, x_gcons, x_gsub, x_setL, x_aug, x_ipI, x_ipC, x_bits, x_getL, x_augS, x_and, x_or, x_not, x_k, x_andV, x_orV, x_notV, x_ife, x_chain, x_for, x_ilist, x_itup, x_ienum, x_irng1, x_irng2, x_irev, x_lc, x_yes, wipe_nil, wipe_cons, List.map_cons, List.map_nil, x_misc, x_misc2, x_rz, lookup_at, Bool.not_true, Bool.not_false, decide_true, decide_false, not_true, not_false_eq_true, and_assoc, exists_and_left, exists_eq_left', exists_eq_left, exists_eq', exists_eq_right', exists_eq_right, V.int.injEq, V.ref.injEq, V.bl.injEq, V.str.injEq, List.cons.injEq, and_true, true_and, and_self, Option.some.injEq, List.cons_append, List.nil_append, List.append_nil, List.getElem?_cons_zero, List.getElem?_cons_succ, List.set_cons_zero, List.set_cons_succ, reduceCtorEq, false_and, and_false, exists_false, exists_const, or_false, false_or, scal_ii, scal_bb, scal_ss, List.length_cons, List.length_nil, Int.reduceToNat, Int.reducePow])
local macro_rules | `(tactic| wtm_at "hp") => `(tactic| first | (with_reducible assumption) | exact upd_same | (refine upd_keep (by with_reducible assumption) ?_; wtm_at "hp") | (refine Same.get (by with_reducible assumption) ?_; wtm_at "hp") | (refine upd_other (by first | (with_reducible assumption) | exact Ne.symm (by with_reducible assumption)) ?_; wtm_at "hp"))
local macro_rules | `(tactic| wtm_at "sq") => `(tactic| first | (with_reducible assumption) | exact SqL.of (by wtm_at "hp") | exact SqT.of (by wtm_at "hp") | (refine Same.seq (same_upd (by with_reducible assumption)) ?_; wtm_at "sq") | (refine Same.seq (by with_reducible assumption) ?_; wtm_at "sq") | (refine Same.seqT (same_upd (by with_reducible assumption)) ?_; wtm_at "sq") | (refine Same.seqT (by with_reducible assumption) ?_; wtm_at "sq"))
local macro_rules | `(tactic| wtm_at "cl") => `(tactic| first | (with_reducible assumption) | omega | (exact cmul_r (by omega) (by omega)) | (exact cmul_l (by omega) (by omega)) | (exact cdiv_ok (by omega) (by omega)) | (exact cpow_ok (by decide)) | (exact ⟨by omega, by omega, by omega⟩) | decide | (exact ⟨by omega, by omega⟩) | (simp only [List.length_append, List.length_map, List.length_set, List.length_cons, List.length_nil, rngL_len, sizeLine_eq]; omega) | wtm_at "hp" | wtm_at "sq")
local macro_rules | `(tactic| wtm_at "pf") => `(tactic| first | (with_reducible assumption) | omega | (simp only [List.length_append, List.length_map, List.length_set, List.length_cons, List.length_nil, rngL_len]; omega) | (with_reducible rfl) | (with_reducible trivial) | (with_reducible decide))
local macro_rules | `(tactic| wtm_at "st") => `(tactic| first | ((with_reducible refine g_at ?_); refine at_call (by wtm_at "sq") (by omega) (by omega) (fun _ _ => ?_)) | ((with_reducible refine g_int ?_); refine int_call ?_) | ((with_reducible refine g_isi ?_); first | (with_reducible refine isi_ii ?_) | (with_reducible refine isi_ib ?_) | (refine isi_int rfl ?_) | (refine isi_lst rfl (by wtm_at "hp") ?_) | (refine isi_tup rfl (by wtm_at "hp") ?_)) | ((with_reducible refine g_ned ?_); refine ned_f (dq_lst (by wtm_at "sq")) (dq_lst (by wtm_at "sq")) ?_) | ((with_reducible refine g_eqd ?_); refine eqd_t (dq_lst (by wtm_at "sq")) (dq_lst (by wtm_at "sq")) ?_) | ((with_reducible refine g_tyv ?_); refine and_tyv (by wtm_at "sq") ?_) | ((with_reducible refine g_asq ?_); refine and_sq (by wtm_at "sq") ?_) | ((with_reducible refine g_lst ?_); refine ex_lst (by wtm_at "hp") ?_) | ((with_reducible refine g_or ?_); first | (refine ex_or (by wtm_at "sq") ?_) | (refine ex_ort (by wtm_at "sq") ?_)) | ((with_reducible refine g_sq ?_); refine ex_sq (by wtm_at "sq") ?_) | ((with_reducible refine g_sqt ?_); refine ex_sqt (by wtm_at "sq") ?_) | ((with_reducible refine gd_sel ?_); first | (refine sel_p (by wtm_at "pf") ?_) | (refine sel_n (by wtm_at "pf") ?_)) | ((with_reducible refine gn_sel ?_); first | (refine selN_p (by wtm_at "pf") ?_) | (refine selN_n (by wtm_at "pf") ?_)) | ((with_reducible refine gd_selT ?_); first | (refine selT_p (by wtm_at "pf") ?_) | (refine selT_n (by wtm_at "pf") ?_)) | ((with_reducible refine gn_selT ?_); first | (refine selTN_p (by wtm_at "pf") ?_) | (refine selTN_n (by wtm_at "pf") ?_)) | ((with_reducible refine gd_selE ?_); first | (refine selE_p (by wtm_at "pf") ?_) | (refine selE_n (by wtm_at "pf") ?_)) | ((with_reducible refine gn_selE ?_); first | (refine selEN_p (by wtm_at "pf") ?_) | (refine selEN_n (by wtm_at "pf") ?_)) | ((with_reducible refine g_xf ?_); refine xf_at rfl (by wtm_at "hp") ?_) | ((with_reducible refine g_atI ?_); refine ex_at (by first | exact rfl | exact atI_int (by omega) (by wtm_at "pf") | exact atI_end (by wtm_at "pf")) ?_) | ((with_reducible refine g_and ?_); refine And.intro (by wtm_at "cl") ?_) | ((with_reducible refine g_new ?_); intro _ _))
local macro_rules | `(tactic| wtm_at "go") => `(tactic| repeat (first | wtm_at "xs" | wtm_at "st"))
local macro_rules | `(tactic| wtm_at "xo") => `(tactic| simp only [x_next, x_seq, x_brk, x_cont, x_drop, x_ret, x_retN, x_if, sel_t, sel_f, selE_t, selE_f, selT_t, selT_f, selC_t, selC_f, x_test, x_tB, x_op, x_un, x_var, x_c, x_cb, x_nil, x_cons, x_rI, x_rI0, x_rU, x_rEq, x_rNe, x_rIxL, x_rIxT, n_rSlL, n_rCat, n_rRep, n_rApp, x_bm, x_bm0, x_sl, x_nopart, x_part, n_tup, n_lst, x_call, x_callS, x_asg, x_gname, x_gtup, x_gnil, x_gcons, x_gsub, n_setL, x_aug, x_ipI, x_ipC, x_bits, x_getL, x_augS, x_and, x_or, x_not, x_k, x_andV, x_orV, x_notV, x_ife, x_chain, x_for, x_ilist, x_itup, x_ienum, x_irng1, x_irng2, x_irev, x_lc, x_yes, wipe_nil, wipe_cons, List.map_cons, List.map_nil, x_misc, x_misc2, x_rz, lookup_at, Bool.not_true, Bool.not_false, decide_true, decide_false, not_true, not_false_eq_true, and_assoc, exists_and_left, exists_eq_left', exists_eq_left, exists_eq', exists_eq_right', exists_eq_right, V.int.injEq, V.ref.injEq, V.bl.injEq, V.str.injEq, List.cons.injEq, and_true, true_and, and_self, Option.some.injEq, List.cons_append, List.nil_append, List.append_nil, List.getElem?_cons_zero, List.getElem?_cons_succ, List.set_cons_zero, List.set_cons_succ, reduceCtorEq, false_and, and_false, exists_false, exists_const, or_false, false_or, scal_ii, scal_bb, scal_ss, List.length_cons, List.length_nil, Int.reduceToNat, Int.reducePow, n_fld, n_sfld, n_aug, n_meth, n_mw, n_make, n_kw, n_rLs, n_dcp, n_gget, n_rLtT, n_ext, n_revL, n_rTp, t_im, ints_rev, t_s1, t_i1, t_i2, t_i3, t_i4, t_i5, x_chain3, x_irng3, x_irevR, x_rg1, x_rg2, ints_cat, ints_app1, ints_len, ints_take, ints_drop, rep_one])
local macro_rules | `(tactic| k_call_by "xo" $h:term) => `(tactic| simp only [$h:term, x_next, x_seq, x_brk, x_cont, x_drop, x_ret, x_retN, x_if, sel_t, sel_f, selE_t, selE_f, selT_t, selT_f, selC_t, selC_f, x_test, x_tB, x_op, x_un, x_var, x_c, x_cb, x_nil, x_cons, x_rI, x_rI0, x_rU, x_rEq, x_rNe, x_rIxL, x_rIxT, n_rSlL, n_rCat, n_rRep, n_rApp, x_bm, x_bm0, x_sl, x_nopart, x_part, n_tup, n_lst, x_call, x_callS, x_asg, x_gname, x_gtup, x_gnil, x_gcons, x_gsub, n_setL, x_aug, x_ipI, x_ipC, x_bits, x_getL, x_augS, x_and, x_or, x_not, x_k, x_andV, x_orV, x_notV, x_ife, x_chain, x_for, x_ilist, x_itup, x_ienum, x_irng1, x_irng2, x_irev, x_lc, x_yes, wipe_nil, wipe_cons, List.map_cons, List.map_nil, x_misc, x_misc2, x_rz, lookup_at, Bool.not_true, Bool.not_false, decide_true, decide_false, not_true, not_false_eq_true, and_assoc, exists_and_left, exists_eq_left', exists_eq_left, exists_eq', exists_eq_right', exists_eq_right, V.int.injEq, V.ref.injEq, V.bl.injEq, V.str.injEq, List.cons.injEq, and_true, true_and, and_self, Option.some.injEq, List.cons_append, List.nil_append, List.append_nil, List.getElem?_cons_zero, List.getElem?_cons_succ, List.set_cons_zero, List.set_cons_succ, reduceCtorEq, false_and, and_false, exists_false, exists_const, or_false, false_or, scal_ii, scal_bb, scal_ss, List.length_cons, List.length_nil, Int.reduceToNat, Int.reducePow, n_fld, n_sfld, n_aug, n_meth, n_mw, n_make, n_kw, n_rLs, n_dcp, n_gget, n_rLtT, n_ext, n_revL, n_rTp, t_im, ints_rev, t_s1, t_i1, t_i2, t_i3, t_i4, t_i5, x_chain3, x_irng3, x_irevR, x_rg1, x_rg2, ints_cat, ints_app1, ints_len, ints_take, ints_drop, rep_one])
local macro_rules | `(tactic| wtm_at "mem") => `(tactic| first | (with_reducible exact mem_here) | (with_reducible refine mem_there ?_; wtm_at "mem"))
local macro_rules | `(tactic| wtm_at "pp") => `(tactic| first | (with_reducible exact Put.here) | (with_reducible apply Put.there; wtm_at "pp"))
local macro_rules | `(tactic| wtm_at "ho") => `(tactic| first | (with_reducible assumption) | exact Own.get (by with_reducible assumption) (by wtm_at "mem") | exact Own.base (by with_reducible assumption) (by with_reducible assumption))
local macro_rules | `(tactic| wtm_at "qo") => `(tactic| first | (with_reducible assumption) | exact SqL.of (by wtm_at "ho") | exact sqT_tupI (by wtm_at "ho") | exact sqT_tupS (by wtm_at "ho") | exact SqT.of (by wtm_at "ho") | exact Own.imT (by with_reducible assumption) (by wtm_at "mem") | exact Own.sq (by with_reducible assumption) (by with_reducible assumption) | exact Own.sqT (by with_reducible assumption) (by with_reducible assumption))
local macro_rules | `(tactic| wtm_at "sub") => `(tactic| first | exact List.nil_sublist _ | (with_reducible refine List.Sublist.cons_cons _ ?_; wtm_at "sub") | (refine List.Sublist.cons _ ?_; wtm_at "sub"))
local macro_rules | `(tactic| wtm_at "co") => `(tactic| first | (with_reducible assumption) | omega | (exact cmul_r (by omega) (by omega)) | (exact cmul_l (by omega) (by omega)) | (exact cdiv_ok (by omega) (by omega)) | (exact cpow_ok (by decide)) | (exact ⟨by omega, by omega, by omega⟩) | decide | (exact ⟨by omega, by omega⟩) | (simp only [List.length_append, List.length_map, List.length_set, List.length_cons, List.length_nil, rngL_len, sizeLine_eq]; omega) | wtm_at "ho" | wtm_at "qo")
local macro_rules | `(tactic| wtm_at "so") => `(tactic| first | ((with_reducible refine g_dcp ?_); refine dcpI (by wtm_at "ho") ?_) | ((with_reducible refine g_asl ?_); refine And.intro (by rfl) ?_) | ((with_reducible refine g_asqT ?_); refine and_sqT (by wtm_at "qo") ?_) | ((with_reducible refine g_extO ?_); first | (refine extI (by with_reducible assumption) (by wtm_at "pp") (by wtm_at "co") (fun _ _ => ?_)) | (refine extO (by with_reducible assumption) (by wtm_at "pp") (by wtm_at "co") (fun _ _ => ?_))) | ((with_reducible refine g_tp ?_); first | (refine tp_l (by wtm_at "qo") ?_) | (refine tp_t (by wtm_at "qo") ?_)) | ((with_reducible refine g_fldO ?_); refine fldO (by wtm_at "ho") (by with_reducible assumption) (by wtm_at "mem") (by wtm_at "lk") ?_) | ((with_reducible refine g_fldC ?_); refine fldC (by wtm_at "ho") (by with_reducible assumption) (by wtm_at "mem") (by wtm_at "lk") ?_) | ((with_reducible refine g_putC ?_); refine putC (by with_reducible assumption) (by wtm_at "pp") (by wtm_at "pu") (by wtm_at "co") (fun _ _ => ?_)) | ((with_reducible refine g_stoO ?_); refine stoO (by with_reducible assumption) (by wtm_at "pp") (by wtm_at "pu") (by with_reducible assumption) (by wtm_at "mem") (by wtm_at "co") (fun _ _ => ?_)) | ((with_reducible refine g_metO ?_); refine metO (by wtm_at "ho") (by wtm_at "ln") ?_) | ((with_reducible refine g_makO ?_); refine makO (by with_reducible assumption) (fun _ _ _ _ => ?_)) | ((with_reducible refine g_sum ?_); refine sum_call (by wtm_at "qo") ?_) | ((with_reducible refine g_cq ?_); exact cq (by with_reducible assumption) (by simp only [rngL_len, List.length_map, List.length_take]; omega)) | ((with_reducible refine g_newO ?_); refine newO (by with_reducible assumption) (fun _ _ _ => ?_)) | ((with_reducible refine g_appO ?_); refine appI (by with_reducible assumption) (by wtm_at "pp") (by wtm_at "co") (fun _ _ => ?_)) | ((with_reducible refine g_setO ?_); refine setI (by with_reducible assumption) (by wtm_at "pp") (by omega) (by wtm_at "co") (fun _ _ => ?_)) | ((with_reducible refine g_appO ?_); refine appO (by with_reducible assumption) (by wtm_at "pp") (by wtm_at "co") (fun _ _ => ?_)) | ((with_reducible refine g_setO ?_); refine setO (by with_reducible assumption) (by wtm_at "pp") (by omega) (by wtm_at "co") (fun _ _ => ?_)) | ((with_reducible refine g_at ?_); refine at_call (by wtm_at "qo") (by omega) (by omega) (fun _ _ => ?_)) | ((with_reducible refine g_int ?_); refine int_call ?_) | ((with_reducible refine g_isi ?_); first | (with_reducible refine isi_ii ?_) | (with_reducible refine isi_ib ?_) | (refine isi_int rfl ?_) | (refine isi_sqL rfl (by wtm_at "qo") ?_) | (refine isi_sqT rfl (by wtm_at "qo") ?_) | (refine isi_bl rfl ?_) | (refine isi_non rfl ?_) | (refine isi_str rfl ?_)) | ((with_reducible refine g_ned ?_); first | (refine ned_f (dq_lst (by wtm_at "qo")) (dq_lst (by wtm_at "qo")) ?_) | (refine ned_ints (by wtm_at "qo") (by wtm_at "qo") ?_) | (refine nedT_ints (by wtm_at "qo") (by wtm_at "qo") ?_)) | ((with_reducible refine g_eqd ?_); first | (refine eqd_t (dq_lst (by wtm_at "qo")) (dq_lst (by wtm_at "qo")) ?_) | (refine eqd_ints (by wtm_at "qo") (by wtm_at "qo") ?_) | (refine eqdT_ints (by wtm_at "qo") (by wtm_at "qo") ?_)) | ((with_reducible refine g_tyv ?_); refine and_tyv (by wtm_at "qo") ?_) | ((with_reducible refine g_asq ?_); refine and_sq (by wtm_at "qo") ?_) | ((with_reducible refine g_lst ?_); refine ex_lst (by wtm_at "ho") ?_) | ((with_reducible refine g_or ?_); first | (refine ex_or (by wtm_at "qo") ?_) | (refine ex_ort (by wtm_at "qo") ?_)) | ((with_reducible refine g_sq ?_); refine ex_sq (by wtm_at "qo") ?_) | ((with_reducible refine g_sqt ?_); refine ex_sqt (by wtm_at "qo") ?_) | ((with_reducible refine gd_sel ?_); first | (refine sel_p (by wtm_at "pf") ?_) | (refine sel_n (by wtm_at "pf") ?_)) | ((with_reducible refine gn_sel ?_); first | (refine selN_p (by wtm_at "pf") ?_) | (refine selN_n (by wtm_at "pf") ?_)) | ((with_reducible refine gd_selT ?_); first | (refine selT_p (by wtm_at "pf") ?_) | (refine selT_n (by wtm_at "pf") ?_)) | ((with_reducible refine gn_selT ?_); first | (refine selTN_p (by wtm_at "pf") ?_) | (refine selTN_n (by wtm_at "pf") ?_)) | ((with_reducible refine gd_selE ?_); first | (refine selE_p (by wtm_at "pf") ?_) | (refine selE_n (by wtm_at "pf") ?_)) | ((with_reducible refine gn_selE ?_); first | (refine selEN_p (by wtm_at "pf") ?_) | (refine selEN_n (by wtm_at "pf") ?_)) | ((with_reducible refine g_xf ?_); refine xf_at rfl (by wtm_at "ho") ?_) | ((with_reducible refine g_atI ?_); refine ex_at (by first | exact rfl | exact atI_int (by omega) (by wtm_at "pf") | exact atI_end (by wtm_at "pf")) ?_) | ((with_reducible refine g_and ?_); refine And.intro (by wtm_at "co") ?_))
local macro_rules | `(tactic| wtm_at "oo") => `(tactic| repeat (first | wtm_at "xo" | wtm_at "so"))
local macro_rules | `(tactic| wtm_at "cR") => `(tactic| (refine' compRi _ (by with_reducible assumption) (by omega) (fun _ _ _ _ _ => ?_) (fun _ _ _ => ?_); rotate_left; focus (wtm_at "oo")))

local macro_rules | `(tactic| wtm_at "lk") => `(tactic| first | (with_reducible exact lk_here) | (simp only [lk_here, lk_skip, lk_nil]; first | done | exact rfl))
local macro_rules | `(tactic| wtm_at "ln") => `(tactic| first | (with_reducible exact lk_nil) | (simp only [lk_skip, lk_nil]; done))
local macro_rules | `(tactic| wtm_at "pu") => `(tactic| first | (with_reducible exact pf_nil) | (simp only [pf_nil, pf_here, pf_skip]; first | done | exact rfl))
local macro_rules | `(tactic| wtm_at "tk") => `(tactic| first | (with_reducible exact Take.here) | (exact Take.here) | ((with_reducible apply Take.there); wtm_at "tk"))
local macro_rules | `(tactic| wtm_at "pk") => `(tactic| first | exact Pick.nil | ((with_reducible refine' Pick.cons ?tk1 ?pk1); (case tk1 => wtm_at "tk"); (case pk1 => wtm_at "pk")) | ((with_reducible refine Pick.im (by wtm_at "mem") ?_); wtm_at "pk") | ((with_reducible refine Pick.ims (by wtm_at "mem") ?_); wtm_at "pk"))
section
variable {P : Program} {w : World} {K : PySem.W.Frag} {mg : Str → Option Value} {base : Heap}
/-- the rows of a run of zeros -/
def zrows : List Int → List (List Int)
  | [] => []
  | p :: r => rowR 0 p false :: r.map fun q => rowR 0 q true
theorem zrows_snoc {ps : List Int} {p : Int} : zrows (ps ++ [p]) = zrows ps ++ [rowR 0 p (decide (0 < ps.length))] := by
  cases ps with
  | nil => rfl
  | cons q r =>
    show rowR 0 q false :: (r ++ [p]).map (fun q => rowR 0 q true) = (rowR 0 q false :: r.map fun q => rowR 0 q true) ++ [_]
    rw [List.map_append, List.length_cons, decide_eq_true (by omega)]
    rfl
theorem zrows_len {ps : List Int} : (zrows ps).length = ps.length := by
  cases ps with
  | nil => rfl
  | cons q r =>
    show (r.map _).length + 1 = r.length + 1
    rw [List.length_map]
/-- the rows of a run -/
def rowsRun (v : Int) (n : Nat) : List (List Int) := if 0 < v then [v, 0] :: (pors 6 (n - 1)).map (fun p => rowR v p true) else zrows (pors 138 n)
theorem pors_len2 {M r : Nat} : (pors M r).length ≤ r := pors_len r r
def sp__rows_of_run (K : PySem.W.Frag) : Sp := fun vs H Q _ => ∃ (v : Int) (n : Nat), vs = [.int v, .int (n : Int)] ∧ 0 ≤ v ∧ 1 ≤ n ∧ n ≤ 5000 ∧ ∀ p us H', Own K H H' [.pt p (.lst us), .ims us ((rowsRun v n).map tI)] → Q (.ref p) H'
theorem ok__rows_of_run (T : Tx K mg) : Cl P w K mg base 3 "_rows_of_run" ["length", "size"] (sp__rows_of_run K) [] := by
  obtain ⟨gm, fd, F⟩ := T.d__rows_of_run
  refine ⟨_, fd, [], F.ok sc__rows_of_run (fun vs H Q E h => ?_) (fun cdv A outer s H vs Q E hr h => ⟨_, (PSs.nox (pss_cons (ps_if (pt_cmpR op_gt (pv 0) pe_int (nomark _))
 (pss_cons (ps_set (i := 2) sc__rows_of_run.nd rfl (Or.inl rfl) (by exact (pe_cl (ok__portions T) (hr.mono (by decide)) rfl (pa_cons (pe_op op_sub (pv 1) pe_int) (pa_cons (pe_gc rfl T.c__MOST_REPEATED) pa_nil)))))
 (pss_one (ps_ret (by exact (pe_op op_cat (pe_lst (pa_cons (pe_tup (pa_cons (pv 0) (pa_cons pe_int pa_nil))) pa_nil)) (pe_lc (own := [("portion", 3)]) (g := (gName 3)) (tt := tYes) rfl sc__rows_of_run.nd (pi_list (pv 2)) (blkOk_by (own := [("portion", 3)]) (N := N__rows_of_run) (sc := defScope s__rows_of_run) (by decide +kernel)) (fun _ _ _ _ _ => pg_name (i := 3) sc__rows_of_run.nd rfl (Or.inl rfl)) (fun _ _ _ _ _ => pts_nil) (fun _ _ _ _ _ => (pe_cl (ok__row T) (hr.mono (by decide)) rfl (pa_cons (pv 0) (pa_cons (pv 3) (pa_cons pe_bl pa_nil)))))))))))
 pss_nil)
 (pss_cons (ps_set (i := 2) sc__rows_of_run.nd rfl (Or.inl rfl) (by exact (pe_cl (ok__portions T) (hr.mono (by decide)) rfl (pa_cons (pv 1) (pa_cons (pe_gc rfl T.c__MOST_MANY_ZEROS) pa_nil)))))
 (pss_one (ps_ret (by exact (pe_lc (own := [("index", 4), ("portion", 3)]) (g := (gTup K 2 (gCons (gName 4) (gCons (gName 3) gNil)))) (tt := tYes) rfl sc__rows_of_run.nd (pi_enum (by rfl) T.b_enumerate (pa_cons (pv 2) pa_nil)) (blkOk_by (own := [("index", 4), ("portion", 3)]) (N := N__rows_of_run) (sc := defScope s__rows_of_run) (by decide +kernel)) (fun _ _ _ _ _ => (pg_tupK K 2 rfl (pgs_cons (pg_name (i := 4) sc__rows_of_run.nd rfl (Or.inl rfl)) (pgs_cons (pg_name (i := 3) sc__rows_of_run.nd rfl (Or.inl rfl)) pgs_nil)))) (fun _ _ _ _ _ => pts_nil) (fun _ _ _ _ _ => (pe_cl (ok__row T) (hr.mono (by decide)) rfl (pa_cons pe_int (pa_cons (pv 3) (pa_cons (pe_cmpR op_gt (pv 4) pe_int (nomark _)) pa_nil)))))))))))), ?_⟩), gm, F.kp, F.bindsN (fun _ _ _ _ _ _ us hl => match us, hl with | [_, _], _ => rfl), .nil⟩
  · first | (obtain ⟨rfl, _⟩ := h; rfl) | (obtain ⟨_, rfl, _⟩ := h; rfl) | (obtain ⟨_, _, rfl, _⟩ := h; rfl) | (obtain ⟨_, _, _, rfl, _⟩ := h; rfl) | (obtain ⟨_, _, _, _, rfl, _⟩ := h; rfl) | (obtain ⟨_, _, _, _, _, rfl, _⟩ := h; rfl) | (obtain ⟨_, _, _, _, _, _, rfl, _⟩ := h; rfl) | (obtain ⟨_, _, _, _, _, _, _, rfl, _⟩ := h; rfl) | (obtain ⟨_, _, _, _, _, _, _, _, rfl, _⟩ := h; rfl) | (obtain ⟨_, _, _, _, _, _, _, _, _, rfl, _⟩ := h; rfl) | (obtain ⟨_, _, _, _, _, _, _, _, _, _, rfl, _⟩ := h; rfl) | (obtain ⟨_, _, _, _, _, _, _, _, _, _, _, rfl, _⟩ := h; rfl) | (obtain ⟨_, _, _, _, _, _, _, _, _, _, _, _, rfl, _⟩ := h; rfl) | (obtain ⟨_, _, _, _, _, _, _, _, _, _, _, _, _, rfl, _⟩ := h; rfl) | (obtain ⟨_, _, _, _, _, _, _, _, _, _, _, _, _, _, rfl, _⟩ := h; rfl) | (obtain ⟨_, _, _, _, _, _, _, _, _, _, _, _, _, _, _, rfl, _⟩ := h; rfl) | (obtain ⟨_, _, _, _, _, _, _, _, _, _, _, _, _, _, _, _, rfl, _⟩ := h; rfl) | (obtain ⟨_, _, _, _, _, _, _, _, _, _, _, _, _, _, _, _, _, rfl, _⟩ := h; rfl) | (obtain ⟨_, _, _, _, _, _, _, _, _, _, _, _, _, _, _, _, _, _, rfl, _⟩ := h; rfl) | (obtain ⟨_, _, _, _, _, _, _, _, _, _, _, _, _, _, _, _, _, _, _, rfl, _⟩ := h; rfl) | (obtain ⟨_, _, _, _, _, _, _, _, _, _, _, _, _, _, _, _, _, _, _, _, rfl, _⟩ := h; rfl) | (obtain ⟨_, _, _, _, _, _, _, _, _, _, _, _, _, _, _, _, _, _, _, _, _, rfl, _⟩ := h; rfl)
  · obtain ⟨v, n, rfl, v0, n1, n2, q⟩ := h
    k_call_by "xo" st__rows_of_run
    have L := Own.start (K := K) (H := H)
    unfold rowsRun at q
    wtm_at "oo"
    refine sel_d (fun c => ?_) (fun c => ?_)
    · rw [if_pos c] at q
      wtm_at "oo"
      refine ⟨n - 1, 6, by rw [show ((n : Int) - 1) = ((n - 1 : Nat) : Int) by omega]; rfl, by decide, by omega, fun pp H1 M => ?_⟩
      have L1 := L.c1 M
      have pl := pors_len2 (M := 6) (r := n - 1)
      generalize pors 6 (n - 1) = ps at *
      wtm_at "oo"
      rename_i t0 G1 N1 o1 G2 N2
      refine compLT (xs := ps.map V.int) (fun i ts => ts = (ps.take i).map (fun p => rowR v p true)) N2 rfl (fun H' L => by wtm_at "qo") (fun i x D us ts H3 hx r L3 => ?_) (fun D us ts H3 r L3 => ?_)
      · obtain ⟨x, hz, rfl⟩ := int_at hx
        subst r
        wtm_at "oo"
        refine ⟨v, x, true, rfl, fun t H4 M => ?_⟩
        refine cte (L3.c1 M) (by rw [List.length_map, List.length_take]; omega) ?_
        rw [List.take_add_one, hz, List.map_append]
        rfl
      · rw [List.length_map, List.take_length] at r
        subst r
        have lu := lenT L3 (vs := us) (ts := ps.map (fun p => rowR v p true)) (by wtm_at "mem")
        rw [List.length_map] at lu
        wtm_at "oo"
        rename_i p2 H4 L4
        have L5 := newT L4 (p := t0) (ns := [v, 0]) (by wtm_at "mem")
        have L6 := oneT L5 (v := .ref t0) (t := [v, 0]) (by wtm_at "mem")
        have L7 : Own K H H4 (.ims (.ref t0 :: us) (([v, 0] :: ps.map (fun p => rowR v p true)).map tI) :: _) := catT L6 (vs := [.ref t0]) (ts := [[v, 0]]) (us := us) (rs := ps.map (fun p => rowR v p true)) (by wtm_at "mem") (by wtm_at "mem")
        exact q p2 _ H4 (L7.pick (by wtm_at "pk"))
    · rw [if_neg c] at q
      wtm_at "oo"
      obtain rfl : v = 0 := by omega
      refine ⟨n, 138, rfl, by decide, by omega, fun pp H1 M => ?_⟩
      have L1 := L.c1 M
      have pl := pors_len2 (M := 138) (r := n)
      generalize pors 138 n = ps at *
      wtm_at "oo"
      refine compET (xs := ps.map V.int) (fun i ts => ts = zrows (ps.take i)) L1 rfl (fun H' L => by wtm_at "qo") (fun i x D us ts T0 H3 hx r L3 => ?_) (fun D us ts H3 r L3 => ?_)
      · obtain ⟨x, hz, rfl⟩ := int_at hx
        subst r
        have hi := (List.getElem?_eq_some_iff.mp hz).1
        wtm_at "oo"
        refine ⟨0, x, _, rfl, fun t H4 M => ?_⟩
        have L4 := (L3.c1 M).sub (List.Sublist.cons_cons _ (List.Sublist.cons _ (List.Sublist.refl _)))
        have lu := lenT L4 (vs := us) (ts := zrows (ps.take i)) (mem_there (mem_there mem_here))
        refine cte L4 ?_ ?_
        · rw [zrows_len, List.length_take]
          omega
        · rw [List.take_add_one, hz]
          show _ = zrows (ps.take i ++ [x])
          rw [zrows_snoc, List.length_take, Nat.min_eq_left (by omega)]
          congr 3
          exact decide_eq_decide.mpr (by omega)
      · rw [List.length_map, List.take_length] at r
        subst r
        exact q D us H3 (L3.pick (by wtm_at "pk"))
/-- equal values at the front -/
def runL (v : Int) : List Int → Nat
  | [] => 0
  | x :: r => if x = v then runL v r + 1 else 0
theorem runL_le (v : Int) : ∀ xs : List Int, runL v xs ≤ xs.length
  | [] => Nat.le_refl 0
  | x :: r => by
    have := runL_le v r
    unfold runL
    rw [List.length_cons]
    split <;> omega
theorem runL_at {v : Int} {xs : List Int} {i : Nat} (h : i < xs.length) : runL v (xs.drop i) = if xs.getD i 0 = v then runL v (xs.drop (i + 1)) + 1 else 0 := by
  rw [List.drop_eq_getElem_cons h]
  have e : xs.getD i 0 = xs[i] := by
    rw [List.getD_eq_getElem?_getD, List.getElem?_eq_getElem h]
    rfl
  rw [e]
  rfl
theorem runL_out {v : Int} {xs : List Int} {i : Nat} (h : xs.length ≤ i) : runL v (xs.drop i) = 0 := by
  rw [List.drop_eq_nil_of_le h]
  rfl
def sp__run_size (K : PySem.W.Frag) : Sp := fun vs H Q _ => ∃ (a : Addr) (ls : List Int) (i : Nat), vs = [.ref a, .int (i : Int)] ∧ SqL K H a (ls.map V.int) ∧ ls.length ≤ 5000 ∧ i < ls.length ∧ Q (.int ((runL (ls.getD i 0) (ls.drop i) : Nat) : Int)) H
theorem ok__run_size (T : Tx K mg) : Cl P w K mg base 1 "_run_size" ["lengths", "start"] (sp__run_size K) [] := by
  obtain ⟨gm, fd, F⟩ := T.d__run_size
  refine ⟨_, fd, [], F.ok sc__run_size (fun vs H Q E h => ?_) (fun cdv A outer s H vs Q E hr h => ⟨_, (PSs.nox (pss_cons (ps_set (i := 2) sc__run_size.nd rfl (Or.inl rfl) (by exact (pv 1)))
 (pss_cons (ps_while PassesOwn.never (PW.pt (pw_and (pt_cmpR op_lt (pv 2) (pe_callB (lenK K) rfl T.b_len (by decide +kernel) (pa_cons (pv 0) pa_nil)) (nomark _)) (pw_and1 (pt_cmpR op_eq (pe_ix (ixl K) (pv 0) (pv 2) (fun _ _ => rfl)) (pe_ix (ixl K) (pv 0) (pv 1) (fun _ _ => rfl)) (nomark _)))))
 (pss_one (ps_aug (i := 2) sc__run_size.nd rfl (Or.inl rfl) (by exact pe_int) ip_add)))
 (pss_one (ps_ret (by exact (pe_op op_sub (pv 2) (pv 1)))))))), ?_⟩), gm, F.kp, F.bindsN (fun _ _ _ _ _ _ us hl => match us, hl with | [_, _], _ => rfl), .nil⟩
  · first | (obtain ⟨rfl, _⟩ := h; rfl) | (obtain ⟨_, rfl, _⟩ := h; rfl) | (obtain ⟨_, _, rfl, _⟩ := h; rfl) | (obtain ⟨_, _, _, rfl, _⟩ := h; rfl) | (obtain ⟨_, _, _, _, rfl, _⟩ := h; rfl) | (obtain ⟨_, _, _, _, _, rfl, _⟩ := h; rfl) | (obtain ⟨_, _, _, _, _, _, rfl, _⟩ := h; rfl) | (obtain ⟨_, _, _, _, _, _, _, rfl, _⟩ := h; rfl) | (obtain ⟨_, _, _, _, _, _, _, _, rfl, _⟩ := h; rfl) | (obtain ⟨_, _, _, _, _, _, _, _, _, rfl, _⟩ := h; rfl) | (obtain ⟨_, _, _, _, _, _, _, _, _, _, rfl, _⟩ := h; rfl) | (obtain ⟨_, _, _, _, _, _, _, _, _, _, _, rfl, _⟩ := h; rfl) | (obtain ⟨_, _, _, _, _, _, _, _, _, _, _, _, rfl, _⟩ := h; rfl) | (obtain ⟨_, _, _, _, _, _, _, _, _, _, _, _, _, rfl, _⟩ := h; rfl) | (obtain ⟨_, _, _, _, _, _, _, _, _, _, _, _, _, _, rfl, _⟩ := h; rfl) | (obtain ⟨_, _, _, _, _, _, _, _, _, _, _, _, _, _, _, rfl, _⟩ := h; rfl) | (obtain ⟨_, _, _, _, _, _, _, _, _, _, _, _, _, _, _, _, rfl, _⟩ := h; rfl) | (obtain ⟨_, _, _, _, _, _, _, _, _, _, _, _, _, _, _, _, _, rfl, _⟩ := h; rfl) | (obtain ⟨_, _, _, _, _, _, _, _, _, _, _, _, _, _, _, _, _, _, rfl, _⟩ := h; rfl) | (obtain ⟨_, _, _, _, _, _, _, _, _, _, _, _, _, _, _, _, _, _, _, rfl, _⟩ := h; rfl) | (obtain ⟨_, _, _, _, _, _, _, _, _, _, _, _, _, _, _, _, _, _, _, _, rfl, _⟩ := h; rfl) | (obtain ⟨_, _, _, _, _, _, _, _, _, _, _, _, _, _, _, _, _, _, _, _, _, rfl, _⟩ := h; rfl)
  · obtain ⟨a, ls, i, rfl, hS, hl, hi, q⟩ := h
    k_call_by "xo" st__run_size
    wtm_at "oo"
    refine loop_while (fun σ H' => ∃ j, σ = [some (.ref a), some (.int (i : Int)), some (.int ((j : Nat) : Int))] ∧ H' = H ∧ i ≤ j ∧ j ≤ ls.length ∧ runL (ls.getD i 0) (ls.drop i) = (j - i) + runL (ls.getD i 0) (ls.drop j)) (fun σ _ => match σ with
      | [_, _, some (.int k)] => ls.length - k.toNat
      | _ => 0) ⟨i, rfl, rfl, Nat.le_refl _, by omega, by omega⟩ ?_
    rintro σ H' ⟨j, rfl, rfl, hij, hj, e⟩
    wtm_at "oo"
    refine selT_d (fun c => ?_) (fun c => ?_)
    · have hr := runL_at (v := ls.getD i 0) (xs := ls) (i := j) (by omega)
      wtm_at "oo"
      refine wh_d (fun c2 => ?_) (fun c2 => ?_)
      · wtm_at "oo"
        rw [Int.toNat_natCast, Int.toNat_natCast] at c2
        rw [if_pos c2] at hr
        exact ⟨⟨j + 1, rfl, by omega, by omega, by omega⟩, by omega⟩
      · wtm_at "oo"
        rw [Int.toNat_natCast, Int.toNat_natCast] at c2
        rw [if_neg c2] at hr
        rw [e, hr] at q
        rw [show ((j : Int) - (i : Int)) = ((j - i + 0 : Nat) : Int) by omega]
        exact q
    · wtm_at "oo"
      refine wh (fun z => by cases z) (fun _ => ?_)
      wtm_at "oo"
      have hr := runL_out (v := ls.getD i 0) (xs := ls) (i := j) (by omega)
      rw [e, hr] at q
      rw [show ((j : Int) - (i : Int)) = ((j - i + 0 : Nat) : Int) by omega]
      exact q
/-- the rows of all runs -/
def rowsF : Nat → List Int → List (List Int)
  | 0, _ => []
  | n + 1, ls => match ls with
    | [] => []
    | v :: r => rowsRun v (runL v (v :: r)) ++ rowsF n ((v :: r).drop (runL v (v :: r)))
theorem rowsRun_len {v : Int} {n : Nat} (h : 1 ≤ n) : (rowsRun v n).length ≤ n := by
  unfold rowsRun
  split
  · rw [List.length_cons, List.length_map]
    have := pors_len2 (M := 6) (r := n - 1)
    omega
  · rw [zrows_len]
    exact pors_len2
theorem runL_pos {v : Int} {r : List Int} : 1 ≤ runL v (v :: r) := by
  unfold runL
  rw [if_pos rfl]
  omega
theorem rowsF_more : ∀ (n k : Nat) (ls : List Int), ls.length ≤ n → ls.length ≤ k → rowsF n ls = rowsF k ls
  | 0, k, ls, h, _ => by
    obtain rfl : ls = [] := List.eq_nil_of_length_eq_zero (by omega)
    cases k <;> rfl
  | n + 1, 0, ls, _, h => by
    obtain rfl : ls = [] := List.eq_nil_of_length_eq_zero (by omega)
    rfl
  | n + 1, k + 1, ls, h1, h2 => by
    cases ls with
    | nil => rfl
    | cons v r =>
      have := runL_pos (v := v) (r := r)
      have hl : ((v :: r).drop (runL v (v :: r))).length = (v :: r).length - runL v (v :: r) := List.length_drop
      show _ ++ rowsF n _ = _ ++ rowsF k _
      rw [rowsF_more n k _ (by omega) (by omega)]
def rowsA (ls : List Int) : List (List Int) := rowsF ls.length ls
theorem rowsA_nil : rowsA [] = [] := rfl
theorem rowsA_go {ls : List Int} {i : Nat} (h : i < ls.length) : rowsA (ls.drop i) = rowsRun (ls.getD i 0) (runL (ls.getD i 0) (ls.drop i)) ++ rowsA (ls.drop (i + runL (ls.getD i 0) (ls.drop i))) := by
  have e : ls.getD i 0 = ls[i] := by
    rw [List.getD_eq_getElem?_getD, List.getElem?_eq_getElem h]
    rfl
  have ed := List.drop_eq_getElem_cons h
  rw [← e] at ed
  rw [← List.drop_drop]
  generalize ls.drop i = d at *
  subst ed
  generalize ls.getD i 0 = v at *
  generalize ls.drop (i + 1) = r at *
  have := runL_pos (v := v) (r := r)
  have hl : ((v :: r).drop (runL v (v :: r))).length = (v :: r).length - runL v (v :: r) := List.length_drop
  show rowsRun v (runL v (v :: r)) ++ rowsF r.length _ = _
  congr 1
  exact rowsF_more _ _ _ (by rw [hl, List.length_cons]; omega) (Nat.le_refl _)
def sp_rows_of (K : PySem.W.Frag) : Sp := fun vs H Q _ => ∃ (a : Addr) (ls : List Int), vs = [.ref a] ∧ SqL K H a (ls.map V.int) ∧ ls.length ≤ 5000 ∧ (∀ x ∈ ls, 0 ≤ x) ∧ ∀ p us H', Own K H H' [.pt p (.lst us), .ims us ((rowsA ls).map tI)] → Q (.ref p) H'
theorem ok_rows_of (T : Tx K mg) : Cl P w K mg base 4 "rows_of" ["lengths"] (sp_rows_of K) [] := by
  obtain ⟨gm, fd, F⟩ := T.d_rows_of
  refine ⟨_, fd, [], F.ok sc_rows_of (fun vs H Q E h => ?_) (fun cdv A outer s H vs Q E hr h => ⟨_, (PSs.nox (pss_cons (ps_set (i := 1) sc_rows_of.nd rfl (Or.inl rfl) (by exact (pe_lst pa_nil)))
 (pss_cons (ps_set (i := 2) sc_rows_of.nd rfl (Or.inl rfl) (by exact pe_int))
 (pss_cons (ps_while PassesOwn.never (pt_cmpR op_lt (pv 2) (pe_callB (lenK K) rfl T.b_len (by decide +kernel) (pa_cons (pv 0) pa_nil)) (nomark _))
 (pss_cons (ps_set (i := 3) sc_rows_of.nd rfl (Or.inl rfl) (by exact (pe_cl (ok__run_size T) (hr.mono (by decide)) rfl (pa_cons (pv 0) (pa_cons (pv 2) pa_nil)))))
 (pss_cons (ps_aug (i := 1) sc_rows_of.nd rfl (Or.inl rfl) (by exact (pe_cl (ok__rows_of_run T) (hr.mono (by decide)) rfl (pa_cons (pe_ix (ixl K) (pv 0) (pv 2) (fun _ _ => rfl)) (pa_cons (pv 3) pa_nil)))) ip_ext)
 (pss_one (ps_aug (i := 2) sc_rows_of.nd rfl (Or.inl rfl) (by exact (pv 3)) ip_add)))))
 (pss_one (ps_ret (by exact (pv 1)))))))), ?_⟩), gm, F.kp, F.bindsN (fun _ _ _ _ _ _ us hl => match us, hl with | [_], _ => rfl), .nil⟩
  · first | (obtain ⟨rfl, _⟩ := h; rfl) | (obtain ⟨_, rfl, _⟩ := h; rfl) | (obtain ⟨_, _, rfl, _⟩ := h; rfl) | (obtain ⟨_, _, _, rfl, _⟩ := h; rfl) | (obtain ⟨_, _, _, _, rfl, _⟩ := h; rfl) | (obtain ⟨_, _, _, _, _, rfl, _⟩ := h; rfl) | (obtain ⟨_, _, _, _, _, _, rfl, _⟩ := h; rfl) | (obtain ⟨_, _, _, _, _, _, _, rfl, _⟩ := h; rfl) | (obtain ⟨_, _, _, _, _, _, _, _, rfl, _⟩ := h; rfl) | (obtain ⟨_, _, _, _, _, _, _, _, _, rfl, _⟩ := h; rfl) | (obtain ⟨_, _, _, _, _, _, _, _, _, _, rfl, _⟩ := h; rfl) | (obtain ⟨_, _, _, _, _, _, _, _, _, _, _, rfl, _⟩ := h; rfl) | (obtain ⟨_, _, _, _, _, _, _, _, _, _, _, _, rfl, _⟩ := h; rfl) | (obtain ⟨_, _, _, _, _, _, _, _, _, _, _, _, _, rfl, _⟩ := h; rfl) | (obtain ⟨_, _, _, _, _, _, _, _, _, _, _, _, _, _, rfl, _⟩ := h; rfl) | (obtain ⟨_, _, _, _, _, _, _, _, _, _, _, _, _, _, _, rfl, _⟩ := h; rfl) | (obtain ⟨_, _, _, _, _, _, _, _, _, _, _, _, _, _, _, _, rfl, _⟩ := h; rfl) | (obtain ⟨_, _, _, _, _, _, _, _, _, _, _, _, _, _, _, _, _, rfl, _⟩ := h; rfl) | (obtain ⟨_, _, _, _, _, _, _, _, _, _, _, _, _, _, _, _, _, _, rfl, _⟩ := h; rfl) | (obtain ⟨_, _, _, _, _, _, _, _, _, _, _, _, _, _, _, _, _, _, _, rfl, _⟩ := h; rfl) | (obtain ⟨_, _, _, _, _, _, _, _, _, _, _, _, _, _, _, _, _, _, _, _, rfl, _⟩ := h; rfl) | (obtain ⟨_, _, _, _, _, _, _, _, _, _, _, _, _, _, _, _, _, _, _, _, _, rfl, _⟩ := h; rfl)
  · obtain ⟨a, ls, rfl, hS, hl, hv, q⟩ := h
    k_call_by "xo" st_rows_of
    have L := Own.start (K := K) (H := H)
    wtm_at "oo"
    rename_i p H1 L1
    refine loop_while (fun σ H' => ∃ i us ts y3, σ = [some (.ref a), some (.ref p), some (.int ((i : Nat) : Int)), y3] ∧ Own K H H' [.pt p (.lst us), .ims us (ts.map tI)] ∧ i ≤ ls.length ∧ ts.length ≤ i ∧ rowsA ls = ts ++ rowsA (ls.drop i)) (fun σ _ => match σ with
      | [_, _, some (.int k), _] => ls.length - k.toNat
      | _ => 0) ⟨0, [], [], none, rfl, (nilT L1).pick (by wtm_at "pk"), Nat.zero_le _, Nat.zero_le _, rfl⟩ ?_
    rintro σ H' ⟨i, us, ts, y3, rfl, L, hi, ht, e⟩
    have lu := lenT L (vs := us) (ts := ts) (by wtm_at "mem")
    wtm_at "oo"
    refine wh_d (fun c => ?_) (fun c => ?_)
    · wtm_at "oo"
      refine ⟨a, ls, i, rfl, by wtm_at "qo", hl, by omega, ?_⟩
      have hi2 : i < ls.length := by omega
      have go := rowsA_go hi2
      have rp : 1 ≤ runL (ls.getD i 0) (ls.drop i) := by
        have := runL_at (v := ls.getD i 0) (xs := ls) (i := i) hi2
        rw [if_pos rfl] at this
        omega
      have rl := runL_le (ls.getD i 0) (ls.drop i)
      rw [List.length_drop] at rl
      have v0 : 0 ≤ ls.getD i 0 := hv _ (by
        rw [List.getD_eq_getElem?_getD, List.getElem?_eq_getElem hi2]
        exact List.getElem_mem hi2)
      generalize runL (ls.getD i 0) (ls.drop i) = rn at *
      wtm_at "oo"
      rw [Int.toNat_natCast]
      refine ⟨_, rn, rfl, v0, rp, by omega, fun p2 us2 H2 M => ?_⟩
      have L2 := L.c2 M
      have rr := rowsRun_len (v := ls.getD i 0) rp
      generalize rowsRun (ls.getD i 0) rn = rw_ at *
      have lu2 := lenT L2 (vs := us2) (ts := rw_) (by wtm_at "mem")
      wtm_at "oo"
      rename_i H3 L3
      have L4 := catT L3 (vs := us) (ts := ts) (us := us2) (rs := rw_) (by wtm_at "mem") (by wtm_at "mem")
      exact ⟨⟨i + rn, by omega, _, ts ++ rw_, L4.pick (by wtm_at "pk"), by omega, by rw [List.length_append]; omega, by rw [e, go, List.append_assoc]⟩, by omega⟩
    · wtm_at "oo"
      rw [List.drop_eq_nil_of_le (by omega), rowsA_nil, List.append_nil] at e
      rw [← e] at lu
      rw [e] at q
      exact q p us H' L


end
end K41

namespace K41
open PySem PySem.Spec PyProof.Rows L2 Bel
local macro_rules | `(tactic| wtm_at "xs") => `(tactic| simp only [x_next, x_seq, x_brk, x_cont, x_drop, x_ret, x_retN, x_if, sel_t, sel_f, selE_t, selE_f, selT_t, selT_f, selC_t, selC_f, x_test, x_tB, x_op, x_un, x_var, x_c, x_cb, x_nil, x_cons, x_rI, x_rI0, x_rU, x_rEq, x_rNe, x_rIxL, x_rIxT, x_rSlL, x_rCat, x_rRep, x_rApp, x_bm, x_bm0, x_sl, x_nopart, x_part, x_tup, x_lst, x_call, x_callS, x_asg, x_gname, x_gtup, x_gnil, x_gcons, x_gsub, x_setL, x_aug, x_ipI, x_ipC, x_bits, x_getL, x_augS, x_and, x_or, x_not, x_k, x_andV, x_orV, x_notV, x_ife, x_chain, x_for, x_ilist, x_itup, x_ienum, x_irng1, x_irng2, x_irev, x_lc, x_yes, wipe_nil, wipe_cons, List.map_cons, List.map_nil, x_misc, x_misc2, x_rz, lookup_at, Bool.not_true, Bool.not_false, decide_true, decide_false, not_true, not_false_eq_true, and_assoc, exists_and_left, exists_eq_left', exists_eq_left, exists_eq', exists_eq_right', exists_eq_right, V.int.injEq, V.ref.injEq, V.bl.injEq, V.str.injEq, List.cons.injEq, and_true, true_and, and_self, Option.some.injEq, List.cons_append, List.nil_append, List.append_nil, List.getElem?_cons_zero, List.getElem?_cons_succ, List.set_cons_zero, List.set_cons_succ, reduceCtorEq, false_and, and_false, exists_false, exists_const, or_false, false_or, scal_ii, scal_bb, scal_ss, List.length_cons, List.length_nil, Int.reduceToNat, Int.reducePow])
local macro_rules | `(tactic| k_call_by "xs" $h:term) => `(tactic| simp only [$h:term, x_next, x_seq, x_brk, x_cont, x_drop, x_ret, x_retN, x_if, sel_t, sel_f, selE_t, selE_f, selT_t, selT_f, selC_t, selC_f, x_test, x_tB, x_op, x_un, x_var, x_c, x_cb, x_nil, x_cons, x_rI, x_rI0, x_rU, x_rEq, x_rNe, x_rIxL, x_rIxT, x_rSlL, x_rCat, x_rRep, x_rApp, x_bm, x_bm0, x_sl, x_nopart, x_part, x_tup, x_lst, x_call, x_callS, x_asg, x_gname, x_gtup, x_gnil, x_gcons, x_gsub, x_setL, x_aug, x_ipI, x_ipC, x_bits, x_getL, x_augS, x_and, x_or, x_not, x_k, x_andV, x_orV, x_notV, x_ife, x_chain, x_for, x_ilist, x_itup, x_ienum, x_irng1, x_irng2, x_irev, x_lc, x_yes, wipe_nil, wipe_cons, List.map_cons, List.map_nil, x_misc, x_misc2, x_rz, lookup_at, Bool.not_true, Bool.not_false, decide_true, decide_false, not_true, not_false_eq_true, and_assoc, exists_and_left, exists_eq_left', exists_eq_left, exists_eq', exists_eq_right', exists_eq_right, V.int.injEq, V.ref.injEq, V.bl.injEq, V.str.injEq, List.cons.injEq, and_true, true_and, and_self, Option.some.injEq, List.cons_append, List.nil_append, List.append_nil, List.getElem?_cons_zero, List.getElem?_cons_succ, List.set_cons_zero, List.set_cons_succ, reduceCtorEq, false_and, and_false, exists_false, exists_const, or_false, false_or, scal_ii, scal_bb, scal_ss, List.length_cons, List.length_nil, Int.reduceToNat, Int.reducePow])
local macro_rules | `(tactic| wtm_at "hp") => `(tactic| first | (with_reducible assumption) | exact upd_same | (refine upd_keep (by with_reducible assumption) ?_; wtm_at "hp") | (refine Same.get (by with_reducible assumption) ?_; wtm_at "hp") | (refine upd_other (by first | (with_reducible assumption) | exact Ne.symm (by with_reducible assumption)) ?_; wtm_at "hp"))
local macro_rules | `(tactic| wtm_at "sq") => `(tactic| first | (with_reducible assumption) | exact SqL.of (by wtm_at "hp") | exact SqT.of (by wtm_at "hp") | (refine Same.seq (same_upd (by with_reducible assumption)) ?_; wtm_at "sq") | (refine Same.seq (by with_reducible assumption) ?_; wtm_at "sq") | (refine Same.seqT (same_upd (by with_reducible assumption)) ?_; wtm_at "sq") | (refine Same.seqT (by with_reducible assumption) ?_; wtm_at "sq"))
local macro_rules | `(tactic| wtm_at "cl") => `(tactic| first | (with_reducible assumption) | omega | (exact cmul_r (by omega) (by omega)) | (exact cmul_l (by omega) (by omega)) | (exact cdiv_ok (by omega) (by omega)) | (exact cpow_ok (by decide)) | (exact ⟨by omega, by omega, by omega⟩) | decide | (exact ⟨by omega, by omega⟩) | (simp only [List.length_append, List.length_map, List.length_set, List.length_cons, List.length_nil, rngL_len, sizeLine_eq]; omega) | wtm_at "hp" | wtm_at "sq")
local macro_rules | `(tactic| wtm_at "pf") => `(tactic| first | (with_reducible assumption) | omega | (simp only [List.length_append, List.length_map, List.length_set, List.length_cons, List.length_nil, rngL_len]; omega) | (with_reducible rfl) | (with_reducible trivial) | (with_reducible decide))
local macro_rules | `(tactic| wtm_at "st") => `(tactic| first | ((with_reducible refine g_at ?_); refine at_call (by wtm_at "sq") (by omega) (by omega) (fun _ _ => ?_)) | ((with_reducible refine g_int ?_); refine int_call ?_) | ((with_reducible refine g_isi ?_); first | (with_reducible refine isi_ii ?_) | (with_reducible refine isi_ib ?_) | (refine isi_int rfl ?_) | (refine isi_lst rfl (by wtm_at "hp") ?_) | (refine isi_tup rfl (by wtm_at "hp") ?_)) | ((with_reducible refine g_ned ?_); refine ned_f (dq_lst (by wtm_at "sq")) (dq_lst (by wtm_at "sq")) ?_) | ((with_reducible refine g_eqd ?_); refine eqd_t (dq_lst (by wtm_at "sq")) (dq_lst (by wtm_at "sq")) ?_) | ((with_reducible refine g_tyv ?_); refine and_tyv (by wtm_at "sq") ?_) | ((with_reducible refine g_asq ?_); refine and_sq (by wtm_at "sq") ?_) | ((with_reducible refine g_lst ?_); refine ex_lst (by wtm_at "hp") ?_) | ((with_reducible refine g_or ?_); first | (refine ex_or (by wtm_at "sq") ?_) | (refine ex_ort (by wtm_at "sq") ?_)) | ((with_reducible refine g_sq ?_); refine ex_sq (by wtm_at "sq") ?_) | ((with_reducible refine g_sqt ?_); refine ex_sqt (by wtm_at "sq") ?_) | ((with_reducible refine gd_sel ?_); first | (refine sel_p (by wtm_at "pf") ?_) | (refine sel_n (by wtm_at "pf") ?_)) | ((with_reducible refine gn_sel ?_); first | (refine selN_p (by wtm_at "pf") ?_) | (refine selN_n (by wtm_at "pf") ?_)) | ((with_reducible refine gd_selT ?_); first | (refine selT_p (by wtm_at "pf") ?_) | (refine selT_n (by wtm_at "pf") ?_)) | ((with_reducible refine gn_selT ?_); first | (refine selTN_p (by wtm_at "pf") ?_) | (refine selTN_n (by wtm_at "pf") ?_)) | ((with_reducible refine gd_selE ?_); first | (refine selE_p (by wtm_at "pf") ?_) | (refine selE_n (by wtm_at "pf") ?_)) | ((with_reducible refine gn_selE ?_); first | (refine selEN_p (by wtm_at "pf") ?_) | (refine selEN_n (by wtm_at "pf") ?_)) | ((with_reducible refine g_xf ?_); refine xf_at rfl (by wtm_at "hp") ?_) | ((with_reducible refine g_atI ?_); refine ex_at (by first | exact rfl | exact atI_int (by omega) (by wtm_at "pf") | exact atI_end (by wtm_at "pf")) ?_) | ((with_reducible refine g_and ?_); refine And.intro (by wtm_at "cl") ?_) | ((with_reducible refine g_new ?_); intro _ _))
local macro_rules | `(tactic| wtm_at "go") => `(tactic| repeat (first | wtm_at "xs" | wtm_at "st"))
local macro_rules | `(tactic| wtm_at "xo") => `(tactic| simp only [x_next, x_seq, x_brk, x_cont, x_drop, x_ret, x_retN, x_if, sel_t, sel_f, selE_t, selE_f, selT_t, selT_f, selC_t, selC_f, x_test, x_tB, x_op, x_un, x_var, x_c, x_cb, x_nil, x_cons, x_rI, x_rI0, x_rU, x_rEq, x_rNe, x_rIxL, x_rIxT, n_rSlL, n_rCat, n_rRep, n_rApp, x_bm, x_bm0, x_sl, x_nopart, x_part, n_tup, n_lst, x_call, x_callS, x_asg, x_gname, x_gtup, x_gnil, x_gcons, x_gsub, n_setL, x_aug, x_ipI, x_ipC, x_bits, x_getL, x_augS, x_and, x_or, x_not, x_k, x_andV, x_orV, x_notV, x_ife, x_chain, x_for, x_ilist, x_itup, x_ienum, x_irng1, x_irng2, x_irev, x_lc, x_yes, wipe_nil, wipe_cons, List.map_cons, List.map_nil, x_misc, x_misc2, x_rz, lookup_at, Bool.not_true, Bool.not_false, decide_true, decide_false, not_true, not_false_eq_true, and_assoc, exists_and_left, exists_eq_left', exists_eq_left, exists_eq', exists_eq_right', exists_eq_right, V.int.injEq, V.ref.injEq, V.bl.injEq, V.str.injEq, List.cons.injEq, and_true, true_and, and_self, Option.some.injEq, List.cons_append, List.nil_append, List.append_nil, List.getElem?_cons_zero, List.getElem?_cons_succ, List.set_cons_zero, List.set_cons_succ, reduceCtorEq, false_and, and_false, exists_false, exists_const, or_false, false_or, scal_ii, scal_bb, scal_ss, List.length_cons, List.length_nil, Int.reduceToNat, Int.reducePow, n_fld, n_sfld, n_aug, n_meth, n_mw, n_make, n_kw, n_rLs, n_dcp, n_gget, n_rLtT, n_ext, n_revL, n_rTp, t_im, ints_rev, t_s1, t_i1, t_i2, t_i3, t_i4, t_i5, x_chain3, x_irng3, x_irevR, x_rg1, x_rg2, ints_cat, ints_app1, ints_len, ints_take, ints_drop, rep_one])
local macro_rules | `(tactic| k_call_by "xo" $h:term) => `(tactic| simp only [$h:term, x_next, x_seq, x_brk, x_cont, x_drop, x_ret, x_retN, x_if, sel_t, sel_f, selE_t, selE_f, selT_t, selT_f, selC_t, selC_f, x_test, x_tB, x_op, x_un, x_var, x_c, x_cb, x_nil, x_cons, x_rI, x_rI0, x_rU, x_rEq, x_rNe, x_rIxL, x_rIxT, n_rSlL, n_rCat, n_rRep, n_rApp, x_bm, x_bm0, x_sl, x_nopart, x_part, n_tup, n_lst, x_call, x_callS, x_asg, x_gname, x_gtup, x_gnil, x_gcons, x_gsub, n_setL, x_aug, x_ipI, x_ipC, x_bits, x_getL, x_augS, x_and, x_or, x_not, x_k, x_andV, x_orV, x_notV, x_ife, x_chain, x_for, x_ilist, x_itup, x_ienum, x_irng1, x_irng2, x_irev, x_lc, x_yes, wipe_nil, wipe_cons, List.map_cons, List.map_nil, x_misc, x_misc2, x_rz, lookup_at, Bool.not_true, Bool.not_false, decide_true, decide_false, not_true, not_false_eq_true, and_assoc, exists_and_left, exists_eq_left', exists_eq_left, exists_eq', exists_eq_right', exists_eq_right, V.int.injEq, V.ref.injEq, V.bl.injEq, V.str.injEq, List.cons.injEq, and_true, true_and, and_self, Option.some.injEq, List.cons_append, List.nil_append, List.append_nil, List.getElem?_cons_zero, List.getElem?_cons_succ, List.set_cons_zero, List.set_cons_succ, reduceCtorEq, false_and, and_false, exists_false, exists_const, or_false, false_or, scal_ii, scal_bb, scal_ss, List.length_cons, List.length_nil, Int.reduceToNat, Int.reducePow, n_fld, n_sfld, n_aug, n_meth, n_mw, n_make, n_kw, n_rLs, n_dcp, n_gget, n_rLtT, n_ext, n_revL, n_rTp, t_im, ints_rev, t_s1, t_i1, t_i2, t_i3, t_i4, t_i5, x_chain3, x_irng3, x_irevR, x_rg1, x_rg2, ints_cat, ints_app1, ints_len, ints_take, ints_drop, rep_one])
local macro_rules | `(tactic| wtm_at "mem") => `(tactic| first | (with_reducible exact mem_here) | (with_reducible refine mem_there ?_; wtm_at "mem"))
local macro_rules | `(tactic| wtm_at "pp") => `(tactic| first | (with_reducible exact Put.here) | (with_reducible apply Put.there; wtm_at "pp"))
local macro_rules | `(tactic| wtm_at "ho") => `(tactic| first | (with_reducible assumption) | exact Own.get (by with_reducible assumption) (by wtm_at "mem") | exact Own.base (by with_reducible assumption) (by with_reducible assumption))
local macro_rules | `(tactic| wtm_at "qo") => `(tactic| first | (with_reducible assumption) | exact SqL.of (by wtm_at "ho") | exact sqT_tupI (by wtm_at "ho") | exact sqT_tupS (by wtm_at "ho") | exact SqT.of (by wtm_at "ho") | exact Own.imT (by with_reducible assumption) (by wtm_at "mem") | exact Own.sq (by with_reducible assumption) (by with_reducible assumption) | exact Own.sqT (by with_reducible assumption) (by with_reducible assumption))
local macro_rules | `(tactic| wtm_at "sub") => `(tactic| first | exact List.nil_sublist _ | (with_reducible refine List.Sublist.cons_cons _ ?_; wtm_at "sub") | (refine List.Sublist.cons _ ?_; wtm_at "sub"))
local macro_rules | `(tactic| wtm_at "co") => `(tactic| first | (with_reducible assumption) | omega | (exact cmul_r (by omega) (by omega)) | (exact cmul_l (by omega) (by omega)) | (exact cdiv_ok (by omega) (by omega)) | (exact cpow_ok (by decide)) | (exact ⟨by omega, by omega, by omega⟩) | decide | (exact ⟨by omega, by omega⟩) | (simp only [List.length_append, List.length_map, List.length_set, List.length_cons, List.length_nil, rngL_len, sizeLine_eq]; omega) | wtm_at "ho" | wtm_at "qo")
local macro_rules | `(tactic| wtm_at "so") => `(tactic| first | ((with_reducible refine g_dcp ?_); refine dcpI (by wtm_at "ho") ?_) | ((with_reducible refine g_asl ?_); refine And.intro (by rfl) ?_) | ((with_reducible refine g_asqT ?_); refine and_sqT (by wtm_at "qo") ?_) | ((with_reducible refine g_extO ?_); first | (refine extI (by with_reducible assumption) (by wtm_at "pp") (by wtm_at "co") (fun _ _ => ?_)) | (refine extO (by with_reducible assumption) (by wtm_at "pp") (by wtm_at "co") (fun _ _ => ?_))) | ((with_reducible refine g_tp ?_); first | (refine tp_l (by wtm_at "qo") ?_) | (refine tp_t (by wtm_at "qo") ?_)) | ((with_reducible refine g_fldO ?_); refine fldO (by wtm_at "ho") (by with_reducible assumption) (by wtm_at "mem") (by wtm_at "lk") ?_) | ((with_reducible refine g_fldC ?_); refine fldC (by wtm_at "ho") (by with_reducible assumption) (by wtm_at "mem") (by wtm_at "lk") ?_) | ((with_reducible refine g_putC ?_); refine putC (by with_reducible assumption) (by wtm_at "pp") (by wtm_at "pu") (by wtm_at "co") (fun _ _ => ?_)) | ((with_reducible refine g_stoO ?_); refine stoO (by with_reducible assumption) (by wtm_at "pp") (by wtm_at "pu") (by with_reducible assumption) (by wtm_at "mem") (by wtm_at "co") (fun _ _ => ?_)) | ((with_reducible refine g_metO ?_); refine metO (by wtm_at "ho") (by wtm_at "ln") ?_) | ((with_reducible refine g_makO ?_); refine makO (by with_reducible assumption) (fun _ _ _ _ => ?_)) | ((with_reducible refine g_sum ?_); refine sum_call (by wtm_at "qo") ?_) | ((with_reducible refine g_cq ?_); exact cq (by with_reducible assumption) (by simp only [rngL_len, List.length_map, List.length_take]; omega)) | ((with_reducible refine g_newO ?_); refine newO (by with_reducible assumption) (fun _ _ _ => ?_)) | ((with_reducible refine g_appO ?_); refine appI (by with_reducible assumption) (by wtm_at "pp") (by wtm_at "co") (fun _ _ => ?_)) | ((with_reducible refine g_setO ?_); refine setI (by with_reducible assumption) (by wtm_at "pp") (by omega) (by wtm_at "co") (fun _ _ => ?_)) | ((with_reducible refine g_appO ?_); refine appO (by with_reducible assumption) (by wtm_at "pp") (by wtm_at "co") (fun _ _ => ?_)) | ((with_reducible refine g_setO ?_); refine setO (by with_reducible assumption) (by wtm_at "pp") (by omega) (by wtm_at "co") (fun _ _ => ?_)) | ((with_reducible refine g_at ?_); refine at_call (by wtm_at "qo") (by omega) (by omega) (fun _ _ => ?_)) | ((with_reducible refine g_int ?_); refine int_call ?_) | ((with_reducible refine g_isi ?_); first | (with_reducible refine isi_ii ?_) | (with_reducible refine isi_ib ?_) | (refine isi_int rfl ?_) | (refine isi_sqL rfl (by wtm_at "qo") ?_) | (refine isi_sqT rfl (by wtm_at "qo") ?_) | (refine isi_bl rfl ?_) | (refine isi_non rfl ?_) | (refine isi_str rfl ?_)) | ((with_reducible refine g_ned ?_); first | (refine ned_f (dq_lst (by wtm_at "qo")) (dq_lst (by wtm_at "qo")) ?_) | (refine ned_ints (by wtm_at "qo") (by wtm_at "qo") ?_) | (refine nedT_ints (by wtm_at "qo") (by wtm_at "qo") ?_)) | ((with_reducible refine g_eqd ?_); first | (refine eqd_t (dq_lst (by wtm_at "qo")) (dq_lst (by wtm_at "qo")) ?_) | (refine eqd_ints (by wtm_at "qo") (by wtm_at "qo") ?_) | (refine eqdT_ints (by wtm_at "qo") (by wtm_at "qo") ?_)) | ((with_reducible refine g_tyv ?_); refine and_tyv (by wtm_at "qo") ?_) | ((with_reducible refine g_asq ?_); refine and_sq (by wtm_at "qo") ?_) | ((with_reducible refine g_lst ?_); refine ex_lst (by wtm_at "ho") ?_) | ((with_reducible refine g_or ?_); first | (refine ex_or (by wtm_at "qo") ?_) | (refine ex_ort (by wtm_at "qo") ?_)) | ((with_reducible refine g_sq ?_); refine ex_sq (by wtm_at "qo") ?_) | ((with_reducible refine g_sqt ?_); refine ex_sqt (by wtm_at "qo") ?_) | ((with_reducible refine gd_sel ?_); first | (refine sel_p (by wtm_at "pf") ?_) | (refine sel_n (by wtm_at "pf") ?_)) | ((with_reducible refine gn_sel ?_); first | (refine selN_p (by wtm_at "pf") ?_) | (refine selN_n (by wtm_at "pf") ?_)) | ((with_reducible refine gd_selT ?_); first | (refine selT_p (by wtm_at "pf") ?_) | (refine selT_n (by wtm_at "pf") ?_)) | ((with_reducible refine gn_selT ?_); first | (refine selTN_p (by wtm_at "pf") ?_) | (refine selTN_n (by wtm_at "pf") ?_)) | ((with_reducible refine gd_selE ?_); first | (refine selE_p (by wtm_at "pf") ?_) | (refine selE_n (by wtm_at "pf") ?_)) | ((with_reducible refine gn_selE ?_); first | (refine selEN_p (by wtm_at "pf") ?_) | (refine selEN_n (by wtm_at "pf") ?_)) | ((with_reducible refine g_xf ?_); refine xf_at rfl (by wtm_at "ho") ?_) | ((with_reducible refine g_atI ?_); refine ex_at (by first | exact rfl | exact atI_int (by omega) (by wtm_at "pf") | exact atI_end (by wtm_at "pf")) ?_) | ((with_reducible refine g_and ?_); refine And.intro (by wtm_at "co") ?_))
local macro_rules | `(tactic| wtm_at "oo") => `(tactic| repeat (first | wtm_at "xo" | wtm_at "so"))
local macro_rules | `(tactic| wtm_at "cR") => `(tactic| (refine' compRi _ (by with_reducible assumption) (by omega) (fun _ _ _ _ _ => ?_) (fun _ _ _ => ?_); rotate_left; focus (wtm_at "oo")))

local macro_rules | `(tactic| wtm_at "lk") => `(tactic| first | (with_reducible exact lk_here) | (simp only [lk_here, lk_skip, lk_nil]; first | done | exact rfl))
local macro_rules | `(tactic| wtm_at "ln") => `(tactic| first | (with_reducible exact lk_nil) | (simp only [lk_skip, lk_nil]; done))
local macro_rules | `(tactic| wtm_at "pu") => `(tactic| first | (with_reducible exact pf_nil) | (simp only [pf_nil, pf_here, pf_skip]; first | done | exact rfl))
local macro_rules | `(tactic| wtm_at "tk") => `(tactic| first | (with_reducible exact Take.here) | (exact Take.here) | ((with_reducible apply Take.there); wtm_at "tk"))
local macro_rules | `(tactic| wtm_at "pk") => `(tactic| first | exact Pick.nil | ((with_reducible refine' Pick.cons ?tk1 ?pk1); (case tk1 => wtm_at "tk"); (case pk1 => wtm_at "pk")) | ((with_reducible refine Pick.im (by wtm_at "mem") ?_); wtm_at "pk") | ((with_reducible refine Pick.ims (by wtm_at "mem") ?_); wtm_at "pk"))
section
variable {P : Program} {w : World} {K : PySem.W.Frag} {mg : Str → Option Value} {base : Heap}
def sp__law_lengths (K : PySem.W.Frag) : Sp := fun vs H Q _ => ∃ (a : Addr) (ds : List Int), vs = [.ref a] ∧ SqL K H a (ds.map V.int) ∧
  ∀ (ls : List Int) p H', ls.length ≤ 320 → (∀ x ∈ ls, 0 ≤ x ∧ x < 16) → Own K H H' [pI p ls] → Q (.ref p) H'
theorem ok__law_lengths (T : Tx K mg) : Cl P w K mg base 2 "_law_lengths" ["draws"] (sp__law_lengths K) [] := by
  obtain ⟨gm, fd, F⟩ := T.d__law_lengths
  refine ⟨_, fd, [], F.ok sc__law_lengths (fun vs H Q E h => ?_) (fun cdv A outer s H vs Q E hr h => ⟨_, (PSs.nox (pss_cons (ps_set (i := 1) sc__law_lengths.nd rfl (Or.inl rfl) (by exact (pe_lst pa_nil)))
 (pss_cons (ps_for PassesOwn.never rfl (pi_range1 rfl T.b_range (pa_cons (pe_op op_add pe_int (pe_cl (ok__law_at T) (hr.mono (by decide)) rfl (pa_cons (pv 0) (pa_cons pe_int (pa_cons pe_int pa_nil))))) pa_nil)) (pg_name (i := 2) sc__law_lengths.nd rfl (Or.inl rfl))
 (pss_cons (ps_set (i := 3) sc__law_lengths.nd rfl (Or.inl rfl) (by exact (pe_ix (ixl K) (pe_lst (pa_cons pe_int (pa_cons pe_int (pa_cons (pe_op op_add pe_int (pe_cl (ok__law_at T) (hr.mono (by decide)) rfl (pa_cons (pv 0) (pa_cons (pe_op op_add (pe_op op_mul pe_int (pv 2)) pe_int) (pa_cons pe_int pa_nil))))) (pa_cons pe_int pa_nil))))) (pe_cl (ok__law_at T) (hr.mono (by decide)) rfl (pa_cons (pv 0) (pa_cons (pe_op op_add (pe_op op_mul pe_int (pv 2)) pe_int) (pa_cons pe_int pa_nil)))) (fun _ _ => rfl))))
 (pss_cons (ps_set (i := 4) sc__law_lengths.nd rfl (Or.inl rfl) (by exact (pe_op op_add pe_int (pe_cl (ok__law_at T) (hr.mono (by decide)) rfl (pa_cons (pv 0) (pa_cons (pe_op op_add (pe_op op_mul pe_int (pv 2)) pe_int) (pa_cons pe_int pa_nil)))))))
 (pss_cons (ps_if (pt_cmpR op_eq (pe_cl (ok__law_at T) (hr.mono (by decide)) rfl (pa_cons (pv 0) (pa_cons (pe_op op_add (pe_op op_mul pe_int (pv 2)) pe_int) (pa_cons pe_int pa_nil)))) pe_int (nomark _))
 (pss_one (ps_set (i := 4) sc__law_lengths.nd rfl (Or.inl rfl) (by exact (pe_op op_add pe_int (pe_cl (ok__law_at T) (hr.mono (by decide)) rfl (pa_cons (pv 0) (pa_cons (pe_op op_add (pe_op op_mul pe_int (pv 2)) pe_int) (pa_cons pe_int pa_nil))))))))
 pss_nil)
 (pss_one (ps_for PassesOwn.never rfl (pi_range1 rfl T.b_range (pa_cons (pv 4) pa_nil)) (pg_name (i := 5) sc__law_lengths.nd rfl (Or.inl rfl))
 (pss_one (ps_if (pt_cmpR op_lt (pe_callB (lenK K) rfl T.b_len (by decide +kernel) (pa_cons (pv 1) pa_nil)) pe_int (nomark _))
 (pss_one (ps_expr (pe_bm PySem.F.plainAttrs_list PySem.F.slot_list_append PySem.F.type_list_append mt_append (pv 1) (pa_cons (pv 3) pa_nil))))
 pss_nil))))))))
 (pss_one (ps_ret (by exact (pv 1))))))), ?_⟩), gm, F.kp, F.bindsN (fun _ _ _ _ _ _ us hl => match us, hl with | [_], _ => rfl), .nil⟩
  · first | (obtain ⟨rfl, _⟩ := h; rfl) | (obtain ⟨_, rfl, _⟩ := h; rfl) | (obtain ⟨_, _, rfl, _⟩ := h; rfl) | (obtain ⟨_, _, _, rfl, _⟩ := h; rfl) | (obtain ⟨_, _, _, _, rfl, _⟩ := h; rfl) | (obtain ⟨_, _, _, _, _, rfl, _⟩ := h; rfl) | (obtain ⟨_, _, _, _, _, _, rfl, _⟩ := h; rfl) | (obtain ⟨_, _, _, _, _, _, _, rfl, _⟩ := h; rfl) | (obtain ⟨_, _, _, _, _, _, _, _, rfl, _⟩ := h; rfl) | (obtain ⟨_, _, _, _, _, _, _, _, _, rfl, _⟩ := h; rfl) | (obtain ⟨_, _, _, _, _, _, _, _, _, _, rfl, _⟩ := h; rfl) | (obtain ⟨_, _, _, _, _, _, _, _, _, _, _, rfl, _⟩ := h; rfl) | (obtain ⟨_, _, _, _, _, _, _, _, _, _, _, _, rfl, _⟩ := h; rfl) | (obtain ⟨_, _, _, _, _, _, _, _, _, _, _, _, _, rfl, _⟩ := h; rfl) | (obtain ⟨_, _, _, _, _, _, _, _, _, _, _, _, _, _, rfl, _⟩ := h; rfl) | (obtain ⟨_, _, _, _, _, _, _, _, _, _, _, _, _, _, _, rfl, _⟩ := h; rfl) | (obtain ⟨_, _, _, _, _, _, _, _, _, _, _, _, _, _, _, _, rfl, _⟩ := h; rfl) | (obtain ⟨_, _, _, _, _, _, _, _, _, _, _, _, _, _, _, _, _, rfl, _⟩ := h; rfl) | (obtain ⟨_, _, _, _, _, _, _, _, _, _, _, _, _, _, _, _, _, _, rfl, _⟩ := h; rfl) | (obtain ⟨_, _, _, _, _, _, _, _, _, _, _, _, _, _, _, _, _, _, _, rfl, _⟩ := h; rfl) | (obtain ⟨_, _, _, _, _, _, _, _, _, _, _, _, _, _, _, _, _, _, _, _, rfl, _⟩ := h; rfl) | (obtain ⟨_, _, _, _, _, _, _, _, _, _, _, _, _, _, _, _, _, _, _, _, _, rfl, _⟩ := h; rfl)
  · obtain ⟨a, ds, rfl, hS, q⟩ := h
    k_call_by "xo" st__law_lengths
    have L := Own.start (K := K) (H := H)
    wtm_at "oo"
    rename_i p H1 L1 w0 w1
    refine loop_range (fun i σ H' => ∃ ls y2 y3 y4 y5, σ = [some (.ref a), some (.ref p), y2, y3, y4, y5] ∧ Own K H H' [pI p ls] ∧ ls.length ≤ 320 ∧ ∀ x ∈ ls, 0 ≤ x ∧ x < 16) ⟨[], none, none, none, none, rfl, L1, Nat.zero_le _, (fun _ h => nomatch h)⟩ ?_ ?_
    · clear L1 w0 w1
      rintro i σ H2 hi ⟨ls, y2, y3, y4, y5, rfl, L, hl, hx⟩
      wtm_at "oo"
      rename_i a0 a1 g0 G0 L0 b0 b1
      have key : ∀ j : Int, 0 ≤ j → j < 4 → ∃ v : Int, 0 ≤ v ∧ v < 16 ∧ atI [V.int 0, V.int 0, V.int (1 + atD ds (3 * (0 + (i : Int)) + 1) 15), V.int 7] j = some (.int v) := by
        intro j h0 h4
        have hj : j = 0 ∨ j = 1 ∨ j = 2 ∨ j = 3 := by omega
        rcases hj with rfl | rfl | rfl | rfl
        · exact ⟨_, by decide, by decide, rfl⟩
        · exact ⟨_, by decide, by decide, rfl⟩
        · exact ⟨_, by omega, by omega, rfl⟩
        · exact ⟨_, by decide, by decide, rfl⟩
      obtain ⟨v, v0, v1, ev⟩ := key _ b0 b1
      refine ⟨_, ev, ?_⟩
      clear key ev
      have L1 := L0.drop1
      clear L0
      wtm_at "oo"
      rename_i c0 c1 d0 d1
      generalize hk : tFor _ _ _ _ = kont
      have fin : ∀ n : Int, 1 ≤ n → n ≤ 200 → kont [some (.ref a), some (.ref p), some (.int (0 + (i : Int))), some (.int v), some (.int n), y5] G0 := by
        intro n n0 n1
        subst hk
        wtm_at "oo"
        refine loop_range (fun j σ H' => ∃ ls y5, σ = [some (.ref a), some (.ref p), some (.int (0 + (i : Int))), some (.int v), some (.int n), y5] ∧ Own K H H' [pI p ls] ∧ ls.length ≤ 320 ∧ ∀ x ∈ ls, 0 ≤ x ∧ x < 16) ⟨ls, y5, rfl, L1, hl, hx⟩ ?_ ?_
        · clear L1 hl hx
          rintro j σ H3 hj ⟨ls, y5, rfl, L, hl, hx⟩
          wtm_at "oo"
          refine sel_d (fun c => ?_) (fun c => ?_)
          · wtm_at "oo"
            rename_i H4 L4
            refine ⟨_, L4, by rw [List.length_append, List.length_singleton]; omega, fun x m => ?_⟩
            rcases List.mem_append.mp m with m | m
            · exact hx x m
            · rw [List.mem_singleton.mp m]
              exact ⟨v0, v1⟩
          · wtm_at "oo"
            exact ⟨ls, L, hl, hx⟩
        · rintro σ H3 ⟨ls, y5, rfl, L, hl, hx⟩
          wtm_at "oo"
          exact ⟨ls, L, hl, hx⟩
      refine sel_d (fun c => ?_) (fun c => ?_)
      · wtm_at "oo"
        exact fin _ (by omega) (by omega)
      · wtm_at "oo"
        exact fin _ (by omega) (by omega)
    · rintro σ H2 ⟨ls, y2, y3, y4, y5, rfl, L, hl, hx⟩
      wtm_at "oo"
      exact q ls p H2 hl hx L
def sp__law_run (K : PySem.W.Frag) : Sp := fun vs H Q _ => ∃ (a : Addr) (ls : List Int) (i : Nat) (v : Int), vs = [.ref a, .int (i : Int), .int v] ∧ SqL K H a (ls.map V.int) ∧ ls.length ≤ 5000 ∧ i ≤ ls.length ∧ Q (.int ((runL v (ls.drop i) : Nat) : Int)) H
theorem ok__law_run (T : Tx K mg) : Cl P w K mg base 1 "_law_run" ["lengths", "at", "value"] (sp__law_run K) [] := by
  obtain ⟨gm, fd, F⟩ := T.d__law_run
  refine ⟨_, fd, [], F.ok sc__law_run (fun vs H Q E h => ?_) (fun cdv A outer s H vs Q E hr h => ⟨_, (PSs.nox (pss_cons (ps_set (i := 3) sc__law_run.nd rfl (Or.inl rfl) (by exact pe_int))
 (pss_cons (ps_while PassesOwn.never (PW.pt (pw_and (pt_cmpR op_lt (pe_op op_add (pv 1) (pv 3)) (pe_callB (lenK K) rfl T.b_len (by decide +kernel) (pa_cons (pv 0) pa_nil)) (nomark _)) (pw_and1 (pt_cmpR op_eq (pe_ix (ixl K) (pv 0) (pe_op op_add (pv 1) (pv 3)) (fun _ _ => rfl)) (pv 2) (nomark _)))))
 (pss_one (ps_set (i := 3) sc__law_run.nd rfl (Or.inl rfl) (by exact (pe_op op_add (pv 3) pe_int)))))
 (pss_one (ps_ret (by exact (pv 3))))))), ?_⟩), gm, F.kp, F.bindsN (fun _ _ _ _ _ _ us hl => match us, hl with | [_, _, _], _ => rfl), .nil⟩
  · first | (obtain ⟨rfl, _⟩ := h; rfl) | (obtain ⟨_, rfl, _⟩ := h; rfl) | (obtain ⟨_, _, rfl, _⟩ := h; rfl) | (obtain ⟨_, _, _, rfl, _⟩ := h; rfl) | (obtain ⟨_, _, _, _, rfl, _⟩ := h; rfl) | (obtain ⟨_, _, _, _, _, rfl, _⟩ := h; rfl) | (obtain ⟨_, _, _, _, _, _, rfl, _⟩ := h; rfl) | (obtain ⟨_, _, _, _, _, _, _, rfl, _⟩ := h; rfl) | (obtain ⟨_, _, _, _, _, _, _, _, rfl, _⟩ := h; rfl) | (obtain ⟨_, _, _, _, _, _, _, _, _, rfl, _⟩ := h; rfl) | (obtain ⟨_, _, _, _, _, _, _, _, _, _, rfl, _⟩ := h; rfl) | (obtain ⟨_, _, _, _, _, _, _, _, _, _, _, rfl, _⟩ := h; rfl) | (obtain ⟨_, _, _, _, _, _, _, _, _, _, _, _, rfl, _⟩ := h; rfl) | (obtain ⟨_, _, _, _, _, _, _, _, _, _, _, _, _, rfl, _⟩ := h; rfl) | (obtain ⟨_, _, _, _, _, _, _, _, _, _, _, _, _, _, rfl, _⟩ := h; rfl) | (obtain ⟨_, _, _, _, _, _, _, _, _, _, _, _, _, _, _, rfl, _⟩ := h; rfl) | (obtain ⟨_, _, _, _, _, _, _, _, _, _, _, _, _, _, _, _, rfl, _⟩ := h; rfl) | (obtain ⟨_, _, _, _, _, _, _, _, _, _, _, _, _, _, _, _, _, rfl, _⟩ := h; rfl) | (obtain ⟨_, _, _, _, _, _, _, _, _, _, _, _, _, _, _, _, _, _, rfl, _⟩ := h; rfl) | (obtain ⟨_, _, _, _, _, _, _, _, _, _, _, _, _, _, _, _, _, _, _, rfl, _⟩ := h; rfl) | (obtain ⟨_, _, _, _, _, _, _, _, _, _, _, _, _, _, _, _, _, _, _, _, rfl, _⟩ := h; rfl) | (obtain ⟨_, _, _, _, _, _, _, _, _, _, _, _, _, _, _, _, _, _, _, _, _, rfl, _⟩ := h; rfl)
  · obtain ⟨a, ls, i, v, rfl, hS, hl, hi, q⟩ := h
    k_call_by "xo" st__law_run
    wtm_at "oo"
    refine loop_while (fun σ H' => ∃ j, σ = [some (.ref a), some (.int (i : Int)), some (.int v), some (.int ((j : Nat) : Int))] ∧ H' = H ∧ i + j ≤ ls.length ∧ runL v (ls.drop i) = j + runL v (ls.drop (i + j))) (fun σ _ => match σ with
      | [_, _, _, some (.int k)] => ls.length - k.toNat
      | _ => 0) ⟨0, rfl, rfl, by omega, by rw [Nat.add_zero, Nat.zero_add]⟩ ?_
    rintro σ H' ⟨j, rfl, rfl, hj, e⟩
    wtm_at "oo"
    refine selT_d (fun c => ?_) (fun c => ?_)
    · have hr := runL_at (v := v) (xs := ls) (i := i + j) (by omega)
      wtm_at "oo"
      refine wh_d (fun c2 => ?_) (fun c2 => ?_)
      · wtm_at "oo"
        rw [show ((i : Int) + (j : Int)).toNat = i + j by omega] at c2
        rw [if_pos c2] at hr
        exact ⟨⟨j + 1, rfl, by omega, by rw [e, hr]; show _ = j + 1 + runL v (ls.drop (i + j + 1)); omega⟩, by omega⟩
      · wtm_at "oo"
        rw [show ((i : Int) + (j : Int)).toNat = i + j by omega] at c2
        rw [if_neg c2] at hr
        rw [e, hr] at q
        exact q
    · wtm_at "oo"
      refine wh (fun z => by cases z) (fun _ => ?_)
      wtm_at "oo"
      have hr := runL_out (v := v) (xs := ls) (i := i + j) (by omega)
      rw [e, hr] at q
      exact q


end
end K41

namespace K41
open PySem PySem.Spec PyProof.Rows L2 Bel
local macro_rules | `(tactic| wtm_at "xs") => `(tactic| simp only [x_next, x_seq, x_brk, x_cont, x_drop, x_ret, x_retN, x_if, sel_t, sel_f, selE_t, selE_f, selT_t, selT_f, selC_t, selC_f, x_test, x_tB, x_op, x_un, x_var, x_c, x_cb, x_nil, x_cons, x_rI, x_rI0, x_rU, x_rEq, x_rNe, x_rIxL, x_rIxT, x_rSlL, x_rCat, x_rRep, x_rApp, x_bm, x_bm0, x_sl, x_nopart, x_part, x_tup, x_lst, x_call, x_callS, x_asg, x_gname, x_gtup, x_gnil, x_gcons, x_gsub, x_setL, x_aug, x_ipI, x_ipC, x_bits, x_getL, x_augS, x_and, x_or, x_not, x_k, x_andV, x_orV, x_notV, x_ife, x_chain, x_for, x_ilist, x_itup, x_ienum, x_irng1, x_irng2, x_irev, x_lc, x_yes, wipe_nil, wipe_cons, List.map_cons, List.map_nil, x_misc, x_misc2, x_rz, lookup_at, Bool.not_true, Bool.not_false, decide_true, decide_false, not_true, not_false_eq_true, and_assoc, exists_and_left, exists_eq_left', exists_eq_left, exists_eq', exists_eq_right', exists_eq_right, V.int.injEq, V.ref.injEq, V.bl.injEq, V.str.injEq, List.cons.injEq, and_true, true_and, and_self, Option.some.injEq, List.cons_append, List.nil_append, List.append_nil, List.getElem?_cons_zero, List.getElem?_cons_succ, List.set_cons_zero, List.set_cons_succ, reduceCtorEq, false_and, and_false, exists_false, exists_const, or_false, false_or, scal_ii, scal_bb, scal_ss, List.length_cons, List.length_nil, Int.reduceToNat, Int.reducePow])
local macro_rules | `(tactic| k_call_by "xs" $h:term) => `(tactic| simp only [$h:term, x_next, x_seq, x_brk, x_cont, x_drop, x_ret, x_retN, x_if, sel_t, sel_f, selE_t, selE_f, selT_t, selT_f, selC_t, selC_f, x_test, x_tB, x_op, x_un, x_var, x_c, x_cb, x_nil, x_cons, x_rI, x_rI0, x_rU, x_rEq, x_rNe, x_rIxL, x_rIxT, x_rSlL, x_rCat, x_rRep, x_rApp, x_bm, x_bm0, x_sl, x_nopart, x_part, x_tup, x_lst, x_call, x_callS, x_asg, x_gname, x_gtup, x_gnil, x_gcons, x_gsub, x_setL, x_aug, x_ipI, x_ipC, x_bits, x_getL, x_augS, x_and, x_or, x_not, x_k, x_andV, x_orV, x_notV, x_ife, x_chain, x_for, x_ilist, x_itup, x_ienum, x_irng1, x_irng2, x_irev, x_lc, x_yes, wipe_nil, wipe_cons, List.map_cons, List.map_nil, x_misc, x_misc2, x_rz, lookup_at, Bool.not_true, Bool.not_false, decide_true, decide_false, not_true, not_false_eq_true, and_assoc, exists_and_left, exists_eq_left', exists_eq_left, exists_eq', exists_eq_right', exists_eq_right, V.int.injEq, V.ref.injEq, V.bl.injEq, V.str.injEq, List.cons.injEq, and_true, true_and, and_self, Option.some.injEq, List.cons_append, List.nil_append, List.append_nil, List.getElem?_cons_zero, List.getElem?_cons_succ, List.set_cons_zero, List.set_cons_succ, reduceCtorEq, false_and, and_false, exists_false, exists_const, or_false, false_or, scal_ii, scal_bb, scal_ss, List.length_cons, List.length_nil, Int.reduceToNat, Int.reducePow])
local macro_rules | `(tactic| wtm_at "hp") => `(tactic| first | (with_reducible assumption) | exact upd_same | (refine upd_keep (by with_reducible assumption) ?_; wtm_at "hp") | (refine Same.get (by with_reducible assumption) ?_; wtm_at "hp") | (refine upd_other (by first | (with_reducible assumption) | exact Ne.symm (by with_reducible assumption)) ?_; wtm_at "hp"))
local macro_rules | `(tactic| wtm_at "sq") => `(tactic| first | (with_reducible assumption) | exact SqL.of (by wtm_at "hp") | exact SqT.of (by wtm_at "hp") | (refine Same.seq (same_upd (by with_reducible assumption)) ?_; wtm_at "sq") | (refine Same.seq (by with_reducible assumption) ?_; wtm_at "sq") | (refine Same.seqT (same_upd (by with_reducible assumption)) ?_; wtm_at "sq") | (refine Same.seqT (by with_reducible assumption) ?_; wtm_at "sq"))
local macro_rules | `(tactic| wtm_at "cl") => `(tactic| first | (with_reducible assumption) | omega | (exact cmul_r (by omega) (by omega)) | (exact cmul_l (by omega) (by omega)) | (exact cdiv_ok (by omega) (by omega)) | (exact cpow_ok (by decide)) | (exact ⟨by omega, by omega, by omega⟩) | decide | (exact ⟨by omega, by omega⟩) | (simp only [List.length_append, List.length_map, List.length_set, List.length_cons, List.length_nil, rngL_len, sizeLine_eq]; omega) | wtm_at "hp" | wtm_at "sq")
local macro_rules | `(tactic| wtm_at "pf") => `(tactic| first | (with_reducible assumption) | omega | (simp only [List.length_append, List.length_map, List.length_set, List.length_cons, List.length_nil, rngL_len]; omega) | (with_reducible rfl) | (with_reducible trivial) | (with_reducible decide))
local macro_rules | `(tactic| wtm_at "st") => `(tactic| first | ((with_reducible refine g_at ?_); refine at_call (by wtm_at "sq") (by omega) (by omega) (fun _ _ => ?_)) | ((with_reducible refine g_int ?_); refine int_call ?_) | ((with_reducible refine g_isi ?_); first | (with_reducible refine isi_ii ?_) | (with_reducible refine isi_ib ?_) | (refine isi_int rfl ?_) | (refine isi_lst rfl (by wtm_at "hp") ?_) | (refine isi_tup rfl (by wtm_at "hp") ?_)) | ((with_reducible refine g_ned ?_); refine ned_f (dq_lst (by wtm_at "sq")) (dq_lst (by wtm_at "sq")) ?_) | ((with_reducible refine g_eqd ?_); refine eqd_t (dq_lst (by wtm_at "sq")) (dq_lst (by wtm_at "sq")) ?_) | ((with_reducible refine g_tyv ?_); refine and_tyv (by wtm_at "sq") ?_) | ((with_reducible refine g_asq ?_); refine and_sq (by wtm_at "sq") ?_) | ((with_reducible refine g_lst ?_); refine ex_lst (by wtm_at "hp") ?_) | ((with_reducible refine g_or ?_); first | (refine ex_or (by wtm_at "sq") ?_) | (refine ex_ort (by wtm_at "sq") ?_)) | ((with_reducible refine g_sq ?_); refine ex_sq (by wtm_at "sq") ?_) | ((with_reducible refine g_sqt ?_); refine ex_sqt (by wtm_at "sq") ?_) | ((with_reducible refine gd_sel ?_); first | (refine sel_p (by wtm_at "pf") ?_) | (refine sel_n (by wtm_at "pf") ?_)) | ((with_reducible refine gn_sel ?_); first | (refine selN_p (by wtm_at "pf") ?_) | (refine selN_n (by wtm_at "pf") ?_)) | ((with_reducible refine gd_selT ?_); first | (refine selT_p (by wtm_at "pf") ?_) | (refine selT_n (by wtm_at "pf") ?_)) | ((with_reducible refine gn_selT ?_); first | (refine selTN_p (by wtm_at "pf") ?_) | (refine selTN_n (by wtm_at "pf") ?_)) | ((with_reducible refine gd_selE ?_); first | (refine selE_p (by wtm_at "pf") ?_) | (refine selE_n (by wtm_at "pf") ?_)) | ((with_reducible refine gn_selE ?_); first | (refine selEN_p (by wtm_at "pf") ?_) | (refine selEN_n (by wtm_at "pf") ?_)) | ((with_reducible refine g_xf ?_); refine xf_at rfl (by wtm_at "hp") ?_) | ((with_reducible refine g_atI ?_); refine ex_at (by first | exact rfl | exact atI_int (by omega) (by wtm_at "pf") | exact atI_end (by wtm_at "pf")) ?_) | ((with_reducible refine g_and ?_); refine And.intro (by wtm_at "cl") ?_) | ((with_reducible refine g_new ?_); intro _ _))
local macro_rules | `(tactic| wtm_at "go") => `(tactic| repeat (first | wtm_at "xs" | wtm_at "st"))
local macro_rules | `(tactic| wtm_at "xo") => `(tactic| simp only [x_next, x_seq, x_brk, x_cont, x_drop, x_ret, x_retN, x_if, sel_t, sel_f, selE_t, selE_f, selT_t, selT_f, selC_t, selC_f, x_test, x_tB, x_op, x_un, x_var, x_c, x_cb, x_nil, x_cons, x_rI, x_rI0, x_rU, x_rEq, x_rNe, x_rIxL, x_rIxT, n_rSlL, n_rCat, n_rRep, n_rApp, x_bm, x_bm0, x_sl, x_nopart, x_part, n_tup, n_lst, x_call, x_callS, x_asg, x_gname, x_gtup, x_gnil, x_gcons, x_gsub, n_setL, x_aug, x_ipI, x_ipC, x_bits, x_getL, x_augS, x_and, x_or, x_not, x_k, x_andV, x_orV, x_notV, x_ife, x_chain, x_for, x_ilist, x_itup, x_ienum, x_irng1, x_irng2, x_irev, x_lc, x_yes, wipe_nil, wipe_cons, List.map_cons, List.map_nil, x_misc, x_misc2, x_rz, lookup_at, Bool.not_true, Bool.not_false, decide_true, decide_false, not_true, not_false_eq_true, and_assoc, exists_and_left, exists_eq_left', exists_eq_left, exists_eq', exists_eq_right', exists_eq_right, V.int.injEq, V.ref.injEq, V.bl.injEq, V.str.injEq, List.cons.injEq, and_true, true_and, and_self, Option.some.injEq, List.cons_append, List.nil_append, List.append_nil, List.getElem?_cons_zero, List.getElem?_cons_succ, List.set_cons_zero, List.set_cons_succ, reduceCtorEq, false_and, and_false, exists_false, exists_const, or_false, false_or, scal_ii, scal_bb, scal_ss, List.length_cons, List.length_nil, Int.reduceToNat, Int.reducePow, n_fld, n_sfld, n_aug, n_meth, n_mw, n_make, n_kw, n_rLs, n_dcp, n_gget, n_rLtT, n_ext, n_revL, n_rTp, t_im, ints_rev, t_s1, t_i1, t_i2, t_i3, t_i4, t_i5, x_chain3, x_irng3, x_irevR, x_rg1, x_rg2, ints_cat, ints_app1, ints_len, ints_take, ints_drop, rep_one])
local macro_rules | `(tactic| k_call_by "xo" $h:term) => `(tactic| simp only [$h:term, x_next, x_seq, x_brk, x_cont, x_drop, x_ret, x_retN, x_if, sel_t, sel_f, selE_t, selE_f, selT_t, selT_f, selC_t, selC_f, x_test, x_tB, x_op, x_un, x_var, x_c, x_cb, x_nil, x_cons, x_rI, x_rI0, x_rU, x_rEq, x_rNe, x_rIxL, x_rIxT, n_rSlL, n_rCat, n_rRep, n_rApp, x_bm, x_bm0, x_sl, x_nopart, x_part, n_tup, n_lst, x_call, x_callS, x_asg, x_gname, x_gtup, x_gnil, x_gcons, x_gsub, n_setL, x_aug, x_ipI, x_ipC, x_bits, x_getL, x_augS, x_and, x_or, x_not, x_k, x_andV, x_orV, x_notV, x_ife, x_chain, x_for, x_ilist, x_itup, x_ienum, x_irng1, x_irng2, x_irev, x_lc, x_yes, wipe_nil, wipe_cons, List.map_cons, List.map_nil, x_misc, x_misc2, x_rz, lookup_at, Bool.not_true, Bool.not_false, decide_true, decide_false, not_true, not_false_eq_true, and_assoc, exists_and_left, exists_eq_left', exists_eq_left, exists_eq', exists_eq_right', exists_eq_right, V.int.injEq, V.ref.injEq, V.bl.injEq, V.str.injEq, List.cons.injEq, and_true, true_and, and_self, Option.some.injEq, List.cons_append, List.nil_append, List.append_nil, List.getElem?_cons_zero, List.getElem?_cons_succ, List.set_cons_zero, List.set_cons_succ, reduceCtorEq, false_and, and_false, exists_false, exists_const, or_false, false_or, scal_ii, scal_bb, scal_ss, List.length_cons, List.length_nil, Int.reduceToNat, Int.reducePow, n_fld, n_sfld, n_aug, n_meth, n_mw, n_make, n_kw, n_rLs, n_dcp, n_gget, n_rLtT, n_ext, n_revL, n_rTp, t_im, ints_rev, t_s1, t_i1, t_i2, t_i3, t_i4, t_i5, x_chain3, x_irng3, x_irevR, x_rg1, x_rg2, ints_cat, ints_app1, ints_len, ints_take, ints_drop, rep_one])
local macro_rules | `(tactic| wtm_at "mem") => `(tactic| first | (with_reducible exact mem_here) | (with_reducible refine mem_there ?_; wtm_at "mem"))
local macro_rules | `(tactic| wtm_at "pp") => `(tactic| first | (with_reducible exact Put.here) | (with_reducible apply Put.there; wtm_at "pp"))
local macro_rules | `(tactic| wtm_at "ho") => `(tactic| first | (with_reducible assumption) | exact Own.get (by with_reducible assumption) (by wtm_at "mem") | exact Own.base (by with_reducible assumption) (by with_reducible assumption))
local macro_rules | `(tactic| wtm_at "qo") => `(tactic| first | (with_reducible assumption) | exact SqL.of (by wtm_at "ho") | exact sqT_tupI (by wtm_at "ho") | exact sqT_tupS (by wtm_at "ho") | exact SqT.of (by wtm_at "ho") | exact Own.imT (by with_reducible assumption) (by wtm_at "mem") | exact Own.sq (by with_reducible assumption) (by with_reducible assumption) | exact Own.sqT (by with_reducible assumption) (by with_reducible assumption))
local macro_rules | `(tactic| wtm_at "sub") => `(tactic| first | exact List.nil_sublist _ | (with_reducible refine List.Sublist.cons_cons _ ?_; wtm_at "sub") | (refine List.Sublist.cons _ ?_; wtm_at "sub"))
local macro_rules | `(tactic| wtm_at "co") => `(tactic| first | (with_reducible assumption) | omega | (exact cmul_r (by omega) (by omega)) | (exact cmul_l (by omega) (by omega)) | (exact cdiv_ok (by omega) (by omega)) | (exact cpow_ok (by decide)) | (exact ⟨by omega, by omega, by omega⟩) | decide | (exact ⟨by omega, by omega⟩) | (simp only [List.length_append, List.length_map, List.length_set, List.length_cons, List.length_nil, rngL_len, sizeLine_eq]; omega) | wtm_at "ho" | wtm_at "qo")
local macro_rules | `(tactic| wtm_at "so") => `(tactic| first | ((with_reducible refine g_dcp ?_); refine dcpI (by wtm_at "ho") ?_) | ((with_reducible refine g_asl ?_); refine And.intro (by rfl) ?_) | ((with_reducible refine g_asqT ?_); refine and_sqT (by wtm_at "qo") ?_) | ((with_reducible refine g_extO ?_); first | (refine extI (by with_reducible assumption) (by wtm_at "pp") (by wtm_at "co") (fun _ _ => ?_)) | (refine extO (by with_reducible assumption) (by wtm_at "pp") (by wtm_at "co") (fun _ _ => ?_))) | ((with_reducible refine g_tp ?_); first | (refine tp_l (by wtm_at "qo") ?_) | (refine tp_t (by wtm_at "qo") ?_)) | ((with_reducible refine g_fldO ?_); refine fldO (by wtm_at "ho") (by with_reducible assumption) (by wtm_at "mem") (by wtm_at "lk") ?_) | ((with_reducible refine g_fldC ?_); refine fldC (by wtm_at "ho") (by with_reducible assumption) (by wtm_at "mem") (by wtm_at "lk") ?_) | ((with_reducible refine g_putC ?_); refine putC (by with_reducible assumption) (by wtm_at "pp") (by wtm_at "pu") (by wtm_at "co") (fun _ _ => ?_)) | ((with_reducible refine g_stoO ?_); refine stoO (by with_reducible assumption) (by wtm_at "pp") (by wtm_at "pu") (by with_reducible assumption) (by wtm_at "mem") (by wtm_at "co") (fun _ _ => ?_)) | ((with_reducible refine g_metO ?_); refine metO (by wtm_at "ho") (by wtm_at "ln") ?_) | ((with_reducible refine g_makO ?_); refine makO (by with_reducible assumption) (fun _ _ _ _ => ?_)) | ((with_reducible refine g_sum ?_); refine sum_call (by wtm_at "qo") ?_) | ((with_reducible refine g_cq ?_); exact cq (by with_reducible assumption) (by simp only [rngL_len, List.length_map, List.length_take]; omega)) | ((with_reducible refine g_newO ?_); refine newO (by with_reducible assumption) (fun _ _ _ => ?_)) | ((with_reducible refine g_appO ?_); refine appI (by with_reducible assumption) (by wtm_at "pp") (by wtm_at "co") (fun _ _ => ?_)) | ((with_reducible refine g_setO ?_); refine setI (by with_reducible assumption) (by wtm_at "pp") (by omega) (by wtm_at "co") (fun _ _ => ?_)) | ((with_reducible refine g_appO ?_); refine appO (by with_reducible assumption) (by wtm_at "pp") (by wtm_at "co") (fun _ _ => ?_)) | ((with_reducible refine g_setO ?_); refine setO (by with_reducible assumption) (by wtm_at "pp") (by omega) (by wtm_at "co") (fun _ _ => ?_)) | ((with_reducible refine g_at ?_); refine at_call (by wtm_at "qo") (by omega) (by omega) (fun _ _ => ?_)) | ((with_reducible refine g_int ?_); refine int_call ?_) | ((with_reducible refine g_isi ?_); first | (with_reducible refine isi_ii ?_) | (with_reducible refine isi_ib ?_) | (refine isi_int rfl ?_) | (refine isi_sqL rfl (by wtm_at "qo") ?_) | (refine isi_sqT rfl (by wtm_at "qo") ?_) | (refine isi_bl rfl ?_) | (refine isi_non rfl ?_) | (refine isi_str rfl ?_)) | ((with_reducible refine g_ned ?_); first | (refine ned_f (dq_lst (by wtm_at "qo")) (dq_lst (by wtm_at "qo")) ?_) | (refine ned_ints (by wtm_at "qo") (by wtm_at "qo") ?_) | (refine nedT_ints (by wtm_at "qo") (by wtm_at "qo") ?_)) | ((with_reducible refine g_eqd ?_); first | (refine eqd_t (dq_lst (by wtm_at "qo")) (dq_lst (by wtm_at "qo")) ?_) | (refine eqd_ints (by wtm_at "qo") (by wtm_at "qo") ?_) | (refine eqdT_ints (by wtm_at "qo") (by wtm_at "qo") ?_)) | ((with_reducible refine g_tyv ?_); refine and_tyv (by wtm_at "qo") ?_) | ((with_reducible refine g_asq ?_); refine and_sq (by wtm_at "qo") ?_) | ((with_reducible refine g_lst ?_); refine ex_lst (by wtm_at "ho") ?_) | ((with_reducible refine g_or ?_); first | (refine ex_or (by wtm_at "qo") ?_) | (refine ex_ort (by wtm_at "qo") ?_)) | ((with_reducible refine g_sq ?_); refine ex_sq (by wtm_at "qo") ?_) | ((with_reducible refine g_sqt ?_); refine ex_sqt (by wtm_at "qo") ?_) | ((with_reducible refine gd_sel ?_); first | (refine sel_p (by wtm_at "pf") ?_) | (refine sel_n (by wtm_at "pf") ?_)) | ((with_reducible refine gn_sel ?_); first | (refine selN_p (by wtm_at "pf") ?_) | (refine selN_n (by wtm_at "pf") ?_)) | ((with_reducible refine gd_selT ?_); first | (refine selT_p (by wtm_at "pf") ?_) | (refine selT_n (by wtm_at "pf") ?_)) | ((with_reducible refine gn_selT ?_); first | (refine selTN_p (by wtm_at "pf") ?_) | (refine selTN_n (by wtm_at "pf") ?_)) | ((with_reducible refine gd_selE ?_); first | (refine selE_p (by wtm_at "pf") ?_) | (refine selE_n (by wtm_at "pf") ?_)) | ((with_reducible refine gn_selE ?_); first | (refine selEN_p (by wtm_at "pf") ?_) | (refine selEN_n (by wtm_at "pf") ?_)) | ((with_reducible refine g_xf ?_); refine xf_at rfl (by wtm_at "ho") ?_) | ((with_reducible refine g_atI ?_); refine ex_at (by first | exact rfl | exact atI_int (by omega) (by wtm_at "pf") | exact atI_end (by wtm_at "pf")) ?_) | ((with_reducible refine g_and ?_); refine And.intro (by wtm_at "co") ?_))
local macro_rules | `(tactic| wtm_at "oo") => `(tactic| repeat (first | wtm_at "xo" | wtm_at "so"))
local macro_rules | `(tactic| wtm_at "cR") => `(tactic| (refine' compRi _ (by with_reducible assumption) (by omega) (fun _ _ _ _ _ => ?_) (fun _ _ _ => ?_); rotate_left; focus (wtm_at "oo")))

local macro_rules | `(tactic| wtm_at "lk") => `(tactic| first | (with_reducible exact lk_here) | (simp only [lk_here, lk_skip, lk_nil]; first | done | exact rfl))
local macro_rules | `(tactic| wtm_at "ln") => `(tactic| first | (with_reducible exact lk_nil) | (simp only [lk_skip, lk_nil]; done))
local macro_rules | `(tactic| wtm_at "pu") => `(tactic| first | (with_reducible exact pf_nil) | (simp only [pf_nil, pf_here, pf_skip]; first | done | exact rfl))
local macro_rules | `(tactic| wtm_at "tk") => `(tactic| first | (with_reducible exact Take.here) | (exact Take.here) | ((with_reducible apply Take.there); wtm_at "tk"))
local macro_rules | `(tactic| wtm_at "pk") => `(tactic| first | exact Pick.nil | ((with_reducible refine' Pick.cons ?tk1 ?pk1); (case tk1 => wtm_at "tk"); (case pk1 => wtm_at "pk")) | ((with_reducible refine Pick.im (by wtm_at "mem") ?_); wtm_at "pk") | ((with_reducible refine Pick.ims (by wtm_at "mem") ?_); wtm_at "pk"))
section
variable {P : Program} {w : World} {K : PySem.W.Frag} {mg : Str → Option Value} {base : Heap}
/-! the fewest rows -/
def vAt (ls : List Int) (i : Nat) : Int := ls.getD i 0
def rAt (ls : List Int) (i : Nat) : Nat := runL (vAt ls i) (ls.drop i)
/-- the value ahead is the same -/
def again (ls : List Int) (i : Nat) : Bool := decide (0 < i ∧ vAt ls (i - 1) = vAt ls i)
def mOf (v : Int) : Nat := if v = 0 then 138 else 6
def gAt (ls : List Int) (i : Nat) : Nat := if ¬ vAt ls i = 0 ∧ again ls i = false then 1 else porG (mOf (vAt ls i)) (rAt ls i)
def rowAt (ls : List Int) (i : Nat) : List Int := rowR (vAt ls i) (gAt ls i) (again ls i)
theorem rAt_pos {ls : List Int} {i : Nat} (h : i < ls.length) : 1 ≤ rAt ls i := by
  have := runL_at (v := ls.getD i 0) (xs := ls) (i := i) h
  rw [if_pos rfl] at this
  unfold rAt vAt
  omega
theorem rAt_le {ls : List Int} {i : Nat} : rAt ls i ≤ ls.length - i := by
  have := runL_le (vAt ls i) (ls.drop i)
  rw [List.length_drop] at this
  exact this
theorem mOf_5 {v : Int} : 5 ≤ mOf v := by
  unfold mOf
  split <;> decide
theorem gAt_in {ls : List Int} {i : Nat} (h : i < ls.length) : 1 ≤ gAt ls i ∧ gAt ls i ≤ rAt ls i := by
  have r := rAt_pos h
  unfold gAt
  split
  · omega
  · have := porG_le (M := mOf (vAt ls i)) (r := rAt ls i) mOf_5 (by omega)
    omega
/-- all equal within a run -/
theorem run_eq {v : Int} {ls : List Int} : ∀ (k i : Nat), k < runL v (ls.drop i) → vAt ls (i + k) = v ∧ i + k < ls.length ∧ runL v (ls.drop (i + k)) = runL v (ls.drop i) - k
  | 0, i, h => by
    have hi : i < ls.length := by
      by_cases c : i < ls.length
      · exact c
      · rw [runL_out (by omega)] at h
        omega
    have := runL_at (v := v) (xs := ls) (i := i) hi
    by_cases c : ls.getD i 0 = v
    · exact ⟨c, by omega, by rw [Nat.add_zero, Nat.sub_zero]⟩
    · rw [if_neg c] at this
      omega
  | k + 1, i, h => by
    have hi : i < ls.length := by
      by_cases c : i < ls.length
      · exact c
      · rw [runL_out (by omega)] at h
        omega
    have e := runL_at (v := v) (xs := ls) (i := i) hi
    by_cases c : ls.getD i 0 = v
    · rw [if_pos c] at e
      have := run_eq (v := v) (ls := ls) k (i + 1) (by omega)
      rw [show i + 1 + k = i + (k + 1) by omega] at this
      exact ⟨this.1, this.2.1, by omega⟩
    · rw [if_neg c] at e
      omega
/-- a place within a run -/
theorem in_run {ls : List Int} {i k : Nat} (h0 : 0 < k) (h : k < rAt ls i) : vAt ls (i + k) = vAt ls i ∧ i + k < ls.length ∧ rAt ls (i + k) = rAt ls i - k ∧ again ls (i + k) = true := by
  obtain ⟨a, b, c⟩ := run_eq k i h
  obtain ⟨a2, _, _⟩ := run_eq (k - 1) i (show k - 1 < runL (vAt ls i) (ls.drop i) by unfold rAt at h; omega)
  refine ⟨a, b, ?_, ?_⟩
  · unfold rAt
    rw [a]
    exact c
  · unfold again
    rw [decide_eq_true ⟨by omega, by rw [a, show i + k - 1 = i + (k - 1) by omega]; exact a2⟩]
/-- the path -/
def pthF (ls : List Int) : Nat → Nat → List (List Int)
  | 0, _ => []
  | n + 1, i => if i < ls.length then rowAt ls i :: pthF ls n (i + gAt ls i) else []
def pth (ls : List Int) (i : Nat) : List (List Int) := pthF ls (ls.length - i) i
theorem pthF_more {ls : List Int} : ∀ (n k i : Nat), ls.length ≤ i + n → ls.length ≤ i + k → pthF ls n i = pthF ls k i
  | 0, k, i, h, _ => by
    cases k with
    | zero => rfl
    | succ k =>
      unfold pthF
      rw [if_neg (by omega)]
  | n + 1, 0, i, _, h => by
    unfold pthF
    rw [if_neg (by omega)]
  | n + 1, k + 1, i, h1, h2 => by
    unfold pthF
    by_cases c : i < ls.length
    · have := gAt_in c
      rw [if_pos c, if_pos c, pthF_more n k _ (by omega) (by omega)]
    · rw [if_neg c, if_neg c]
theorem pth_go {ls : List Int} {i : Nat} (h : i < ls.length) : pth ls i = rowAt ls i :: pth ls (i + gAt ls i) := by
  have := gAt_in h
  unfold pth
  obtain ⟨n, e⟩ : ∃ n, ls.length - i = n + 1 := ⟨ls.length - i - 1, by omega⟩
  rw [e]
  conv => lhs; unfold pthF
  rw [if_pos h, pthF_more n (ls.length - (i + gAt ls i)) _ (by omega) (by omega)]
theorem pth_out {ls : List Int} {i : Nat} (h : ls.length ≤ i) : pth ls i = [] := by
  unfold pth
  rw [show ls.length - i = 0 by omega]
  rfl
def mn (ls : List Int) (i : Nat) : Nat := (pth ls i).length
theorem mn_go {ls : List Int} {i : Nat} (h : i < ls.length) : mn ls i = mn ls (i + gAt ls i) + 1 := by
  unfold mn
  rw [pth_go h, List.length_cons]
/-- the fewest rows of what is left of a run -/
def fM (M r : Nat) : Nat := if r ≤ 2 then r else (r + M - 1) / M
theorem fM_is (M r : Nat) : (r ≤ 2 ∧ fM M r = r) ∨ (3 ≤ r ∧ fM M r = (r + M - 1) / M) := by
  unfold fM
  by_cases c : r ≤ 2
  · rw [if_pos c]
    exact .inl ⟨c, rfl⟩
  · rw [if_neg c]
    exact .inr ⟨by omega, rfl⟩
theorem porG_is (M r : Nat) (hM : 5 ≤ M) : (r = 2 ∧ porG M r = 1) ∨ (r ≠ 2 ∧ r ≤ M ∧ porG M r = r) ∨ (r = M + 2 ∧ porG M r = M - 1) ∨ (M < r ∧ r ≠ M + 2 ∧ porG M r = M) := by
  unfold porG
  by_cases c : r = 2
  · rw [if_pos c]
    exact .inl ⟨c, rfl⟩
  · rw [if_neg c]
    by_cases d : r - min r M = 2
    · rw [if_pos d]
      omega
    · rw [if_neg d]
      omega
theorem fM_go {M r : Nat} (hM : M = 6 ∨ M = 138) (h : 1 ≤ r) : fM M (r - porG M r) + 1 = fM M r := by
  have h1 := fM_is M (r - porG M r)
  have h2 := fM_is M r
  have h3 := porG_is M r (by omega)
  generalize fM M (r - porG M r) = a at *
  generalize fM M r = b at *
  generalize porG M r = g at *
  rcases hM with rfl | rfl <;> rcases h3 with h3 | h3 | h3 | h3 <;> rcases h1 with h1 | h1 <;> rcases h2 with h2 | h2 <;> omega
theorem fM_best {M r s : Nat} (hM : M = 6 ∨ M = 138) (h : s ≤ r) (hs : s = 1 ∨ (3 ≤ s ∧ s ≤ M)) : fM M (r - porG M r) < fM M (r - s) ∨ (fM M (r - porG M r) = fM M (r - s) ∧ s ≤ porG M r) := by
  have h1 := fM_is M (r - porG M r)
  have h2 := fM_is M (r - s)
  have h3 := porG_is M r (by omega)
  generalize fM M (r - porG M r) = a at *
  generalize fM M (r - s) = b at *
  generalize porG M r = g at *
  rcases hM with rfl | rfl <;> rcases h3 with h3 | h3 | h3 | h3 <;> rcases h1 with h1 | h1 <;> rcases h2 with h2 | h2 <;> omega
theorem porG_2 {M r : Nat} (hM : M = 6 ∨ M = 138) : porG M r ≠ 2 := by
  have h3 := porG_is M r (by omega)
  omega
theorem mOf_is {v : Int} : mOf v = 6 ∨ mOf v = 138 := by
  unfold mOf
  split
  · exact .inr rfl
  · exact .inl rfl
/-- what is left of a run, where rows may be repeated or all are zeros -/
theorem mn_run {ls : List Int} : ∀ (n i : Nat), rAt ls i ≤ n → i < ls.length → (vAt ls i = 0 ∨ again ls i = true) → mn ls i = fM (mOf (vAt ls i)) (rAt ls i) + mn ls (i + rAt ls i)
  | 0, i, h, hi, _ => by
    have := rAt_pos hi
    omega
  | n + 1, i, h, hi, hc => by
    have g := gAt_in hi
    have hm := mOf_is (v := vAt ls i)
    have eg : gAt ls i = porG (mOf (vAt ls i)) (rAt ls i) := by
      unfold gAt
      rw [if_neg]
      rintro ⟨a, b⟩
      rcases hc with z | z
      · exact a z
      · rw [z] at b
        cases b
    have f := fM_go (r := rAt ls i) hm (rAt_pos hi)
    rw [mn_go hi]
    rw [← eg] at f
    by_cases c : gAt ls i = rAt ls i
    · rw [c, Nat.sub_self] at f
      rw [c, ← f]
      show _ = 0 + 1 + _
      omega
    · have k := in_run (ls := ls) (i := i) (k := gAt ls i) (by omega) (by omega)
      have ih := mn_run n (i + gAt ls i) (by rw [k.2.2.1]; omega) k.2.1 (.inr k.2.2.2)
      rw [ih, k.1, k.2.2.1, ← f, show i + gAt ls i + (rAt ls i - gAt ls i) = i + rAt ls i by omega]
      omega
theorem mn_in {ls : List Int} {i s : Nat} (hi : i < ls.length) (h0 : 0 < s) (h : s ≤ rAt ls i) : mn ls (i + s) = fM (mOf (vAt ls i)) (rAt ls i - s) + mn ls (i + rAt ls i) := by
  by_cases c : s = rAt ls i
  · rw [c, Nat.sub_self]
    show _ = 0 + _
    omega
  · have k := in_run (ls := ls) (i := i) (k := s) h0 (by omega)
    rw [mn_run _ (i + s) (Nat.le_refl _) k.2.1 (.inr k.2.2.2), k.1, k.2.2.1, show i + s + (rAt ls i - s) = i + rAt ls i by omega]
theorem run_end {ls : List Int} {i : Nat} (hi : i < ls.length) (h : i + rAt ls i < ls.length) : again ls (i + rAt ls i) = false := by
  have r := rAt_pos hi
  obtain ⟨a, b, c⟩ := run_eq (v := vAt ls i) (ls := ls) (rAt ls i - 1) i (by unfold rAt at r ⊢; omega)
  have e1 := runL_at (v := vAt ls i) (xs := ls) (i := i + (rAt ls i - 1)) b
  have a : ls.getD (i + (rAt ls i - 1)) 0 = vAt ls i := a
  rw [if_pos a, show i + (rAt ls i - 1) + 1 = i + rAt ls i by omega] at e1
  have e2 := runL_at (v := vAt ls i) (xs := ls) (i := i + rAt ls i) h
  unfold again
  refine decide_eq_false fun z => ?_
  have z2 : ls.getD (i + rAt ls i) 0 = vAt ls i := by
    have := z.2
    rw [show i + rAt ls i - 1 = i + (rAt ls i - 1) by omega] at this
    exact this.symm.trans a
  rw [if_pos z2] at e2
  unfold rAt at *
  omega
theorem gAt_again {ls : List Int} {i : Nat} (h : vAt ls i = 0 ∨ again ls i = true) : gAt ls i = porG (mOf (vAt ls i)) (rAt ls i) := by
  unfold gAt
  rw [if_neg]
  rintro ⟨a, b⟩
  rcases h with z | z
  · exact a z
  · rw [z] at b
    cases b
/-- behind the first row of a run -/
theorem pth_tail {ls : List Int} : ∀ (n i : Nat), rAt ls i ≤ n → i < ls.length → again ls i = true → pth ls i = (pors (mOf (vAt ls i)) (rAt ls i)).map (fun p => rowR (vAt ls i) p true) ++ pth ls (i + rAt ls i)
  | 0, i, h, hi, _ => by
    have := rAt_pos hi
    omega
  | n + 1, i, h, hi, hc => by
    have g := gAt_in hi
    have eg := gAt_again (.inr hc)
    rw [pth_go hi, pors_go mOf_5 (by omega), ← eg, List.map_cons]
    unfold rowAt
    rw [hc]
    show _ :: _ = _ :: (_ ++ _)
    congr 1
    by_cases c : gAt ls i = rAt ls i
    · rw [c, Nat.sub_self]
      rfl
    · have k := in_run (ls := ls) (i := i) (k := gAt ls i) (by omega) (by omega)
      rw [pth_tail n (i + gAt ls i) (by rw [k.2.2.1]; omega) k.2.1 k.2.2.2, k.1, k.2.2.1, show i + gAt ls i + (rAt ls i - gAt ls i) = i + rAt ls i by omega]
theorem pth_run {ls : List Int} {i : Nat} (hi : i < ls.length) (hc : again ls i = false) (v0 : 0 ≤ vAt ls i) : pth ls i = rowsRun (vAt ls i) (rAt ls i) ++ pth ls (i + rAt ls i) := by
  have r := rAt_pos hi
  have g := gAt_in hi
  unfold rowsRun
  by_cases c : 0 < vAt ls i
  · rw [if_pos c, pth_go hi]
    have eg : gAt ls i = 1 := if_pos ⟨by omega, hc⟩
    have er : rowAt ls i = [vAt ls i, 0] := by
      unfold rowAt
      rw [eg]
      exact if_pos rfl
    rw [er, eg]
    show _ :: _ = _ :: (_ ++ _)
    congr 1
    by_cases d : rAt ls i = 1
    · rw [d]
      rfl
    · have k := in_run (ls := ls) (i := i) (k := 1) (by omega) (by omega)
      have em : mOf (vAt ls i) = 6 := if_neg (by omega)
      rw [pth_tail _ (i + 1) (Nat.le_refl _) k.2.1 k.2.2.2, k.1, k.2.2.1, em, show i + 1 + (rAt ls i - 1) = i + rAt ls i by omega]
  · have v0 : vAt ls i = 0 := by omega
    have em : mOf (vAt ls i) = 138 := if_pos v0
    have eg := gAt_again (ls := ls) (i := i) (.inl v0)
    rw [if_neg c, pth_go hi, pors_go (by decide) (by omega), ← em, ← eg]
    unfold rowAt
    rw [hc, v0]
    show _ :: _ = _ :: (_ ++ _)
    congr 1
    by_cases d : gAt ls i = rAt ls i
    · rw [d, Nat.sub_self]
      rfl
    · have k := in_run (ls := ls) (i := i) (k := gAt ls i) (by omega) (by omega)
      rw [pth_tail _ (i + gAt ls i) (Nat.le_refl _) k.2.1 k.2.2.2, k.1, k.2.2.1, show i + gAt ls i + (rAt ls i - gAt ls i) = i + rAt ls i by omega, v0]
theorem rowsA_pth {ls : List Int} (hv : ∀ x ∈ ls, 0 ≤ x) : ∀ (n i : Nat), ls.length - i ≤ n → (i < ls.length → again ls i = false) → rowsA (ls.drop i) = pth ls i
  | 0, i, h, _ => by
    rw [List.drop_eq_nil_of_le (by omega), pth_out (by omega)]
    rfl
  | n + 1, i, h, hc => by
    by_cases c : i < ls.length
    · have r := rAt_pos c
      have v0 : 0 ≤ vAt ls i := hv _ (by
        unfold vAt
        rw [List.getD_eq_getElem?_getD, List.getElem?_eq_getElem c]
        exact List.getElem_mem c)
      rw [rowsA_go c, pth_run c (hc c) v0]
      show rowsRun (vAt ls i) (rAt ls i) ++ rowsA (ls.drop (i + rAt ls i)) = _
      rw [rowsA_pth hv n (i + rAt ls i) (by omega) (fun z => run_end c z)]
    · rw [List.drop_eq_nil_of_le (by omega), pth_out (by omega)]
      rfl
theorem rows_path {ls : List Int} (hv : ∀ x ∈ ls, 0 ≤ x) : rowsA ls = pth ls 0 := rowsA_pth hv _ 0 (Nat.le_refl _) fun _ => decide_eq_false fun z => absurd z.1 (by decide)
/-- the law's options -/
def seg (sym lo hi off : Int) : List (List Int) := (List.range (hi + 1 - lo).toNat).map fun k : Nat => [lo + (k : Int), sym, lo + (k : Int) - off]
def optL (ls : List Int) (i : Nat) : List (List Int) :=
  ([[1, vAt ls i, 0]] ++ if 0 < i then seg 16 3 (min 6 (runL (vAt ls (i - 1)) (ls.drop i) : Int)) 3 else []) ++
  if vAt ls i = 0 then seg 17 3 (min 10 (runL 0 (ls.drop i) : Int)) 3 ++ seg 18 11 (min 138 (runL 0 (ls.drop i) : Int)) 11 else []
def OptIs (ls : List Int) (i : Nat) (o : List Int) : Prop := ∃ s sym ext : Int, o = [s, sym, ext] ∧ 1 ≤ s ∧ s ≤ rAt ls i ∧
  ((s = 1 ∧ sym = vAt ls i ∧ ext = 0) ∨ (again ls i = true ∧ 3 ≤ s ∧ s ≤ 6 ∧ sym = 16 ∧ ext = s - 3) ∨ (vAt ls i = 0 ∧ 3 ≤ s ∧ s ≤ 10 ∧ sym = 17 ∧ ext = s - 3) ∨ (vAt ls i = 0 ∧ 11 ≤ s ∧ s ≤ 138 ∧ sym = 18 ∧ ext = s - 11))
theorem seg_mem {sym lo hi off : Int} {o : List Int} : o ∈ seg sym lo hi off ↔ ∃ s, lo ≤ s ∧ s ≤ hi ∧ o = [s, sym, s - off] := by
  unfold seg
  rw [List.mem_map]
  constructor
  · rintro ⟨k, hk, rfl⟩
    have := List.mem_range.mp hk
    exact ⟨lo + k, by omega, by omega, rfl⟩
  · rintro ⟨s, h1, h2, rfl⟩
    exact ⟨(s - lo).toNat, List.mem_range.mpr (by omega), by rw [show lo + (((s - lo).toNat : Nat) : Int) = s by omega]⟩
theorem run_other {ls : List Int} {i : Nat} {v : Int} (hi : i < ls.length) (h : 0 < runL v (ls.drop i)) : v = vAt ls i := by
  have := runL_at (v := v) (xs := ls) (i := i) hi
  by_cases c : ls.getD i 0 = v
  · exact c.symm
  · rw [if_neg c] at this
    omega
theorem opt_is {ls : List Int} {i : Nat} {o : List Int} (hi : i < ls.length) : o ∈ optL ls i ↔ OptIs ls i o := by
  have r := rAt_pos hi
  unfold optL
  rw [List.mem_append, List.mem_append, List.mem_singleton]
  constructor
  · rintro ((h | h) | h)
    · exact ⟨1, _, _, h, by omega, by omega, .inl ⟨rfl, rfl, rfl⟩⟩
    · by_cases c : 0 < i
      · rw [if_pos c, seg_mem] at h
        obtain ⟨s, h1, h2, rfl⟩ := h
        have e := run_other hi (v := vAt ls (i - 1)) (by omega)
        have e2 : runL (vAt ls (i - 1)) (ls.drop i) = rAt ls i := by
          rw [e]
          rfl
        exact ⟨s, _, _, rfl, by omega, by omega, .inr (.inl ⟨decide_eq_true ⟨c, e⟩, h1, by omega, rfl, rfl⟩)⟩
      · rw [if_neg c] at h
        cases h
    · by_cases c : vAt ls i = 0
      · have e2 : runL 0 (ls.drop i) = rAt ls i := by
          unfold rAt
          rw [c]
        rw [if_pos c, List.mem_append, seg_mem, seg_mem, e2] at h
        rcases h with ⟨s, h1, h2, rfl⟩ | ⟨s, h1, h2, rfl⟩
        · exact ⟨s, _, _, rfl, by omega, by omega, .inr (.inr (.inl ⟨c, h1, by omega, rfl, rfl⟩))⟩
        · exact ⟨s, _, _, rfl, by omega, by omega, .inr (.inr (.inr ⟨c, h1, by omega, rfl, rfl⟩))⟩
      · rw [if_neg c] at h
        cases h
  · rintro ⟨s, sym, ext, rfl, s1, s2, h⟩
    rcases h with ⟨rfl, rfl, rfl⟩ | ⟨a, h1, h2, rfl, rfl⟩ | ⟨c, h1, h2, rfl, rfl⟩ | ⟨c, h1, h2, rfl, rfl⟩
    · exact .inl (.inl rfl)
    · have a := of_decide_eq_true a
      refine .inl (.inr ?_)
      have e2 : runL (vAt ls (i - 1)) (ls.drop i) = rAt ls i := by
        rw [a.2]
        rfl
      rw [if_pos a.1, seg_mem]
      exact ⟨s, h1, by omega, rfl⟩
    · refine .inr ?_
      have e2 : runL 0 (ls.drop i) = rAt ls i := by
        unfold rAt
        rw [c]
      rw [if_pos c, List.mem_append, seg_mem, e2]
      exact .inl ⟨s, h1, by omega, rfl⟩
    · refine .inr ?_
      have e2 : runL 0 (ls.drop i) = rAt ls i := by
        unfold rAt
        rw [c]
      rw [if_pos c, List.mem_append, seg_mem, seg_mem, e2]
      exact .inr ⟨s, h1, by omega, rfl⟩
/-- a row's rank, as the law tells it -/
def rk (ls : List Int) (i : Nat) (o : List Int) : List Int := [(mn ls (i + (o.getD 0 0).toNat) : Int), -(o.getD 0 0), o.getD 1 0, o.getD 2 0]
def chO (ls : List Int) (i : Nat) : List Int := [(gAt ls i : Int), (rowAt ls i).getD 0 0, (rowAt ls i).getD 1 0]
theorem gAt_2 {ls : List Int} {i : Nat} : gAt ls i ≠ 2 := by
  unfold gAt
  split
  · decide
  · exact porG_2 mOf_is
theorem gAt_m {ls : List Int} {i : Nat} (hi : i < ls.length) : gAt ls i ≤ mOf (vAt ls i) := by
  have r := rAt_pos hi
  have m := mOf_5 (v := vAt ls i)
  unfold gAt
  split
  · omega
  · exact (porG_le (M := mOf (vAt ls i)) (r := rAt ls i) mOf_5 (by omega)).2.2
theorem cho_in {ls : List Int} {i : Nat} (hi : i < ls.length) : OptIs ls i (chO ls i) := by
  have g := gAt_in hi
  have g2 := gAt_2 (ls := ls) (i := i)
  have gm := gAt_m hi
  refine ⟨_, _, _, rfl, by omega, by omega, ?_⟩
  unfold rowAt rowR
  by_cases c1 : (gAt ls i : Int) = 1
  · rw [if_pos c1]
    exact .inl ⟨c1, rfl, rfl⟩
  · rw [if_neg c1]
    have nf : vAt ls i = 0 ∨ again ls i = true := by
      by_cases z : vAt ls i = 0
      · exact .inl z
      · cases e : again ls i with
        | true => exact .inr rfl
        | false =>
          have : gAt ls i = 1 := if_pos ⟨z, e⟩
          omega
    by_cases c2 : again ls i = true ∧ (gAt ls i : Int) ≤ 6
    · rw [if_pos c2]
      exact .inr (.inl ⟨c2.1, by omega, c2.2, rfl, rfl⟩)
    · rw [if_neg c2]
      have v0 : vAt ls i = 0 := by
        by_cases z : vAt ls i = 0
        · exact z
        · have a := nf.resolve_left z
          have : mOf (vAt ls i) = 6 := if_neg z
          exact absurd ⟨a, by omega⟩ c2
      have : mOf (vAt ls i) = 138 := if_pos v0
      by_cases c3 : (gAt ls i : Int) ≤ 10
      · rw [if_pos c3]
        exact .inr (.inr (.inl ⟨v0, by omega, c3, rfl, rfl⟩))
      · rw [if_neg c3]
        exact .inr (.inr (.inr ⟨v0, by omega, by omega, rfl, rfl⟩))
theorem lex4 {a b c d a' b' c' d' : Int} (h : a' < a ∨ (a = a' ∧ (b' < b ∨ (b = b' ∧ (c' < c ∨ (c = c' ∧ d' ≤ d)))))) : HT.lexLt [a, b, c, d] [a', b', c', d'] = false := by
  rw [HT.lexLt_cons]
  by_cases e1 : a = a'
  · rw [if_pos e1, HT.lexLt_cons]
    by_cases e2 : b = b'
    · rw [if_pos e2, HT.lexLt_cons]
      by_cases e3 : c = c'
      · rw [if_pos e3, HT.lexLt_cons]
        by_cases e4 : d = d'
        · rw [if_pos e4]
          rfl
        · rw [if_neg e4]
          exact decide_eq_false (by omega)
      · rw [if_neg e3]
        exact decide_eq_false (by omega)
    · rw [if_neg e2]
      exact decide_eq_false (by omega)
  · rw [if_neg e1]
    exact decide_eq_false (by omega)
theorem cho_best {ls : List Int} {i : Nat} {o : List Int} (hi : i < ls.length) (v16 : vAt ls i < 16) (ho : OptIs ls i o) : HT.lexLt (rk ls i o) (rk ls i (chO ls i)) = false := by
  obtain ⟨s, sym, ext, rfl, s1, s2, h⟩ := ho
  have g := gAt_in hi
  have hm := mOf_is (v := vAt ls i)
  have rl := rAt_le (ls := ls) (i := i)
  show HT.lexLt [(mn ls (i + s.toNat) : Int), -s, sym, ext] [(mn ls (i + (gAt ls i : Int).toNat) : Int), -(gAt ls i : Int), (rowAt ls i).getD 0 0, (rowAt ls i).getD 1 0] = false
  rw [Int.toNat_natCast]
  refine lex4 ?_
  have row : (s : Int) = gAt ls i → (rowAt ls i).getD 0 0 < sym ∨ (sym = (rowAt ls i).getD 0 0 ∧ (rowAt ls i).getD 1 0 ≤ ext) := by
    intro e
    unfold rowAt rowR
    by_cases c1 : (gAt ls i : Int) = 1
    · rw [if_pos c1]
      show vAt ls i < sym ∨ (sym = vAt ls i ∧ 0 ≤ ext)
      omega
    · rw [if_neg c1]
      by_cases c2 : again ls i = true ∧ (gAt ls i : Int) ≤ 6
      · rw [if_pos c2]
        show 16 < sym ∨ (sym = 16 ∧ (gAt ls i : Int) - 3 ≤ ext)
        omega
      · rw [if_neg c2]
        have h : (s = 1 ∧ sym = vAt ls i ∧ ext = 0) ∨ (vAt ls i = 0 ∧ 3 ≤ s ∧ s ≤ 10 ∧ sym = 17 ∧ ext = s - 3) ∨ (vAt ls i = 0 ∧ 11 ≤ s ∧ s ≤ 138 ∧ sym = 18 ∧ ext = s - 11) := by
          rcases h with z | z | z
          · exact .inl z
          · exact absurd ⟨z.1, by omega⟩ c2
          · exact .inr z
        by_cases c3 : (gAt ls i : Int) ≤ 10
        · rw [if_pos c3]
          show 17 < sym ∨ (sym = 17 ∧ (gAt ls i : Int) - 3 ≤ ext)
          omega
        · rw [if_neg c3]
          show 18 < sym ∨ (sym = 18 ∧ (gAt ls i : Int) - 11 ≤ ext)
          omega
  by_cases nf : vAt ls i = 0 ∨ again ls i = true
  · have eg := gAt_again nf
    have m1 := mn_in hi (s := s.toNat) (by omega) (by omega)
    have m2 := mn_in hi (s := gAt ls i) (by omega) (by omega)
    have em : vAt ls i = 0 ∧ mOf (vAt ls i) = 138 ∨ ¬ vAt ls i = 0 ∧ mOf (vAt ls i) = 6 := by
      by_cases z : vAt ls i = 0
      · exact .inl ⟨z, if_pos z⟩
      · exact .inr ⟨z, if_neg z⟩
    have fb := fM_best (M := mOf (vAt ls i)) (r := rAt ls i) (s := s.toNat) hm (by omega) (by omega)
    rw [← eg] at fb
    rw [m1, m2]
    generalize fM (mOf (vAt ls i)) (rAt ls i - gAt ls i) = fg at *
    generalize fM (mOf (vAt ls i)) (rAt ls i - s.toNat) = fs at *
    rcases fb with fb | ⟨fb, fs2⟩
    · left
      omega
    · right
      refine ⟨by omega, ?_⟩
      by_cases c : (s : Int) = gAt ls i
      · right
        exact ⟨by omega, row c⟩
      · left
        omega
  · have v0 : ¬ vAt ls i = 0 := fun z => nf (.inl z)
    have an : ¬ again ls i = true := fun z => nf (.inr z)
    have eg : gAt ls i = 1 := if_pos ⟨v0, by simpa using an⟩
    have es : s = 1 := by
      rcases h with z | z | z | z
      · exact z.1
      · exact absurd z.1 an
      · exact absurd z.1 v0
      · exact absurd z.1 v0
    right
    rw [es, eg]
    exact ⟨rfl, .inr ⟨rfl, row (by rw [es, eg]; rfl)⟩⟩
theorem lex_trans : ∀ {a b c : List Int}, HT.lexLt a b = true → HT.lexLt b c = true → HT.lexLt a c = true
  | [], [], _, h, _ => by cases h
  | [], _ :: _, [], _, h => by cases h
  | [], _ :: _, _ :: _, _, _ => rfl
  | _ :: _, [], _, h, _ => by cases h
  | _ :: _, _ :: _, [], _, h => by cases h
  | x :: r, y :: s, z :: t, h1, h2 => by
    rw [HT.lexLt_cons] at *
    by_cases e1 : x = y
    · rw [if_pos e1] at h1
      by_cases e2 : y = z
      · rw [if_pos e2] at h2
        rw [if_pos (e1.trans e2)]
        exact lex_trans h1 h2
      · rw [if_neg e2] at h2
        have := of_decide_eq_true h2
        rw [if_neg (by omega)]
        exact decide_eq_true (by omega)
    · rw [if_neg e1] at h1
      have h1 := of_decide_eq_true h1
      by_cases e2 : y = z
      · rw [if_neg (by omega)]
        exact decide_eq_true (by omega)
      · rw [if_neg e2] at h2
        have := of_decide_eq_true h2
        rw [if_neg (by omega)]
        exact decide_eq_true (by omega)
theorem lex_anti : ∀ {a b : List Int}, HT.lexLt a b = false → HT.lexLt b a = false → a = b
  | [], [], _, _ => rfl
  | [], _ :: _, h, _ => by cases h
  | _ :: _, [], _, h => by cases h
  | x :: r, y :: s, h1, h2 => by
    rw [HT.lexLt_cons] at *
    by_cases e : x = y
    · rw [if_pos e] at h1
      rw [if_pos e.symm] at h2
      rw [e, lex_anti h1 h2]
    · rw [if_neg e] at h1
      rw [if_neg (fun z => e z.symm)] at h2
      have h1 := of_decide_eq_false h1
      have h2 := of_decide_eq_false h2
      omega
theorem lex_irr : ∀ (a : List Int), HT.lexLt a a = false
  | [] => rfl
  | x :: r => by
    rw [HT.lexLt_cons, if_pos rfl]
    exact lex_irr r


end
end K41

namespace K41
open PySem PySem.Spec PyProof.Rows L2 Bel
local macro_rules | `(tactic| wtm_at "xs") => `(tactic| simp only [x_next, x_seq, x_brk, x_cont, x_drop, x_ret, x_retN, x_if, sel_t, sel_f, selE_t, selE_f, selT_t, selT_f, selC_t, selC_f, x_test, x_tB, x_op, x_un, x_var, x_c, x_cb, x_nil, x_cons, x_rI, x_rI0, x_rU, x_rEq, x_rNe, x_rIxL, x_rIxT, x_rSlL, x_rCat, x_rRep, x_rApp, x_bm, x_bm0, x_sl, x_nopart, x_part, x_tup, x_lst, x_call, x_callS, x_asg, x_gname, x_gtup, x_gnil, x_gcons, x_gsub, x_setL, x_aug, x_ipI, x_ipC, x_bits, x_getL, x_augS, x_and, x_or, x_not, x_k, x_andV, x_orV, x_notV, x_ife, x_chain, x_for, x_ilist, x_itup, x_ienum, x_irng1, x_irng2, x_irev, x_lc, x_yes, wipe_nil, wipe_cons, List.map_cons, List.map_nil, x_misc, x_misc2, x_rz, lookup_at, Bool.not_true, Bool.not_false, decide_true, decide_false, not_true, not_false_eq_true, and_assoc, exists_and_left, exists_eq_left', exists_eq_left, exists_eq', exists_eq_right', exists_eq_right, V.int.injEq, V.ref.injEq, V.bl.injEq, V.str.injEq, List.cons.injEq, and_true, true_and, and_self, Option.some.injEq, List.cons_append, List.nil_append, List.append_nil, List.getElem?_cons_zero, List.getElem?_cons_succ, List.set_cons_zero, List.set_cons_succ, reduceCtorEq, false_and, and_false, exists_false, exists_const, or_false, false_or, scal_ii, scal_bb, scal_ss, List.length_cons, List.length_nil, Int.reduceToNat, Int.reducePow])
local macro_rules | `(tactic| k_call_by "xs" $h:term) => `(tactic| simp only [$h:term, x_next, x_seq, x_brk, x_cont, x_drop, x_ret, x_retN, x_if, sel_t, sel_f, selE_t, selE_f, selT_t, selT_f, selC_t, selC_f, x_test, x_tB, x_op, x_un, x_var, x_c, x_cb, x_nil, x_cons, x_rI, x_rI0, x_rU, x_rEq, x_rNe, x_rIxL, x_rIxT, x_rSlL, x_rCat, x_rRep, x_rApp, x_bm, x_bm0, x_sl, x_nopart, x_part, x_tup, x_lst, x_call, x_callS, x_asg, x_gname, x_gtup, x_gnil, x_gcons, x_gsub, x_setL, x_aug, x_ipI, x_ipC, x_bits, x_getL, x_augS, x_and, x_or, x_not, x_k, x_andV, x_orV, x_notV, x_ife, x_chain, x_for, x_ilist, x_itup, x_ienum, x_irng1, x_irng2, x_irev, x_lc, x_yes, wipe_nil, wipe_cons, List.map_cons, List.map_nil, x_misc, x_misc2, x_rz, lookup_at, Bool.not_true, Bool.not_false, decide_true, decide_false, not_true, not_false_eq_true, and_assoc, exists_and_left, exists_eq_left', exists_eq_left, exists_eq', exists_eq_right', exists_eq_right, V.int.injEq, V.ref.injEq, V.bl.injEq, V.str.injEq, List.cons.injEq, and_true, true_and, and_self, Option.some.injEq, List.cons_append, List.nil_append, List.append_nil, List.getElem?_cons_zero, List.getElem?_cons_succ, List.set_cons_zero, List.set_cons_succ, reduceCtorEq, false_and, and_false, exists_false, exists_const, or_false, false_or, scal_ii, scal_bb, scal_ss, List.length_cons, List.length_nil, Int.reduceToNat, Int.reducePow])
local macro_rules | `(tactic| wtm_at "hp") => `(tactic| first | (with_reducible assumption) | exact upd_same | (refine upd_keep (by with_reducible assumption) ?_; wtm_at "hp") | (refine Same.get (by with_reducible assumption) ?_; wtm_at "hp") | (refine upd_other (by first | (with_reducible assumption) | exact Ne.symm (by with_reducible assumption)) ?_; wtm_at "hp"))
local macro_rules | `(tactic| wtm_at "sq") => `(tactic| first | (with_reducible assumption) | exact SqL.of (by wtm_at "hp") | exact SqT.of (by wtm_at "hp") | (refine Same.seq (same_upd (by with_reducible assumption)) ?_; wtm_at "sq") | (refine Same.seq (by with_reducible assumption) ?_; wtm_at "sq") | (refine Same.seqT (same_upd (by with_reducible assumption)) ?_; wtm_at "sq") | (refine Same.seqT (by with_reducible assumption) ?_; wtm_at "sq"))
local macro_rules | `(tactic| wtm_at "cl") => `(tactic| first | (with_reducible assumption) | omega | (exact cmul_r (by omega) (by omega)) | (exact cmul_l (by omega) (by omega)) | (exact cdiv_ok (by omega) (by omega)) | (exact cpow_ok (by decide)) | (exact ⟨by omega, by omega, by omega⟩) | decide | (exact ⟨by omega, by omega⟩) | (simp only [List.length_append, List.length_map, List.length_set, List.length_cons, List.length_nil, rngL_len, sizeLine_eq]; omega) | wtm_at "hp" | wtm_at "sq")
local macro_rules | `(tactic| wtm_at "pf") => `(tactic| first | (with_reducible assumption) | omega | (simp only [List.length_append, List.length_map, List.length_set, List.length_cons, List.length_nil, rngL_len]; omega) | (with_reducible rfl) | (with_reducible trivial) | (with_reducible decide))
local macro_rules | `(tactic| wtm_at "st") => `(tactic| first | ((with_reducible refine g_at ?_); refine at_call (by wtm_at "sq") (by omega) (by omega) (fun _ _ => ?_)) | ((with_reducible refine g_int ?_); refine int_call ?_) | ((with_reducible refine g_isi ?_); first | (with_reducible refine isi_ii ?_) | (with_reducible refine isi_ib ?_) | (refine isi_int rfl ?_) | (refine isi_lst rfl (by wtm_at "hp") ?_) | (refine isi_tup rfl (by wtm_at "hp") ?_)) | ((with_reducible refine g_ned ?_); refine ned_f (dq_lst (by wtm_at "sq")) (dq_lst (by wtm_at "sq")) ?_) | ((with_reducible refine g_eqd ?_); refine eqd_t (dq_lst (by wtm_at "sq")) (dq_lst (by wtm_at "sq")) ?_) | ((with_reducible refine g_tyv ?_); refine and_tyv (by wtm_at "sq") ?_) | ((with_reducible refine g_asq ?_); refine and_sq (by wtm_at "sq") ?_) | ((with_reducible refine g_lst ?_); refine ex_lst (by wtm_at "hp") ?_) | ((with_reducible refine g_or ?_); first | (refine ex_or (by wtm_at "sq") ?_) | (refine ex_ort (by wtm_at "sq") ?_)) | ((with_reducible refine g_sq ?_); refine ex_sq (by wtm_at "sq") ?_) | ((with_reducible refine g_sqt ?_); refine ex_sqt (by wtm_at "sq") ?_) | ((with_reducible refine gd_sel ?_); first | (refine sel_p (by wtm_at "pf") ?_) | (refine sel_n (by wtm_at "pf") ?_)) | ((with_reducible refine gn_sel ?_); first | (refine selN_p (by wtm_at "pf") ?_) | (refine selN_n (by wtm_at "pf") ?_)) | ((with_reducible refine gd_selT ?_); first | (refine selT_p (by wtm_at "pf") ?_) | (refine selT_n (by wtm_at "pf") ?_)) | ((with_reducible refine gn_selT ?_); first | (refine selTN_p (by wtm_at "pf") ?_) | (refine selTN_n (by wtm_at "pf") ?_)) | ((with_reducible refine gd_selE ?_); first | (refine selE_p (by wtm_at "pf") ?_) | (refine selE_n (by wtm_at "pf") ?_)) | ((with_reducible refine gn_selE ?_); first | (refine selEN_p (by wtm_at "pf") ?_) | (refine selEN_n (by wtm_at "pf") ?_)) | ((with_reducible refine g_xf ?_); refine xf_at rfl (by wtm_at "hp") ?_) | ((with_reducible refine g_atI ?_); refine ex_at (by first | exact rfl | exact atI_int (by omega) (by wtm_at "pf") | exact atI_end (by wtm_at "pf")) ?_) | ((with_reducible refine g_and ?_); refine And.intro (by wtm_at "cl") ?_) | ((with_reducible refine g_new ?_); intro _ _))
local macro_rules | `(tactic| wtm_at "go") => `(tactic| repeat (first | wtm_at "xs" | wtm_at "st"))
local macro_rules | `(tactic| wtm_at "xo") => `(tactic| simp only [x_next, x_seq, x_brk, x_cont, x_drop, x_ret, x_retN, x_if, sel_t, sel_f, selE_t, selE_f, selT_t, selT_f, selC_t, selC_f, x_test, x_tB, x_op, x_un, x_var, x_c, x_cb, x_nil, x_cons, x_rI, x_rI0, x_rU, x_rEq, x_rNe, x_rIxL, x_rIxT, n_rSlL, n_rCat, n_rRep, n_rApp, x_bm, x_bm0, x_sl, x_nopart, x_part, n_tup, n_lst, x_call, x_callS, x_asg, x_gname, x_gtup, x_gnil, x_gcons, x_gsub, n_setL, x_aug, x_ipI, x_ipC, x_bits, x_getL, x_augS, x_and, x_or, x_not, x_k, x_andV, x_orV, x_notV, x_ife, x_chain, x_for, x_ilist, x_itup, x_ienum, x_irng1, x_irng2, x_irev, x_lc, x_yes, wipe_nil, wipe_cons, List.map_cons, List.map_nil, x_misc, x_misc2, x_rz, lookup_at, Bool.not_true, Bool.not_false, decide_true, decide_false, not_true, not_false_eq_true, and_assoc, exists_and_left, exists_eq_left', exists_eq_left, exists_eq', exists_eq_right', exists_eq_right, V.int.injEq, V.ref.injEq, V.bl.injEq, V.str.injEq, List.cons.injEq, and_true, true_and, and_self, Option.some.injEq, List.cons_append, List.nil_append, List.append_nil, List.getElem?_cons_zero, List.getElem?_cons_succ, List.set_cons_zero, List.set_cons_succ, reduceCtorEq, false_and, and_false, exists_false, exists_const, or_false, false_or, scal_ii, scal_bb, scal_ss, List.length_cons, List.length_nil, Int.reduceToNat, Int.reducePow, n_fld, n_sfld, n_aug, n_meth, n_mw, n_make, n_kw, n_rLs, n_dcp, n_gget, n_rLtT, n_ext, n_revL, n_rTp, t_im, ints_rev, t_s1, t_i1, t_i2, t_i3, t_i4, t_i5, x_chain3, x_irng3, x_irevR, x_rg1, x_rg2, ints_cat, ints_app1, ints_len, ints_take, ints_drop, rep_one])
local macro_rules | `(tactic| k_call_by "xo" $h:term) => `(tactic| simp only [$h:term, x_next, x_seq, x_brk, x_cont, x_drop, x_ret, x_retN, x_if, sel_t, sel_f, selE_t, selE_f, selT_t, selT_f, selC_t, selC_f, x_test, x_tB, x_op, x_un, x_var, x_c, x_cb, x_nil, x_cons, x_rI, x_rI0, x_rU, x_rEq, x_rNe, x_rIxL, x_rIxT, n_rSlL, n_rCat, n_rRep, n_rApp, x_bm, x_bm0, x_sl, x_nopart, x_part, n_tup, n_lst, x_call, x_callS, x_asg, x_gname, x_gtup, x_gnil, x_gcons, x_gsub, n_setL, x_aug, x_ipI, x_ipC, x_bits, x_getL, x_augS, x_and, x_or, x_not, x_k, x_andV, x_orV, x_notV, x_ife, x_chain, x_for, x_ilist, x_itup, x_ienum, x_irng1, x_irng2, x_irev, x_lc, x_yes, wipe_nil, wipe_cons, List.map_cons, List.map_nil, x_misc, x_misc2, x_rz, lookup_at, Bool.not_true, Bool.not_false, decide_true, decide_false, not_true, not_false_eq_true, and_assoc, exists_and_left, exists_eq_left', exists_eq_left, exists_eq', exists_eq_right', exists_eq_right, V.int.injEq, V.ref.injEq, V.bl.injEq, V.str.injEq, List.cons.injEq, and_true, true_and, and_self, Option.some.injEq, List.cons_append, List.nil_append, List.append_nil, List.getElem?_cons_zero, List.getElem?_cons_succ, List.set_cons_zero, List.set_cons_succ, reduceCtorEq, false_and, and_false, exists_false, exists_const, or_false, false_or, scal_ii, scal_bb, scal_ss, List.length_cons, List.length_nil, Int.reduceToNat, Int.reducePow, n_fld, n_sfld, n_aug, n_meth, n_mw, n_make, n_kw, n_rLs, n_dcp, n_gget, n_rLtT, n_ext, n_revL, n_rTp, t_im, ints_rev, t_s1, t_i1, t_i2, t_i3, t_i4, t_i5, x_chain3, x_irng3, x_irevR, x_rg1, x_rg2, ints_cat, ints_app1, ints_len, ints_take, ints_drop, rep_one])
local macro_rules | `(tactic| wtm_at "mem") => `(tactic| first | (with_reducible exact mem_here) | (with_reducible refine mem_there ?_; wtm_at "mem"))
local macro_rules | `(tactic| wtm_at "pp") => `(tactic| first | (with_reducible exact Put.here) | (with_reducible apply Put.there; wtm_at "pp"))
local macro_rules | `(tactic| wtm_at "ho") => `(tactic| first | (with_reducible assumption) | exact Own.get (by with_reducible assumption) (by wtm_at "mem") | exact Own.base (by with_reducible assumption) (by with_reducible assumption))
local macro_rules | `(tactic| wtm_at "qo") => `(tactic| first | (with_reducible assumption) | exact SqL.of (by wtm_at "ho") | exact sqT_tupI (by wtm_at "ho") | exact sqT_tupS (by wtm_at "ho") | exact SqT.of (by wtm_at "ho") | exact Own.imT (by with_reducible assumption) (by wtm_at "mem") | exact Own.sq (by with_reducible assumption) (by with_reducible assumption) | exact Own.sqT (by with_reducible assumption) (by with_reducible assumption))
local macro_rules | `(tactic| wtm_at "sub") => `(tactic| first | exact List.nil_sublist _ | (with_reducible refine List.Sublist.cons_cons _ ?_; wtm_at "sub") | (refine List.Sublist.cons _ ?_; wtm_at "sub"))
local macro_rules | `(tactic| wtm_at "co") => `(tactic| first | (with_reducible assumption) | omega | (exact cmul_r (by omega) (by omega)) | (exact cmul_l (by omega) (by omega)) | (exact cdiv_ok (by omega) (by omega)) | (exact cpow_ok (by decide)) | (exact ⟨by omega, by omega, by omega⟩) | decide | (exact ⟨by omega, by omega⟩) | (simp only [List.length_append, List.length_map, List.length_set, List.length_cons, List.length_nil, rngL_len, sizeLine_eq]; omega) | wtm_at "ho" | wtm_at "qo")
local macro_rules | `(tactic| wtm_at "so") => `(tactic| first | ((with_reducible refine g_dcp ?_); refine dcpI (by wtm_at "ho") ?_) | ((with_reducible refine g_asl ?_); refine And.intro (by rfl) ?_) | ((with_reducible refine g_asqT ?_); refine and_sqT (by wtm_at "qo") ?_) | ((with_reducible refine g_extO ?_); first | (refine extI (by with_reducible assumption) (by wtm_at "pp") (by wtm_at "co") (fun _ _ => ?_)) | (refine extO (by with_reducible assumption) (by wtm_at "pp") (by wtm_at "co") (fun _ _ => ?_))) | ((with_reducible refine g_tp ?_); first | (refine tp_l (by wtm_at "qo") ?_) | (refine tp_t (by wtm_at "qo") ?_)) | ((with_reducible refine g_fldO ?_); refine fldO (by wtm_at "ho") (by with_reducible assumption) (by wtm_at "mem") (by wtm_at "lk") ?_) | ((with_reducible refine g_fldC ?_); refine fldC (by wtm_at "ho") (by with_reducible assumption) (by wtm_at "mem") (by wtm_at "lk") ?_) | ((with_reducible refine g_putC ?_); refine putC (by with_reducible assumption) (by wtm_at "pp") (by wtm_at "pu") (by wtm_at "co") (fun _ _ => ?_)) | ((with_reducible refine g_stoO ?_); refine stoO (by with_reducible assumption) (by wtm_at "pp") (by wtm_at "pu") (by with_reducible assumption) (by wtm_at "mem") (by wtm_at "co") (fun _ _ => ?_)) | ((with_reducible refine g_metO ?_); refine metO (by wtm_at "ho") (by wtm_at "ln") ?_) | ((with_reducible refine g_makO ?_); refine makO (by with_reducible assumption) (fun _ _ _ _ => ?_)) | ((with_reducible refine g_sum ?_); refine sum_call (by wtm_at "qo") ?_) | ((with_reducible refine g_cq ?_); exact cq (by with_reducible assumption) (by simp only [rngL_len, List.length_map, List.length_take]; omega)) | ((with_reducible refine g_newO ?_); refine newO (by with_reducible assumption) (fun _ _ _ => ?_)) | ((with_reducible refine g_appO ?_); refine appI (by with_reducible assumption) (by wtm_at "pp") (by wtm_at "co") (fun _ _ => ?_)) | ((with_reducible refine g_setO ?_); refine setI (by with_reducible assumption) (by wtm_at "pp") (by omega) (by wtm_at "co") (fun _ _ => ?_)) | ((with_reducible refine g_appO ?_); refine appO (by with_reducible assumption) (by wtm_at "pp") (by wtm_at "co") (fun _ _ => ?_)) | ((with_reducible refine g_setO ?_); refine setO (by with_reducible assumption) (by wtm_at "pp") (by omega) (by wtm_at "co") (fun _ _ => ?_)) | ((with_reducible refine g_at ?_); refine at_call (by wtm_at "qo") (by omega) (by omega) (fun _ _ => ?_)) | ((with_reducible refine g_int ?_); refine int_call ?_) | ((with_reducible refine g_isi ?_); first | (with_reducible refine isi_ii ?_) | (with_reducible refine isi_ib ?_) | (refine isi_int rfl ?_) | (refine isi_sqL rfl (by wtm_at "qo") ?_) | (refine isi_sqT rfl (by wtm_at "qo") ?_) | (refine isi_bl rfl ?_) | (refine isi_non rfl ?_) | (refine isi_str rfl ?_)) | ((with_reducible refine g_ned ?_); first | (refine ned_f (dq_lst (by wtm_at "qo")) (dq_lst (by wtm_at "qo")) ?_) | (refine ned_ints (by wtm_at "qo") (by wtm_at "qo") ?_) | (refine nedT_ints (by wtm_at "qo") (by wtm_at "qo") ?_)) | ((with_reducible refine g_eqd ?_); first | (refine eqd_t (dq_lst (by wtm_at "qo")) (dq_lst (by wtm_at "qo")) ?_) | (refine eqd_ints (by wtm_at "qo") (by wtm_at "qo") ?_) | (refine eqdT_ints (by wtm_at "qo") (by wtm_at "qo") ?_)) | ((with_reducible refine g_tyv ?_); refine and_tyv (by wtm_at "qo") ?_) | ((with_reducible refine g_asq ?_); refine and_sq (by wtm_at "qo") ?_) | ((with_reducible refine g_lst ?_); refine ex_lst (by wtm_at "ho") ?_) | ((with_reducible refine g_or ?_); first | (refine ex_or (by wtm_at "qo") ?_) | (refine ex_ort (by wtm_at "qo") ?_)) | ((with_reducible refine g_sq ?_); refine ex_sq (by wtm_at "qo") ?_) | ((with_reducible refine g_sqt ?_); refine ex_sqt (by wtm_at "qo") ?_) | ((with_reducible refine gd_sel ?_); first | (refine sel_p (by wtm_at "pf") ?_) | (refine sel_n (by wtm_at "pf") ?_)) | ((with_reducible refine gn_sel ?_); first | (refine selN_p (by wtm_at "pf") ?_) | (refine selN_n (by wtm_at "pf") ?_)) | ((with_reducible refine gd_selT ?_); first | (refine selT_p (by wtm_at "pf") ?_) | (refine selT_n (by wtm_at "pf") ?_)) | ((with_reducible refine gn_selT ?_); first | (refine selTN_p (by wtm_at "pf") ?_) | (refine selTN_n (by wtm_at "pf") ?_)) | ((with_reducible refine gd_selE ?_); first | (refine selE_p (by wtm_at "pf") ?_) | (refine selE_n (by wtm_at "pf") ?_)) | ((with_reducible refine gn_selE ?_); first | (refine selEN_p (by wtm_at "pf") ?_) | (refine selEN_n (by wtm_at "pf") ?_)) | ((with_reducible refine g_xf ?_); refine xf_at rfl (by wtm_at "ho") ?_) | ((with_reducible refine g_atI ?_); refine ex_at (by first | exact rfl | exact atI_int (by omega) (by wtm_at "pf") | exact atI_end (by wtm_at "pf")) ?_) | ((with_reducible refine g_and ?_); refine And.intro (by wtm_at "co") ?_))
local macro_rules | `(tactic| wtm_at "oo") => `(tactic| repeat (first | wtm_at "xo" | wtm_at "so"))
local macro_rules | `(tactic| wtm_at "cR") => `(tactic| (refine' compRi _ (by with_reducible assumption) (by omega) (fun _ _ _ _ _ => ?_) (fun _ _ _ => ?_); rotate_left; focus (wtm_at "oo")))

local macro_rules | `(tactic| wtm_at "lk") => `(tactic| first | (with_reducible exact lk_here) | (simp only [lk_here, lk_skip, lk_nil]; first | done | exact rfl))
local macro_rules | `(tactic| wtm_at "ln") => `(tactic| first | (with_reducible exact lk_nil) | (simp only [lk_skip, lk_nil]; done))
local macro_rules | `(tactic| wtm_at "pu") => `(tactic| first | (with_reducible exact pf_nil) | (simp only [pf_nil, pf_here, pf_skip]; first | done | exact rfl))
local macro_rules | `(tactic| wtm_at "tk") => `(tactic| first | (with_reducible exact Take.here) | (exact Take.here) | ((with_reducible apply Take.there); wtm_at "tk"))
local macro_rules | `(tactic| wtm_at "pk") => `(tactic| first | exact Pick.nil | ((with_reducible refine' Pick.cons ?tk1 ?pk1); (case tk1 => wtm_at "tk"); (case pk1 => wtm_at "pk")) | ((with_reducible refine Pick.im (by wtm_at "mem") ?_); wtm_at "pk") | ((with_reducible refine Pick.ims (by wtm_at "mem") ?_); wtm_at "pk"))
section
variable {P : Program} {w : World} {K : PySem.W.Frag} {mg : Str → Option Value} {base : Heap}
def segN (sym lo off : Int) (n : Nat) : List (List Int) := (List.range n).map fun k : Nat => [lo + (k : Int), sym, lo + (k : Int) - off]
theorem seg_N {sym lo hi off : Int} : seg sym lo hi off = segN sym lo off (hi + 1 - lo).toNat := rfl
theorem segN_succ {sym lo off : Int} {n : Nat} : segN sym lo off (n + 1) = segN sym lo off n ++ [[lo + (n : Int), sym, lo + (n : Int) - off]] := by
  unfold segN
  rw [List.range_succ, List.map_append]
  rfl
theorem segN_len {sym lo off : Int} {n : Nat} : (segN sym lo off n).length = n := by
  unfold segN
  rw [List.length_map, List.length_range]
theorem snocT {K : PySem.W.Frag} {B H : Hp} {l : List As} {us : List V} {ts : List (List Int)} {r : Addr} {t : List Int} (L : Own K B H l) (m : As.ims us (ts.map tI) ∈ l) (m2 : As.pt r (tupI t) ∈ l) : Own K B H (.ims (us ++ [.ref r]) ((ts ++ [t]).map tI) :: l) := L.addIms (by
  rw [List.map_append]
  exact ImmL.snoc (L.imms m) (L.imI m2))
def sp__law_options (K : PySem.W.Frag) : Sp := fun vs H Q _ => ∃ (a : Addr) (ls : List Int) (i : Nat), vs = [.ref a, .int (i : Int)] ∧ SqL K H a (ls.map V.int) ∧ ls.length ≤ 5000 ∧ i < ls.length ∧ ∀ p us H', Own K H H' [.pt p (.lst us), .ims us ((optL ls i).map tI)] → Q (.ref p) H'
theorem ok__law_options (T : Tx K mg) : Cl P w K mg base 2 "_law_options" ["lengths", "at"] (sp__law_options K) [] := by
  obtain ⟨gm, fd, F⟩ := T.d__law_options
  refine ⟨_, fd, [], F.ok sc__law_options (fun vs H Q E h => ?_) (fun cdv A outer s H vs Q E hr h => ⟨_, (PSs.nox (pss_cons (ps_set (i := 2) sc__law_options.nd rfl (Or.inl rfl) (by exact (pe_lst (pa_cons (pe_tup (pa_cons pe_int (pa_cons (pe_ix (ixl K) (pv 0) (pv 1) (fun _ _ => rfl)) (pa_cons pe_int pa_nil)))) pa_nil))))
 (pss_cons (ps_if (pt_cmpR op_gt (pv 1) pe_int (nomark _))
 (pss_one (ps_for PassesOwn.never rfl (pi_range2 rfl T.b_range (pa_cons pe_int (pa_cons (pe_op op_add (pe_callB (call_min2 rfl) rfl T.b_min (by decide +kernel) (pa_cons pe_int (pa_cons (pe_cl (ok__law_run T) (hr.mono (by decide)) rfl (pa_cons (pv 0) (pa_cons (pv 1) (pa_cons (pe_ix (ixl K) (pv 0) (pe_op op_sub (pv 1) pe_int) (fun _ _ => rfl)) pa_nil)))) pa_nil))) pe_int) pa_nil))) (pg_name (i := 3) sc__law_options.nd rfl (Or.inl rfl))
 (pss_one (ps_expr (pe_bm PySem.F.plainAttrs_list PySem.F.slot_list_append PySem.F.type_list_append mt_append (pv 2) (pa_cons (pe_tup (pa_cons (pv 3) (pa_cons pe_int (pa_cons (pe_op op_sub (pv 3) pe_int) pa_nil)))) pa_nil))))))
 pss_nil)
 (pss_cons (ps_if (pt_cmpR op_eq (pe_ix (ixl K) (pv 0) (pv 1) (fun _ _ => rfl)) pe_int (nomark _))
 (pss_cons (ps_set (i := 4) sc__law_options.nd rfl (Or.inl rfl) (by exact (pe_cl (ok__law_run T) (hr.mono (by decide)) rfl (pa_cons (pv 0) (pa_cons (pv 1) (pa_cons pe_int pa_nil))))))
 (pss_cons (ps_for PassesOwn.never rfl (pi_range2 rfl T.b_range (pa_cons pe_int (pa_cons (pe_op op_add (pe_callB (call_min2 rfl) rfl T.b_min (by decide +kernel) (pa_cons pe_int (pa_cons (pv 4) pa_nil))) pe_int) pa_nil))) (pg_name (i := 3) sc__law_options.nd rfl (Or.inl rfl))
 (pss_one (ps_expr (pe_bm PySem.F.plainAttrs_list PySem.F.slot_list_append PySem.F.type_list_append mt_append (pv 2) (pa_cons (pe_tup (pa_cons (pv 3) (pa_cons pe_int (pa_cons (pe_op op_sub (pv 3) pe_int) pa_nil)))) pa_nil)))))
 (pss_one (ps_for PassesOwn.never rfl (pi_range2 rfl T.b_range (pa_cons pe_int (pa_cons (pe_op op_add (pe_callB (call_min2 rfl) rfl T.b_min (by decide +kernel) (pa_cons pe_int (pa_cons (pv 4) pa_nil))) pe_int) pa_nil))) (pg_name (i := 3) sc__law_options.nd rfl (Or.inl rfl))
 (pss_one (ps_expr (pe_bm PySem.F.plainAttrs_list PySem.F.slot_list_append PySem.F.type_list_append mt_append (pv 2) (pa_cons (pe_tup (pa_cons (pv 3) (pa_cons pe_int (pa_cons (pe_op op_sub (pv 3) pe_int) pa_nil)))) pa_nil))))))))
 pss_nil)
 (pss_one (ps_ret (by exact (pv 2)))))))), ?_⟩), gm, F.kp, F.bindsN (fun _ _ _ _ _ _ us hl => match us, hl with | [_, _], _ => rfl), .nil⟩
  · first | (obtain ⟨rfl, _⟩ := h; rfl) | (obtain ⟨_, rfl, _⟩ := h; rfl) | (obtain ⟨_, _, rfl, _⟩ := h; rfl) | (obtain ⟨_, _, _, rfl, _⟩ := h; rfl) | (obtain ⟨_, _, _, _, rfl, _⟩ := h; rfl) | (obtain ⟨_, _, _, _, _, rfl, _⟩ := h; rfl) | (obtain ⟨_, _, _, _, _, _, rfl, _⟩ := h; rfl) | (obtain ⟨_, _, _, _, _, _, _, rfl, _⟩ := h; rfl) | (obtain ⟨_, _, _, _, _, _, _, _, rfl, _⟩ := h; rfl) | (obtain ⟨_, _, _, _, _, _, _, _, _, rfl, _⟩ := h; rfl) | (obtain ⟨_, _, _, _, _, _, _, _, _, _, rfl, _⟩ := h; rfl) | (obtain ⟨_, _, _, _, _, _, _, _, _, _, _, rfl, _⟩ := h; rfl) | (obtain ⟨_, _, _, _, _, _, _, _, _, _, _, _, rfl, _⟩ := h; rfl) | (obtain ⟨_, _, _, _, _, _, _, _, _, _, _, _, _, rfl, _⟩ := h; rfl) | (obtain ⟨_, _, _, _, _, _, _, _, _, _, _, _, _, _, rfl, _⟩ := h; rfl) | (obtain ⟨_, _, _, _, _, _, _, _, _, _, _, _, _, _, _, rfl, _⟩ := h; rfl) | (obtain ⟨_, _, _, _, _, _, _, _, _, _, _, _, _, _, _, _, rfl, _⟩ := h; rfl) | (obtain ⟨_, _, _, _, _, _, _, _, _, _, _, _, _, _, _, _, _, rfl, _⟩ := h; rfl) | (obtain ⟨_, _, _, _, _, _, _, _, _, _, _, _, _, _, _, _, _, _, rfl, _⟩ := h; rfl) | (obtain ⟨_, _, _, _, _, _, _, _, _, _, _, _, _, _, _, _, _, _, _, rfl, _⟩ := h; rfl) | (obtain ⟨_, _, _, _, _, _, _, _, _, _, _, _, _, _, _, _, _, _, _, _, rfl, _⟩ := h; rfl) | (obtain ⟨_, _, _, _, _, _, _, _, _, _, _, _, _, _, _, _, _, _, _, _, _, rfl, _⟩ := h; rfl)
  · obtain ⟨a, ls, i, rfl, hS, hl, hi, q⟩ := h
    k_call_by "xo" st__law_options
    have L := Own.start (K := K) (H := H)
    wtm_at "oo"
    rename_i t0 G0 L0 o0 G1 L1
    rw [Int.toNat_natCast] at L1
    have L1 := (oneT (newT L1 (p := t0) (ns := [1, ls.getD i 0, 0]) (by wtm_at "mem")) (v := .ref t0) (t := [1, ls.getD i 0, 0]) (by wtm_at "mem")).pick (l' := [.pt o0 (.lst [.ref t0]), .ims [.ref t0] ([[1, ls.getD i 0, 0]].map tI)]) (by wtm_at "pk")
    clear L0
    generalize hk : tSeq _ _ _ = kont
    have fin : ∀ (us : List V) (ts : List (List Int)) y3 H', ts.length ≤ 10 → ts = ([[1, vAt ls i, 0]] ++ if 0 < i then seg 16 3 (min 6 (runL (vAt ls (i - 1)) (ls.drop i) : Int)) 3 else []) → Own K H H' [.pt o0 (.lst us), .ims us (ts.map tI)] →
        kont [some (.ref a), some (.int (i : Int)), some (.ref o0), y3, none] H' := by
      clear L1
      intro us ts y3 H1 tl ets L1
      unfold optL at q
      rw [← ets] at q
      clear ets
      subst hk
      have lu := lenT L1 (vs := us) (ts := ts) (by wtm_at "mem")
      wtm_at "oo"
      refine sel_d (fun c => ?_) (fun c => ?_)
      · rw [Int.toNat_natCast] at c
        rw [if_pos (show vAt ls i = 0 from c)] at q
        wtm_at "oo"
        refine ⟨a, ls, i, 0, rfl, by wtm_at "qo", hl, by omega, ?_⟩
        have h1 : (if (runL 0 (ls.drop i) : Int) < 10 then (runL 0 (ls.drop i) : Int) else 10) = min 10 (runL 0 (ls.drop i) : Int) := by
          split <;> omega
        have h2 : (if (runL 0 (ls.drop i) : Int) < 138 then (runL 0 (ls.drop i) : Int) else 138) = min 138 (runL 0 (ls.drop i) : Int) := by
          split <;> omega
        have rl := runL_le 0 (ls.drop i)
        generalize runL 0 (ls.drop i) = R at *
        wtm_at "oo"
        rw [h1]
        refine loop_range (fun j σ H' => ∃ us y3, σ = [some (.ref a), some (.int (i : Int)), some (.ref o0), y3, some (.int (R : Int))] ∧ Own K H H' [.pt o0 (.lst us), .ims us ((ts ++ segN 17 3 3 j).map tI)]) ⟨us, _, rfl, by rw [show segN 17 3 3 0 = [] from rfl, List.append_nil]; exact L1⟩ ?_ ?_
        · clear L1 lu
          rintro j σ H2 hj ⟨us, y3, rfl, L⟩
          have lu := lenT L (vs := us) (ts := ts ++ segN 17 3 3 j) (by wtm_at "mem")
          rw [List.length_append, segN_len] at lu
          have hj2 : j < (min 10 (R : Int) + 1 - 3).toNat := hj
          wtm_at "oo"
          rename_i t1 H3 L3 H4 L4
          have L5 := snocT L4 (us := us) (ts := ts ++ segN 17 3 3 j) (r := t1) (t := [3 + (j : Int), 17, 3 + (j : Int) - 3]) (by wtm_at "mem") (by wtm_at "mem")
          rw [List.append_assoc, ← segN_succ] at L5
          exact ⟨_, L5.pick (by wtm_at "pk")⟩
        · clear L1 lu
          rintro σ H2 ⟨us, y3, rfl, L1⟩
          rw [← seg_N] at L1
          have e1 : (seg 17 3 (min 10 (R : Int)) 3).length ≤ 10 := by
            rw [seg_N, segN_len]
            omega
          rw [← List.append_assoc] at q
          have tl2 : (ts ++ seg 17 3 (min 10 (R : Int)) 3).length ≤ 20 := by
            rw [List.length_append]
            omega
          generalize ts ++ seg 17 3 (min 10 (R : Int)) 3 = ts at *
          wtm_at "oo"
          rw [h2]
          refine loop_range (fun j σ H' => ∃ us y3, σ = [some (.ref a), some (.int (i : Int)), some (.ref o0), y3, some (.int (R : Int))] ∧ Own K H H' [.pt o0 (.lst us), .ims us ((ts ++ segN 18 11 11 j).map tI)]) ⟨us, _, rfl, by rw [show segN 18 11 11 0 = [] from rfl, List.append_nil]; exact L1⟩ ?_ ?_
          · clear L1
            rintro j σ H2 hj ⟨us, y3, rfl, L⟩
            have lu := lenT L (vs := us) (ts := ts ++ segN 18 11 11 j) (by wtm_at "mem")
            rw [List.length_append, segN_len] at lu
            have hj2 : j < (min 138 (R : Int) + 1 - 11).toNat := hj
            wtm_at "oo"
            rename_i t1 H3 L3 H4 L4
            have L5 := snocT L4 (us := us) (ts := ts ++ segN 18 11 11 j) (r := t1) (t := [11 + (j : Int), 18, 11 + (j : Int) - 11]) (by wtm_at "mem") (by wtm_at "mem")
            rw [List.append_assoc, ← segN_succ] at L5
            exact ⟨_, L5.pick (by wtm_at "pk")⟩
          · rintro σ H2 ⟨us, y3, rfl, L⟩
            rw [← seg_N] at L
            wtm_at "oo"
            exact q o0 us H2 L
      · rw [Int.toNat_natCast] at c
        rw [if_neg (show ¬ vAt ls i = 0 from c), List.append_nil] at q
        wtm_at "oo"
        exact q o0 us H1 L1
    refine sel_d (fun c => ?_) (fun c => ?_)
    · wtm_at "oo"
      refine ⟨a, ls, i, vAt ls (i - 1), by rw [show ((i : Int) - 1).toNat = i - 1 by omega]; rfl, by wtm_at "qo", hl, by omega, ?_⟩
      have hr : (if (runL (vAt ls (i - 1)) (ls.drop i) : Int) < 6 then (runL (vAt ls (i - 1)) (ls.drop i) : Int) else 6) = min 6 (runL (vAt ls (i - 1)) (ls.drop i) : Int) := by
        split <;> omega
      rw [if_pos (show 0 < i by omega)] at fin
      generalize runL (vAt ls (i - 1)) (ls.drop i) = R at *
      obtain ⟨ts0, e0⟩ : ∃ ts0, ts0 = [[1, vAt ls i, 0]] := ⟨_, rfl⟩
      have l0 : ts0.length = 1 := by
        rw [e0]
        rfl
      rw [← e0] at fin
      rw [show [[1, ls.getD i 0, 0]] = ts0 from e0.symm] at L1
      clear e0
      wtm_at "oo"
      rw [hr]
      refine loop_range (fun j σ H' => ∃ us y3, σ = [some (.ref a), some (.int (i : Int)), some (.ref o0), y3, none] ∧ Own K H H' [.pt o0 (.lst us), .ims us ((ts0 ++ segN 16 3 3 j).map tI)]) ⟨_, none, rfl, by rw [show segN 16 3 3 0 = [] from rfl, List.append_nil]; exact L1⟩ ?_ ?_
      · clear L1
        rintro j σ H2 hj ⟨us, y3, rfl, L⟩
        have lu := lenT L (vs := us) (ts := ts0 ++ segN 16 3 3 j) (by wtm_at "mem")
        rw [List.length_append, segN_len] at lu
        have hj2 : j < (min 6 (R : Int) + 1 - 3).toNat := hj
        wtm_at "oo"
        rename_i t1 H3 L3 H4 L4
        have L5 := snocT L4 (us := us) (ts := ts0 ++ segN 16 3 3 j) (r := t1) (t := [3 + (j : Int), 16, 3 + (j : Int) - 3]) (by wtm_at "mem") (by wtm_at "mem")
        rw [List.append_assoc, ← segN_succ] at L5
        exact ⟨_, L5.pick (by wtm_at "pk")⟩
      · rintro σ H2 ⟨us, y3, rfl, L⟩
        exact fin us _ y3 H2 (by rw [List.length_append, seg_N, segN_len]; omega) rfl L
    · wtm_at "oo"
      exact fin _ [[1, vAt ls i, 0]] _ _ (by show 1 ≤ 10; decide) (by rw [if_neg (by omega)]; rfl) L1


end
end K41

namespace K41
open PySem PySem.Spec PyProof.Rows L2 Bel
local macro_rules | `(tactic| wtm_at "xs") => `(tactic| simp only [x_next, x_seq, x_brk, x_cont, x_drop, x_ret, x_retN, x_if, sel_t, sel_f, selE_t, selE_f, selT_t, selT_f, selC_t, selC_f, x_test, x_tB, x_op, x_un, x_var, x_c, x_cb, x_nil, x_cons, x_rI, x_rI0, x_rU, x_rEq, x_rNe, x_rIxL, x_rIxT, x_rSlL, x_rCat, x_rRep, x_rApp, x_bm, x_bm0, x_sl, x_nopart, x_part, x_tup, x_lst, x_call, x_callS, x_asg, x_gname, x_gtup, x_gnil, x_gcons, x_gsub, x_setL, x_aug, x_ipI, x_ipC, x_bits, x_getL, x_augS, x_and, x_or, x_not, x_k, x_andV, x_orV, x_notV, x_ife, x_chain, x_for, x_ilist, x_itup, x_ienum, x_irng1, x_irng2, x_irev, x_lc, x_yes, wipe_nil, wipe_cons, List.map_cons, List.map_nil, x_misc, x_misc2, x_rz, lookup_at, Bool.not_true, Bool.not_false, decide_true, decide_false, not_true, not_false_eq_true, and_assoc, exists_and_left, exists_eq_left', exists_eq_left, exists_eq', exists_eq_right', exists_eq_right, V.int.injEq, V.ref.injEq, V.bl.injEq, V.str.injEq, List.cons.injEq, and_true, true_and, and_self, Option.some.injEq, List.cons_append, List.nil_append, List.append_nil, List.getElem?_cons_zero, List.getElem?_cons_succ, List.set_cons_zero, List.set_cons_succ, reduceCtorEq, false_and, and_false, exists_false, exists_const, or_false, false_or, scal_ii, scal_bb, scal_ss, List.length_cons, List.length_nil, Int.reduceToNat, Int.reducePow])
local macro_rules | `(tactic| k_call_by "xs" $h:term) => `(tactic| simp only [$h:term, x_next, x_seq, x_brk, x_cont, x_drop, x_ret, x_retN, x_if, sel_t, sel_f, selE_t, selE_f, selT_t, selT_f, selC_t, selC_f, x_test, x_tB, x_op, x_un, x_var, x_c, x_cb, x_nil, x_cons, x_rI, x_rI0, x_rU, x_rEq, x_rNe, x_rIxL, x_rIxT, x_rSlL, x_rCat, x_rRep, x_rApp, x_bm, x_bm0, x_sl, x_nopart, x_part, x_tup, x_lst, x_call, x_callS, x_asg, x_gname, x_gtup, x_gnil, x_gcons, x_gsub, x_setL, x_aug, x_ipI, x_ipC, x_bits, x_getL, x_augS, x_and, x_or, x_not, x_k, x_andV, x_orV, x_notV, x_ife, x_chain, x_for, x_ilist, x_itup, x_ienum, x_irng1, x_irng2, x_irev, x_lc, x_yes, wipe_nil, wipe_cons, List.map_cons, List.map_nil, x_misc, x_misc2, x_rz, lookup_at, Bool.not_true, Bool.not_false, decide_true, decide_false, not_true, not_false_eq_true, and_assoc, exists_and_left, exists_eq_left', exists_eq_left, exists_eq', exists_eq_right', exists_eq_right, V.int.injEq, V.ref.injEq, V.bl.injEq, V.str.injEq, List.cons.injEq, and_true, true_and, and_self, Option.some.injEq, List.cons_append, List.nil_append, List.append_nil, List.getElem?_cons_zero, List.getElem?_cons_succ, List.set_cons_zero, List.set_cons_succ, reduceCtorEq, false_and, and_false, exists_false, exists_const, or_false, false_or, scal_ii, scal_bb, scal_ss, List.length_cons, List.length_nil, Int.reduceToNat, Int.reducePow])
local macro_rules | `(tactic| wtm_at "hp") => `(tactic| first | (with_reducible assumption) | exact upd_same | (refine upd_keep (by with_reducible assumption) ?_; wtm_at "hp") | (refine Same.get (by with_reducible assumption) ?_; wtm_at "hp") | (refine upd_other (by first | (with_reducible assumption) | exact Ne.symm (by with_reducible assumption)) ?_; wtm_at "hp"))
local macro_rules | `(tactic| wtm_at "sq") => `(tactic| first | (with_reducible assumption) | exact SqL.of (by wtm_at "hp") | exact SqT.of (by wtm_at "hp") | (refine Same.seq (same_upd (by with_reducible assumption)) ?_; wtm_at "sq") | (refine Same.seq (by with_reducible assumption) ?_; wtm_at "sq") | (refine Same.seqT (same_upd (by with_reducible assumption)) ?_; wtm_at "sq") | (refine Same.seqT (by with_reducible assumption) ?_; wtm_at "sq"))
local macro_rules | `(tactic| wtm_at "cl") => `(tactic| first | (with_reducible assumption) | omega | (exact cmul_r (by omega) (by omega)) | (exact cmul_l (by omega) (by omega)) | (exact cdiv_ok (by omega) (by omega)) | (exact cpow_ok (by decide)) | (exact ⟨by omega, by omega, by omega⟩) | decide | (exact ⟨by omega, by omega⟩) | (simp only [List.length_append, List.length_map, List.length_set, List.length_cons, List.length_nil, rngL_len, sizeLine_eq]; omega) | wtm_at "hp" | wtm_at "sq")
local macro_rules | `(tactic| wtm_at "pf") => `(tactic| first | (with_reducible assumption) | omega | (simp only [List.length_append, List.length_map, List.length_set, List.length_cons, List.length_nil, rngL_len]; omega) | (with_reducible rfl) | (with_reducible trivial) | (with_reducible decide))
local macro_rules | `(tactic| wtm_at "st") => `(tactic| first | ((with_reducible refine g_at ?_); refine at_call (by wtm_at "sq") (by omega) (by omega) (fun _ _ => ?_)) | ((with_reducible refine g_int ?_); refine int_call ?_) | ((with_reducible refine g_isi ?_); first | (with_reducible refine isi_ii ?_) | (with_reducible refine isi_ib ?_) | (refine isi_int rfl ?_) | (refine isi_lst rfl (by wtm_at "hp") ?_) | (refine isi_tup rfl (by wtm_at "hp") ?_)) | ((with_reducible refine g_ned ?_); refine ned_f (dq_lst (by wtm_at "sq")) (dq_lst (by wtm_at "sq")) ?_) | ((with_reducible refine g_eqd ?_); refine eqd_t (dq_lst (by wtm_at "sq")) (dq_lst (by wtm_at "sq")) ?_) | ((with_reducible refine g_tyv ?_); refine and_tyv (by wtm_at "sq") ?_) | ((with_reducible refine g_asq ?_); refine and_sq (by wtm_at "sq") ?_) | ((with_reducible refine g_lst ?_); refine ex_lst (by wtm_at "hp") ?_) | ((with_reducible refine g_or ?_); first | (refine ex_or (by wtm_at "sq") ?_) | (refine ex_ort (by wtm_at "sq") ?_)) | ((with_reducible refine g_sq ?_); refine ex_sq (by wtm_at "sq") ?_) | ((with_reducible refine g_sqt ?_); refine ex_sqt (by wtm_at "sq") ?_) | ((with_reducible refine gd_sel ?_); first | (refine sel_p (by wtm_at "pf") ?_) | (refine sel_n (by wtm_at "pf") ?_)) | ((with_reducible refine gn_sel ?_); first | (refine selN_p (by wtm_at "pf") ?_) | (refine selN_n (by wtm_at "pf") ?_)) | ((with_reducible refine gd_selT ?_); first | (refine selT_p (by wtm_at "pf") ?_) | (refine selT_n (by wtm_at "pf") ?_)) | ((with_reducible refine gn_selT ?_); first | (refine selTN_p (by wtm_at "pf") ?_) | (refine selTN_n (by wtm_at "pf") ?_)) | ((with_reducible refine gd_selE ?_); first | (refine selE_p (by wtm_at "pf") ?_) | (refine selE_n (by wtm_at "pf") ?_)) | ((with_reducible refine gn_selE ?_); first | (refine selEN_p (by wtm_at "pf") ?_) | (refine selEN_n (by wtm_at "pf") ?_)) | ((with_reducible refine g_xf ?_); refine xf_at rfl (by wtm_at "hp") ?_) | ((with_reducible refine g_atI ?_); refine ex_at (by first | exact rfl | exact atI_int (by omega) (by wtm_at "pf") | exact atI_end (by wtm_at "pf")) ?_) | ((with_reducible refine g_and ?_); refine And.intro (by wtm_at "cl") ?_) | ((with_reducible refine g_new ?_); intro _ _))
local macro_rules | `(tactic| wtm_at "go") => `(tactic| repeat (first | wtm_at "xs" | wtm_at "st"))
local macro_rules | `(tactic| wtm_at "xo") => `(tactic| simp only [x_next, x_seq, x_brk, x_cont, x_drop, x_ret, x_retN, x_if, sel_t, sel_f, selE_t, selE_f, selT_t, selT_f, selC_t, selC_f, x_test, x_tB, x_op, x_un, x_var, x_c, x_cb, x_nil, x_cons, x_rI, x_rI0, x_rU, x_rEq, x_rNe, x_rIxL, x_rIxT, n_rSlL, n_rCat, n_rRep, n_rApp, x_bm, x_bm0, x_sl, x_nopart, x_part, n_tup, n_lst, x_call, x_callS, x_asg, x_gname, x_gtup, x_gnil, x_gcons, x_gsub, n_setL, x_aug, x_ipI, x_ipC, x_bits, x_getL, x_augS, x_and, x_or, x_not, x_k, x_andV, x_orV, x_notV, x_ife, x_chain, x_for, x_ilist, x_itup, x_ienum, x_irng1, x_irng2, x_irev, x_lc, x_yes, wipe_nil, wipe_cons, List.map_cons, List.map_nil, x_misc, x_misc2, x_rz, lookup_at, Bool.not_true, Bool.not_false, decide_true, decide_false, not_true, not_false_eq_true, and_assoc, exists_and_left, exists_eq_left', exists_eq_left, exists_eq', exists_eq_right', exists_eq_right, V.int.injEq, V.ref.injEq, V.bl.injEq, V.str.injEq, List.cons.injEq, and_true, true_and, and_self, Option.some.injEq, List.cons_append, List.nil_append, List.append_nil, List.getElem?_cons_zero, List.getElem?_cons_succ, List.set_cons_zero, List.set_cons_succ, reduceCtorEq, false_and, and_false, exists_false, exists_const, or_false, false_or, scal_ii, scal_bb, scal_ss, List.length_cons, List.length_nil, Int.reduceToNat, Int.reducePow, n_fld, n_sfld, n_aug, n_meth, n_mw, n_make, n_kw, n_rLs, n_dcp, n_gget, n_rLtT, n_ext, n_revL, n_rTp, t_im, ints_rev, t_s1, t_i1, t_i2, t_i3, t_i4, t_i5, x_chain3, x_irng3, x_irevR, x_rg1, x_rg2, ints_cat, ints_app1, ints_len, ints_take, ints_drop, rep_one])
local macro_rules | `(tactic| k_call_by "xo" $h:term) => `(tactic| simp only [$h:term, x_next, x_seq, x_brk, x_cont, x_drop, x_ret, x_retN, x_if, sel_t, sel_f, selE_t, selE_f, selT_t, selT_f, selC_t, selC_f, x_test, x_tB, x_op, x_un, x_var, x_c, x_cb, x_nil, x_cons, x_rI, x_rI0, x_rU, x_rEq, x_rNe, x_rIxL, x_rIxT, n_rSlL, n_rCat, n_rRep, n_rApp, x_bm, x_bm0, x_sl, x_nopart, x_part, n_tup, n_lst, x_call, x_callS, x_asg, x_gname, x_gtup, x_gnil, x_gcons, x_gsub, n_setL, x_aug, x_ipI, x_ipC, x_bits, x_getL, x_augS, x_and, x_or, x_not, x_k, x_andV, x_orV, x_notV, x_ife, x_chain, x_for, x_ilist, x_itup, x_ienum, x_irng1, x_irng2, x_irev, x_lc, x_yes, wipe_nil, wipe_cons, List.map_cons, List.map_nil, x_misc, x_misc2, x_rz, lookup_at, Bool.not_true, Bool.not_false, decide_true, decide_false, not_true, not_false_eq_true, and_assoc, exists_and_left, exists_eq_left', exists_eq_left, exists_eq', exists_eq_right', exists_eq_right, V.int.injEq, V.ref.injEq, V.bl.injEq, V.str.injEq, List.cons.injEq, and_true, true_and, and_self, Option.some.injEq, List.cons_append, List.nil_append, List.append_nil, List.getElem?_cons_zero, List.getElem?_cons_succ, List.set_cons_zero, List.set_cons_succ, reduceCtorEq, false_and, and_false, exists_false, exists_const, or_false, false_or, scal_ii, scal_bb, scal_ss, List.length_cons, List.length_nil, Int.reduceToNat, Int.reducePow, n_fld, n_sfld, n_aug, n_meth, n_mw, n_make, n_kw, n_rLs, n_dcp, n_gget, n_rLtT, n_ext, n_revL, n_rTp, t_im, ints_rev, t_s1, t_i1, t_i2, t_i3, t_i4, t_i5, x_chain3, x_irng3, x_irevR, x_rg1, x_rg2, ints_cat, ints_app1, ints_len, ints_take, ints_drop, rep_one])
local macro_rules | `(tactic| wtm_at "mem") => `(tactic| first | (with_reducible exact mem_here) | (with_reducible refine mem_there ?_; wtm_at "mem"))
local macro_rules | `(tactic| wtm_at "pp") => `(tactic| first | (with_reducible exact Put.here) | (with_reducible apply Put.there; wtm_at "pp"))
local macro_rules | `(tactic| wtm_at "ho") => `(tactic| first | (with_reducible assumption) | exact Own.get (by with_reducible assumption) (by wtm_at "mem") | exact Own.base (by with_reducible assumption) (by with_reducible assumption))
local macro_rules | `(tactic| wtm_at "qo") => `(tactic| first | (with_reducible assumption) | exact SqL.of (by wtm_at "ho") | exact sqT_tupI (by wtm_at "ho") | exact sqT_tupS (by wtm_at "ho") | exact SqT.of (by wtm_at "ho") | exact Own.imT (by with_reducible assumption) (by wtm_at "mem") | exact Own.sq (by with_reducible assumption) (by with_reducible assumption) | exact Own.sqT (by with_reducible assumption) (by with_reducible assumption))
local macro_rules | `(tactic| wtm_at "sub") => `(tactic| first | exact List.nil_sublist _ | (with_reducible refine List.Sublist.cons_cons _ ?_; wtm_at "sub") | (refine List.Sublist.cons _ ?_; wtm_at "sub"))
local macro_rules | `(tactic| wtm_at "co") => `(tactic| first | (with_reducible assumption) | omega | (exact cmul_r (by omega) (by omega)) | (exact cmul_l (by omega) (by omega)) | (exact cdiv_ok (by omega) (by omega)) | (exact cpow_ok (by decide)) | (exact ⟨by omega, by omega, by omega⟩) | decide | (exact ⟨by omega, by omega⟩) | (simp only [List.length_append, List.length_map, List.length_set, List.length_cons, List.length_nil, rngL_len, sizeLine_eq]; omega) | wtm_at "ho" | wtm_at "qo")
local macro_rules | `(tactic| wtm_at "so") => `(tactic| first | ((with_reducible refine g_dcp ?_); refine dcpI (by wtm_at "ho") ?_) | ((with_reducible refine g_asl ?_); refine And.intro (by rfl) ?_) | ((with_reducible refine g_asqT ?_); refine and_sqT (by wtm_at "qo") ?_) | ((with_reducible refine g_extO ?_); first | (refine extI (by with_reducible assumption) (by wtm_at "pp") (by wtm_at "co") (fun _ _ => ?_)) | (refine extO (by with_reducible assumption) (by wtm_at "pp") (by wtm_at "co") (fun _ _ => ?_))) | ((with_reducible refine g_tp ?_); first | (refine tp_l (by wtm_at "qo") ?_) | (refine tp_t (by wtm_at "qo") ?_)) | ((with_reducible refine g_fldO ?_); refine fldO (by wtm_at "ho") (by with_reducible assumption) (by wtm_at "mem") (by wtm_at "lk") ?_) | ((with_reducible refine g_fldC ?_); refine fldC (by wtm_at "ho") (by with_reducible assumption) (by wtm_at "mem") (by wtm_at "lk") ?_) | ((with_reducible refine g_putC ?_); refine putC (by with_reducible assumption) (by wtm_at "pp") (by wtm_at "pu") (by wtm_at "co") (fun _ _ => ?_)) | ((with_reducible refine g_stoO ?_); refine stoO (by with_reducible assumption) (by wtm_at "pp") (by wtm_at "pu") (by with_reducible assumption) (by wtm_at "mem") (by wtm_at "co") (fun _ _ => ?_)) | ((with_reducible refine g_metO ?_); refine metO (by wtm_at "ho") (by wtm_at "ln") ?_) | ((with_reducible refine g_makO ?_); refine makO (by with_reducible assumption) (fun _ _ _ _ => ?_)) | ((with_reducible refine g_sum ?_); refine sum_call (by wtm_at "qo") ?_) | ((with_reducible refine g_cq ?_); exact cq (by with_reducible assumption) (by simp only [rngL_len, List.length_map, List.length_take]; omega)) | ((with_reducible refine g_newO ?_); refine newO (by with_reducible assumption) (fun _ _ _ => ?_)) | ((with_reducible refine g_appO ?_); refine appI (by with_reducible assumption) (by wtm_at "pp") (by wtm_at "co") (fun _ _ => ?_)) | ((with_reducible refine g_setO ?_); refine setI (by with_reducible assumption) (by wtm_at "pp") (by omega) (by wtm_at "co") (fun _ _ => ?_)) | ((with_reducible refine g_appO ?_); refine appO (by with_reducible assumption) (by wtm_at "pp") (by wtm_at "co") (fun _ _ => ?_)) | ((with_reducible refine g_setO ?_); refine setO (by with_reducible assumption) (by wtm_at "pp") (by omega) (by wtm_at "co") (fun _ _ => ?_)) | ((with_reducible refine g_at ?_); refine at_call (by wtm_at "qo") (by omega) (by omega) (fun _ _ => ?_)) | ((with_reducible refine g_int ?_); refine int_call ?_) | ((with_reducible refine g_isi ?_); first | (with_reducible refine isi_ii ?_) | (with_reducible refine isi_ib ?_) | (refine isi_int rfl ?_) | (refine isi_sqL rfl (by wtm_at "qo") ?_) | (refine isi_sqT rfl (by wtm_at "qo") ?_) | (refine isi_bl rfl ?_) | (refine isi_non rfl ?_) | (refine isi_str rfl ?_)) | ((with_reducible refine g_ned ?_); first | (refine ned_f (dq_lst (by wtm_at "qo")) (dq_lst (by wtm_at "qo")) ?_) | (refine ned_ints (by wtm_at "qo") (by wtm_at "qo") ?_) | (refine nedT_ints (by wtm_at "qo") (by wtm_at "qo") ?_)) | ((with_reducible refine g_eqd ?_); first | (refine eqd_t (dq_lst (by wtm_at "qo")) (dq_lst (by wtm_at "qo")) ?_) | (refine eqd_ints (by wtm_at "qo") (by wtm_at "qo") ?_) | (refine eqdT_ints (by wtm_at "qo") (by wtm_at "qo") ?_)) | ((with_reducible refine g_tyv ?_); refine and_tyv (by wtm_at "qo") ?_) | ((with_reducible refine g_asq ?_); refine and_sq (by wtm_at "qo") ?_) | ((with_reducible refine g_lst ?_); refine ex_lst (by wtm_at "ho") ?_) | ((with_reducible refine g_or ?_); first | (refine ex_or (by wtm_at "qo") ?_) | (refine ex_ort (by wtm_at "qo") ?_)) | ((with_reducible refine g_sq ?_); refine ex_sq (by wtm_at "qo") ?_) | ((with_reducible refine g_sqt ?_); refine ex_sqt (by wtm_at "qo") ?_) | ((with_reducible refine gd_sel ?_); first | (refine sel_p (by wtm_at "pf") ?_) | (refine sel_n (by wtm_at "pf") ?_)) | ((with_reducible refine gn_sel ?_); first | (refine selN_p (by wtm_at "pf") ?_) | (refine selN_n (by wtm_at "pf") ?_)) | ((with_reducible refine gd_selT ?_); first | (refine selT_p (by wtm_at "pf") ?_) | (refine selT_n (by wtm_at "pf") ?_)) | ((with_reducible refine gn_selT ?_); first | (refine selTN_p (by wtm_at "pf") ?_) | (refine selTN_n (by wtm_at "pf") ?_)) | ((with_reducible refine gd_selE ?_); first | (refine selE_p (by wtm_at "pf") ?_) | (refine selE_n (by wtm_at "pf") ?_)) | ((with_reducible refine gn_selE ?_); first | (refine selEN_p (by wtm_at "pf") ?_) | (refine selEN_n (by wtm_at "pf") ?_)) | ((with_reducible refine g_xf ?_); refine xf_at rfl (by wtm_at "ho") ?_) | ((with_reducible refine g_atI ?_); refine ex_at (by first | exact rfl | exact atI_int (by omega) (by wtm_at "pf") | exact atI_end (by wtm_at "pf")) ?_) | ((with_reducible refine g_and ?_); refine And.intro (by wtm_at "co") ?_))
local macro_rules | `(tactic| wtm_at "oo") => `(tactic| repeat (first | wtm_at "xo" | wtm_at "so"))
local macro_rules | `(tactic| wtm_at "cR") => `(tactic| (refine' compRi _ (by with_reducible assumption) (by omega) (fun _ _ _ _ _ => ?_) (fun _ _ _ => ?_); rotate_left; focus (wtm_at "oo")))

local macro_rules | `(tactic| wtm_at "lk") => `(tactic| first | (with_reducible exact lk_here) | (simp only [lk_here, lk_skip, lk_nil]; first | done | exact rfl))
local macro_rules | `(tactic| wtm_at "ln") => `(tactic| first | (with_reducible exact lk_nil) | (simp only [lk_skip, lk_nil]; done))
local macro_rules | `(tactic| wtm_at "pu") => `(tactic| first | (with_reducible exact pf_nil) | (simp only [pf_nil, pf_here, pf_skip]; first | done | exact rfl))
local macro_rules | `(tactic| wtm_at "tk") => `(tactic| first | (with_reducible exact Take.here) | (exact Take.here) | ((with_reducible apply Take.there); wtm_at "tk"))
local macro_rules | `(tactic| wtm_at "pk") => `(tactic| first | exact Pick.nil | ((with_reducible refine' Pick.cons ?tk1 ?pk1); (case tk1 => wtm_at "tk"); (case pk1 => wtm_at "pk")) | ((with_reducible refine Pick.im (by wtm_at "mem") ?_); wtm_at "pk") | ((with_reducible refine Pick.ims (by wtm_at "mem") ?_); wtm_at "pk"))
section
variable {P : Program} {w : World} {K : PySem.W.Frag} {mg : Str → Option Value} {base : Heap}
def cR (ls : List Int) (i : Nat) : List Int := rk ls i (chO ls i)
def cRs (ls : List Int) (k : Nat) : List (List Int) := (List.range (ls.length - k)).map fun j : Nat => cR ls (k + j)
theorem cRs_go {ls : List Int} {k : Nat} (h : k < ls.length) : cRs ls k = cR ls k :: cRs ls (k + 1) := by
  unfold cRs
  rw [show ls.length - k = (ls.length - (k + 1)) + 1 by omega, List.range_succ_eq_map, List.map_cons, List.map_map]
  congr 1
  refine List.map_congr_left fun j _ => ?_
  show cR ls (k + (j + 1)) = _
  rw [show k + (j + 1) = k + 1 + j by omega]
def mV (ls : List Int) (k : Nat) : List Int := (List.range (ls.length + 1)).map fun j : Nat => if j < k then 0 else (mn ls j : Int)
theorem mV_len {ls : List Int} {k : Nat} : (mV ls k).length = ls.length + 1 := by
  unfold mV
  rw [List.length_map, List.length_range]
theorem mV_at {ls : List Int} {k j : Nat} (h : k ≤ j) (hj : j ≤ ls.length) : (mV ls k).getD j 0 = mn ls j := by
  unfold mV
  rw [List.getD_eq_getElem?_getD, List.getElem?_map, List.getElem?_range (by omega)]
  show (if j < k then 0 else (mn ls j : Int)) = _
  rw [if_neg (by omega)]
theorem mV_set {ls : List Int} {k : Nat} (h : k < ls.length) : (mV ls (k + 1)).set k (mn ls k) = mV ls k := by
  refine List.ext_getElem? fun j => ?_
  unfold mV
  rw [List.getElem?_set, List.length_map, List.length_range]
  by_cases c : k = j
  · subst c
    rw [if_pos rfl, if_pos (by omega), List.getElem?_map, List.getElem?_range (by omega)]
    show _ = some (if k < k then 0 else (mn ls k : Int))
    rw [if_neg (by omega)]
  · rw [if_neg c, List.getElem?_map, List.getElem?_map]
    by_cases d : j < ls.length + 1
    · rw [List.getElem?_range d]
      show some (if j < k + 1 then 0 else (mn ls j : Int)) = some (if j < k then 0 else (mn ls j : Int))
      by_cases e : j < k
      · rw [if_pos (by omega), if_pos e]
      · rw [if_neg (by omega), if_neg e]
    · rw [List.getElem?_eq_none (by rw [List.length_range]; omega)]
      rfl
theorem mV_end {ls : List Int} : mV ls ls.length = (List.range (ls.length + 1)).map fun _ => 0 := by
  unfold mV
  refine List.map_congr_left fun j hj => ?_
  have := List.mem_range.mp hj
  by_cases e : j < ls.length
  · rw [if_pos e]
  · rw [if_neg e]
    unfold mn
    rw [pth_out (by omega)]
    rfl
def fD (ls : List Int) (k : Nat) : List PyData := List.replicate k PyData.none ++ (cRs ls k).map tI
theorem fD_set {ls : List Int} {k : Nat} (h : k < ls.length) : (fD ls (k + 1)).set k (tI (cR ls k)) = fD ls k := by
  unfold fD
  rw [cRs_go h, List.set_append, if_pos (by rw [List.length_replicate]; omega), List.replicate_succ', List.set_append, if_neg (by rw [List.length_replicate]; omega), List.length_replicate, Nat.sub_self]
  simp
theorem fD_at {ls : List Int} {i : Nat} (h : i < ls.length) : (fD ls 0)[i]? = some (tI (cR ls i)) := by
  unfold fD cRs
  rw [List.replicate_zero, List.nil_append, List.getElem?_map, List.getElem?_map, List.getElem?_range (by omega)]
  show some (tI (cR ls (0 + i))) = _
  rw [Nat.zero_add]
theorem rowR_two (v p : Int) (b : Bool) : rowR v p b = [(rowR v p b).getD 0 0, (rowR v p b).getD 1 0] := by
  unfold rowR
  split
  · rfl
  · split
    · rfl
    · split <;> rfl
theorem fD_len {ls : List Int} {k : Nat} (h : k ≤ ls.length) : (fD ls k).length = ls.length := by
  unfold fD cRs
  rw [List.length_append, List.length_replicate, List.length_map, List.length_map, List.length_range]
  omega
def sp__law_best (K : PySem.W.Frag) : Sp := fun vs H Q _ => ∃ (a : Addr) (ls : List Int), vs = [.ref a] ∧ SqL K H a (ls.map V.int) ∧ ls.length ≤ 400 ∧ (∀ x ∈ ls, 0 ≤ x ∧ x < 16) ∧ ∀ p us H', Own K H H' [.pt p (.lst us), .ims us ((pth ls 0).map tI)] → Q (.ref p) H'
theorem ok__law_best (T : Tx K mg) : Cl P w K mg base 3 "_law_best" ["lengths"] (sp__law_best K) [] := by
  obtain ⟨gm, fd, F⟩ := T.d__law_best
  refine ⟨_, fd, [], F.ok sc__law_best (fun vs H Q E h => ?_) (fun cdv A outer s H vs Q E hr h => ⟨_, (PSs.nox (pss_cons (ps_setLc (i := 1) (own := [("k", 2)]) (g := (gName 2)) (tt := tYes) rfl sc__law_best.nd rfl rfl (sw_true rfl rfl rfl (by decide +kernel)) (pi_range1 rfl T.b_range (pa_cons (pe_op op_add (pe_callB (lenK K) rfl T.b_len (by decide +kernel) (pa_cons (pv 0) pa_nil)) pe_int) pa_nil)) (blkOk_by (own := [("k", 2)]) (N := N__law_best) (sc := defScope s__law_best) (by decide +kernel)) (fun _ _ _ _ _ => pg_name (i := 2) sc__law_best.nd rfl (Or.inl rfl)) (fun _ _ _ _ _ => pts_nil) (fun _ _ _ _ _ => pe_int))
 (pss_cons (ps_setLc (i := 3) (own := [("k", 2)]) (g := (gName 2)) (tt := tYes) rfl sc__law_best.nd rfl rfl (sw_true rfl rfl rfl (by decide +kernel)) (pi_range1 rfl T.b_range (pa_cons (pe_callB (lenK K) rfl T.b_len (by decide +kernel) (pa_cons (pv 0) pa_nil)) pa_nil)) (blkOk_by (own := [("k", 2)]) (N := N__law_best) (sc := defScope s__law_best) (by decide +kernel)) (fun _ _ _ _ _ => pg_name (i := 2) sc__law_best.nd rfl (Or.inl rfl)) (fun _ _ _ _ _ => pts_nil) (fun _ _ _ _ _ => pe_non))
 (pss_cons (ps_for PassesOwn.never rfl (pi_range1 rfl T.b_range (pa_cons (pe_callB (lenK K) rfl T.b_len (by decide +kernel) (pa_cons (pv 0) pa_nil)) pa_nil)) (pg_name (i := 4) sc__law_best.nd rfl (Or.inl rfl))
 (pss_cons (ps_set (i := 5) sc__law_best.nd rfl (Or.inl rfl) (by exact (pe_op op_sub (pe_op op_sub (pe_callB (lenK K) rfl T.b_len (by decide +kernel) (pa_cons (pv 0) pa_nil)) pe_int) (pv 4))))
 (pss_cons (ps_set (i := 6) sc__law_best.nd rfl (Or.inl rfl) (by exact pe_non))
 (pss_cons (ps_for PassesOwn.never rfl (pi_list (pe_cl (ok__law_options T) (hr.mono (by decide)) rfl (pa_cons (pv 0) (pa_cons (pv 5) pa_nil)))) (pg_tup (by rfl) (pgs_cons (pg_name (i := 7) sc__law_best.nd rfl (Or.inl rfl)) (pgs_cons (pg_name (i := 8) sc__law_best.nd rfl (Or.inl rfl)) (pgs_cons (pg_name (i := 9) sc__law_best.nd rfl (Or.inl rfl)) pgs_nil))))
 (pss_cons (ps_set (i := 10) sc__law_best.nd rfl (Or.inl rfl) (by exact (pe_tup (pa_cons (pe_ix (ixl K) (pv 1) (pe_op op_add (pv 5) (pv 7)) (fun _ _ => rfl)) (pa_cons (pe_un un_neg (pv 7)) (pa_cons (pv 8) (pa_cons (pv 9) pa_nil)))))))
 (pss_one (ps_if (PW.pt (pw_or (pt_cmpR op_isN (pv 6) pe_non (nomark _)) (pw_or1 (pt_cmpR (op_ltT hr.units0) (pv 10) (pv 6) (nomark _)))))
 (pss_one (ps_set (i := 6) sc__law_best.nd rfl (Or.inl rfl) (by exact (pv 10))))
 pss_nil))))
 (pss_cons (ps_asg (pe_op op_add (pe_ix (ixt K) (pv 6) pe_int (fun _ _ => rfl)) pe_int) (pg_sub (pv 1) (pv 5) set_list))
 (pss_one (ps_asg (pv 6) (pg_sub (pv 3) (pv 5) set_list))))))))
 (pss_cons (ps_set (i := 11) sc__law_best.nd rfl (Or.inl rfl) (by exact (pe_lst pa_nil)))
 (pss_cons (ps_set (i := 5) sc__law_best.nd rfl (Or.inl rfl) (by exact pe_int))
 (pss_cons (ps_for PassesOwn.never rfl (pi_range1 rfl T.b_range (pa_cons (pe_callB (lenK K) rfl T.b_len (by decide +kernel) (pa_cons (pv 0) pa_nil)) pa_nil)) (pg_name (i := 4) sc__law_best.nd rfl (Or.inl rfl))
 (pss_one (ps_if (pt_cmpR op_lt (pv 5) (pe_callB (lenK K) rfl T.b_len (by decide +kernel) (pa_cons (pv 0) pa_nil)) (nomark _))
 (pss_cons (ps_expr (pe_bm PySem.F.plainAttrs_list PySem.F.slot_list_append PySem.F.type_list_append mt_append (pv 11) (pa_cons (pe_tup (pa_cons (pe_ix (ixt K) (pe_ix (ixl K) (pv 3) (pv 5) (fun _ _ => rfl)) pe_int (fun _ _ => rfl)) (pa_cons (pe_ix (ixt K) (pe_ix (ixl K) (pv 3) (pv 5) (fun _ _ => rfl)) pe_int (fun _ _ => rfl)) pa_nil))) pa_nil)))
 (pss_one (ps_set (i := 5) sc__law_best.nd rfl (Or.inl rfl) (by exact (pe_op op_sub (pv 5) (pe_ix (ixt K) (pe_ix (ixl K) (pv 3) (pv 5) (fun _ _ => rfl)) pe_int (fun _ _ => rfl)))))))
 pss_nil)))
 (pss_one (ps_ret (by exact (pv 11))))))))))), ?_⟩), gm, F.kp, F.bindsN (fun _ _ _ _ _ _ us hl => match us, hl with | [_], _ => rfl), .nil⟩
  · first | (obtain ⟨rfl, _⟩ := h; rfl) | (obtain ⟨_, rfl, _⟩ := h; rfl) | (obtain ⟨_, _, rfl, _⟩ := h; rfl) | (obtain ⟨_, _, _, rfl, _⟩ := h; rfl) | (obtain ⟨_, _, _, _, rfl, _⟩ := h; rfl) | (obtain ⟨_, _, _, _, _, rfl, _⟩ := h; rfl) | (obtain ⟨_, _, _, _, _, _, rfl, _⟩ := h; rfl) | (obtain ⟨_, _, _, _, _, _, _, rfl, _⟩ := h; rfl) | (obtain ⟨_, _, _, _, _, _, _, _, rfl, _⟩ := h; rfl) | (obtain ⟨_, _, _, _, _, _, _, _, _, rfl, _⟩ := h; rfl) | (obtain ⟨_, _, _, _, _, _, _, _, _, _, rfl, _⟩ := h; rfl) | (obtain ⟨_, _, _, _, _, _, _, _, _, _, _, rfl, _⟩ := h; rfl) | (obtain ⟨_, _, _, _, _, _, _, _, _, _, _, _, rfl, _⟩ := h; rfl) | (obtain ⟨_, _, _, _, _, _, _, _, _, _, _, _, _, rfl, _⟩ := h; rfl) | (obtain ⟨_, _, _, _, _, _, _, _, _, _, _, _, _, _, rfl, _⟩ := h; rfl) | (obtain ⟨_, _, _, _, _, _, _, _, _, _, _, _, _, _, _, rfl, _⟩ := h; rfl) | (obtain ⟨_, _, _, _, _, _, _, _, _, _, _, _, _, _, _, _, rfl, _⟩ := h; rfl) | (obtain ⟨_, _, _, _, _, _, _, _, _, _, _, _, _, _, _, _, _, rfl, _⟩ := h; rfl) | (obtain ⟨_, _, _, _, _, _, _, _, _, _, _, _, _, _, _, _, _, _, rfl, _⟩ := h; rfl) | (obtain ⟨_, _, _, _, _, _, _, _, _, _, _, _, _, _, _, _, _, _, _, rfl, _⟩ := h; rfl) | (obtain ⟨_, _, _, _, _, _, _, _, _, _, _, _, _, _, _, _, _, _, _, _, rfl, _⟩ := h; rfl) | (obtain ⟨_, _, _, _, _, _, _, _, _, _, _, _, _, _, _, _, _, _, _, _, _, rfl, _⟩ := h; rfl)
  · obtain ⟨a, ls, rfl, hS, hl, hv, q⟩ := h
    k_call_by "xo" st__law_best
    have L := Own.start (K := K) (H := H)
    wtm_at "oo"
    refine compRi (fun _ => 0) L (by omega) (fun i D H1 hi L1 => ?_) (fun D H1 L1 => ?_)
    · wtm_at "oo"
    have L1 : Own K H H1 [pI D (mV ls ls.length)] := by
      rw [mV_end]
      exact L1
    wtm_at "oo"
    intro F hF
    refine comp_range (fun i H' => Own K H H' [.pt F (.lst (List.replicate i V.non)), pI D (mV ls ls.length)]) (L1.new hF _) (fun i H2 hi h => ?_) (fun H2 h => ?_)
    · have hi2 : i < (ls.length : Int).toNat := hi
      wtm_at "oo"
      refine ⟨_, h.get mem_here, by rw [List.length_replicate, sizeLine_eq]; omega, ?_⟩
      have := h.put (o' := .lst (List.replicate i V.non ++ [V.non])) rfl .here
      rw [← List.replicate_succ'] at this ⊢
      exact this
    rw [Int.toNat_natCast] at h
    have L2 : Own K H H2 [.pt F (.lst (List.replicate ls.length V.non)), .ims (List.replicate ls.length V.non) (fD ls ls.length), pI D (mV ls ls.length)] := by
      refine (h.addIms (vs := List.replicate ls.length V.non) (ds := fD ls ls.length) ?_).pick (by wtm_at "pk")
      unfold fD cRs
      rw [Nat.sub_self]
      show ImmL K H2 _ (_ ++ [])
      rw [List.append_nil]
      generalize ls.length = n
      induction n with
      | zero => exact .nil
      | succ n ih =>
        rw [List.replicate_succ, List.replicate_succ]
        exact .cons .non ih
    clear h L1 hF
    wtm_at "oo"
    refine loop_rangeN (m := ls.length) (by omega) (fun t σ H' => ∃ fv y2 y4 y5 y6 y7 y8 y9 y10, σ = [some (.ref a), some (.ref D), y2, some (.ref F), y4, y5, y6, y7, y8, y9, y10, none] ∧ Own K H H' [.pt F (.lst fv), .ims fv (fD ls (ls.length - t)), pI D (mV ls (ls.length - t))])
      ⟨_, _, _, _, _, _, _, _, _, rfl, L2⟩ ?_ ?_
    · clear L2
      rintro t σ H3 ht ⟨fv, y2, y4, y5, y6, y7, y8, y9, y10, rfl, L⟩
      obtain ⟨k, hk⟩ : ∃ k, ls.length - t = k + 1 := ⟨ls.length - t - 1, by omega⟩
      have hk2 : ls.length - (t + 1) = k := by omega
      have hk3 : k < ls.length := by omega
      rw [hk] at L
      rw [hk2]
      wtm_at "oo"
      rw [show (ls.length : Int) - 1 - (0 + (t : Int)) = (k : Int) by omega]
      refine ⟨a, ls, k, rfl, by wtm_at "qo", by omega, hk3, fun op ous H4 M => ?_⟩
      have L3 := L.c2 M
      clear M
      wtm_at "oo"
      refine loop_list (xs := ous) (fun j σ H' => ∃ bv bd y2 y7 y8 y9 y10, σ = [some (.ref a), some (.ref D), y2, some (.ref F), some (.int (0 + (t : Int))), some (.int (k : Int)), some bv, y7, y8, y9, y10, none] ∧
        Own K H H' [.im bv bd, .pt op (.lst ous), .ims ous ((optL ls k).map tI), .pt F (.lst fv), .ims fv (fD ls (k + 1)), pI D (mV ls (k + 1))] ∧
        ((bv = .non ∧ j = 0) ∨ ∃ r o, bv = .ref r ∧ o ∈ (optL ls k).take j ∧ bd = tI (rk ls k o) ∧ ∀ o' ∈ (optL ls k).take j, HT.lexLt (rk ls k o') (rk ls k o) = false))
        ⟨.non, .none, _, _, _, _, _, rfl, L3.addIm .non, .inl ⟨rfl, rfl⟩⟩ (fun _ σ H' _ ⟨_, _, _, _, _, _, _, _, L, _⟩ => by wtm_at "qo") ?_ ?_
      · clear L L3
        rintro j v σ H5 hx ⟨bv, bd, y2, y7, y8, y9, y10, rfl, L, hb⟩
        obtain ⟨o, r, ho, rfl, hr⟩ := itemT L (vs := ous) (ts := optL ls k) (by wtm_at "mem") hx
        have om := (opt_is hk3).mp (List.mem_of_getElem? ho)
        obtain ⟨s, sym, ext, rfl, s1, s2, _⟩ := om
        have rl := rAt_le (ls := ls) (i := k)
        have eT : (optL ls k).take (j + 1) = (optL ls k).take j ++ [[s, sym, ext]] := by
          rw [List.take_add_one, ho]
          rfl
        have em := mV_at (ls := ls) (k := k + 1) (j := ((k : Int) + s).toNat) (by omega) (by omega)
        have el := mV_len (ls := ls) (k := k + 1)
        wtm_at "oo"
        rename_i rt H6 L6
        rw [em, show ((k : Int) + s).toNat = k + s.toNat by omega] at L6
        have L7 : Own K H H6 (.im (.ref rt) (tI (rk ls k [s, sym, ext])) :: _) := newT L6 (p := rt) (ns := [(mn ls (k + s.toNat) : Int), -s, sym, ext]) (by wtm_at "mem")
        clear L6 L
        rw [eT]
        rcases hb with ⟨rfl, rfl⟩ | ⟨r0, o0, rfl, m0, rfl, b0⟩
        · wtm_at "oo"
          refine ⟨tI (rk ls k [s, sym, ext]), L7.pick (by wtm_at "pk"), [s, sym, ext], by simp, rfl, fun o' m => ?_⟩
          have : o' = [s, sym, ext] := by simpa using m
          rw [this]
          exact lex_irr _
        · have h1 : SqT K H6 rt ((rk ls k [s, sym, ext]).map V.int) := L7.imT (by wtm_at "mem")
          have h2 : SqT K H6 r0 ((rk ls k o0).map V.int) := L7.imT (by wtm_at "mem")
          wtm_at "oo"
          refine ⟨_, h1, _, h2, ?_⟩
          cases eL : HT.lexLt (rk ls k [s, sym, ext]) (rk ls k o0) with
          | true =>
            wtm_at "oo"
            refine ⟨tI (rk ls k [s, sym, ext]), L7.pick (by wtm_at "pk"), [s, sym, ext], List.mem_append_right _ List.mem_cons_self, rfl, fun o' m => ?_⟩
            rcases List.mem_append.mp m with m | m
            · cases eo : HT.lexLt (rk ls k o') (rk ls k [s, sym, ext]) with
              | false => rfl
              | true =>
                have := lex_trans eo eL
                rw [b0 o' m] at this
                cases this
            · rw [List.mem_singleton.mp m]
              exact lex_irr _
          | false =>
            wtm_at "oo"
            refine ⟨tI (rk ls k o0), L7.pick (by wtm_at "pk"), o0, List.mem_append_left _ m0, rfl, fun o' m => ?_⟩
            rcases List.mem_append.mp m with m | m
            · exact b0 o' m
            · rw [List.mem_singleton.mp m]
              exact eL
      · rintro σ H5 ⟨bv, bd, y2, y7, y8, y9, y10, rfl, L, hb⟩
        rw [List.take_of_length_le (by have := lenT L (vs := ous) (ts := optL ls k) (by wtm_at "mem"); omega)] at hb
        have ci : chO ls k ∈ optL ls k := (opt_is hk3).mpr (cho_in hk3)
        rcases hb with ⟨_, e⟩ | ⟨r0, o0, rfl, m0, rfl, b0⟩
        · have := lenT L (vs := ous) (ts := optL ls k) (by wtm_at "mem")
          rw [e] at this
          rw [List.eq_nil_of_length_eq_zero this.symm] at ci
          cases ci
        have v16 : vAt ls k < 16 := (hv _ (by
          unfold vAt
          rw [List.getD_eq_getElem?_getD, List.getElem?_eq_getElem hk3]
          exact List.getElem_mem hk3)).2
        have eb : rk ls k o0 = cR ls k := lex_anti (cho_best hk3 v16 ((opt_is hk3).mp m0)) (b0 _ ci)
        rw [eb] at L
        clear b0 m0 ci eb v16
        have h2 : SqT K H5 r0 ((cR ls k).map V.int) := L.imT (by wtm_at "mem")
        have h2 : SqT K H5 r0 (([(mn ls (k + gAt ls k) : Int), -(gAt ls k : Int), (rowAt ls k).getD 0 0, (rowAt ls k).getD 1 0] : List Int).map V.int) := h2
        have g := gAt_in hk3
        have rl := rAt_le (ls := ls) (i := k)
        have mg := mn_go hk3
        have el := mV_len (ls := ls) (k := k + 1)
        have lf := (L.imms (vs := fv) (ds := fD ls (k + 1)) (by wtm_at "mem")).len
        rw [fD_len (by omega)] at lf
        wtm_at "oo"
        rename_i H6 L6
        rw [Int.toNat_natCast, show ((mn ls (k + gAt ls k) : Int) + 1) = mn ls k by omega, mV_set hk3] at L6
        have L7 := L6.addIms (vs := fv.set k (.ref r0)) (ds := fD ls k) (by
          rw [← fD_set hk3]
          exact ImmL.set k (L6.imm (v := .ref r0) (d := tI (cR ls k)) (by wtm_at "mem")) (L6.imms (vs := fv) (ds := fD ls (k + 1)) (by wtm_at "mem")))
        exact ⟨_, L7.pick (by wtm_at "pk")⟩
    · rintro σ H3 ⟨fv, y2, y4, y5, y6, y7, y8, y9, y10, rfl, L⟩
      rw [Nat.sub_self] at L
      wtm_at "oo"
      rename_i rp H4 L4
      refine loop_rangeN (m := ls.length) (by omega) (fun t σ H' => ∃ i us ts y2 y4 y6 y7 y8 y9 y10, σ = [some (.ref a), some (.ref D), y2, some (.ref F), y4, some (.int ((i : Nat) : Int)), y6, y7, y8, y9, y10, some (.ref rp)] ∧
        Own K H H' [.pt rp (.lst us), .ims us (ts.map tI), .pt F (.lst fv), .ims fv (fD ls 0)] ∧ pth ls 0 = ts ++ pth ls i ∧ ts.length ≤ t ∧ (ls.length ≤ i ∨ t ≤ i))
        ⟨0, [], [], _, _, _, _, _, _, _, rfl, (nilT L4).pick (by wtm_at "pk"), rfl, Nat.zero_le _, .inr (Nat.zero_le _)⟩ ?_ ?_
      · clear L L4
        rintro t σ H5 ht ⟨i, us, ts, y2, y4, y6, y7, y8, y9, y10, rfl, L, e, tl, hi⟩
        have lu := lenT L (vs := us) (ts := ts) (by wtm_at "mem")
        wtm_at "oo"
        refine sel_d (fun c => ?_) (fun c => ?_)
        · have hi2 : i < ls.length := by omega
          obtain ⟨v, ev, im⟩ := ImmL.at_ (L.imms (vs := fv) (ds := fD ls 0) (by wtm_at "mem")) (fD_at hi2)
          obtain ⟨r0, rfl, h2⟩ := Imm.of_ints im
          have L := L.addIm (v := .ref r0) (d := tI [(mn ls (i + gAt ls i) : Int), -(gAt ls i : Int), (rowAt ls i).getD 0 0, (rowAt ls i).getD 1 0]) im
          clear h2
          have g := gAt_in hi2
          wtm_at "oo"
          refine ⟨_, atI_nat ev, ?_⟩
          wtm_at "oo"
          refine ⟨_, atI_nat ev, ?_⟩
          wtm_at "oo"
          refine ⟨_, atI_nat ev, ?_⟩
          wtm_at "oo"
          rename_i tr H6 L6 H7 L7
          have L8 := snocT L7 (us := us) (ts := ts) (r := tr) (t := [(rowAt ls i).getD 0 0, (rowAt ls i).getD 1 0]) (by wtm_at "mem") (by wtm_at "mem")
          have e2 : [(rowAt ls i).getD 0 0, (rowAt ls i).getD 1 0] = rowAt ls i := (rowR_two _ _ _).symm
          rw [e2] at L8
          exact ⟨i + gAt ls i, by omega, _, ts ++ [rowAt ls i], L8.pick (by wtm_at "pk"), by rw [e, pth_go hi2, List.append_assoc]; rfl, by rw [List.length_append, List.length_singleton]; omega, by omega⟩
        · wtm_at "oo"
          exact ⟨i, rfl, us, ts, L, e, by omega, .inl (by omega)⟩
      · rintro σ H5 ⟨i, us, ts, y2, y4, y6, y7, y8, y9, y10, rfl, L, e, tl, hi⟩
        wtm_at "oo"
        rw [pth_out (i := i) (by omega), List.append_nil] at e
        rw [← e] at L
        exact q rp us H5 (L.sub (List.Sublist.cons_cons _ (List.Sublist.cons_cons _ (List.nil_sublist _))))


end
end K41

namespace K41
open PySem PySem.Spec PyProof.Rows L2 Bel
local macro_rules | `(tactic| wtm_at "xs") => `(tactic| simp only [x_next, x_seq, x_brk, x_cont, x_drop, x_ret, x_retN, x_if, sel_t, sel_f, selE_t, selE_f, selT_t, selT_f, selC_t, selC_f, x_test, x_tB, x_op, x_un, x_var, x_c, x_cb, x_nil, x_cons, x_rI, x_rI0, x_rU, x_rEq, x_rNe, x_rIxL, x_rIxT, x_rSlL, x_rCat, x_rRep, x_rApp, x_bm, x_bm0, x_sl, x_nopart, x_part, x_tup, x_lst, x_call, x_callS, x_asg, x_gname, x_gtup, x_gnil, x_gcons, x_gsub, x_setL, x_aug, x_ipI, x_ipC, x_bits, x_getL, x_augS, x_and, x_or, x_not, x_k, x_andV, x_orV, x_notV, x_ife, x_chain, x_for, x_ilist, x_itup, x_ienum, x_irng1, x_irng2, x_irev, x_lc, x_yes, wipe_nil, wipe_cons, List.map_cons, List.map_nil, x_misc, x_misc2, x_rz, lookup_at, Bool.not_true, Bool.not_false, decide_true, decide_false, not_true, not_false_eq_true, and_assoc, exists_and_left, exists_eq_left', exists_eq_left, exists_eq', exists_eq_right', exists_eq_right, V.int.injEq, V.ref.injEq, V.bl.injEq, V.str.injEq, List.cons.injEq, and_true, true_and, and_self, Option.some.injEq, List.cons_append, List.nil_append, List.append_nil, List.getElem?_cons_zero, List.getElem?_cons_succ, List.set_cons_zero, List.set_cons_succ, reduceCtorEq, false_and, and_false, exists_false, exists_const, or_false, false_or, scal_ii, scal_bb, scal_ss, List.length_cons, List.length_nil, Int.reduceToNat, Int.reducePow])
local macro_rules | `(tactic| k_call_by "xs" $h:term) => `(tactic| simp only [$h:term, x_next, x_seq, x_brk, x_cont, x_drop, x_ret, x_retN, x_if, sel_t, sel_f, selE_t, selE_f, selT_t, selT_f, selC_t, selC_f, x_test, x_tB, x_op, x_un, x_var, x_c, x_cb, x_nil, x_cons, x_rI, x_rI0, x_rU, x_rEq, x_rNe, x_rIxL, x_rIxT, x_rSlL, x_rCat, x_rRep, x_rApp, x_bm, x_bm0, x_sl, x_nopart, x_part, x_tup, x_lst, x_call, x_callS, x_asg, x_gname, x_gtup, x_gnil, x_gcons, x_gsub, x_setL, x_aug, x_ipI, x_ipC, x_bits, x_getL, x_augS, x_and, x_or, x_not, x_k, x_andV, x_orV, x_notV, x_ife, x_chain, x_for, x_ilist, x_itup, x_ienum, x_irng1, x_irng2, x_irev, x_lc, x_yes, wipe_nil, wipe_cons, List.map_cons, List.map_nil, x_misc, x_misc2, x_rz, lookup_at, Bool.not_true, Bool.not_false, decide_true, decide_false, not_true, not_false_eq_true, and_assoc, exists_and_left, exists_eq_left', exists_eq_left, exists_eq', exists_eq_right', exists_eq_right, V.int.injEq, V.ref.injEq, V.bl.injEq, V.str.injEq, List.cons.injEq, and_true, true_and, and_self, Option.some.injEq, List.cons_append, List.nil_append, List.append_nil, List.getElem?_cons_zero, List.getElem?_cons_succ, List.set_cons_zero, List.set_cons_succ, reduceCtorEq, false_and, and_false, exists_false, exists_const, or_false, false_or, scal_ii, scal_bb, scal_ss, List.length_cons, List.length_nil, Int.reduceToNat, Int.reducePow])
local macro_rules | `(tactic| wtm_at "hp") => `(tactic| first | (with_reducible assumption) | exact upd_same | (refine upd_keep (by with_reducible assumption) ?_; wtm_at "hp") | (refine Same.get (by with_reducible assumption) ?_; wtm_at "hp") | (refine upd_other (by first | (with_reducible assumption) | exact Ne.symm (by with_reducible assumption)) ?_; wtm_at "hp"))
local macro_rules | `(tactic| wtm_at "sq") => `(tactic| first | (with_reducible assumption) | exact SqL.of (by wtm_at "hp") | exact SqT.of (by wtm_at "hp") | (refine Same.seq (same_upd (by with_reducible assumption)) ?_; wtm_at "sq") | (refine Same.seq (by with_reducible assumption) ?_; wtm_at "sq") | (refine Same.seqT (same_upd (by with_reducible assumption)) ?_; wtm_at "sq") | (refine Same.seqT (by with_reducible assumption) ?_; wtm_at "sq"))
local macro_rules | `(tactic| wtm_at "cl") => `(tactic| first | (with_reducible assumption) | omega | (exact cmul_r (by omega) (by omega)) | (exact cmul_l (by omega) (by omega)) | (exact cdiv_ok (by omega) (by omega)) | (exact cpow_ok (by decide)) | (exact ⟨by omega, by omega, by omega⟩) | decide | (exact ⟨by omega, by omega⟩) | (simp only [List.length_append, List.length_map, List.length_set, List.length_cons, List.length_nil, rngL_len, sizeLine_eq]; omega) | wtm_at "hp" | wtm_at "sq")
local macro_rules | `(tactic| wtm_at "pf") => `(tactic| first | (with_reducible assumption) | omega | (simp only [List.length_append, List.length_map, List.length_set, List.length_cons, List.length_nil, rngL_len]; omega) | (with_reducible rfl) | (with_reducible trivial) | (with_reducible decide))
local macro_rules | `(tactic| wtm_at "st") => `(tactic| first | ((with_reducible refine g_at ?_); refine at_call (by wtm_at "sq") (by omega) (by omega) (fun _ _ => ?_)) | ((with_reducible refine g_int ?_); refine int_call ?_) | ((with_reducible refine g_isi ?_); first | (with_reducible refine isi_ii ?_) | (with_reducible refine isi_ib ?_) | (refine isi_int rfl ?_) | (refine isi_lst rfl (by wtm_at "hp") ?_) | (refine isi_tup rfl (by wtm_at "hp") ?_)) | ((with_reducible refine g_ned ?_); refine ned_f (dq_lst (by wtm_at "sq")) (dq_lst (by wtm_at "sq")) ?_) | ((with_reducible refine g_eqd ?_); refine eqd_t (dq_lst (by wtm_at "sq")) (dq_lst (by wtm_at "sq")) ?_) | ((with_reducible refine g_tyv ?_); refine and_tyv (by wtm_at "sq") ?_) | ((with_reducible refine g_asq ?_); refine and_sq (by wtm_at "sq") ?_) | ((with_reducible refine g_lst ?_); refine ex_lst (by wtm_at "hp") ?_) | ((with_reducible refine g_or ?_); first | (refine ex_or (by wtm_at "sq") ?_) | (refine ex_ort (by wtm_at "sq") ?_)) | ((with_reducible refine g_sq ?_); refine ex_sq (by wtm_at "sq") ?_) | ((with_reducible refine g_sqt ?_); refine ex_sqt (by wtm_at "sq") ?_) | ((with_reducible refine gd_sel ?_); first | (refine sel_p (by wtm_at "pf") ?_) | (refine sel_n (by wtm_at "pf") ?_)) | ((with_reducible refine gn_sel ?_); first | (refine selN_p (by wtm_at "pf") ?_) | (refine selN_n (by wtm_at "pf") ?_)) | ((with_reducible refine gd_selT ?_); first | (refine selT_p (by wtm_at "pf") ?_) | (refine selT_n (by wtm_at "pf") ?_)) | ((with_reducible refine gn_selT ?_); first | (refine selTN_p (by wtm_at "pf") ?_) | (refine selTN_n (by wtm_at "pf") ?_)) | ((with_reducible refine gd_selE ?_); first | (refine selE_p (by wtm_at "pf") ?_) | (refine selE_n (by wtm_at "pf") ?_)) | ((with_reducible refine gn_selE ?_); first | (refine selEN_p (by wtm_at "pf") ?_) | (refine selEN_n (by wtm_at "pf") ?_)) | ((with_reducible refine g_xf ?_); refine xf_at rfl (by wtm_at "hp") ?_) | ((with_reducible refine g_atI ?_); refine ex_at (by first | exact rfl | exact atI_int (by omega) (by wtm_at "pf") | exact atI_end (by wtm_at "pf")) ?_) | ((with_reducible refine g_and ?_); refine And.intro (by wtm_at "cl") ?_) | ((with_reducible refine g_new ?_); intro _ _))
local macro_rules | `(tactic| wtm_at "go") => `(tactic| repeat (first | wtm_at "xs" | wtm_at "st"))
local macro_rules | `(tactic| wtm_at "xo") => `(tactic| simp only [x_next, x_seq, x_brk, x_cont, x_drop, x_ret, x_retN, x_if, sel_t, sel_f, selE_t, selE_f, selT_t, selT_f, selC_t, selC_f, x_test, x_tB, x_op, x_un, x_var, x_c, x_cb, x_nil, x_cons, x_rI, x_rI0, x_rU, x_rEq, x_rNe, x_rIxL, x_rIxT, n_rSlL, n_rCat, n_rRep, n_rApp, x_bm, x_bm0, x_sl, x_nopart, x_part, n_tup, n_lst, x_call, x_callS, x_asg, x_gname, x_gtup, x_gnil, x_gcons, x_gsub, n_setL, x_aug, x_ipI, x_ipC, x_bits, x_getL, x_augS, x_and, x_or, x_not, x_k, x_andV, x_orV, x_notV, x_ife, x_chain, x_for, x_ilist, x_itup, x_ienum, x_irng1, x_irng2, x_irev, x_lc, x_yes, wipe_nil, wipe_cons, List.map_cons, List.map_nil, x_misc, x_misc2, x_rz, lookup_at, Bool.not_true, Bool.not_false, decide_true, decide_false, not_true, not_false_eq_true, and_assoc, exists_and_left, exists_eq_left', exists_eq_left, exists_eq', exists_eq_right', exists_eq_right, V.int.injEq, V.ref.injEq, V.bl.injEq, V.str.injEq, List.cons.injEq, and_true, true_and, and_self, Option.some.injEq, List.cons_append, List.nil_append, List.append_nil, List.getElem?_cons_zero, List.getElem?_cons_succ, List.set_cons_zero, List.set_cons_succ, reduceCtorEq, false_and, and_false, exists_false, exists_const, or_false, false_or, scal_ii, scal_bb, scal_ss, List.length_cons, List.length_nil, Int.reduceToNat, Int.reducePow, n_fld, n_sfld, n_aug, n_meth, n_mw, n_make, n_kw, n_rLs, n_dcp, n_gget, n_rLtT, n_ext, n_revL, n_rTp, t_im, ints_rev, t_s1, t_i1, t_i2, t_i3, t_i4, t_i5, x_chain3, x_irng3, x_irevR, x_rg1, x_rg2, ints_cat, ints_app1, ints_len, ints_take, ints_drop, rep_one])
local macro_rules | `(tactic| k_call_by "xo" $h:term) => `(tactic| simp only [$h:term, x_next, x_seq, x_brk, x_cont, x_drop, x_ret, x_retN, x_if, sel_t, sel_f, selE_t, selE_f, selT_t, selT_f, selC_t, selC_f, x_test, x_tB, x_op, x_un, x_var, x_c, x_cb, x_nil, x_cons, x_rI, x_rI0, x_rU, x_rEq, x_rNe, x_rIxL, x_rIxT, n_rSlL, n_rCat, n_rRep, n_rApp, x_bm, x_bm0, x_sl, x_nopart, x_part, n_tup, n_lst, x_call, x_callS, x_asg, x_gname, x_gtup, x_gnil, x_gcons, x_gsub, n_setL, x_aug, x_ipI, x_ipC, x_bits, x_getL, x_augS, x_and, x_or, x_not, x_k, x_andV, x_orV, x_notV, x_ife, x_chain, x_for, x_ilist, x_itup, x_ienum, x_irng1, x_irng2, x_irev, x_lc, x_yes, wipe_nil, wipe_cons, List.map_cons, List.map_nil, x_misc, x_misc2, x_rz, lookup_at, Bool.not_true, Bool.not_false, decide_true, decide_false, not_true, not_false_eq_true, and_assoc, exists_and_left, exists_eq_left', exists_eq_left, exists_eq', exists_eq_right', exists_eq_right, V.int.injEq, V.ref.injEq, V.bl.injEq, V.str.injEq, List.cons.injEq, and_true, true_and, and_self, Option.some.injEq, List.cons_append, List.nil_append, List.append_nil, List.getElem?_cons_zero, List.getElem?_cons_succ, List.set_cons_zero, List.set_cons_succ, reduceCtorEq, false_and, and_false, exists_false, exists_const, or_false, false_or, scal_ii, scal_bb, scal_ss, List.length_cons, List.length_nil, Int.reduceToNat, Int.reducePow, n_fld, n_sfld, n_aug, n_meth, n_mw, n_make, n_kw, n_rLs, n_dcp, n_gget, n_rLtT, n_ext, n_revL, n_rTp, t_im, ints_rev, t_s1, t_i1, t_i2, t_i3, t_i4, t_i5, x_chain3, x_irng3, x_irevR, x_rg1, x_rg2, ints_cat, ints_app1, ints_len, ints_take, ints_drop, rep_one])
local macro_rules | `(tactic| wtm_at "mem") => `(tactic| first | (with_reducible exact mem_here) | (with_reducible refine mem_there ?_; wtm_at "mem"))
local macro_rules | `(tactic| wtm_at "pp") => `(tactic| first | (with_reducible exact Put.here) | (with_reducible apply Put.there; wtm_at "pp"))
local macro_rules | `(tactic| wtm_at "ho") => `(tactic| first | (with_reducible assumption) | exact Own.get (by with_reducible assumption) (by wtm_at "mem") | exact Own.base (by with_reducible assumption) (by with_reducible assumption))
local macro_rules | `(tactic| wtm_at "qo") => `(tactic| first | (with_reducible assumption) | exact SqL.of (by wtm_at "ho") | exact sqT_tupI (by wtm_at "ho") | exact sqT_tupS (by wtm_at "ho") | exact SqT.of (by wtm_at "ho") | exact Own.imT (by with_reducible assumption) (by wtm_at "mem") | exact Own.sq (by with_reducible assumption) (by with_reducible assumption) | exact Own.sqT (by with_reducible assumption) (by with_reducible assumption))
local macro_rules | `(tactic| wtm_at "sub") => `(tactic| first | exact List.nil_sublist _ | (with_reducible refine List.Sublist.cons_cons _ ?_; wtm_at "sub") | (refine List.Sublist.cons _ ?_; wtm_at "sub"))
local macro_rules | `(tactic| wtm_at "co") => `(tactic| first | (with_reducible assumption) | omega | (exact cmul_r (by omega) (by omega)) | (exact cmul_l (by omega) (by omega)) | (exact cdiv_ok (by omega) (by omega)) | (exact cpow_ok (by decide)) | (exact ⟨by omega, by omega, by omega⟩) | decide | (exact ⟨by omega, by omega⟩) | (simp only [List.length_append, List.length_map, List.length_set, List.length_cons, List.length_nil, rngL_len, sizeLine_eq]; omega) | wtm_at "ho" | wtm_at "qo")
local macro_rules | `(tactic| wtm_at "so") => `(tactic| first | ((with_reducible refine g_dcp ?_); refine dcpI (by wtm_at "ho") ?_) | ((with_reducible refine g_asl ?_); refine And.intro (by rfl) ?_) | ((with_reducible refine g_asqT ?_); refine and_sqT (by wtm_at "qo") ?_) | ((with_reducible refine g_extO ?_); first | (refine extI (by with_reducible assumption) (by wtm_at "pp") (by wtm_at "co") (fun _ _ => ?_)) | (refine extO (by with_reducible assumption) (by wtm_at "pp") (by wtm_at "co") (fun _ _ => ?_))) | ((with_reducible refine g_tp ?_); first | (refine tp_l (by wtm_at "qo") ?_) | (refine tp_t (by wtm_at "qo") ?_)) | ((with_reducible refine g_fldO ?_); refine fldO (by wtm_at "ho") (by with_reducible assumption) (by wtm_at "mem") (by wtm_at "lk") ?_) | ((with_reducible refine g_fldC ?_); refine fldC (by wtm_at "ho") (by with_reducible assumption) (by wtm_at "mem") (by wtm_at "lk") ?_) | ((with_reducible refine g_putC ?_); refine putC (by with_reducible assumption) (by wtm_at "pp") (by wtm_at "pu") (by wtm_at "co") (fun _ _ => ?_)) | ((with_reducible refine g_stoO ?_); refine stoO (by with_reducible assumption) (by wtm_at "pp") (by wtm_at "pu") (by with_reducible assumption) (by wtm_at "mem") (by wtm_at "co") (fun _ _ => ?_)) | ((with_reducible refine g_metO ?_); refine metO (by wtm_at "ho") (by wtm_at "ln") ?_) | ((with_reducible refine g_makO ?_); refine makO (by with_reducible assumption) (fun _ _ _ _ => ?_)) | ((with_reducible refine g_sum ?_); refine sum_call (by wtm_at "qo") ?_) | ((with_reducible refine g_cq ?_); exact cq (by with_reducible assumption) (by simp only [rngL_len, List.length_map, List.length_take]; omega)) | ((with_reducible refine g_newO ?_); refine newO (by with_reducible assumption) (fun _ _ _ => ?_)) | ((with_reducible refine g_appO ?_); refine appI (by with_reducible assumption) (by wtm_at "pp") (by wtm_at "co") (fun _ _ => ?_)) | ((with_reducible refine g_setO ?_); refine setI (by with_reducible assumption) (by wtm_at "pp") (by omega) (by wtm_at "co") (fun _ _ => ?_)) | ((with_reducible refine g_appO ?_); refine appO (by with_reducible assumption) (by wtm_at "pp") (by wtm_at "co") (fun _ _ => ?_)) | ((with_reducible refine g_setO ?_); refine setO (by with_reducible assumption) (by wtm_at "pp") (by omega) (by wtm_at "co") (fun _ _ => ?_)) | ((with_reducible refine g_at ?_); refine at_call (by wtm_at "qo") (by omega) (by omega) (fun _ _ => ?_)) | ((with_reducible refine g_int ?_); refine int_call ?_) | ((with_reducible refine g_isi ?_); first | (with_reducible refine isi_ii ?_) | (with_reducible refine isi_ib ?_) | (refine isi_int rfl ?_) | (refine isi_sqL rfl (by wtm_at "qo") ?_) | (refine isi_sqT rfl (by wtm_at "qo") ?_) | (refine isi_bl rfl ?_) | (refine isi_non rfl ?_) | (refine isi_str rfl ?_)) | ((with_reducible refine g_ned ?_); first | (refine ned_f (dq_lst (by wtm_at "qo")) (dq_lst (by wtm_at "qo")) ?_) | (refine ned_ints (by wtm_at "qo") (by wtm_at "qo") ?_) | (refine nedT_ints (by wtm_at "qo") (by wtm_at "qo") ?_)) | ((with_reducible refine g_eqd ?_); first | (refine eqd_t (dq_lst (by wtm_at "qo")) (dq_lst (by wtm_at "qo")) ?_) | (refine eqd_ints (by wtm_at "qo") (by wtm_at "qo") ?_) | (refine eqdT_ints (by wtm_at "qo") (by wtm_at "qo") ?_)) | ((with_reducible refine g_tyv ?_); refine and_tyv (by wtm_at "qo") ?_) | ((with_reducible refine g_asq ?_); refine and_sq (by wtm_at "qo") ?_) | ((with_reducible refine g_lst ?_); refine ex_lst (by wtm_at "ho") ?_) | ((with_reducible refine g_or ?_); first | (refine ex_or (by wtm_at "qo") ?_) | (refine ex_ort (by wtm_at "qo") ?_)) | ((with_reducible refine g_sq ?_); refine ex_sq (by wtm_at "qo") ?_) | ((with_reducible refine g_sqt ?_); refine ex_sqt (by wtm_at "qo") ?_) | ((with_reducible refine gd_sel ?_); first | (refine sel_p (by wtm_at "pf") ?_) | (refine sel_n (by wtm_at "pf") ?_)) | ((with_reducible refine gn_sel ?_); first | (refine selN_p (by wtm_at "pf") ?_) | (refine selN_n (by wtm_at "pf") ?_)) | ((with_reducible refine gd_selT ?_); first | (refine selT_p (by wtm_at "pf") ?_) | (refine selT_n (by wtm_at "pf") ?_)) | ((with_reducible refine gn_selT ?_); first | (refine selTN_p (by wtm_at "pf") ?_) | (refine selTN_n (by wtm_at "pf") ?_)) | ((with_reducible refine gd_selE ?_); first | (refine selE_p (by wtm_at "pf") ?_) | (refine selE_n (by wtm_at "pf") ?_)) | ((with_reducible refine gn_selE ?_); first | (refine selEN_p (by wtm_at "pf") ?_) | (refine selEN_n (by wtm_at "pf") ?_)) | ((with_reducible refine g_xf ?_); refine xf_at rfl (by wtm_at "ho") ?_) | ((with_reducible refine g_atI ?_); refine ex_at (by first | exact rfl | exact atI_int (by omega) (by wtm_at "pf") | exact atI_end (by wtm_at "pf")) ?_) | ((with_reducible refine g_and ?_); refine And.intro (by wtm_at "co") ?_))
local macro_rules | `(tactic| wtm_at "oo") => `(tactic| repeat (first | wtm_at "xo" | wtm_at "so"))
local macro_rules | `(tactic| wtm_at "cR") => `(tactic| (refine' compRi _ (by with_reducible assumption) (by omega) (fun _ _ _ _ _ => ?_) (fun _ _ _ => ?_); rotate_left; focus (wtm_at "oo")))

local macro_rules | `(tactic| wtm_at "lk") => `(tactic| first | (with_reducible exact lk_here) | (simp only [lk_here, lk_skip, lk_nil]; first | done | exact rfl))
local macro_rules | `(tactic| wtm_at "ln") => `(tactic| first | (with_reducible exact lk_nil) | (simp only [lk_skip, lk_nil]; done))
local macro_rules | `(tactic| wtm_at "pu") => `(tactic| first | (with_reducible exact pf_nil) | (simp only [pf_nil, pf_here, pf_skip]; first | done | exact rfl))
local macro_rules | `(tactic| wtm_at "tk") => `(tactic| first | (with_reducible exact Take.here) | (exact Take.here) | ((with_reducible apply Take.there); wtm_at "tk"))
local macro_rules | `(tactic| wtm_at "pk") => `(tactic| first | exact Pick.nil | ((with_reducible refine' Pick.cons ?tk1 ?pk1); (case tk1 => wtm_at "tk"); (case pk1 => wtm_at "pk")) | ((with_reducible refine Pick.im (by wtm_at "mem") ?_); wtm_at "pk") | ((with_reducible refine Pick.ims (by wtm_at "mem") ?_); wtm_at "pk"))
section
variable {P : Program} {w : World} {K : PySem.W.Frag} {mg : Str → Option Value} {base : Heap}
theorem pth_two {ls : List Int} : ∀ (n i : Nat), ∀ t ∈ pthF ls n i, ∃ x y, t = [x, y]
  | 0, _, _, h => nomatch h
  | n + 1, i, t, h => by
    unfold pthF at h
    split at h
    · rcases List.mem_cons.mp h with e | h
      · exact ⟨_, _, e.trans (rowR_two _ _ _)⟩
      · exact pth_two n _ t h
    · cases h
def sp_law (K : PySem.W.Frag) : Sp := fun vs H Q _ => ∃ (a : Addr) (ns : List Int), vs = [.ref a] ∧ SqL K H a (ns.map V.int) ∧ ns.length ≤ 63 ∧ ∀ H', Q (.bl true) H'
theorem okf_law (T : Tx K mg) {fd : FuncData} (F : FunD K "law" "law" (defArgs s_law) (defBody s_law) (defScope s_law) [] [] (He.ga K "law") fd) : FnOk P w K mg base (L2N.CX P w) 5 (He.ga K "law") fd ["script"] (sp_law K) := by
  refine F.ok sc_law (fun vs H Q E h => ?_) (fun cdv A outer s H vs Q E hr h => ⟨_, (PSs.nox (pss_cons (ps_set (i := 1) sc_law.nd rfl (Or.inl rfl) (by exact (pe_cl (ok__law_lengths T) (hr.mono (by decide)) rfl (pa_cons (pe_cl (ok__law_draws T) (hr.mono (by decide)) rfl (pa_cons (pv 0) pa_nil)) pa_nil))))
 (pss_cons (ps_set (i := 2) sc_law.nd rfl (Or.inl rfl) (by exact (pe_callTy (lsK K) rfl T.b_list (by decide +kernel) (pa_cons (pv 1) pa_nil))))
 (pss_cons (ps_set (i := 3) sc_law.nd rfl (Or.inl rfl) (by exact (pe_cl (ok_rows_of T) (hr.mono (by decide)) rfl (pa_cons (pv 1) pa_nil))))
 (pss_cons (ps_if (PW.pt (pw_or (pt_not (pt_val (pe_callB (isiK K) rfl T.b_isinstance (by decide +kernel) (pa_cons (pv 3) (pa_cons (pe_bltn (v := .ty "list") rfl T.b_list (by decide +kernel) rfl) pa_nil))))) (pw_or1 (pt_cmpR (neK K hr.units) (pv 1) (pv 2) (nomark _)))))
 (pss_one (ps_ret (by exact pe_bl)))
 pss_nil)
 (pss_cons (ps_for PassesOwn.never rfl (pi_list (pv 3)) (pg_name (i := 4) sc_law.nd rfl (Or.inl rfl))
 (pss_one (ps_if (PW.pt (pw_or (pt_not (pt_val (pe_callB (isiK K) rfl T.b_isinstance (by decide +kernel) (pa_cons (pv 4) (pa_cons (pe_bltn (v := .ty "tuple") rfl T.b_tuple (by decide +kernel) rfl) pa_nil))))) (pw_or (pt_cmpR op_ne (pe_callB (lenK K) rfl T.b_len (by decide +kernel) (pa_cons (pv 4) pa_nil)) pe_int (nomark _)) (pw_or (pt_not (pt_val (pe_cl (ok__law_is_integer T) (hr.mono (by decide)) rfl (pa_cons (pe_ix (ixt K) (pv 4) pe_int (fun _ _ => rfl)) pa_nil)))) (pw_or1 (pt_not (pt_val (pe_cl (ok__law_is_integer T) (hr.mono (by decide)) rfl (pa_cons (pe_ix (ixt K) (pv 4) pe_int (fun _ _ => rfl)) pa_nil)))))))))
 (pss_one (ps_ret (by exact pe_bl)))
 pss_nil)))
 (pss_one (ps_ret (by exact (pe_cmpR (eqK K hr.units) (pv 3) (pe_cl (ok__law_best T) (hr.mono (by decide)) rfl (pa_cons (pv 2) pa_nil)) (nomark _))))))))))), ?_⟩)
  · first | (obtain ⟨rfl, _⟩ := h; rfl) | (obtain ⟨_, rfl, _⟩ := h; rfl) | (obtain ⟨_, _, rfl, _⟩ := h; rfl) | (obtain ⟨_, _, _, rfl, _⟩ := h; rfl) | (obtain ⟨_, _, _, _, rfl, _⟩ := h; rfl) | (obtain ⟨_, _, _, _, _, rfl, _⟩ := h; rfl) | (obtain ⟨_, _, _, _, _, _, rfl, _⟩ := h; rfl) | (obtain ⟨_, _, _, _, _, _, _, rfl, _⟩ := h; rfl) | (obtain ⟨_, _, _, _, _, _, _, _, rfl, _⟩ := h; rfl) | (obtain ⟨_, _, _, _, _, _, _, _, _, rfl, _⟩ := h; rfl) | (obtain ⟨_, _, _, _, _, _, _, _, _, _, rfl, _⟩ := h; rfl) | (obtain ⟨_, _, _, _, _, _, _, _, _, _, _, rfl, _⟩ := h; rfl) | (obtain ⟨_, _, _, _, _, _, _, _, _, _, _, _, rfl, _⟩ := h; rfl) | (obtain ⟨_, _, _, _, _, _, _, _, _, _, _, _, _, rfl, _⟩ := h; rfl) | (obtain ⟨_, _, _, _, _, _, _, _, _, _, _, _, _, _, rfl, _⟩ := h; rfl) | (obtain ⟨_, _, _, _, _, _, _, _, _, _, _, _, _, _, _, rfl, _⟩ := h; rfl) | (obtain ⟨_, _, _, _, _, _, _, _, _, _, _, _, _, _, _, _, rfl, _⟩ := h; rfl) | (obtain ⟨_, _, _, _, _, _, _, _, _, _, _, _, _, _, _, _, _, rfl, _⟩ := h; rfl) | (obtain ⟨_, _, _, _, _, _, _, _, _, _, _, _, _, _, _, _, _, _, rfl, _⟩ := h; rfl) | (obtain ⟨_, _, _, _, _, _, _, _, _, _, _, _, _, _, _, _, _, _, _, rfl, _⟩ := h; rfl) | (obtain ⟨_, _, _, _, _, _, _, _, _, _, _, _, _, _, _, _, _, _, _, _, rfl, _⟩ := h; rfl) | (obtain ⟨_, _, _, _, _, _, _, _, _, _, _, _, _, _, _, _, _, _, _, _, _, rfl, _⟩ := h; rfl)
  · obtain ⟨a, ns, rfl, hS, hlen, q⟩ := h
    k_call_by "xo" st_law
    have L := Own.start (K := K) (H := H)
    refine ⟨a, ns, rfl, hS, hlen, fun ds p H1 hd hs hp hl => ?_⟩
    have L := L.add0 hs hp hl
    clear hs hp hl hS
    wtm_at "oo"
    refine ⟨p, ds, rfl, by wtm_at "qo", fun ls lp H2 ll lv M => ?_⟩
    have L2 := L.c1 M
    clear M L
    wtm_at "oo"
    rename_i kp H3 L3
    refine ⟨lp, ls, rfl, by wtm_at "qo", by omega, fun x hx => (lv x hx).1, fun rp us H4 M => ?_⟩
    rw [rows_path fun x hx => (lv x hx).1] at M
    have L4 := L3.c2 M
    clear M L2 L3
    wtm_at "oo"
    refine loop_list (xs := us) (fun k σ H' => ∃ y5, σ = [some (.ref a), some (.ref lp), some (.ref kp), some (.ref rp), y5] ∧ Own K H H' [.pt rp (.lst us), .ims us ((pth ls 0).map tI), pI kp ls]) ⟨_, rfl, L4.pick (by wtm_at "pk")⟩ (fun _ σ H' _ ⟨_, _, L⟩ => by wtm_at "qo") ?_ ?_
    · clear L4
      rintro k v σ H5 hx ⟨y5, rfl, L⟩
      obtain ⟨t, r, ht, rfl, hr⟩ := itemT L (vs := us) (ts := pth ls 0) (by wtm_at "mem") hx
      obtain ⟨x, y, rfl⟩ := pth_two _ _ t (List.mem_of_getElem? ht)
      wtm_at "oo"
      exact L
    · rintro σ H5 ⟨y5, rfl, L⟩
      wtm_at "oo"
      refine ⟨kp, ls, rfl, by wtm_at "qo", by omega, lv, fun bp bus H6 M => ?_⟩
      have L6 := L.c2 M
      wtm_at "oo"
      refine eqd_t (dq_tks (ts := pth ls 0) (by wtm_at "qo") (L6.imms (vs := us) (by wtm_at "mem"))) (dq_tks (ts := pth ls 0) (by wtm_at "qo") (L6.imms (vs := bus) (by wtm_at "mem"))) ?_
      exact q _


end
end K41

namespace K41
open PySem PySem.Spec PyProof.Rows L2 Bel
def fa : List He.Fa := [.glo "_law_draws", .glo "_law_at", .glo "_law_is_integer", .glo "row_parts", .glo "_row", .glo "_portions", .glo "_rows_of_run", .glo "_run_size", .glo "rows_of", .glo "_law_lengths", .glo "_law_run", .glo "_law_options", .glo "_law_best", .glo "law", .free "abs", .free "bool", .free "enumerate", .free "int", .free "isinstance", .free "len", .free "list", .free "min", .free "range", .free "tuple"]
def fn : List He.DefD := [⟨("_law_draws", none), "_law_draws", "_law_draws", defArgs s__law_draws, defBody s__law_draws, defScope s__law_draws, [], []⟩, ⟨("_law_at", none), "_law_at", "_law_at", defArgs s__law_at, defBody s__law_at, defScope s__law_at, [], []⟩, ⟨("_law_is_integer", none), "_law_is_integer", "_law_is_integer", defArgs s__law_is_integer, defBody s__law_is_integer, defScope s__law_is_integer, [], []⟩, ⟨("row_parts", none), "row_parts", "row_parts", defArgs s_row_parts, defBody s_row_parts, defScope s_row_parts, [], []⟩, ⟨("_row", none), "_row", "_row", defArgs s__row, defBody s__row, defScope s__row, [], []⟩, ⟨("_portions", none), "_portions", "_portions", defArgs s__portions, defBody s__portions, defScope s__portions, [], []⟩, ⟨("_rows_of_run", none), "_rows_of_run", "_rows_of_run", defArgs s__rows_of_run, defBody s__rows_of_run, defScope s__rows_of_run, [], []⟩, ⟨("_run_size", none), "_run_size", "_run_size", defArgs s__run_size, defBody s__run_size, defScope s__run_size, [], []⟩, ⟨("rows_of", none), "rows_of", "rows_of", defArgs s_rows_of, defBody s_rows_of, defScope s_rows_of, [], []⟩, ⟨("_law_lengths", none), "_law_lengths", "_law_lengths", defArgs s__law_lengths, defBody s__law_lengths, defScope s__law_lengths, [], []⟩, ⟨("_law_run", none), "_law_run", "_law_run", defArgs s__law_run, defBody s__law_run, defScope s__law_run, [], []⟩, ⟨("_law_options", none), "_law_options", "_law_options", defArgs s__law_options, defBody s__law_options, defScope s__law_options, [], []⟩, ⟨("_law_best", none), "_law_best", "_law_best", defArgs s__law_best, defBody s__law_best, defScope s__law_best, [], []⟩, ⟨("law", none), "law", "law", defArgs s_law, defBody s_law, defScope s_law, [], []⟩]
def ck (K : PySem.W.Frag) : List Bool := [cvB K "REPEAT_LAST" (.int (16)), cvB K "FEW_ZEROS" (.int (17)), cvB K "MANY_ZEROS" (.int (18)), decide (PySem.W.nsIn K mainGlobals "_REPEATS" = some (some (.ref (He.ga K "_REPEATS")))), gdB K "_REPEATS" ([(16, .adr (dvA "_REPEATS" 0)), (17, .adr (dvA "_REPEATS" 1)), (18, .adr (dvA "_REPEATS" 2))] : List (Int × He.Dv)), tpB K (dvA "_REPEATS" 0 K) ([.int (2), .int (3)] : List He.Dv), tpB K (dvA "_REPEATS" 1 K) ([.int (3), .int (3)] : List He.Dv), tpB K (dvA "_REPEATS" 2 K) ([.int (7), .int (11)] : List He.Dv), cvB K "_MOST_REPEATED" (.int (6)), cvB K "_MOST_FEW_ZEROS" (.int (10)), cvB K "_MOST_MANY_ZEROS" (.int (138))]
def ex (K : PySem.W.Frag) : Bool := (ck K).all id
abbrev R : PySem.W.OpenRow := PySem.W.OpenLaw.row PySem.Challenge.rw_bellows_k41_fewest_rows
abbrev hk : PySem.W.Hook := He.hookX 4 fa fn [] [] ex
def ob (s : PySem.W.SharedT) : He.AlX := He.obsX 4 fa fn [] [] ex (HandSHeadRun.getT s)
theorem ob_eq (s : PySem.W.SharedT) : ob s = hk.obs s.abs := He.obsX_eq (HandSHeadRun.getT_eq s)
def loose : List Str := (["FEW_ZEROS", "MANY_ZEROS", "REPEAT_LAST", "_MOST_FEW_ZEROS", "_MOST_MANY_ZEROS", "_MOST_REPEATED", "_REPEATS", "_law_at", "_law_best", "_law_draws", "_law_is_integer", "_law_lengths", "_law_options", "_law_run", "_portions", "_row", "_rows_of_run", "_run_size", "row_parts", "rows_of"] : List Str)
/-- a world, looked at by one row of its text -/
def byRow (w : World) (x : String) (b : Bool) : World := { w with params := { w.params with followText := fun r => if r = x then b else w.params.followText r } }
theorem byRow_eq (w : World) (x : String) : byRow w x (w.params.followText x) = w := by
  unfold byRow
  have e : (fun r => if r = x then w.params.followText x else w.params.followText r) = w.params.followText := by
    funext r
    by_cases c : r = x
    · rw [if_pos c, c]
    · rw [if_neg c]
  rw [e]
theorem run1 (w : World) (b : Bool) : HandSHeadRun.RunEq R (PySem.W.view R.prog [23]) hk ob 4000 loose (byRow w "special-get-raises" b) := by
  intro os
  cases b
  · kernel_rfl
  · kernel_rfl
theorem run (w : World) : HandSHeadRun.RunEq R (PySem.W.view R.prog [23]) hk ob 4000 loose w := by
  have := run1 w (w.params.followText "special-get-raises")
  rw [byRow_eq] at this
  exact this
theorem tx_of {w : World} {K : PySem.W.Frag} {h : Heap} {mg : Str → Option Value} (X : K.In h) (G : h.Ns mainGlobals mg) (c : He.SaysX fa fn [] [] ex w h K) : Tx K mg := by
  have hf : ∀ {f : He.Fa}, f ∈ fa → f.ok K = true := fun m => He.SaysD.facts c.t.d m
  have hx : ∀ (i : Nat) {b : Bool}, (ck K)[i]? = some b → b = true := fun i b e => List.all_eq_true.mp c.more b (List.mem_of_getElem? e)
  exact ⟨He.free_ok X G (hf (List.mem_of_getElem? (i := 14) rfl)),
    He.free_ok X G (hf (List.mem_of_getElem? (i := 15) rfl)),
    He.free_ok X G (hf (List.mem_of_getElem? (i := 16) rfl)),
    He.free_ok X G (hf (List.mem_of_getElem? (i := 17) rfl)),
    He.free_ok X G (hf (List.mem_of_getElem? (i := 18) rfl)),
    He.free_ok X G (hf (List.mem_of_getElem? (i := 19) rfl)),
    He.free_ok X G (hf (List.mem_of_getElem? (i := 20) rfl)),
    He.free_ok X G (hf (List.mem_of_getElem? (i := 21) rfl)),
    He.free_ok X G (hf (List.mem_of_getElem? (i := 22) rfl)),
    He.free_ok X G (hf (List.mem_of_getElem? (i := 23) rfl)),
    cvB_ok X G (hx 0 rfl),
    cvB_ok X G (hx 1 rfl),
    cvB_ok X G (hx 2 rfl),
    ⟨_, PySem.W.mg_of X G (of_decide_eq_true (hx 3 rfl)), rfl⟩,
    gdB_ok (hx 4 rfl),
    fun H => tpB_ok (hx 5 rfl) H,
    fun H => tpB_ok (hx 6 rfl) H,
    fun H => tpB_ok (hx 7 rfl) H,
    cvB_ok X G (hx 8 rfl),
    cvB_ok X G (hx 9 rfl),
    cvB_ok X G (hx 10 rfl),
    ⟨He.glo_ok X G (hf (List.mem_of_getElem? (i := 0) rfl)), He.SaysD.defs c.t.d (d := fn[0]) (List.mem_of_getElem? (i := 0) rfl)⟩,
    ⟨He.glo_ok X G (hf (List.mem_of_getElem? (i := 1) rfl)), He.SaysD.defs c.t.d (d := fn[1]) (List.mem_of_getElem? (i := 1) rfl)⟩,
    ⟨He.glo_ok X G (hf (List.mem_of_getElem? (i := 2) rfl)), He.SaysD.defs c.t.d (d := fn[2]) (List.mem_of_getElem? (i := 2) rfl)⟩,
    ⟨He.glo_ok X G (hf (List.mem_of_getElem? (i := 3) rfl)), He.SaysD.defs c.t.d (d := fn[3]) (List.mem_of_getElem? (i := 3) rfl)⟩,
    ⟨He.glo_ok X G (hf (List.mem_of_getElem? (i := 4) rfl)), He.SaysD.defs c.t.d (d := fn[4]) (List.mem_of_getElem? (i := 4) rfl)⟩,
    ⟨He.glo_ok X G (hf (List.mem_of_getElem? (i := 5) rfl)), He.SaysD.defs c.t.d (d := fn[5]) (List.mem_of_getElem? (i := 5) rfl)⟩,
    ⟨He.glo_ok X G (hf (List.mem_of_getElem? (i := 6) rfl)), He.SaysD.defs c.t.d (d := fn[6]) (List.mem_of_getElem? (i := 6) rfl)⟩,
    ⟨He.glo_ok X G (hf (List.mem_of_getElem? (i := 7) rfl)), He.SaysD.defs c.t.d (d := fn[7]) (List.mem_of_getElem? (i := 7) rfl)⟩,
    ⟨He.glo_ok X G (hf (List.mem_of_getElem? (i := 8) rfl)), He.SaysD.defs c.t.d (d := fn[8]) (List.mem_of_getElem? (i := 8) rfl)⟩,
    ⟨He.glo_ok X G (hf (List.mem_of_getElem? (i := 9) rfl)), He.SaysD.defs c.t.d (d := fn[9]) (List.mem_of_getElem? (i := 9) rfl)⟩,
    ⟨He.glo_ok X G (hf (List.mem_of_getElem? (i := 10) rfl)), He.SaysD.defs c.t.d (d := fn[10]) (List.mem_of_getElem? (i := 10) rfl)⟩,
    ⟨He.glo_ok X G (hf (List.mem_of_getElem? (i := 11) rfl)), He.SaysD.defs c.t.d (d := fn[11]) (List.mem_of_getElem? (i := 11) rfl)⟩,
    ⟨He.glo_ok X G (hf (List.mem_of_getElem? (i := 12) rfl)), He.SaysD.defs c.t.d (d := fn[12]) (List.mem_of_getElem? (i := 12) rfl)⟩,
    ⟨He.glo_ok X G (hf (List.mem_of_getElem? (i := 13) rfl)), He.SaysD.defs c.t.d (d := fn[13]) (List.mem_of_getElem? (i := 13) rfl)⟩⟩
theorem last {l : PySem.W.OpenLaw} {w : World} {K : PySem.W.Frag} {h : Heap} {mg : Str → Option Value} {fa : Addr} (T : Tx K mg) (KX : K.In h) (hmg : mg "law" = some (.ref fa)) :
    ∃ (K : PySem.W.Frag) (fd : FuncData) (sp : Sp), K.In h ∧ (∀ (s : Shared) (u : Value), BindsTo s fd ⟨[u], []⟩ [("script", u)]) ∧
        (∀ (H : Hp) (a : Addr) (ns : List Int), ns.length ≤ 63 → Only H → SqL K H a (ns.map V.int) → sp [.ref a] H (fun v _ => v = .bl true) fun _ _ _ => False) ∧
        ∀ base : Heap, K.In base → base.Ns mainGlobals mg → FnOk l.prog w K mg base CX0 5 fa fd ["script"] sp := by
  obtain ⟨gm, fd, F⟩ := T.d_law
  have e := hmg.symm.trans gm
  cases e
  have b := FunD.bindsA (ps := ["script"]) F fun _ _ _ _ _ _ us hl => match us, hl with | [_], _ => rfl
  exact ⟨K, fd, sp_law K, KX, fun s u => b s [u] rfl, fun H a ns hl _ hS => ⟨a, ns, rfl, hS, hl, fun _ => rfl⟩, fun base _ _ => toCX0 (okf_law T F) fun _ _ _ _ z => z⟩
end K41

open PySem PySem.W PySem.Calls PyProof.Rows
set_option maxHeartbeats 0 in
theorem PySem.Challenge.cw_bellows_k41_fewest_rows_holds : PySem.Challenge.rw_bellows_k41_fewest_rows.Holds := by
  w_on; o_law
  refine HandSHeadRun.head_any (r := OpenLaw.row PySem.Challenge.rw_bellows_k41_fewest_rows) (q := view (OpenLaw.row PySem.Challenge.rw_bellows_k41_fewest_rows).prog [23]) (H := K41.hk) (ob := K41.ob) (M := 4000) (loose := K41.loose) (d := HandSHeadRun.topDef (OpenLaw.row PySem.Challenge.rw_bellows_k41_fewest_rows).prog 23) (kwd := []) K41.ob_eq
    (by kernel_rfl) (fun s => by kernel_rfl) K41.run (by kernel_rfl) (by kernel_rfl) (by kernel_rfl) (by rfl) (by first | assumption | decide +kernel) (by decide +kernel) ⟨rfl, rfl, rfl, rfl, rfl, by decide +kernel⟩ ?hw ?hc
  case hw => w_witness2
  case hc =>
    refine L2.walk_ofE (l := PySem.Challenge.rw_bellows_k41_fewest_rows) (n := 63) (k := 5) (x := "script") (CX := L2.CX0) rfl (by decide) (by kernel_rfl) ⟨rfl, by decide, by decide⟩ ?F (fun _ _ _ _ z => z)
    intro w mg fa h Y G hmg0
    obtain ⟨K, KX, c⟩ := Y
    have hmg : mg ("law" : PySem.Str) = some (.ref fa) := by
      have e : (HandSHeadRun.topDef (OpenLaw.row PySem.Challenge.rw_bellows_k41_fewest_rows).prog 23).name = ("law" : PySem.Str) := by kernel_rfl
      rw [← e]
      exact hmg0
    have T := K41.tx_of KX G c
    exact K41.last T KX hmg
