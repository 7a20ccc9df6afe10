import PyProof.Rows.All
import Wide.All
import OpenK.AllK
import Wide.FinOn
import HandS.ForMost
import HandS.ForExc
import HandS.ExcInit
import HandS.IsInst
import HandS.ExcField
import HandS.HeadHook1
import KE.KExcIs
import KE.KStateDown
import KE.KIsAll
import Lean
import HandS.Defaults
import HandS.Head0
import HandS.Head1
import HandS.Head2
import HandS.HeadEnd
import HandS.HeadHook2
import HandS.EndBits
import HandS.Wide
import HandS.Evl
import PyProof.Rows.ReprOcc
import HandS.LawCells
import HandS.Property
import HandS.CallSlots
import HandS.TupAny
import KE.KOpsOwn
import PyProof.InstNe
import KE.LtData
import KE.DataCmp
import PyProof.EqAt
import PyProof.EqKinds
import PyProof.TupleCall
import HandS.Base
import HandS.Call
import HandS.Exc
import HandS.ExcOwn
import HandS.Walk
import HandS.More
import HandS.Codes
import HandS.Style
import HandS.Steps
import HandS.TupMul
import HandS.OwnEq
import HandS.List
import HandS.Set
import HandS.SetFor
import HandS.Strs
import HandS.Small
import HandS.DictComp
import HandS.Deep
import HandS.RaiseMore
import PySem.Challenge.RW_alsoshown_k08_multiples_of_rounds
set_option Elab.async false
set_option linter.all false
set_option maxRecDepth 100000
set_option maxHeartbeats 2000000
/-! Exceptions of the program as values: made by a call, kept, read, asked for their class. -/
namespace Vx
open PySem PySem.Spec PyProof.Rows L2
section
variable {X : Cx} {C fI : Addr} {k : Nat} {fd : FuncData} {ps : List Str}
variable {sp : Sp} {e : Expr} {es : List Expr} {ta : TA} {te : TE} {x f : Str}
variable {p pos : Pos}
/-- C(e, ..) for a value: the exception stays tracked -/
def tMkV (C : Addr) (sp : Sp) (ta : TA) : TE := fun st H Q =>
  ta st H fun vs H1 => vs.length ≤ 1000 ∧ ∀ a, H1 a = none →
    sp (.ref a :: vs) (upd H1 a (exo a C none))
      (fun v H2 => v = .non ∧ Q (.ref a) H2) (fun _ _ _ => False)
theorem pe_mkV (T : OexC X.K C)
    (iC : PySem.W.findIn X.K (.ref C) "__init__" = some (some (.ref fI)))
    (tI : PySem.W.typeIn X.K (.ref fI) = some (.type "function"))
    (F1 : FnOk X.prog X.w X.K X.mg X.base CX0 k fI fd ps sp)
    (hr : Room (k + 1) X.A) (hb : Binds X.K fd ps []) (hg : Gl X x)
    (hm : X.mg x = some (.ref C)) (ha : PA X (e :: es) ta)
    (hdb : (x == ("__debug__" : Str)) = false := by decide)
    (he : starEach (e :: es) X.env = (false, eval e X.env) :: starEach es X.env := by rfl)
    (hpl : (backTo pos (starEach es X.env)).any (·.1) = false := by rfl) :
    PE X (.Call (.Name x p) (e :: es) [] pos) (tMkV C sp ta) := by
  refine ⟨fun pins s σ H Q I h => ?_⟩
  obtain ⟨nm, q, N, bs, bm, sn, sub, ab, col, dd, k0, k1, k2, k3, k5, hC, hbm⟩ := T.cls
  refine wpAny_Call_Name_kw (ld_glob I hg hm ?_ hdb)
  refine PySem.W.callWith_K (h₀ := X.base) I.ok.mod.kin T.kC ?_ he hpl
  refine thn (ha.run pos pins s σ H _ I h) ?_
  rintro us s1 ⟨vs, H1, I1, r1, hz, q1⟩
  refine ⟨I1.kIn, ?_⟩
  show wpAny _ _ (call (.ref C) us) _ _ _
  obtain ⟨hp, g, dr, tk, os⟩ := s1
  let h2 : Heap := (hp.push (PySem.W.kdv_tup us)).push (PySem.HandSPX.excO C hp.objs.size)
  have hsz : hp.objs.size ≤ hp.objs.size + 1 := Nat.le_succ _
  have hn : H1 (hp.objs.size + 1) = none := I1.hok.fresh hsz
  have hq := q1 (hp.objs.size + 1) hn
  have kk : ∀ b o, hp.get? b = some o → h2.get? b = some o := by
    intro b o eb
    exact Heap.get?_push_of_some _ (Heap.get?_push_of_some _ eb)
  have hget : h2.get? (hp.objs.size + 1) = some (PySem.HandSPX.excO C hp.objs.size) := by
    show ((hp.push _).push _).get? _ = _
    heap_get
  have I2 : Inv X pins σ (upd H1 (hp.objs.size + 1) (exo (hp.objs.size + 1) C none)) ⟨h2, g, dr, tk, os⟩ :=
    Inv.laid (s := ⟨hp, g, dr, tk, os⟩) (t' := tk) I1 kk hsz (exo_ok hget)
  have r2 : Vals (V.ref (hp.objs.size + 1) :: vs) (Value.ref (hp.objs.size + 1) :: us) := .cons rfl r1
  have hl : (Value.ref (hp.objs.size + 1) :: us ++ []).length = ps.length := by
    have e1 := r2.length
    rw [F1.len _ _ _ _ hq] at e1
    rw [List.append_nil]
    exact e1.symm
  have hus : us.length ≤ sizeLine := by
    have e1 := Paired.length r1
    rw [sizeLine_eq]
    omega
  have hbb := hb ⟨h2, g, dr, tk, os⟩ (Value.ref (hp.objs.size + 1) :: us) I2.kIn hl
  rw [List.append_nil] at hbb
  have run := F1.run (X.A.under (.builtin "type.__call__" ⟨.ref C :: us, []⟩)) X.stack
    ⟨h2, g, dr, tk, os⟩ _ ⟨Value.ref (hp.objs.size + 1) :: us, []⟩
    (Value.ref (hp.objs.size + 1) :: us) _ _ (fun _ _ _ => False)
    (hr.make C us []) (I2.env0.make C us []) hbb r2 hq
  refine wpAny_call ?_
  refine PySem.HandSPX.call_own F.excBase_ValueError
    (fun Y => PySem.HandSPX.refsVE_contains Y bm hbm) (I1.kIn _ _ hC)
    (PySem.W.looks_findIn I1.kIn iC) (fun self => PySem.W.bind_fn I1.kIn self tI) hus ?_
  refine codeAny_mono run ?_
  intro r s' hq'
  cases r with
  | error er => exact (hq' : False).elim
  | ok fl =>
    cases fl with
    | ret u =>
      obtain ⟨v, H2, os2, bare2, un2, hok2, rv, ev, q2⟩ := hq'
      subst ev
      have J := I2.call' (ch := []) os2 un2 hok2 bare2 (fun b z => absurd z (by simp))
      exact ⟨rv, .ref (hp.objs.size + 1), H2, J, rfl, q2⟩
    | next => exact False.elim hq'
    | brk => exact False.elim hq'
    | cont => exact False.elim hq'
/-- C() for a value, C without an own __init__ -/
def tMkP (C : Addr) : TE := fun _ H Q => ∀ a, H a = none → Q (.ref a) (upd H a (exo a C none))
theorem pe_mkP (q : PySem.W.excIn X.K C He.veBase "ValueError.__new__" = true)
    (gC : X.mg x = some (.ref C)) (kC : PySem.W.keepIn X.K (.ref C) = true) (hg : Gl X x)
    (hdb : (x == ("__debug__" : Str)) = false := by decide) :
    PE X (.Call (.Name x p) [] [] pos) (tMkP C) := by
  refine ⟨fun pins s σ H Q I h => ?_⟩
  refine wpAny_Call_Name_kw (ld_glob I hg gC ?_ hdb)
  refine PySem.W.callWith_K0 I.kIn kC ?_
  obtain ⟨bm, N, nm, qn, bs, hdct, sn, sub, ab, col, dd, k0, k1, k2, k3, k5, mN, hC, hN, hni, T⟩ := exc_obj I.kIn q
  obtain ⟨hp, g, dr, tk, os⟩ := s
  refine wpAny_call_exc_subT PySem.F.excBase_ValueError T hC hN hni (fun h' a hm => ?_) (by show 0 ≤ sizeLine; omega)
  have hn : H a = none := I.hok.gone hm.new
  obtain ⟨t, ht, _, _⟩ := hm.there
  refine ⟨.ref a, upd H a (exo a C none), ?_, rfl, h a hn⟩
  have un : Un X.fs [] H (upd H a (exo a C none)) hp h' := {
    keep := fun b u y _ _ _ => hm.keeps b u y
    slot := fun b u y _ _ _ => ⟨u.slots, hm.keeps b u y⟩
    free := fun b u y n _ => by
      rw [upd_ne (fun z => by rw [z, hm.new] at y; cases y)]
      exact n
    there := fun b u y _ => ⟨u, hm.keeps b u y⟩
    tups := fun b xs y => by rw [upd_ne (ne_of_none y hn)]; exact y
    frzs := fun b u xs y => by rw [upd_ne (ne_of_none y hn)]; exact y
    tbls := fun b ps y => ⟨#[], by rw [upd_ne (ne_of_none y hn), y]; simp⟩ }
  refine I.un (t' := tk) un ?_
  intro b u e
  by_cases hb : b = a
  · subst hb
    rw [upd_same] at e
    cases e
    exact exo_ok ht
  · rw [upd_ne hb] at e
    refine (I.hok b u e).stay (fun c v _ y => hm.keeps c v y) (fun c y => ?_) (fun c xs y => ?_)
    · rw [upd_ne (ne_of_none y hn)]; exact y
    · rw [upd_ne (ne_of_none y hn)]; exact y
/-- e.f, e an exception that is kept -/
def tXv (K : PySem.W.Frag) (f : Str) (te : TE) : TE := fun st H Q => te st H fun x H1 =>
  ∃ (a C d : Addr) (fs : List (Str × V)) (v : V), x = .ref a ∧ XfC K C ∧
    PySem.W.findIn K (.ref C) f = some none ∧ H1 a = some (exo a C (some d)) ∧
    H1 d = some (exd d fs) ∧ fs.lookup f = some v ∧ Q v H1
theorem inst_of {P : Program} {w : World} {H : Hp} {h : Heap} {a C : Addr}
    (hok : HOk P w H h) (e : H a = some (exo a C none)) :
    ∃ ob, PySem.W.InstAt h a ob C none := by
  obtain ⟨t1, ho⟩ := exo_at hok e
  exact ⟨_, ho, rfl, rfl, trivial⟩
theorem inst_of2 {P : Program} {w : World} {H : Hp} {h : Heap} {a C d : Addr} {fs : List (Str × V)}
    (hok : HOk P w H h) (e : H a = some (exo a C (some d))) (ed : H d = some (exd d fs)) :
    ∃ ob od, PySem.W.InstAt h a ob C (some od) ∧ h.get? d = some od := by
  obtain ⟨t1, ho⟩ := exo_at hok e
  obtain ⟨mA, hns, rel⟩ := exd_at hok ed
  obtain ⟨od, es, ep, hd, hr⟩ := hns
  exact ⟨_, od, ⟨ho, rfl, rfl, hd⟩, hd⟩
theorem pe_xv (he : PE X e te)
    (hb : attributeBase e f X.env (eval e X.env) = eval e X.env := by rfl) :
    PE X (.Attribute e f pos) (tXv X.K f te) := by
  refine ⟨fun pins s σ H Q I h => ?_⟩
  refine attr_of hb (thn (he.run pins s σ H _ I h) fun u s1 hh => ?_)
  obtain ⟨y, H1, I1, rx, a, C, d, fs, v, ex, T, hno, ea, ed, l, q⟩ := hh
  subst ex
  obtain rfl : u = Value.ref a := rx
  obtain ⟨t1, ho⟩ := exo_at I1.hok ea
  obtain ⟨mA, hns, rel⟩ := exd_at I1.hok ed
  obtain ⟨od, hd, hl⟩ := lookIn_ns hns
  have e1 : RelO (some v) (mA f) := by
    rw [← l]
    exact rel f
  obtain ⟨u2, hu, ru⟩ := RelO.some_of e1
  have J : PySem.W.InstAt s1.heap a _ C (some od) := ⟨ho, rfl, rfl, hd⟩
  exact HandSPX.exc_get I1.kIn J T.ga T.gg T.exC (PySem.W.findObj_own T.hdC hno rfl (by rw [hl, hu])) (handed_of ru) ⟨v, H1, I1.tok _, ru, q⟩
/-- what a class of errors must say so that isinstance is answered -/
structure IsC (K : PySem.W.Frag) (C : Addr) : Prop where
  hc : (PySem.W.clsIn K C).isSome = true
  hg : PySem.W.findIn K (.ref C) "__getattribute__" = some (some (.builtin "BaseException.__getattribute__"))
  hk : PySem.W.findIn K (.ref C) "__getattr__" = some none
  hs : PySem.W.subIn K (.ref C) (.type "BaseException") = some true
  ha : PySem.W.findIn K (.ref C) "__class__" = some (some (.builtin "object.__class__"))
  hn : PySem.W.specialIn K (.builtin "object.__class__") "__get__" = some (some (.builtin "getset_descriptor.__get__"))
  ht : PySem.W.takesIn K (.builtin "object.__class__") = some true
  hm : PySem.W.mroIn K C (.type "object") = some true
/-- at a stands an exception of the class at C -/
def ExAt (H : Hp) (a C : Addr) : Prop :=
  H a = some (exo a C none) ∨ ∃ d fs, H a = some (exo a C (some d)) ∧ H d = some (exd d fs)
def rIsV (K : PySem.W.Frag) : List V → Hp → VK → Prop := fun xs H Q =>
  ∃ (a C : Addr) (c : V) (cv : Value) (b : Bool), xs = [.ref a, c] ∧ (∀ u, RelV c u → u = cv) ∧
    ExAt H a C ∧ IsC K C ∧ PySem.W.kitOne K (.ref C) cv = some b ∧ Q (.bl b) H
theorem call_isV : CallR X (.builtin "isinstance") (rIsV X.K) := by
  intro pins s σ H xs us Q I r h
  obtain ⟨a, C, c, cv, b, rfl, hcv, ex, T, e1, q⟩ := h
  obtain ⟨u1, u2, rfl, r1, r2⟩ := vals2 r
  obtain rfl := hcv _ r2
  obtain rfl : u1 = Value.ref a := r1
  have done : ∀ tk, EP X pins σ Q (.bool b) { s with toks := tk } := fun tk => ⟨.bl b, H, I.tok tk, rfl, q⟩
  rcases ex with ex | ⟨d, fs, ex, ed⟩
  · obtain ⟨ob, J⟩ := inst_of I.hok ex
    exact PySem.W.kia_one (PySem.W.kitx_exc T.hc T.hg T.hk T.hs T.ha T.hn T.ht T.hm) I.kIn J e1 (fun z => nomatch z) done
  · obtain ⟨ob, od, J, _⟩ := inst_of2 I.hok ex ed
    exact PySem.W.kia_one (PySem.W.kitx_exc T.hc T.hg T.hk T.hs T.ha T.hn T.ht T.hm) I.kIn J e1 (fun z => nomatch z) done
end
end Vx

set_option Elab.async false
set_option linter.all false
set_option maxRecDepth 100000
set_option maxHeartbeats 2000000
/-! The head: facts by one Bool of the written part, defs by data. -/
namespace Vh
open PySem PySem.Spec PyProof.Rows L2
abbrev Fg := PySem.W.Frag
def obsB (f : Fg → Bool) (fn : List He.DefD) (K : Fg) : He.AlD :=
  (f K && fn.all fun d => d.ok K, fn.map fun d => He.fnW K d.at_)
def SaysB (f : Fg → Bool) (fn : List He.DefD) (K : Fg) : Prop := obsB f fn K = He.valD fn
def obsBG (n : Nat) (f : Fg → Bool) (fn : List He.DefD) (g : Addr → Option Obj) : He.AlD :=
  obsB f fn (He.frG g (He.asD g n))
def hookB (n : Nat) (f : Fg → Bool) (fn : List He.DefD) : PySem.W.Hook where
  α := He.AlD
  obs := fun s => obsBG n f fn s.heap.get?
  val := fun _ => He.valD fn
  says := fun _ h => ∃ K : Fg, K.In h ∧ SaysB f fn K
  of := fun _ _ e => ⟨_, He.frG_in, e⟩
  keeps := fun _ _ _ ⟨K, hK, c⟩ k => ⟨K, PySem.W.Frag.In.keeps hK k, c⟩
theorem obsBG_eq {n : Nat} {f : Fg → Bool} {fn : List He.DefD} {g : Addr → Option Obj} {s : Shared}
    (h : ∀ a, g a = s.heap.get? a) : obsBG n f fn g = (hookB n f fn).obs s := by
  have e : g = s.heap.get? := funext h
  rw [e] <;> rfl
section
variable {f : Fg → Bool} {fn : List He.DefD} {K : Fg}
theorem SaysB.fact (c : SaysB f fn K) : f K = true :=
  (He.ba (show (f K && fn.all fun d => d.ok K) = true from congrArg (fun z : He.AlD => z.1) c)).1
theorem SaysB.def_ (c : SaysB f fn K) (i : Nat) {d : He.DefD} (h : fn[i]? = some d := by rfl) :
    ∃ fd, FunD K d.name d.qual d.params d.body d.scope (d.dvs K) (d.kws K) (He.fAd K d.at_) fd := by
  have c2 := (He.ba (show (f K && fn.all fun d => d.ok K) = true from congrArg (fun z : He.AlD => z.1) c)).2
  have e : fn.map (fun d => He.fnW K d.at_) = fn.map He.DefD.val := congrArg (fun z : He.AlD => z.2) c
  have e2 : (fn.map fun d => He.fnW K d.at_)[i]? = (fn.map He.DefD.val)[i]? := by rw [e]
  rw [List.getElem?_map, List.getElem?_map, h] at e2
  exact He.DefD.funD (Option.some.inj e2) (List.all_eq_true.mp c2 d (List.mem_of_getElem? h))
end
/-- a def of the top, a method of a class of the top -/
def gD (st : Stmt) (x : Str) : He.DefD := ⟨(x, none), x, x, defArgs st, defBody st, defScope st, [], []⟩
def mD (st : Stmt) (c m q : Str) : He.DefD := ⟨(c, some m), m, q, defArgs st, defBody st, defScope st, [], []⟩
/-! the errors' classes -/
def headB (K : Fg) (C : Addr) (bm : List Value) (sl : List (Option Value)) (cd : ClassData) : Bool :=
  match sl with
  | [_, _, _, _, some (.builtin n), _] =>
    n == "ValueError.__new__" && (!cd.hasDel && (cd.hasDict && PySem.HandSPX.refsVE bm))
  | _ => false
def oexB (K : Fg) (C : Addr) : Bool :=
  match K.lookup C with
  | some ⟨.type "type", _, .cls cd, sl⟩ => (match cd.mro with
    | .ref D :: bm => D == C && headB K C bm sl.toList cd
    | _ => false)
  | _ => false
theorem oexB_ok {K : Fg} {C : Addr} (h : oexB K C = true) :
    ∃ nm q N bs bm sn sub ab col dd k0 k1 k2 k3 k5,
      K.lookup C = some (excClassObj nm q C N bs bm true sn sub ab col dd k0 k1 k2 k3 k5 "ValueError.__new__") ∧
        PySem.HandSPX.refsVE bm = true := by
  unfold oexB at h
  split at h
  · rename_i dd cd sl ho
    split at h
    · rename_i D bm hm
      obtain ⟨h1, h2⟩ := He.ba h
      unfold headB at h2
      split at h2
      · rename_i k0 k1 k2 k3 n k5 hs
        simp only [Bool.and_eq_true, beq_iff_eq, Bool.not_eq_true'] at h1 h2
        obtain ⟨h3, h4, h5, h6⟩ := h2
        subst h1 h3
        obtain ⟨nm, bs, mro, ns, qn, hd, sn, sub, ab, col, del⟩ := cd
        dsimp only at hm h4 h5
        subst hm h4 h5
        obtain ⟨l⟩ := sl
        dsimp only at hs
        subst hs
        exact ⟨nm, qn, ns, bs, bm, sn, sub, ab, col, dd, k0, k1, k2, k3, k5, ho, h6⟩
      · cases h2
    · cases h
  · cases h
/-- all that is asked of a class of errors -/
def errB (K : Fg) (C : Addr) : Bool :=
  oexB K C && (He.eqO (PySem.W.findIn K (.ref C) "__setattr__") (some (some (.builtin "object.__setattr__"))) &&
   (decide (PySem.W.subIn K (.ref C) (.type "BaseException") = some true) &&
   (decide (PySem.W.typeIn K (.ref C) = some (.type "type")) && (PySem.W.keepIn K (.ref C) && (xfB K C &&
   (He.eqO (PySem.W.findIn K (.ref C) "__class__") (some (some (.builtin "object.__class__"))) &&
    decide (PySem.W.mroIn K C (.type "object") = some true)))))))
def takB (K : Fg) : Bool :=
  He.eqO (PySem.W.specialIn K (.builtin "object.__class__") "__get__") (some (some (.builtin "getset_descriptor.__get__"))) &&
    decide (PySem.W.takesIn K (.builtin "object.__class__") = some true)
theorem errB_ok {K : Fg} {C : Addr} (h : errB K C = true) (hk : takB K = true) : OexC K C ∧ XfC K C ∧ Vx.IsC K C := by
  obtain ⟨h1, h⟩ := He.ba h
  obtain ⟨h2, h⟩ := He.ba h
  obtain ⟨h3, h⟩ := He.ba h
  obtain ⟨h4, h⟩ := He.ba h
  obtain ⟨h5, h⟩ := He.ba h
  obtain ⟨h6, h⟩ := He.ba h
  obtain ⟨h7, h8⟩ := He.ba h
  obtain ⟨k1, k2⟩ := He.ba hk
  have X := xfB_ok h6
  have c := oexB_ok h1
  refine ⟨⟨c, He.eqO_ok h2, of_decide_eq_true h3, of_decide_eq_true h4, h5⟩, X, ?_⟩
  refine ⟨?_, X.ga, X.gg, X.exC, He.eqO_ok h7, He.eqO_ok k1, of_decide_eq_true k2, of_decide_eq_true h8⟩
  obtain ⟨nm, q, N, bs, bm, sn, sub, ab, col, dd, k0, k1, k2, k3, k5, hC, hbm⟩ := c
  unfold PySem.W.clsIn
  rw [hC]
  rfl
/-- its own __init__ at f1, no field named f in the class -/
def iniB (K : Fg) (C : Addr) (fs : List Str) : Bool :=
  He.eqO (PySem.W.findIn K (.ref C) "__init__") (some (some (.ref (He.ma K C "__init__")))) &&
  (decide (PySem.W.typeIn K (.ref (He.ma K C "__init__")) = some (.type "function")) &&
   fs.all fun f => He.eqO (PySem.W.findIn K (.ref C) f) (some none))
structure Ini (K : Fg) (C : Addr) (fs : List Str) : Prop where
  iC : PySem.W.findIn K (.ref C) "__init__" = some (some (.ref (He.ma K C "__init__")))
  tI : PySem.W.typeIn K (.ref (He.ma K C "__init__")) = some (.type "function")
  no : ∀ f ∈ fs, PySem.W.findIn K (.ref C) f = some none
theorem iniB_ok {K : Fg} {C : Addr} {fs : List Str} (h : iniB K C fs = true) : Ini K C fs := by
  obtain ⟨h1, h⟩ := He.ba h
  obtain ⟨h2, h3⟩ := He.ba h
  exact ⟨He.eqO_ok h1, of_decide_eq_true h2, fun f hf => He.eqO_ok (List.all_eq_true.mp h3 f hf)⟩
end Vh

set_option Elab.async false
set_option linter.all false
set_option maxRecDepth 100000
set_option maxHeartbeats 2000000
/-! The head, with the getters of properties. -/
namespace Vh
open PySem PySem.Spec PyProof.Rows L2
/-- the getter of the property f of the class named c -/
def pgA (K : Fg) (c f : Str) : Addr := match PySem.W.recIn K (He.ma K (He.ga K c) f) "property" with
  | some (.ref g :: _) => g
  | _ => 0
def fnX (K : Fg) (a : Addr) : He.FnW := match K.lookup a with
  | some ⟨_, _, .func x, _⟩ => some (x.name, x.qualname, x.params, x.body, x.scope, x.globals, x.closure, x.builtins)
  | _ => none
def okX (K : Fg) (a : Addr) (q : Str) : Bool := PySem.W.keepIn K (.ref a) && (match K.lookup a with
  | some ⟨_, _, .func x, _⟩ => PySem.W.codeIn K x.code q && (He.dflB K x.defaults [] && He.kwdB K x.kwdefaults [])
  | _ => false)
theorem funX {K : Fg} {a : Addr} {d : He.DefD} (e : fnX K a = d.val) (c : okX K a d.qual = true) : ∃ fd, FunD K d.name d.qual d.params d.body d.scope [] [] a fd := by
  obtain ⟨kp, c2⟩ := He.ba c
  unfold fnX at e
  cases q : K.lookup a with
  | none =>
    rw [q] at c2
    cases c2
  | some o =>
    obtain ⟨w1, w2, w3, w4⟩ := o
    rw [q] at c2 e
    cases w3 with
    | func x =>
      obtain ⟨n1, n2, n3, n4, n5, n6, n7, n8, n9, n10, n11, n12, n13, n14, n15⟩ := x
      have e3 : (some (n1, n2, n3, n4, n5, n6, n7, n15) : He.FnW) = some (d.name, d.qual, d.params, .stmts d.body, d.scope, mainGlobals, [], builtinsNs) := e
      injection e3 with e3
      injection e3 with h1 e3
      injection e3 with h2 e3
      injection e3 with h3 e3
      injection e3 with h4 e3
      injection e3 with h5 e3
      injection e3 with h6 e3
      injection e3 with h7 h8
      subst h1 h2 h3 h4 h5 h6 h7 h8
      have c4 : (PySem.W.codeIn K n13 d.qual && (He.dflB K n8 [] && He.kwdB K n9 [])) = true := c2
      obtain ⟨g1, g2⟩ := He.ba c4
      obtain ⟨g3, g4⟩ := He.ba g2
      exact ⟨_, ⟨w1, w2, n8, n9, n10, n11, n12, n13, n14, w4, rfl, q, g1, He.dflB_ok g3, He.kwdB_ok g4⟩, kp⟩
    | _ => cases c2
abbrev PrD : Type := (Str × Str) × He.DefD
def obsP (f : Fg → Bool) (fn : List He.DefD) (pr : List PrD) (K : Fg) : He.AlD :=
  (f K && (fn.all (fun d => d.ok K) && pr.all fun q => okX K (pgA K q.1.1 q.1.2) q.2.qual), fn.map (fun d => He.fnW K d.at_) ++ pr.map fun q => fnX K (pgA K q.1.1 q.1.2))
def valP (fn : List He.DefD) (pr : List PrD) : He.AlD := (true, fn.map He.DefD.val ++ pr.map fun q => q.2.val)
def SaysP (f : Fg → Bool) (fn : List He.DefD) (pr : List PrD) (K : Fg) : Prop := obsP f fn pr K = valP fn pr
def obsPG (n : Nat) (f : Fg → Bool) (fn : List He.DefD) (pr : List PrD) (g : Addr → Option Obj) : He.AlD :=
  obsP f fn pr (He.frG g (He.asD g n))
def hookP (n : Nat) (f : Fg → Bool) (fn : List He.DefD) (pr : List PrD) : PySem.W.Hook where
  α := He.AlD
  obs := fun t => obsPG n f fn pr t.heap.get?
  val := fun _ => valP fn pr
  says := fun _ h => ∃ K : Fg, K.In h ∧ SaysP f fn pr K
  of := fun _ _ e => ⟨_, He.frG_in, e⟩
  keeps := fun _ _ _ ⟨K, hK, c⟩ k => ⟨K, PySem.W.Frag.In.keeps hK k, c⟩
theorem obsPG_eq {n : Nat} {f : Fg → Bool} {fn : List He.DefD} {pr : List PrD} {g : Addr → Option Obj} {t : Shared}
    (h : ∀ a, g a = t.heap.get? a) : obsPG n f fn pr g = (hookP n f fn pr).obs t := by
  have e : g = t.heap.get? := funext h
  rw [e] <;> rfl
section
variable {f : Fg → Bool} {fn : List He.DefD} {pr : List PrD} {K : Fg}
theorem SaysP.one (c : SaysP f fn pr K) : f K = true ∧ (∀ d ∈ fn, d.ok K = true) ∧ ∀ q ∈ pr, okX K (pgA K q.1.1 q.1.2) q.2.qual = true := by
  obtain ⟨h1, h2⟩ := He.ba (show (f K && (fn.all (fun d => d.ok K) && pr.all fun q => okX K (pgA K q.1.1 q.1.2) q.2.qual)) = true from congrArg (fun z : He.AlD => z.1) c)
  obtain ⟨h3, h4⟩ := He.ba h2
  exact ⟨h1, List.all_eq_true.mp h3, List.all_eq_true.mp h4⟩
theorem SaysP.two (c : SaysP f fn pr K) : fn.map (fun d => He.fnW K d.at_) = fn.map He.DefD.val ∧ pr.map (fun q => fnX K (pgA K q.1.1 q.1.2)) = pr.map fun q => q.2.val := by
  have e : fn.map (fun d => He.fnW K d.at_) ++ pr.map (fun q => fnX K (pgA K q.1.1 q.1.2)) = fn.map He.DefD.val ++ pr.map fun q => q.2.val := congrArg (fun z : He.AlD => z.2) c
  exact List.append_inj e (by rw [List.length_map, List.length_map])
theorem SaysP.def_ (c : SaysP f fn pr K) (i : Nat) {d : He.DefD} (h : fn[i]? = some d := by rfl) :
    ∃ fd, FunD K d.name d.qual d.params d.body d.scope (d.dvs K) (d.kws K) (He.fAd K d.at_) fd := by
  have e2 : (fn.map fun d => He.fnW K d.at_)[i]? = (fn.map He.DefD.val)[i]? := by rw [c.two.1]
  rw [List.getElem?_map, List.getElem?_map, h] at e2
  exact He.DefD.funD (Option.some.inj e2) (c.one.2.1 d (List.mem_of_getElem? h))
theorem SaysP.prp (c : SaysP f fn pr K) (i : Nat) {q : PrD} (h : pr[i]? = some q := by rfl) :
    ∃ fd, FunD K q.2.name q.2.qual q.2.params q.2.body q.2.scope [] [] (pgA K q.1.1 q.1.2) fd := by
  have e2 : (pr.map fun q => fnX K (pgA K q.1.1 q.1.2))[i]? = (pr.map fun q => q.2.val)[i]? := by rw [c.two.2]
  rw [List.getElem?_map, List.getElem?_map, h] at e2
  exact funX (Option.some.inj e2) (c.one.2.2 q (List.mem_of_getElem? h))
end
end Vh

set_option Elab.async false
set_option linter.all false
set_option maxRecDepth 100000
set_option maxHeartbeats 2000000
namespace Vl
open PySem PySem.Spec PyProof.Rows L2
theorem pe_weak {X : Cx} {e : Expr} {t t' : TE} (h : PE X e t) (w : ∀ s H Q, t' s H Q → t s H Q) : PE X e t' :=
  ⟨fun pins s σ H Q I q => h.run pins s σ H Q I (w σ H Q q)⟩
theorem pa_weak {X : Cx} {es : List Expr} {t t' : TA} (h : PA X es t) (w : ∀ s H Q, t' s H Q → t s H Q) : PA X es t' :=
  ⟨fun pos pins s σ H Q I q => h.run pos pins s σ H Q I (w σ H Q q)⟩
theorem s_seq {t u : TS} {D : Ends} {st : L2.St} {H : Hp} (h : t { D with nx := u D } st H) : tSeq t u D st H := h
def tMono (te : TE) : TE := fun s H Q => ∃ R : VK, te s H R ∧ ∀ v H1, R v H1 → Q v H1
theorem pe_mono {X : Cx} {e : Expr} {t : TE} (h : PE X e t) : PE X e (tMono t) :=
  ⟨fun pins s σ H Q I ⟨R, q, w⟩ => thn (h.run pins s σ H R I q) fun _ _ ⟨v, H1, I1, r, k⟩ => ⟨v, H1, I1, r, w v H1 k⟩⟩
theorem same_upd {H : Hp} {p : Addr} {o : HO} (h : H p = none) : Same H (upd H p o) := by
  intro b x e
  rw [upd_ne (ne_of_none e h)]
  exact e
theorem same_sqt {K : PySem.W.Frag} {H H' : Hp} {a : Addr} {xs : List V} (e : Same H H') (h : SqT K H a xs) : SqT K H' a xs := by
  rcases h with (h | ⟨o, h⟩) | h
  · exact .inl (.inl (e _ _ h))
  · exact .inl (.inr ⟨o, e _ _ h⟩)
  · exact .inr h
mutual
theorem dp_same {K : PySem.W.Frag} {H H' : Hp} (e : Same H H') : ∀ {v : V} {d : PyData}, Dp K H v d → Dp K H' v d
  | _, _, .non => .non
  | _, _, .bl b => .bl b
  | _, _, .int i => .int i
  | _, _, .str x => .str x
  | _, _, .lst h hs => .lst (e.seq h) (dpa_same e hs)
  | _, _, .tup h hs => .tup (same_sqt e h) (dpa_same e hs)
theorem dpa_same {K : PySem.W.Frag} {H H' : Hp} (e : Same H H') : ∀ {v : List V} {d : List PyData}, DpAll K H v d → DpAll K H' v d
  | _, _, .nil => .nil
  | _, _, .cons h hs => .cons (dp_same e h) (dpa_same e hs)
end
theorem dpa_rep {K : PySem.W.Frag} {H : Hp} {v : V} {d : PyData} (h : Dp K H v d) : ∀ n, DpAll K H (List.replicate n v) (List.replicate n d)
  | 0 => .nil
  | n + 1 => .cons h (dpa_rep h n)
theorem dpa_bl {K : PySem.W.Frag} {H : Hp} : ∀ bs : List Bool, DpAll K H (bs.map V.bl) (bs.map PyData.bool)
  | [] => .nil
  | b :: r => .cons (.bl b) (dpa_bl r)
/-- data that may be compared -/
def Low (d : PyData) : Prop := d.canLay0 = true ∧ d.depth ≤ 10
theorem low_rep {d : PyData} (h : Low d) : ∀ n, PyData.canLayAll0 (List.replicate n d) = true ∧ PyData.depthAll (List.replicate n d) ≤ 10
  | 0 => ⟨rfl, by show 0 ≤ 10; omega⟩
  | n + 1 => by
    obtain ⟨h1, h2⟩ := low_rep h n
    rw [List.replicate_succ]
    refine ⟨?_, ?_⟩
    · show (d.canLay0 && PyData.canLayAll0 (List.replicate n d)) = true
      rw [h.1, h1]
      rfl
    · show max d.depth (PyData.depthAll (List.replicate n d)) ≤ 10
      exact Nat.max_le.mpr ⟨h.2, h2⟩
theorem shaped_of {d : PyData} (h1 : d.canLay0 = true) (h2 : d.depth ≤ 64) : SeqAt.shaped d = true := by
  unfold SeqAt.shaped
  rw [h1, decide_eq_true h2]
  rfl
theorem low_bl : ∀ bs : List Bool, PyData.canLayAll0 (bs.map PyData.bool) = true ∧ PyData.depthAll (bs.map PyData.bool) = 0
  | [] => ⟨rfl, rfl⟩
  | b :: r => by
    obtain ⟨h1, h2⟩ := low_bl r
    refine ⟨?_, ?_⟩
    · show (true && PyData.canLayAll0 (r.map PyData.bool)) = true
      rw [h1]
      rfl
    · show max 0 (PyData.depthAll (r.map PyData.bool)) = 0
      rw [h2]
      rfl
theorem eqv_same {d : PyData} (h : d.canLay0 = true) : PyData.eqv d d = true := SeqAt.eqv_refl d h
theorem strOk_of (s : String) : PyData.strOk (Str.ofString s) = true := by
  unfold PyData.strOk
  rw [← Array.all_toList, PyProof.Rows.signs_ofString, List.all_eq_true]
  intro c hc
  obtain ⟨x, _, rfl⟩ := List.mem_map.mp hc
  refine decide_eq_true ?_
  have h := x.valid
  have : x.toNat = x.val.toNat := rfl
  rcases h with h | ⟨_, h⟩
  · rw [this]; exact Nat.lt_trans h (by decide)
  · rw [this]; exact h
theorem strOk_app {a b : Str} (ha : PyData.strOk a = true) (hb : PyData.strOk b = true) : PyData.strOk (a ++ b) = true := by
  unfold PyData.strOk at *
  show ((a.cps ++ b.cps).all _) = true
  rw [Array.all_append, ha, hb]
  rfl
def EvP (te : TE) (st : L2.St) (H : Hp) (P : V → Hp → Prop) : Prop :=
  ∀ H1, Evl.Ex H H1 → ∀ Q : VK, (∀ x H2, Evl.Ex H1 H2 → P x H2 → Q x H2) → te st H1 Q
def EvAP (ta : TA) (st : L2.St) (H : Hp) (P : List V → Hp → Prop) : Prop :=
  ∀ H1, Evl.Ex H H1 → ∀ Q : List V → Hp → Prop, (∀ x H2, Evl.Ex H1 H2 → P x H2 → Q x H2) → ta st H1 Q
theorem eap_nil {st : L2.St} {H : Hp} : EvAP tNil st H (fun xs _ => xs = []) :=
  fun H1 _ Q q => q [] H1 (Evl.Ex.refl H1) rfl
theorem eap_cons {te : TE} {tr : TA} {st : L2.St} {H : Hp} {P : V → Hp → Prop} {R : List V → Hp → Prop}
    (h : EvP te st H P) (hr : EvAP tr st H R) (mono : ∀ x H1 H2, Evl.Ex H1 H2 → P x H1 → P x H2) :
    EvAP (tCons te tr) st H (fun vs H1 => ∃ x xs, vs = x :: xs ∧ P x H1 ∧ R xs H1) := by
  intro H1 e Q q
  refine h H1 e _ fun x H2 e2 p => ?_
  refine hr H2 (e.trans e2) _ fun xs H3 e3 r => ?_
  exact q _ H3 (e2.trans e3) ⟨x, xs, rfl, mono x H2 H3 e3 p, r⟩
/-- an error: its class at C, its only field f holding v -/
def ErrV (H : Hp) (a C : Addr) (f : Str) (v : V) : Prop :=
  ∃ d, H a = some (exo a C (some d)) ∧ H d = some (exd d [(f, v)])
theorem ErrV.mono {H H' : Hp} {a C : Addr} {f : Str} {v : V} (e : Evl.Ex H H') (h : ErrV H a C f v) : ErrV H' a C f v := by
  obtain ⟨d, h1, h2⟩ := h
  exact ⟨d, e _ _ h1, e _ _ h2⟩
theorem ErrV.at_ {H : Hp} {a C : Addr} {f : Str} {v : V} (h : ErrV H a C f v) : Vx.ExAt H a C := by
  obtain ⟨d, h1, h2⟩ := h
  exact .inr ⟨d, _, h1, h2⟩
theorem exAt_mono {H H' : Hp} {a C : Addr} (e : Evl.Ex H H') (h : Vx.ExAt H a C) : Vx.ExAt H' a C := by
  rcases h with h | ⟨d, fs, h1, h2⟩
  · exact .inl (e _ _ h)
  · exact .inr ⟨d, fs, e _ _ h1, e _ _ h2⟩
def Errs (v : V) : List (Addr × Str) → List V → Hp → Prop
  | [], xs, _ => xs = []
  | (C, f) :: r, xs, H => ∃ a ys, xs = .ref a :: ys ∧ ErrV H a C f v ∧ Errs v r ys H
theorem Errs.mono {v : V} {H H' : Hp} (e : Evl.Ex H H') : ∀ {l : List (Addr × Str)} {xs : List V}, Errs v l xs H → Errs v l xs H'
  | [], _, h => h
  | (C, f) :: r, _, h => by
    obtain ⟨a, ys, h1, h2, h3⟩ := h
    exact ⟨a, ys, h1, h2.mono e, Errs.mono e h3⟩
theorem Errs.len {v : V} {H : Hp} : ∀ {l : List (Addr × Str)} {xs : List V}, Errs v l xs H → xs.length = l.length
  | [], _, h => by
    rw [show _ = [] from h]
    rfl
  | (C, f) :: r, _, h => by
    obtain ⟨a, ys, h1, h2, h3⟩ := h
    rw [h1, List.length_cons, List.length_cons, Errs.len h3]
theorem Errs.app {v : V} {H : Hp} : ∀ {l m : List (Addr × Str)} {xs ys : List V}, Errs v l xs H → Errs v m ys H → Errs v (l ++ m) (xs ++ ys) H
  | [], m, xs, ys, h, h' => by
    rw [show xs = [] from h]
    exact h'
  | (C, f) :: r, m, xs, ys, h, h' => by
    obtain ⟨a, zs, h1, h2, h3⟩ := h
    rw [h1]
    exact ⟨a, zs ++ ys, rfl, h2, Errs.app h3 h'⟩
theorem Errs.get {v : V} {H : Hp} : ∀ {l : List (Addr × Str)} {xs : List V} {i : Nat} {x : V}, Errs v l xs H → xs[i]? = some x →
    ∃ C f a, l[i]? = some (C, f) ∧ x = .ref a ∧ ErrV H a C f v
  | [], xs, i, x, h, hi => by
    rw [show xs = [] from h] at hi
    cases hi
  | (C, f) :: r, xs, 0, x, h, hi => by
    obtain ⟨a, ys, h1, h2, h3⟩ := h
    rw [h1] at hi
    have e : V.ref a = x := Option.some.inj hi
    exact ⟨C, f, a, rfl, e.symm, h2⟩
  | (C, f) :: r, xs, i + 1, x, h, hi => by
    obtain ⟨a, ys, h1, h2, h3⟩ := h
    rw [h1] at hi
    exact Errs.get (i := i) h3 hi
theorem given_rep (v : V) : ∀ n, Evl.given n (fun _ => true) (fun _ => v) = List.replicate n v := by
  intro n
  induction n with
  | zero => rfl
  | succ n ih =>
    rw [Evl.given_yes rfl, ih, ← List.replicate_succ']
/-- __init__(self, f): self.f = f -/
def spIni (C : Addr) (f : Str) : Sp := fun vs H Q _ => ∃ (a : Addr) (v : V), vs = [.ref a, v] ∧ H a = some (exo a C none) ∧
  ∀ dx, H dx = none → dx ≠ a → Q .non (upd (upd H dx (exd dx [(f, v)])) a (exo a C (some dx)))
section
variable {P : Program} {w : World} {K : PySem.W.Frag} {mg : Str → Option Value} {base : Heap}
theorem ok_ini1 {f qual : Str} {pa : Arguments} {bd : List Stmt} {sc : Scope} {fI C : Addr} {fd : FuncData} {p1 p2 p3 p4 : Pos}
    (F : FunD K "__init__" qual pa bd sc [] [] fI fd) (S : FnScope ["self", f] ["self", f] sc)
    (hb : bd = [.Assign [.Attribute (.Name "self" p1) f p2] (.Name f p3) p4]) (T : OexC K C)
    (no : PySem.W.findIn K (.ref C) f = some none) (hd : (f == ("__debug__" : Str)) = false)
    (hc : (f == ("__classdict__" : Str)) = false) : FnOk P w K mg base CX0 1 fI fd ["self", f] (spIni C f) := by
  refine F.ok (CX := CX0) S (fun vs H Q E h => ?_) (fun cdv A outer s H vs Q E hr h => ?_)
  · obtain ⟨a, v, rfl, _⟩ := h
    rfl
  · rw [hb]
    have v0 := vis_par S (x := "self") List.mem_cons_self
    have v1 := vis_par S (x := f) (List.mem_cons_of_mem _ List.mem_cons_self)
    refine ⟨_, (pss_one (ps_ost (pe_var (i := 0) rfl v0) (pe_var (i := 1) rfl v1 hd hc))), ?_⟩
    obtain ⟨a, v, rfl, ha, q⟩ := h
    exact ⟨v, rfl, .ref a, rfl, a, C, rfl, T, no, .inl ⟨ha, fun dx h1 h2 => q dx h1 h2⟩⟩
end
section
variable {X : Cx} {C fI : Addr} {k : Nat} {fd : FuncData} {e : Expr} {te : TE} {x f : Str} {p pos : Pos}
def tErr (C : Addr) (f : Str) (te : TE) : TE := fun st H Q => te st H fun v H1 =>
  ∀ a H2, H1 a = none → Same H1 H2 → ErrV H2 a C f v → Q (.ref a) H2
theorem pe_err (T : OexC X.K C)
    (iC : PySem.W.findIn X.K (.ref C) "__init__" = some (some (.ref fI)))
    (tI : PySem.W.typeIn X.K (.ref fI) = some (.type "function"))
    (F1 : FnOk X.prog X.w X.K X.mg X.base CX0 k fI fd ["self", f] (spIni C f))
    (hr : Room (k + 1) X.A) (hb : Binds X.K fd ["self", f] []) (hg : Gl X x)
    (hm : X.mg x = some (.ref C)) (ha : PE X e te)
    (hdb : (x == ("__debug__" : Str)) = false := by decide)
    (hs : starEach [e] X.env = (false, eval e X.env) :: starEach [] X.env := by rfl) :
    PE X (.Call (.Name x p) [e] [] pos) (tErr C f te) := by
  have ha2 : PE X e (tMono te) := pe_mono ha
  refine pe_weak (Vx.pe_mkV T iC tI F1 hr hb hg hm (pa_cons ha2 pa_nil hs) hdb hs (by rfl)) ?_
  intro st H Q h
  refine ⟨_, h, fun v H1 q => ⟨by show 1 ≤ 1000; omega, fun a na => ?_⟩⟩
  refine ⟨a, v, rfl, upd_same, fun dx n1 n2 => ⟨rfl, ?_⟩⟩
  have nd : H1 dx = none := by rw [upd_ne n2] at n1; exact n1
  refine q a _ na (fun b o hb => ?_) ⟨dx, upd_same, ?_⟩
  · rw [upd_ne (ne_of_none hb na), upd_ne (ne_of_none hb nd), upd_ne (ne_of_none hb na)]
    exact hb
  · rw [upd_ne n2, upd_same]
end
end Vl

set_option Elab.async false
set_option linter.all false
set_option maxRecDepth 100000
set_option maxHeartbeats 2000000
/-! Operators that a class of the program defines: by its methods' promises. -/
namespace Vo
open PySem PySem.Spec PyProof.Rows L2
section
variable {X : Cx} {CX : CXT} {k : Nat} {f C : Addr} {fd : FuncData} {ps : List Str} {sp : Sp}
variable {pins : List (Addr × Obj)} {σ : L2.St} {H : Hp} {s : Shared} {Q : VK} {us : List Value} {vs : List V} {E : XK}
/-- a method called one level further in -/
theorem run_in1 (F : FnOk X.prog X.w X.K X.mg X.base CX k f fd ps sp) (hr : Room (k + 1) X.A) (hb : Binds X.K fd ps [])
    (hx : PassesAt CX X σ E) (I : Inv X pins σ H s) (r : Vals vs us) (h : sp vs H Q E) :
    wpAny (model X.prog X.w) X.A.in1 (call (.ref f) us) (EP X pins σ Q) X.xe s := by
  have hl : us.length = ps.length := by
    rw [← r.length]
    exact F.len _ _ _ _ h
  have b := hb s us I.kIn (by rw [List.append_nil]; exact hl)
  rw [List.append_nil] at b
  have run := F.run X.A.in1 X.stack s H ⟨us, []⟩ us vs Q E hr.in1 I.env0.in1 b r h
  refine wpAny_call (codeAny_mono run ?_)
  intro z s' hq
  cases z with
  | error e => exact hx pins H s e s' I hq
  | ok fl =>
    cases fl with
    | ret u => exact I.after hq
    | next => exact False.elim hq
    | brk => exact False.elim hq
    | cont => exact False.elim hq
/-- the same where it stands -/
theorem run_here (F : FnOk X.prog X.w X.K X.mg X.base CX k f fd ps sp) (hr : Room k X.A) (hb : Binds X.K fd ps [])
    (hx : PassesAt CX X σ E) (I : Inv X pins σ H s) (r : Vals vs us) (h : sp vs H Q E) :
    wpAny (model X.prog X.w) X.A (call (.ref f) us) (EP X pins σ Q) X.xe s :=
  run_fnS (E := fun _ => E) F hr hb hx I r h
end
section
variable {X : Cx} {CX : CXT} {k : Nat} {f C : Addr} {fd : FuncData} {ps : List Str} {sp : Sp} {E : L2.St → XK}
variable {a b : Expr} {ta tb : TE} {pos : Pos}
/-- one operand an instance of the class at C -/
def tOwn1 (C : Addr) (sp : Sp) (E : L2.St → XK) (ta : TE) : TE := fun st H Q => ta st H fun x H1 =>
  ∃ o dx fs, x = .ref o ∧ H1 o = some (.ins C dx fs) ∧ sp [x] H1 Q (E st)
/-- the left one of two -/
def tOwn2 (C : Addr) (R : V → Prop) (sp : Sp) (E : L2.St → XK) (ta tb : TE) : TE := fun st H Q => ta st H fun x H1 => tb st H1 fun y H2 =>
  ∃ o dx fs, x = .ref o ∧ H2 o = some (.ins C dx fs) ∧ R y ∧ sp [x, y] H2 Q (E st)
theorem inst_at {pins : List (Addr × Obj)} {σ : L2.St} {H : Hp} {s : Shared} {o dx : Addr} {fs : List (Str × V)} (I : Inv X pins σ H s) (ea : H o = some (.ins C dx fs)) :
    ∃ ob od, PySem.W.InstAt s.heap o ob C (some od) := by
  obtain ⟨mA, O, _, _, _, _⟩ := ins_get I.hok ea
  obtain ⟨od, J, _⟩ := O.look
  exact ⟨_, od, J⟩
/-- o[i] -/
theorem pe_ixO (M : Meth X.K C "__getitem__" f) (hf : PySem.W.fnIn X.K f = true) (F : FnOk X.prog X.w X.K X.mg X.base CX k f fd ps sp) (hr : Room (k + 1) X.A) (hb : Binds X.K fd ps [])
    (hx : ∀ st, PassesAt CX X st (E st)) (ha : PE X a ta) (hi : PE X b tb)
    (hs : ∀ o i, subscripted b true (.ref o) i = runValue (.builtin "lifetime.subscript" ⟨[.ref o, i], []⟩)) :
    PE X (.Subscript a b pos) (tOwn2 C (fun _ => True) sp E ta tb) := by
  refine ⟨fun pins s σ H Q I h => ?_⟩
  refine Subscript_ (binT ha hi I h fun v u s2 x y H2 I2 rx ry q => ?_)
  obtain ⟨o, dx, fs, rfl, eo, _, q⟩ := q
  obtain rfl : v = Value.ref o := rx
  obtain ⟨ob, od, J⟩ := inst_at I2 eo
  obtain ⟨m, fr⟩ := I2.fr
  exact PySem.W.sub_K fr I2.ok.mod.kin J M.at_ hf M.fn (run_in1 F hr hb (hx σ) I2 (Paired.cons (show RelV (V.ref o) (Value.ref o) from rfl) (.cons ry .nil)) q) (hs o u)
/-- -o -/
theorem pe_negO (M : Meth X.K C "__neg__" f) (F : FnOk X.prog X.w X.K X.mg X.base CX k f fd ps sp) (hr : Room k X.A) (hb : Binds X.K fd ps [])
    (hx : ∀ st, PassesAt CX X st (E st)) (ha : PE X a ta) : PE X (.UnaryOp .USub a pos) (tOwn1 C sp E ta) := by
  refine ⟨fun pins s σ H Q I h => ?_⟩
  refine UnaryOp_ (thn (ha.run pins s σ H _ I h) fun v s1 ⟨x, H1, I1, r1, q1⟩ => ?_)
  obtain ⟨o, dx, fs, rfl, eo, q⟩ := q1
  obtain rfl : v = Value.ref o := r1
  obtain ⟨ob, od, J⟩ := inst_at I1 eo
  obtain ⟨m, fr⟩ := I1.fr
  exact PySem.W.ksp_neg fr I1.ok.mod.kin J M.at_ M.fn (run_here F hr hb (hx σ) I1 (Paired.cons (show RelV (V.ref o) (Value.ref o) from rfl) .nil) q)
end
section
variable {X : Cx} {CX : CXT} {k : Nat} {f C : Addr} {fd : FuncData} {ps : List Str} {sp : Sp} {E : L2.St → XK}
variable {a b : Expr} {ta tb : TE} {pos : Pos}
/-- what comes back is no NotImplemented: any V's value -/
theorem cmp_back {pins : List (Addr × Obj)} {σ : L2.St} {Q : VK} {u : Value} {s' : Shared} (h : EP X pins σ Q u s') : PySem.W.CmpBack (EP X pins σ Q) u s' := by
  obtain ⟨v, H', I, r, q⟩ := h
  have hn : u ≠ .notImplemented := by
    intro z
    subst z
    cases v with
    | non => cases r
    | bl b => cases r
    | int i => obtain ⟨t, z⟩ := r; cases z
    | str x => obtain ⟨t, z⟩ := r; cases z
    | byt x => obtain ⟨t, z⟩ := r; cases z
    | flt x => obtain ⟨t, z⟩ := r; cases z
    | ref a => cases r
    | ty n => cases r
  have k : EP X pins σ Q u s' := ⟨v, H', I, r, q⟩
  unfold PySem.W.CmpBack
  cases u with
  | notImplemented => exact absurd rfl hn
  | _ => exact k
/-- the class's own operators: what the written part must say -/
structure OwnOp (K : PySem.W.Frag) (C : Addr) (nm : String) (f : Addr) : Prop where
  fst : PySem.W.selfFirst K C = true
  at_ : PySem.W.findIn K (.ref C) (PySem.dunder nm) = some (some (.ref f))
  fn : PySem.W.isFn K (.ref f) = true
  r : PySem.W.findIn K (.ref C) (dunderR nm) = some none
/-- the right operand is of the built-in type T, which knows nothing of C -/
structure Far (K : PySem.W.Frag) (C : Addr) (nm T : String) : Prop where
  h1 : ∃ fo, PySem.W.findIn K (.type T) (PySem.dunder nm) = some fo
  h2 : ∃ ro, PySem.W.findIn K (.type T) (dunderR nm) = some ro
  sub : PySem.W.subIn K (.type T) (.ref C) = some false
theorem own_bin {prog : Program} {w : World} {A : Around} {Er : Value → Shared → Prop} {s : Shared} {K : PySem.W.Frag} {x C L f : Addr} {h0 : Heap} {m : Str → Option Value} {ox : Obj} {od : Option Obj} {T : String}
    {op : Operator} {b : Value} {Q : Value → Shared → Prop} (F : Fr h0 L s.heap m) (X0 : K.In h0) (I : PySem.W.InstAt s.heap x ox C od)
    (hb : PySem.W.Looks (model prog w) s.heap (typeOf b) (.type T)) (W : OwnOp K C op.info.2 f) (Z : Far K C op.info.2 T)
    (h : wpAny (model prog w) A (call (.ref f) [.ref x, b]) (PySem.W.CmpBack Q) Er s) : wpAny (model prog w) A (binaryOp op (.ref x) b) Q Er s := by
  have X := X0.keeps F.keep
  obtain ⟨cd, rest, hcd, hm⟩ := PySem.W.ksp_first W.fst
  obtain ⟨fo, h1⟩ := Z.h1
  obtain ⟨ro, h2⟩ := Z.h2
  have one := PySem.W.ksp_try X I W.at_ W.fn h
  rcases hi : op.info with ⟨sym, nm⟩
  have wa := W.at_
  have wr := W.r
  rw [hi] at wa wr h1 h2
  rw [hi] at one
  dsimp only at wa wr h1 h2 one
  obtain ⟨hh, g, d, tt, os⟩ := s
  have a1 : PySem.W.Looks (model prog w) hh (typeOf (.ref x)) (.ref C) := I.type
  have a2 : PySem.W.Looks (model prog w) hh (typeOf b) (.type T) := hb
  have a3 := PySem.W.fills_K (M := model prog w) X hcd hm wa
  have a4 := PySem.W.ksp_fillsT (M := model prog w) X h1 h2
  have a5 := PySem.W.looks_subIn (M := model prog w) X Z.sub
  have a6 := PySem.W.ksp_inPy (M := model prog w) X wa wr (.inl rfl)
  have a7 : PySem.W.Looks (model prog w) hh (numberSlotInPython (.type T) nm) false := PySem.W.Looks.of_pure rfl
  have a8 := PySem.W.looks_findIn (M := model prog w) X h2
  revert a4
  generalize ((fo.isSome && !isSeqSlot fo) || (ro.isSome && !isSeqSlot ro)) = rt
  intro a4
  have ne : (Value.ref C == Value.type T) = false := by
    refine Bool.eq_false_iff.mpr fun q => ?_
    cases beq_iff_eq.mp q
  simp only [binaryOp, hi]
  refine wpAny_holding (wpAny_bind ?_)
  unfold binaryOp1
  refine wpAny_bind (a1.at (wpAny_bind (a2.at (wpAny_bind (a3.at ?_)))))
  simp only [ne, Bool.false_eq_true, if_false]
  cases rt
  all_goals
    ksp_lk
    refine wpAny_mono one (fun r s' hr => ?_) fun _ _ z => z
    obtain ⟨v, rfl, hq⟩ := hr
    ksp_lk
    exact hq
/-- o op y, y of a built-in type -/
theorem pe_binO {op : Operator} {T : V → Hp → String → Prop} (W : OwnOp X.K C op.info.2 f)
    (Z : ∀ y H t, T y H t → Far X.K C op.info.2 t)
    (hT : ∀ (pins : List (Addr × Obj)) (st : L2.St) (H : Hp) (s : Shared) (y : V) (u : Value) (t : String), Inv X pins st H s → RelV y u → T y H t → PySem.W.Looks (model X.prog X.w) s.heap (typeOf u) (.type t))
    (F : FnOk X.prog X.w X.K X.mg X.base CX k f fd ps sp) (hr : Room k X.A) (hb : Binds X.K fd ps [])
    (hx : ∀ st, PassesAt CX X st (E st)) (ha : PE X a ta) (hi : PE X b tb) :
    PE X (.BinOp a op b pos) (fun st H Q => ta st H fun x H1 => tb st H1 fun y H2 => ∃ o dx fs t, x = .ref o ∧ H2 o = some (.ins C dx fs) ∧ T y H2 t ∧ sp [x, y] H2 Q (E st)) := by
  refine ⟨fun pins s σ H Q I h => ?_⟩
  refine wpAny_BinOp (binT ha hi I h fun v u s2 x y H2 I2 rx ry q => ?_)
  obtain ⟨o, dx, fs, t, rfl, eo, ht, q⟩ := q
  obtain rfl : v = Value.ref o := rx
  obtain ⟨ob, od, J⟩ := inst_at I2 eo
  obtain ⟨m, fr⟩ := I2.fr
  refine own_bin fr I2.ok.mod.kin J (hT _ _ _ _ _ _ _ I2 ry ht) W (Z _ _ _ ht) ?_
  exact wpAny_mono (run_here F hr hb (hx σ) I2 (Paired.cons (show RelV (V.ref o) (Value.ref o) from rfl) (.cons ry .nil)) q) (fun u s' z => cmp_back z) fun _ _ z => z
/-- Passes, at some slots -/
theorem passes_at {E1 : XK} (h : Passes CX X E1) (st : L2.St) : PassesAt CX X st E1 := fun pins H s e s' I c => h pins st H s e s' I c
def rOwn (C : Addr) (T : V → Hp → Value → Prop) (sp : Sp) (E1 : XK) : R2 := fun x y H Q =>
  ∃ o dx fs t, x = .ref o ∧ H o = some (.ins C dx fs) ∧ T y H t ∧ sp [x, y] H Q E1
/-- o == y -/
theorem op_eqO {E1 : XK} {T : V → Hp → Value → Prop} (M : Meth X.K C "__eq__" f) (Z : ∀ y H t, T y H t → PySem.W.notFirst X.K C t = true)
    (hT : ∀ (pins : List (Addr × Obj)) (st : L2.St) (H : Hp) (s : Shared) (y : V) (u t : Value), Inv X pins st H s → RelV y u → T y H t → PySem.W.Looks (model X.prog X.w) s.heap (typeOf u) t)
    (F : FnOk X.prog X.w X.K X.mg X.base CX k f fd ps sp) (hr : Room k X.A) (hb : Binds X.K fd ps []) (hx : Passes CX X E1) :
    OpR X (compareOp .Eq) (rOwn C T sp E1) := by
  intro pins s σ H x y v u Q I rx ry q
  obtain ⟨o, dx, fs, t, rfl, eo, ht, q⟩ := q
  obtain rfl : v = Value.ref o := rx
  obtain ⟨ob, od, J⟩ := inst_at I eo
  obtain ⟨m, fr⟩ := I.fr
  unfold compareOp
  refine PySem.W.cmp_K (hu_lt hr) fr I.ok.mod.kin J (hT _ _ _ _ _ _ _ I ry ht) (Z _ _ _ ht) M.at_ M.fn ?_
  exact wpAny_mono (run_here F hr hb (passes_at hx σ) I (Paired.cons (show RelV (V.ref o) (Value.ref o) from rfl) (.cons ry .nil)) q) (fun u s' z => cmp_back z) fun _ _ z => z
where
  hu_lt {k : Nat} {A : Around} (hr : Room k A) : A.units < cLine := by have := hr.un; omega
/-- the class has an own __eq__ and no own __ne__, no base but object -/
def neB (K : PySem.W.Frag) (C f : Addr) : Bool :=
  match K.lookup C with
  | some ⟨.type "type", _, .cls cd, sl⟩ =>
    (match cd.mro with
      | [.ref D, .type "object"] => D == C
      | _ => false) && ((match sl.toList with
      | [_, _, _, _, some (.builtin _), _] => true
      | _ => false) && (!cd.hasDel && (PySem.W.nsOkIn K cd.ns && (decide (PySem.W.nsIn K cd.ns "__eq__" = some (some (.ref f))) &&
        (decide (PySem.W.nsIn K cd.ns "__ne__" = some none) && PySem.W.isFn K (.ref f))))))
  | _ => false
theorem ns_val {K : PySem.W.Frag} {h : Heap} {N : Addr} {mg : Str → Option Value} {n : Str} {v : Value} (X : K.In h) (G : h.Ns N mg) (e : PySem.W.nsIn K N n = some (some v)) : mg n = some v := by
  obtain ⟨o, es, ep, ho, hd, _, hf⟩ := G
  unfold PySem.W.nsIn at e
  split at e
  · rename_i c d es2 n2 sl q
    obtain rfl := Option.some.inj (ho.symm.trans (X _ _ q))
    cases hd
    split at e
    · next en he =>
        obtain rfl := Option.some.inj (Option.some.inj e)
        rw [← hf]
        unfold nsFind findBy
        rw [← Array.find?_toList, he]
        rfl
    · split at e <;> cases e
  · cases e
theorem ne_at {K : PySem.W.Frag} {C f x : Addr} {h : Heap} {ob : Obj} {od : Option Obj} (X : K.In h) (I : PySem.W.InstAt h x ob C od) (q : neB K C f = true) : h.OwnEqNoNe x C f "object" [.type "object"] := by
  unfold neB at q
  split at q
  · rename_i dd cd sl ho
    obtain ⟨q1, q⟩ := Bool.and_eq_true_iff.mp q
    obtain ⟨q2, q⟩ := Bool.and_eq_true_iff.mp q
    obtain ⟨q3, q⟩ := Bool.and_eq_true_iff.mp q
    obtain ⟨q4, q⟩ := Bool.and_eq_true_iff.mp q
    obtain ⟨q5, q⟩ := Bool.and_eq_true_iff.mp q
    obtain ⟨q6, q7⟩ := Bool.and_eq_true_iff.mp q
    split at q1
    · rename_i D hm
      split at q2
      · rename_i k0 k1 k2 k3 n k5 hs
        obtain rfl : D = C := beq_iff_eq.mp q1
        obtain ⟨nm, bs, mro, ns, qn, hd, sn, sub, ab, col, del⟩ := cd
        dsimp only at hm q3 q4 q5 q6
        have e3 : del = false := by
          cases del with
          | false => rfl
          | true => cases q3
        subst hm e3
        obtain ⟨l⟩ := sl
        dsimp only at hs
        subst hs
        have G : h.Ns ns (h.nsMap ns) := .of_isNs (PySem.W.isNs_of_in X q4)
        have g1 : h.nsMap ns "__eq__" = some (.ref f) := ns_val X G (of_decide_eq_true q5)
        have g2 : h.nsMap ns "__ne__" = none := PySem.W.ns_none_of X G (of_decide_eq_true q6)
        have tf : PySem.W.typeIn K (.ref f) = some (.type "function") := beq_iff_eq.mp q7
        obtain ⟨fo, hfo, hfc⟩ := Option.map_eq_some_iff.mp (show (K.lookup f).map (·.cls) = some (.type "function") from tf)
        refine ⟨ob, fo, nm, qn, ns, bs, hd, sn, sub, ab, col, dd, k0, k1, k2, k3, k5, n, h.nsMap ns, some (.builtin "object.__eq__"), I.at_, I.cls, X _ _ ho, G, g1, X _ _ hfo, hfc, (by kernel_rfl), ?_, g2⟩
        rw [typeLookup_type, builtinLookup_eq_fast]
        kernel_rfl
      · cases q2
    · cases q1
  · cases q
def rNe (C : Addr) (sp : Sp) (E1 : XK) : R2 := fun x y H Q =>
  ∃ o dx fs o2 dx2 fs2, x = .ref o ∧ y = .ref o2 ∧ H o = some (.ins C dx fs) ∧ H o2 = some (.ins C dx2 fs2) ∧ sp [x, y] H (fun v H1 => ∃ b, v = .bl b ∧ Q (.bl (!b)) H1) E1
/-- o != y, both of the class, which has __eq__ and no __ne__ -/
theorem op_neO {E1 : XK} (q : neB X.K C f = true) (F : FnOk X.prog X.w X.K X.mg X.base CX k f fd ps sp) (hr : Room (k + 1) X.A) (hb : Binds X.K fd ps []) (hx : Passes CX X E1) :
    OpR X (compareOp .NotEq) (rNe C sp E1) := by
  intro pins s σ H x y v u Q I rx ry q1
  obtain ⟨o, dx, fs, o2, dx2, fs2, rfl, rfl, eo, eo2, qs⟩ := q1
  obtain rfl : v = Value.ref o := rx
  obtain rfl : u = Value.ref o2 := ry
  obtain ⟨ob, od, J⟩ := inst_at I eo
  obtain ⟨ob2, od2, J2⟩ := inst_at I eo2
  obtain ⟨m, fr⟩ := I.fr
  have hu : X.A.units + 1 < cLine := by have := hr.un; omega
  have X0 := I.ok.mod.kin.keeps fr.keep
  have run := run_in1 F hr hb (passes_at hx σ) I (Paired.cons (show RelV (V.ref o) (Value.ref o) from rfl) (.cons (show RelV (V.ref o2) (Value.ref o2) from rfl) .nil)) qs
  obtain ⟨hh, g, d, t, os⟩ := s
  refine compareOp_ne_ownEq PySem.F.cmp_object (ne_at X0 J q) J2.at_ J2.cls hu (wpAny_mono run (fun z s' hz => ?_) fun _ _ z => z)
  obtain ⟨v1, H1, I1, r1, b, rfl, q2⟩ := hz
  exact ⟨b, r1, .bl (!b), H1, I1, rfl, q2⟩
/-- len(o) by the class's __len__ -/
theorem call_lenO {E1 : XK} (M : Meth X.K C "__len__" f) (hf : PySem.W.isFn X.K (.ref f) = true) (F : FnOk X.prog X.w X.K X.mg X.base CX k f fd ps sp) (hr : Room (k + 1) X.A) (hb : Binds X.K fd ps []) (hx : Passes CX X E1) :
    CallR X (.builtin "len") (fun xs H Q => ∃ o dx fs, xs = [.ref o] ∧ H o = some (.ins C dx fs) ∧ sp [.ref o] H (fun v H1 => ∃ n : Nat, v = .int n ∧ n < 2 ^ 62 ∧ Q (.int n) H1) E1) := by
  intro pins s σ H xs us Q I r h
  obtain ⟨o, dx, fs, rfl, eo, qs⟩ := h
  obtain ⟨u, rfl, rx⟩ := vals1 r
  obtain rfl : u = Value.ref o := rx
  obtain ⟨ob, od, J⟩ := inst_at I eo
  obtain ⟨m, fr⟩ := I.fr
  refine PySem.W.len_K fr I.ok.mod.kin J M.at_ hf (wpAny_mono (run_in1 F hr hb (passes_at hx σ) I (Paired.cons (show RelV (V.ref o) (Value.ref o) from rfl) .nil) qs) (fun z s' hz => ?_) fun _ _ z => z)
  obtain ⟨v1, H1, I1, r1, n, rfl, hn, q2⟩ := hz
  obtain ⟨t1, rfl⟩ := r1
  exact ⟨⟨by omega, by omega⟩, .int n, H1, I1.tok _, ⟨_, rfl⟩, q2⟩
/-- a < b, of data -/
def rLtD (K : PySem.W.Frag) : R2 := fun x y H Q => ∃ d e, Dp K H x d ∧ Dp K H y e ∧ PySem.W.alike d e = true ∧ d ≠ .none ∧ min d.depth e.depth ≤ 64 ∧ Q (.bl (PySem.W.dataLt d e)) H
theorem op_ltD (hu : X.A.units + 64 < cLine) : OpR X (compareOp .Lt) (rLtD X.K) := by
  intro pins s σ H x y v u Q I rx ry q
  obtain ⟨d, e, hd, he, ha, hn, hm, q⟩ := q
  obtain ⟨as, r1⟩ := Dp.reads I d x v hd rx
  obtain ⟨bs, r2⟩ := Dp.reads I e y u he ry
  exact PySem.W.lt_data r1 r2 ha hn (by omega) ⟨.bl _, H, I, rfl, q⟩
end
end Vo

set_option Elab.async false
set_option linter.all false
set_option maxRecDepth 100000
set_option maxHeartbeats 2000000
/-! y in o, y not in o: the class's own __contains__. -/
namespace Vo
open PySem PySem.Spec PyProof.Rows L2
section
variable {X : Cx} {CX : CXT} {k : Nat} {f C : Addr} {fd : FuncData} {ps : List Str} {sp : Sp} {E1 : XK}
/-- its promise gives a bool, which neg turns about -/
def rHas (C : Addr) (neg : Bool) (sp : Sp) (E1 : XK) : R2 := fun y x H Q =>
  ∃ o dx fs, x = .ref o ∧ H o = some (.ins C dx fs) ∧ sp [x, y] H (fun v H1 => ∃ b, v = .bl b ∧ Q (.bl (if neg = true then !b else b)) H1) E1
theorem op_inO (M : Meth X.K C "__contains__" f) (F : FnOk X.prog X.w X.K X.mg X.base CX k f fd ps sp) (hr : Room k X.A) (hb : Binds X.K fd ps []) (hx : Passes CX X E1) : OpR X (compareOp .In) (rHas C false sp E1) := by
  intro pins s σ H y x u v Q I ry rx q
  obtain ⟨o, dx, fs, rfl, eo, qs⟩ := q
  obtain rfl : v = Value.ref o := rx
  obtain ⟨ob, od, J⟩ := inst_at I eo
  obtain ⟨m, fr⟩ := I.fr
  refine PySem.W.in_K fr I.ok.mod.kin J M.at_ M.fn (wpAny_mono (run_here F hr hb (passes_at hx σ) I (Paired.cons (show RelV (V.ref o) (Value.ref o) from rfl) (.cons ry .nil)) qs) (fun z s' hz => ?_) fun _ _ z => z)
  obtain ⟨v1, H1, I1, r1, b, rfl, q2⟩ := hz
  cases r1
  exact wpAny_truthy_bool ⟨.bl b, H1, I1, rfl, q2⟩
theorem op_notInO (M : Meth X.K C "__contains__" f) (F : FnOk X.prog X.w X.K X.mg X.base CX k f fd ps sp) (hr : Room k X.A) (hb : Binds X.K fd ps []) (hx : Passes CX X E1) : OpR X (compareOp .NotIn) (rHas C true sp E1) := by
  intro pins s σ H y x u v Q I ry rx q
  obtain ⟨o, dx, fs, rfl, eo, qs⟩ := q
  obtain rfl : v = Value.ref o := rx
  obtain ⟨ob, od, J⟩ := inst_at I eo
  obtain ⟨m, fr⟩ := I.fr
  refine PySem.W.notIn_K fr I.ok.mod.kin J M.at_ M.fn (wpAny_mono (run_here F hr hb (passes_at hx σ) I (Paired.cons (show RelV (V.ref o) (Value.ref o) from rfl) (.cons ry .nil)) qs) (fun z s' hz => ?_) fun _ _ z => z)
  obtain ⟨v1, H1, I1, r1, b, rfl, q2⟩ := hz
  cases r1
  exact wpAny_truthy_bool ⟨.bl (!b), H1, I1, rfl, q2⟩
end
end Vo

set_option Elab.async false
set_option linter.all false
set_option maxRecDepth 100000
/-! try with several except clauses, each with a name or without. Methods of an own class called where the wish depends on the slots. -/
namespace Vtr
open PySem PySem.Spec PyProof.Rows L2
/-- a clause: its class, the slot of its name, its suite -/
abbrev Clause : Type := Value × Option Nat × (Addr → Value → Option Addr → TS)
/-- the slots behind a suite whose name is gone -/
def goneE (D : Ends) (i : Nat) : Ends := { nx := fun σ' H' => D.nx (σ'.set i none) H', rt := D.rt, bk := fun σ' H' => D.bk (σ'.set i none) H', ct := fun σ' H' => D.ct (σ'.set i none) H' }
/-- what the clauses wish, one behind the other -/
def wCl (K : PySem.W.Frag) (Wout : WX) (D : Ends) : List Clause → WX
  | [] => Wout
  | (c, none, ts) :: r => fun cls d σ H => ∃ b, PySem.W.exmOne K cls c = some b ∧ (b = true → ∀ a, H a = none → ts a cls d D σ H) ∧ (b = false → wCl K Wout D r cls d σ H)
  | (c, some i, ts) :: r => fun cls d σ H => ∃ b, PySem.W.exmOne K cls c = some b ∧ (b = true → ∀ a, H a = none → ts a cls d (goneE D i) (σ.set i (some (.ref a))) H) ∧ (b = false → wCl K Wout D r cls d σ H)
inductive ClsOk (X : Cx) : List ExceptHandler → List Clause → Prop
  | nil : ClsOk X [] []
  | plain {x : Str} {c : Value} {ts : Addr → Value → Option Addr → TS} {b₀ : Stmt} {suite : List Stmt} {np pos' : Pos} {hds : List ExceptHandler} {l : List Clause} (hc : Names X x c)
      (hsu : ∀ (a : Addr) (oe : Obj) (cls : Value) (d : Option Addr) (pn : List (Addr × Obj)), Zc cls d oe → (∃ vs, oe.data = .fields vs) → PSs (X.suite a ((a, oe) :: pn)) (b₀ :: suite) (ts a cls d)) (r : ClsOk X hds l) :
      ClsOk X (.ExceptHandler (some (.Name x np)) none (b₀ :: suite) pos' :: hds) ((c, none, ts) :: l)
  | named {x n : Str} {i : Nat} {c : Value} {ts : Addr → Value → Option Addr → TS} {b₀ : Stmt} {suite : List Stmt} {np pos' : Pos} {hds : List ExceptHandler} {l : List Clause} (hi : X.N[i]? = some n) (hln : X.env.kindOf n = some .local) (hc : Names X x c)
      (hsu : ∀ (a : Addr) (oe : Obj) (cls : Value) (d : Option Addr) (pn : List (Addr × Obj)), Zc cls d oe → (∃ vs, oe.data = .fields vs) → PSs (X.suite a ((a, oe) :: pn)) (b₀ :: suite) (ts a cls d)) (r : ClsOk X hds l) :
      ClsOk X (.ExceptHandler (some (.Name x np)) (some n) (b₀ :: suite) pos' :: hds) ((c, some i, ts) :: l)
section
variable {X : Cx} {body : List Stmt} {h₀ : ExceptHandler} {hds : List ExceptHandler} {l : List Clause} {pos : Pos} {tb : WX → TS} {Wout : WX}
theorem ps_try_cl (hs : X.stack = X.env :: X.outer) (hf : X.env.frame = some X.env.locals) (hN : X.N.Nodup) (tk : Takes X Wout)
    (hb : ∀ (W : WX) (pn : List (Addr × Obj)) (xe : Value → Shared → Prop), Takes (X.tr pn xe) W → PassesOwn (model X.prog X.w) X.A X.env xe → PSs (X.tr pn xe) body (tb W))
    (hh : ClsOk X (h₀ :: hds) l) : PS X (.Try body (h₀ :: hds) [] [] pos) (fun D σ H => tb (wCl X.K Wout D l) D σ H) := by
  refine ⟨fun pins s σ H D I h => ?_⟩
  have ok := I.ok
  have hfr : X.A.frames = some (X.env :: X.outer) := by rw [ok.frames, hs]
  refine wpAny_Try_except ?_
  refine wpAny_mono ((hb (wCl X.K Wout D l) (X.pn ++ pins) (fun e s₁ => wpAny (model X.prog X.w) X.A (noteFrame e X.env) (fun _ s₂ => wpAny (model X.prog X.w) X.A (setFlight e none) (fun _ s₃ =>
    wpAny (model X.prog X.w) X.A (handleBy e X.env (h₀ :: hds)) (SP X pins D) X.xe s₃) X.xe s₂) X.xe s₁) (fun u s' xx => ?_) PassesOwn.looking).run [] s σ H D (I.toTry _) h) (fun f s1 hsp => ?_) (fun e s1 he => he)
  · obtain ⟨a, B, sI, pins', σ', H', cls, d, rfl, J', nb, up, sky, na, os, ag, w⟩ := xx
    have J : Inv X pins σ' H' sI := J'.ofTry ok
    have sky' : Sky B (X.env :: X.outer) a (Zc cls d) X.env.locals s'.heap := by rw [← hs]; exact sky
    show wpAny (model X.prog X.w) X.A (noteFrame (.ref a) X.env) _ _ _
    refine Sky.land Zc.steady hfr hf sky' fun h3 fl3 up3 => ?_
    have J3 : Inv X pins σ' H' { s' with heap := h3 } := J.landed nb fl3.1 (up.trans up3) os ag
    obtain ⟨oe3, vs3, he3, hz3, hd3⟩ := fl3.there
    have notFr : ∀ {h : Heap} {o : Obj} {vs : Array Value}, h.FunFrames B (X.env :: X.outer) → h.get? a = some o → o.data = .fields vs → a ∉ frs (X.env :: X.outer) := fun {h o vs} ff e dd hm => by
      obtain ⟨_, o', e', hnf⟩ := ff.mem hm
      rw [e] at e'; cases e'
      exact hnf _ dd
    have nfr := notFr fl3.2.2.1 he3 hd3
    have nL : a ≠ X.env.locals := fun z => nfr (List.mem_filterMap.mpr ⟨X.env, List.mem_cons_self, by rw [hf, z]⟩)
    have nF : a ∉ X.fs := fun hm => by
      obtain ⟨e, he, q⟩ := List.mem_filterMap.mp hm
      exact nfr (List.mem_filterMap.mpr ⟨e, List.mem_cons_of_mem _ he, q⟩)
    have S3 := J3.suite he3 hd3 na nL nF
    have LT : PySem.W.Looks (model X.prog X.w) h3 (typeOf (.ref a)) cls := fun A Q E s k q => wpAny_typeOf_ref (k _ _ he3) (by rw [hz3.1]; exact q)
    have test : ∀ {x : Str} {c : Value} {np : Pos}, Names X x c → ∀ {Q : Value → Shared → Prop} {E : Value → Shared → Prop}, Q c { s' with heap := h3 } → wpAny (model X.prog X.w) (X.A.mark (some (.ref a))) (eval (.Name x np) X.env) Q E { s' with heap := h3 } := fun {x c np} hc {Q E} q => by
      obtain ⟨hg, hdbg, hm | ⟨hm, hv, hnn⟩⟩ := hc
      · exact ld_glob (X := X.suite a ((a, oe3) :: (X.pn ++ pins))) S3 hg hm q hdbg
      · exact ld_blt (X := X.suite a ((a, oe3) :: (X.pn ++ pins))) S3 hg hm hv q hnn hdbg
    have go : ∀ {hds' : List ExceptHandler} {l' : List Clause}, ClsOk X hds' l' → wCl X.K Wout D l' cls d σ' H' →
        wpAny (model X.prog X.w) X.A (handleBy (.ref a) X.env hds') (SP X pins D) X.xe { s' with heap := h3 } := by
      intro hds' l' hk
      induction hk with
      | nil =>
        intro w
        refine wpAny_handleBy_nil ?_
        obtain ⟨k1, k2, k3, oe, vs, T, oT, ts', he, hz, hd, h1, hr⟩ := id fl3
        unfold PySem.passOn
        refine wpAny_bind (wpAny_field he hd h1 ?_)
        rw [if_neg (show ¬ ((Value.ref T == Value.none) = true) from by simp)]
        have fin : wpAny (model X.prog X.w) X.A (setFlight (.ref a) X.env.frame) (fun _ s4 => wpAny (model X.prog X.w) X.A (throw (.ref a) : Sem Flow) (SP X pins D) X.xe s4) X.xe { s' with heap := h3 } := by
          rw [hf]
          refine HandSPX.setFlight_upZ fl3 fun h4 hh4 up4 => wpAny_throw (tk _ _ ?_)
          exact ⟨a, B, sI, pins, σ', H', cls, d, rfl, J, nb, (up.trans up3).trans up4, .inr (.inr (by rw [hs]; exact hh4)), na, os, ag, w⟩
        first
          | exact wpAny_bind (wpAny_pure (wpAny_bind fin))
          | exact wpAny_bind fin
      | @plain x c ts b₀ suite np pos' hds2 l2 hc hsu r ih =>
        intro w
        obtain ⟨b, hb1, hyes, hno⟩ := w
        refine wpAny_handleBy_cons (codeAny_handlers_test ?_) (by intro q; cases q)
        have LM := PySem.W.exm_one (M := model X.prog X.w) (J3.kIn) LT hb1
        refine test hc (LM.here ?_)
        cases b with
        | true =>
          refine codeAny_handlers_suite ?_
          refine HandSPX.lands_againZ fl3 fun h4 fl4 up4 => ?_
          have J4 : Inv X pins σ' H' { s' with heap := h4 } := J.landed nb fl4.1 ((up.trans up3).trans up4) os ag
          obtain ⟨oe4, vs4, he4, hz4, hd4⟩ := fl4.there
          have S4 := J4.suite he4 hd4 na nL nF
          refine wpAny_mono ((hsu a oe4 cls d (X.pn ++ pins) hz4 ⟨_, hd4⟩).run [] _ _ H' _ S4 (hyes rfl a na)) (fun f s6 hsp => ?_) (fun _ _ z => False.elim z)
          cases f with
          | next =>
            obtain ⟨σ6, H6, S6, q6⟩ := hsp
            exact ⟨_, _, S6.unsuite ok, q6⟩
          | brk =>
            obtain ⟨σ6, H6, S6, q6⟩ := hsp
            exact ⟨_, _, S6.unsuite ok, q6⟩
          | cont =>
            obtain ⟨σ6, H6, S6, q6⟩ := hsp
            exact ⟨_, _, S6.unsuite ok, q6⟩
          | ret u =>
            obtain ⟨v6, σ6, H6, S6, r6, q6⟩ := hsp
            exact ⟨_, _, _, S6.unsuite ok, r6, q6⟩
        | false =>
          show wpAny _ X.A (handleBy (.ref a) X.env hds2) _ _ _
          exact ih (hno rfl)
      | @named x n i c ts b₀ suite np pos' hds2 l2 hi hln hc hsu r ih =>
        intro w
        have hloc : Loc X.env.scope n := .inl hln
        obtain ⟨b, hb1, hyes, hno⟩ := w
        refine wpAny_handleBy_cons (codeAny_handlers_test ?_) (by intro q; cases q)
        have LM := PySem.W.exm_one (M := model X.prog X.w) (J3.kIn) LT hb1
        refine test hc (LM.here ?_)
        cases b with
        | true =>
          refine codeAny_handlers_suite_as ?_
          refine HandSPX.lands_againZ fl3 fun h4 fl4 up4 => ?_
          have J4 : Inv X pins σ' H' { s' with heap := h4 } := J.landed nb fl4.1 ((up.trans up3).trans up4) os ag
          obtain ⟨oe4, vs4, he4, hz4, hd4⟩ := fl4.there
          have S4 := J4.suite he4 hd4 na nL nF
          refine store_ok (X := X.suite a ((a, oe4) :: (X.pn ++ pins))) (v := .ref a) S4 hN hi hloc rfl (fun s5 S5 => ?_) (.inr hln)
          refine wpAny_mono ((hsu a oe4 cls d (X.pn ++ pins) hz4 ⟨_, hd4⟩).run [] s5 _ H' _ S5 (hyes rfl a na)) (fun f s6 hsp => ?_) (fun _ _ z => False.elim z)
          have end_ : ∀ {σ6 : L2.St} {H6 : Hp} {Q : Shared → Prop}, Inv (X.suite a ((a, oe4) :: (X.pn ++ pins))) [] σ6 H6 s6 → (∀ s7, Inv X pins (σ6.set i none) H6 s7 → Q s7) →
              wpAny (model X.prog X.w) X.A (do bindName X.env n .none; unbindBehindTheSuite X.env n pos') (fun _ s7 => Q s7) X.xe s6 := fun {σ6 H6 Q} S6 hq => gone_ok (S6.unsuite ok) hN hi hln hq
          cases f with
          | next =>
            obtain ⟨σ6, H6, S6, q6⟩ := hsp
            exact end_ S6 fun s7 J7 => ⟨_, _, J7, q6⟩
          | brk =>
            obtain ⟨σ6, H6, S6, q6⟩ := hsp
            exact end_ S6 fun s7 J7 => ⟨_, _, J7, q6⟩
          | cont =>
            obtain ⟨σ6, H6, S6, q6⟩ := hsp
            exact end_ S6 fun s7 J7 => ⟨_, _, J7, q6⟩
          | ret u =>
            obtain ⟨v6, σ6, H6, S6, r6, q6⟩ := hsp
            exact end_ S6 fun s7 J7 => ⟨_, _, _, J7, r6, q6⟩
        | false =>
          show wpAny _ X.A (handleBy (.ref a) X.env hds2) _ _ _
          exact ih (hno rfl)
    exact go hh w
  · cases f with
    | next =>
      obtain ⟨σ', H', J', q⟩ := hsp
      exact wpAny_execs_nil ⟨σ', H', J'.ofTry ok, q⟩
    | brk =>
      obtain ⟨σ', H', J', q⟩ := hsp
      exact ⟨σ', H', J'.ofTry ok, q⟩
    | cont =>
      obtain ⟨σ', H', J', q⟩ := hsp
      exact ⟨σ', H', J'.ofTry ok, q⟩
    | ret u =>
      obtain ⟨v, σ', H', J', r, q⟩ := hsp
      exact ⟨v, σ', H', J'.ofTry ok, r, q⟩
end
theorem takes_no {X : Cx} : Takes X fun _ _ _ _ => False := fun u s' ⟨a, B, sI, pins, σ, H, cls, d, e, I, nb, up, sky, na, os, ag, h⟩ => h.elim
/-- nothing is raised where nothing may be -/
theorem passN {X : Cx} : Passes (L2.CX X.prog X.w) X fun _ _ _ => False := fun _ _ _ _ _ _ _ ⟨_, _, _, _, _, _, _, _, _, _, _, _, h⟩ => h.elim
theorem passNo {X : Cx} (σ : L2.St) : PassesAt (L2.CX X.prog X.w) X σ fun _ _ _ => False := fun _ _ _ _ _ _ ⟨_, _, _, _, _, _, _, _, _, _, _, _, h⟩ => h.elim
section
variable {X : Cx} {CX : CXT} {k : Nat} {f C : Addr} {fd : FuncData} {ps : List Str} {sp : Sp} {E : L2.St → XK} {x m : Str} {p pos apos : Pos} {e o : Expr} {es : List Expr} {ta : TE} {t : TA}
/-- o.m(..), the wish of what is raised by the slots -/
def tMethS (C : Addr) (m : Str) (sp : Sp) (E : L2.St → XK) (ta : TE) (t : TA) : TE := fun σ H Q => ta σ H fun x H1 => ∃ a dx fs, x = .ref a ∧ H1 a = some (.ins C dx fs) ∧ fs.lookup m = none ∧ t σ H1 fun vs H2 => sp (x :: vs) H2 Q (E σ)
theorem pe_methAt {pl : Sem Bool} (he : PE X o ta) (c : Cls X.K C) (hm : Meth X.K C m f) (F : FnOk X.prog X.w X.K X.mg X.base CX k f fd ps sp) (hr : Room k X.A) (hb : Binds X.K fd ps []) (hx : ∀ σ, PassesAt CX X σ (E σ)) (ha : PA X (e :: es) t)
    (hst : starEach (e :: es) X.env = (false, eval e X.env) :: starEach es X.env := by rfl) (hpl : (backTo pos (starEach es X.env)).any (·.1) = false := by rfl)
    (ht : eval (.Call (.Attribute o m apos) (e :: es) [] pos) X.env = (do
      let ov ← eval o X.env
      standAt apos.atName
      let (f, first) ← holding [ov] (getMethod ov m pl)
      callWith pos f first (backTo pos (starEach (e :: es) X.env)) (backToKw pos (keywordEach [] X.env))) := by rfl) :
    PE X (.Call (.Attribute o m apos) (e :: es) [] pos) (tMethS C m sp E ta t) := by
  refine ⟨fun pins s σ H Q I h => ?_⟩
  refine PySem.W.methodCall_KW (pl := pl) (thn (he.run pins s σ H _ I h) fun u s1 ⟨x, H1, I1, rx, a, dx, fs, ex, ea, l, q⟩ => ?_) ht
  subst ex
  obtain rfl : u = Value.ref a := rx
  refine getmeth_ok I1 ea c hm l ?_
  refine PySem.W.callWith_K (first := [.ref a]) (h₀ := X.base) I.ok.mod.kin hm.kp (thn (ha.run pos pins s1 σ H1 _ I1 q) fun us s2 ⟨vs, H2, I2, r, q2⟩ => ⟨I2.kIn, ?_⟩) hst hpl
  exact run_fnS (us := .ref a :: us) (vs := .ref a :: vs) F hr hb (hx σ) I2 (.cons rfl r) q2
theorem pe_methAt0 {pl : Sem Bool} (he : PE X o ta) (c : Cls X.K C) (hm : Meth X.K C m f) (F : FnOk X.prog X.w X.K X.mg X.base CX k f fd ps sp) (hr : Room k X.A) (hb : Binds X.K fd ps []) (hx : ∀ σ, PassesAt CX X σ (E σ))
    (ht : eval (.Call (.Attribute o m apos) [] [] pos) X.env = (do
      let ov ← eval o X.env
      standAt apos.atName
      let (f, first) ← holding [ov] (getMethod ov m pl)
      callWith pos f first (backTo pos (starEach [] X.env)) (backToKw pos (keywordEach [] X.env))) := by rfl) :
    PE X (.Call (.Attribute o m apos) [] [] pos) (tMethS C m sp E ta tNil) := by
  refine ⟨fun pins s σ H Q I h => ?_⟩
  refine PySem.W.methodCall_KW (pl := pl) (thn (he.run pins s σ H _ I h) fun u s1 ⟨x, H1, I1, rx, a, dx, fs, ex, ea, l, q⟩ => ?_) ht
  subst ex
  obtain rfl : u = Value.ref a := rx
  refine getmeth_ok I1 ea c hm l ?_
  exact PySem.W.callWith_K0 (first := [.ref a]) I1.kIn hm.kp (run_fnS (us := [.ref a]) (vs := [.ref a]) F hr hb (hx σ) I1 (.cons rfl .nil) q)
end
end Vtr

set_option Elab.async false
set_option linter.all false
set_option maxRecDepth 100000
set_option maxHeartbeats 2000000
/-! Who is called, in one word: a def of the module (Fu), a method (Mo), a property (Pr), an own class made (Nw). -/
namespace Vc
open PySem PySem.Spec PyProof.Rows L2 Evl Vtr Vo
abbrev nil0 : XK := fun _ _ _ => False
structure Fu (P : Program) (w : World) (K : PySem.W.Frag) (mg : Str → Option Value) (base : Heap) (CX : CXT) (k : Nat) (x : Str) (sp : Sp) : Prop where
  ex : ∃ (f : Addr) (fd : FuncData) (ps : List Str), FnOk P w K mg base CX k f fd ps sp ∧ mg x = some (.ref f) ∧ PySem.W.keepIn K (.ref f) = true ∧ L2.Binds K fd ps []
structure Mo (P : Program) (w : World) (K : PySem.W.Frag) (mg : Str → Option Value) (base : Heap) (C : Addr) (CX : CXT) (k : Nat) (m : Str) (sp : Sp) : Prop where
  ex : ∃ (f : Addr) (fd : FuncData) (ps : List Str), FnOk P w K mg base CX k f fd ps sp ∧ Meth K C m f ∧ L2.Binds K fd ps []
structure Pr (P : Program) (w : World) (K : PySem.W.Frag) (mg : Str → Option Value) (base : Heap) (C : Addr) (k : Nat) (m : Str) (sp : Sp) : Prop where
  ex : ∃ (p f : Addr) (fd : FuncData) (ps : List Str), FnOk P w K mg base L2.CX0 k f fd ps sp ∧ PropOf K C m p f ∧ L2.Binds K fd ps []
structure Nw (P : Program) (w : World) (K : PySem.W.Frag) (mg : Str → Option Value) (base : Heap) (C : Addr) (CX : CXT) (k : Nat) (x : Str) (sp : Sp) : Prop where
  ex : ∃ (f : Addr) (fd : FuncData) (ps : List Str), FnOk P w K mg base CX k f fd ps sp ∧ Mk K C f ∧ L2.Binds K fd ps [] ∧ mg x = some (.ref C)
theorem app_nil (vs : List V) : vs ++ [] = vs := List.append_nil vs
section
variable {X : Cx} {C : Addr} {j k : Nat} {x m : Str} {sp : Sp} {E : L2.St → XK} {p pos apos : Pos} {e o : Expr} {es : List Expr} {ta : TE} {t : TA}
/-- the promise, asked of the arguments -/
def tFu (sp : Sp) (E : L2.St → XK) (t : TA) : TE := fun σ H Q => t σ H fun vs H1 => sp vs H1 Q (E σ)
theorem pe_fu (T : Fu X.prog X.w X.K X.mg X.base L2.CX0 k x sp) (hr : Room j X.A) (hg : Gl X x) (ha : PA X (e :: es) t) (hk : k ≤ j := by decide) (hdb : (x == ("__debug__" : Str)) = false := by decide)
    (he : starEach (e :: es) X.env = (false, eval e X.env) :: starEach es X.env := by rfl) (hpl : (backTo pos (starEach es X.env)).any (·.1) = false := by rfl) : PE X (.Call (.Name x p) (e :: es) [] pos) (tFu sp (fun _ => nil0) t) := by
  obtain ⟨f, fd, ps, F, hm, kp, b⟩ := T.ex
  exact pe_callS (E := fun _ => nil0) F (hr.mono hk) hg hm kp b (fun _ _ _ _ _ _ _ h => h.elim) ha hdb he hpl
theorem pe_fuX (T : Fu X.prog X.w X.K X.mg X.base (L2.CX X.prog X.w) k x sp) (hr : Room j X.A) (hg : Gl X x) (hx : ∀ σ, PassesAt (L2.CX X.prog X.w) X σ (E σ)) (ha : PA X (e :: es) t) (hk : k ≤ j := by decide) (hdb : (x == ("__debug__" : Str)) = false := by decide)
    (he : starEach (e :: es) X.env = (false, eval e X.env) :: starEach es X.env := by rfl) (hpl : (backTo pos (starEach es X.env)).any (·.1) = false := by rfl) : PE X (.Call (.Name x p) (e :: es) [] pos) (tFu sp E t) := by
  obtain ⟨f, fd, ps, F, hm, kp, b⟩ := T.ex
  exact pe_callS F (hr.mono hk) hg hm kp b hx ha hdb he hpl
/-- one that may raise, where it raises nothing -/
theorem pe_fuN (T : Fu X.prog X.w X.K X.mg X.base (L2.CX X.prog X.w) k x sp) (hr : Room j X.A) (hg : Gl X x) (ha : PA X (e :: es) t) (hk : k ≤ j := by decide) (hdb : (x == ("__debug__" : Str)) = false := by decide)
    (he : starEach (e :: es) X.env = (false, eval e X.env) :: starEach es X.env := by rfl) (hpl : (backTo pos (starEach es X.env)).any (·.1) = false := by rfl) : PE X (.Call (.Name x p) (e :: es) [] pos) (tFu sp (fun _ => nil0) t) := by
  exact pe_fuX (E := fun _ => nil0) T hr hg (fun σ => passNo σ) ha hk hdb he hpl
theorem pe_mo {pl : Sem Bool} (he : PE X o ta) (c : Cls X.K C) (T : Mo X.prog X.w X.K X.mg X.base C L2.CX0 k m sp) (hr : Room j X.A) (ha : PA X (e :: es) t) (hk : k ≤ j := by decide)
    (hst : starEach (e :: es) X.env = (false, eval e X.env) :: starEach es X.env := by rfl) (hpl : (backTo pos (starEach es X.env)).any (·.1) = false := by rfl)
    (ht : eval (.Call (.Attribute o m apos) (e :: es) [] pos) X.env = (do
      let ov ← eval o X.env
      standAt apos.atName
      let (f, first) ← holding [ov] (getMethod ov m pl)
      callWith pos f first (backTo pos (starEach (e :: es) X.env)) (backToKw pos (keywordEach [] X.env))) := by rfl) :
    PE X (.Call (.Attribute o m apos) (e :: es) [] pos) (tMethS C m sp (fun _ => nil0) ta t) := by
  obtain ⟨f, fd, ps, F, hm, b⟩ := T.ex
  exact pe_methAt (pl := pl) he c hm F (hr.mono hk) b (fun _ _ _ _ _ _ _ h => h.elim) ha hst hpl ht
theorem pe_moX {pl : Sem Bool} (he : PE X o ta) (c : Cls X.K C) (T : Mo X.prog X.w X.K X.mg X.base C (L2.CX X.prog X.w) k m sp) (hr : Room j X.A) (hx : ∀ σ, PassesAt (L2.CX X.prog X.w) X σ (E σ)) (ha : PA X (e :: es) t) (hk : k ≤ j := by decide)
    (hst : starEach (e :: es) X.env = (false, eval e X.env) :: starEach es X.env := by rfl) (hpl : (backTo pos (starEach es X.env)).any (·.1) = false := by rfl)
    (ht : eval (.Call (.Attribute o m apos) (e :: es) [] pos) X.env = (do
      let ov ← eval o X.env
      standAt apos.atName
      let (f, first) ← holding [ov] (getMethod ov m pl)
      callWith pos f first (backTo pos (starEach (e :: es) X.env)) (backToKw pos (keywordEach [] X.env))) := by rfl) :
    PE X (.Call (.Attribute o m apos) (e :: es) [] pos) (tMethS C m sp E ta t) := by
  obtain ⟨f, fd, ps, F, hm, b⟩ := T.ex
  exact pe_methAt (pl := pl) he c hm F (hr.mono hk) b hx ha hst hpl ht
theorem pe_moN {pl : Sem Bool} (he : PE X o ta) (c : Cls X.K C) (T : Mo X.prog X.w X.K X.mg X.base C (L2.CX X.prog X.w) k m sp) (hr : Room j X.A) (ha : PA X (e :: es) t) (hk : k ≤ j := by decide)
    (hst : starEach (e :: es) X.env = (false, eval e X.env) :: starEach es X.env := by rfl) (hpl : (backTo pos (starEach es X.env)).any (·.1) = false := by rfl)
    (ht : eval (.Call (.Attribute o m apos) (e :: es) [] pos) X.env = (do
      let ov ← eval o X.env
      standAt apos.atName
      let (f, first) ← holding [ov] (getMethod ov m pl)
      callWith pos f first (backTo pos (starEach (e :: es) X.env)) (backToKw pos (keywordEach [] X.env))) := by rfl) :
    PE X (.Call (.Attribute o m apos) (e :: es) [] pos) (tMethS C m sp (fun _ => nil0) ta t) := pe_moX (pl := pl) (E := fun _ => nil0) he c T hr (fun σ => passNo σ) ha hk hst hpl ht
theorem pe_mo0 {pl : Sem Bool} (he : PE X o ta) (c : Cls X.K C) (T : Mo X.prog X.w X.K X.mg X.base C L2.CX0 k m sp) (hr : Room j X.A) (hk : k ≤ j := by decide)
    (ht : eval (.Call (.Attribute o m apos) [] [] pos) X.env = (do
      let ov ← eval o X.env
      standAt apos.atName
      let (f, first) ← holding [ov] (getMethod ov m pl)
      callWith pos f first (backTo pos (starEach [] X.env)) (backToKw pos (keywordEach [] X.env))) := by rfl) :
    PE X (.Call (.Attribute o m apos) [] [] pos) (tMethS C m sp (fun _ => nil0) ta tNil) := by
  obtain ⟨f, fd, ps, F, hm, b⟩ := T.ex
  exact pe_methAt0 (pl := pl) he c hm F (hr.mono hk) b (fun _ _ _ _ _ _ _ h => h.elim) ht
theorem pe_mo0X {pl : Sem Bool} (he : PE X o ta) (c : Cls X.K C) (T : Mo X.prog X.w X.K X.mg X.base C (L2.CX X.prog X.w) k m sp) (hr : Room j X.A) (hx : ∀ σ, PassesAt (L2.CX X.prog X.w) X σ (E σ)) (hk : k ≤ j := by decide)
    (ht : eval (.Call (.Attribute o m apos) [] [] pos) X.env = (do
      let ov ← eval o X.env
      standAt apos.atName
      let (f, first) ← holding [ov] (getMethod ov m pl)
      callWith pos f first (backTo pos (starEach [] X.env)) (backToKw pos (keywordEach [] X.env))) := by rfl) :
    PE X (.Call (.Attribute o m apos) [] [] pos) (tMethS C m sp E ta tNil) := by
  obtain ⟨f, fd, ps, F, hm, b⟩ := T.ex
  exact pe_methAt0 (pl := pl) he c hm F (hr.mono hk) b hx ht
/-- o.m, a property -/
def tPr (C : Addr) (sp : Sp) (ta : TE) : TE := fun σ H Q => ta σ H fun x H1 => ∃ a dx fs, x = .ref a ∧ H1 a = some (.ins C dx fs) ∧ sp [.ref a] H1 Q nil0
theorem pe_pr (he : PE X e ta) (c : Cls X.K C) (T : Pr X.prog X.w X.K X.mg X.base C k m sp) (hr : Room j X.A) (hk : k + 1 ≤ j := by decide) (hab : attributeBase e m X.env (eval e X.env) = eval e X.env := by rfl) :
    PE X (.Attribute e m pos) (tPr C sp ta) := by
  obtain ⟨p, f, fd, ps, F, hp, b⟩ := T.ex
  refine ⟨(pe_prop (E := nil0) he c hp F (hr.mono hk) b .nil (fun _ _ _ _ _ _ _ h => h.elim) hab).run⟩
/-- C(..) of an own class -/
def tNw (C : Addr) (sp : Sp) (E : L2.St → XK) (t : TA) : TE := fun σ H Q => t σ H fun vs H1 => ∀ x dx, H1 x = none → H1 dx = none → dx ≠ x → sp (.ref x :: vs) (upd (upd H1 dx (.own x)) x (.ins C dx [])) (fun v H2 => v = .non ∧ Q (.ref x) H2) (E σ)
theorem pe_nw0 (T : Nw X.prog X.w X.K X.mg X.base C L2.CX0 k x sp) (hr : Room j X.A) (hg : Gl X x) (hk : k + 1 ≤ j := by decide) (hdb : (x == ("__debug__" : Str)) = false := by decide) :
    PE X (.Call (.Name x p) [] [] pos) (tNw C sp (fun _ => nil0) tNil) := by
  obtain ⟨f, fd, ps, F, M, b, hm⟩ := T.ex
  exact ⟨(pe_make0 (E := nil0) M F (hr.mono hk) hg hm b .nil (fun _ _ _ _ _ _ _ h => h.elim) hdb).run⟩
theorem pe_nw (T : Nw X.prog X.w X.K X.mg X.base C L2.CX0 k x sp) (hr : Room j X.A) (hg : Gl X x) (ha : PA X (e :: es) t) (hk : k + 1 ≤ j := by decide) (hdb : (x == ("__debug__" : Str)) = false := by decide)
    (hs : starEach (e :: es) X.env = (false, eval e X.env) :: starEach es X.env := by rfl) (hpl : (backTo pos (starEach es X.env)).any (·.1) = false := by rfl) : PE X (.Call (.Name x p) (e :: es) [] pos) (tNw C sp (fun _ => nil0) t) := by
  obtain ⟨f, fd, ps, F, M, b, hm⟩ := T.ex
  refine Vl.pe_weak (pe_make (E := nil0) M F (hr.mono hk) hg hm b .nil (fun _ _ _ _ _ _ _ h => h.elim) ha hdb hs hpl) fun σ H Q h => ?_
  unfold tMake
  simp only [app_nil]
  exact h
/-- y in o, y not in o -/
theorem op_inM (T : Mo X.prog X.w X.K X.mg X.base C L2.CX0 k "__contains__" sp) (hr : Room j X.A) (hk : k ≤ j := by decide) : OpR X (compareOp .In) (rHas C false sp nil0) := by
  obtain ⟨f, fd, ps, F, hm, b⟩ := T.ex
  exact op_inO hm F (hr.mono hk) b (fun _ _ _ _ _ _ _ h => h.elim)
theorem op_notInM (T : Mo X.prog X.w X.K X.mg X.base C L2.CX0 k "__contains__" sp) (hr : Room j X.A) (hk : k ≤ j := by decide) : OpR X (compareOp .NotIn) (rHas C true sp nil0) := by
  obtain ⟨f, fd, ps, F, hm, b⟩ := T.ex
  exact op_notInO hm F (hr.mono hk) b (fun _ _ _ _ _ _ _ h => h.elim)
end
/-- o[i] of an own class -/
structure Gt (P : Program) (w : World) (K : PySem.W.Frag) (mg : Str → Option Value) (base : Heap) (C : Addr) (CX : CXT) (k : Nat) (sp : Sp) : Prop where
  ex : ∃ (f : Addr) (fd : FuncData) (ps : List Str), FnOk P w K mg base CX k f fd ps sp ∧ Meth K C "__getitem__" f ∧ L2.Binds K fd ps [] ∧ PySem.W.fnIn K f = true
abbrev tIxM (C : Addr) (sp : Sp) (E : L2.St → XK) (ta tb : TE) : TE := tOwn2 C (fun _ => True) sp E ta tb
section
variable {X : Cx} {C : Addr} {j k : Nat} {sp : Sp} {E : L2.St → XK} {pos : Pos} {a b : Expr} {ta tb : TE}
theorem pe_ixX (T : Gt X.prog X.w X.K X.mg X.base C (L2.CX X.prog X.w) k sp) (hr : Room j X.A) (hx : ∀ st, PassesAt (L2.CX X.prog X.w) X st (E st)) (ha : PE X a ta) (hi : PE X b tb) (hk : k + 1 ≤ j := by decide)
    (hs : ∀ o i, subscripted b true (.ref o) i = runValue (.builtin "lifetime.subscript" ⟨[.ref o, i], []⟩) := by intro _ _; rfl) : PE X (.Subscript a b pos) (tIxM C sp E ta tb) := by
  obtain ⟨f, fd, ps, F, hm, b', hf⟩ := T.ex
  exact pe_ixO hm hf F (hr.mono hk) b' hx ha hi hs
theorem pe_ixN (T : Gt X.prog X.w X.K X.mg X.base C (L2.CX X.prog X.w) k sp) (hr : Room j X.A) (ha : PE X a ta) (hi : PE X b tb) (hk : k + 1 ≤ j := by decide)
    (hs : ∀ o i, subscripted b true (.ref o) i = runValue (.builtin "lifetime.subscript" ⟨[.ref o, i], []⟩) := by intro _ _; rfl) : PE X (.Subscript a b pos) (tIxM C sp (fun _ => nil0) ta tb) := pe_ixX (E := fun _ => nil0) T hr (fun σ => passNo σ) ha hi hk hs
/-- len(o) -/
def rLenM (C : Addr) (sp : Sp) : List V → Hp → VK → Prop := fun xs H Q => ∃ o dx fs, xs = [.ref o] ∧ H o = some (.ins C dx fs) ∧ sp [.ref o] H (fun v H1 => ∃ n : Nat, v = .int n ∧ n < 2 ^ 62 ∧ Q (.int n) H1) nil0
theorem call_lenM (T : Mo X.prog X.w X.K X.mg X.base C L2.CX0 k "__len__" sp) (hr : Room j X.A) (hk : k + 1 ≤ j := by decide) : CallR X (.builtin "len") (rLenM C sp) := by
  obtain ⟨f, fd, ps, F, hm, b⟩ := T.ex
  exact call_lenO (E1 := nil0) hm hm.fn F (hr.mono hk) b (fun _ _ _ _ _ _ _ h => h.elim)
theorem pe_negM (T : Mo X.prog X.w X.K X.mg X.base C L2.CX0 k "__neg__" sp) (hr : Room j X.A) (ha : PE X a ta) (hk : k ≤ j := by decide) : PE X (.UnaryOp .USub a pos) (tOwn1 C sp (fun _ => nil0) ta) := by
  obtain ⟨f, fd, ps, F, hm, b⟩ := T.ex
  exact pe_negO (E := fun _ => nil0) hm F (hr.mono hk) b (fun _ _ _ _ _ _ _ h => h.elim) ha
end
/-! ### what they are made of -/
section
variable {P : Program} {w : World} {K : PySem.W.Frag} {mg : Str → Option Value} {base : Heap} {CX : CXT} {k : Nat} {f C : Addr} {fd : FuncData} {ps : List Str} {sp : Sp} {x m : Str}
theorem Fu.of (F : FnOk P w K mg base CX k f fd ps sp) (hm : mg x = some (.ref f)) (kp : PySem.W.keepIn K (.ref f) = true) (b : L2.Binds K fd ps []) : Fu P w K mg base CX k x sp := ⟨f, fd, ps, F, hm, kp, b⟩
theorem Mo.of (F : FnOk P w K mg base CX k f fd ps sp) (hm : Meth K C m f) (b : L2.Binds K fd ps []) : Mo P w K mg base C CX k m sp := ⟨f, fd, ps, F, hm, b⟩
theorem Fu.mono {j : Nat} (T : Fu P w K mg base CX k x sp) (h : k ≤ j) : Fu P w K mg base CX j x sp := by
  obtain ⟨f, fd, ps, F, r⟩ := T.ex
  exact ⟨f, fd, ps, F.mono h, r⟩
end
/-! ### what they come to -/
section
variable {K : PySem.W.Frag} {σ : L2.St} {H : Hp} {z : V}
theorem ev_fu {sp : Sp} {E : L2.St → XK} {vs : List V} {ta : TA} (h : EvA ta σ H vs) (hs : SpV sp vs H z) : Ev (tFu sp E ta) σ H z := fun H1 e Q q =>
  h H1 e _ fun H2 e2 => hs H2 (e.trans e2) Q (fun H3 e3 => q H3 (e2.trans e3)) (E σ)
theorem el_fu {sp : Sp} {E : L2.St → XK} {vs xs : List V} {ta : TA} (h : EvA ta σ H vs) (hs : SpL sp vs H xs) : EvL (tFu sp E ta) σ H xs := fun H1 e Q q =>
  h H1 e _ fun H2 e2 => hs H2 (e.trans e2) Q (fun p H3 hp e3 h3 => q p H3 (fresh_back e2 hp) (e2.trans e3) h3) (E σ)
def SpU (sp : Sp) (vs : List V) (H : Hp) (xs : List V) : Prop := ∀ H1, Ex H H1 → ∀ Q : VK, (∀ p H2, H1 p = none → Ex H1 H2 → H2 p = some (.tup xs) → Q (.ref p) H2) → ∀ E : XK, sp vs H1 Q E
/-- a method on an object -/
theorem ev_me {C : Addr} {m : Str} {sp : Sp} {E : L2.St → XK} {te : TE} {ta : TA} {o dx : Addr} {fs : List (Str × V)} {vs : List V} (h : Ev te σ H (.ref o)) (ho : H o = some (.ins C dx fs)) (hl : fs.lookup m = none) (ha : EvA ta σ H vs) (hs : SpV sp (.ref o :: vs) H z) :
    Ev (tMethS C m sp E te ta) σ H z := fun H1 e Q q => h H1 e _ fun H2 e2 => ⟨o, dx, fs, rfl, (e.trans e2) _ _ ho, hl, ha H2 (e.trans e2) _ fun H3 e3 => hs H3 ((e.trans e2).trans e3) Q (fun H4 e4 => q H4 ((e2.trans e3).trans e4)) (E σ)⟩
theorem eu_me {C : Addr} {m : Str} {sp : Sp} {E : L2.St → XK} {te : TE} {ta : TA} {o dx : Addr} {fs : List (Str × V)} {vs xs : List V} (h : Ev te σ H (.ref o)) (ho : H o = some (.ins C dx fs)) (hl : fs.lookup m = none) (ha : EvA ta σ H vs) (hs : SpU sp (.ref o :: vs) H xs) :
    EvU (tMethS C m sp E te ta) σ H xs := fun H1 e Q q => h H1 e _ fun H2 e2 => ⟨o, dx, fs, rfl, (e.trans e2) _ _ ho, hl, ha H2 (e.trans e2) _ fun H3 e3 => hs H3 ((e.trans e2).trans e3) Q (fun p H4 hp e4 h4 => q p H4 (fresh_back (e2.trans e3) hp) ((e2.trans e3).trans e4) h4) (E σ)⟩
theorem eu_pr {C : Addr} {sp : Sp} {te : TE} {o dx : Addr} {fs : List (Str × V)} {xs : List V} (h : Ev te σ H (.ref o)) (ho : H o = some (.ins C dx fs)) (hs : SpU sp [.ref o] H xs) : EvU (tPr C sp te) σ H xs := fun H1 e Q q =>
  h H1 e _ fun H2 e2 => ⟨o, dx, fs, rfl, (e.trans e2) _ _ ho, hs H2 (e.trans e2) Q (fun p H4 hp e4 h4 => q p H4 (fresh_back e2 hp) (e2.trans e4) h4) nil0⟩
theorem ev_has {C : Addr} {neg : Bool} {sp : Sp} {ta tb : TE} {y : V} {o dx : Addr} {fs : List (Str × V)} {b : Bool} (hy : Ev ta σ H y) (h : Ev tb σ H (.ref o)) (ho : H o = some (.ins C dx fs)) (hs : SpV sp [.ref o, y] H (.bl b)) :
    Ev (tOp (rHas C neg sp nil0) ta tb) σ H (.bl (if neg = true then !b else b)) := ev_op hy h fun H1 e Q q => ⟨o, dx, fs, rfl, e _ _ ho, hs H1 e _ (fun H2 e2 => ⟨b, rfl, q H2 e2⟩) nil0⟩
/-- o[i], i a new tuple -/
theorem eu_ixM {C : Addr} {sp : Sp} {E : L2.St → XK} {ta tb : TE} {o dx : Addr} {fs : List (Str × V)} {is xs : List V} (h : Ev ta σ H (.ref o)) (ho : H o = some (.ins C dx fs)) (hi : EvU tb σ H is) (hs : ∀ t H1, Ex H H1 → H1 t = some (.tup is) → SpU sp [.ref o, .ref t] H1 xs) :
    EvU (tIxM C sp E ta tb) σ H xs := fun H1 e Q q => h H1 e _ fun H2 e2 => hi H2 (e.trans e2) _ fun t H3 ht e3 h3 => ⟨o, dx, fs, rfl, ((e.trans e2).trans e3) _ _ ho, trivial, hs t H3 ((e.trans e2).trans e3) h3 H3 (Ex.refl _) Q (fun p H4 hp e4 h4 => q p H4 (fresh_back (e2.trans e3) hp) ((e2.trans e3).trans e4) h4) (E σ)⟩
theorem ev_lenM {C : Addr} {sp : Sp} {ta : TE} {o dx : Addr} {fs : List (Str × V)} {n : Nat} (h : Ev ta σ H (.ref o)) (ho : H o = some (.ins C dx fs)) (hn : n < 2 ^ 62) (hs : SpV sp [.ref o] H (.int n)) : Ev (tCB (rLenM C sp) (tCons ta tNil)) σ H (.int n) :=
  fun H1 e Q q => h H1 e _ fun H2 e2 => ⟨o, dx, fs, rfl, (e.trans e2) _ _ ho, hs H2 (e.trans e2) _ (fun H3 e3 => ⟨n, rfl, hn, q H3 (e2.trans e3)⟩) nil0⟩
/-- a comparison of two new tuples, of two values at addresses -/
theorem ev_opT {r : R2} {ta tb : TE} {xs ys : List V} {K : PySem.W.Frag} (h : EvU ta σ H xs) (h2 : EvU tb σ H ys) (hr : ∀ p q H1, SqT K H1 p xs → SqT K H1 q ys → Ex H H1 → RV r (.ref p) (.ref q) H1 z) : Ev (tOp r ta tb) σ H z :=
  ev_opUU h h2 fun p q H1 hp hq e => hr p q H1 (.inl (.inl hp)) (.inl (.inl hq)) e
end
end Vc

set_option Elab.async false
set_option linter.all false
set_option maxRecDepth 100000
set_option maxHeartbeats 2000000
/-! An error of the program, with one field, raised about a variable's value. -/
namespace Vx2
open PySem PySem.Spec PyProof.Rows L2 Vl Evl
/-- the error of the class at CN about y, its field called f -/
def RaisedF (CN : Addr) (f : Str) (H : Hp) (y : V) (E : XK) : Prop := ∀ d H', Ex H H' → H' d = some (.xd [(f, y)]) → E (.ref CN) (some d) H'
theorem raised_f {CN : Addr} {f : Str} {te : TE} {st : L2.St} {H : Hp} {y : V} {W : WX} (i : Nat) (h : te = tVar i) (hy : st[i]? = some (some y)) (q : RaisedF CN f H y fun cls d H' => W cls d st H') :
    tMkO CN (spIni CN f) [] (tCons te tNil) st H (fun cls d H' => W cls d st H') := by
  subst h
  refine ⟨y, hy, by show 1 ≤ 1000; omega, fun a na => ?_⟩
  refine ⟨a, y, rfl, upd_same, fun dx n1 n2 => ?_⟩
  have nd : H dx = none := by rw [upd_ne n2] at n1; exact n1
  refine ⟨rfl, dx, [(f, y)], upd_same, by rw [upd_ne n2, upd_same], nd, ?_⟩
  refine q dx _ (fun b o hb => ?_) upd_same
  rw [upd_ne (ne_of_none hb nd), del_ne (ne_of_none hb na), upd_ne (ne_of_none hb na), upd_ne (ne_of_none hb nd), upd_ne (ne_of_none hb na)]
  exact hb
/-- what is asked of such a class to be raised, and its __init__ -/
structure Err1 (P : Program) (w : World) (K : PySem.W.Frag) (mg : Str → Option Value) (base : Heap) (x f : Str) (C : Addr) : Prop where
  T : OexC K C
  X : XfC K C
  no : PySem.W.findIn K (.ref C) f = some none
  g : mg x = some (.ref C)
  ini : ∃ fI fd, PySem.W.findIn K (.ref C) "__init__" = some (some (.ref fI)) ∧ PySem.W.typeIn K (.ref fI) = some (.type "function") ∧ Binds K fd ["self", f] [] ∧ FnOk P w K mg base CX0 1 fI fd ["self", f] (spIni C f)
end Vx2

set_option Elab.async false
set_option linter.all false
set_option maxRecDepth 100000
set_option maxHeartbeats 2000000
/-! The head's facts as a list; what they say of classes, errors, properties. -/
namespace Vh
open PySem PySem.Spec PyProof.Rows L2 Vx2 Vc
abbrev Fact : Type := Fg → Bool
def allF (fs : List Fact) (K : Fg) : Bool := fs.all fun g => g K
theorem fact_at {fs : List Fact} {K : Fg} (h : allF fs K = true) (i : Nat) {g : Fact} (e : fs[i]? = some g := by rfl) : g K = true := List.all_eq_true.mp h g (List.mem_of_getElem? e)
def glosF (xs : List Str) : Fact := fun K => xs.all fun x => (He.Fa.glo x).ok K
def freesF (xs : List Str) : Fact := fun K => xs.all fun x => (He.Fa.free x).ok K
theorem glos_ok {xs : List Str} {K : Fg} {h : Heap} {mg : Str → Option Value} (X : K.In h) (G : h.Ns mainGlobals mg) (c : glosF xs K = true) : ∀ x ∈ xs, mg x = some (.ref (He.ga K x)) := fun x hx => He.glo_ok X G (List.all_eq_true.mp c x hx)
theorem frees_ok {xs : List Str} {K : Fg} {h : Heap} {mg : Str → Option Value} (X : K.In h) (G : h.Ns mainGlobals mg) (c : freesF xs K = true) : ∀ x ∈ xs, mg x = none := fun x hx => He.free_ok X G (List.all_eq_true.mp c x hx)
/-- a class of the program: its methods, its fields' names free -/
def clsF (x : Str) (fs ms : List Str) : Fact := fun K => (He.Fa.cls x).ok K && ((fs.all fun f => (He.Fa.noat x f).ok K) && ms.all fun m => (He.Fa.meth x m).ok K)
structure ClsK (K : Fg) (C : Addr) (fs ms : List Str) : Prop where
  cls : Cls K C
  no : ∀ f ∈ fs, NoAttr K C f
  me : ∀ m ∈ ms, Meth K C m (He.ma K C m)
theorem clsF_ok {x : Str} {fs ms : List Str} {K : Fg} (c : clsF x fs ms K = true) : ClsK K (He.ga K x) fs ms := by
  obtain ⟨c1, c2⟩ := He.ba c
  obtain ⟨c2, c3⟩ := He.ba c2
  exact ⟨He.cls_ok c1, fun f hf => He.noat_ok (List.all_eq_true.mp c2 f hf), fun m hm => He.meth_ok (List.all_eq_true.mp c3 m hm)⟩
/-- a property -/
def prpF (x f : Str) : Fact := fun K =>
  He.eqO (PySem.W.findIn K (.ref (He.ga K x)) f) (some (some (.ref (He.ma K (He.ga K x) f)))) && (He.eqO (PySem.W.specialIn K (.ref (He.ma K (He.ga K x) f)) "__get__") (some (some (.builtin "property.__get__"))) && (decide (PySem.W.takesIn K (.ref (He.ma K (He.ga K x) f)) = some true) &&
  (match PySem.W.recIn K (He.ma K (He.ga K x) f) "property" with
    | some (.ref _ :: _) => true
    | _ => false)))
theorem prpF_ok {x f : Str} {K : Fg} (h : prpF x f K = true) : PropOf K (He.ga K x) f (He.ma K (He.ga K x) f) (pgA K x f) := by
  obtain ⟨h1, h⟩ := He.ba h
  obtain ⟨h2, h⟩ := He.ba h
  obtain ⟨h3, h4⟩ := He.ba h
  refine ⟨He.eqO_ok h1, He.eqO_ok h2, of_decide_eq_true h3, ?_⟩
  unfold pgA
  split at h4
  · next g rest e => exact ⟨rest, by rw [e]⟩
  · cases h4
/-- a class of errors with fields -/
def errF (x : Str) (fs : List Str) : Fact := fun K => errB K (He.ga K x) && iniB K (He.ga K x) fs
/-- a class of errors without an own __init__ -/
def err0F (x : Str) : Fact := fun K => errB K (He.ga K x)
def exmF (xs : List Str) : Fact := fun K => xs.all fun x => xs.all fun y => (He.Fa.exm x y (decide (x = y))).ok K
theorem exmF_ok {xs : List Str} {K : Fg} (h : exmF xs K = true) {x y : Str} (hx : x ∈ xs) (hy : y ∈ xs) : PySem.W.exmOne K (.ref (He.ga K x)) (.ref (He.ga K y)) = some (decide (x = y)) :=
  of_decide_eq_true (List.all_eq_true.mp (List.all_eq_true.mp h x hx) y hy)
def fnF (x m : Str) : Fact := fun K => PySem.W.fnIn K (He.ma K (He.ga K x) m)
def mkF (x : Str) : Fact := fun K => (He.Fa.mkr x).ok K
def strF (x z : Str) : Fact := fun K => (He.Fa.str x z).ok K
def intF (x : Str) (i : Int) : Fact := fun K => (He.Fa.int x i).ok K
theorem err1_of {P : Program} {w : World} {K : Fg} {mg : Str → Option Value} {base : Heap} {x f : Str} {fd : FuncData} (h : errF x [f] K = true) (hk : takB K = true) (g : mg x = some (.ref (He.ga K x)))
    (G : FnOk P w K mg base L2.CX0 1 (He.ma K (He.ga K x) "__init__") fd ["self", f] (Vl.spIni (He.ga K x) f)) (b : L2.Binds K fd ["self", f] []) : Err1 P w K mg base x f (He.ga K x) := by
  obtain ⟨h1, h2⟩ := He.ba h
  obtain ⟨O, XF, IS⟩ := errB_ok h1 hk
  have I := iniB_ok h2
  exact ⟨O, XF, I.no f List.mem_cons_self, g, _, fd, I.iC, I.tI, b, G⟩
end Vh

set_option Elab.async false
set_option linter.all false
set_option maxRecDepth 100000
set_option maxHeartbeats 2000000
/-! The laws' own draws: a pool of three ints, names out of it. -/
namespace Vp
open PySem PySem.Spec PyProof.Rows L2 Vl Evl
/-- a text by its signs -/
def tx (l : List Nat) : Str := ⟨l.toArray⟩
theorem tx_list (l : List Nat) : (tx l).cps.toList = l := rfl
theorem tx_len (l : List Nat) : (tx l).length = l.length := rfl
theorem tx_app (a b : List Nat) : tx a ++ tx b = tx (a ++ b) := by
  show Str.mk (a.toArray ++ b.toArray) = Str.mk (a ++ b).toArray
  rw [List.append_toArray]
theorem tx_one (c : Nat) : (⟨#[c]⟩ : Str) = tx [c] := rfl
theorem tx_inj {a b : List Nat} (h : tx a = tx b) : a = b := by
  have := congrArg (fun z : Str => z.cps.toList) h
  exact this
theorem tx_of (z : Str) : z = tx z.cps.toList := by
  obtain ⟨a⟩ := z
  rfl
theorem tx_cut0 (l : List Nat) (k : Nat) : cutS (tx l) none (some (k : Int)) = tx (l.take k) := by
  show Str.mk _ = Str.mk _
  rw [HT.sIx_nat, HT.sIx_none, tx_len, tx_list, List.drop_zero, Nat.sub_zero, ← List.take_take, List.take_length]
theorem tx_cut1 (l : List Nat) (k : Nat) : cutS (tx l) (some (k : Int)) none = tx (l.drop k) := by
  show Str.mk _ = Str.mk _
  rw [HT.sIx_nat, HT.sIx_none, tx_len, tx_list]
  congr 2
  by_cases h : k ≤ l.length
  · rw [Nat.min_eq_left h, ← List.length_drop, List.take_length]
  · rw [List.drop_of_length_le (by omega), List.drop_of_length_le (by omega), List.take_nil]
def letters : List Nat := [97, 98, 99, 100, 101, 102, 103, 104, 105, 106, 107, 108, 109, 110, 111, 112, 113, 114, 115, 116, 117, 118, 119, 120, 121, 122]
def digits : List Nat := [48, 49, 50, 51, 52, 53, 54, 55, 56, 57]
def signs : List Nat := letters ++ digits
/-- the signs of a name: a small letter, then up to seven small letters and figures -/
def nam (l : List Nat) : Prop := ∃ c r, l = c :: r ∧ c ∈ letters ∧ (∀ x ∈ r, x ∈ signs) ∧ r.length ≤ 7
theorem nam_len {l : List Nat} (h : nam l) : 1 ≤ l.length ∧ l.length ≤ 8 := by
  obtain ⟨c, r, rfl, _, _, h4⟩ := h
  rw [List.length_cons]
  omega
theorem letters_signs {c : Nat} (h : c ∈ letters) : c ∈ signs := List.mem_append_left _ h
theorem nam_signs {l : List Nat} (h : nam l) : ∀ x ∈ l, x ∈ signs := by
  obtain ⟨c, r, rfl, h2, h3, _⟩ := h
  intro x hx
  rcases List.mem_cons.mp hx with rfl | hx
  · exact letters_signs h2
  · exact h3 x hx
theorem nam_take {l : List Nat} (h : nam l) (k : Nat) : nam (l.take (k + 1)) := by
  obtain ⟨c, r, rfl, h2, h3, h4⟩ := h
  refine ⟨c, r.take k, List.take_succ_cons, h2, fun x hx => h3 x (List.mem_of_mem_take hx), ?_⟩
  rw [List.length_take]
  omega
/-- a pool stands at p, its counter at most n -/
def PoolAt (H : Hp) (p : Addr) (n : Nat) : Prop := ∃ a b c : Int, H p = some (.lst [.int a, .int b, .int c]) ∧ 0 ≤ b ∧ b < 1000000007 ∧ 0 ≤ c ∧ c ≤ n
theorem PoolAt.mono {H : Hp} {p : Addr} {n m : Nat} (h : PoolAt H p n) (hm : n ≤ m) : PoolAt H p m := by
  obtain ⟨a, b, c, h1, h2, h3, h4, h5⟩ := h
  exact ⟨a, b, c, h1, h2, h3, h4, by omega⟩
/-- all but what stands at p -/
def Wo (H : Hp) (p : Addr) : Hp := fun b => if b = p then none else H b
theorem wo_self (H : Hp) (p : Addr) : Wo H p p = none := if_pos rfl
theorem wo_ne {H : Hp} {p b : Addr} (h : b ≠ p) : Wo H p b = H b := if_neg h
theorem wo_ex (H : Hp) (p : Addr) : Ex (Wo H p) H := fun b o e => by
  by_cases h : b = p
  · rw [h, wo_self] at e
    cases e
  · rw [wo_ne h] at e
    exact e
theorem wo_of {Hk H : Hp} {p : Addr} (h : Hk p = none) (e : Ex Hk H) : Ex Hk (Wo H p) := fun b o hb => by
  rw [wo_ne (ne_of_none hb h)]
  exact e b o hb
theorem wo_at {H : Hp} {p b : Addr} {o : HO} (h : H b = some o) (hb : b ≠ p) : Wo H p b = some o := by
  rw [wo_ne hb]
  exact h
/-- what is known is Hk, all but the pool at p; the pool stands there -/
structure Pl (Hk : Hp) (p : Addr) (n : Nat) (H : Hp) : Prop where
  no : Hk p = none
  ex : Ex Hk H
  at_ : PoolAt H p n
theorem Pl.re {Hk H : Hp} {p : Addr} {n : Nat} (h : Pl Hk p n H) : Pl (Wo H p) p n H := ⟨wo_self _ _, wo_ex _ _, h.at_⟩
theorem Pl.wo {Hk H : Hp} {p : Addr} {n : Nat} (h : Pl Hk p n H) : Ex Hk (Wo H p) := wo_of h.no h.ex
theorem Pl.grow {Hk H H' : Hp} {p : Addr} {n : Nat} (h : Pl Hk p n H) (e : Ex H H') : Pl Hk p n H' := by
  obtain ⟨a, b, c, h1, h2⟩ := h.at_
  exact ⟨h.no, h.ex.trans e, a, b, c, e _ _ h1, h2⟩
theorem Pl.cnt {Hk H : Hp} {p : Addr} {n m : Nat} (h : Pl Hk p n H) (hm : n ≤ m) : Pl Hk p m H := ⟨h.no, h.ex, h.at_.mono hm⟩
theorem Pl.sub {Hk Hj H : Hp} {p : Addr} {n : Nat} (h : Pl Hk p n H) (e : Ex Hj Hk) (hn : Hj p = none) : Pl Hj p n H := ⟨hn, e.trans h.ex, h.at_⟩
/-- a new object beside the pool -/
theorem Pl.new {Hk H : Hp} {p q : Addr} {n : Nat} {o : HO} (h : Pl Hk p n H) (hq : H q = none) : Pl Hk p n (upd H q o) := h.grow (Ex.new hq)
theorem Pl.ne {Hk H : Hp} {p q : Addr} {n : Nat} (h : Pl Hk p n H) (hq : H q = none) : q ≠ p := fun z => by
  obtain ⟨a, b, c, h1, _⟩ := h.at_
  rw [z, h1] at hq
  cases hq
/-! promises -/
def spPool : Sp := fun vs H Q _ => ∃ c : Int, vs = [.int c] ∧ ∀ p H', H p = none → Ex H H' → PoolAt H' p 0 → Q (.ref p) H'
def spTake : Sp := fun vs H Q _ => ∃ (p : Addr) (m : Int) (Hk : Hp) (n : Nat), vs = [.ref p, .int m] ∧ 1 ≤ m ∧ m ≤ 100000 ∧ Pl Hk p n H ∧ n ≤ 100000 ∧
  ∀ (r : Int) H', 0 ≤ r → r < m → Pl Hk p (n + 1) H' → Q (.int r) H'
/-- names, none of them twice -/
def Names (xs : List (List Nat)) : Prop := (∀ l ∈ xs, nam l) ∧ xs.Nodup
def vtx (xs : List (List Nat)) : List V := xs.map fun l => V.str (tx l)
theorem vtx_len (xs : List (List Nat)) : (vtx xs).length = xs.length := List.length_map _
theorem vtx_app (xs ys : List (List Nat)) : vtx (xs ++ ys) = vtx xs ++ vtx ys := List.map_append
theorem vtx_at {xs : List (List Nat)} {i : Nat} {l : List Nat} (h : xs[i]? = some l) : (vtx xs)[i]? = some (V.str (tx l)) := by
  unfold vtx
  rw [List.getElem?_map, h]
  rfl
def spNames : Sp := fun vs H Q _ => ∃ (p : Addr) (m : Nat) (Hk : Hp) (n : Nat), vs = [.ref p, .int (m : Int)] ∧ m ≤ 8 ∧ Pl Hk p n H ∧ n ≤ 90000 ∧
  ∀ q xs H', H q = none → Pl Hk p (n + 50) H' → H' q = some (.lst (vtx xs)) → xs.length = m → Names xs → Q (.ref q) H'
/-- words out of names -/
def spWord : Sp := fun vs H Q _ => ∃ (p q : Addr) (xs : List (List Nat)) (m : Nat) (Hk : Hp) (n : Nat), vs = [.ref p, .ref q, .int (m : Int)] ∧ 1 ≤ m ∧ m ≤ 30 ∧ Pl Hk p n H ∧ n ≤ 90000 ∧ Hk q = some (.lst (vtx xs)) ∧ 1 ≤ xs.length ∧ xs.length ≤ 1000 ∧
  ∀ d ys H', H d = none → Pl Hk p (n + 50) H' → H' d = some (.lst (vtx ys)) → 1 ≤ ys.length → ys.length ≤ max m 12 → (∀ y ∈ ys, y ∈ xs) → Q (.ref d) H'
theorem mod7 {s i j n : Nat} (hn : n = 26 ∨ n = 36) (hi : i < 26) (hj : j < 26) (h : (s + 7 * i) % n = (s + 7 * j) % n) : i = j := by
  rcases hn with rfl | rfl <;> omega
theorem mod3 {s i j : Nat} (hi : i < 8) (hj : j < 8) (h : (s + 3 * i) % 26 = (s + 3 * j) % 26) : i = j := by omega
theorem nodup_letters : letters.Nodup := by decide
theorem nodup_signs : signs.Nodup := by decide +kernel
theorem len_letters : letters.length = 26 := rfl
theorem len_signs : signs.length = 36 := rfl
theorem nodup_key {α : Type} {l : List α} (h : ∀ (i j : Nat) (y : α), l[i]? = some y → l[j]? = some y → i = j) : l.Nodup := by
  refine List.pairwise_iff_getElem.mpr fun i j hi hj hij e => ?_
  have := h i j l[i] (List.getElem?_eq_getElem hi) (by rw [e]; exact List.getElem?_eq_getElem hj)
  omega
theorem nodup_range {α : Type} {m : Nat} {f : Nat → α} (h : ∀ i j, i < m → j < m → f i = f j → i = j) : ((List.range m).map f).Nodup := by
  refine nodup_key fun i j y hi hj => ?_
  rw [List.getElem?_map] at hi hj
  by_cases a : i < m
  · by_cases b : j < m
    · rw [List.getElem?_range a] at hi
      rw [List.getElem?_range b] at hj
      exact h i j a b ((Option.some.inj hi).trans (Option.some.inj hj).symm)
    · rw [List.getElem?_eq_none (by rw [List.length_range]; omega)] at hj
      cases hj
  · rw [List.getElem?_eq_none (by rw [List.length_range]; omega)] at hi
    cases hi
theorem getD_at {l : List Nat} {i : Nat} (h : i < l.length) : l[i]? = some (l.getD i 0) := by
  rw [List.getElem?_eq_getElem h, List.getD_eq_getElem?_getD, List.getElem?_eq_getElem h]
  rfl
theorem getD_mem {l : List Nat} {i : Nat} (h : i < l.length) : l.getD i 0 ∈ l := List.mem_of_getElem? (getD_at h)
theorem getD_inj {l : List Nat} (hn : l.Nodup) {i j : Nat} (hi : i < l.length) (hj : j < l.length) (h : l.getD i 0 = l.getD j 0) : i = j :=
  nd_ix hn (getD_at hi) (by rw [h]; exact getD_at hj)
theorem nam_one {c : Nat} (h : c ∈ letters) : nam [c] := ⟨c, [], rfl, h, (fun _ z => nomatch z), by show 0 ≤ 7; omega⟩
theorem nam_snoc {l : List Nat} {c : Nat} (h : nam l) (hc : c ∈ signs) (hl : l.length ≤ 7) : nam (l ++ [c]) := by
  obtain ⟨a, r, rfl, h2, h3, h4⟩ := h
  refine ⟨a, r ++ [c], rfl, h2, fun x hx => ?_, ?_⟩
  · rcases List.mem_append.mp hx with hx | hx
    · exact h3 x hx
    · rw [List.mem_singleton.mp hx]
      exact hc
  · rw [List.length_append, List.length_singleton]
    rw [List.length_cons] at hl
    omega
theorem nam_cons {l : List Nat} {c : Nat} (hc : c ∈ letters) (hl : ∀ x ∈ l, x ∈ signs) (h7 : l.length ≤ 7) : nam (c :: l) := ⟨c, l, rfl, hc, hl, h7⟩
/-- a sign put into a stem -/
theorem nam_put {w : List Nat} {c t p : Nat} (hw : nam w) (ht : t ≤ 7) (hp : p ≤ (w.take t).length) (h : p = 0 → c ∈ letters) (h2 : c ∈ signs) :
    nam ((w.take t).take p ++ [c] ++ (w.take t).drop p) := by
  have hm : ∀ x ∈ w.take t, x ∈ signs := fun x hx => nam_signs hw x (List.mem_of_mem_take hx)
  have hl : (w.take t).length ≤ 7 := by rw [List.length_take]; omega
  cases p with
  | zero =>
    rw [List.take_zero, List.nil_append, List.drop_zero]
    exact nam_cons (h rfl) hm hl
  | succ p =>
    obtain ⟨a, r, hw1, ha, hr, h7⟩ := hw
    cases t with
    | zero =>
      rw [List.take_zero] at hp
      exact absurd hp (by show ¬ p + 1 ≤ 0; omega)
    | succ t =>
      rw [hw1, List.take_succ_cons] at hm hl hp ⊢
      rw [List.take_succ_cons, List.drop_succ_cons, List.append_assoc]
      rw [List.length_cons] at hl hp
      refine ⟨a, (r.take t).take p ++ ([c] ++ (r.take t).drop p), rfl, ha, fun x hx => ?_, ?_⟩
      · rcases List.mem_append.mp hx with hx | hx
        · exact hm x (List.mem_cons_of_mem _ (List.mem_of_mem_take hx))
        · rcases List.mem_append.mp hx with hx | hx
          · rw [List.mem_singleton.mp hx]
            exact h2
          · exact hm x (List.mem_cons_of_mem _ (List.mem_of_mem_drop hx))
      · rw [List.length_append, List.length_append, List.length_take, List.length_drop, List.length_singleton]
        omega
theorem put_at {w : List Nat} {c p : Nat} (hp : p ≤ w.length) : (w.take p ++ [c] ++ w.drop p)[p]? = some c := by
  rw [List.append_assoc, List.getElem?_append_right (by rw [List.length_take]; omega), List.length_take, Nat.min_eq_left hp, Nat.sub_self]
  rfl
theorem str_letters : Str.ofString "abcdefghijklmnopqrstuvwxyz" = tx letters := by decide +kernel
theorem str_digits : Str.ofString "0123456789" = tx digits := by decide +kernel
theorem rv_cats {a b : List Nat} {H : Hp} (h : a.length + b.length ≤ 100000) : RV rCatS (.str (tx a)) (.str (tx b)) H (.str (tx (a ++ b))) := by
  intro H1 _ Q q
  refine ⟨tx a, tx b, rfl, rfl, sz_of h, ?_⟩
  rw [tx_app]
  exact q H1 (Ex.refl H1)
theorem fresh_wo {H H' : Hp} {p d : Addr} {n m : Nat} {Hk : Hp} (h0 : Pl Hk p n H) (h : Pl (Wo H p) p m H') (hd : H' d = none) : H d = none := by
  cases e : H d with
  | none => rfl
  | some o =>
    have hp : d ≠ p := h.ne hd
    have := h.ex d o (wo_at e hp)
    rw [hd] at this
    cases this
theorem Pl.back {Hk H H' : Hp} {p : Addr} {n m : Nat} (h0 : Pl Hk p n H) (h : Pl (Wo H p) p m H') : Pl Hk p m H' := h.sub h0.wo h0.no
theorem cutV0 (xs : List V) (k : Nat) : cutV xs none (some (k : Int)) = xs.take k := by
  unfold cutV
  rw [HT.sIx_nat, HT.sIx_none, List.drop_zero, Nat.sub_zero, ← List.take_take, List.take_length]
theorem cutV1 (xs : List V) (k : Nat) : cutV xs (some (k : Int)) none = xs.drop k := by
  unfold cutV
  rw [HT.sIx_nat, HT.sIx_none]
  by_cases h : k ≤ xs.length
  · rw [Nat.min_eq_left h, ← List.length_drop, List.take_length]
  · rw [List.drop_of_length_le (by omega), List.drop_of_length_le (by omega), List.take_nil]
theorem vtx_take (xs : List (List Nat)) (k : Nat) : (vtx xs).take k = vtx (xs.take k) := List.map_take.symm
theorem vtx_drop (xs : List (List Nat)) (k : Nat) : (vtx xs).drop k = vtx (xs.drop k) := List.map_drop.symm
theorem vtx_rep (xs : List (List Nat)) : ∀ k, (List.replicate k (vtx xs)).flatten = vtx (List.replicate k xs).flatten
  | 0 => rfl
  | k + 1 => by
    rw [List.replicate_succ, List.flatten_cons, List.replicate_succ, List.flatten_cons, vtx_rep xs k, vtx_app]
theorem rep_len {α : Type} (xs : List α) : ∀ k, (List.replicate k xs).flatten.length = k * xs.length
  | 0 => by rw [Nat.zero_mul]; rfl
  | k + 1 => by
    rw [List.replicate_succ, List.flatten_cons, List.length_append, rep_len xs k, Nat.succ_mul]
    omega
theorem rep_mem {α : Type} {xs : List α} {y : α} {k : Nat} (h : y ∈ (List.replicate k xs).flatten) : y ∈ xs := by
  obtain ⟨l, hl, hy⟩ := List.mem_flatten.mp h
  rw [(List.mem_replicate.mp hl).2] at hy
  exact hy
end Vp

set_option Elab.async false
set_option linter.all false
set_option maxRecDepth 100000
set_option maxHeartbeats 4000000
/-! o op y by an own operator, y of a built-in type; what the head says of it. -/
namespace Vw
open PySem PySem.Spec PyProof.Rows L2 Vl Evl Vp Vo Vc Vh
/-- values of built-in types, with the type's name -/
def Wr (y : V) (H : Hp) (t : String) : Prop := (∃ b, y = .bl b ∧ t = "bool") ∨ (∃ i, y = .int i ∧ t = "int") ∨ (∃ z, y = .str z ∧ t = "str") ∨ (y = .non ∧ t = "NoneType") ∨
  (∃ a xs, y = .ref a ∧ H a = some (.tup xs) ∧ t = "tuple") ∨ (∃ a xs, y = .ref a ∧ H a = some (.lst xs) ∧ t = "list")
theorem Wr.tyx {K : PySem.W.Frag} {y : V} {H : Hp} {t : String} (h : Wr y H t) : TyX K H y (.type t) := by
  rcases h with ⟨b, rfl, rfl⟩ | ⟨b, rfl, rfl⟩ | ⟨b, rfl, rfl⟩ | ⟨rfl, rfl⟩ | ⟨a, xs, rfl, ha, rfl⟩ | ⟨a, xs, rfl, ha, rfl⟩
  · exact .base (.bl b)
  · exact .base (.int b)
  · exact .base (.str b)
  · exact .base .non
  · exact .base (.tup ha)
  · exact .base (.lst ha)
theorem Wr.mem {y : V} {H : Hp} {t : String} (h : Wr y H t) : t ∈ ["bool", "int", "str", "NoneType", "tuple", "list"] := by
  rcases h with ⟨b, rfl, rfl⟩ | ⟨b, rfl, rfl⟩ | ⟨b, rfl, rfl⟩ | ⟨rfl, rfl⟩ | ⟨a, xs, rfl, ha, rfl⟩ | ⟨a, xs, rfl, ha, rfl⟩ <;> decide
theorem looks_ty {M : Model} {s : Shared} {v : Value} {t : String} (h : s.TypeIs v t) : PySem.W.Looks M s.heap (typeOf v) (.type t) := fun A Q E s' k q => by
  refine wpAny_typeOf ?_ q
  cases v with
  | ref a =>
    obtain ⟨o, h1, h2⟩ := (show ∃ o, s.heap.get? a = some o ∧ o.cls = .type t from h)
    exact ⟨o, k _ _ h1, h2⟩
  | _ => exact h
theorem Wr.looks {X : Cx} {pins : List (Addr × Obj)} {st : L2.St} {H : Hp} {s : Shared} {y : V} {u : Value} {t : String} (I : Inv X pins st H s) (r : RelV y u) (h : Wr y H t) : PySem.W.Looks (model X.prog X.w) s.heap (typeOf u) (.type t) := by
  rcases h with ⟨b, rfl, rfl⟩ | ⟨b, rfl, rfl⟩ | ⟨b, rfl, rfl⟩ | ⟨rfl, rfl⟩ | ⟨a, xs, rfl, ha, rfl⟩ | ⟨a, xs, rfl, ha, rfl⟩
  · cases r
    exact .of_pure rfl
  · obtain ⟨t, rfl⟩ := r
    exact .of_pure rfl
  · obtain ⟨t, rfl⟩ := r
    exact .of_pure rfl
  · cases r
    exact .of_pure rfl
  · cases r
    obtain ⟨its, r', ht, hz⟩ := I.tuple (xs := xs) (.inl (.inl ha))
    exact looks_ty (IsTup.typeIs ht)
  · cases r
    obtain ⟨its, r', ht, hz⟩ := I.list (xs := xs) (sq_of ha)
    exact looks_ty ht.isList.typeIs
abbrev tyNames : List String := ["bool", "int", "str", "NoneType", "tuple", "list"]
structure Ow (P : Program) (w : World) (K : PySem.W.Frag) (mg : Str → Option Value) (base : Heap) (C : Addr) (CX : CXT) (k : Nat) (nm : String) (sp : Sp) : Prop where
  ex : ∃ (f : Addr) (fd : FuncData) (ps : List Str), FnOk P w K mg base CX k f fd ps sp ∧ OwnOp K C nm f ∧ L2.Binds K fd ps []
  far : ∀ t ∈ tyNames, Far K C nm t
def tOw (C : Addr) (sp : Sp) (E : L2.St → XK) (ta tb : TE) : TE := fun st H Q => ta st H fun x H1 => tb st H1 fun y H2 => ∃ o dx fs t, x = .ref o ∧ H2 o = some (.ins C dx fs) ∧ Wr y H2 t ∧ sp [x, y] H2 Q (E st)
section
variable {X : Cx} {C : Addr} {j k : Nat} {sp : Sp} {E : L2.St → XK} {pos : Pos} {a b : Expr} {ta tb : TE} {op : Operator}
theorem pe_owX (T : Ow X.prog X.w X.K X.mg X.base C (L2.CX X.prog X.w) k op.info.2 sp) (hr : Room j X.A) (hx : ∀ st, PassesAt (L2.CX X.prog X.w) X st (E st)) (ha : PE X a ta) (hi : PE X b tb) (hk : k ≤ j := by decide) : PE X (.BinOp a op b pos) (tOw C sp E ta tb) := by
  obtain ⟨f, fd, ps, F, W, B⟩ := T.ex
  exact pe_binO W (fun y H t h => T.far t h.mem) (fun pins st H s y u t I r h => Wr.looks I r h) F (hr.mono hk) B hx ha hi
theorem pe_owN (T : Ow X.prog X.w X.K X.mg X.base C (L2.CX X.prog X.w) k op.info.2 sp) (hr : Room j X.A) (ha : PE X a ta) (hi : PE X b tb) (hk : k ≤ j := by decide) : PE X (.BinOp a op b pos) (tOw C sp (fun _ => nil0) ta tb) :=
  pe_owX (E := fun _ => nil0) T hr (fun σ => Vtr.passNo σ) ha hi hk
end
/-! the head -/
def opB (K : Fg) (C : Addr) (nm : String) : Bool := PySem.W.selfFirst K C && (He.eqO (PySem.W.findIn K (.ref C) (PySem.dunder nm)) (some (some (.ref (He.ma K C (PySem.dunder nm))))) && (PySem.W.isFn K (.ref (He.ma K C (PySem.dunder nm))) && He.eqO (PySem.W.findIn K (.ref C) (dunderR nm)) (some none)))
def farB (K : Fg) (C : Addr) (nm t : String) : Bool := (PySem.W.findIn K (.type t) (PySem.dunder nm)).isSome && ((PySem.W.findIn K (.type t) (dunderR nm)).isSome && decide (PySem.W.subIn K (.type t) (.ref C) = some false))
def owF (x : Str) (nm : String) : Fact := fun K => opB K (He.ga K x) nm && tyNames.all fun t => farB K (He.ga K x) nm t
theorem owF_ok {x : Str} {nm : String} {K : Fg} (h : owF x nm K = true) : OwnOp K (He.ga K x) nm (He.ma K (He.ga K x) (PySem.dunder nm)) ∧ ∀ t ∈ tyNames, Far K (He.ga K x) nm t := by
  obtain ⟨h, g⟩ := He.ba h
  obtain ⟨h1, h⟩ := He.ba h
  obtain ⟨h2, h⟩ := He.ba h
  obtain ⟨h3, h4⟩ := He.ba h
  refine ⟨⟨h1, He.eqO_ok h2, h3, He.eqO_ok h4⟩, fun t ht => ?_⟩
  obtain ⟨g1, g⟩ := He.ba (List.all_eq_true.mp g t ht)
  obtain ⟨g2, g3⟩ := He.ba g
  exact ⟨Option.isSome_iff_exists.mp g1, Option.isSome_iff_exists.mp g2, of_decide_eq_true g3⟩
/-- what the class is not -/
def tyF (x : Str) : Fact := fun K => tyNames.all fun t => PySem.W.notFirst K (He.ga K x) (.type t) && decide (PySem.W.kitOne K (.type t) (.ref (He.ga K x)) = some false)
theorem tyF_ok {x : Str} {K : Fg} (h : tyF x K = true) : (∀ t ∈ tyNames, PySem.W.notFirst K (He.ga K x) (.type t) = true) ∧ ∀ t ∈ tyNames, PySem.W.kitOne K (.type t) (.ref (He.ga K x)) = some false := by
  refine ⟨fun t ht => (He.ba (List.all_eq_true.mp h t ht)).1, fun t ht => of_decide_eq_true (He.ba (List.all_eq_true.mp h t ht)).2⟩
/-- isinstance(o, C) -/
def insF (x : Str) : Fact := fun K => He.eqO (PySem.W.findIn K (.ref (He.ga K x)) "__class__") (some (some (.builtin "object.__class__"))) && (decide (PySem.W.mroIn K (He.ga K x) (.type "object") = some true) && decide (PySem.W.kitOne K (.ref (He.ga K x)) (.ref (He.ga K x)) = some true))
theorem insF_ok {x : Str} {K : Fg} (c : L2.Cls K (He.ga K x)) (h : insF x K = true) (hk : takB K = true) : C8.InsC K (He.ga K x) := by
  obtain ⟨h1, h⟩ := He.ba h
  obtain ⟨h2, h3⟩ := He.ba h
  obtain ⟨k1, k2⟩ := He.ba hk
  exact ⟨c, He.eqO_ok h1, He.eqO_ok k1, of_decide_eq_true k2, of_decide_eq_true h2, of_decide_eq_true h3⟩
def neF (x : Str) : Fact := fun K => Vo.neB K (He.ga K x) (He.ma K (He.ga K x) "__eq__")
end Vw

set_option Elab.async false
set_option linter.all false
set_option maxRecDepth 100000
set_option maxHeartbeats 2000000
/-! Sequences that go round: the least of all turns tells them apart. -/
namespace Vr
open PySem PySem.Spec PyProof.Rows L2 Vl Vp
def dtx (a : List (List Nat)) : List PyData := a.map fun l => PyData.str (tx l)
def wd (a : List (List Nat)) : PyData := .tuple (dtx a)
def ltW (a b : List (List Nat)) : Bool := PySem.W.dataLt (wd a) (wd b)
theorem key_inj : ∀ {a b : List (List Nat)}, PySem.W.keyToksAll (dtx a) = PySem.W.keyToksAll (dtx b) → a = b
  | [], [], _ => rfl
  | [], x :: r, h => by
    unfold dtx at h
    simp only [List.map_nil, List.map_cons, PySem.W.keyToksAll] at h
    cases List.cons.inj h |>.1
  | x :: r, [], h => by
    unfold dtx at h
    simp only [List.map_nil, List.map_cons, PySem.W.keyToksAll] at h
    cases List.cons.inj h |>.1
  | x :: r, y :: t, h => by
    unfold dtx at h
    simp only [List.map_cons, PySem.W.keyToksAll, PySem.W.keyToks, List.cons_append, List.nil_append] at h
    obtain ⟨_, h⟩ := List.cons.inj h
    obtain ⟨h1, h2⟩ := List.cons.inj h
    have e1 : x = y := Sum.inr.inj h1
    have e2 : r = t := key_inj h2
    rw [e1, e2]
theorem lt_irr (a : List (List Nat)) : ltW a a = false := PyProof.Rows.lex_irrefl (O := itemOrd) _
theorem lt_trans {a b c : List (List Nat)} (h1 : ltW a b = true) (h2 : ltW b c = true) : ltW a c = true := PyProof.Rows.lex_trans (O := itemOrd) _ _ _ h1 h2
theorem lt_total {a b : List (List Nat)} (h1 : ltW a b = false) (h2 : ltW b a = false) : a = b := by
  have := PyProof.Rows.lex_total (O := itemOrd) _ _ h1 h2
  unfold wd at this
  rw [PySem.W.keyToks, PySem.W.keyToks] at this
  exact key_inj this
theorem le_trans {a b c : List (List Nat)} (h1 : ltW b a = false) (h2 : ltW c b = false) : ltW c a = false := by
  cases e : ltW c a with
  | false => rfl
  | true =>
    rcases PyProof.Rows.lex_negTrans (O := itemOrd) (PySem.W.keyToks (wd c)) (PySem.W.keyToks (wd b)) (PySem.W.keyToks (wd a)) e with h | h
    · exact absurd h2 (by rw [show ltW c b = true from h]; decide)
    · exact absurd h1 (by rw [show ltW b a = true from h]; decide)
/-- begun elsewhere -/
def rot {α : Type} (a : List α) (k : Nat) : List α := a.drop k ++ a.take k
theorem rot_zero {α : Type} (a : List α) : rot a 0 = a := by
  unfold rot
  rw [List.take_zero, List.append_nil, List.drop_zero]
theorem rot_len {α : Type} (a : List α) (k : Nat) : (rot a k).length = a.length := by
  unfold rot
  rw [List.length_append, List.length_drop, List.length_take]
  omega
theorem rot_at {α : Type} {a : List α} {k i : Nat} (hk : k ≤ a.length) (hi : i < a.length) : (rot a k)[i]? = a[(i + k) % a.length]? := by
  unfold rot
  by_cases h : i < a.length - k
  · rw [List.getElem?_append_left (by rw [List.length_drop]; exact h), List.getElem?_drop, Nat.mod_eq_of_lt (by omega), Nat.add_comm]
  · rw [List.getElem?_append_right (by rw [List.length_drop]; omega), List.length_drop, List.getElem?_take_of_lt (by omega), Nat.mod_eq_sub_mod (by omega), Nat.mod_eq_of_lt (by omega)]
    congr 1
    omega
theorem rot_rot {α : Type} {a : List α} {k j : Nat} (hk : k < a.length) (hj : j < a.length) : rot (rot a k) j = rot a ((k + j) % a.length) := by
  refine List.ext_getElem? fun i => ?_
  have hn : (k + j) % a.length < a.length := Nat.mod_lt _ (by omega)
  by_cases hi : i < a.length
  · rw [rot_at (by rw [rot_len]; omega) (by rw [rot_len]; exact hi), rot_len, rot_at (by omega) (Nat.mod_lt _ (by omega)), rot_at (by omega) hi, Nat.mod_add_mod, Nat.add_mod_mod]
    congr 2
    omega
  · rw [List.getElem?_eq_none (by rw [rot_len, rot_len]; omega), List.getElem?_eq_none (by rw [rot_len]; omega)]
theorem rot_back {α : Type} {a : List α} {k : Nat} (hk : k < a.length) : rot (rot a k) ((a.length - k) % a.length) = a := by
  rw [rot_rot hk (Nat.mod_lt _ (by omega)), Nat.add_mod_mod, show k + (a.length - k) = a.length by omega, Nat.mod_self, rot_zero]
/-- the least of the turns 0 .. k -/
def lt1 (a : List (List Nat)) : Nat → List (List Nat)
  | 0 => a
  | k + 1 => if ltW (rot a (k + 1)) (lt1 a k) = true then rot a (k + 1) else lt1 a k
theorem lt1_turn (a : List (List Nat)) : ∀ k, ∃ j, j ≤ k ∧ lt1 a k = rot a j
  | 0 => ⟨0, by omega, (rot_zero a).symm⟩
  | k + 1 => by
    obtain ⟨j, h1, h2⟩ := lt1_turn a k
    unfold lt1
    by_cases h : ltW (rot a (k + 1)) (lt1 a k) = true
    · rw [if_pos h]
      exact ⟨k + 1, by omega, rfl⟩
    · rw [if_neg h]
      exact ⟨j, by omega, h2⟩
theorem lt1_least (a : List (List Nat)) : ∀ k j, j ≤ k → ltW (rot a j) (lt1 a k) = false
  | 0, j, h => by
    obtain rfl : j = 0 := by omega
    rw [rot_zero]
    exact lt_irr a
  | k + 1, j, h => by
    unfold lt1
    by_cases g : ltW (rot a (k + 1)) (lt1 a k) = true
    · rw [if_pos g]
      by_cases e : j = k + 1
      · rw [e]
        exact lt_irr _
      · refine le_trans (b := lt1 a k) ?_ (lt1_least a k j (by omega))
        cases z : ltW (lt1 a k) (rot a (k + 1)) with
        | false => rfl
        | true =>
          have := lt_trans z g
          rw [lt_irr] at this
          cases this
    · rw [if_neg g]
      by_cases e : j = k + 1
      · rw [e]
        exact Bool.eq_false_iff.mpr g
      · exact lt1_least a k j (by omega)
def least (a : List (List Nat)) : List (List Nat) := lt1 a (a.length - 1)
theorem lt1_len (a : List (List Nat)) (k : Nat) : (lt1 a k).length = a.length := by
  obtain ⟨j, _, h⟩ := lt1_turn a k
  rw [h, rot_len]
theorem least_len (a : List (List Nat)) : (least a).length = a.length := lt1_len _ _
def Turn (a b : List (List Nat)) : Prop := ∃ k, k < a.length ∧ rot a k = b
theorem Turn.sub {a b : List (List Nat)} (h : Turn a b) : ltW (least b) (least a) = false := by
  obtain ⟨k, hk, rfl⟩ := h
  obtain ⟨j, hj, e⟩ := lt1_turn (rot a k) ((rot a k).length - 1)
  rw [rot_len] at hj
  have e2 : least (rot a k) = rot a ((k + j) % a.length) := e.trans (rot_rot hk (by omega))
  rw [e2]
  have := Nat.mod_lt (k + j) (show 0 < a.length by omega)
  exact lt1_least a _ _ (by omega)
theorem Turn.symm {a b : List (List Nat)} (h : Turn a b) : Turn b a := by
  obtain ⟨k, hk, rfl⟩ := h
  exact ⟨(a.length - k) % a.length, by rw [rot_len]; exact Nat.mod_lt _ (by omega), rot_back hk⟩
theorem least_iff {a b : List (List Nat)} (ha : 1 ≤ a.length) (hb : 1 ≤ b.length) : least a = least b ↔ Turn a b := by
  constructor
  · intro h
    obtain ⟨i, hi, e1⟩ := lt1_turn a (a.length - 1)
    obtain ⟨j, hj, e2⟩ := lt1_turn b (b.length - 1)
    have e : rot a i = rot b j := e1.symm.trans (h.trans e2)
    have hl : a.length = b.length := by
      have := congrArg List.length e
      rw [rot_len, rot_len] at this
      exact this
    have hb2 := rot_back (a := b) (k := j) (by omega)
    rw [← e, rot_rot (a := a) (by omega) (by rw [hl]; exact Nat.mod_lt _ (by omega))] at hb2
    exact ⟨_, Nat.mod_lt _ (by omega), hb2⟩
  · intro h
    exact lt_total h.symm.sub h.sub
/-- compared as data -/
theorem alike_dtx : ∀ a b : List (List Nat), PySem.W.alikeAll (dtx a) (dtx b) = true
  | [], _ => by
    unfold dtx
    rw [List.map_nil, PySem.W.alikeAll]
  | x :: r, [] => by
    unfold dtx
    rw [List.map_nil, List.map_cons, PySem.W.alikeAll]
  | x :: r, y :: t => by
    have := alike_dtx r t
    unfold dtx at *
    rw [List.map_cons, List.map_cons, PySem.W.alikeAll, this, PySem.W.alike]
    rfl
theorem alike_wd (a b : List (List Nat)) : PySem.W.alike (wd a) (wd b) = true := by
  unfold wd
  rw [PySem.W.alike]
  exact alike_dtx a b
theorem dep_dtx : ∀ a : List (List Nat), PyData.depthAll (dtx a) = 0
  | [] => rfl
  | x :: r => by
    show max 0 (PyData.depthAll (dtx r)) = 0
    rw [dep_dtx r]
    rfl
theorem dep_wd (a : List (List Nat)) : (wd a).depth ≤ 1 := by
  show PyData.depthAll (dtx a) + 1 ≤ 1
  rw [dep_dtx]
  omega
theorem dpa_vtx {K : PySem.W.Frag} {H : Hp} : ∀ a : List (List Nat), DpAll K H (vtx a) (dtx a)
  | [] => .nil
  | x :: r => .cons (.str _) (dpa_vtx r)
theorem dp_wd {K : PySem.W.Frag} {H : Hp} {p : Addr} {a : List (List Nat)} (h : SqT K H p (vtx a)) : Dp K H (.ref p) (wd a) := .tup h (dpa_vtx a)
theorem vtx_inj {a b : List (List Nat)} (h : vtx a = vtx b) : a = b := by
  have : ∀ x y : List Nat, V.str (tx x) = V.str (tx y) → x = y := fun x y e => tx_inj (V.str.inj e)
  exact List.map_inj_right this |>.mp h
theorem vtx_rot (a : List (List Nat)) (k : Nat) : vtx (rot a k) = (vtx a).drop k ++ (vtx a).take k := by
  unfold rot
  rw [vtx_app, vtx_drop, vtx_take]
theorem vtx_rev (a : List (List Nat)) : (vtx a).reverse = vtx a.reverse := List.map_reverse.symm
end Vr

set_option Elab.async false
set_option linter.all false
set_option maxRecDepth 100000
set_option maxHeartbeats 2000000
/-! Tuples that come out, new or old. -/
namespace Vt
open PySem PySem.Spec PyProof.Rows L2 Vl Evl Vp Vr
section
variable {K : PySem.W.Frag} {te ta tb : TE} {tl th : TO} {σ : L2.St} {H : Hp} {xs ys : List V} {p : Addr} {lo hi : Option Int}
def EvT (K : PySem.W.Frag) (te : TE) (σ : L2.St) (H : Hp) (xs : List V) : Prop := ∀ H1, Ex H H1 → ∀ Q : VK, (∀ p H2, Ex H1 H2 → SqT K H2 p xs → Q (.ref p) H2) → te σ H1 Q
theorem sqt_new {q : Addr} : SqT K (upd H q (.tup xs)) q xs := .inl (.inl upd_same)
theorem et_ref (h : Ev te σ H (.ref p)) (hx : SqT K H p xs) : EvT K te σ H xs := fun H1 e Q q => h H1 e Q fun H2 e2 => q p H2 e2 (ex_t (e.trans e2) hx)
theorem et_cut (h : EvT K te σ H xs) (h1 : EvO tl σ H lo) (h2 : EvO th σ H hi) : EvT K (tSl (rSlA K) te tl th) σ H (cutV xs lo hi) := by
  intro H1 e Q q
  refine h H1 e _ fun p H2 e2 hp => h1 H2 (e.trans e2) _ fun H3 e3 => h2 H3 ((e.trans e2).trans e3) _ fun H4 e4 => ?_
  refine ⟨p, xs, rfl, ex_t (e3.trans e4) hp, fun hw => ?_, fun _ p2 n2 => q p2 _ (((e2.trans e3).trans e4).trans (Ex.new n2)) sqt_new⟩
  have ec : cutV xs lo hi = xs := by
    unfold cutV
    rw [hw.1, hw.2, List.drop_zero, Nat.sub_zero, List.take_length]
  refine q p H4 ((e2.trans e3).trans e4) ?_
  rw [ec]
  exact ex_t (e3.trans e4) hp
theorem et_cat (h : EvT K ta σ H xs) (h2 : EvT K tb σ H ys) (hl : xs.length + ys.length ≤ 100000) : EvT K (tOp (rCatA K) ta tb) σ H (xs ++ ys) := by
  intro H1 e Q q
  refine h H1 e _ fun p H2 e2 hp => h2 H2 (e.trans e2) _ fun p2 H3 e3 hp2 => ?_
  refine ⟨p, p2, xs, ys, rfl, rfl, ex_t e3 hp, hp2, sz_of hl, fun hx => ?_, fun _ hy => ?_, fun _ _ p4 n4 => q p4 _ ((e2.trans e3).trans (Ex.new n4)) sqt_new⟩
  · refine q p2 H3 (e2.trans e3) ?_
    rw [hx]
    exact hp2
  · refine q p H3 (e2.trans e3) ?_
    rw [hy, List.append_nil]
    exact ex_t e3 hp
/-- a[k:] + a[:k] -/
theorem et_rot {a : List (List Nat)} {k : Nat} {t1 t2 : TE} {u1 u2 : TE} (h1 : EvT K t1 σ H (vtx a)) (h2 : EvT K t2 σ H (vtx a)) (g1 : Ev u1 σ H (.int (k : Int))) (g2 : Ev u2 σ H (.int (k : Int))) (hl : a.length ≤ 1000) :
    EvT K (tOp (rCatA K) (tSl (rSlA K) t1 (tPart u1) tNoPart) (tSl (rSlA K) t2 tNoPart (tPart u2))) σ H (vtx (rot a k)) := by
  have := et_cat (et_cut h1 (eo_some g1) eo_none) (et_cut h2 eo_none (eo_some g2)) (by
    have h3 := cutV_length (vtx a) (some (k : Int)) none
    have h4 := cutV_length (vtx a) none (some (k : Int))
    rw [vtx_len] at h3 h4
    omega)
  rw [cutV1, cutV0, ← vtx_rot] at this
  exact this
end
end Vt

set_option Elab.async false
set_option linter.all false
set_option maxRecDepth 100000
set_option maxHeartbeats 2000000
/-! t[::-1] of a tuple. -/
namespace Vt
open PySem PySem.Spec PyProof.Rows L2 HT PySem.SeqAt PySem.MeetsSeq PySem.MeetsSeq2 PySem.MeetsSeq3
theorem rev_adjust (n : Nat) : Builtin.Slice.sliceAdjust none none (-1) (n : Int) = ((n : Int) - 1, -1) := rfl
theorem rev_places (n : Nat) : Builtin.Slice.slicePlaces ((n : Int) - 1) (-1) (-1) = n := by
  unfold Builtin.Slice.slicePlaces
  rw [if_neg (by omega)]
  by_cases h : (n : Int) - 1 > -1
  · rw [if_pos h, show -(-1 : Int) = 1 by omega, Int.ediv_one]
    omega
  · rw [if_neg h]
    omega
theorem fm_map {α β : Type} {f : α → Option β} {g : α → β} : ∀ l : List α, (∀ m ∈ l, f m = some (g m)) → l.filterMap f = l.map g
  | [], _ => rfl
  | x :: r, h => by
    rw [List.filterMap_cons_some (h x List.mem_cons_self), fm_map r fun m hm => h m (List.mem_cons_of_mem _ hm), List.map_cons]
theorem rev_pick (xs : Array Value) : ((List.range xs.size).filterMap fun (m : Nat) => xs[(((xs.size : Int) - 1) + (m : Int) * (-1)).toNat]?).toArray = xs.toList.reverse.toArray := by
  congr 1
  have e : ((List.range xs.size).filterMap fun (m : Nat) => xs[(((xs.size : Int) - 1) + (m : Int) * (-1)).toNat]?).map some = (xs.toList.reverse).map some := by
    refine List.ext_getElem? fun i => ?_
    have hf : ((List.range xs.size).filterMap fun (m : Nat) => xs[(((xs.size : Int) - 1) + (m : Int) * (-1)).toNat]?) = (List.range xs.size).map fun m => xs.toList.reverse.getD m .none := by
      refine fm_map _ fun m hm => ?_
      have hm := List.mem_range.mp hm
      rw [show (((xs.size : Int) - 1) + (m : Int) * (-1)).toNat = xs.size - 1 - m by omega, ← Array.getElem?_toList]
      rw [List.getD_eq_getElem?_getD, List.getElem?_reverse (by rw [Array.length_toList]; exact hm), Array.length_toList, List.getElem?_eq_getElem (by rw [Array.length_toList]; omega)]
      rfl
    rw [hf]
    by_cases hi : i < xs.size
    · rw [List.getElem?_map, List.getElem?_map, List.getElem?_map, List.getElem?_range hi]
      have hl : i < xs.toList.reverse.length := by rw [List.length_reverse, Array.length_toList]; exact hi
      rw [List.getElem?_eq_getElem hl]
      show some (some (xs.toList.reverse.getD i .none)) = some (some _)
      rw [List.getD_eq_getElem?_getD, List.getElem?_eq_getElem hl]
      rfl
    · rw [List.getElem?_eq_none (by rw [List.length_map, List.length_map, List.length_range]; omega), List.getElem?_eq_none (by rw [List.length_map, List.length_reverse, Array.length_toList]; omega)]
  exact (List.map_inj_right (fun _ _ h => Option.some.inj h)).mp e
section
variable {prog : Program} {w : World} {A : Around} {E : Value → Shared → Prop} {s : Shared}
theorem getItem_tuple_rev {t sl : Addr} {items : Array Value} {vs : Value} {Q : Value → Shared → Prop} (ht : IsTup s.heap t items) (hs : s.heap.IsSliceOf sl .none .none vs) (ps : IsPart vs (some (-1)))
    (h : Q (.ref s.heap.objs.size) { s with heap := s.heap.push { cls := .type "tuple", data := .seq items.toList.reverse.toArray } })
    (hsz : items.size ≤ sizeLine) : wpAny (model prog w) A (getItem (.ref t) (.ref sl)) Q E s := by
  have htake : sizeOk (.seq items.toList.reverse.toArray) := by
    show (items.toList.reverse.toArray).size ≤ sizeLine
    rw [List.size_toArray, List.length_reverse, Array.length_toList]
    exact hsz
  obtain ⟨os, hos, hcs, hds⟩ := id hs
  have hTs : s.TypeIs (.ref sl) "slice" := ⟨os, hos, hcs⟩
  unfold getItem
  try with_reducible refine wpAny_holding ?_
  first | refine wpAny_bind (wpAny_pure ?_) | skip
  refine wpAny_bind (wpAny_sequenceKey ht.typeIs (by decide) ?_)
  refine wpAny_bind (wpAny_callSpecial?_slot (name := Str.ofString "__getitem__") ht.typeIs PyProof.Rows.slot_tuple_getitem
    (wpAny_call_entry PyProof.Rows.slot_tuple_getitem ht.typeIs entry_tuple_getitem ?_ (args_tuple_getitem _ _)))
  show wpAny _ _ (Builtin.Tuple.tupleItemsOf (.ref t) >>= _) _ _ s
  refine wpAny_bind (tupleItemsOf_ ht ?_)
  refine wpAny_bind (wpAny_typeOf hTs ?_)
  rw [if_pos (by decide)]
  refine wpAny_bind ?_
  unfold Builtin.Slice.sliceApplied Builtin.Slice.sliceFields
  refine wpAny_bind (wpAny_bind (wpAny_field hos hds (x := .none) rfl (wpAny_bind (wpAny_field hos hds (x := .none) rfl (wpAny_bind (wpAny_field hos hds (x := vs) rfl (wpAny_pure ?_)))))))
  refine wpAny_bind (slicePart_ ps ?_)
  show wpAny _ _ (if ((-1 : Int) == 0) = true then _ else _) _ _ s
  rw [if_neg (by decide)]
  refine wpAny_bind (slicePart_ .none (wpAny_bind (slicePart_ .none (wpAny_bind (wpAny_pure ?_)))))
  show wpAny _ _ (pure (((items.size : Int) - 1), (-1 : Int), Builtin.Slice.slicePlaces ((items.size : Int) - 1) (-1) (-1))) _ _ s
  rw [rev_places]
  refine wpAny_pure ?_
  have hno : ¬ ((((items.size : Int) - 1) == 0 && (-1 : Int) == 1 && items.size == items.size) = true) := by
    intro q
    rw [Bool.and_eq_true, Bool.and_eq_true] at q
    exact absurd q.1.2 (by decide)
  show wpAny _ _ (if (((items.size : Int) - 1) == 0 && (-1 : Int) == 1 && items.size == items.size) = true then _ else _) _ _ s
  rw [if_neg hno, rev_pick]
  first
    | exact wpAny_bind (m := Builtin.Tuple.tupleExact _) (wpAny_newObj_type (wpAny_pure ⟨_, rfl, wpAny_pure h⟩) htake)
    | exact wpAny_bind (m := Builtin.Tuple.tupleExact _) (wpAny_newObj_type (wpAny_bind (wpAny_pure (wpAny_pure ⟨_, rfl, wpAny_pure h⟩))) htake)
end
/-- t[::-1] -/
def tRevT (K : PySem.W.Frag) (te : TE) : TE := fun σ H Q => te σ H fun x H1 => ∃ a xs, x = .ref a ∧ SqT K H1 a xs ∧ ∀ p, H1 p = none → Q (.ref p) (upd H1 p (.tup xs.reverse))
theorem pe_revT {X : Cx} {e : Expr} {te : TE} {k : Nat} {p1 p2 p3 pos : Pos} (he : PE X e te) : PE X (.Subscript e (.Slice none none (some (.UnaryOp .USub (.Constant (.int 1) k p1) p2)) p3) pos) (tRevT X.K te) := by
  refine ⟨fun pins s σ H Q I h => ?_⟩
  refine Subscript_ (thn (he.run pins s σ H _ I h) fun v s1 ⟨x, H1, I1, r1, q1⟩ => ?_)
  obtain ⟨a, xs, ex, hx, q⟩ := q1
  subst ex
  cases r1
  have hst : PO X (some (.UnaryOp .USub (.Constant (.int 1) k p1) p2)) (tPart (tUn (rU fun i => .int (-i)) (tC (.int 1)))) := po_some (pe_un un_neg pe_int)
  refine wpAny_Slice (thn (po_none.run pins s1 σ H1 (fun o H2 => o = none ∧ H2 = H1) I1 ⟨rfl, rfl⟩) fun vl s2 ⟨l, H2, I2, pl, el, e2⟩ => ?_)
  subst el e2
  refine thn (po_none.run pins s2 σ H2 (fun o H3 => o = none ∧ H3 = H2) I2 ⟨rfl, rfl⟩) fun vu s3 ⟨u, H3, I3, pu, eu, e3⟩ => ?_
  subst eu e3
  refine thn (hst.run pins s3 σ H3 (fun o H4 => o = some (-1) ∧ H4 = H3) I3 ⟨1, rfl, -1, rfl, rfl, rfl⟩) fun vs s4 ⟨o, H4, I4, ps, eo, e4⟩ => ?_
  subst eo e4
  cases pl
  cases pu
  have I5 : Inv X pins σ H4 { s4 with heap := s4.heap.push { cls := .type "slice", data := .fields #[.none, .none, vs] } } := I4.kept (t' := s4.toks) fun b ob q => Heap.get?_push_of_some _ q
  obtain ⟨its, r, ht, hz⟩ := I5.tuple hx
  have hlen := r.length
  show wpAny (model X.prog X.w) X.A (subscriptTail e (.Slice none none (some (.UnaryOp .USub (.Constant (.int 1) k p1) p2)) p3) (.ref a) (.ref s4.heap.objs.size)) (EP X pins σ Q) X.xe { s4 with heap := s4.heap.push { cls := .type "slice", data := .fields #[.none, .none, vs] } }
  refine tail_any (ops := [.ref a, .ref s4.heap.objs.size]) (IsTup.typeIs ht) (PyProof.Rows.slot_tuple_getitem.lookup) ?_ (by with_unfolding_all rfl)
  refine getItem_tuple_rev ht (Heap.IsSliceOf.new _ .none .none vs) ps ?_ (by rw [List.size_toArray]; omega)
  refine ⟨.ref _, _, I5.laid (t' := s4.toks) (o := .tup xs.reverse) (fun b ob q => Heap.get?_push_of_some _ q) (Nat.le_refl _) ?_, rfl, q _ (I5.hok.fresh (Nat.le_refl _))⟩
  exact ⟨by rw [List.length_reverse]; exact hz, _, r.reverse, IsTup.new _ _⟩
end Vt

set_option maxRecDepth 100000
namespace K08
open PySem
def top (i : Nat) : Stmt := PySem.Challenge.pw_alsoshown_k08_multiples_of_rounds.main.body.getD i (.Pass ⟨0, 0, 0, 0⟩)
end K08

set_option Elab.async false
set_option linter.all false
set_option maxRecDepth 100000
set_option maxHeartbeats 4000000
namespace K08
open PySem PySem.Spec PyProof.Rows L2 Vl Evl Vp
abbrev sCell : Stmt := top 17
abbrev sPool : Stmt := top 18
abbrev sTake : Stmt := top 19
abbrev FnP (K : PySem.W.Frag) (x : Str) (st : Stmt) (f : Addr) (fd : FuncData) : Prop := FunD K x x (defArgs st) (defBody st) (defScope st) [] [] f fd
section
variable {P : Program} {w : World} {K : PySem.W.Frag} {mg : Str → Option Value} {base : Heap}
theorem scC : FnScope ["_law_script", "_law_k"] ["_law_script", "_law_k"] (defScope sCell) := ⟨rfl, rfl, rfl, by decide +kernel, rfl, by decide +kernel, by decide +kernel⟩
theorem ok_cell {f : Addr} {fd : FuncData} (F : FnP K "_law_cell" sCell f fd) (mL : mg "len" = none) :
    FnOk P w K mg base CX0 1 f fd ["_law_script", "_law_k"] (spCell K) := by
  refine F.ok (CX := CX0) scC (fun vs H Q E h => ?_) (fun cdv A outer s H vs Q E hr h => ?_)
  · obtain ⟨l, ns, j, rfl, _⟩ := h
    rfl
  · refine ⟨_, pss_cons (ps_if (pt_cmpR op_lt (pv 1) (pe_callB call_len (by rfl) mL boot_len (pa_cons (pv 0) pa_nil)) (nomark _))
        (pss_one (ps_ret (pe_ix ix_seq (pv 0) (pv 1) fun _ _ => rfl))) pss_nil)
      (pss_one (ps_ret pe_int)), ?_⟩
    obtain ⟨l, ns, j, rfl, hs, q⟩ := h
    refine ⟨_, rfl, _, rfl, V.ref l, (ns.map V.int).length, rfl, .inl ⟨_, hs, rfl⟩, (j : Nat), ((ns.map V.int).length : Nat), rfl, rfl, _, rfl, ?_⟩
    by_cases hj : j < ns.length
    · rw [decide_eq_true (show ((j : Nat) : Int) < (((ns.map V.int).length : Nat) : Int) by rw [List.length_map]; omega)]
      refine iteT ?_
      exact ⟨_, rfl, _, rfl, .inl ⟨l, _, _, _, rfl, rfl, hs, atI_cell hj, q⟩⟩
    · rw [decide_eq_false (show ¬ ((j : Nat) : Int) < (((ns.map V.int).length : Nat) : Int) by rw [List.length_map]; omega)]
      refine iteF ?_
      rw [cell_out hj] at q
      exact q
theorem scP : FnScope ["_law_cell_here", "_law_folded"] ["_law_cell_here"] (defScope sPool) := ⟨rfl, rfl, rfl, by decide +kernel, rfl, by decide +kernel, by decide +kernel⟩
theorem ok_pool {f : Addr} {fd : FuncData} (F : FnP K "_law_pool" sPool f fd) (mI : mg "int" = none) :
    FnOk P w K mg base CX0 1 f fd ["_law_cell_here"] spPool := by
  refine F.ok (CX := CX0) scP (fun vs H Q E h => ?_) (fun cdv A outer s H vs Q E hr h => ?_)
  · obtain ⟨c, rfl, _⟩ := h
    rfl
  · refine ⟨_, pss_cons (ps_set (i := 1) scP.nd rfl (by first | exact Or.inl rfl | exact Or.inr rfl) (pe_op op_mul pe_int (pv 0)))
      (pss_cut (ps_if (pt_cmpR op_lt (pv 0) pe_int (nomark _)) (pss_one (ps_set (i := 1) scP.nd rfl (by first | exact Or.inl rfl | exact Or.inr rfl) (pe_op op_sub (pe_op op_sub pe_int (pe_op op_mul pe_int (pv 0))) pe_int))) pss_nil)
      (pss_cons (ps_if (pt_cmpR op_ge (pv 1) (pe_op op_pow pe_int pe_int) (nomark _)) (pss_one (ps_ret (pe_lst (pa_cons (pv 1) (pa_cons (pe_op op_mod (pe_callTy call_int1 (by rfl) mI (by decide +kernel) (pa_cons (pv 1) pa_nil)) pe_int) (pa_cons pe_int pa_nil)))))) pss_nil)
      (pss_one (ps_ret (pe_lst (pa_cons pe_int (pa_cons (pe_op op_mod (pe_callTy call_int1 (by rfl) mI (by decide +kernel) (pa_cons (pv 1) pa_nil)) pe_int) (pa_cons pe_int pa_nil)))))))), ?_⟩
    obtain ⟨c, rfl, q⟩ := h
    refine s_asg (v := .int (2 * c)) (ev_op ev_c (ev_var rfl) (rv_I (.inl ⟨by decide, by decide⟩))) fun H1 e1 => ?_
    refine ⟨fun st H2 => Ex H H2 ∧ ∃ g : Int, st = [some (.int c), some (.int g)], ?_, ?_⟩
    · refine s_if (b := decide (c < 0)) (et_test (ev_op (ev_var rfl) ev_c rv_I0)) (fun _ H2 e2 => ?_) (fun _ H2 e2 => ?_)
      · refine s_asg (v := .int (0 - 2 * c - 1)) (ev_op (ev_op ev_c (ev_op ev_c (ev_var rfl) (rv_I (.inl ⟨by decide, by decide⟩))) rv_I0) ev_c rv_I0) fun H3 e3 => ?_
        exact ⟨e1.trans (e2.trans e3), _, rfl⟩
      · exact ⟨e1.trans e2, _, rfl⟩
    rintro _ H2 ⟨e2, g, rfl⟩
    have fin : ∀ (a : Int) (H3 : Hp), Ex H H3 → ∀ p, H3 p = none → Q (.ref p) (upd H3 p (.lst [.int a, .int (g % 1000000007), .int 0])) := fun a H3 e3 p np =>
      q p _ (fresh_back e3 np) (e3.trans (Ex.new np)) ⟨a, _, 0, upd_same, Int.emod_nonneg _ (by decide), Int.emod_lt_of_pos _ (by decide), Int.le_refl 0, Int.le_refl 0⟩
    have ei : Ev (tOp (rI (fun _ j => 0 < j) fun i j => .int (i % j)) (tCB (fun xs H Q => (∃ i, xs = [.int i] ∧ Q (.int i) H) ∨ ∃ k, xs = [.bl k] ∧ Q (.int (if k then 1 else 0)) H) (tCons (tVar 1) tNil)) (tC (.int 1000000007)))
        [some (.int c), some (.int g)] H2 (.int (g % 1000000007)) :=
      ev_op (ev_cb (ea_cons (ev_var rfl) ea_nil) (fun H1 _ Q q => .inl ⟨_, rfl, q H1 (Ex.refl H1)⟩)) ev_c (rv_I (by show (0 : Int) < 1000000007; decide))
    refine s_seq ?_
    refine s_if (b := decide ((10 : Int) ^ (18 : Int).toNat ≤ g)) (et_test (ev_op (ev_var rfl) (ev_op ev_c ev_c (rv_I ⟨by decide, by decide, by decide⟩)) rv_I0)) (fun _ H3 e3 => ?_) (fun _ H3 e3 => ?_)
    · exact ⟨_, rfl, ei.mono e3 H3 (Ex.refl H3) _ fun H4 e4 => ⟨by show 3 ≤ sizeLine; decide, fun p np => fin g H4 (e2.trans (e3.trans e4)) p np⟩⟩
    · exact ei.mono e3 H3 (Ex.refl H3) _ fun H4 e4 => ⟨by show 3 ≤ sizeLine; decide, fun p np => fin 0 H4 (e2.trans (e3.trans e4)) p np⟩
theorem scT : FnScope ["_law_pool_here", "_law_many", "_law_draw", "_law_mixed"] ["_law_pool_here", "_law_many"] (defScope sTake) := ⟨rfl, rfl, rfl, by decide +kernel, rfl, by decide +kernel, by decide +kernel⟩
theorem ok_take {f : Addr} {fd : FuncData} (F : FnP K "_law_take" sTake f fd) (mI : mg "int" = none) :
    FnOk P w K mg base CX0 1 f fd ["_law_pool_here", "_law_many"] spTake := by
  refine F.ok (CX := CX0) scT (fun vs H Q E h => ?_) (fun cdv A outer s H vs Q E hr h => ?_)
  · obtain ⟨p, m, Hk, n, rfl, _⟩ := h
    rfl
  · refine ⟨_, pss_cons (ps_if (pt_cmpR op_gt (pe_ix ix_list (pv 0) pe_int fun _ _ => rfl) pe_int (nomark _))
        (pss_cons (ps_set (i := 2) scT.nd rfl (by first | exact Or.inl rfl | exact Or.inr rfl) (pe_op op_mod (pe_callTy call_int1 (by rfl) mI (by decide +kernel) (pa_cons (pe_ix ix_list (pv 0) pe_int fun _ _ => rfl) pa_nil)) (pv 1)))
        (pss_cons (ps_asg (pe_op op_fdivN (pe_ix ix_list (pv 0) pe_int fun _ _ => rfl) (pv 1)) (pg_sub (pv 0) pe_int set_list))
        (pss_one (ps_ret (pv 2))))) pss_nil)
      (pss_cons (ps_asg (pe_op op_add (pe_ix ix_list (pv 0) pe_int fun _ _ => rfl) pe_int) (pg_sub (pv 0) pe_int set_list))
      (pss_cons (ps_set (i := 3) scT.nd rfl (by first | exact Or.inl rfl | exact Or.inr rfl) (pe_op op_mod (pe_callTy call_int1 (by rfl) mI (by decide +kernel) (pa_cons (pe_op op_pow (pe_op op_add (pe_op op_add (pe_ix ix_list (pv 0) pe_int fun _ _ => rfl) (pe_op op_mul pe_int (pe_ix ix_list (pv 0) pe_int fun _ _ => rfl))) pe_int) pe_int) pa_nil)) pe_int))
      (pss_one (ps_ret (pe_op op_mod (pe_op op_mod (pe_callTy call_int1 (by rfl) mI (by decide +kernel) (pa_cons (pe_op op_mul (pe_op op_add (pv 3) (pe_ix ix_list (pv 0) pe_int fun _ _ => rfl)) pe_int) pa_nil)) pe_int) (pv 1)))))), ?_⟩
    obtain ⟨p, m, Hk, n, rfl, hm, hm2, hp, hn, q⟩ := h
    obtain ⟨a, b, c, ha, hb0, hb1, hc0, hc1⟩ := hp.at_
    have it : ∀ (j : Nat) (x : Int) (us : List V) (H1 : Hp), H1 p = some (.lst us) → us[j]? = some (.int x) → ∀ {t2 t3 : Option V}, Ev (tOp (rIxL K) (tVar 0) (tC (.int (j : Int)))) [some (.ref p), some (.int m), t2, t3] H1 (.int x) := fun j x us H1 h1 h2 t2 t3 =>
      ev_op (ev_var rfl) ev_c (rv_ixL (sq_of h1) (at_of rfl h2))
    have ti : ∀ {te : TE} {st : L2.St} {H1 : Hp} {i : Int}, Ev te st H1 (.int i) → Ev (tCB (fun xs H Q => (∃ i, xs = [.int i] ∧ Q (.int i) H) ∨ ∃ k, xs = [.bl k] ∧ Q (.int (if k then 1 else 0)) H) (tCons te tNil)) st H1 (.int i) :=
      fun h => ev_cb (ea_cons h ea_nil) (fun H1 _ Q q => .inl ⟨_, rfl, q H1 (Ex.refl H1)⟩)
    refine s_seq ?_
    refine s_if (b := decide (0 < a)) (et_test (ev_op (it 0 a _ H ha rfl) ev_c rv_I0)) (fun _ H1 e1 => ?_) (fun _ H1 e1 => ?_)
    · have h1 := e1 _ _ ha
      refine s_seq ?_
      refine s_asg (v := .int (a % m)) (ev_op (ti (it 0 a _ H1 h1 rfl)) (ev_var rfl) (rv_I (show 0 < m by omega))) fun H2 e2 => ?_
      dsimp only
      refine s_seq ?_
      refine s_setL (j := 0) (v := .int (a.fdiv m)) (e2 _ _ h1) (ev_op (it 0 a _ H2 (e2 _ _ h1) rfl) (ev_var rfl) (rv_I ⟨show m ≠ 0 by omega, show m.natAbs < 1073741824 by omega⟩)) (ev_var rfl) ev_c (by show 0 < 3; omega) fun H3 e3 => ?_
      dsimp only
      refine s_ret (v := .int (a % m)) (ev_var rfl) fun H4 e4 => ?_
      refine q _ _ (Int.emod_nonneg _ (by omega)) (Int.emod_lt_of_pos _ (by omega)) ?_
      refine ⟨hp.no, (Ex.mut (hp.ex.trans (e1.trans (e2.trans e3))) hp.no).trans e4, a.fdiv m, b, c, e4 _ _ upd_same, hb0, hb1, hc0, by omega⟩
    · have h1 := e1 _ _ ha
      dsimp only
      refine s_seq ?_
      refine s_setL (j := 2) (v := .int (c + 1)) h1 (ev_op (it 2 c _ H1 h1 rfl) ev_c rv_I0) (ev_var rfl) ev_c (by show 2 < 3; omega) fun H2 e2 => ?_
      have h2 : (upd H2 p (.lst [.int a, .int b, .int (c + 1)])) p = some (.lst [.int a, .int b, .int (c + 1)]) := upd_same
      have x2 : Ex Hk (upd H2 p (.lst [.int a, .int b, .int (c + 1)])) := Ex.mut (hp.ex.trans (e1.trans e2)) hp.no
      show tSeq _ _ _ _ (upd H2 p (.lst [.int a, .int b, .int (c + 1)]))
      generalize upd H2 p (.lst [.int a, .int b, .int (c + 1)]) = H3 at h2 x2
      refine s_seq ?_
      refine s_asg (v := .int ((b + 7919 * (c + 1) + 104729) ^ (5 : Int).toNat % 2147483647)) (ev_op (ti (ev_op (ev_op (ev_op (it 1 b _ H3 h2 rfl) (ev_op ev_c (it 2 (c + 1) _ H3 h2 rfl) (rv_I (.inl ⟨by decide, by decide⟩))) rv_I0) ev_c rv_I0) ev_c (rv_I ⟨by decide, by decide, by show (b + 7919 * (c + 1) + 104729).natAbs < 2 ^ 64; omega⟩))) ev_c (rv_I (by show (0 : Int) < 2147483647; decide))) fun H4 e4 => ?_
      dsimp only
      have hz0 : 0 ≤ (b + 7919 * (c + 1) + 104729) ^ (5 : Int).toNat % 2147483647 := Int.emod_nonneg _ (by decide)
      have hz1 : (b + 7919 * (c + 1) + 104729) ^ (5 : Int).toNat % 2147483647 < 2147483647 := Int.emod_lt_of_pos _ (by decide)
      generalize (b + 7919 * (c + 1) + 104729) ^ (5 : Int).toNat % 2147483647 = z at hz0 hz1
      have h4 := e4 _ _ h2
      refine s_ret (v := .int ((z + (c + 1)) * 40692 % 2147483629 % m)) (ev_op (ev_op (ti (ev_op (ev_op (ev_var rfl) (it 2 (c + 1) _ H4 h4 rfl) rv_I0) ev_c (rv_I (.inr ⟨by decide, by decide⟩)))) ev_c (rv_I (by show (0 : Int) < 2147483629; decide))) (ev_var rfl) (rv_I (show 0 < m by omega))) fun H5 e5 => ?_
      refine q _ _ (Int.emod_nonneg _ (by omega)) (Int.emod_lt_of_pos _ (by omega)) ?_
      exact ⟨hp.no, x2.trans (e4.trans e5), a, b, c + 1, e5 _ _ h4, hb0, hb1, by omega, by omega⟩
end
end K08

set_option Elab.async false
set_option linter.all false
set_option maxRecDepth 100000
set_option maxHeartbeats 4000000
namespace K08
open PySem PySem.Spec PyProof.Rows L2 Vl Evl Vp
abbrev sNames : Stmt := top 20
abbrev nN : List Str := ["_law_pool_here", "_law_many", "_law_letters", "_law_signs", "_law_word_here", "_law_k", "_law_kind", "_law_start", "_law_stem", "_law_place", "_law_told", "_law_names_here", "_law_sign"]
section
variable {P : Program} {w : World} {K : PySem.W.Frag} {mg : Str → Option Value} {base : Heap}
theorem scN : FnScope nN ["_law_pool_here", "_law_many"] (defScope sNames) := ⟨rfl, rfl, rfl, by decide +kernel, rfl, by decide +kernel, by decide +kernel⟩
theorem ok_names {f fT : Addr} {fd fdT : FuncData} (F : FnP K "_law_names" sNames f fd) (FT : FnP K "_law_take" sTake fT fdT) (gT : mg "_law_take" = some (.ref fT)) (mI : mg "int" = none) (mL : mg "len" = none) (mR : mg "range" = none) :
    FnOk P w K mg base CX0 2 f fd ["_law_pool_here", "_law_many"] spNames := by
  have GT : FnOk P w K mg base CX0 1 fT fdT ["_law_pool_here", "_law_many"] spTake := ok_take FT mI
  have bT : Binds K fdT ["_law_pool_here", "_law_many"] [] := FT.bindsN fun _ _ _ _ _ _ us hl => match us, hl with | [_, _], _ => rfl
  have kT := FT.kp
  refine F.ok (CX := CX0) scN (fun vs H Q E h => ?_) (fun cdv A outer s H vs Q E hr h => ?_)
  · obtain ⟨p, m, Hk, n, rfl, _⟩ := h
    rfl
  · have hr1 : Room 1 _ := hr
    refine ⟨_, (pss_cons (ps_set (i := 2) scN.nd rfl (by first | exact Or.inl rfl | exact Or.inr rfl) pe_str)
      (pss_cons (ps_set (i := 3) scN.nd rfl (by first | exact Or.inl rfl | exact Or.inr rfl) (pe_op op_add_str (pv 2) pe_str))
      (pss_cons (ps_set (i := 4) scN.nd rfl (by first | exact Or.inl rfl | exact Or.inr rfl) (pe_ix ix_str (pv 2) (pe_call GT hr1 (by rfl) gT kT bT .nil pass0 (pa_cons (pv 0) (pa_cons pe_int pa_nil))) fun _ _ => rfl))
      (pss_cons (ps_for (passes_of rfl) rfl (pi_range1 (by rfl) mR (pa_cons pe_int pa_nil)) (pg_name (i := 5) scN.nd rfl (by first | exact Or.inl rfl | exact Or.inr rfl)) (pss_one (ps_set (i := 4) scN.nd rfl (by first | exact Or.inl rfl | exact Or.inr rfl) (pe_op op_add_str (pv 4) (pe_ix ix_str (pv 3) (pe_call GT hr1 (by rfl) gT kT bT .nil pass0 (pa_cons (pv 0) (pa_cons pe_int pa_nil))) fun _ _ => rfl)))))
      (pss_cons (ps_set (i := 6) scN.nd rfl (by first | exact Or.inl rfl | exact Or.inr rfl) (pe_call GT hr1 (by rfl) gT kT bT .nil pass0 (pa_cons (pv 0) (pa_cons pe_int pa_nil))))
      (pss_cons (ps_set (i := 7) scN.nd rfl (by first | exact Or.inl rfl | exact Or.inr rfl) (pe_call GT hr1 (by rfl) gT kT bT .nil pass0 (pa_cons (pv 0) (pa_cons pe_int pa_nil))))
      (pss_cons (ps_if (pt_cmpR op_eq (pv 6) pe_int (nomark _)) (pss_one (ps_ret (pe_lc (own := [("_law_k", 5)]) (g := gName 5) (tt := tYes) (te := (tSl rSlS (tVar 4) tNoPart (tPart (tOp (rI0 fun i j => .int (i + j)) (tVar 5) (tC (.int 1)))))) rfl scN.nd (pi_range1 (by rfl) mR (pa_cons (pv 1) pa_nil)) (blkOk_by (own := [("_law_k", 5)]) (N := nN) (sc := defScope sNames) (by decide +kernel)) (fun _ _ _ _ _ => (pg_name (i := 5) scN.nd rfl (by first | exact Or.inl rfl | exact Or.inr rfl))) (fun _ _ _ _ _ => pts_nil) (fun _ _ _ _ _ => (pe_slice sl_str (pv 4) po_none (po_some (pe_op op_add (pv 5) pe_int))))))) pss_nil)
      (pss_cons (ps_if (pt_cmpR op_eq (pv 6) pe_int (nomark _)) (pss_one (ps_ret (pe_lc (own := [("_law_k", 5)]) (g := gName 5) (tt := tYes) (te := (tOp rCatS (tOp rIxS (tVar 2) (tOp (rI (fun _ j => 0 < j) fun i j => .int (i % j)) (tOp (rI0 fun i j => .int (i + j)) (tVar 7) (tOp (rI CMul fun i j => .int (i * j)) (tC (.int 3)) (tVar 5))) (tC (.int 26)))) (tSl rSlS (tVar 4) tNoPart (tPart (tCall spTake [] E0 (tCons (tVar 0) (tCons (tC (.int 8)) tNil))))))) rfl scN.nd (pi_range1 (by rfl) mR (pa_cons (pv 1) pa_nil)) (blkOk_by (own := [("_law_k", 5)]) (N := nN) (sc := defScope sNames) (by decide +kernel)) (fun _ _ _ _ _ => (pg_name (i := 5) scN.nd rfl (by first | exact Or.inl rfl | exact Or.inr rfl))) (fun _ _ _ _ _ => pts_nil) (fun _ _ _ _ _ => (pe_op op_add_str (pe_ix ix_str (pv 2) (pe_op op_mod (pe_op op_add (pv 7) (pe_op op_mul pe_int (pv 5))) pe_int) fun _ _ => rfl) (pe_slice sl_str (pv 4) po_none (po_some (pe_call GT hr1 (by rfl) gT kT bT .nil pass0 (pa_cons (pv 0) (pa_cons pe_int pa_nil)))))))))) pss_nil)
      (pss_cons (ps_set (i := 8) scN.nd rfl (by first | exact Or.inl rfl | exact Or.inr rfl) (pe_slice sl_str (pv 4) po_none (po_some (pe_call GT hr1 (by rfl) gT kT bT .nil pass0 (pa_cons (pv 0) (pa_cons pe_int pa_nil))))))
      (pss_cons (ps_set (i := 9) scN.nd rfl (by first | exact Or.inl rfl | exact Or.inr rfl) (pe_call GT hr1 (by rfl) gT kT bT .nil pass0 (pa_cons (pv 0) (pa_cons (pe_op op_add (pe_callB call_len_str (by rfl) mL boot_len (pa_cons (pv 8) pa_nil)) pe_int) pa_nil))))
      (pss_cons (ps_set (i := 10) scN.nd rfl (by first | exact Or.inl rfl | exact Or.inr rfl) (pe_ifExp (pt_cmpR op_eq (pv 9) pe_int (nomark _)) (pv 2) (pv 3)))
      (pss_cons (ps_set (i := 11) scN.nd rfl (by first | exact Or.inl rfl | exact Or.inr rfl) (pe_lst pa_nil))
      (pss_cons (ps_for (passes_of rfl) rfl (pi_range1 (by rfl) mR (pa_cons (pv 1) pa_nil)) (pg_name (i := 5) scN.nd rfl (by first | exact Or.inl rfl | exact Or.inr rfl)) (pss_cons (ps_set (i := 12) scN.nd rfl (by first | exact Or.inl rfl | exact Or.inr rfl) (pe_ix ix_str (pv 10) (pe_op op_mod (pe_op op_add (pv 7) (pe_op op_mul pe_int (pv 5))) (pe_callB call_len_str (by rfl) mL boot_len (pa_cons (pv 10) pa_nil))) fun _ _ => rfl)) (pss_one (ps_expr (pe_bm PySem.F.plainAttrs_list PySem.F.slot_list_append PySem.F.type_list_append mt_append (pv 11) (pa_cons (pe_op op_add_str (pe_op op_add_str (pe_slice sl_str (pv 8) po_none (po_some (pv 9))) (pv 12)) (pe_slice sl_str (pv 8) (po_some (pv 9)) po_none)) pa_nil))))))
      (pss_one (ps_ret (pv 11)))))))))))))))), ?_⟩
    obtain ⟨p, m, Hk, n, rfl, hm, hp0, hn, q⟩ := h
    have hp := hp0.re
    have wk : (Wo H p) p = none := wo_self _ _
    -- letters, signs
    refine s_asg (v := .str (tx letters)) (ev_is ev_c (by rw [str_letters])) fun H1 e1 => ?_
    refine s_asg (v := .str (tx signs)) (ev_is (ev_op (y := .str (tx digits)) (ev_var rfl) (ev_is ev_c (by rw [str_digits])) (rv_cats (by decide))) rfl) fun H2 e2 => ?_
    have hp2 := hp.grow (e1.trans e2)
    -- word
    refine ⟨_, rfl, _, rfl, p, 26, Wo H p, n, rfl, by omega, by omega, hp2, by omega, ?_⟩
    intro r H3 r0 r1 hp3
    obtain ⟨j, rfl⟩ := Int.eq_ofNat_of_zero_le r0
    have hj : j < letters.length := by show j < 26; omega
    refine ⟨tx letters, _, _, rfl, rfl, (by show 26 ≤ sizeLine; decide), text_at (zs := letters) hj, ?_⟩
    dsimp only
    refine s_seq ?_
    refine s_forR1 (n := 7) (ea_cons ev_c ea_nil) (by omega) (fun i st H' => ∃ l t5, st = [some (.ref p), some (.int (m : Int)), some (.str (tx letters)), some (.str (tx signs)), some (.str (tx l)), t5, none, none, none, none, none, none, none] ∧ nam l ∧ l.length = i + 1 ∧ Pl (Wo H p) p (n + 1 + i) H') ?_ ?_ ?_
    · exact fun H4 e4 => ⟨[letters.getD j 0], none, rfl, nam_one (getD_mem hj), rfl, hp3.grow e4⟩
    · rintro i _ H4 hi ⟨l, t5, rfl, hl, hlen, hpl⟩
      refine ⟨_, rfl, _, rfl, _, rfl, p, 36, Wo H p, _, rfl, by omega, by omega, hpl, by omega, ?_⟩
      intro r H5 r0 r1 hp5
      obtain ⟨k, rfl⟩ := Int.eq_ofNat_of_zero_le r0
      have hk : k < signs.length := by show k < 36; omega
      refine ⟨tx signs, _, _, rfl, rfl, (by show 36 ≤ sizeLine; decide), text_at (zs := signs) hk, ?_⟩
      refine ⟨tx l, tx [signs.getD k 0], rfl, rfl, sz_of (by rw [tx_len, tx_len, List.length_singleton]; omega), ?_⟩
      refine ⟨l ++ [signs.getD k 0], some (.int (i : Int)), ?_, nam_snoc hl (getD_mem hk) (by omega), by rw [List.length_append, List.length_singleton, hlen], by rw [show n + 1 + (i + 1) = n + 1 + i + 1 by omega]; exact hp5⟩
      rw [tx_app]
      rfl
    rintro _ H4 ⟨l, t5, rfl, hl, hlen, hp4⟩
    have hlen8 : l.length = 8 := hlen
    -- kind, start
    refine ⟨_, rfl, p, 4, Wo H p, _, rfl, by omega, by omega, hp4, by show n + 1 + 7 ≤ 100000; omega, ?_⟩
    intro kd H5 kd0 kd1 hp5
    refine ⟨_, rfl, p, 36, Wo H p, _, rfl, by omega, by omega, hp5, by show n + 1 + 7 + 1 ≤ 100000; omega, ?_⟩
    intro sr H6 sr0 sr1 hp6
    obtain ⟨s0, rfl⟩ := Int.eq_ofNat_of_zero_le sr0
    dsimp only
    refine s_seq ?_
    refine s_if (b := decide (V.int kd = V.int 0)) (et_test (ev_op (ev_var rfl) ev_c (rv_eq rfl))) (fun _ H7 e7 => ?_) (fun _ H7 e7 => ?_)
    · -- kind 0
      have hp7 := hp6.grow e7
      refine s_retL (xs := vtx ((List.range m).map fun k => l.take (k + 1))) ?_ fun d H8 nd e8 h8 => ?_
      · have key := el_lcR1 (σ := [some (.ref p), some (.int (m : Int)), some (.str (tx letters)), some (.str (tx signs)), some (.str (tx l)), t5, some (.int kd), some (.int (s0 : Int)), none, none, none, none, none]) (H := H7) (t := tYes)
          (te := (tSl rSlS (tVar 4) tNoPart (tPart (tOp (rI0 fun i j => .int (i + j)) (tVar 5) (tC (.int 1)))))) (ta := tCons (tVar 1) tNil) (j := 5) (vs := [5]) (n := (m : Int)) (fun _ => true) (fun k => .str (tx (l.take (k + 1)))) (ea_cons (ev_var rfl) ea_nil) (by omega) (fun _ => rfl)
          (fun j H2 e hj H3 e3 Q q => q H3 (Ex.refl H3)) (fun j H2 e hj _ => ?_)
        · rw [show ((m : Int)).toNat = m from rfl] at key
          have e0 : given m (fun _ => true) (fun k => V.str (tx (l.take (k + 1)))) = vtx ((List.range m).map fun k => l.take (k + 1)) := by
            unfold given vtx
            rw [List.filter_eq_self.mpr (fun _ _ => rfl), List.map_map]
            rfl
          rw [e0] at key
          exact key
        · intro H3 e3 Q q
          refine ⟨_, rfl, _, rfl, _, _, rfl, rfl, _, rfl, tx l, rfl, sz_of (by rw [tx_len]; omega), ?_⟩
          rw [show ((j : Int) + 1) = ((j + 1 : Nat) : Int) by omega, tx_cut0]
          exact q H3 (Ex.refl H3)
      · refine q d _ H8 (fresh_wo hp0 hp7 nd) (hp0.back ((hp7.grow e8).cnt (by omega))) h8 (by rw [List.length_map, List.length_range]) ⟨fun y hy => ?_, nodup_range fun i j hi hj e => ?_⟩
        · obtain ⟨k, _, rfl⟩ := List.mem_map.mp hy
          exact nam_take hl k
        · have := congrArg List.length e
          rw [List.length_take, List.length_take] at this
          omega
    dsimp only
    refine s_seq ?_
    refine s_if (b := decide (V.int kd = V.int 1)) (et_test (ev_op (ev_var rfl) ev_c (rv_eq rfl))) (fun _ H8 e8 => ?_) (fun _ H8 e8 => ?_)
    · -- kind 1
      have hp8 := hp6.grow (e7.trans e8)
      refine ⟨_, rfl, (m : Int), rfl, by omega, by omega, fun Dl hD => lc_range (lo := 0) (n := m) (fun i H' => ∃ ys, H' Dl = some (.lst (vtx ys)) ∧ ys.length = i ∧ (∀ (j : Nat) (y : List Nat), ys[j]? = some y → nam y ∧ y.head? = some (letters.getD ((s0 + 3 * j) % 26) 0)) ∧ Pl (Wo H p) p (n + 10 + i) H')
        ⟨[], upd_same, rfl, (fun j y h => by simp at h), (hp8.new hD).cnt (by show n + 1 + 7 + 1 + 1 ≤ n + 10 + 0; omega)⟩ ?_ ?_⟩
      · rintro i H9 hi ⟨ys, h1, h2, h3, h4⟩
        refine ⟨rfl, ?_⟩
        unfold tYes
        dsimp only
        rw [if_pos rfl]
        have em : Ev (tOp (rI (fun _ j => 0 < j) fun i j => .int (i % j)) (tOp (rI0 fun i j => .int (i + j)) (tVar 7) (tOp (rI CMul fun i j => .int (i * j)) (tC (.int 3)) (tVar 5))) (tC (.int 26))) [some (.ref p), some (.int (m : Int)), some (.str (tx letters)), some (.str (tx signs)), some (.str (tx l)), some (.int (0 + (i : Int))), some (.int kd), some (.int (s0 : Int)), none, none, none, none, none] H9 (.int (((s0 + 3 * i) % 26 : Nat) : Int)) :=
          ev_is (ev_op (ev_op (ev_var rfl) (ev_op ev_c (ev_var rfl) (rv_I (.inl ⟨by decide, by decide⟩))) rv_I0) ev_c (rv_I (by show (0 : Int) < 26; decide))) (congrArg V.int (show ((s0 : Int) + 3 * (0 + (i : Int))) % 26 = (((s0 + 3 * i) % 26 : Nat) : Int) by omega))
        have hx : (s0 + 3 * i) % 26 < letters.length := Nat.mod_lt _ (by decide)
        refine ⟨_, rfl, em H9 (Ex.refl H9) _ fun H10 e10 => ?_⟩
        refine ⟨tx letters, _, _, rfl, rfl, (by show 26 ≤ sizeLine; decide), text_at (zs := letters) hx, ?_⟩
        have h10 := h4.grow e10
        have hDp : Dl ≠ p := hp8.ne hD
        refine ⟨_, rfl, _, rfl, p, 8, Wo H10 p, _, rfl, by omega, by omega, h10.re, by omega, ?_⟩
        intro r H11 r0 r1 hp11
        obtain ⟨t, rfl⟩ := Int.eq_ofNat_of_zero_le r0
        refine ⟨_, rfl, tx l, rfl, sz_of (by rw [tx_len]; omega), ?_⟩
        rw [tx_cut0]
        refine ⟨tx [letters.getD ((s0 + 3 * i) % 26) 0], tx (l.take t), rfl, rfl, sz_of (by rw [tx_len, tx_len, List.length_singleton, List.length_take]; omega), ?_⟩
        rw [tx_app]
        have hDl : H11 Dl = some (.lst (vtx ys)) := hp11.ex _ _ (wo_at (e10 _ _ h1) hDp)
        refine ⟨vtx ys, hDl, sz_lt (by rw [vtx_len]; omega), ys ++ [letters.getD ((s0 + 3 * i) % 26) 0 :: l.take t], ?_, by rw [List.length_append, List.length_singleton, h2], ?_, ?_⟩
        · rw [upd_same, vtx_app]
          rfl
        · intro j y hy
          by_cases hj : j < ys.length
          · rw [List.getElem?_append_left hj] at hy
            exact h3 j y hy
          · have hj2 := (List.getElem?_eq_some_iff.mp hy).1
            rw [List.length_append, List.length_singleton] at hj2
            obtain rfl : j = ys.length := by omega
            rw [List.getElem?_append_right (Nat.le_refl _), Nat.sub_self] at hy
            obtain rfl := Option.some.inj hy
            rw [h2]
            exact ⟨nam_cons (getD_mem hx) (fun x hx => nam_signs hl x (List.mem_of_mem_take hx)) (by rw [List.length_take]; omega), rfl⟩
        · have hb : Pl (Wo H p) p (n + 10 + (i + 1)) H11 := (hp11.sub h10.wo h10.no).cnt (by omega)
          refine ⟨hb.no, Ex.mut hb.ex ?_, ?_⟩
          · cases e : (Wo H p) Dl with
            | none => rfl
            | some o =>
              have := hp8.ex _ _ e
              rw [hD] at this
              cases this
          · obtain ⟨a, b, c, k1, k2⟩ := hb.at_
            exact ⟨a, b, c, by rw [upd_ne hDp.symm]; exact k1, k2⟩
      · rintro H9 ⟨ys, h1, h2, h3, h4⟩
        refine q Dl ys H9 (fresh_wo hp0 hp8 hD) (hp0.back (h4.cnt (by omega))) h1 h2 ⟨fun y hy => ?_, nodup_key fun i j y hi hj => ?_⟩
        · obtain ⟨j, hj⟩ := List.getElem?_of_mem hy
          exact (h3 j y hj).1
        · have a1 := (h3 i y hi).2
          have a2 := (h3 j y hj).2
          have li := (List.getElem?_eq_some_iff.mp hi).1
          have lj := (List.getElem?_eq_some_iff.mp hj).1
          rw [a1] at a2
          exact mod3 (by omega) (by omega) (getD_inj nodup_letters (Nat.mod_lt _ (by decide)) (Nat.mod_lt _ (by decide)) (Option.some.inj a2))
    -- kind 2, 3
    have hp8 := hp6.grow (e7.trans e8)
    refine ⟨_, rfl, _, rfl, p, 8, Wo H p, _, rfl, by omega, by omega, hp8, by show n + 1 + 7 + 1 + 1 ≤ 100000; omega, ?_⟩
    intro r H9 r0 r1 hp9
    obtain ⟨t, rfl⟩ := Int.eq_ofNat_of_zero_le r0
    refine ⟨_, rfl, tx l, rfl, sz_of (by rw [tx_len]; omega), ?_⟩
    rw [tx_cut0]
    have hst : (l.take t).length ≤ 7 := by rw [List.length_take]; omega
    -- place
    refine ⟨_, rfl, _, rfl, tx (l.take t), rfl, sz_of (by rw [tx_len]; omega), ((l.take t).length : Int), 1, rfl, rfl, ?_⟩
    refine ⟨p, ((l.take t).length : Int) + 1, Wo H p, _, rfl, by omega, by omega, hp9, by show n + 1 + 7 + 1 + 1 + 1 ≤ 100000; omega, ?_⟩
    intro r H10 r0 r1 hp10
    obtain ⟨g, rfl⟩ := Int.eq_ofNat_of_zero_le r0
    have hg : g ≤ (l.take t).length := by omega
    -- told
    obtain ⟨told, htold, hn2, hts, htl, hlen2⟩ : ∃ told : List Nat, told = (if V.int (g : Int) = V.int 0 then letters else Vp.signs) ∧ told.Nodup ∧ (∀ c ∈ told, c ∈ Vp.signs) ∧ (g = 0 → ∀ c ∈ told, c ∈ letters) ∧ (told.length = 26 ∨ told.length = 36) := by
      by_cases h0 : g = 0
      · refine ⟨letters, by rw [if_pos (by rw [h0]; rfl)], nodup_letters, fun c hc => letters_signs hc, fun _ c hc => hc, .inl rfl⟩
      · refine ⟨Vp.signs, by rw [if_neg (fun z => h0 (by have := V.int.inj z; omega))], nodup_signs, fun c hc => hc, fun z => absurd z h0, .inr rfl⟩
    refine s_asg (v := .str (tx told)) (ev_if (b := decide (V.int (g : Int) = V.int 0)) (et_test (ev_op (ev_var rfl) ev_c (rv_eq rfl))) (fun h => ev_is (ev_var rfl) (by rw [htold, if_pos (of_decide_eq_true h)])) (fun h => ev_is (ev_var rfl) (by rw [htold, if_neg (of_decide_eq_false h)]))) fun H11 e11 => ?_
    -- names = []
    refine ⟨by show 0 ≤ sizeLine; omega, fun d nd => ?_⟩
    have hp11 := hp10.grow e11
    have hdp : d ≠ p := hp11.ne nd
    have wd : (Wo H p) d = none := by
      cases e : (Wo H p) d with
      | none => rfl
      | some o =>
        have := hp11.ex _ _ e
        rw [nd] at this
        cases this
    let f : Nat → List Nat := fun k => (l.take t).take g ++ [told.getD ((s0 + 7 * k) % told.length) 0] ++ (l.take t).drop g
    have hmod : ∀ k, (s0 + 7 * k) % told.length < told.length := fun k => Nat.mod_lt _ (by omega)
    dsimp only
    refine s_seq ?_
    refine s_forR1 (n := (m : Int)) (ea_cons (ev_var rfl) ea_nil) (by omega) (fun i st H' => ∃ t5 t12, st = [some (.ref p), some (.int (m : Int)), some (.str (tx letters)), some (.str (tx signs)), some (.str (tx l)), t5, some (.int kd), some (.int (s0 : Int)), some (.str (tx (l.take t))), some (.int (g : Int)), some (.str (tx told)), some (.ref d), t12] ∧ H' d = some (.lst (vtx ((List.range i).map f))) ∧ Pl (Wo H p) p (n + 20) H') ?_ ?_ ?_
    · exact fun H12 e12 => ⟨t5, none, rfl, e12 _ _ upd_same, ((hp11.new nd).grow e12).cnt (by omega)⟩
    · rintro i _ H12 hi ⟨t5', t12, rfl, hd12, hp12⟩
      refine s_seq ?_
      refine s_asg (v := .str (tx [told.getD ((s0 + 7 * i) % told.length) 0])) (ev_op (ev_var rfl) (y := .int (((s0 + 7 * i) % told.length : Nat) : Int)) (ev_is (ev_op (ev_op (ev_var rfl) (ev_op ev_c (ev_var rfl) (rv_I (.inl ⟨by decide, by decide⟩))) rv_I0) (ev_cb (z := .int (told.length : Int)) (ea_cons (ev_var rfl) ea_nil) (fun H1 _ Q q => ⟨tx told, rfl, sz_of (by rw [tx_len]; omega), q H1 (Ex.refl H1)⟩)) (rv_I (show (0 : Int) < (told.length : Int) by omega))) ?_) ?_) fun H13 e13 => ?_
      · refine congrArg V.int ?_
        rw [Int.natCast_emod, Int.natCast_add, Int.natCast_mul]
        rfl
      · intro H1 _ Q q
        exact ⟨tx told, _, _, rfl, rfl, sz_of (by rw [tx_len]; omega), text_at (zs := told) (hmod i), q H1 (Ex.refl H1)⟩
      dsimp only
      refine s_app (xs := vtx ((List.range i).map f)) (v := .str (tx (f i))) (e13 _ _ hd12) (ev_var rfl) ?_ (by rw [vtx_len, List.length_map, List.length_range]; omega) fun H14 e14 => ?_
      · intro H1 _ Q q
        have c0 := tx_cut0 (l.take t) g
        have c1 := tx_cut1 (l.take t) g
        refine ⟨_, rfl, _, rfl, _, rfl, tx (l.take t), rfl, sz_of (by rw [tx_len]; omega), ?_⟩
        rw [c0]
        refine ⟨_, rfl, tx ((l.take t).take g), tx [told.getD ((s0 + 7 * i) % told.length) 0], rfl, rfl, sz_of (by rw [tx_len, tx_len, List.length_take, List.length_singleton]; omega), ?_⟩
        rw [tx_app]
        refine ⟨_, rfl, _, rfl, _, rfl, tx (l.take t), rfl, sz_of (by rw [tx_len]; omega), ?_⟩
        rw [c1]
        refine ⟨tx ((l.take t).take g ++ [told.getD ((s0 + 7 * i) % told.length) 0]), tx ((l.take t).drop g), rfl, rfl, sz_of (by rw [tx_len, tx_len, List.length_append, List.length_take, List.length_singleton, List.length_drop]; omega), ?_⟩
        rw [tx_app]
        exact q H1 (Ex.refl H1)
      · refine ⟨some (.int (i : Int)), _, rfl, ?_, ?_⟩
        · rw [upd_same, List.range_succ, List.map_append, vtx_app]
          rfl
        · have hb := hp12.grow (e13.trans e14)
          refine ⟨hb.no, Ex.mut hb.ex wd, ?_⟩
          obtain ⟨a, b, c, k1, k2⟩ := hb.at_
          exact ⟨a, b, c, by rw [upd_ne hdp.symm]; exact k1, k2⟩
    rintro _ H12 ⟨t5', t12, rfl, hd12, hp12⟩
    refine ⟨_, rfl, ?_⟩
    refine q d _ H12 (fresh_wo hp0 hp11 nd) (hp0.back (hp12.cnt (by omega))) hd12 (by rw [List.length_map, List.length_range]; rfl) ⟨fun y hy => ?_, nodup_range fun i j hi hj e => ?_⟩
    · obtain ⟨k, _, rfl⟩ := List.mem_map.mp hy
      exact nam_put hl (by omega) hg (fun h0 => htl h0 _ (getD_mem (hmod k))) (hts _ (getD_mem (hmod k)))
    · have a1 := put_at (c := told.getD ((s0 + 7 * i) % told.length) 0) hg
      have a2 := put_at (c := told.getD ((s0 + 7 * j) % told.length) 0) hg
      have e2 : (l.take t).take g ++ [told.getD ((s0 + 7 * i) % told.length) 0] ++ (l.take t).drop g = (l.take t).take g ++ [told.getD ((s0 + 7 * j) % told.length) 0] ++ (l.take t).drop g := e
      rw [e2, a2] at a1
      have hi' : i < m := hi
      have hj' : j < m := hj
      exact mod7 hlen2 (by omega) (by omega) (getD_inj hn2 (hmod i) (hmod j) (Option.some.inj a1).symm)
end
end K08

set_option Elab.async false
set_option linter.all false
set_option maxRecDepth 100000
set_option maxHeartbeats 4000000
namespace K08
open PySem PySem.Spec PyProof.Rows L2 Vl Evl Vp
abbrev sWord : Stmt := top 21
abbrev nW : List Str := ["_law_pool_here", "_law_names_here", "_law_most", "_law_word_here", "_law_k"]
section
variable {P : Program} {w : World} {K : PySem.W.Frag} {mg : Str → Option Value} {base : Heap}
theorem scW : FnScope nW ["_law_pool_here", "_law_names_here", "_law_most"] (defScope sWord) := ⟨rfl, rfl, rfl, by decide +kernel, rfl, by decide +kernel, by decide +kernel⟩
theorem ok_word {f fT : Addr} {fd fdT : FuncData} (F : FnP K "_law_word" sWord f fd) (FT : FnP K "_law_take" sTake fT fdT) (gT : mg "_law_take" = some (.ref fT)) (mI : mg "int" = none) (mL : mg "len" = none) (mR : mg "range" = none) :
    FnOk P w K mg base CX0 2 f fd ["_law_pool_here", "_law_names_here", "_law_most"] spWord := by
  have GT : FnOk P w K mg base CX0 1 fT fdT ["_law_pool_here", "_law_many"] spTake := ok_take FT mI
  have bT : Binds K fdT ["_law_pool_here", "_law_many"] [] := FT.bindsN fun _ _ _ _ _ _ us hl => match us, hl with | [_, _], _ => rfl
  have kT := FT.kp
  refine F.ok (CX := CX0) scW (fun vs H Q E h => ?_) (fun cdv A outer s H vs Q E hr h => ?_)
  · obtain ⟨p, q, xs, m, Hk, n, rfl, _⟩ := h
    rfl
  · have hr1 : Room 1 _ := hr
    refine ⟨_, (pss_cons (ps_setLc (i := 3) (own := [("_law_k", 4)]) (g := gName 4) (tt := tYes) (te := (tOp (rIxL K) (tVar 1) (tCall spTake [] E0 (tCons (tVar 0) (tCons (tCB (fun xs H Q => ∃ x n, xs = [x] ∧ LenV K x H n ∧ Q (.int n) H) (tCons (tVar 1) tNil)) tNil))))) rfl scW.nd rfl rfl (sw_true rfl rfl rfl (by decide +kernel)) (pi_range1 (by rfl) mR (pa_cons (pe_op op_add pe_int (pe_call GT hr1 (by rfl) gT kT bT .nil pass0 (pa_cons (pv 0) (pa_cons (pv 2) pa_nil)))) pa_nil)) (blkOk_by (own := [("_law_k", 4)]) (N := nW) (sc := defScope sWord) (by decide +kernel)) (fun _ _ _ _ _ => pg_name (i := 4) scW.nd rfl (by first | exact Or.inl rfl | exact Or.inr rfl)) (fun _ _ _ _ _ => pts_nil) (fun _ _ _ _ _ => pe_ix ix_list (pv 1) (pe_call GT hr1 (by rfl) gT kT bT .nil pass0 (pa_cons (pv 0) (pa_cons (pe_callB call_len (by rfl) mL boot_len (pa_cons (pv 1) pa_nil)) pa_nil))) fun _ _ => rfl))
      (pss_cons (ps_if (pt_cmpR op_eq (pe_call GT hr1 (by rfl) gT kT bT .nil pass0 (pa_cons (pv 0) (pa_cons pe_int pa_nil))) pe_int (nomark _)) (pss_one (ps_set (i := 3) scW.nd rfl (by first | exact Or.inl rfl | exact Or.inr rfl) (pe_op op_rep (pe_slice sl_list (pv 3) po_none (po_some pe_int)) (pe_op op_add pe_int (pe_call GT hr1 (by rfl) gT kT bT .nil pass0 (pa_cons (pv 0) (pa_cons pe_int pa_nil))))))) pss_nil)
      (pss_one (ps_ret (pv 3))))), ?_⟩
    obtain ⟨p, a, xs, m, Hk, n, rfl, hm1, hm2, hp0, hn, ha, hx1, hx2, q⟩ := h
    have ap : a ≠ p := fun z => by rw [z, hp0.no] at ha; cases ha
    have hp := hp0.re
    have hak : (Wo H p) a = some (.lst (vtx xs)) := wo_at (hp0.ex _ _ ha) ap
    -- the range
    refine ⟨_, rfl, _, rfl, p, (m : Int), Wo H p, n, rfl, by omega, by omega, hp, by omega, ?_⟩
    intro r H1 r0 r1 hp1
    obtain ⟨z, rfl⟩ := Int.eq_ofNat_of_zero_le r0
    have hz : z < m := by omega
    refine ⟨1, _, rfl, rfl, _, rfl, by show -(2 ^ 62 : Int) ≤ 1 + (z : Int); omega, by show 1 + (z : Int) < 2 ^ 62; omega, fun Dl hD => ?_⟩
    have hDp : Dl ≠ p := hp1.ne hD
    have wd : (Wo H p) Dl = none := by
      cases e : (Wo H p) Dl with
      | none => rfl
      | some o =>
        have := hp1.ex _ _ e
        rw [hD] at this
        cases this
    have ez : (1 + (z : Int)).toNat = 1 + z := by omega
    rw [ez]
    refine lc_range (lo := 0) (n := 1 + z) (fun i H' => ∃ ys, H' Dl = some (.lst (vtx ys)) ∧ ys.length = i ∧ (∀ y ∈ ys, y ∈ xs) ∧ Pl (Wo H p) p (n + 1 + i) H') ⟨[], upd_same, rfl, (fun y h => nomatch h), (hp1.new hD).cnt (by omega)⟩ ?_ ?_
    · rintro i H2 hi ⟨ys, h1, h2, h3, h4⟩
      refine ⟨rfl, ?_⟩
      unfold tYes
      dsimp only
      rw [if_pos rfl]
      refine ⟨_, rfl, _, rfl, _, rfl, _, xs.length, rfl, .inl ⟨vtx xs, sq_of (h4.ex _ _ hak), (vtx_len xs).symm⟩, ?_⟩
      refine ⟨p, (xs.length : Int), Wo H2 p, _, rfl, by omega, by omega, h4.re, by omega, ?_⟩
      intro r H3 r0 r1 hp3
      obtain ⟨k, rfl⟩ := Int.eq_ofNat_of_zero_le r0
      have hk : k < xs.length := by omega
      have h34 := hp3.sub h4.wo h4.no
      refine ⟨a, vtx xs, _, _, rfl, rfl, sq_of (h34.ex _ _ hak), at_of rfl (vtx_at (List.getElem?_eq_getElem hk)), ?_⟩
      refine ⟨vtx ys, hp3.ex _ _ (wo_at h1 hDp), sz_lt (by rw [vtx_len]; omega), ys ++ [xs[k]], ?_, by rw [List.length_append, List.length_singleton, h2], ?_, ?_⟩
      · rw [upd_same, vtx_app]
        rfl
      · intro y hy
        rcases List.mem_append.mp hy with hy | hy
        · exact h3 y hy
        · rw [List.mem_singleton.mp hy]
          exact List.getElem_mem hk
      · have hb := h34.cnt (show n + 1 + i + 1 ≤ n + 1 + (i + 1) by omega)
        refine ⟨hb.no, Ex.mut hb.ex wd, ?_⟩
        obtain ⟨a', b, c, k1, k2⟩ := hb.at_
        exact ⟨a', b, c, by rw [upd_ne hDp.symm]; exact k1, k2⟩
    rintro H2 ⟨ys, h1, h2, h3, h4⟩
    -- if take(3) == 0
    have done : ∀ (d : Addr) (ys : List (List Nat)) (H' : Hp), H d = none → Pl (Wo H p) p (n + 50) H' → H' d = some (.lst (vtx ys)) → 1 ≤ ys.length → ys.length ≤ max m 12 → (∀ y ∈ ys, y ∈ xs) → Q (.ref d) H' :=
      fun d ys H' a1 a2 a3 a4 a5 a6 => q d ys H' a1 (hp0.back a2) a3 a4 a5 a6
    have fd : H Dl = none := fresh_wo hp0 hp1 hD
    refine ⟨_, rfl, p, 3, Wo H2 p, _, rfl, by omega, by omega, h4.re, by omega, ?_⟩
    intro r H3 r0 r1 hp3
    have h34 := hp3.sub h4.wo h4.no
    have hd3 : H3 Dl = some (.lst (vtx ys)) := hp3.ex _ _ (wo_at h1 hDp)
    refine ⟨rfl, _, rfl, ?_⟩
    refine ite2 (fun _ => ?_) (fun _ => ?_)
    · -- word[:4] * (1 + take(3))
      refine ⟨_, rfl, 4, rfl, Dl, vtx ys, rfl, sq_of hd3, fun p4 np4 => ?_⟩
      have h4p : Pl (Wo H3 p) p (n + 1 + (1 + z) + 1) (upd H3 p4 (.lst (cutV (vtx ys) none (some 4)))) := (hp3.re).new np4
      have n4 : p4 ≠ p := hp3.ne np4
      refine ⟨_, rfl, p, 3, Wo (upd H3 p4 (.lst (cutV (vtx ys) none (some 4)))) p, _, rfl, by omega, by omega, h4p.re, by omega, ?_⟩
      intro r H5 r0 r1 hp5
      obtain ⟨t, rfl⟩ := Int.eq_ofNat_of_zero_le r0
      refine ⟨1, _, rfl, rfl, ?_⟩
      have h5 : H5 p4 = some (.lst (cutV (vtx ys) none (some 4))) := hp5.ex _ _ (wo_at upd_same n4)
      have e4 : cutV (vtx ys) none (some 4) = vtx (ys.take 4) := by
        rw [← vtx_take]
        exact cutV0 (vtx ys) 4
      rw [e4] at h5
      have l4 : (ys.take 4).length ≤ 4 := by rw [List.length_take]; omega
      have et : (1 + (t : Int)).toNat = 1 + t := by omega
      refine ⟨p4, 1 + (t : Int), vtx (ys.take 4), rfl, rfl, h5, by omega, by omega, ?_, fun p6 np6 => ?_⟩
      · rw [et, vtx_len]
        refine sz_of ?_
        have : (ys.take 4).length * (1 + t) ≤ 4 * (1 + t) := Nat.mul_le_mul_right _ l4
        omega
      · rw [et, vtx_rep]
        have hf : Pl (Wo H p) p (n + 50) H5 := by
          have s1 : Pl (Wo H3 p) p (n + 1 + (1 + z) + 1 + 1) H5 := hp5.sub h4p.wo h4p.no
          have s2 : Pl (Wo H2 p) p (n + 1 + (1 + z) + 1 + 1) H5 := s1.sub hp3.wo hp3.no
          exact (s2.sub h4.wo h4.no).cnt (by omega)
        refine ⟨_, rfl, done p6 _ _ (fresh_wo hp0 hf np6) (hf.new np6) upd_same ?_ ?_ ?_⟩
        · rw [rep_len]
          have : 1 ≤ (ys.take 4).length := by rw [List.length_take]; omega
          have := Nat.mul_le_mul (show 1 ≤ 1 + t by omega) this
          omega
        · rw [rep_len]
          have := Nat.mul_le_mul (show 1 + t ≤ 3 by omega) l4
          omega
        · exact fun y hy => h3 y (List.mem_of_mem_take (rep_mem hy))
    · exact ⟨_, rfl, done Dl ys H3 fd (h34.cnt (by omega)) hd3 (by omega) (by omega) h3⟩
end
end K08

set_option Elab.async false
set_option linter.all false
set_option maxRecDepth 100000
set_option maxHeartbeats 4000000
namespace K08
open PySem PySem.Spec PyProof.Rows L2 Vl Evl Vp Vr
abbrev sIsName : Stmt := top 9
abbrev sIsInt : Stmt := top 10
abbrev sChkN : Stmt := top 11
abbrev sChkS : Stmt := top 12
/-- is_name, of a name -/
def spIsName : Sp := fun vs H Q _ => ∃ l, vs = [.str (tx l)] ∧ nam l ∧ ∀ H', Ex H H' → Q (.bl true) H'
theorem ifT {c A B : Prop} [Decidable c] (h : c) (a : A) : if c then A else B := by
  rw [if_pos h]
  exact a
theorem ifF {c A B : Prop} [Decidable c] (h : ¬ c) (b : B) : if c then A else B := by
  rw [if_neg h]
  exact b
section
variable {P : Program} {w : World} {K : PySem.W.Frag} {mg : Str → Option Value} {base : Heap}
abbrev nIN : List Str := ["value", "sign"]
theorem scIN : FnScope nIN ["value"] (defScope sIsName) := ⟨rfl, rfl, rfl, by decide +kernel, rfl, by decide +kernel, by decide +kernel⟩
theorem ok_isname {f : Addr} {fd : FuncData} (F : FnP K "is_name" sIsName f fd) (mI : mg "isinstance" = none) (mS : mg "str" = none) (mL : mg "len" = none) (mA : mg "all" = none)
    (gL : ∃ t, mg "LETTERS" = some (.str (tx letters) t)) (gD : ∃ t, mg "DIGITS" = some (.str (tx digits) t)) (gO : ∃ t, mg "LONGEST" = some (.int 8 t)) :
    FnOk P w K mg base CX0 1 f fd ["value"] spIsName := by
  obtain ⟨tL, gL⟩ := gL
  obtain ⟨tD, gD⟩ := gD
  obtain ⟨tO, gO⟩ := gO
  refine F.ok (CX := CX0) scIN (fun vs H Q E h => ?_) (fun cdv A outer s H vs Q E hr h => ?_)
  · obtain ⟨l, rfl, _⟩ := h
    rfl
  · refine ⟨_, (pss_cons (ps_if (PW.pt (pw_or (pt_not (pt_val (pe_callB call_isi (by rfl) mI boot_isinstance (pa_cons (pv 0) (pa_cons (pe_bltn (v := V.ty "str") (by rfl) mS boot_str rfl) pa_nil)))))
        (pw_or1 (pt_not (pt_chain op_le op_le pe_int (pe_callB call_len (by rfl) mL boot_len (pa_cons (pv 0) pa_nil)) (pe_glob (v := V.int 8) (by rfl) gO ⟨tO, rfl⟩)))))) (pss_one (ps_ret pe_bl)) pss_nil)
      (pss_one (ps_ret (pe_and (pe_cmpR op_inS (pe_ix ix_str (pv 0) pe_int fun _ _ => rfl) (pe_glob (v := V.str (tx letters)) (by rfl) gL ⟨tL, rfl⟩) rfl)
        (pe_one (pe_callB (cr_all rfl) (by rfl) mA boot_all (pa_cons (pe_lc (own := [("sign", 1)]) (g := gName 1) (tt := tYes) (te := tOp rInS (tVar 1) (tOp rCatS (tC (.str (tx letters))) (tC (.str (tx digits))))) rfl scIN.nd (pi_str (pv 0)) (blkOk_by (own := [("sign", 1)]) (N := nIN) (sc := defScope sIsName) (by decide +kernel)) (fun _ _ _ _ _ => (pg_name (i := 1) scIN.nd rfl (by first | exact Or.inl rfl | exact Or.inr rfl))) (fun _ _ _ _ _ => pts_nil)
          (fun _ _ _ _ _ => pe_cmpR op_inS (pv 1) (pe_op op_add_str (pe_glob (v := V.str (tx letters)) (by rfl) gL ⟨tL, rfl⟩) (pe_glob (v := V.str (tx digits)) (by rfl) gD ⟨tD, rfl⟩)) rfl)) pa_nil))))))), ?_⟩
    obtain ⟨l, rfl, hl, q⟩ := h
    have hll := nam_len hl
    have hs : (tx l).length = l.length := tx_len l
    refine s_seq ?_
    refine ⟨_, rfl, V.str (tx l), V.ty "str", .type "str", .type "str", true, rfl, .ty _, .base (.str _), kit_ty (by decide +kernel), true, rfl, ?_⟩
    refine ite_ff ?_
    refine ⟨_, rfl, _, (tx l).length, rfl, ⟨sz_of (by omega), rfl⟩, 1, _, rfl, rfl, _, rfl, ?_⟩
    refine ifT (decide_eq_true (by omega)) ?_
    refine ⟨_, _, rfl, rfl, _, rfl, ?_⟩
    refine ifF (by rw [decide_eq_true (show ((tx l).length : Int) ≤ 8 by omega)]; decide) ?_
    obtain ⟨c0, r0, rfl, hc, hr0, h7⟩ := id hl
    refine ⟨_, rfl, tx (c0 :: r0), 0, c0, rfl, rfl, sz_of (by omega), text_at (zs := c0 :: r0) (j := 0) (Nat.succ_pos _), _, _, rfl, rfl, _, rfl, ?_⟩
    refine ifT (decide_eq_true (by exact hc)) ?_
    refine ⟨_, rfl, tx (c0 :: r0), rfl, fun Dl hD => ?_⟩
    refine lc_it walk_str (fun i H' => H' = upd H Dl (.lst ((List.replicate i true).map V.bl))) rfl (fun _ _ _ _ => trivial) ?_ ?_
    · rintro i x H2 H3 hi rfl ⟨rfl, c, hcc, rfl⟩
      have hcm : c ∈ c0 :: r0 := by
        rw [← Array.getElem?_toList] at hcc
        exact List.mem_of_getElem? hcc
      refine ⟨rfl, ?_⟩
      unfold tYes
      dsimp only
      rw [if_pos rfl]
      refine ⟨_, rfl, tx letters, tx digits, rfl, rfl, by decide +kernel, c, _, rfl, rfl, (List.replicate i true).map V.bl, upd_same, ?_, ?_⟩
      · refine sz_lt ?_
        rw [List.length_map, List.length_replicate]
        have : (tx (c0 :: r0)).cps.size = (c0 :: r0).length := rfl
        omega
      · rw [tx_app, tx_list, decide_eq_true (show c ∈ letters ++ digits from nam_signs hl c hcm), upd_upd, List.replicate_succ', List.map_append]
        rfl
    · rintro H2 rfl
      refine ⟨Dl, List.replicate _ true, rfl, sq_of upd_same, ?_⟩
      rw [show (List.replicate ((tx (c0 :: r0)).cps.size) true).all id = true from List.all_eq_true.mpr fun b hb => (List.mem_replicate.mp hb).2]
      exact q _ (Ex.new hD)
end
end K08

set_option Elab.async false
set_option linter.all false
set_option maxRecDepth 100000
set_option maxHeartbeats 4000000
namespace K08
open PySem PySem.Spec PyProof.Rows L2 Vl Evl Vp Vr
theorem pi_either {X : Cx} {tg e : Expr} {t u : TI} (h : PI X tg e t) (h2 : PI X tg e u) : PI X tg e (fun σ H R => t σ H R ∨ u σ H R) :=
  ⟨fun pins s σ H R I q => q.elim (h.run pins s σ H R I) (h2.run pins s σ H R I)⟩
/-- a list or a tuple -/
def SqE (K : PySem.W.Frag) (H : Hp) (p : Addr) (xs : List V) : Prop := SqL K H p xs ∨ SqT K H p xs
theorem sqe_mono {K : PySem.W.Frag} {H H' : Hp} {p : Addr} {xs : List V} (e : Ex H H') (h : SqE K H p xs) : SqE K H' p xs := h.imp (ex_l e) (ex_t e)
def spIsInt (K : PySem.W.Frag) : Sp := fun vs H Q _ => ∃ (x : V) (t : String) (b1 b2 : Bool), vs = [x] ∧ TyX K H x (.type t) ∧ kitB t "int" = some b1 ∧ kitB t "bool" = some b2 ∧ Q (.bl (b1 && !b2)) H
def spChkN : Sp := fun vs H Q _ => ∃ l, vs = [.str (tx l)] ∧ nam l ∧ ∀ H', Ex H H' → Q .non H'
def spChkS (K : PySem.W.Frag) : Sp := fun vs H Q _ => ∃ p xs, vs = [.ref p] ∧ SqE K H p (vtx xs) ∧ (∀ l ∈ xs, nam l) ∧ 1 ≤ xs.length ∧ ∀ H', Ex H H' → Q .non H'
section
variable {P : Program} {w : World} {K : PySem.W.Frag} {mg : Str → Option Value} {base : Heap}
theorem scII : FnScope ["value"] ["value"] (defScope sIsInt) := ⟨rfl, rfl, rfl, by decide +kernel, rfl, by decide +kernel, by decide +kernel⟩
theorem ok_isint {f : Addr} {fd : FuncData} (F : FnP K "is_integer" sIsInt f fd) (mI : mg "isinstance" = none) (mN : mg "int" = none) (mB : mg "bool" = none) :
    FnOk P w K mg base CX0 1 f fd ["value"] (spIsInt K) := by
  refine F.ok (CX := CX0) scII (fun vs H Q E h => ?_) (fun cdv A outer s H vs Q E hr h => ?_)
  · obtain ⟨x, t, b1, b2, rfl, _⟩ := h
    rfl
  · refine ⟨_, (pss_one (ps_ret (pe_and (pe_callB call_isi (by rfl) mI boot_isinstance (pa_cons (pv 0) (pa_cons (pe_bltn (v := V.ty "int") (by rfl) mN boot_int rfl) pa_nil)))
      (pe_one (pe_not (pe_callB call_isi (by rfl) mI boot_isinstance (pa_cons (pv 0) (pa_cons (pe_bltn (v := V.ty "bool") (by rfl) mB boot_bool rfl) pa_nil)))))))), ?_⟩
    obtain ⟨x, t, b1, b2, rfl, ht, h1, h2, q⟩ := h
    refine ⟨_, rfl, x, V.ty "int", .type t, .type "int", b1, rfl, .ty _, ht, kit_ty h1, b1, rfl, ?_⟩
    cases b1 with
    | false => exact ifF Bool.false_ne_true q
    | true => exact ifT rfl ⟨_, rfl, x, V.ty "bool", .type t, .type "bool", b2, rfl, .ty _, ht, kit_ty h2, b2, rfl, q⟩
theorem scCN : FnScope ["value"] ["value"] (defScope sChkN) := ⟨rfl, rfl, rfl, by decide +kernel, rfl, by decide +kernel, by decide +kernel⟩
theorem ok_chkn {f fN : Addr} {fd fdN : FuncData} (F : FnP K "check_name" sChkN f fd) (FN : FnP K "is_name" sIsName fN fdN) (gN : mg "is_name" = some (.ref fN))
    (GN : FnOk P w K mg base CX0 1 fN fdN ["value"] spIsName) :
    FnOk P w K mg base CX0 2 f fd ["value"] spChkN := by
  have bN : Binds K fdN ["value"] [] := FN.bindsN fun _ _ _ _ _ _ us hl => match us, hl with | [_], _ => rfl
  have kN := FN.kp
  refine F.ok (CX := CX0) scCN (fun vs H Q E h => ?_) (fun cdv A outer s H vs Q E hr h => ?_)
  · obtain ⟨l, rfl, _⟩ := h
    rfl
  · have hr1 : Room 1 _ := hr
    refine ⟨_, (pss_one (ps_if (pt_not (pt_val (pe_call GN hr1 (by rfl) gN kN bN .nil pass0 (pa_cons (pv 0) pa_nil)))) (pss_one ps_never) pss_nil)), ?_⟩
    obtain ⟨l, rfl, hl, q⟩ := h
    exact ⟨_, rfl, l, rfl, hl, fun H' e => ⟨true, rfl, ifF Bool.false_ne_true (q H' e)⟩⟩
theorem scCS : FnScope ["names", "name"] ["names"] (defScope sChkS) := ⟨rfl, rfl, rfl, by decide +kernel, rfl, by decide +kernel, by decide +kernel⟩
theorem ok_chks {f fN : Addr} {fd fdN : FuncData} (F : FnP K "check_sequence" sChkS f fd) (FN : FnP K "check_name" sChkN fN fdN) (gN : mg "check_name" = some (.ref fN)) (mL : mg "len" = none)
    (GN : FnOk P w K mg base CX0 2 fN fdN ["value"] spChkN) :
    FnOk P w K mg base CX0 3 f fd ["names"] (spChkS K) := by
  have bN : Binds K fdN ["value"] [] := FN.bindsN fun _ _ _ _ _ _ us hl => match us, hl with | [_], _ => rfl
  have kN := FN.kp
  refine F.ok (CX := CX0) scCS (fun vs H Q E h => ?_) (fun cdv A outer s H vs Q E hr h => ?_)
  · obtain ⟨p, xs, rfl, _⟩ := h
    rfl
  · have hr1 : Room 2 _ := hr
    refine ⟨_, (pss_cons (ps_if (pt_cmpR op_eq (pe_callB call_len (by rfl) mL boot_len (pa_cons (pv 0) pa_nil)) pe_int (nomark _)) (pss_one ps_never) pss_nil)
      (pss_one (ps_for (passes_of rfl) rfl (pi_either (pi_list (pv 0)) (pi_tup (pv 0))) (pg_name (i := 1) scCS.nd rfl (by first | exact Or.inl rfl | exact Or.inr rfl))
        (pss_one (ps_expr (pe_call GN hr1 (by rfl) gN kN bN .nil pass0 (pa_cons (pv 1) pa_nil))))))), ?_⟩
    obtain ⟨p, xs, rfl, hp, hn, h1, q⟩ := h
    refine s_seq ?_
    refine ⟨_, rfl, _, xs.length, rfl, hp.imp (fun z => ⟨_, z, (vtx_len xs).symm⟩) (fun z => ⟨_, z, (vtx_len xs).symm⟩), rfl, _, rfl, ?_⟩
    refine ifF (fun z => absurd (V.int.inj (of_decide_eq_true z)) (by omega)) ?_
    have turn : ∀ (i : Nat) (x : V) (σ' : L2.St) (H' : Hp), (vtx xs)[i]? = some x → (∃ t, σ' = [some (.ref p), t] ∧ Ex H H') → ∃ t, σ'.set 1 (some x) = [some (.ref p), t] ∧ ∃ l, x = .str (tx l) ∧ t = some (.str (tx l)) ∧ nam l := by
      rintro i x _ H' hx ⟨t, rfl, e⟩
      unfold vtx at hx
      rw [List.getElem?_map] at hx
      obtain ⟨l, hl, rfl⟩ := Option.map_eq_some_iff.mp hx
      exact ⟨_, rfl, l, rfl, rfl, hn l (List.mem_of_getElem? hl)⟩
    rcases hp with hp | hp
    · refine .inl (s_forL (a := p) (ev_var rfl) hp (fun i st H' => ∃ t, st = [some (.ref p), t] ∧ Ex H H') (fun H1 e => ⟨none, rfl, e⟩) (fun i st H' _ ⟨_, _, e⟩ => ex_l e hp) ?_ (fun st H' ⟨_, _, e⟩ => q H' e))
      rintro i x σ' H' hx ⟨t, rfl, e⟩
      obtain ⟨t2, e2, l, rfl, rfl, hl⟩ := turn i x _ H' hx ⟨t, rfl, e⟩
      exact ⟨_, rfl, l, rfl, hl, fun H2 e3 => ⟨_, rfl, e.trans e3⟩⟩
    · refine .inr (s_forT (a := p) (ev_var rfl) hp (fun i st H' => ∃ t, st = [some (.ref p), t] ∧ Ex H H') (fun H1 e => ⟨none, rfl, e⟩) (fun i st H' _ ⟨_, _, e⟩ => ex_t e hp) ?_ (fun st H' ⟨_, _, e⟩ => q H' e))
      rintro i x σ' H' hx ⟨t, rfl, e⟩
      obtain ⟨t2, e2, l, rfl, rfl, hl⟩ := turn i x _ H' hx ⟨t, rfl, e⟩
      exact ⟨_, rfl, l, rfl, hl, fun H2 e3 => ⟨_, rfl, e.trans e3⟩⟩
end
end K08

set_option Elab.async false
set_option linter.all false
set_option maxRecDepth 100000
set_option maxHeartbeats 4000000
namespace K08
open PySem PySem.Spec PyProof.Rows L2 Vl Evl Vp Vr Vt
abbrev sLeast : Stmt := top 15
def spLeast (K : PySem.W.Frag) : Sp := fun vs H Q _ => ∃ p a, vs = [.ref p] ∧ SqT K H p (vtx a) ∧ 1 ≤ a.length ∧ a.length ≤ 1000 ∧
  ∀ q H', Ex H H' → SqT K H' q (vtx (least a)) → Q (.ref q) H'
section
variable {P : Program} {w : World} {K : PySem.W.Frag} {mg : Str → Option Value} {base : Heap}
abbrev nLT : List Str := ["lanes", "least", "place", "turned"]
theorem scLT : FnScope nLT ["lanes"] (defScope sLeast) := ⟨rfl, rfl, rfl, by decide +kernel, rfl, by decide +kernel, by decide +kernel⟩
theorem ok_least {f : Addr} {fd : FuncData} (F : FnP K "least_turn" sLeast f fd) (mL : mg "len" = none) (mR : mg "range" = none) :
    FnOk P w K mg base CX0 1 f fd ["lanes"] (spLeast K) := by
  refine F.ok (CX := CX0) scLT (fun vs H Q E h => ?_) (fun cdv A outer s H vs Q E hr h => ?_)
  · obtain ⟨p, a, rfl, _⟩ := h
    rfl
  · refine ⟨_, (pss_cons (ps_set (i := 1) scLT.nd rfl (by first | exact Or.inl rfl | exact Or.inr rfl) (pv 0))
      (pss_cons (ps_for (passes_of rfl) rfl (pi_range2 (by rfl) mR (pa_cons pe_int (pa_cons (pe_callB call_len (by rfl) mL boot_len (pa_cons (pv 0) pa_nil)) pa_nil))) (pg_name (i := 2) scLT.nd rfl (by first | exact Or.inl rfl | exact Or.inr rfl))
        (pss_cons (ps_set (i := 3) scLT.nd rfl (by first | exact Or.inl rfl | exact Or.inr rfl) (pe_op op_catA (pe_slice sl_tupA (pv 0) (po_some (pv 2)) po_none) (pe_slice sl_tupA (pv 0) po_none (po_some (pv 2)))))
        (pss_one (ps_if (pt_cmpR (Vo.op_ltD hr.units) (pv 3) (pv 1) (nomark _)) (pss_one (ps_set (i := 1) scLT.nd rfl (by first | exact Or.inl rfl | exact Or.inr rfl) (pv 3))) pss_nil))))
      (pss_one (ps_ret (pv 1))))), ?_⟩
    obtain ⟨p, a, rfl, hp, h1, h2, q⟩ := h
    refine s_seq ?_
    refine s_asg (v := .ref p) (ev_var rfl) fun H1 e1 => ?_
    dsimp only
    refine s_seq ?_
    refine s_forR2 (lo := 1) (n := (a.length : Int)) (ea_cons ev_c (ea_cons (ev_cb (ea_cons (ev_var rfl) ea_nil) (fun H2 e2 Q q => ⟨_, a.length, rfl, .inr ⟨vtx a, ex_t (e1.trans e2) hp, (vtx_len a).symm⟩, q H2 (Ex.refl H2)⟩)) ea_nil)) (by omega)
      (fun i st H' => ∃ q t2 t3, st = [some (.ref p), some (.ref q), t2, t3] ∧ Ex H H' ∧ SqT K H' q (vtx (lt1 a i))) (fun H2 e2 => ⟨p, none, none, rfl, e1.trans e2, ex_t (e1.trans e2) hp⟩) ?_ ?_
    · rintro i _ H2 hi ⟨q0, t2, t3, rfl, e2, hq⟩
      dsimp only
      refine s_seq ?_
      have hk : (1 : Int) + (i : Int) = ((i + 1 : Nat) : Int) := by omega
      rw [hk]
      refine et_rot (a := a) (k := i + 1) (et_ref (ev_var rfl) (ex_t e2 hp)) (et_ref (ev_var rfl) (ex_t e2 hp)) (ev_var rfl) (ev_var rfl) h2 H2 (Ex.refl H2) _ fun q2 H3 e3 hq2 => ?_
      refine ⟨_, rfl, _, rfl, wd (rot a (i + 1)), wd (lt1 a i), dp_wd hq2, dp_wd (ex_t e3 hq), alike_wd _ _, (fun z => nomatch z), ?_, _, rfl, ?_⟩
      · have := dep_wd (rot a (i + 1))
        omega
      · refine ite2 (fun hlt => ?_) (fun hlt => ?_)
        · refine ⟨_, rfl, q2, _, _, rfl, e2.trans e3, ?_⟩
          unfold lt1
          rw [if_pos (show ltW (rot a (i + 1)) (lt1 a i) = true from hlt)]
          exact hq2
        · refine ⟨q0, _, _, rfl, e2.trans e3, ?_⟩
          unfold lt1
          rw [if_neg (show ¬ ltW (rot a (i + 1)) (lt1 a i) = true from hlt)]
          exact ex_t e3 hq
    · rintro _ H2 ⟨q0, t2, t3, rfl, e2, hq⟩
      refine ⟨_, rfl, q q0 H2 e2 ?_⟩
      rw [show ((a.length : Int) - 1).toNat = a.length - 1 by omega] at hq
      exact hq
end
end K08

set_option Elab.async false
set_option linter.all false
set_option maxRecDepth 100000
set_option maxHeartbeats 4000000
namespace K08
open PySem PySem.Spec PyProof.Rows L2 Vl Evl Vp Vr Vt
/-- the i-th member of the class's body -/
def clB : Stmt → List Stmt
  | .ClassDef (body := b) .. => b
  | _ => []
def mem (i : Nat) : Stmt := (clB (top 14)).getD i (.Pass ⟨0, 0, 0, 0⟩)
abbrev FnM (K : PySem.W.Frag) (m q : Str) (st : Stmt) (f : Addr) (fd : FuncData) : Prop := FunD K m q (defArgs st) (defBody st) (defScope st) [] [] f fd
abbrev sIni : Stmt := mem 0
abbrev sLanes : Stmt := mem 1
abbrev sGet : Stmt := mem 6
abbrev sLen : Stmt := mem 7
abbrev sEq : Stmt := mem 10
abbrev sShl : Stmt := mem 12
abbrev sNeg : Stmt := mem 13
/-- a round of the lanes a stands at o -/
def Rnd (K : PySem.W.Frag) (C : Addr) (H : Hp) (o : Addr) (a : List (List Nat)) : Prop := ∃ dx q, H o = some (.ins C dx [("_lanes", .ref q)]) ∧ SqT K H q (vtx a)
theorem Rnd.mono {K : PySem.W.Frag} {C : Addr} {H H' : Hp} {o : Addr} {a : List (List Nat)} (e : Ex H H') (h : Rnd K C H o a) : Rnd K C H' o a := by
  obtain ⟨dx, q, h1, h2⟩ := h
  exact ⟨dx, q, e _ _ h1, ex_t e h2⟩
theorem sqt_upd {K : PySem.W.Frag} {H : Hp} {p x C dx : Addr} {xs : List V} {fs : List (Str × V)} {o : HO} (h : SqT K H p xs) (hx : H x = some (.ins C dx fs)) : SqT K (upd H x o) p xs := by
  rcases h with (h | ⟨ob, h⟩) | h
  · refine .inl (.inl ?_)
    rw [upd_ne (fun z => by rw [z, hx] at h; cases h)]
    exact h
  · refine .inl (.inr ⟨ob, ?_⟩)
    rw [upd_ne (fun z => by rw [z, hx] at h; cases h)]
    exact h
  · exact .inr h
/-- lanes: names, few -/
def Lns (a : List (List Nat)) : Prop := (∀ l ∈ a, nam l) ∧ 1 ≤ a.length ∧ a.length ≤ 1000
def spIniR (K : PySem.W.Frag) (C : Addr) : Sp := fun vs H Q _ => ∃ (x dx p : Addr) (H0 : Hp) (a : List (List Nat)), vs = [.ref x, .ref p] ∧ H = upd (upd H0 dx (.own x)) x (.ins C dx []) ∧ H0 x = none ∧ H0 dx = none ∧ dx ≠ x ∧
  SqE K H0 p (vtx a) ∧ Lns a ∧ ∀ H', Ex H0 H' → Rnd K C H' x a → Q .non H'
/-- Round(p), as an expression's value -/
def spMk (K : PySem.W.Frag) (C : Addr) : Sp := fun vs H Q _ => ∃ p a, vs = [.ref p] ∧ SqE K H p (vtx a) ∧ Lns a ∧ ∀ o H', Ex H H' → H o = none → Rnd K C H' o a → Q (.ref o) H'
section
variable {X : Cx} {C fI : Addr} {k : Nat} {fd : FuncData} {e : Expr} {te : TE} {p pos : Pos}
/-- Round(e) -/
def tMk (K : PySem.W.Frag) (C : Addr) (te : TE) : TE := fun st H Q => te st H fun v H1 => spMk K C [v] H1 Q E0
theorem pe_mkR (M : Mk X.K C fI) (F : FnOk X.prog X.w X.K X.mg X.base CX0 k fI fd ["self", "lanes"] (spIniR X.K C)) (hr : Room (k + 1) X.A) (hg : Gl X "Round") (hm : X.mg "Round" = some (.ref C)) (hb : Binds X.K fd ["self", "lanes"] []) (ha : PE X e te)
    (hs : starEach [e] X.env = (false, eval e X.env) :: starEach [] X.env := by rfl) (hpl : (backTo pos (starEach [] X.env)).any (·.1) = false := by rfl) : PE X (.Call (.Name "Round" p) [e] [] pos) (tMk X.K C te) := by
  refine pe_weak (pe_make (E := E0) M F hr hg hm hb .nil pass0 (pa_cons (pe_mono ha) pa_nil hs) (by decide) hs hpl) ?_
  intro st H Q h
  refine ⟨_, h, fun v H1 q => fun x dx hx hdx hne => ?_⟩
  obtain ⟨p0, a, ev, hp, hl, q⟩ := q
  have ev : v = .ref p0 := (List.cons.inj ev).1
  subst ev
  exact ⟨x, dx, p0, H1, a, rfl, rfl, hx, hdx, hne, hp, hl, fun H' e2 r => ⟨rfl, q x H' e2 hx r⟩⟩
end
section
variable {P : Program} {w : World} {K : PySem.W.Frag} {mg : Str → Option Value} {base : Heap} {C : Addr}
theorem scI : FnScope ["self", "lanes"] ["self", "lanes"] (defScope sIni) := ⟨rfl, rfl, rfl, by decide +kernel, rfl, by decide +kernel, by decide +kernel⟩
theorem ok_ini {f fS : Addr} {fd fdS : FuncData} (F : FnM K "__init__" "Round.__init__" sIni f fd) (c : Cls K C) (n : NoAttr K C "_lanes") (FS : FnP K "check_sequence" sChkS fS fdS) (gS : mg "check_sequence" = some (.ref fS)) (mT : mg "tuple" = none)
    (GS : FnOk P w K mg base CX0 3 fS fdS ["names"] (spChkS K)) :
    FnOk P w K mg base CX0 4 f fd ["self", "lanes"] (spIniR K C) := by
  have bS : Binds K fdS ["names"] [] := FS.bindsN fun _ _ _ _ _ _ us hl => match us, hl with | [_], _ => rfl
  have kS := FS.kp
  refine F.ok (CX := CX0) scI (fun vs H Q E h => ?_) (fun cdv A outer s H vs Q E hr h => ?_)
  · obtain ⟨x, dx, p, H0, a, rfl, _⟩ := h
    rfl
  · have hr1 : Room 3 _ := hr
    refine ⟨_, (pss_cons (ps_expr (pe_call GS hr1 (by rfl) gS kS bS .nil pass0 (pa_cons (pv 1) pa_nil)))
      (pss_one (ps_fld (pv 0) (pe_callTy call_tuple_of (by rfl) mT boot_tuple (pa_cons (pv 1) pa_nil)) (by rfl)))), ?_⟩
    obtain ⟨x, dx, p, H0, a, rfl, rfl, hx, hdx, hne, hp, ⟨ha, h1, h2⟩, q⟩ := h
    have e0 : Ex H0 (upd (upd H0 dx (.own x)) x (.ins C dx [])) := (Ex.new hdx).trans (Ex.new (by rw [upd_ne hne.symm]; exact hx))
    refine s_seq ?_
    refine ⟨_, rfl, p, a, rfl, sqe_mono e0 hp, ha, h1, fun H1 e1 => ?_⟩
    have hx1 : H1 x = some (.ins C dx []) := e1 _ _ upd_same
    have fin : ∀ (l : Addr) (H2 : Hp), Ex H1 H2 → SqT K H2 l (vtx a) → ∃ a C_1 dx fs, V.ref x = V.ref a ∧ H2 a = some (.ins C_1 dx fs) ∧ Cls K C_1 ∧ NoAttr K C_1 "_lanes" ∧ fs.length < 1000 ∧ Q .non (upd H2 a (.ins C_1 dx (putF "_lanes" (.ref l) fs))) := by
      intro l H2 e2 hl
      have hx2 := e2 _ _ hx1
      exact ⟨x, C, dx, [], rfl, hx2, c, n, by show 0 < 1000; omega, q _ (Ex.mut ((e0.trans e1).trans e2) hx) ⟨dx, l, upd_same, sqt_upd hl hx2⟩⟩
    rcases sqe_mono (e0.trans e1) hp with hp1 | hp1
    · exact ⟨_, rfl, p, vtx a, rfl, .inl ⟨hp1, fun l hl => ⟨_, rfl, fin l _ (Ex.new hl) sqt_new⟩⟩⟩
    · exact ⟨_, rfl, p, vtx a, rfl, .inr ⟨hp1, ⟨_, rfl, fin p _ (Ex.refl _) hp1⟩⟩⟩
end
end K08

set_option Elab.async false
set_option linter.all false
set_option maxRecDepth 100000
set_option maxHeartbeats 4000000
namespace K08
open PySem PySem.Spec PyProof.Rows L2 Vl Evl Vp Vr Vt
/-- equal as data: equal -/
theorem eqv_wd (a b : List (List Nat)) : PyData.eqv (wd a) (wd b) = decide (a = b) := by
  by_cases h : a = b
  · rw [decide_eq_true h, h]
    exact PySem.W.eqv_refl_alike _ (alike_wd b b)
  · rw [decide_eq_false h]
    cases e : PyData.eqv (wd a) (wd b) with
    | false => rfl
    | true =>
      have k := (PySem.W.toks_eqv (wd a) (wd b) (alike_wd a b)).1 e
      unfold wd at k
      rw [PySem.W.keyToks, PySem.W.keyToks] at k
      exact absurd (key_inj k) h
theorem lay_dtx : ∀ a : List (List Nat), (∀ l ∈ a, nam l) → PyData.canLayAll0 (dtx a) = true
  | [], _ => rfl
  | x :: r, h => by
    have hr := lay_dtx r fun l hl => h l (List.mem_cons_of_mem _ hl)
    have hx : PyData.canLay0 (PyData.str (tx x)) = true := by
      show PyData.strOk (tx x) = true
      unfold PyData.strOk
      rw [← Array.all_toList, tx_list, List.all_eq_true]
      intro c hc
      have hs : c ∈ Vp.signs := nam_signs (h x List.mem_cons_self) c hc
      have all : ∀ c ∈ Vp.signs, c < 128 := by decide +kernel
      have := all c hs
      refine decide_eq_true ?_
      omega
    show (PyData.canLay0 (PyData.str (tx x)) && PyData.canLayAll0 (dtx r)) = true
    rw [hx, hr]
    rfl
theorem sh_wd {a : List (List Nat)} (h : ∀ l ∈ a, nam l) : SeqAt.shaped (wd a) = true := shaped_of (lay_dtx a h) (by have := dep_wd a; omega)
theorem rot_nam {a : List (List Nat)} {k : Nat} (h : ∀ l ∈ a, nam l) : ∀ l ∈ rot a k, nam l := fun l hl => by
  rcases List.mem_append.mp hl with hl | hl
  · exact h l (List.mem_of_mem_drop hl)
  · exact h l (List.mem_of_mem_take hl)
theorem least_nam {a : List (List Nat)} (h : ∀ l ∈ a, nam l) : ∀ l ∈ least a, nam l := by
  obtain ⟨j, _, e⟩ := lt1_turn a (a.length - 1)
  rw [show least a = rot a j from e]
  exact rot_nam h
def spLen (K : PySem.W.Frag) (C : Addr) : Sp := fun vs H Q _ => ∃ o a, vs = [.ref o] ∧ Rnd K C H o a ∧ Lns a ∧ Q (.int (a.length : Nat)) H
def spEq (K : PySem.W.Frag) (C : Addr) : Sp := fun vs H Q _ => ∃ (o : Addr) (y : V) (a : List (List Nat)), vs = [.ref o, y] ∧ Rnd K C H o a ∧ Lns a ∧
  ((∃ o2 b, y = .ref o2 ∧ Rnd K C H o2 b ∧ Lns b ∧ ∀ H', Ex H H' → Q (.bl (decide (least a = least b))) H') ∨
   (∃ t : String, TyX K H y (.type t) ∧ PySem.W.kitOne K (.type t) (.ref C) = some false ∧ Q (.bl false) H))
def spNeg (K : PySem.W.Frag) (C : Addr) : Sp := fun vs H Q _ => ∃ o a, vs = [.ref o] ∧ Rnd K C H o a ∧ Lns a ∧ ∀ o2 H', Ex H H' → H o2 = none → Rnd K C H' o2 a.reverse → Q (.ref o2) H'
section
variable {P : Program} {w : World} {K : PySem.W.Frag} {mg : Str → Option Value} {base : Heap} {C : Addr}
theorem scG1 : FnScope ["self"] ["self"] (defScope sLanes) := ⟨rfl, rfl, rfl, by decide +kernel, rfl, by decide +kernel, by decide +kernel⟩
theorem ok_lanes {f : Addr} {fd : FuncData} (F : FnM K "lanes" "Round.lanes" sLanes f fd) (c : Cls K C) (n : NoAttr K C "_lanes") :
    FnOk P w K mg base CX0 1 f fd ["self"] (getSp C "_lanes") := by
  refine F.ok (CX := CX0) scG1 (fun vs H Q E h => ?_) (fun cdv A outer s H vs Q E hr h => ?_)
  · obtain ⟨a, dx, fs, v, rfl, _⟩ := h
    rfl
  · refine ⟨_, pss_one (ps_ret (pe_fld (pv 0) rfl)), ?_⟩
    obtain ⟨a, dx, fs, v, rfl, ea, l, q⟩ := h
    exact ⟨.ref a, rfl, a, C, dx, fs, v, rfl, ea, c, n, l, q⟩
theorem scLn : FnScope ["self"] ["self"] (defScope sLen) := ⟨rfl, rfl, rfl, by decide +kernel, rfl, by decide +kernel, by decide +kernel⟩
theorem ok_len {f : Addr} {fd : FuncData} (F : FnM K "__len__" "Round.__len__" sLen f fd) (c : Cls K C) (n : NoAttr K C "_lanes") (mL : mg "len" = none) :
    FnOk P w K mg base CX0 1 f fd ["self"] (spLen K C) := by
  refine F.ok (CX := CX0) scLn (fun vs H Q E h => ?_) (fun cdv A outer s H vs Q E hr h => ?_)
  · obtain ⟨o, a, rfl, _⟩ := h
    rfl
  · refine ⟨_, pss_one (ps_ret (pe_callB call_len (by rfl) mL boot_len (pa_cons (pe_fld (pv 0) rfl) pa_nil))), ?_⟩
    obtain ⟨o, a, rfl, ⟨dx, q0, h1, h2⟩, _, q⟩ := h
    exact ⟨_, rfl, o, C, dx, _, .ref q0, rfl, h1, c, n, rfl, .ref q0, a.length, rfl, .inr ⟨vtx a, h2, (vtx_len a).symm⟩, q⟩
theorem scE : FnScope ["self", "other"] ["self", "other"] (defScope sEq) := ⟨rfl, rfl, rfl, by decide +kernel, rfl, by decide +kernel, by decide +kernel⟩
theorem ok_eq {f fT : Addr} {fd fdT : FuncData} (F : FnM K "__eq__" "Round.__eq__" sEq f fd) (c : C8.InsC K C) (n : NoAttr K C "_lanes") (mI : mg "isinstance" = none) (gR : mg "Round" = some (.ref C))
    (FT : FnP K "least_turn" sLeast fT fdT) (gT : mg "least_turn" = some (.ref fT)) (GT : FnOk P w K mg base CX0 1 fT fdT ["lanes"] (spLeast K)) :
    FnOk P w K mg base CX0 2 f fd ["self", "other"] (spEq K C) := by
  have bT : Binds K fdT ["lanes"] [] := FT.bindsN fun _ _ _ _ _ _ us hl => match us, hl with | [_], _ => rfl
  have kT := FT.kp
  refine F.ok (CX := CX0) scE (fun vs H Q E h => ?_) (fun cdv A outer s H vs Q E hr h => ?_)
  · obtain ⟨o, y, a, rfl, _⟩ := h
    rfl
  · have hr1 : Room 1 _ := hr
    refine ⟨_, pss_one (ps_ret (pe_and (pe_callB call_isi (by rfl) mI boot_isinstance (pa_cons (pv 1) (pa_cons (pe_glob (v := V.ref C) (by rfl) gR rfl) pa_nil)))
      (pe_one (pe_cmpR (op_eqD hr.units) (pe_call GT hr1 (by rfl) gT kT bT .nil pass0 (pa_cons (pe_fld (pv 0) rfl) pa_nil)) (pe_call GT hr1 (by rfl) gT kT bT .nil pass0 (pa_cons (pe_fld (pv 1) rfl) pa_nil)) (nomark _))))), ?_⟩
    obtain ⟨o, y, a, rfl, ⟨dx, q0, h1, h2⟩, ⟨la, l1, l2⟩, h⟩ := h
    rcases h with ⟨o2, b, rfl, ⟨dx2, q2, g1, g2⟩, ⟨lb, m1, m2⟩, q⟩ | ⟨t, ht, hk, q⟩
    · refine ⟨_, rfl, V.ref o2, V.ref C, .ref C, .ref C, true, rfl, .own C, .base (.ins g1 c.cl c.ha c.hn c.htk c.hm), c.me, true, rfl, ?_⟩
      refine ifT rfl ?_
      refine ⟨_, rfl, o, C, dx, _, .ref q0, rfl, h1, c.cl, n, rfl, q0, a, rfl, h2, l1, l2, fun r1 H1 e1 k1 => ?_⟩
      refine ⟨_, rfl, o2, C, dx2, _, .ref q2, rfl, e1 _ _ g1, c.cl, n, rfl, q2, b, rfl, ex_t e1 g2, m1, m2, fun r2 H2 e2 k2 => ?_⟩
      refine ⟨wd (least a), wd (least b), dp_wd (ex_t e2 k1), dp_wd k2, sh_wd (least_nam la), sh_wd (least_nam lb), ?_⟩
      rw [eqv_wd]
      exact q H2 (e1.trans e2)
    · refine ⟨_, rfl, y, V.ref C, .type t, .ref C, false, rfl, .own C, ht, hk, false, rfl, ?_⟩
      exact ifF Bool.false_ne_true q
theorem scNg : FnScope ["self"] ["self"] (defScope sNeg) := ⟨rfl, rfl, rfl, by decide +kernel, rfl, by decide +kernel, by decide +kernel⟩
theorem ok_neg {f fI : Addr} {fd fdI : FuncData} (F : FnM K "__neg__" "Round.__neg__" sNeg f fd) (c : Cls K C) (n : NoAttr K C "_lanes") (gR : mg "Round" = some (.ref C)) (M : Mk K C fI) (bI : Binds K fdI ["self", "lanes"] [])
    (GI : FnOk P w K mg base CX0 4 fI fdI ["self", "lanes"] (spIniR K C)) :
    FnOk P w K mg base CX0 6 f fd ["self"] (spNeg K C) := by
  refine F.ok (CX := CX0) scNg (fun vs H Q E h => ?_) (fun cdv A outer s H vs Q E hr h => ?_)
  · obtain ⟨o, a, rfl, _⟩ := h
    rfl
  · have hr1 : Room 5 _ := hr
    refine ⟨_, pss_one (ps_ret (pe_mkR M GI hr1 (by rfl) gR bI (pe_revT (pe_fld (pv 0) rfl)))), ?_⟩
    obtain ⟨o, a, rfl, ⟨dx, q0, h1, h2⟩, ⟨la, l1, l2⟩, q⟩ := h
    refine ⟨_, rfl, o, C, dx, _, .ref q0, rfl, h1, c, n, rfl, q0, vtx a, rfl, h2, fun p hp => ?_⟩
    refine ⟨p, a.reverse, rfl, .inr ?_, ⟨fun l hl => la l (List.mem_reverse.mp hl), by rw [List.length_reverse]; exact l1, by rw [List.length_reverse]; exact l2⟩, fun o2 H' e ho r => q o2 H' ((Ex.new hp).trans e) ?_ r⟩
    · rw [vtx_rev]
      exact sqt_new
    · cases z : H o2 with
      | none => rfl
      | some u =>
        rw [upd_ne (ne_of_none z hp), z] at ho
        cases ho
end
end K08

set_option Elab.async false
set_option linter.all false
set_option maxRecDepth 100000
set_option maxHeartbeats 4000000
namespace K08
open PySem PySem.Spec PyProof.Rows L2 Vl Evl Vp Vr Vt
/-- no integer, to this program -/
def NoInt (K : PySem.W.Frag) (H : Hp) (y : V) : Prop := ∃ (t : String) (b1 b2 : Bool), TyX K H y (.type t) ∧ kitB t "int" = some b1 ∧ kitB t "bool" = some b2 ∧ (b1 && !b2) = false
/-- the error about y -/
def Raised (CN : Addr) (H : Hp) (y : V) (E : XK) : Prop := ∀ d H', Ex H H' → H' d = some (.xd [("value", y)]) → E (.ref CN) (some d) H'
def spGet (K : PySem.W.Frag) (C CN : Addr) : Sp := fun vs H Q E => ∃ (o : Addr) (y : V) (a : List (List Nat)), vs = [.ref o, y] ∧ Rnd K C H o a ∧ Lns a ∧
  ((∃ (i : Int) (l : List Nat), y = .int i ∧ a[(i % (a.length : Int)).toNat]? = some l ∧ Q (.str (tx l)) H) ∨ (NoInt K H y ∧ Raised CN H y E))
def spShl (K : PySem.W.Frag) (C CN : Addr) : Sp := fun vs H Q E => ∃ (o : Addr) (y : V) (a : List (List Nat)), vs = [.ref o, y] ∧ Rnd K C H o a ∧ Lns a ∧
  ((∃ i : Int, y = .int i ∧ ∀ o2 H', Ex H H' → H o2 = none → Rnd K C H' o2 (rot a (i % (a.length : Int)).toNat) → Q (.ref o2) H') ∨ (NoInt K H y ∧ Raised CN H y E))
section
variable {X : Cx} {CN fI : Addr} {fd : FuncData} {te : TE}
theorem raised_of {st : L2.St} {H : Hp} {y : V} {W : WX} (h : te = tVar 1) (hy : st[1]? = some (some y)) (q : Raised CN H y fun cls d H' => W cls d st H') :
    tMkO CN (spIni CN "value") [] (tCons te tNil) st H (fun cls d H' => W cls d st H') := by
  subst h
  refine ⟨y, hy, ?_⟩
  refine ⟨by show 1 ≤ 1000; omega, fun a na => ?_⟩
  refine ⟨a, y, rfl, upd_same, fun dx n1 n2 => ?_⟩
  have nd : H dx = none := by rw [upd_ne n2] at n1; exact n1
  refine ⟨rfl, dx, [("value", y)], upd_same, ?_, ?_, ?_⟩
  · rw [upd_ne n2, upd_same]
  · exact nd
  · refine q dx _ (fun b o hb => ?_) upd_same
    rw [upd_ne (ne_of_none hb nd), del_ne (ne_of_none hb na), upd_ne (ne_of_none hb na), upd_ne (ne_of_none hb nd), upd_ne (ne_of_none hb na)]
    exact hb
end
theorem mod_nat {i : Int} {n : Nat} (h : 1 ≤ n) : i % (n : Int) = (((i % (n : Int)).toNat : Nat) : Int) ∧ (i % (n : Int)).toNat < n := by
  have h1 := Int.emod_nonneg i (show (n : Int) ≠ 0 by omega)
  have h2 := Int.emod_lt_of_pos i (show (0 : Int) < n by omega)
  omega
section
variable {P : Program} {w : World} {K : PySem.W.Frag} {mg : Str → Option Value} {base : Heap} {C CN : Addr}
theorem scGt : FnScope ["self", "at"] ["self", "at"] (defScope sGet) := ⟨rfl, rfl, rfl, by decide +kernel, rfl, by decide +kernel, by decide +kernel⟩
theorem ok_get {f fI fE : Addr} {fd fdI fdE : FuncData} (F : FnM K "__getitem__" "Round.__getitem__" sGet f fd) (c : Cls K C) (n : NoAttr K C "_lanes") (mL : mg "len" = none)
    (FI : FnP K "is_integer" sIsInt fI fdI) (gI : mg "is_integer" = some (.ref fI)) (GI : FnOk P w K mg base CX0 1 fI fdI ["value"] (spIsInt K))
    (T : OexC K CN) (iC : PySem.W.findIn K (.ref CN) "__init__" = some (some (.ref fE))) (tI : PySem.W.typeIn K (.ref fE) = some (.type "function")) (gN : mg "BadNumber" = some (.ref CN)) (bE : Binds K fdE ["self", "value"] [])
    (GE : FnOk P w K mg base CX0 1 fE fdE ["self", "value"] (spIni CN "value")) :
    FnOk P w K mg base (L2.CX P w) 3 f fd ["self", "at"] (spGet K C CN) := by
  have bI : Binds K fdI ["value"] [] := FI.bindsN fun _ _ _ _ _ _ us hl => match us, hl with | [_], _ => rfl
  have kI := FI.kp
  refine F.ok (CX := L2.CX P w) scGt (fun vs H Q E h => ?_) (fun cdv A outer s H vs Q E hr h => ?_)
  · obtain ⟨o, y, a, rfl, _⟩ := h
    rfl
  · have hr1 : Room 1 _ := hr.mono (by omega)
    have hr2 : Room 2 _ := hr
    refine ⟨_, (pss_cons (ps_if (pt_not (pt_val (pe_call GI hr1 (by rfl) gI kI bI .nil pass0 (pa_cons (pv 1) pa_nil)))) (pss_one (ps_raise rfl (takes_of rfl rfl rfl rfl) (pmk_oex T iC tI GE hr2 bE .nil pass0 (by rfl) gN (pa_cons (pv 1) pa_nil)))) pss_nil)
      (pss_one (ps_ret (pe_ix ix_tup (pe_fld (pv 0) rfl) (pe_op op_mod (pv 1) (pe_callB call_len (by rfl) mL boot_len (pa_cons (pe_fld (pv 0) rfl) pa_nil))) fun _ _ => rfl)))), ?_⟩
    obtain ⟨o, y, a, rfl, ⟨dx, q0, h1, h2⟩, ⟨la, l1, l2⟩, h⟩ := h
    refine s_seq ?_
    rcases h with ⟨i, l, rfl, hl, q⟩ | ⟨⟨t, b1, b2, ht, k1, k2, k3⟩, q⟩
    · refine ⟨_, rfl, _, "int", true, false, rfl, .base (.int i), by decide +kernel, by decide +kernel, true, rfl, ?_⟩
      refine ifF Bool.false_ne_true ?_
      refine ⟨_, rfl, o, C, dx, _, .ref q0, rfl, h1, c, n, rfl, ?_⟩
      refine ⟨_, rfl, _, rfl, o, C, dx, _, .ref q0, rfl, h1, c, n, rfl, .ref q0, a.length, rfl, .inr ⟨vtx a, h2, (vtx_len a).symm⟩, ?_⟩
      obtain ⟨m1, m2⟩ := mod_nat (i := i) l1
      refine ⟨i, (a.length : Int), rfl, rfl, by omega, ?_⟩
      exact ⟨q0, vtx a, _, _, rfl, rfl, h2, by rw [m1]; exact at_of (j := (i % (a.length : Int)).toNat) rfl (vtx_at hl), q⟩
    · refine ⟨_, rfl, y, t, b1, b2, rfl, ht, k1, k2, b1 && !b2, rfl, ?_⟩
      rw [k3]
      refine ifT rfl ?_
      exact raised_of (W := fun cls d _ H' => E cls d H') rfl rfl q
theorem scSl : FnScope ["self", "other", "place"] ["self", "other"] (defScope sShl) := ⟨rfl, rfl, rfl, by decide +kernel, rfl, by decide +kernel, by decide +kernel⟩
theorem ok_shl {f fI fE fR : Addr} {fd fdI fdE fdR : FuncData} (F : FnM K "__lshift__" "Round.__lshift__" sShl f fd) (c : Cls K C) (n : NoAttr K C "_lanes") (mL : mg "len" = none)
    (FI : FnP K "is_integer" sIsInt fI fdI) (gI : mg "is_integer" = some (.ref fI)) (GI : FnOk P w K mg base CX0 1 fI fdI ["value"] (spIsInt K))
    (T : OexC K CN) (iC : PySem.W.findIn K (.ref CN) "__init__" = some (some (.ref fE))) (tI : PySem.W.typeIn K (.ref fE) = some (.type "function")) (gN : mg "BadNumber" = some (.ref CN)) (bE : Binds K fdE ["self", "value"] [])
    (GE : FnOk P w K mg base CX0 1 fE fdE ["self", "value"] (spIni CN "value"))
    (gR : mg "Round" = some (.ref C)) (M : Mk K C fR) (bR : Binds K fdR ["self", "lanes"] []) (GR : FnOk P w K mg base CX0 4 fR fdR ["self", "lanes"] (spIniR K C)) :
    FnOk P w K mg base (L2.CX P w) 6 f fd ["self", "other"] (spShl K C CN) := by
  have bI : Binds K fdI ["value"] [] := FI.bindsN fun _ _ _ _ _ _ us hl => match us, hl with | [_], _ => rfl
  have kI := FI.kp
  refine F.ok (CX := L2.CX P w) scSl (fun vs H Q E h => ?_) (fun cdv A outer s H vs Q E hr h => ?_)
  · obtain ⟨o, y, a, rfl, _⟩ := h
    rfl
  · have hr1 : Room 1 _ := hr.mono (by omega)
    have hr2 : Room 2 _ := hr.mono (by omega)
    have hr5 : Room 5 _ := hr
    refine ⟨_, (pss_cons (ps_if (pt_not (pt_val (pe_call GI hr1 (by rfl) gI kI bI .nil pass0 (pa_cons (pv 1) pa_nil)))) (pss_one (ps_raise rfl (takes_of rfl rfl rfl rfl) (pmk_oex T iC tI GE hr2 bE .nil pass0 (by rfl) gN (pa_cons (pv 1) pa_nil)))) pss_nil)
      (pss_cons (ps_set (i := 2) scSl.nd rfl (by first | exact Or.inl rfl | exact Or.inr rfl) (pe_op op_mod (pv 1) (pe_callB call_len (by rfl) mL boot_len (pa_cons (pe_fld (pv 0) rfl) pa_nil))))
      (pss_one (ps_ret (pe_mkR M GR hr5 (by rfl) gR bR (pe_op op_catA (pe_slice sl_tupA (pe_fld (pv 0) rfl) (po_some (pv 2)) po_none) (pe_slice sl_tupA (pe_fld (pv 0) rfl) po_none (po_some (pv 2))))))))), ?_⟩
    obtain ⟨o, y, a, rfl, ⟨dx, q0, h1, h2⟩, ⟨la, l1, l2⟩, h⟩ := h
    refine s_seq ?_
    rcases h with ⟨i, rfl, q⟩ | ⟨⟨t, b1, b2, ht, k1, k2, k3⟩, q⟩
    · refine ⟨_, rfl, _, "int", true, false, rfl, .base (.int i), by decide +kernel, by decide +kernel, true, rfl, ?_⟩
      refine ifF Bool.false_ne_true ?_
      dsimp only
      refine s_seq ?_
      refine ⟨_, rfl, _, rfl, o, C, dx, _, .ref q0, rfl, h1, c, n, rfl, .ref q0, a.length, rfl, .inr ⟨vtx a, h2, (vtx_len a).symm⟩, ?_⟩
      obtain ⟨m1, m2⟩ := mod_nat (i := i) l1
      refine ⟨i, (a.length : Int), rfl, rfl, by omega, ?_⟩
      generalize hk : (i % (a.length : Int)).toNat = k at m1 m2 q
      show gName 2 (V.int (i % (a.length : Int))) _ _ _
      rw [m1]
      have fl : ∀ {t2 : Option V}, Ev (tFld K (tVar 0) "_lanes") [some (.ref o), t2, some (.int (k : Int))] H (.ref q0) := fun H1 e Q q1 =>
        ⟨_, rfl, o, C, dx, _, .ref q0, rfl, e _ _ h1, c, n, rfl, q1 H1 (Ex.refl H1)⟩
      refine et_rot (a := a) (k := k) (et_ref fl h2) (et_ref fl h2) (ev_var rfl) (ev_var rfl) l2 H (Ex.refl H) _ fun p H2 e2 hp => ?_
      refine ⟨p, rot a k, rfl, .inr hp, ⟨rot_nam la, by rw [rot_len]; exact l1, by rw [rot_len]; exact l2⟩, fun o2 H' e ho r => q o2 H' (e2.trans e) ?_ r⟩
      cases z : H o2 with
      | none => rfl
      | some u =>
        rw [e2 _ _ z] at ho
        cases ho
    · refine ⟨_, rfl, y, t, b1, b2, rfl, ht, k1, k2, b1 && !b2, rfl, ?_⟩
      rw [k3]
      refine ifT rfl ?_
      exact raised_of (W := fun cls d _ H' => E cls d H') rfl rfl q
end
end K08

set_option Elab.async false
set_option linter.all false
/-! The least piece of which a sequence is a multiple; it is the same for all multiples of the sequence. -/
namespace Vq
variable {α : Type}
/-- k times the sequence -/
def rp (k : Nat) (a : List α) : List α := (List.replicate k a).flatten
theorem rp_len (a : List α) : ∀ k, (rp k a).length = k * a.length
  | 0 => by rw [Nat.zero_mul]; rfl
  | k + 1 => by
    unfold rp
    rw [List.replicate_succ, List.flatten_cons, List.length_append, Nat.succ_mul]
    have := rp_len a k
    unfold rp at this
    omega
theorem rp_at (a : List α) : ∀ k i, i < k * a.length → (rp k a)[i]? = a[i % a.length]?
  | 0, i, h => by omega
  | k + 1, i, h => by
    have ih := rp_at a k
    unfold rp at ih ⊢
    rw [List.replicate_succ, List.flatten_cons]
    by_cases hi : i < a.length
    · rw [List.getElem?_append_left hi, Nat.mod_eq_of_lt hi]
    · rw [List.getElem?_append_right (by omega), ih (i - a.length) (by rw [Nat.succ_mul] at h; omega), ← Nat.mod_eq_sub_mod (by omega)]
/-- the sequence gone without end -/
def goes (a : List α) (i : Nat) : Option α := a[i % a.length]?
def Per (f : Nat → Option α) (s : Nat) : Prop := ∀ i, f (i + s) = f i
theorem Per.mul {f : Nat → Option α} {s : Nat} (h : Per f s) : ∀ k i, f (i + s * k) = f i
  | 0, i => by rw [Nat.mul_zero, Nat.add_zero]
  | k + 1, i => by
    rw [Nat.mul_succ, ← Nat.add_assoc, h, h.mul k]
theorem Per.mod {f : Nat → Option α} {s : Nat} (h : Per f s) (i : Nat) : f (i % s) = f i := by
  have := h.mul (i / s) (i % s)
  rw [← this]
  congr 1
  exact Nat.mod_add_div i s
theorem Per.rest {f : Nat → Option α} {a b : Nat} (ha : Per f a) (hb : Per f b) : Per f (b % a) := fun i => by
  rw [← ha.mul (b / a) (i + b % a), Nat.add_assoc, Nat.mod_add_div, hb]
theorem Per.gcd {f : Nat → Option α} (a b : Nat) : Per f a → Per f b → Per f (Nat.gcd a b) := by
  refine Nat.gcd.induction (P := fun a b => Per f a → Per f b → Per f (Nat.gcd a b)) a b (fun n _ hn => ?_) (fun m n hm ih h1 h2 => ?_)
  · rw [Nat.gcd_zero_left]
    exact hn
  · rw [Nat.gcd_rec]
    exact ih (h1.rest h2) h1
theorem per_len (a : List α) : Per (goes a) a.length := fun i => by
  unfold goes
  rw [Nat.add_mod_right]
/-- s lanes, gone again and again, are the sequence -/
def Siz (a : List α) (s : Nat) : Prop := 1 ≤ s ∧ rp (a.length / s) (a.take s) = a
theorem siz_iff {a : List α} {s : Nat} (ha : 1 ≤ a.length) (hs : 1 ≤ s) : Siz a s ↔ s ∣ a.length ∧ Per (goes a) s := by
  constructor
  · rintro ⟨_, h⟩
    have hl := congrArg List.length h
    rw [rp_len, List.length_take] at hl
    have hle : s ≤ a.length := by
      rcases Nat.lt_or_ge a.length s with q | q
      · rw [Nat.div_eq_of_lt q, Nat.zero_mul] at hl
        omega
      · exact q
    rw [Nat.min_eq_left hle] at hl
    have hd : s ∣ a.length := ⟨a.length / s, by rw [Nat.mul_comm]; exact hl.symm⟩
    have at_ : ∀ i, i < a.length → a[i]? = a[i % s]? := fun i hi => by
      have q := rp_at (a.take s) (a.length / s) i (by rw [List.length_take, Nat.min_eq_left hle, hl]; exact hi)
      rw [h, List.length_take, Nat.min_eq_left hle, List.getElem?_take, if_pos (Nat.mod_lt _ hs)] at q
      exact q
    refine ⟨hd, fun i => ?_⟩
    unfold goes
    rw [at_ _ (Nat.mod_lt _ ha), at_ _ (Nat.mod_lt i ha), Nat.mod_mod_of_dvd _ hd, Nat.mod_mod_of_dvd _ hd, Nat.add_mod_right]
  · rintro ⟨hd, hp⟩
    have hle : s ≤ a.length := Nat.le_of_dvd ha hd
    have hl : (a.take s).length = s := by rw [List.length_take, Nat.min_eq_left hle]
    have hm : a.length / s * s = a.length := Nat.div_mul_cancel hd
    refine ⟨hs, List.ext_getElem? fun i => ?_⟩
    by_cases hi : i < a.length
    · rw [rp_at _ _ _ (by rw [hl, hm]; exact hi), hl, List.getElem?_take, if_pos (Nat.mod_lt _ hs)]
      have q := hp.mod i
      unfold goes at q
      rw [Nat.mod_eq_of_lt hi, Nat.mod_eq_of_lt (Nat.lt_of_lt_of_le (Nat.mod_lt _ hs) hle)] at q
      exact q
    · rw [List.getElem?_eq_none (by rw [rp_len, hl, hm]; omega), List.getElem?_eq_none (by omega)]
/-- the least such number -/
def Rt (a : List α) (s : Nat) : Prop := Siz a s ∧ ∀ t, 1 ≤ t → t < s → ¬ Siz a t
theorem Rt.one {a : List α} {s t : Nat} (h : Rt a s) (g : Rt a t) : s = t := by
  rcases Nat.lt_trichotomy s t with q | q | q
  · exact absurd h.1 (g.2 s h.1.1 q)
  · exact q
  · exact absurd g.1 (h.2 t g.1.1 q)
theorem siz_self {a : List α} (ha : 1 ≤ a.length) : Siz a a.length := (siz_iff ha ha).mpr ⟨Nat.dvd_refl _, per_len a⟩
theorem Rt.le {a : List α} {s : Nat} (ha : 1 ≤ a.length) (h : Rt a s) : s ≤ a.length := Nat.le_of_dvd ha ((siz_iff ha h.1.1).mp h.1).1
theorem goes_rp (a : List α) (k : Nat) (hk : 1 ≤ k) (ha : 1 ≤ a.length) (i : Nat) : goes (rp k a) i = goes a i := by
  unfold goes
  have h0 : 0 < k * a.length := Nat.mul_pos hk ha
  rw [rp_at _ _ _ (by rw [rp_len]; exact Nat.mod_lt _ h0), rp_len, Nat.mod_mod_of_dvd _ ⟨k, Nat.mul_comm _ _⟩]
theorem Rt.rp {a : List α} {s k : Nat} (ha : 1 ≤ a.length) (hk : 1 ≤ k) (h : Rt a s) : Rt (rp k a) s := by
  have h0 : 1 ≤ (Vq.rp k a).length := by rw [rp_len]; exact Nat.mul_pos hk ha
  have e : goes (Vq.rp k a) = goes a := funext (goes_rp a k hk ha)
  obtain ⟨hd, hp⟩ := (siz_iff ha h.1.1).mp h.1
  refine ⟨(siz_iff h0 h.1.1).mpr ⟨by rw [rp_len]; exact Nat.dvd_trans hd ⟨k, Nat.mul_comm _ _⟩, by rw [e]; exact hp⟩, fun t ht hts hz => ?_⟩
  obtain ⟨_, hpt⟩ := (siz_iff h0 ht).mp hz
  rw [e] at hpt
  have hg := Per.gcd t a.length hpt (per_len a)
  have g1 : 1 ≤ Nat.gcd t a.length := Nat.gcd_pos_of_pos_left _ ht
  have g2 : Nat.gcd t a.length ≤ t := Nat.gcd_le_left _ ht
  exact h.2 _ g1 (by omega) ((siz_iff ha g1).mpr ⟨Nat.gcd_dvd_right _ _, hg⟩)
theorem rp_take {a : List α} {s k : Nat} (hk : 1 ≤ k) (hs : s ≤ a.length) : (Vq.rp k a).take s = a.take s := by
  obtain ⟨j, rfl⟩ := Nat.exists_eq_add_of_le hk
  rw [Nat.add_comm]
  unfold Vq.rp
  rw [List.replicate_succ, List.flatten_cons, List.take_append_of_le_length hs]
theorem rp_div {a : List α} {s k : Nat} (hd : s ∣ a.length) : (Vq.rp k a).length / s = a.length / s * k := by
  rw [rp_len, Nat.mul_div_assoc _ hd, Nat.mul_comm]
end Vq

set_option Elab.async false
set_option linter.all false
set_option maxRecDepth 100000
set_option maxHeartbeats 4000000
/-! a tuple k times, k from 1 on (once: the same object). -/
namespace Vre
open PySem PySem.Spec PyProof.Rows L2 Vl Evl Vp Vr Vt
theorem mulOnce (p : Addr) (us : Array Value) (m : Nat) (e : Option Addr) (t1 : Array (Option Value)) (u : Tok) :
    Meets (Builtin.«tuple.__mul__» ⟨[.ref p, .int 1 u], []⟩) (fun _ R s => s.heap.get? p = some { cls := .type "tuple", dict := e, data := .seq us m, slots := t1 } ∧ R (.ok (.ret (.ref p))) s) :=
  .of_wp fun prog w A R s h => by
    obtain ⟨hh, g, d, tk, os⟩ := s
    obtain ⟨hp, h⟩ := h
    have f1 := AutoSeq1.idx_int
    have c1 : (us.isEmpty || (1 : Int) == 1) = true := by rw [Bool.or_eq_true]; exact .inr rfl
    wp_walk using wpAny_loadPart' hp
    all_goals first
      | exact ⟨_, rfl, h⟩
      | (simp at *; done)
def rRepA (K : PySem.W.Frag) : R2 := fun x y H Q => ∃ (l : Addr) (k : Nat) (xs : List V), x = .ref l ∧ y = .int (k : Nat) ∧ SqT K H l xs ∧ xs ≠ [] ∧ 1 ≤ k ∧ k ≤ 1000 ∧ xs.length ≤ 1000 ∧
  ((k = 1 → Q (.ref l) H) ∧ (2 ≤ k → ∀ p, H p = none → Q (.ref p) (upd H p (.tup (Vq.rp k xs)))))
section
variable {X : Cx}
theorem op_once {pins : List (Addr × Obj)} {σ : L2.St} {H : Hp} {s : Shared} {l : Addr} {xs : List V} {u : Value} {Q : VK} (I : Inv X pins σ H s) (hT : SqT X.K H l xs) (ry : RelV (.int 1) u) (q : Q (.ref l) H) :
    wpAny (model X.prog X.w) X.A (binaryOp .Mult (.ref l) u) (EP X pins σ Q) X.xe s := by
  obtain ⟨t, rfl⟩ := ry
  obtain ⟨its, r, ⟨⟨cls, dd, data, sl⟩, ho, hc, n, hd⟩, hs⟩ := I.tuple hT
  simp only at hc hd
  subst hc hd
  refine wpAny_binaryOp_repeat_ref (T := "tuple") (U := "int") (by decide) ⟨_, ho, rfl⟩ (fun s' => typeIs_int s' 1 t) noFill_tuple_mul F.fills_int_mul F.slot_int_rmul repeat_tuple F.slot_int_index.lookup
    (call_meets F.slot_int_rmul (typeIs_int s 1 t) F.entry_int_rmul (F.args_int_rmul_2 _ _) (int_rmul_tuple 1 t l its.toArray n dd sl)
      ⟨ho, rfl, ⟨_, ho, rfl⟩, call_meets F.slot_tuple_mul ⟨_, ho, rfl⟩ F.entry_tuple_mul (F.args_tuple_mul_2 _ _) (mulOnce l its.toArray n dd sl t) ⟨ho, ?_⟩⟩)
  exact ⟨.ref l, H, I, rfl, q⟩
theorem op_repA : OpR X (binaryOp .Mult) (rRepA X.K) := by
  intro pins s σ H x y v u Q I rx ry h
  obtain ⟨l, k, xs, rfl, rfl, hT, hne, h1, h2, hz, q1, q2⟩ := h
  by_cases hk : k = 1
  · subst hk
    cases rx
    exact op_once I hT ry (q1 rfl)
  · exact op_repT pins s σ H (.ref l) (.int (k : Nat)) v u Q I rx ry ⟨l, (k : Int), xs, rfl, rfl, hT, hne, by omega, by omega, hz, fun p hp => by
      have := q2 (by omega) p hp
      unfold Vq.rp at this
      rw [Int.toNat_natCast]
      exact this⟩
end
theorem rp_one {α : Type} (xs : List α) : Vq.rp 1 xs = xs := by
  unfold Vq.rp
  rw [List.replicate_succ, List.replicate_zero, List.flatten_cons, List.flatten_nil, List.append_nil]
theorem vtx_rp (k : Nat) (a : List (List Nat)) : Vq.rp k (vtx a) = vtx (Vq.rp k a) := vtx_rep a k
section
variable {K : PySem.W.Frag} {ta tb : TE} {σ : L2.St} {H : Hp} {xs : List V} {k : Nat}
theorem et_rep (h : Vt.EvT K ta σ H xs) (hk : Ev tb σ H (.int (k : Nat))) (hne : xs ≠ []) (h1 : 1 ≤ k) (h2 : k ≤ 1000) (hz : xs.length ≤ 1000) : Vt.EvT K (tOp (rRepA K) ta tb) σ H (Vq.rp k xs) := by
  intro H1 e Q q
  refine h H1 e _ fun p H2 e2 hp => hk H2 (e.trans e2) _ fun H3 e3 => ⟨p, k, xs, rfl, rfl, ex_t e3 hp, hne, h1, h2, hz, fun h => ?_, fun _ p2 n2 => q p2 _ ((e2.trans e3).trans (Ex.new n2)) sqt_new⟩
  refine q p H3 (e2.trans e3) ?_
  rw [h, rp_one]
  exact ex_t e3 hp
end
end Vre

set_option Elab.async false
set_option linter.all false
set_option maxRecDepth 100000
set_option maxHeartbeats 2000000
/-! x != y of two tuples whose items are equal by an own __eq__: False. -/
namespace Vne
open PySem PySem.Spec PyProof.Rows L2
open PySem.SeqAt
open AutoSeq1 (wpAny_loadPart')
section
variable {P : Program} {w : World} {B : Around} {R : Result → Shared → Prop}
theorem neBody (p q : Addr) (us vs : Array Value) (m m2 : Nat) (e1 e2 : Option Addr) (t1 t2 : Array (Option Value)) (same : us.size = vs.size) (J : Nat → Shared → Prop)
    (step : ∀ i (k1 : i < us.size) (k2 : i < vs.size) s, J i s → wpAny (model P w) B.in1 (eqBool us[i] vs[i]) (fun r s' => r = true ∧ J (i + 1) s') (fun e s' => R (.error e) s') s)
    (last : ∀ s, J us.size s → R (.ok (.ret (.bool false))) s) {s : Shared} (hp : s.heap.get? p = some { cls := .type "tuple", dict := e1, data := .seq us m, slots := t1 }) (hq : s.heap.get? q = some { cls := .type "tuple", dict := e2, data := .seq vs m2, slots := t2 }) (h : J 0 s) :
    wpAny (model P w) B.in1 (Builtin.«tuple.__ne__» ⟨[.ref p, .ref q], []⟩) (GQ.FinOf P w B R) (fun e s' => R (.error e) s') s := by
  have sub := AutoSeq1.sub_tuple_tuple
  have len : (us.toList.zip vs.toList).length = us.size := by simp [same]
  have start := h
  obtain ⟨hh, g, d, tk, os⟩ := s
  wp_walk using wpAny_loadPart' hp, wpAny_loadPart' hq, wpAny_forIn_list _ (fun rest b s' => b.1 = none ∧ ∃ i, rest = (us.toList.zip vs.toList).drop i ∧ i ≤ us.size ∧ J i s') _
  case turn =>
    rintro ⟨y, x⟩ rest b s' ⟨nb, i, er, _, hJ⟩
    have lt : i < (us.toList.zip vs.toList).length := by
      refine Nat.lt_of_not_le fun q => ?_
      rw [List.drop_of_length_le q] at er
      cases er
    have k1 : i < us.size := len ▸ lt
    have k2 : i < vs.size := same ▸ k1
    rw [List.drop_eq_getElem_cons lt] at er
    injection er with er1 er2
    obtain rfl : y = us[i] := by have z := congrArg Prod.fst er1; simpa using z
    obtain rfl : x = vs[i] := by have z := congrArg Prod.snd er1; simpa using z
    refine wpAny_bind (wpAny_mono (step i k1 k2 s' hJ) (fun r s2 z => ?_) fun _ _ z => z)
    obtain ⟨rfl, z⟩ := z
    wp_walk
    exact ⟨rfl, i + 1, er2, k1, z⟩
  case fin =>
    rintro ⟨b1, b2⟩ s' ⟨nb, i, er, hi, hJ⟩
    simp only at nb
    subst nb
    have ge : us.size ≤ i := by
      refine Nat.le_of_not_lt fun q => ?_
      rw [← len] at q
      rw [List.drop_eq_getElem_cons q] at er
      cases er
    obtain rfl : i = us.size := Nat.le_antisymm hi ge
    have z : R (.ok (.ret (.bool false))) s' := last s' hJ
    wp_walk
    simpa [Builtin.Tuple.tupleCompareSizes, same] using z
  case h =>
    exact ⟨rfl, 0, rfl, Nat.zero_le _, start⟩
theorem neTup {E : Value → Shared → Prop} {s : Shared} {p q : Addr} {us vs : Array Value} {Q : Value → Shared → Prop} (same : us.size = vs.size) (hu : B.units < cLine) (J : Nat → Shared → Prop)
    (hp : s.heap.IsTuple p us) (hq : s.heap.IsTuple q vs)
    (step : ∀ i (k1 : i < us.size) (k2 : i < vs.size) s, J i s → wpAny (model P w) B.in1 (eqBool us[i] vs[i]) (fun r s' => r = true ∧ J (i + 1) s') E s)
    (last : ∀ s, J us.size s → Q (.bool false) s) (h : J 0 s) : wpAny (model P w) B (richCompare .NotEq (.ref p) (.ref q)) Q E s := by
  obtain ⟨⟨c1, e1, d1, t1⟩, ho1, hc1, m1, hd1⟩ := id hp
  obtain ⟨⟨c2, e2, d2, t2⟩, ho2, hc2, m2, hd2⟩ := id hq
  simp only at hc1 hd1 hc2 hd2
  subst hc1 hd1 hc2 hd2
  refine wpAny_richCompare_same_room (op := .NotEq) ⟨_, ho1, rfl⟩ ⟨_, ho2, rfl⟩ F.slot_tuple_ne (GQ.call_here F.slot_tuple_ne ⟨_, ho1, rfl⟩ F.entry_tuple_ne (F.args_tuple_ne_2 _ _) ?_) hu
  exact neBody (R := wants (fun v s' => v ≠ .notImplemented ∧ Q v s') E) p q us vs m1 m2 e1 e2 t1 t2 same J step (fun s' z => ⟨(fun x => nomatch x), last s' z⟩) ho1 ho2 h
end
section
variable {X : Cx} {n : Nat} {D : Eqv}
/-- x != y, tuples with equal items -/
def rNeG (K : PySem.W.Frag) (D : Eqv) : R2 := fun x y H Q => DTup K D x y H ∧ ∀ H', Ext H H' → Q (.bl false) H'
theorem op_neG (hD : Mon D) (h : EqG X n D) (hr : Room (n + 1) X.A) : OpR X (compareOp .NotEq) (rNeG X.K D) := by
  intro pins s σ H x y u v Q I rx ry hq
  obtain ⟨⟨a, b, xs, ys, rfl, rfl, ha, hb, pr⟩, q⟩ := hq
  cases rx
  cases ry
  show wpAny (model X.prog X.w) X.A (richCompare .NotEq (.ref a) (.ref b)) (EP X pins σ Q) X.xe s
  obtain ⟨us, r, e, z⟩ := I.tuple ha
  obtain ⟨vs, r2, e2, z2⟩ := I.tuple hb
  have same : us.toArray.size = vs.toArray.size := by
    rw [List.size_toArray, List.size_toArray, ← r.length, ← r2.length]
    exact pr.1
  have sb : Sub X (n + 1) X.A := ⟨hr, rfl⟩
  refine neTup same sb.room.units0 (fun _ s' => LoopI X pins σ H s') e e2 (fun i k1 k2 s' l => turnG hD h sb pr r r2 i k1 k2 s' l) (fun s' l => ?_) ⟨H, I, Ext.rfl'⟩
  obtain ⟨H1, I1, e1⟩ := l
  exact ⟨.bl false, H1, I1, rfl, q H1 e1⟩
end
end Vne

set_option Elab.async false
set_option linter.all false
set_option maxRecDepth 100000
set_option maxHeartbeats 2000000
/-! set(xs) and sorted(set) where the members are texts: any kind of key whose value tells it. -/
namespace Vst
open PySem PySem.Spec PyProof.Rows L2
section
variable {κ : Type} [DecidableEq κ] {P : Program} {w : World}
/-- the key that a row of the table holds -/
def kof (f : Value → κ) (e : Int × Value) : κ := f e.2
/-- a set's object, walkable: S its members, n their number -/
structure Tab (knd : PySem.KeyKind P w κ) (f : Value → κ) (a : Addr) (S : κ → Bool) (o : Obj) (es : Array (Int × Value)) (ep : Nat) (t : SetTable) : Prop where
  ex : o.ExactSet
  dat : o.data = .set es ep t
  el : ElemsOf knd es.toList
  nd : (es.toList.map (kof f)).Nodup
  mem : ∀ k, S k = true ↔ k ∈ es.toList.map (kof f)
  few : es.size < scanBound
  fits : t.fits es.size = true
  ris : Ris t.place.toList
  led : w.params.followText "set-order" = true ∨ t.led = true
def SetG (knd : PySem.KeyKind P w κ) (f : Value → κ) (h : Heap) (a : Addr) (S : κ → Bool) (n : Nat) : Prop :=
  ∃ o es ep t, h.get? a = some o ∧ Tab knd f a S o es ep t ∧ es.size = n
variable {knd : PySem.KeyKind P w κ} {f : Value → κ} {h h' : Heap} {a : Addr} {S : κ → Bool} {n : Nat}
theorem SetG.keep (R : SetG knd f h a S n) (k : ∀ o, h.get? a = some o → h'.get? a = some o) : SetG knd f h' a S n := by
  obtain ⟨o, es, ep, t, ho, r⟩ := R
  exact ⟨o, es, ep, t, k o ho, r⟩
theorem SetG.congr {S' : κ → Bool} {n' : Nat} (R : SetG knd f h a S n) (e : ∀ k, S k = S' k) (en : n = n') : SetG knd f h a S' n' := by
  have q : S = S' := funext e
  rw [← q, ← en]; exact R
theorem mem_kof (hf : ∀ k v, knd.is k v = true → f v = k) {l : List (Int × Value)} (g : ElemsOf knd l) (k : κ) : k ∈ l.map (kof f) ↔ ∃ e ∈ l, knd.is k e.2 = true := by
  rw [List.mem_map]
  constructor
  · rintro ⟨e, he, q⟩
    obtain ⟨⟨k0, h1, _⟩, _⟩ := g e he
    refine ⟨e, he, ?_⟩
    have e0 : k0 = k := (hf k0 _ h1).symm.trans q
    rw [← e0]
    exact h1
  · rintro ⟨e, he, q⟩
    exact ⟨e, he, hf k _ q⟩
end
section
variable {κ : Type} [DecidableEq κ] {P : Program} {w : World} {A : Around} {E : Value → Shared → Prop} {s : Shared} {a : Addr} {S : κ → Bool} {n : Nat} {knd : PySem.KeyKind P w κ} {f : Value → κ}
theorem put_at {h : Heap} {o : Obj} {es es1 : Array (Int × Value)} {ep : Nat} {t t1 : SetTable} (ho : h.get? a = some o) (hd : o.data = .set es ep t) :
    (h.update a (Obj.putSet es1 t1)).get? a = some { o with data := .set es1 (ep + 1) t1 } := by
  have q := Heap.get?_update_self (Obj.putSet es1 t1) ho (by rw [putSet_of es1 t1 hd]; rfl)
  rwa [putSet_of es1 t1 hd] at q
/-- the new table laid, and laid wider where it is too full -/
theorem laid_tail {g : Bool → Sem Unit} (hg : ∀ (b : Bool) (s₁ : Shared) (Q' : Unit → Shared → Prop), Q' () s₁ → wpAny (model P w) A (g b) Q' E s₁)
    {o : Obj} {es : Array (Int × Value)} {ep : Nat} {t : SetTable} (ho : s.heap.get? a = some o) (hd : o.data = .set es ep t)
    {es1 : Array (Int × Value)} {t2 : SetTable} {S' : κ → Bool} (T : ∀ o1 ep1, o1.ExactSet → o1.data = .set es1 ep1 t2 → Tab knd f a S' o1 es1 ep1 t2) (hex : o.ExactSet) {wasDummy : Bool} {R : Option Bool → Shared → Prop}
    (hR : ∀ h', Heap.SameBut a s.heap h' → SetG knd f h' a S' es1.size → R (some true) { s with heap := h' }) :
    wpAny (model P w) A (do
        storeSet a es1 t2
        if (!wasDummy && t2.tooFull) = true then do
            g (relayAll t2 es1 (SetTable.grown es1.size)).2.2
            storeSet a (relayAll t2 es1 (SetTable.grown es1.size)).1 (relayAll t2 es1 (SetTable.grown es1.size)).2.1
            pure (some true)
          else pure (some true)) R E s := by
  have T1 := T { o with data := .set es1 (ep + 1) t2 } (ep + 1) hex rfl
  refine wpAny_bind (wpAny_storeSet_of ho hd ?_ (fits_of_scanBound T1.few))
  have ho1 := put_at (es1 := es1) (t1 := t2) ho hd
  have sb1 := Heap.SameBut.update s.heap a (Obj.putSet es1 t2)
  split
  · have pm := relayAll_perm t2 es1 (SetTable.grown es1.size)
    have hf3 := relayAll_fits t2 es1 (SetTable.grown es1.size)
    have hr3 := relayAll_ris t2 es1 (SetTable.grown es1.size)
    have hl3 := relayAll_led t2 es1 (SetTable.grown es1.size)
    generalize relayAll t2 es1 (SetTable.grown es1.size) = Z at pm hf3 hr3 hl3 ⊢
    obtain ⟨es2, t3, gave⟩ := Z
    dsimp only at pm hf3 hr3 hl3 ⊢
    have hsz : es2.size = es1.size := by rw [← Array.length_toList, pm.length_eq, Array.length_toList]
    have hb2 : es2.size < scanBound := by rw [hsz]; exact T1.few
    refine wpAny_bind (hg _ _ _ ?_)
    refine wpAny_bind (wpAny_storeSet_of ho1 rfl ?_ (fits_of_scanBound hb2))
    refine wpAny_pure (hR _ (sb1.trans (Heap.SameBut.update _ a _)) ⟨_, es2, ep + 1 + 1, t3, put_at (es1 := es2) (t1 := t3) ho1 rfl, ?_, hsz⟩)
    exact { ex := hex, dat := rfl, el := fun e he => T1.el e (pm.mem_iff.mp he), nd := (pm.map (kof f)).nodup_iff.mpr T1.nd, mem := fun k => (T1.mem k).trans (pm.map (kof f)).mem_iff.symm,
            few := hb2, fits := hf3, ris := hr3, led := T1.led.imp id fun z => by rw [hl3]; exact z }
  · exact wpAny_pure (hR _ sb1 ⟨_, es1, _, t2, ho1, T1, rfl⟩)

theorem add_hashed (hf : ∀ k v, knd.is k v = true → f v = k) {k : κ} {v : Value} (hkey : knd.is k v = true) (hsc : v.scannable = true) {Q : Bool → Shared → Prop} (R : SetG knd f s.heap a S n) (room : n + 1 < scanBound)
    (hQ : ∀ h', Heap.SameBut a s.heap h' → SetG knd f h' a (fun j => S j || decide (j = k)) (if S k = true then n else n + 1) → Q (!S k) { s with heap := h' }) :
    wpAny (model P w) A (setAddHashed a v (knd.hash k)) Q E s := by
  obtain ⟨o, es, ep, t, ho, T, hn⟩ := R
  have hd := T.dat
  have hel := T.el
  have hb := T.few
  have hft := T.fits
  unfold setAddHashed setAddHashedIn
  refine wpAny_holding (wpAny_bind (wpAny_setState_of ho hd hft ?_))
  dsimp only
  rw [byScan_of hsc hb hel]
  simp only [↓reduceIte]
  unfold setAddByScan
  refine wpAny_bind ?_
  refine wpAny_bind (wpAny_rule ?_)
  refine wpAny_bind (wpAny_setScan_of hkey ho hd hft hel ?_)
  cases hfi : List.findIdx? (fun e => knd.is k e.2) es.toList with
  | some j =>
    dsimp only
    obtain ⟨hj, pj, _⟩ := List.findIdx?_eq_some_iff_getElem.mp hfi
    have hSk : S k = true := (T.mem k).2 ((mem_kof hf hel k).2 ⟨es.toList[j], List.getElem_mem hj, pj⟩)
    refine wpAny_pure (wpAny_pure ?_)
    have q := hQ s.heap (Heap.SameBut.refl a s.heap) (SetG.congr ⟨o, es, ep, t, ho, T, hn⟩ (fun i => ?_) (by rw [if_pos hSk]))
    · rw [hSk] at q
      exact q
    · by_cases hi : i = k
      · rw [hi, hSk]; rfl
      · rw [decide_eq_false hi, Bool.or_false]
  | none =>
    dsimp only
    have hnk : k ∉ es.toList.map (kof f) := fun z => by
      obtain ⟨e, he, q⟩ := (mem_kof hf hel k).1 z
      have c := List.findIdx?_eq_none_iff.mp hfi e he
      rw [q] at c
      cases c
    have hSk : S k = false := by
      cases q : S k with
      | false => rfl
      | true => exact absurd ((T.mem k).1 q) hnk
    have hgw : ∀ (b : Bool) {s₁ : Shared} {Q' : Unit → Shared → Prop}, Q' () s₁ → wpAny (model P w) A (match b with | true => rule "set.scan.the-table-gave-way" | false => pure ()) Q' E s₁ :=
      fun b s₁ Q' q => by cases b <;> first | exact wpAny_pure q | exact wpAny_rule q
    have pm := layNew_perm t es (knd.hash k) v
    have hf1 := layNew_fits t es (knd.hash k) v
    have hr1 := layNew_ris t es (knd.hash k) v T.ris
    have hl1 := layNew_led t es (knd.hash k) v
    generalize layNew t es (knd.hash k) v = Z at pm hf1 hr1 hl1 ⊢
    obtain ⟨es1, t1, wasDummy, gave⟩ := Z
    dsimp only at pm hf1 hr1 hl1 ⊢
    rw [Array.toList_push] at pm
    have pc : es1.toList.Perm ((knd.hash k, v) :: es.toList) := pm.trans (List.perm_append_singleton _ _)
    have fk : kof f (knd.hash k, v) = k := hf k v hkey
    have pk : (es1.toList.map (kof f)).Perm (k :: es.toList.map (kof f)) := by
      have q := pc.map (kof f)
      rw [List.map_cons, fk] at q
      exact q
    have hsz : es1.size = n + 1 := by rw [← Array.length_toList, pc.length_eq, List.length_cons, Array.length_toList, hn]
    have Tn : ∀ t2 : SetTable, t2.fits es1.size = true → Ris t2.place.toList → t2.led = t.led → ∀ o1 ep1, o1.ExactSet → o1.data = .set es1 ep1 t2 → Tab knd f a (fun j => S j || decide (j = k)) o1 es1 ep1 t2 := fun t2 x1 x2 x3 o1 ep1 y1 y2 =>
      { ex := y1, dat := y2
        el := fun e he => by
          rcases List.mem_cons.mp (pc.mem_iff.mp he) with z | z
          · rw [z]; exact ⟨⟨k, hkey, rfl⟩, hsc⟩
          · exact hel e z
        nd := pk.nodup_iff.mpr (List.nodup_cons.mpr ⟨hnk, T.nd⟩)
        mem := fun i => by
          rw [Bool.or_eq_true, decide_eq_true_eq, T.mem i, pk.mem_iff, List.mem_cons]
          exact Or.comm
        few := by rw [hsz]; exact room
        fits := x1, ris := x2, led := T.led.imp id fun z => by rw [x3]; exact z }
    have fin : ∀ h', Heap.SameBut a s.heap h' → SetG knd f h' a (fun j => S j || decide (j = k)) es1.size → Q true { s with heap := h' } := fun h' sb r => by
      have q := hQ h' sb
      rw [hSk] at q
      rw [hsz] at r
      exact q r
    refine wpAny_bind (hgw _ ?_)
    split
    · refine wpAny_bind ?_
      rw [hashByValue_scannable 8 hsc]
      refine wpAny_pure ?_
      refine laid_tail ?_ ho hd (Tn _ ?_ ?_ ?_) T.ex ?_
      · intro b s₁ Q' q; cases b <;> first | exact wpAny_pure q | exact wpAny_rule q
      · first | (split <;> first | exact hf1 | exact SetTable.fits_plain_off hf1) | exact hf1
      · first | (split <;> exact hr1) | exact hr1
      · first | (split <;> exact hl1) | exact hl1
      · intro h' sb r; dsimp only; exact wpAny_pure (fin h' sb r)
    · refine wpAny_bind (wpAny_pure ?_)
      simp only [↓reduceIte]
      refine laid_tail ?_ ho hd (Tn _ hf1 hr1 hl1) T.ex ?_
      · intro b s₁ Q' q; cases b <;> first | exact wpAny_pure q | exact wpAny_rule q
      · intro h' sb r; dsimp only; exact wpAny_pure (fin h' sb r)
end
/-! ### texts -/
def strV : Value → Str
  | .str x _ => x
  | _ => Str.empty
theorem strV_is {P : Program} {w : World} (k : Str) (v : Value) (h : (PySem.strKind P w).is k v = true) : strV v = k := by
  obtain ⟨t, rfl⟩ := Value.isStrOf_shape h
  rfl
abbrev SetS (P : Program) (w : World) (h : Heap) (a : Addr) (S : Str → Bool) (n : Nat) : Prop := SetG (PySem.strKind P w) strV h a S n
section
variable {P : Program} {w : World} {A : Around} {E : Value → Shared → Prop} {s : Shared}
theorem led_fresh (w : World) : w.params.followText "set-order" = true ∨ (SetTable.fresh 0 0 (!w.params.followText "set-order")).led = true := by
  show _ ∨ (!w.params.followText "set-order") = true
  cases w.params.followText "set-order"
  · exact .inr rfl
  · exact .inl rfl
theorem setS_fresh {h : Heap} {a : Addr} (ho : h.get? a = some { cls := .type "set", dict := none, data := .set #[] 0 (.fresh 0 0 (!w.params.followText "set-order")) }) : SetS P w h a (fun _ => false) 0 :=
  ⟨_, #[], 0, SetTable.fresh 0 0 (!w.params.followText "set-order"), ho, { ex := ⟨rfl, rfl, rfl⟩, dat := rfl, el := fun e he => by simp at he, nd := by simp, mem := fun k => by simp, few := by decide, fits := by rfl, ris := List.Pairwise.nil, led := led_fresh w }, rfl⟩
/-- how many different ones -/
def diff : List Str → Nat
  | [] => 0
  | x :: r => if x ∈ r then diff r else diff r + 1
theorem take_more {α : Type} {l : List α} {i : Nat} {x : α} (h : l[i]? = some x) : l.take (i + 1) = l.take i ++ [x] := by
  rw [List.take_succ, h]
  rfl
def seen (xs : List Str) (i : Nat) (k : Str) : Bool := decide (k ∈ xs.take i)
/-- set.update's loop over texts -/
theorem upd_loop {I : Addr} {fp wr : List Addr} {G : Array GenState → Array GenState → Prop} {n : Nat} {Pv : Nat → Value → Prop} {St : Nat → Shared → Prop} {R : Result → Shared → Prop}
    (W : WalksS P w A.in1 I fp wr G n Pv St) (S : Addr) (hSf : S ∉ fp) (xs : List Str) (hn : xs.length = n) (hfew : n + 1 < scanBound) (hval : ∀ i v, Pv i v → ∃ x t, xs[i]? = some x ∧ v = .str x t) :
    ∀ (k i : Nat) (s : Shared), n - i = k → i ≤ n → St i s → (∃ m, m ≤ i ∧ SetS P w s.heap S (seen xs i) m) →
      (∀ s' m, m ≤ n → Moved (S :: wr) G s s' → SetS P w s'.heap S (seen xs n) m → R (.ok (.ret .none)) s') →
      codeAny (model P w) A (.builtin "set.update.loop" ⟨[.ref S, .ref I], []⟩) R s := by
  have hSw : S ∉ wr := fun h => hSf (W.sub _ h)
  have hsub : ∀ b ∈ wr, b ∈ S :: wr := fun b hb => List.mem_cons_of_mem _ hb
  intro k
  induction k with
  | zero =>
    intro i s hk hi hst ⟨m, hm, hS⟩ hR
    have hin : i = n := by omega
    subst hin
    refine codeAny_builtin F.entry_set_update_loop ?_
    rw [Around.under_plainId F.plain_set_update_loop _]
    show wpAny _ A.in1 (pyNext (.ref I) >>= _) _ _ s
    refine wpAny_bind (W.done s _ _ hst fun s' mv => ?_)
    show wpAny _ A.in1 (ret Value.none) _ _ s'
    exact wpAny_pure (hR s' m hm (mv.mono hsub) (hS.keep fun o e => mv.heap S o hSw e))
  | succ k ih =>
    intro i s hk hi hst ⟨m, hm, hS⟩ hR
    have hlt : i < n := by omega
    refine codeAny_builtin F.entry_set_update_loop ?_
    rw [Around.under_plainId F.plain_set_update_loop _]
    show wpAny _ A.in1 (pyNext (.ref I) >>= _) _ _ s
    refine wpAny_bind (W.item i s _ _ hlt hst fun v s' hP hst' mv => ?_)
    obtain ⟨x, tk, hx, rfl⟩ := hval i v hP
    have hS' : SetS P w s'.heap S (seen xs i) m := hS.keep fun o e => mv.heap S o hSw e
    show wpAny _ A.in1 (holding [Value.str x tk] (setAdd S (.str x tk)) >>= _) _ _ s'
    refine wpAny_bind (wpAny_holding ?_)
    unfold setAdd
    refine wpAny_holding ?_
    refine wpAny_bind ((PySem.strKind P w).pyHash (k := x) (strKind_is _ _ _ _) ?_)
    refine add_hashed (knd := PySem.strKind P w) (f := strV) (s := { s' with toks := s'.toks + 1 }) strV_is (strKind_is _ _ _ _) rfl hS' (by omega) fun h' hsb hS2 => ?_
    have hS3 : SetS P w h' S (seen xs (i + 1)) (if seen xs i x = true then m else m + 1) := hS2.congr (fun j => by
      unfold seen
      rw [take_more hx]
      by_cases h1 : j ∈ xs.take i
      · rw [decide_eq_true h1, decide_eq_true (List.mem_append_left _ h1)]; rfl
      · by_cases h2 : j = x
        · have hm2 : j ∈ xs.take i ++ [x] := by rw [h2]; exact List.mem_append_right _ List.mem_cons_self
          rw [decide_eq_true hm2, decide_eq_true h2, Bool.or_true]
        · rw [decide_eq_false h1, decide_eq_false h2, decide_eq_false]
          · rfl
          · intro z
            rcases List.mem_append.mp z with z | z
            · exact h1 z
            · exact h2 (List.mem_singleton.mp z)) rfl
    refine wpAny_pure ⟨plainId_quiet F.plain_set_update_loop _, ih (i + 1) _ (by omega) hlt (W.frame _ s' _ _ hst' (Nat.le_add_right _ _) fun b hb o e => ?_) ⟨_, by split <;> omega, hS3⟩ fun s'' m'' hm'' mv'' hS'' => ?_⟩
    · rw [hsb.2 b (fun h : b = S => hSf (by rw [← h]; exact hb))]; exact e
    · refine hR s'' m'' hm'' (Moved.trans W.gtrans ((mv.mono hsub).then_heap (Nat.le_add_right _ _) fun b o hb e => ?_) mv'') hS''
      rw [hsb.2 b (fun h : b = S => hb (by rw [h]; exact List.mem_cons_self))]; exact e
abbrev blank (w : World) : Obj := { cls := .type "set", dict := none, data := .set #[] 0 (.fresh 0 0 (!w.params.followText "set-order")) }
theorem hval_of : ∀ {us : Array Value} {xs : List Str}, StrsAre us.toList xs → ∀ {i : Nat} {v : Value}, us[i]? = some v → ∃ x t, xs[i]? = some x ∧ v = .str x t := by
  intro us xs h i v hv
  have hv2 : us.toList[i]? = some v := by rw [Array.getElem?_toList]; exact hv
  revert hv2
  generalize us.toList = l at h
  clear hv
  intro hv2
  induction h generalizing i with
  | nil => simp at hv2
  | cons x t hr ih =>
    cases i with
    | zero =>
      simp at hv2
      exact ⟨x, t, rfl, hv2.symm⟩
    | succ i =>
      simp only [List.getElem?_cons_succ] at hv2
      obtain ⟨y, u, h1, h2⟩ := ih hv2
      exact ⟨y, u, h1, h2⟩
end
end Vst

set_option Elab.async false
set_option linter.all false
set_option maxRecDepth 100000
set_option maxHeartbeats 2000000
namespace Vst
open PySem PySem.Spec PyProof.Rows L2
section
variable {P : Program} {w : World} {A : Around} {E : Value → Shared → Prop} {s : Shared}
set_option maxHeartbeats 3200000 in
/-- set(xs), a list of texts -/
theorem call_set_list {l : Addr} {items : Array Value} {xs : List Str} {Q : Value → Shared → Prop} (hh : A.handled = none) (hl : s.heap.IsList l items) (hi : StrsAre items.toList xs) (hfew : xs.length + 1 < scanBound)
    (h : ∀ (h' : Heap) (tk m : Nat), m ≤ xs.length → SetS P w h' s.heap.objs.size (fun k => decide (k ∈ xs)) m → (∀ b o, b < s.heap.objs.size → s.heap.get? b = some o → h'.get? b = some o) → Q (.ref s.heap.objs.size) { s with heap := h', toks := tk }) :
    wpAny (model P w) A (call (.type "set") [.ref l]) Q E s := by
  obtain ⟨c, tl, hmro⟩ := PySem.F.called_set.mro
  have hmade := PySem.F.called_set.made
  have hsub := PySem.F.called_set.sub
  refine wpAny_call (codeAny_of_tree ?_)
  show wpAny _ _ (callAny (.type "set") _) _ _ _
  refine wpAny_pure ⟨Code.quiet_builtin _ (by decide +kernel), codeAny_builtin PySem.F.entry_type_call ?_⟩
  rw [Around.under_plain (weight_type_call_type "set" [.ref l] []) rfl]
  have h1 := PySem.F.called_set.notType
  have h2 := PySem.F.called_set.canCreate
  have hct := PySem.F.typeCall_set_1 (.ref l)
  have hsz : xs.length = items.size := by rw [← StrsAre.len_eq hi, Array.length_toList]
  have hsee : seen xs items.size = fun k => decide (k ∈ xs) := by
    unfold seen
    rw [← hsz, List.take_length]
  repeat (any_goals (first | assumption | wp_step))

  refine codeAny_mono (code_set_led1 (.ref l) (E := E) (Q₁ := fun obj s₁ => obj = .ref s.heap.objs.size ∧ s₁ = { s with heap := s.heap.push (blank w) }) ⟨rfl, rfl⟩) fun r s₁ hr => ?_
  cases r with
  | error e => exact hr
  | ok fl =>
    cases fl with
    | ret obj =>
      obtain ⟨rfl, rfl⟩ := hr
      have hS : (s.heap.push (blank w)).get? s.heap.objs.size = some (blank w) := Heap.get?_push_size _ rfl
      have hT : Shared.TypeIs { s with heap := s.heap.push (blank w) } (.ref s.heap.objs.size) "set" := ⟨_, hS, rfl⟩
      have hli := PySem.F.called_set.init.lookup
      have hbi := PySem.F.called_set.init.bind (.ref s.heap.objs.size)
      repeat (any_goals (first | assumption | wp_step))

      refine codeAny_mono (codeAny_call_builtin (R := wants (fun r s₂ => r = .none ∧ ∃ h' tk m, s₂ = { s with heap := h', toks := tk } ∧ m ≤ xs.length ∧ SetS P w h' s.heap.objs.size (fun k => decide (k ∈ xs)) m ∧
          (∀ b o, b < s.heap.objs.size → s.heap.get? b = some o → h'.get? b = some o)) E) PySem.F.called_set.init.plain PySem.F.entry_set_init (check_set_init_1 hT ?_)) fun r₂ s₂ hr₂ => ?_
      · obtain ⟨ol, hol, hcl, nl, hdl⟩ := hl
        obtain ⟨ocls, odict, odata, oslots⟩ := ol
        simp only at hcl hdl
        subst hcl; subst hdl
        have hol' : (s.heap.push (blank w)).get? l = some { cls := .type "list", dict := odict, data := .seq items nl, slots := oslots } := Heap.get?_push_of_some _ hol
        have hsls := PySem.F.sub_list_set
        have hslf := PySem.F.sub_list_frozenset
        have hne : (Value.type "list" == Value.type "dict") = false := by decide
        have hl1 : (s.heap.push (blank w)).IsList l items := ⟨_, hol', rfl, nl, rfl⟩
        unfold Builtin.«set.__init__» noKeywords Builtin.Frozenset.updateFrom
        generalize hPI : pyIter = PI
        wp_walk
        subst hPI

        refine wpAny_pyIter_list hl1 ?_
        refine wpAny_bind (wpAny_runValue ?_)
        have hlS : l < s.heap.objs.size := Heap.lt_size hol
        have hh3 : A.in1.in1.in1.handled = none := by simp [hh]
        have hneI : l ≠ (s.heap.push (blank w)).objs.size := by
          rw [Heap.size_push]; exact Nat.ne_of_lt (Nat.lt_succ_of_lt hlS)
        have hSf : s.heap.objs.size ∉ [(s.heap.push (blank w)).objs.size, l] := by
          rw [Heap.size_push]; simp only [List.mem_cons, List.mem_singleton, List.not_mem_nil, or_false, not_or]
          exact ⟨Nat.ne_of_lt (Nat.lt_succ_self _), Nat.ne_of_gt hlS⟩
        refine upd_loop ((Walks.list hh3 _ l hneI items).toS) s.heap.objs.size
          hSf xs hsz (by rw [← hsz]; exact hfew) (fun i v hv => hval_of hi hv) (items.size - 0) 0 _ (by omega) (Nat.zero_le _)
          ⟨⟨_, Heap.get?_push_size _ rfl, rfl, rfl⟩, (hl1.push _)⟩ ?hS0 ?hR
        case hS0 =>
          have hget : ((s.heap.push (blank w)).push { cls := .type "list_iterator", data := .fields #[.ref l, .int 0 0] }).get? s.heap.objs.size = some (blank w) := Heap.get?_push_of_some _ hS
          exact ⟨0, Nat.le_refl _, (setS_fresh hget).congr (fun k => by unfold seen; rw [List.take_zero]; rfl) rfl⟩
        case hR =>
          intro s' m hm mv hS'
          obtain ⟨h', g', d', tk', os'⟩ := s'
          have eg : g' = s.gens := mv.gens
          have ed : d' = s.drawn := mv.drawn
          have eo : os' = s.os := mv.os
          subst eg; subst ed; subst eo
          show wpAny _ _ _ _ _ _
          refine wpAny_pure ?_
          show wpAny _ _ (ret Value.none) _ _ _
          rw [hsee] at hS'
          refine wpAny_pure ⟨rfl, h', tk', m, rfl, by rw [hsz]; exact hm, hS', fun b o hb e => ?_⟩
          have hb1 : b ≠ s.heap.objs.size := Nat.ne_of_lt hb
          have hb2 : b ≠ (s.heap.push (blank w)).objs.size := by
            rw [Heap.size_push]; exact Nat.ne_of_lt (Nat.lt_succ_of_lt hb)
          exact mv.heap b o (by simp only [List.mem_cons, List.mem_singleton, List.not_mem_nil, or_false, not_or]; exact ⟨hb1, hb2⟩) (Heap.get?_push_of_some _ (Heap.get?_push_of_some _ e))

      · cases r₂ with
        | error e => exact hr₂
        | ok fl₂ =>
          cases fl₂ with
          | ret r =>
            obtain ⟨rfl, h', tk, m, rfl, hm, hS', hk'⟩ := hr₂
            repeat (any_goals (first | assumption | wp_step))
            exact h _ _ _ hm hS' hk'
          | _ => exact hr₂.elim
    | _ => exact hr.elim
set_option maxHeartbeats 3200000 in
/-- set(xs), a tuple of texts -/
theorem call_set_tuple {l : Addr} {items : Array Value} {xs : List Str} {Q : Value → Shared → Prop} (hh : A.handled = none) (hl : s.heap.IsTuple l items) (hi : StrsAre items.toList xs) (hfew : xs.length + 1 < scanBound)
    (h : ∀ (h' : Heap) (tk m : Nat), m ≤ xs.length → SetS P w h' s.heap.objs.size (fun k => decide (k ∈ xs)) m → (∀ b o, b < s.heap.objs.size → s.heap.get? b = some o → h'.get? b = some o) → Q (.ref s.heap.objs.size) { s with heap := h', toks := tk }) :
    wpAny (model P w) A (call (.type "set") [.ref l]) Q E s := by
  obtain ⟨c, tl, hmro⟩ := PySem.F.called_set.mro
  have hmade := PySem.F.called_set.made
  have hsub := PySem.F.called_set.sub
  refine wpAny_call (codeAny_of_tree ?_)
  show wpAny _ _ (callAny (.type "set") _) _ _ _
  refine wpAny_pure ⟨Code.quiet_builtin _ (by decide +kernel), codeAny_builtin PySem.F.entry_type_call ?_⟩
  rw [Around.under_plain (weight_type_call_type "set" [.ref l] []) rfl]
  have h1 := PySem.F.called_set.notType
  have h2 := PySem.F.called_set.canCreate
  have hct := PySem.F.typeCall_set_1 (.ref l)
  have hsz : xs.length = items.size := by rw [← StrsAre.len_eq hi, Array.length_toList]
  have hsee : seen xs items.size = fun k => decide (k ∈ xs) := by
    unfold seen
    rw [← hsz, List.take_length]
  repeat (any_goals (first | assumption | wp_step))

  refine codeAny_mono (code_set_led1 (.ref l) (E := E) (Q₁ := fun obj s₁ => obj = .ref s.heap.objs.size ∧ s₁ = { s with heap := s.heap.push (blank w) }) ⟨rfl, rfl⟩) fun r s₁ hr => ?_
  cases r with
  | error e => exact hr
  | ok fl =>
    cases fl with
    | ret obj =>
      obtain ⟨rfl, rfl⟩ := hr
      have hS : (s.heap.push (blank w)).get? s.heap.objs.size = some (blank w) := Heap.get?_push_size _ rfl
      have hT : Shared.TypeIs { s with heap := s.heap.push (blank w) } (.ref s.heap.objs.size) "set" := ⟨_, hS, rfl⟩
      have hli := PySem.F.called_set.init.lookup
      have hbi := PySem.F.called_set.init.bind (.ref s.heap.objs.size)
      repeat (any_goals (first | assumption | wp_step))

      refine codeAny_mono (codeAny_call_builtin (R := wants (fun r s₂ => r = .none ∧ ∃ h' tk m, s₂ = { s with heap := h', toks := tk } ∧ m ≤ xs.length ∧ SetS P w h' s.heap.objs.size (fun k => decide (k ∈ xs)) m ∧
          (∀ b o, b < s.heap.objs.size → s.heap.get? b = some o → h'.get? b = some o)) E) PySem.F.called_set.init.plain PySem.F.entry_set_init (check_set_init_1 hT ?_)) fun r₂ s₂ hr₂ => ?_
      · obtain ⟨ol, hol, hcl, nl, hdl⟩ := hl
        obtain ⟨ocls, odict, odata, oslots⟩ := ol
        simp only at hcl hdl
        subst hcl; subst hdl
        have hol' : (s.heap.push (blank w)).get? l = some { cls := .type "tuple", dict := odict, data := .seq items nl, slots := oslots } := Heap.get?_push_of_some _ hol
        have hsls := PySem.F.sub_tuple_set
        have hslf := PySem.F.sub_tuple_frozenset
        have hne : (Value.type "tuple" == Value.type "dict") = false := by decide
        have hl1 : (s.heap.push (blank w)).IsTuple l items := ⟨_, hol', rfl, nl, rfl⟩
        unfold Builtin.«set.__init__» noKeywords Builtin.Frozenset.updateFrom
        generalize hPI : pyIter = PI
        wp_walk
        subst hPI

        refine wpAny_pyIter_tuple hl1 ?_
        refine wpAny_bind (wpAny_runValue ?_)
        have hlS : l < s.heap.objs.size := Heap.lt_size hol
        have hh3 : A.in1.in1.in1.handled = none := by simp [hh]
        have hneI : l ≠ (s.heap.push (blank w)).objs.size := by
          rw [Heap.size_push]; exact Nat.ne_of_lt (Nat.lt_succ_of_lt hlS)
        have hSf : s.heap.objs.size ∉ [(s.heap.push (blank w)).objs.size, l] := by
          rw [Heap.size_push]; simp only [List.mem_cons, List.mem_singleton, List.not_mem_nil, or_false, not_or]
          exact ⟨Nat.ne_of_lt (Nat.lt_succ_self _), Nat.ne_of_gt hlS⟩
        refine upd_loop ((Walks.tuple hh3 _ l hneI items).toS) s.heap.objs.size
          hSf xs hsz (by rw [← hsz]; exact hfew) (fun i v hv => hval_of hi hv) (items.size - 0) 0 _ (by omega) (Nat.zero_le _)
          ⟨⟨_, Heap.get?_push_size _ rfl, rfl, rfl⟩, (hl1.push _)⟩ ?hS0 ?hR
        case hS0 =>
          have hget : ((s.heap.push (blank w)).push { cls := .type "tuple_iterator", data := .fields #[.ref l, .int 0 0] }).get? s.heap.objs.size = some (blank w) := Heap.get?_push_of_some _ hS
          exact ⟨0, Nat.le_refl _, (setS_fresh hget).congr (fun k => by unfold seen; rw [List.take_zero]; rfl) rfl⟩
        case hR =>
          intro s' m hm mv hS'
          obtain ⟨h', g', d', tk', os'⟩ := s'
          have eg : g' = s.gens := mv.gens
          have ed : d' = s.drawn := mv.drawn
          have eo : os' = s.os := mv.os
          subst eg; subst ed; subst eo
          show wpAny _ _ _ _ _ _
          refine wpAny_pure ?_
          show wpAny _ _ (ret Value.none) _ _ _
          rw [hsee] at hS'
          refine wpAny_pure ⟨rfl, h', tk', m, rfl, by rw [hsz]; exact hm, hS', fun b o hb e => ?_⟩
          have hb1 : b ≠ s.heap.objs.size := Nat.ne_of_lt hb
          have hb2 : b ≠ (s.heap.push (blank w)).objs.size := by
            rw [Heap.size_push]; exact Nat.ne_of_lt (Nat.lt_succ_of_lt hb)
          exact mv.heap b o (by simp only [List.mem_cons, List.mem_singleton, List.not_mem_nil, or_false, not_or]; exact ⟨hb1, hb2⟩) (Heap.get?_push_of_some _ (Heap.get?_push_of_some _ e))

      · cases r₂ with
        | error e => exact hr₂
        | ok fl₂ =>
          cases fl₂ with
          | ret r =>
            obtain ⟨rfl, h', tk, m, rfl, hm, hS', hk'⟩ := hr₂
            repeat (any_goals (first | assumption | wp_step))
            exact h _ _ _ hm hS' hk'
          | _ => exact hr₂.elim
    | _ => exact hr.elim
end
end Vst

set_option Elab.async false
set_option linter.all false
set_option maxRecDepth 100000
set_option maxHeartbeats 2000000
/-! sorted(set(xs)) of texts: rules. -/
namespace Vst
open PySem PySem.Spec PyProof.Rows L2
section
variable {P : Program} {w : World} {A : Around} {E : Value → Shared → Prop} {s : Shared} {a : Addr} {S : Str → Bool} {n : Nat}
theorem sorted_setS {Q : Value → Shared → Prop} (R : SetS P w s.heap a S n) (hh : A.handled = none) (h64 : n < 64)
    (hQ : ∀ s' p (out : Array Value) (c : Nat) (ys : List Str), (∀ b o, s.heap.get? b = some o → s'.heap.get? b = some o) → s'.gens = s.gens → s'.os = s.os → s.heap.objs.size ≤ p →
      s'.heap.get? p = some (seqObj "list" out c) → StrsAre out.toList ys → ys.Nodup → (∀ k, k ∈ ys ↔ S k = true) → sortedS ys = true → Q (.ref p) s') :
    wpAny (model P w) A (call (.builtin "sorted") [.ref a]) Q E s := by
  obtain ⟨o, es, ep, t, ho, T, hn⟩ := R
  refine Calls.call_function_entry kind_sorted plain_sorted entry_sorted (args_sorted1 _) ?_
  unfold Builtin.«sorted»
  refine wpAny_bind (m := checkCount "sorted" 1 1 _) (wpAny_pure ?_)
  refine wpAny_bind (collect_set (A := A.in1) hh ⟨o, ho, T.ex.1, T.dat⟩ T.fits T.few T.ris T.led fun s1 vs k1 hz g1 o1 pm => ?_)
  have hvl : vs.length = n := by rw [pm.length_eq, List.length_map, Array.length_toList]; exact hn
  have hI : StrsAre vs (vs.map strOf) := strsAre_map vs fun v hv => by
    obtain ⟨e, he, q⟩ := List.mem_map.mp (pm.mem_iff.mp hv)
    obtain ⟨⟨k, h1, _⟩, _⟩ := T.el e he
    obtain ⟨tk, h2⟩ := Value.isStrOf_shape h1
    exact ⟨k, tk, by rw [← q]; exact h2⟩
  have es2 : (es.toList.map (·.2)).map strOf = es.toList.map (kof strV) := by
    rw [List.map_map]
    refine List.map_congr_left fun e he => ?_
    obtain ⟨⟨k, h1, _⟩, _⟩ := T.el e he
    obtain ⟨tk, h2⟩ := Value.isStrOf_shape h1
    show strOf e.2 = strV e.2
    rw [h2]
    rfl
  have pk : (vs.map strOf).Perm (es.toList.map (kof strV)) := by
    have q := pm.map strOf
    rw [es2] at q
    exact q
  refine wpAny_bind (wpAny_newList ?_ (by rw [hvl, sizeLine_eq]; omega))
  have hoL : (s1.heap.push (seqObj "list" vs.toArray 0)).get? s1.heap.objs.size = some (seqObj "list" vs.toArray 0) := Heap.get?_push_size _ rfl
  refine wpAny_bind (wpAny_holding (wpAny_call_entry slot_list_sort ⟨_, hoL, rfl⟩ entry_list_sort
    (list_sort_treeK strKind_oneLt hoL hI.keysOf (fun v₁ v₂ rest e => keyKind_strs (by rw [← e]; exact hI)) (by rw [hvl]; exact h64) fun st' hp hs => ⟨_, rfl, ?_⟩) (args_list_sort _)))
  obtain ⟨ys, a1, a2, a3⟩ := sorted_out_str hI hp hs
  obtain ⟨c, hc⟩ := sortedHeap_at (vs := vs) (out := (arrOf st').map (·.2)) hoL
  have pn : ys.Perm (es.toList.map (kof strV)) := a2.trans pk
  refine wpAny_pure ⟨_, rfl, hQ _ s1.heap.objs.size _ c ys (fun b u e => ?_) g1 o1 hz hc a1 (pn.nodup_iff.mpr T.nd) (fun k => by rw [pn.mem_iff, ← T.mem k]) a3⟩
  have q := k1 b u e
  have hlt := Heap.lt_size q
  show (sortedHeap (s1.heap.push (seqObj "list" vs.toArray 0)) s1.heap.objs.size vs _).get? b = some u
  rw [sortedHeap_old (Nat.ne_of_lt hlt) (by rw [size_push']; exact Nat.lt_succ_of_lt hlt)]
  exact Heap.get?_push_of_some _ q
end
/-! ### rules -/
/-- the set of texts at a -/
def SetSO (P : Program) (w : World) (a : Addr) (S : Str → Bool) (n : Nat) : HO := .ext fun h => SetS P w h a S n
theorem setSO_new {P : Program} {w : World} {H : Hp} {h : Heap} {a : Addr} {S : Str → Bool} {n : Nat} (R : SetS P w h a S n) : ObjOk P w H h a (SetSO P w a S n) := by
  have ⟨o, _, _, _, ho, _⟩ := R
  exact ⟨R, ⟨o, ho⟩, fun h1 h2 p k => SetG.keep p k⟩
section
variable {X : Cx}
def rSetS (K : PySem.W.Frag) (P : Program) (w : World) : List V → Hp → VK → Prop := fun vs H Q => ∃ (l : Addr) (xs : List Str), vs = [V.ref l] ∧ (SqL K H l (xs.map V.str) ∨ SqT K H l (xs.map V.str)) ∧ xs.length ≤ 1000 ∧
  ∀ a m, H a = none → m ≤ xs.length → Q (.ref a) (upd H a (SetSO P w a (fun k => decide (k ∈ xs)) m))
theorem few_of {n : Nat} (h : n ≤ 1000) : n + 1 < scanBound := by unfold scanBound; omega
/-- set(xs): a list or a tuple of texts -/
theorem cr_setS (hc : X.calm = true) : CallR X (.type "set") (rSetS X.K X.prog X.w) := by
  intro pins s σ H vs us Q I r h
  obtain ⟨l, xs, rfl, hl, hf, q⟩ := h
  rw [Vals.ref1 r]
  have hn : H s.heap.objs.size = none := I.hok.fresh (Nat.le_refl _)
  rcases hl with hl | hl
  · obtain ⟨its, rv, pl, hz⟩ := I.list hl
    refine call_set_list (P := X.prog) (w := X.w) (I.ok.hd hc) pl.isList (by simpa using strsAre_of rv) (few_of hf) fun h' tk m hm R k => ?_
    exact ⟨.ref s.heap.objs.size, upd H s.heap.objs.size (SetSO X.prog X.w s.heap.objs.size _ m), I.laid (t' := tk) (fun b o e => k b o (Heap.lt_size e) e) (Nat.le_refl _) (setSO_new R), rfl, q _ m hn hm⟩
  · obtain ⟨its, rv, pl, hz⟩ := I.tuple hl
    refine call_set_tuple (P := X.prog) (w := X.w) (I.ok.hd hc) pl (by simpa using strsAre_of rv) (few_of hf) fun h' tk m hm R k => ?_
    exact ⟨.ref s.heap.objs.size, upd H s.heap.objs.size (SetSO X.prog X.w s.heap.objs.size _ m), I.laid (t' := tk) (fun b o e => k b o (Heap.lt_size e) e) (Nat.le_refl _) (setSO_new R), rfl, q _ m hn hm⟩
def rSortedSt (P : Program) (w : World) : List V → Hp → VK → Prop := fun vs H Q => ∃ (a : Addr) (S : Str → Bool) (n : Nat), vs = [V.ref a] ∧ H a = some (SetSO P w a S n) ∧ n < 64 ∧
  ∀ (ys : List Str) (p : Addr), ys.Nodup → (∀ k, k ∈ ys ↔ S k = true) → sortedS ys = true → ys.length < 64 → H p = none → Q (.ref p) (upd H p (.lst (ys.map V.str)))
/-- sorted(set of texts) -/
theorem cr_sortedSt (hc : X.calm = true) : CallR X (.builtin "sorted") (rSortedSt X.prog X.w) := by
  intro pins s σ H vs us Q I r h
  obtain ⟨a, S, n, rfl, ha, h64, q⟩ := h
  have R : SetS X.prog X.w s.heap a S n := (I.hok a _ ha).1
  rw [Vals.ref1 r]
  have hsize : ∀ ys : List Str, ys.Nodup → (∀ k, k ∈ ys ↔ S k = true) → ys.length = n := by
    intro ys nd hm
    obtain ⟨o, es, ep, t, ho, T, hn⟩ := R
    have p : ys.Perm (es.toList.map (kof strV)) := (List.perm_ext_iff_of_nodup nd T.nd).mpr fun k => (hm k).trans (T.mem k)
    rw [p.length_eq, List.length_map, Array.length_toList]
    exact hn
  refine sorted_setS R (I.ok.hd hc) h64 fun s' p out c ys k g o hp hg hout nd hm hs => ?_
  have hlen0 := hsize ys nd hm
  have hlen : (ys.map V.str).length ≤ sizeLine := by rw [List.length_map, sizeLine_eq]; omega
  have hn : H p = none := I.hok.fresh hp
  have J : Inv X pins σ (upd H p (.lst (ys.map V.str))) { s with heap := s'.heap, gens := s'.gens, drawn := s'.drawn, toks := s'.toks } :=
    I.call (ch := []) (Un.laid k hp hn) (I.hok.laid k hp ⟨hlen, out.toList, c, vals_of_strs hout, hg⟩) (by rw [g]; exact I.bare) (fun _ z => nomatch z)
  have e : s' = { s with heap := s'.heap, gens := s'.gens, drawn := s'.drawn, toks := s'.toks } := by
    cases s'
    cases s
    cases o
    rfl
  rw [e]
  exact ⟨.ref p, _, J, rfl, q ys p nd hm hs (by omega) hn⟩
end
end Vst

set_option Elab.async false
set_option linter.all false
set_option maxRecDepth 100000
set_option maxHeartbeats 2000000
/-! Tuples and lists of texts compared. -/
namespace Vda
open PySem PySem.Spec PyProof.Rows L2 Vl Evl Vp Vr
/-- texts of true signs -/
def Oks (a : List (List Nat)) : Prop := ∀ l ∈ a, ∀ c ∈ l, c < 1114112
theorem oks_nam {a : List (List Nat)} (h : ∀ l ∈ a, nam l) : Oks a := fun l hl c hc => by
  have hs : c ∈ Vp.signs := nam_signs (h l hl) c hc
  have all : ∀ c ∈ Vp.signs, c < 128 := by decide +kernel
  have := all c hs
  omega
theorem oks_cons {l : List Nat} {a : List (List Nat)} (h : ∀ c ∈ l, c < 1114112) (ha : Oks a) : Oks (l :: a) := fun x hx => by
  rcases List.mem_cons.mp hx with rfl | hx
  · exact h
  · exact ha x hx
theorem ok_nam {l : List Nat} (h : nam l) : ∀ c ∈ l, c < 1114112 := oks_nam (a := [l]) (fun x hx => by rw [List.mem_singleton.mp hx]; exact h) l List.mem_cons_self
theorem oks_nil : Oks [] := fun _ h => nomatch h
theorem lay_ok : ∀ a : List (List Nat), Oks a → PyData.canLayAll0 (dtx a) = true
  | [], _ => rfl
  | x :: r, h => by
    have hr := lay_ok r fun l hl => h l (List.mem_cons_of_mem _ hl)
    have hx : PyData.canLay0 (PyData.str (tx x)) = true := by
      show PyData.strOk (tx x) = true
      unfold PyData.strOk
      rw [← Array.all_toList, tx_list, List.all_eq_true]
      exact fun c hc => decide_eq_true (h x List.mem_cons_self c hc)
    show (PyData.canLay0 (PyData.str (tx x)) && PyData.canLayAll0 (dtx r)) = true
    rw [hx, hr]
    rfl
theorem sh_w {a : List (List Nat)} (h : Oks a) : SeqAt.shaped (wd a) = true := shaped_of (lay_ok a h) (by have := dep_wd a; omega)
def wls (a : List (List Nat)) : PyData := .list (dtx a)
theorem sh_l {a : List (List Nat)} (h : Oks a) : SeqAt.shaped (wls a) = true := shaped_of (lay_ok a h) (by
  show PyData.depthAll (dtx a) + 1 ≤ 64
  rw [dep_dtx]
  omega)
theorem eq_w (a b : List (List Nat)) : PyData.eqv (wd a) (wd b) = decide (a = b) := by
  by_cases h : a = b
  · rw [decide_eq_true h, h]
    exact PySem.W.eqv_refl_alike _ (alike_wd b b)
  · rw [decide_eq_false h]
    cases e : PyData.eqv (wd a) (wd b) with
    | false => rfl
    | true =>
      have k := (PySem.W.toks_eqv (wd a) (wd b) (alike_wd a b)).1 e
      unfold wd at k
      rw [PySem.W.keyToks, PySem.W.keyToks] at k
      exact absurd (key_inj k) h
theorem eq_l (a b : List (List Nat)) : PyData.eqv (wls a) (wls b) = decide (a = b) := by
  rw [← eq_w]
  unfold wls wd
  rw [PyData.eqv, PyData.eqv]
theorem dp_l {K : PySem.W.Frag} {H : Hp} {p : Addr} {a : List (List Nat)} (h : SqL K H p (vtx a)) : Dp K H (.ref p) (wls a) := .lst h (dpa_vtx a)
section
variable {K : PySem.W.Frag} {H : Hp} {p q : Addr} {a b : List (List Nat)}
theorem rv_eqT (h : SqT K H p (vtx a)) (h2 : SqT K H q (vtx b)) (oa : Oks a) (ob : Oks b) : RV (rEqD K) (.ref p) (.ref q) H (.bl (decide (a = b))) := fun H1 e1 Q q1 => by
  refine ⟨wd a, wd b, dp_wd (ex_t e1 h), dp_wd (ex_t e1 h2), sh_w oa, sh_w ob, ?_⟩
  rw [eq_w]
  exact q1 H1 (Ex.refl _)
theorem rv_neT (h : SqT K H p (vtx a)) (h2 : SqT K H q (vtx b)) (oa : Oks a) (ob : Oks b) : RV (rNeD K) (.ref p) (.ref q) H (.bl (!decide (a = b))) := fun H1 e1 Q q1 => by
  refine ⟨wd a, wd b, dp_wd (ex_t e1 h), dp_wd (ex_t e1 h2), sh_w oa, sh_w ob, ?_⟩
  rw [eq_w]
  exact q1 H1 (Ex.refl _)
theorem rv_eqL (h : SqL K H p (vtx a)) (h2 : SqL K H q (vtx b)) (oa : Oks a) (ob : Oks b) : RV (rEqD K) (.ref p) (.ref q) H (.bl (decide (a = b))) := fun H1 e1 Q q1 => by
  refine ⟨wls a, wls b, dp_l (ex_l e1 h), dp_l (ex_l e1 h2), sh_l oa, sh_l ob, ?_⟩
  rw [eq_l]
  exact q1 H1 (Ex.refl _)
theorem rv_neL (h : SqL K H p (vtx a)) (h2 : SqL K H q (vtx b)) (oa : Oks a) (ob : Oks b) : RV (rNeD K) (.ref p) (.ref q) H (.bl (!decide (a = b))) := fun H1 e1 Q q1 => by
  refine ⟨wls a, wls b, dp_l (ex_l e1 h), dp_l (ex_l e1 h2), sh_l oa, sh_l ob, ?_⟩
  rw [eq_l]
  exact q1 H1 (Ex.refl _)
end
end Vda

set_option Elab.async false
set_option linter.all false
set_option maxRecDepth 100000
set_option maxHeartbeats 2000000
/-! [k for k in d if ..], a dict locked meanwhile; tuple([..]). -/
namespace Vlk
open PySem PySem.Spec PyProof.Rows L2 Evl
/-- H, the dict at d locked -/
abbrev Lk (H : Hp) (d : Addr) (od : Obj) (kvs : List (Key × V)) : Hp := upd H d (.frz od (.dK kvs))
section
variable {K : PySem.W.Frag} {σ : L2.St} {H : Hp}
theorem lk_get {d b : Addr} {od : Obj} {kvs : List (Key × V)} {o : HO} (h : H b = some o) (hn : b ≠ d) : Lk H d od kvs b = some o := by
  show upd H d _ b = _
  rw [upd_ne hn]
  exact h
theorem dget_frz {d : Addr} {od : Obj} {kvs : List (Key × V)} {k : Key} (h : H d = some (.frz od (.dK kvs))) : DGet H d (kV k) (valV kvs k) := .inl ⟨kvs, k, .inr ⟨od, h⟩, rfl, rfl⟩
/-- the keys of d for which the test says yes -/
theorem el_keys {td : TE} {tt : TT} {j : Nat} {d : Addr} {kvs : List (Key × V)} (c : Key × V → Bool) (hd : H d = some (.dK kvs)) (hz : kvs.length ≤ 40000) (hw : ∀ x, wipe ((wipe σ [j]).set j (some x)) [j] = wipe σ [j])
    (hj : ∀ x, ((wipe σ [j]).set j (some x))[j]? = some (some x))
    (htd : ∀ H1 od, Ex H H1 → Ev td σ (Lk H1 d od kvs) (.ref d))
    (ht : ∀ (H1 : Hp) (od : Obj) (i : Nat) (kv : Key × V), Ex H H1 → kvs[i]? = some kv → EvT tt ((wipe σ [j]).set j (some (kV kv.1))) (Lk H1 d od kvs) (c kv)) :
    EvL (tLockE (tLc (iKeys td) (gName j) tt (tVar j) [j])) σ H ((kvs.filter c).map fun kv => kV kv.1) := by
  intro H1 e1 Q q
  refine ⟨d, .dK kvs, e1 _ _ hd, trivial, fun od => ?_⟩
  have hlk : (Lk H1 d od kvs) d = some (.frz od (.dK kvs)) := upd_same
  refine htd H1 od e1 _ (Ex.refl _) _ fun H2 e2 => ?_
  refine ⟨d, od, rfl, .inl ⟨kvs, e2 _ _ hlk, fun D nD => ?_⟩⟩
  have ndd : D ≠ d := fun z => by rw [z, e2 _ _ hlk] at nD; cases nD
  have hn2 : (Lk H1 d od kvs) D = none := fresh_back e2 nD
  have hn1 : H1 D = none := by
    have := hn2
    rw [show (Lk H1 d od kvs) D = H1 D from upd_ne ndd] at this
    exact this
  refine lc_it walk_keys (fun i H3 => Ex (Lk H1 d od kvs) H3 ∧ H3 D = some (.lst (((kvs.take i).filter c).map fun kv => kV kv.1))) ⟨Ex.mut e2 hn2, by rw [List.take_zero]; exact upd_same⟩ (fun i H3 _ h => h.1 _ _ hlk) ?_ ?_
  · rintro i x H3 H4 hi ⟨e3, hD⟩ ⟨rfl, k, v, hk, rfl⟩
    have htk : kvs.take (i + 1) = kvs.take i ++ [(k, v)] := by rw [List.take_succ, hk]; rfl
    refine ⟨hw _, ?_⟩
    have hc := ht H1 od i (k, v) e1 hk
    refine hc H4 e3 _ fun H5 e5 => ?_
    cases hcv : c (k, v) with
    | true =>
      rw [if_pos rfl]
      refine ⟨kV k, hj _, _, e5 _ _ hD, ?_, Ex.mut (e3.trans e5) hn2, ?_⟩
      · refine sz_lt ?_
        rw [List.length_map]
        have := List.length_filter_le c (kvs.take i)
        rw [List.length_take] at this
        omega
      · rw [upd_same, htk, List.filter_append, List.map_append, List.filter_cons_of_pos hcv]
        rfl
    | false =>
      rw [if_neg (by decide)]
      refine ⟨e3.trans e5, ?_⟩
      rw [e5 _ _ hD, htk, List.filter_append, List.filter_cons_of_neg (by rw [hcv]; decide), List.filter_nil, List.append_nil]
  · rintro H3 ⟨e3, hD⟩
    rw [List.take_length] at hD
    have ne : D ≠ d := ndd
    refine ⟨e3 _ _ hlk, q D _ hn1 (fun b o hb => ?_) (by rw [upd_ne ne]; exact hD)⟩
    by_cases hbd : b = d
    · rw [hbd, upd_same]
      rw [hbd, e1 _ _ hd] at hb
      exact hb
    · rw [upd_ne hbd]
      exact e3 _ _ (lk_get hb hbd)
/-- tuple(a new list) -/
theorem eu_tupleL {te : TE} {xs : List V} (h : EvL te σ H xs) : EvU (tCB (fun vs H Q => ∃ p ys, vs = [.ref p] ∧ ((SqL K H p ys ∧ ∀ l, H l = none → Q (.ref l) (upd H l (.tup ys))) ∨ (SqT K H p ys ∧ Q (.ref p) H))) (tCons te tNil)) σ H xs := by
  intro H1 e1 Q q
  refine h H1 e1 _ fun p H2 hp e2 h2 => ?_
  exact ⟨p, xs, rfl, .inl ⟨sq_of h2, fun l hl => q l _ (fresh_back e2 hl) (e2.trans (Ex.new hl)) upd_same⟩⟩
theorem ev_fld {te : TE} {o C dx : Addr} {fs : List (Str × V)} {f : Str} {v : V} (h : Ev te σ H (.ref o)) (ho : H o = some (.ins C dx fs)) (c : Cls K C) (n : NoAttr K C f) (hl : fs.lookup f = some v) : Ev (tFld K te f) σ H v :=
  fun H1 e Q q => h H1 e _ fun H2 e2 => ⟨o, C, dx, fs, v, rfl, (e.trans e2) _ _ ho, c, n, hl, q H2 e2⟩
theorem dget_ex {H' : Hp} {a : Addr} {y : V} {r : Option V} (e : Ex H H') (h : DGet H a y r) : DGet H' a y r := by
  rcases h with ⟨kvs, k, h1, h2, h3⟩ | ⟨kvs, k, b, h1, h2, h3, h4⟩
  · exact .inl ⟨kvs, k, ex_rd e h1, h2, h3⟩
  · exact .inr ⟨kvs, k, b, ex_rd e h1, h2, e _ _ h3, h4⟩
theorem ev_dget {td ty : TE} {d : Addr} {y v : V} (h : Ev td σ H (.ref d)) (h2 : Ev ty σ H y) (hg : DGet H d y (some v)) : Ev (tDGet td ty) σ H v :=
  fun H1 e Q q => h H1 e _ fun H2 e2 => h2 H2 (e.trans e2) _ fun H3 e3 => ⟨d, v, rfl, dget_ex ((e.trans e2).trans e3) hg, q H3 (e2.trans e3)⟩
end
end Vlk

set_option Elab.async false
set_option linter.all false
set_option maxRecDepth 100000
set_option maxHeartbeats 2000000
/-! What comes to data: whatever objects hold it. -/
namespace Ve
open PySem PySem.Spec PyProof.Rows L2 Vl Evl Vp Vr Vc Vlk Vda
mutual
theorem dp_ex {K : PySem.W.Frag} {H H' : Hp} (e : Ex H H') : ∀ {v : V} {d : PyData}, Dp K H v d → Dp K H' v d
  | _, _, .non => .non
  | _, _, .bl b => .bl b
  | _, _, .int i => .int i
  | _, _, .str x => .str x
  | _, _, .lst h hs => .lst (ex_l e h) (dpa_ex e hs)
  | _, _, .tup h hs => .tup (ex_t e h) (dpa_ex e hs)
theorem dpa_ex {K : PySem.W.Frag} {H H' : Hp} (e : Ex H H') : ∀ {v : List V} {d : List PyData}, DpAll K H v d → DpAll K H' v d
  | _, _, .nil => .nil
  | _, _, .cons h hs => .cons (dp_ex e h) (dpa_ex e hs)
end
def EvD (K : PySem.W.Frag) (te : TE) (σ : L2.St) (H : Hp) (d : PyData) : Prop := ∀ H1, Ex H H1 → ∀ Q : VK, (∀ v H2, Ex H1 H2 → Dp K H2 v d → Q v H2) → te σ H1 Q
def EvDA (K : PySem.W.Frag) (ta : TA) (σ : L2.St) (H : Hp) (ds : List PyData) : Prop := ∀ H1, Ex H H1 → ∀ Q : List V → Hp → Prop, (∀ vs H2, Ex H1 H2 → DpAll K H2 vs ds → Q vs H2) → ta σ H1 Q
def SpD (K : PySem.W.Frag) (sp : Sp) (vs : List V) (H : Hp) (d : PyData) : Prop := ∀ H1, Ex H H1 → ∀ Q : VK, (∀ v H2, Ex H1 H2 → Dp K H2 v d → Q v H2) → ∀ E : XK, sp vs H1 Q E
section
variable {K : PySem.W.Frag} {σ : L2.St} {H H' : Hp} {te ta tb : TE} {t : TA} {d e : PyData} {v : V}
theorem EvD.mono (x : Ex H H') (h : EvD K te σ H d) : EvD K te σ H' d := fun H1 a Q q => h H1 (x.trans a) Q q
theorem ed_ev (h : Ev te σ H v) (hd : Dp K H v d) : EvD K te σ H d := fun H1 e Q q => h H1 e Q fun H2 e2 => q v H2 e2 (dp_ex (e.trans e2) hd)
theorem ed_str {s : List Nat} (h : Ev te σ H (.str (tx s))) : EvD K te σ H (.str (tx s)) := ed_ev h (.str _)
theorem ed_U {xs : List V} {ds : List PyData} (h : EvU te σ H xs) (hd : DpAll K H xs ds) : EvD K te σ H (.tuple ds) := fun H1 e Q q => h H1 e Q fun p H2 _ e2 hp => q _ H2 e2 (.tup (.inl (.inl hp)) (dpa_ex (e.trans e2) hd))
theorem ed_L {xs : List V} {ds : List PyData} (h : EvL te σ H xs) (hd : DpAll K H xs ds) : EvD K te σ H (.list ds) := fun H1 e Q q => h H1 e Q fun p H2 _ e2 hp => q _ H2 e2 (.lst (sq_of hp) (dpa_ex (e.trans e2) hd))
theorem ed_Un {xs : List (List Nat)} (h : EvU te σ H (vtx xs)) : EvD K te σ H (wd xs) := ed_U h (dpa_vtx xs)
theorem ed_Ln {xs : List (List Nat)} (h : EvL te σ H (vtx xs)) : EvD K te σ H (wls xs) := ed_L h (dpa_vtx xs)
theorem eda_nil : EvDA K tNil σ H [] := fun H1 _ Q q => q [] H1 (Ex.refl _) .nil
theorem eda_cons {ds : List PyData} (h : EvD K te σ H d) (hr : EvDA K t σ H ds) : EvDA K (tCons te t) σ H (d :: ds) := fun H1 e Q q =>
  h H1 e _ fun v H2 e2 h2 => hr H2 (e.trans e2) _ fun vs H3 e3 h3 => q _ H3 (e2.trans e3) (.cons (dp_ex e3 h2) h3)
theorem dpa_len : ∀ {vs : List V} {ds : List PyData}, DpAll K H vs ds → vs.length = ds.length
  | _, _, .nil => rfl
  | _, _, .cons h hs => by
    rw [List.length_cons, List.length_cons, dpa_len hs]
theorem ed_tup {ds : List PyData} (h : EvDA K t σ H ds) (hl : ds.length ≤ 100000) : EvD K (tTup t) σ H (.tuple ds) := fun H1 e Q q =>
  h H1 e _ fun vs H2 e2 h2 => ⟨by rw [dpa_len h2]; exact sz_of hl, fun p hp => q _ _ (e2.trans (Ex.new hp)) (.tup (.inl (.inl upd_same)) (dpa_ex (Ex.new hp) h2))⟩
theorem ed_lst {ds : List PyData} (h : EvDA K t σ H ds) (hl : ds.length ≤ 100000) : EvD K (tLst t) σ H (.list ds) := fun H1 e Q q =>
  h H1 e _ fun vs H2 e2 h2 => ⟨by rw [dpa_len h2]; exact sz_of hl, fun p hp => q _ _ (e2.trans (Ex.new hp)) (.lst (sq_of upd_same) (dpa_ex (Ex.new hp) h2))⟩
theorem ev_eqD (h : EvD K ta σ H d) (h2 : EvD K tb σ H e) (s1 : SeqAt.shaped d = true) (s2 : SeqAt.shaped e = true) : Ev (tOp (rEqD K) ta tb) σ H (.bl (PyData.eqv d e)) := fun H1 x Q q =>
  h H1 x _ fun v H2 e2 hv => h2 H2 (x.trans e2) _ fun u H3 e3 hu => ⟨d, e, dp_ex e3 hv, hu, s1, s2, q H3 (e2.trans e3)⟩
theorem ev_neD (h : EvD K ta σ H d) (h2 : EvD K tb σ H e) (s1 : SeqAt.shaped d = true) (s2 : SeqAt.shaped e = true) : Ev (tOp (rNeD K) ta tb) σ H (.bl (!PyData.eqv d e)) := fun H1 x Q q =>
  h H1 x _ fun v H2 e2 hv => h2 H2 (x.trans e2) _ fun u H3 e3 hu => ⟨d, e, dp_ex e3 hv, hu, s1, s2, q H3 (e2.trans e3)⟩
theorem sh_lay (h : SeqAt.shaped d = true) : d.canLay0 = true := by
  unfold SeqAt.shaped at h
  exact (Bool.and_eq_true_iff.mp h).1
/-- the same data: equal -/
theorem ev_same (h : EvD K ta σ H d) (h2 : EvD K tb σ H d) (s : SeqAt.shaped d = true) : Ev (tOp (rEqD K) ta tb) σ H (.bl true) := by
  have := ev_eqD h h2 s s
  rw [SeqAt.eqv_refl d (sh_lay s)] at this
  exact this
theorem ev_unlike (h : EvD K ta σ H d) (h2 : EvD K tb σ H d) (s : SeqAt.shaped d = true) : Ev (tOp (rNeD K) ta tb) σ H (.bl false) := by
  have := ev_neD h h2 s s
  rw [SeqAt.eqv_refl d (sh_lay s)] at this
  exact this
theorem ed_fu {sp : Sp} {E : L2.St → XK} {vs : List V} (h : EvA t σ H vs) (hs : SpD K sp vs H d) : EvD K (tFu sp E t) σ H d := fun H1 e Q q =>
  h H1 e _ fun H2 e2 => hs H2 (e.trans e2) Q (fun v H3 e3 => q v H3 (e2.trans e3)) (E σ)
theorem et_yes : EvT tYes σ H true := fun H1 _ Q q => q H1 (Ex.refl _)
/-- tuple(a list that stands) -/
theorem eu_tupleA {p : Addr} {xs : List V} (h : Ev te σ H (.ref p)) (hx : SqL K H p xs) : EvU (tCB (fun vs H Q => ∃ p ys, vs = [.ref p] ∧ ((SqL K H p ys ∧ ∀ l, H l = none → Q (.ref l) (upd H l (.tup ys))) ∨ (SqT K H p ys ∧ Q (.ref p) H))) (tCons te tNil)) σ H xs := fun H1 e Q q =>
  h H1 e _ fun H2 e2 => ⟨p, xs, rfl, .inl ⟨ex_l (e.trans e2) hx, fun l hl => q l _ (fresh_back e2 hl) (e2.trans (Ex.new hl)) upd_same⟩⟩
theorem ev_lenA {p : Addr} {xs : List V} (h : Ev te σ H (.ref p)) (hx : SqL K H p xs) : Ev (tCB (fun vs H Q => ∃ x n, vs = [x] ∧ LenV K x H n ∧ Q (.int n) H) (tCons te tNil)) σ H (.int (xs.length : Nat)) := fun H1 e Q q =>
  h H1 e _ fun H2 e2 => ⟨.ref p, xs.length, rfl, .inl ⟨xs, ex_l (e.trans e2) hx, rfl⟩, q H2 e2⟩
theorem ev_ixA {p : Addr} {xs : List V} {i : Nat} (h : Ev te σ H (.ref p)) (hx : SqL K H p xs) (hi : xs[i]? = some v) : Ev (tOp (rIxL K) te (tC (.int (i : Nat)))) σ H v := ev_op h ev_c (rv_ixL hx (at_of rfl hi))
/-! comprehensions by their items -/
theorem given_map {α : Type} {ys : List α} (c : α → Bool) (w : α → V) (f : Nat → Bool) (v : Nat → V) (h : ∀ (i : Nat) (y : α), ys[i]? = some y → f i = c y ∧ v i = w y) : ∀ n, n ≤ ys.length → given n f v = ((ys.take n).filter c).map w
  | 0, _ => by rw [List.take_zero]; rfl
  | n + 1, hn => by
    have hlt : n < ys.length := by omega
    have hy : ys[n]? = some ys[n] := List.getElem?_eq_getElem hlt
    obtain ⟨h1, h2⟩ := h n _ hy
    have ih := given_map c w f v h n (by omega)
    have ht : ys.take (n + 1) = ys.take n ++ [ys[n]] := by rw [List.take_succ, hy]; rfl
    rw [ht, List.filter_append, List.map_append]
    cases hc : c ys[n] with
    | true =>
      rw [given_yes (by rw [h1]; exact hc), ih, List.filter_cons_of_pos hc, h2]
      rfl
    | false =>
      rw [given_no (by rw [h1]; exact hc), ih, List.filter_cons_of_neg (by rw [hc]; decide)]
      show _ = _ ++ []
      rw [List.append_nil]
theorem el_lcA {α : Type} {ys : List α} {g : α → V} {a : Addr} {tl : TE} {j : Nat} {vs : List Nat} {tt : TT} (c : α → Bool) (w : α → V) (h : Ev tl σ H (.ref a)) (hx : SqL K H a (ys.map g)) (hz : ys.length ≤ 40000) (hw : ∀ x, wipe ((wipe σ vs).set j (some x)) vs = wipe σ vs)
    (ht : ∀ (y : α) (H1 : Hp), Ex H H1 → y ∈ ys → EvT tt ((wipe σ vs).set j (some (g y))) H1 (c y)) (he : ∀ (y : α) (H1 : Hp), Ex H H1 → y ∈ ys → c y = true → Ev te ((wipe σ vs).set j (some (g y))) H1 (w y)) :
    EvL (tLc (iList K tl) (gName j) tt te vs) σ H ((ys.filter c).map w) := by
  have key := el_lcL (K := K) (σ := σ) (H := H) (te := te) (t := tt) (j := j) (vs := vs) (fun i => match ys[i]? with | some y => c y | none => false) (fun i => match ys[i]? with | some y => w y | none => .non) h hx (by rw [List.length_map]; exact hz) hw
    (fun i x H1 e hi => by
      rw [List.getElem?_map] at hi
      obtain ⟨y, hy, rfl⟩ := Option.map_eq_some_iff.mp hi
      rw [hy]
      exact ht y H1 e (List.mem_of_getElem? hy))
    (fun i x H1 e hi hf => by
      rw [List.getElem?_map] at hi
      obtain ⟨y, hy, rfl⟩ := Option.map_eq_some_iff.mp hi
      rw [hy] at hf ⊢
      exact he y H1 e (List.mem_of_getElem? hy) hf)
  rw [given_map c w _ _ (fun i y hy => by rw [hy]; exact ⟨rfl, rfl⟩) _ (by rw [List.length_map]; exact Nat.le_refl _), List.length_map, List.take_length] at key
  exact key
theorem el_lcM {α : Type} {ys : List α} {g : α → V} {a : Addr} {tl : TE} {j : Nat} {vs : List Nat} (w : α → V) (h : Ev tl σ H (.ref a)) (hx : SqL K H a (ys.map g)) (hz : ys.length ≤ 40000) (hw : ∀ x, wipe ((wipe σ vs).set j (some x)) vs = wipe σ vs)
    (he : ∀ (y : α) (H1 : Hp), Ex H H1 → y ∈ ys → Ev te ((wipe σ vs).set j (some (g y))) H1 (w y)) :
    EvL (tLc (iList K tl) (gName j) tYes te vs) σ H (ys.map w) := by
  have := el_lcA (K := K) (tt := tYes) (te := te) (fun _ => true) w h hx hz hw (fun y H1 _ _ => et_yes) (fun y H1 e hy _ => he y H1 e hy)
  rw [List.filter_eq_self.mpr (fun _ _ => rfl)] at this
  exact this
theorem s_forNUn {D : Ends} {tu : TS} {xs : List V} {tl : TE} {j : Nat} (h : EvU tl σ H xs) (Pv : Addr → Nat → L2.St → Hp → Prop) (h0 : ∀ p H1, H p = none → Ex H H1 → H1 p = some (.tup xs) → Pv p 0 σ H1) (hl : ∀ p i σ' H', i ≤ xs.length → Pv p i σ' H' → SqT K H' p xs)
    (hs : ∀ p i x σ' H', xs[i]? = some x → Pv p i σ' H' → tu { D with nx := Pv p (i + 1), ct := Pv p (i + 1), bk := D.nx } (σ'.set j (some x)) H') (hd : ∀ p σ' H', Pv p xs.length σ' H' → D.nx σ' H') : tFor (iTup K tl) (gName j) tu D σ H :=
  h H (Ex.refl H) _ fun p H1 hp e h1 => ⟨p, rfl, ⟨xs, .inl (.inl h1)⟩, for_tup (Pv p) (h0 p H1 hp e h1) (hl p) (hs p) (hd p)⟩
theorem et_notin {ty td : TE} {d : Addr} {y : V} {o : Option V} (h1 : Ev ty σ H y) (h2 : Ev td σ H (.ref d)) (hg : DGet H d y o) : EvT (tB (tDNotIn ty td)) σ H (!o.isSome) := fun H1 e Q q =>
  h1 H1 e _ fun H2 e2 => h2 H2 (e.trans e2) _ fun H3 e3 => ⟨d, o, rfl, dget_ex ((e.trans e2).trans e3) hg, _, rfl, q H3 (e2.trans e3)⟩
theorem et_in {ty td : TE} {d : Addr} {y : V} {o : Option V} (h1 : Ev ty σ H y) (h2 : Ev td σ H (.ref d)) (hg : DGet H d y o) : EvT (tB (tDIn ty td)) σ H o.isSome := fun H1 e Q q =>
  h1 H1 e _ fun H2 e2 => h2 H2 (e.trans e2) _ fun H3 e3 => ⟨d, o, rfl, dget_ex ((e.trans e2).trans e3) hg, _, rfl, q H3 (e2.trans e3)⟩
theorem et_truL {p : Addr} {xs : List V} (h : Ev te σ H (.ref p)) (hx : SqL K H p xs) : EvT (fun σ H Q => te σ H fun x H' => ∃ k, TruV K x H' k ∧ Q k H') σ H (!xs.isEmpty) := fun H1 e Q q =>
  h H1 e _ fun H2 e2 => ⟨_, .inl ⟨xs, ex_l (e.trans e2) hx, rfl⟩, q H2 e2⟩
theorem q_forNUn {D : Ends} {tu tz : TS} {xs : List V} {tl : TE} {j : Nat} (h : EvU tl σ H xs) (Pv : Addr → Nat → L2.St → Hp → Prop) (h0 : ∀ p H1, H p = none → Ex H H1 → H1 p = some (.tup xs) → Pv p 0 σ H1) (hl : ∀ p i σ' H', i ≤ xs.length → Pv p i σ' H' → SqT K H' p xs)
    (hs : ∀ p i x σ' H', xs[i]? = some x → Pv p i σ' H' → tu { D with nx := Pv p (i + 1), ct := Pv p (i + 1), bk := tz D } (σ'.set j (some x)) H') (hd : ∀ p σ' H', Pv p xs.length σ' H' → tz D σ' H') : tSeq (tFor (iTup K tl) (gName j) tu) tz D σ H :=
  h H (Ex.refl H) _ fun p H1 hp e h1 => ⟨p, rfl, ⟨xs, .inl (.inl h1)⟩, for_tup (Pv p) (h0 p H1 hp e h1) (hl p) (hs p) (hd p)⟩
end
end Ve

set_option Elab.async false
set_option linter.all false
set_option maxRecDepth 100000
set_option maxHeartbeats 4000000
/-! root, least, taken, * of the class Round. -/
namespace K08
open PySem PySem.Spec PyProof.Rows L2 Vl Evl Vp Vr Vt Vc
def mN (m : Str) : Stmt := ((clB (top 14)).find? fun s => match s with | .FunctionDef (name := n) .. => n == m | _ => false).getD (.Pass ⟨0, 0, 0, 0⟩)
abbrev sRoot : Stmt := mem 2
abbrev sLeastM : Stmt := mem 3
abbrev sTaken : Stmt := mem 4
abbrev sMul : Stmt := mem 11
/-- comes to a new round of the lanes a -/
def EvR (K : PySem.W.Frag) (C : Addr) (te : TE) (σ : L2.St) (H : Hp) (a : List (List Nat)) : Prop := ∀ H1, Ex H H1 → ∀ Q : VK, (∀ o H2, Ex H1 H2 → H1 o = none → Rnd K C H2 o a → Q (.ref o) H2) → te σ H1 Q
theorem er_new {K : PySem.W.Frag} {C : Addr} {E : L2.St → XK} {t : TE} {σ : L2.St} {H : Hp} {a : List (List Nat)} (h : ∀ H1, Ex H H1 → ∀ Q : VK, (∀ p H2, Ex H1 H2 → SqE K H2 p (vtx a) → Q (.ref p) H2) → t σ H1 Q) (hl : Lns a) :
    EvR K C (tNw C (spIniR K C) E (tCons t tNil)) σ H a := fun H1 e Q q =>
  h H1 e _ fun p H2 e2 hp => fun x dx hx hdx hne => ⟨x, dx, p, H2, a, rfl, rfl, hx, hdx, hne, hp, hl, fun H' e3 r => ⟨rfl, q x H' (e2.trans e3) (fresh_back e2 hx) r⟩⟩
theorem er_newT {K : PySem.W.Frag} {C : Addr} {E : L2.St → XK} {t : TE} {σ : L2.St} {H : Hp} {a : List (List Nat)} (h : Vt.EvT K t σ H (vtx a)) (hl : Lns a) : EvR K C (tNw C (spIniR K C) E (tCons t tNil)) σ H a :=
  er_new (fun H1 e Q q => h H1 e Q fun p H2 e2 hp => q p H2 e2 (.inr hp)) hl
theorem er_newL {K : PySem.W.Frag} {C : Addr} {E : L2.St → XK} {t : TE} {σ : L2.St} {H : Hp} {a : List (List Nat)} {p : Addr} (h : Ev t σ H (.ref p)) (hp : SqL K H p (vtx a)) (hl : Lns a) : EvR K C (tNw C (spIniR K C) E (tCons t tNil)) σ H a :=
  er_new (fun H1 e Q q => h H1 e Q fun H2 e2 => q p H2 e2 (.inl (ex_l (e.trans e2) hp))) hl
def spRoot (K : PySem.W.Frag) (C : Addr) : Sp := fun vs H Q _ => ∃ o a, vs = [.ref o] ∧ Rnd K C H o a ∧ Lns a ∧
  ∀ (t r : Addr) (s : Nat) H', Ex H H' → H t = none → Vq.Rt a s → H' t = some (.tup [.ref r, .int ((a.length / s : Nat) : Int)]) → Rnd K C H' r (a.take s) → Q (.ref t) H'
def spLst (K : PySem.W.Frag) (C : Addr) : Sp := fun vs H Q _ => ∃ o a, vs = [.ref o] ∧ Rnd K C H o a ∧ Lns a ∧ ∀ q H', Ex H H' → SqT K H' q (vtx (least a)) → Q (.ref q) H'
def spTkn (K : PySem.W.Frag) (C : Addr) : Sp := fun vs H Q _ => ∃ o a, vs = [.ref o] ∧ Rnd K C H o a ∧ Lns a ∧ a.length ≤ 60 ∧
  ∀ (q : Addr) (ys : List Str) H', Ex H H' → H q = none → H' q = some (.tup (ys.map V.str)) → ys.Nodup → (∀ k, k ∈ ys ↔ k ∈ a.map tx) → sortedS ys = true → ys.length < 64 → Q (.ref q) H'
def spMul (K : PySem.W.Frag) (C CN : Addr) : Sp := fun vs H Q E => ∃ (o : Addr) (y : V) (a : List (List Nat)), vs = [.ref o, y] ∧ Rnd K C H o a ∧ Lns a ∧
  ((∃ k : Nat, y = .int (k : Nat) ∧ 1 ≤ k ∧ k ≤ 1000 ∧ k * a.length ≤ 1000 ∧ ∀ o2 H', Ex H H' → H o2 = none → Rnd K C H' o2 (Vq.rp k a) → Q (.ref o2) H') ∨
   (((∃ i : Int, y = .int i ∧ i < 1) ∨ NoInt K H y) ∧ Raised CN H y E))
theorem vtx_ne {a : List (List Nat)} (h : 1 ≤ a.length) : vtx a ≠ [] := fun z => by
  have := congrArg List.length z
  rw [vtx_len] at this
  exact absurd this (by show ¬ a.length = 0; omega)
theorem rp_nam {a : List (List Nat)} {k : Nat} (h : ∀ l ∈ a, nam l) : ∀ l ∈ Vq.rp k a, nam l := fun l hl => h l (rep_mem hl)
theorem lns_take {a : List (List Nat)} {s : Nat} (h : Lns a) (hs : 1 ≤ s) : Lns (a.take s) := ⟨fun l hl => h.1 l (List.mem_of_mem_take hl), by have := h.2.1; rw [List.length_take]; omega, by have := h.2.2; rw [List.length_take]; omega⟩
theorem lns_rp {a : List (List Nat)} {k : Nat} (h : Lns a) (hk : 1 ≤ k) (hz : k * a.length ≤ 1000) : Lns (Vq.rp k a) := ⟨rp_nam h.1, by rw [Vq.rp_len]; exact Nat.mul_pos hk h.2.1, by rw [Vq.rp_len]; exact hz⟩
theorem div_ev {i j : Nat} {K : PySem.W.Frag} {ta tb : TE} {σ : L2.St} {H : Hp} (h : Ev ta σ H (.int (i : Nat))) (h2 : Ev tb σ H (.int (j : Nat))) (hj : 1 ≤ j) (hb : j ≤ 100000) : Ev (tOp (rI CDiv fun i j => .int (i / j)) ta tb) σ H (.int ((i / j : Nat) : Int)) :=
  ev_is (ev_op h h2 (rv_I (show CDiv (i : Int) (j : Int) by unfold CDiv; omega))) (by rw [Int.natCast_ediv])
section
variable {P : Program} {w : World} {K : PySem.W.Frag} {mg : Str → Option Value} {base : Heap} {C CN : Addr}
abbrev nRo : List Str := ["self", "many", "size"]
theorem scRo : FnScope nRo ["self"] (defScope sRoot) := ⟨rfl, rfl, rfl, by decide +kernel, rfl, by decide +kernel, by decide +kernel⟩
theorem ev_fld {i : Nat} {σ : L2.St} {H : Hp} {o dx : Addr} {q : V} {fs : List (Str × V)} {f : Str} (hv : σ[i]? = some (some (.ref o))) (h : H o = some (.ins C dx fs)) (c : Cls K C) (n : NoAttr K C f) (hl : fs.lookup f = some q) : Ev (tFld K (tVar i) f) σ H q := fun H1 e Q k =>
  ⟨_, hv, o, C, dx, fs, q, rfl, e _ _ h, c, n, hl, k H1 (Ex.refl H1)⟩
theorem ok_root {f : Addr} {fd : FuncData} (F : FnM K "root" "Round.root" sRoot f fd) (c : Cls K C) (n : NoAttr K C "_lanes") (TR : Nw P w K mg base C L2.CX0 4 "Round" (spIniR K C)) (mLen : mg "len" = none) :
    FnOk P w K mg base L2.CX0 6 f fd ["self"] (spRoot K C) := by
  refine F.ok (CX := L2.CX0) scRo (fun vs H Q E h => ?_) (fun cdv A outer s H vs Q E hr h => ?_)
  · obtain ⟨o, a, rfl, _⟩ := h
    rfl
  · refine ⟨_, (pss_cons (ps_set (i := 1) scRo.nd rfl (by first | exact Or.inl rfl | exact Or.inr rfl) (pe_callB call_len (by rfl) mLen boot_len (pa_cons (pe_fld (pv 0) rfl) pa_nil)))
      (pss_cons (ps_set (i := 2) scRo.nd rfl (by first | exact Or.inl rfl | exact Or.inr rfl) pe_int)
      (pss_cons (ps_while (passes_of rfl) (pt_cmpR (op_neD hr.units) (pe_op Vre.op_repA (pe_slice sl_tupA (pe_fld (pv 0) rfl) po_none (po_some (pv 2))) (pe_op op_fdiv (pv 1) (pv 2))) (pe_fld (pv 0) rfl) (nomark _)) (pss_one (ps_set (i := 2) scRo.nd rfl (by first | exact Or.inl rfl | exact Or.inr rfl) (pe_op op_add (pv 2) pe_int))))
      (pss_one (ps_ret (pe_tup (pa_cons (pe_nw TR hr (by rfl) (pa_cons (pe_slice sl_tupA (pe_fld (pv 0) rfl) po_none (po_some (pv 2))) pa_nil)) (pa_cons (pe_op op_fdiv (pv 1) (pv 2)) pa_nil)))))))), ?_⟩
    obtain ⟨o, a, rfl, ⟨dx, q0, h1, h2⟩, hL, q⟩ := h
    obtain ⟨la, l1, l2⟩ := id hL
    have fl : ∀ {σ : L2.St} {H' : Hp}, Ex H H' → σ[0]? = some (some (.ref o)) → Ev (tFld K (tVar 0) "_lanes") σ H' (.ref q0) := fun e hv => ev_fld hv (e _ _ h1) c n rfl
    refine s_seq ?_
    refine s_asg (v := .int (a.length : Nat)) (ev_cb (ea_cons (fl (Ex.refl _) rfl) ea_nil) (fun H2 e2 Q q => ⟨_, a.length, rfl, .inr ⟨vtx a, ex_t e2 h2, (vtx_len a).symm⟩, q H2 (Ex.refl H2)⟩)) fun H1 e1 => ?_
    dsimp only
    refine s_seq ?_
    refine s_asg ev_c fun H2 e2 => ?_
    dsimp only
    have e12 := e1.trans e2
    refine s_seq ?_
    refine s_while (fun m st H' => ∃ s : Nat, st = [some (.ref o), some (.int (a.length : Nat)), some (.int (s : Nat))] ∧ Ex H H' ∧ 1 ≤ s ∧ s ≤ a.length ∧ m = a.length - s ∧ ∀ t, 1 ≤ t → t < s → ¬ Vq.Siz a t) (a.length - 1) ⟨1, rfl, e12, by omega, l1, rfl, fun t a b => by omega⟩ ?_
    rintro m st H' ⟨s, rfl, e, s1, s2, rfl, hm⟩
    have cut : ∀ {H3 : Hp}, Ex H H3 → Vt.EvT K (tSl (rSlA K) (tFld K (tVar 0) "_lanes") tNoPart (tPart (tVar 2))) [some (.ref o), some (.int (a.length : Nat)), some (.int (s : Nat))] H3 (vtx (a.take s)) := fun e3 => by
      have := et_cut (K := K) (et_ref (fl e3 rfl) (ex_t e3 h2)) (eo_none (σ := [some (.ref o), some (.int (a.length : Nat)), some (.int (s : Nat))])) (eo_some (ev_var (i := 2) (v := .int (s : Nat)) rfl))
      rw [cutV0, vtx_take] at this
      exact this
    have lt : Lns (a.take s) := lns_take hL s1
    have hlt : (a.take s).length = s := by rw [List.length_take]; omega
    have dv : ∀ {H3 : Hp}, Ev (tOp (rI CDiv fun i j => .int (i / j)) (tVar 1) (tVar 2)) [some (.ref o), some (.int (a.length : Nat)), some (.int (s : Nat))] H3 (.int ((a.length / s : Nat) : Int)) := div_ev (K := K) (ev_var rfl) (ev_var rfl) s1 (by omega)
    have hk1 : 1 ≤ a.length / s := Nat.div_pos s2 s1
    have hk2 : a.length / s ≤ a.length := Nat.div_le_self _ _
    have hz : (a.length / s) * s ≤ a.length := Nat.div_mul_le_self _ _
    refine ⟨!decide (Vq.rp (a.length / s) (a.take s) = a), ?_, fun hb H3 e3 => ?_, fun hb H3 e3 => ?_⟩
    · refine et_test (ev_is (v := .bl (!PyData.eqv (wd (Vq.rp (a.length / s) (a.take s))) (wd a))) (fun H3 e3 Q qq => ?_) (by rw [eqv_wd]))
      have := Vre.et_rep (K := K) (cut (e.trans e3)) dv (vtx_ne lt.2.1) hk1 (by omega) (by rw [vtx_len]; exact lt.2.2)
      rw [Vre.vtx_rp] at this
      refine this H3 (Ex.refl _) _ fun p H4 e4 hp => ?_
      refine fl ((e.trans e3).trans e4) rfl H4 (Ex.refl _) _ fun H5 e5 => ?_
      refine ⟨wd (Vq.rp (a.length / s) (a.take s)), wd a, dp_wd (ex_t e5 hp), dp_wd (ex_t (((e.trans e3).trans e4).trans e5) h2), sh_wd (rp_nam lt.1), sh_wd la, qq H5 (e4.trans e5)⟩
    · have hb : ¬ Vq.rp (a.length / s) (a.take s) = a := fun z => by rw [decide_eq_true z] at hb; cases hb
      have hne : s ≠ a.length := fun z => hb (by
        rw [z]
        exact (Vq.siz_self l1).2)
      refine ⟨fun st H4 => ∃ s' : Nat, st = [some (.ref o), some (.int (a.length : Nat)), some (.int (s' : Nat))] ∧ Ex H H4 ∧ s' = s + 1, ?_, ?_⟩
      · rintro st H4 ⟨s', rfl, e4, rfl⟩
        refine ⟨a.length - (s + 1), by omega, s + 1, rfl, e4, by omega, by omega, rfl, fun t t1 t2 => ?_⟩
        by_cases ht : t = s
        · subst ht
          exact fun z => hb z.2
        · exact hm t t1 (by omega)
      · exact s_asg (v := .int ((s + 1 : Nat) : Int)) (ev_is (ev_op (ev_var rfl) ev_c rv_I0) (by rfl)) fun H4 e4 => ⟨s + 1, rfl, (e.trans e3).trans e4, rfl⟩
    · have hb : Vq.rp (a.length / s) (a.take s) = a := by
        by_cases z : Vq.rp (a.length / s) (a.take s) = a
        · exact z
        · rw [decide_eq_false z] at hb
          cases hb
      have rt : Vq.Rt a s := ⟨⟨s1, hb⟩, hm⟩
      refine cut (e.trans e3) H3 (Ex.refl _) _ fun p H4 e4 hp => ?_
      refine fun x dx hx hdx hne => ⟨x, dx, p, H4, _, rfl, rfl, hx, hdx, hne, .inr hp, lt, fun H5 e5 r => ⟨rfl, ?_⟩⟩
      refine dv H5 (Ex.refl _) _ fun H6 e6 => ?_
      refine ⟨sz_of (by show 2 ≤ 100000; decide), fun t nt => ?_⟩
      have eA := (((e.trans e3).trans e4).trans e5).trans e6
      exact q t x s _ (eA.trans (Ex.new nt)) (fresh_back eA nt) rt upd_same ((r.mono e6).mono (Ex.new nt))
theorem scLe : FnScope ["self"] ["self"] (defScope sLeastM) := ⟨rfl, rfl, rfl, by decide +kernel, rfl, by decide +kernel, by decide +kernel⟩
theorem ok_leastM {f : Addr} {fd : FuncData} (F : FnM K "least" "Round.least" sLeastM f fd) (c : Cls K C) (n : NoAttr K C "_lanes") (TLt : Fu P w K mg base L2.CX0 1 "least_turn" (spLeast K)) :
    FnOk P w K mg base L2.CX0 2 f fd ["self"] (spLst K C) := by
  refine F.ok (CX := L2.CX0) scLe (fun vs H Q E h => ?_) (fun cdv A outer s H vs Q E hr h => ?_)
  · obtain ⟨o, a, rfl, _⟩ := h
    rfl
  · refine ⟨_, (pss_one (ps_ret (pe_fu TLt hr (by rfl) (pa_cons (pe_fld (pv 0) rfl) pa_nil)))), ?_⟩
    obtain ⟨o, a, rfl, ⟨dx, q0, h1, h2⟩, hL, q⟩ := h
    refine ⟨_, rfl, o, C, dx, _, .ref q0, rfl, h1, c, n, rfl, q0, a, rfl, h2, hL.2.1, hL.2.2, fun r H1 e1 k1 => q r H1 e1 k1⟩
theorem scTk : FnScope ["self"] ["self"] (defScope sTaken) := ⟨rfl, rfl, rfl, by decide +kernel, rfl, by decide +kernel, by decide +kernel⟩
theorem ok_taken {f : Addr} {fd : FuncData} (F : FnM K "taken" "Round.taken" sTaken f fd) (c : Cls K C) (n : NoAttr K C "_lanes") (mTuple : mg "tuple" = none) (mSorted : mg "sorted" = none) (mSet : mg "set" = none) :
    FnOk P w K mg base L2.CX0 2 f fd ["self"] (spTkn K C) := by
  refine F.ok (CX := L2.CX0) scTk (fun vs H Q E h => ?_) (fun cdv A outer s H vs Q E hr h => ?_)
  · obtain ⟨o, a, rfl, _⟩ := h
    rfl
  · refine ⟨_, (pss_one (ps_ret (pe_callTy call_tuple_of (by rfl) mTuple boot_tuple (pa_cons (pe_callB (Vst.cr_sortedSt rfl) (by rfl) mSorted boot_sorted (pa_cons (pe_callTy (Vst.cr_setS rfl) (by rfl) mSet boot_set (pa_cons (pe_fld (pv 0) rfl) pa_nil)) pa_nil)) pa_nil)))), ?_⟩
    obtain ⟨o, a, rfl, ⟨dx, q0, h1, h2⟩, hL, h60, q⟩ := h
    have hv : vtx a = (a.map tx).map V.str := by unfold vtx; rw [List.map_map]; rfl
    refine ⟨_, rfl, o, C, dx, _, .ref q0, rfl, h1, c, n, rfl, q0, a.map tx, rfl, .inr (by rw [← hv]; exact h2), by rw [List.length_map]; omega, fun sa m ns hm => ?_⟩
    rw [List.length_map] at hm
    refine ⟨sa, _, m, rfl, upd_same, by omega, fun ys p nd hk hs hl np => ?_⟩
    refine ⟨p, ys.map V.str, rfl, .inl ⟨sq_of upd_same, fun t nt => ?_⟩⟩
    have e : Ex H (upd (upd (upd H sa (Vst.SetSO P w sa (fun k => decide (k ∈ a.map tx)) m)) p (.lst (ys.map V.str))) t (.tup (ys.map V.str))) := ((Ex.new ns).trans (Ex.new np)).trans (Ex.new nt)
    refine q t ys _ e (fresh_back ((Ex.new ns).trans (Ex.new np)) nt) upd_same nd (fun k => ?_) hs hl
    rw [hk k, decide_eq_true_iff]
end
end K08

set_option Elab.async false
set_option linter.all false
set_option maxRecDepth 100000
set_option maxHeartbeats 4000000
/-! *, the law's root, what is refused. -/
namespace K08
open PySem PySem.Spec PyProof.Rows L2 Vl Evl Vp Vr Vt Vc Vw Ve Vda Vx2
/-- the class Round in one structure -/
structure RB (P : Program) (w : World) (K : PySem.W.Frag) (mg : Str → Option Value) (base : Heap) (C CN : Addr) : Prop where
  cls : Cls K C
  ins : C8.InsC K C
  new : Nw P w K mg base C L2.CX0 4 "Round" (spIniR K C)
  lan : Pr P w K mg base C 1 "lanes" (getSp C "_lanes")
  root : Mo P w K mg base C L2.CX0 6 "root" (spRoot K C)
  least : Mo P w K mg base C L2.CX0 2 "least" (spLst K C)
  taken : Mo P w K mg base C L2.CX0 2 "taken" (spTkn K C)
  mul : Ow P w K mg base C (L2.CX P w) 6 "mul" (spMul K C CN)
  shl : Ow P w K mg base C (L2.CX P w) 6 "lshift" (spShl K C CN)
  eq : ∃ f fd, Meth K C "__eq__" f ∧ Vo.neB K C f = true ∧ Binds K fd ["self", "other"] [] ∧ FnOk P w K mg base L2.CX0 2 f fd ["self", "other"] (spEq K C)
theorem Wr.tyx {K : PySem.W.Frag} {y : V} {H : Hp} {t : String} (h : Vw.Wr y H t) : TyX K H y (.type t) := Vw.Wr.tyx h
theorem raisedF {CN : Addr} {H : Hp} {y : V} {E : XK} (h : Raised CN H y E) : RaisedF CN "value" H y E := h
/-- the wrong numbers -/
def Wrong (y : V) : Prop := y = .int 0 ∨ y = .int (-1) ∨ y = .bl true ∨ y = .str (Str.ofString "2") ∨ y = .non ∨ y = .int (0 - 10 ^ 30)
theorem Wrong.wr {y : V} {H : Hp} (h : Wrong y) : ∃ t, Wr y H t := by
  rcases h with rfl | rfl | rfl | rfl | rfl | rfl
  · exact ⟨"int", .inr (.inl ⟨_, rfl, rfl⟩)⟩
  · exact ⟨"int", .inr (.inl ⟨_, rfl, rfl⟩)⟩
  · exact ⟨"bool", .inl ⟨_, rfl, rfl⟩⟩
  · exact ⟨"str", .inr (.inr (.inl ⟨_, rfl, rfl⟩))⟩
  · exact ⟨"NoneType", .inr (.inr (.inr (.inl ⟨rfl, rfl⟩)))⟩
  · exact ⟨"int", .inr (.inl ⟨_, rfl, rfl⟩)⟩
theorem Wrong.no {K : PySem.W.Frag} {y : V} {H : Hp} (h : Wrong y) : (∃ i : Int, y = .int i ∧ i < 1) ∨ NoInt K H y := by
  rcases h with rfl | rfl | rfl | rfl | rfl | rfl
  · exact .inl ⟨_, rfl, by decide⟩
  · exact .inl ⟨_, rfl, by decide⟩
  · exact .inr ⟨"bool", true, true, .base (.bl _), by decide +kernel, by decide +kernel, rfl⟩
  · exact .inr ⟨"str", false, false, .base (.str _), by decide +kernel, by decide +kernel, rfl⟩
  · exact .inr ⟨"NoneType", false, false, .base .non, by decide +kernel, by decide +kernel, rfl⟩
  · exact .inl ⟨_, rfl, by decide⟩
abbrev sDr : Stmt := top 22
abbrev sRf : Stmt := top 23
def spDr (K : PySem.W.Frag) : Sp := fun vs H Q _ => ∃ (p : Addr) (a : List (List Nat)), vs = [.ref p] ∧ H p = some (.lst (vtx a)) ∧ Lns a ∧
  ∀ (v : V) (s : Nat) H', Ex H H' → Vq.Rt a s → Dp K H' v (.tuple [wd (a.take s), .int ((a.length / s : Nat) : Int)]) → Q v H'
def spRf (K : PySem.W.Frag) (C : Addr) : Sp := fun vs H Q _ => ∃ (o : Addr) (y : V) (a : List (List Nat)), vs = [.ref o, y] ∧ Rnd K C H o a ∧ Lns a ∧ Wrong y ∧
  ∀ l H', Ex H H' → H l = none → H' l = some (.lst [.str (Str.ofString "number"), y]) → Q (.ref l) H'
section
variable {P : Program} {w : World} {K : PySem.W.Frag} {mg : Str → Option Value} {base : Heap} {C CN : Addr}
theorem scMu : FnScope ["self", "other"] ["self", "other"] (defScope sMul) := ⟨rfl, rfl, rfl, by decide +kernel, rfl, by decide +kernel, by decide +kernel⟩
theorem ok_mul {f : Addr} {fd : FuncData} (F : FnM K "__mul__" "Round.__mul__" sMul f fd) (c : Cls K C) (n : NoAttr K C "_lanes") (TIi : Fu P w K mg base L2.CX0 1 "is_integer" (spIsInt K)) (EN : Err1 P w K mg base "BadNumber" "value" CN) (TR : Nw P w K mg base C L2.CX0 4 "Round" (spIniR K C)) :
    FnOk P w K mg base (L2.CX P w) 6 f fd ["self", "other"] (spMul K C CN) := by
  obtain ⟨fE, fdE, iC, tI, bE, GE⟩ := EN.ini
  refine F.ok (CX := L2.CX P w) scMu (fun vs H Q E h => ?_) (fun cdv A outer s H vs Q E hr h => ?_)
  · obtain ⟨o, y, a, rfl, _⟩ := h
    rfl
  · have hr2 : Room 2 _ := hr.mono (by omega)
    refine ⟨_, (pss_cons (ps_if (PW.pt (pw_or (pt_not (pt_val (pe_fu TIi hr (by rfl) (pa_cons (pv 1) pa_nil)))) (pw_or1 (pt_cmpR op_lt (pv 1) pe_int (nomark _))))) (pss_one (ps_raise rfl (takes_of rfl rfl rfl rfl) (pmk_oex EN.T iC tI GE hr2 bE .nil pass0 (by rfl) EN.g (pa_cons (pv 1) pa_nil)))) pss_nil)
      (pss_one (ps_ret (pe_nw TR hr (by rfl) (pa_cons (pe_op Vre.op_repA (pe_fld (pv 0) rfl) (pv 1)) pa_nil))))), ?_⟩
    obtain ⟨o, y, a, rfl, ⟨dx, q0, h1, h2⟩, hL, h⟩ := h
    obtain ⟨la, l1, l2⟩ := id hL
    refine s_seq ?_
    rcases h with ⟨k, rfl, k1, k2, k3, q⟩ | ⟨⟨i, rfl, hi⟩ | ⟨t, b1, b2, ht, g1, g2, g3⟩, q⟩
    · refine ⟨_, rfl, _, "int", true, false, rfl, .base (.int (k : Nat)), by decide +kernel, by decide +kernel, true, rfl, ?_⟩
      refine ifF (by decide) ?_
      refine ⟨_, rfl, _, _, rfl, rfl, _, rfl, ?_⟩
      refine ifF (fun z => absurd (of_decide_eq_true z) (by omega)) ?_
      have fl : Ev (tFld K (tVar 0) "_lanes") [some (.ref o), some (.int (k : Nat))] H (.ref q0) := ev_fld rfl h1 c n rfl
      have := Vre.et_rep (K := K) (et_ref fl h2) (ev_var (i := 1) rfl) (vtx_ne l1) k1 k2 (by rw [vtx_len]; exact l2)
      rw [Vre.vtx_rp] at this
      dsimp only
      refine this H (Ex.refl _) _ fun p H4 e4 hp => ?_
      exact fun x dx hx hdx hne => ⟨x, dx, p, H4, _, rfl, rfl, hx, hdx, hne, .inr hp, lns_rp hL k1 k3, fun H5 e5 r => ⟨rfl, q x H5 (e4.trans e5) (fresh_back e4 hx) r⟩⟩
    · refine ⟨_, rfl, _, "int", true, false, rfl, .base (.int i), by decide +kernel, by decide +kernel, true, rfl, ?_⟩
      refine ifF (by decide) ?_
      refine ⟨_, rfl, _, _, rfl, rfl, _, rfl, ?_⟩
      refine ifT (decide_eq_true hi) ?_
      exact raised_f (W := fun cls d _ H' => E cls d H') 1 rfl rfl (raisedF q)
    · refine ⟨_, rfl, y, t, b1, b2, rfl, ht, g1, g2, b1 && !b2, rfl, ?_⟩
      rw [g3]
      refine ifT rfl ?_
      exact raised_f (W := fun cls d _ H' => E cls d H') 1 rfl rfl (raisedF q)
abbrev nDr : List Str := ["_law_word_here", "_law_length", "_law_many"]
theorem scDr : FnScope nDr ["_law_word_here"] (defScope sDr) := ⟨rfl, rfl, rfl, by decide +kernel, rfl, by decide +kernel, by decide +kernel⟩
theorem ok_dr {f : Addr} {fd : FuncData} (F : FnP K "_law_due_root" sDr f fd) (mTuple : mg "tuple" = none) (mLen : mg "len" = none) (mRange : mg "range" = none) :
    FnOk P w K mg base L2.CX0 1 f fd ["_law_word_here"] (spDr K) := by
  refine F.ok (CX := L2.CX0) scDr (fun vs H Q E h => ?_) (fun cdv A outer s H vs Q E hr h => ?_)
  · obtain ⟨p, a, rfl, _⟩ := h
    rfl
  · refine ⟨_, (pss_cons (ps_for (passes_of rfl) rfl (pi_range2 (by rfl) mRange (pa_cons pe_int (pa_cons (pe_op op_add (pe_callB call_len (by rfl) mLen boot_len (pa_cons (pv 0) pa_nil)) pe_int) pa_nil))) (pg_name (i := 1) scDr.nd rfl (by first | exact Or.inl rfl | exact Or.inr rfl)) (pss_cons (ps_set (i := 2) scDr.nd rfl (by first | exact Or.inl rfl | exact Or.inr rfl) (pe_op op_fdiv (pe_callB call_len (by rfl) mLen boot_len (pa_cons (pv 0) pa_nil)) (pv 1)))
      (pss_one (ps_if (pt_cmpR (op_eqD hr.units) (pe_op op_rep (pe_slice sl_list (pv 0) po_none (po_some (pv 1))) (pv 2)) (pv 0) (nomark _)) (pss_one (ps_ret (pe_tup (pa_cons (pe_callTy call_tuple_of (by rfl) mTuple boot_tuple (pa_cons (pe_slice sl_list (pv 0) po_none (po_some (pv 1))) pa_nil)) (pa_cons (pv 2) pa_nil))))) pss_nil))))
      (pss_one (ps_ret (pe_tup (pa_cons (pe_callTy call_tuple_of (by rfl) mTuple boot_tuple (pa_cons (pv 0) pa_nil)) (pa_cons pe_int pa_nil)))))), ?_⟩
    obtain ⟨p, a, rfl, hp, hL, q⟩ := h
    obtain ⟨la, l1, l2⟩ := id hL
    have len : ∀ {σ : L2.St} {H' : Hp}, Ex H H' → σ[0]? = some (some (.ref p)) → Ev (tCB (fun vs H Q => ∃ x n, vs = [x] ∧ LenV K x H n ∧ Q (.int n) H) (tCons (tVar 0) tNil)) σ H' (.int (a.length : Nat)) := fun e hv => ev_is (ev_lenA (ev_var hv) (sq_of (e _ _ hp))) (by rw [vtx_len])
    refine s_seq ?_
    refine s_forR2 (lo := 1) (n := ((a.length + 1 : Nat) : Int)) (ea_cons ev_c (ea_cons (ev_is (ev_op (len (Ex.refl _) rfl) ev_c rv_I0) (by rfl)) ea_nil)) (by omega)
      (fun i st H' => ∃ t1 t2, st = [some (.ref p), t1, t2] ∧ Ex H H' ∧ ∀ t, 1 ≤ t → t < i + 1 → ¬ Vq.Siz a t) (fun H2 e2 => ⟨none, none, rfl, e2, fun t x y => by omega⟩) ?_ ?_
    · rintro i st H2 hi ⟨t1, t2, rfl, e2, hm⟩
      have hk : (1 : Int) + (i : Int) = ((i + 1 : Nat) : Int) := by omega
      rw [hk]
      dsimp only
      have hin : i + 1 ≤ a.length := by omega
      have hk1 : 1 ≤ a.length / (i + 1) := Nat.div_pos hin (by omega)
      have hk2 : a.length / (i + 1) ≤ a.length := Nat.div_le_self _ _
      refine s_seq ?_
      refine s_asg (div_ev (K := K) (len e2 rfl) (ev_var rfl) (by omega) (by omega)) fun H3 e3 => ?_
      dsimp only
      have e23 := e2.trans e3
      have lt : Lns (a.take (i + 1)) := lns_take hL (by omega)
      have cut : ∀ {H' : Hp}, Ex H H' → EvL (tSl (rSlL K) (tVar 0) tNoPart (tPart (tVar 1))) [some (.ref p), some (.int ((i + 1 : Nat) : Int)), some (.int ((a.length / (i + 1) : Nat) : Int))] H' (vtx (a.take (i + 1))) := fun e => by
        have := el_sl (K := K) (ev_var (i := 0) rfl) eo_none (eo_some (ev_var (σ := [some (.ref p), some (.int ((i + 1 : Nat) : Int)), some (.int ((a.length / (i + 1) : Nat) : Int))]) (i := 1) rfl)) (sq_of (e _ _ hp))
        rw [cutV0, vtx_take] at this
        exact this
      have hz : (a.take (i + 1)).length * (a.length / (i + 1)) ≤ 100000 := by
        have h3 : (a.take (i + 1)).length = i + 1 := by rw [List.length_take]; omega
        rw [h3]
        have := Nat.mul_div_le a.length (i + 1)
        omega
      refine s_if (b := decide (Vq.rp (a.length / (i + 1)) (a.take (i + 1)) = a)) (et_test (ev_is (v := .bl (PyData.eqv (wls (Vq.rp (a.length / (i + 1)) (a.take (i + 1)))) (wls a))) (fun H4 e4 Q qq => ?_) (by rw [eq_l]))) (fun hb H4 e4 => ?_) (fun hb H4 e4 => ?_)
      · refine cut e23 H4 e4 _ fun l H5 nl e5 hl => ?_
        refine ⟨_, rfl, l, ((a.length / (i + 1) : Nat) : Int), _, rfl, rfl, hl, by omega, by omega, ?_, fun l2 n2 => ?_⟩
        · rw [vtx_len, Int.toNat_natCast]
          exact sz_of hz
        · rw [Int.toNat_natCast]
          have hr2 : (List.replicate (a.length / (i + 1)) (vtx (a.take (i + 1)))).flatten = vtx (Vq.rp (a.length / (i + 1)) (a.take (i + 1))) := Vre.vtx_rp _ _
          rw [hr2]
          have e6 := e5.trans (Ex.new (o := .lst (vtx (Vq.rp (a.length / (i + 1)) (a.take (i + 1))))) n2)
          exact ⟨_, rfl, wls _, wls a, dp_l (sq_of upd_same), dp_l (sq_of (e6 _ _ (e4 _ _ (e23 _ _ hp)))), sh_l (oks_nam (rp_nam lt.1)), sh_l (oks_nam la), qq _ e6⟩
      · have hb := of_decide_eq_true hb
        have rt : Vq.Rt a (i + 1) := ⟨⟨by omega, hb⟩, hm⟩
        have e5 := e23.trans e4
        refine cut e5 H4 (Ex.refl _) _ fun l H5 nl e6 hl => ?_
        refine ⟨l, _, rfl, .inl ⟨sq_of hl, fun t nt => ?_⟩⟩
        refine ⟨_, rfl, sz_of (by show 2 ≤ 100000; decide), fun u nu => ?_⟩
        refine q _ (i + 1) _ (((e5.trans e6).trans (Ex.new nt)).trans (Ex.new nu)) rt ?_
        exact .tup (.inl (.inl upd_same)) (.cons (dp_wd (ex_t (Ex.new nu) sqt_new)) (.cons (.int _) .nil))
      · have hb : ¬ Vq.rp (a.length / (i + 1)) (a.take (i + 1)) = a := of_decide_eq_false hb
        refine ⟨_, _, rfl, e23.trans e4, fun t x y => ?_⟩
        by_cases ht : t = i + 1
        · subst ht
          exact fun z => hb z.2
        · exact hm t x (by omega)
    · rintro st H2 ⟨t1, t2, rfl, e2, hm⟩
      exfalso
      refine hm a.length l1 ?_ (Vq.siz_self l1)
      omega
theorem scRf : FnScope ["_law_ring", "_law_number", "e"] ["_law_ring", "_law_number"] (defScope sRf) := ⟨rfl, rfl, rfl, by decide +kernel, rfl, by decide +kernel, by decide +kernel⟩
theorem ok_rf {f : Addr} {fd : FuncData} (F : FnP K "_law_refused" sRf f fd) (N : RB P w K mg base C CN) (EN : Err1 P w K mg base "BadNumber" "value" CN) (xm : PySem.W.exmOne K (.ref CN) (.ref CN) = some true) :
    FnOk P w K mg base L2.CX0 7 f fd ["_law_ring", "_law_number"] (spRf K C) := by
  refine F.ok (CX := L2.CX0) scRf (fun vs H Q E h => ?_) (fun cdv A outer s H vs Q E hr h => ?_)
  · obtain ⟨o, y, a, rfl, _⟩ := h
    rfl
  · refine ⟨_, (pss_one (Vtr.ps_try_cl rfl rfl scRf.nd Vtr.takes_no (tb := fun W => (tRet (tLst (tCons (tPr C (getSp C "_lanes") (Vw.tOw C (spMul K C CN) (WE W) (tVar 0) (tVar 1))) tNil)))) (fun W pn xe tk _ => (pss_one (ps_ret (pe_lst (pa_cons (pe_pr (Vw.pe_owX (E := WE W) N.mul hr (fun st => passAt tk st) (pv 0) (pv 1)) N.cls N.lan hr) pa_nil))))) (Vtr.ClsOk.named (i := 2) rfl rfl ⟨by rfl, by decide, .inl EN.g⟩ (fun a oe cls d pn hz hf => (pss_one (ps_ret (pe_lst (pa_cons pe_str (pa_cons (pe_xf EN.X EN.no hz hf (pv 2)) pa_nil)))))) Vtr.ClsOk.nil))), ?_⟩
    obtain ⟨o, y, a, rfl, hR, hL, hy, q⟩ := h
    obtain ⟨dx, q0, h1, h2⟩ := id hR
    obtain ⟨t, ht⟩ := hy.wr (H := H)
    refine ⟨_, rfl, _, rfl, o, dx, _, t, rfl, h1, ht, o, y, a, rfl, hR, hL, .inr ⟨hy.no, fun d H2 e hd => ⟨true, xm, fun _ a2 na => ?_, (fun z => nomatch z)⟩⟩⟩
    refine ⟨_, rfl, rfl, rfl, d, [("value", _)], _, rfl, hd, rfl, by show 2 ≤ sizeLine; decide, fun p np => ?_⟩
    exact q p _ (e.trans (Ex.new np)) (fresh_back e np) upd_same
end
end K08

set_option Elab.async false
set_option linter.all false
set_option maxRecDepth 100000
set_option maxHeartbeats 2000000
/-! Comprehensions whose items are new objects: what is known of each. -/
namespace Vlp
open PySem PySem.Spec PyProof.Rows L2 Vl Evl Vp Vr Ve
inductive All2 {α : Type} (R : α → V → Prop) : List α → List V → Prop
  | nil : All2 R [] []
  | cons {y : α} {v : V} {ys : List α} {vs : List V} (h : R y v) (r : All2 R ys vs) : All2 R (y :: ys) (v :: vs)
theorem All2.len {α : Type} {R : α → V → Prop} {ys : List α} {vs : List V} (h : All2 R ys vs) : vs.length = ys.length := by
  induction h with
  | nil => rfl
  | cons _ _ ih => rw [List.length_cons, List.length_cons, ih]
theorem All2.imp {α : Type} {R S : α → V → Prop} (hi : ∀ y v, R y v → S y v) {ys : List α} {vs : List V} (h : All2 R ys vs) : All2 S ys vs := by
  induction h with
  | nil => exact .nil
  | cons h _ ih => exact .cons (hi _ _ h) ih
theorem All2.snoc {α : Type} {R : α → V → Prop} {ys : List α} {vs : List V} {y : α} {v : V} (h : All2 R ys vs) (hy : R y v) : All2 R (ys ++ [y]) (vs ++ [v]) := by
  induction h with
  | nil => exact .cons hy .nil
  | cons h _ ih => exact .cons h ih
theorem All2.get {α : Type} {R : α → V → Prop} {ys : List α} {vs : List V} (h : All2 R ys vs) : ∀ {i : Nat} {v : V}, vs[i]? = some v → ∃ y, ys[i]? = some y ∧ R y v := by
  induction h with
  | nil => intro i v h; cases h
  | cons h _ ih =>
    intro i v hv
    cases i with
    | zero => exact ⟨_, rfl, by cases hv; exact h⟩
    | succ i => exact ih hv
theorem All2.dpa {α : Type} {K : PySem.W.Frag} {H : Hp} {d : α → PyData} {R : α → V → Prop} (hd : ∀ y v, R y v → Dp K H v (d y)) {ys : List α} {vs : List V} (h : All2 R ys vs) : DpAll K H vs (ys.map d) := by
  induction h with
  | nil => exact .nil
  | cons h _ ih => exact .cons (hd _ _ h) ih
/-- stays when the heap grows, and when a list changes -/
structure Stay (R : V → Hp → Prop) : Prop where
  ex : ∀ {v H H'}, Ex H H' → R v H → R v H'
  mu : ∀ {v H a xs ys}, H a = some (.lst xs) → R v H → R v (upd H a (.lst ys))
def EvP (te : TE) (σ : L2.St) (H : Hp) (R : V → Hp → Prop) : Prop := ∀ H1, Ex H H1 → ∀ Q : VK, (∀ v H2, Ex H1 H2 → R v H2 → Q v H2) → te σ H1 Q
def EvPL {α : Type} (te : TE) (σ : L2.St) (H : Hp) (ys : List α) (R : α → V → Hp → Prop) : Prop :=
  ∀ H1, Ex H H1 → ∀ Q : VK, (∀ p xs H2, H1 p = none → Ex H1 H2 → H2 p = some (.lst xs) → All2 (fun y v => R y v H2) ys xs → Q (.ref p) H2) → te σ H1 Q
section
variable {K : PySem.W.Frag} {α : Type} {te : TE} {tt : TT} {σ : L2.St} {H : Hp} {R : α → V → Hp → Prop}
def Cp (H : Hp) (R : α → V → Hp → Prop) (Dl : Addr) (zs : List α) (H' : Hp) : Prop := H Dl = none ∧ Ex H H' ∧ ∃ acc, H' Dl = some (.lst acc) ∧ All2 (fun y v => R y v H') zs acc
theorem cp_turn {H H' : Hp} {Dl : Addr} {zs zs' : List α} {y : α} {b : Bool} {σ2 : L2.St} (st : ∀ y, Stay (R y)) (p : Cp H R Dl zs H') (hi : zs.length < 50000) (ht : EvT tt σ2 H b) (he : b = true → EvP te σ2 H (R y)) (h1 : b = true → zs' = zs ++ [y]) (h0 : b = false → zs' = zs) :
    tt σ2 H' fun b H3 => if b = true then te σ2 H3 fun v H4 => ∃ acc, H4 Dl = some (.lst acc) ∧ acc.length < sizeLine ∧ Cp H R Dl zs' (upd H4 Dl (.lst (acc ++ [v]))) else Cp H R Dl zs' H3 := by
  obtain ⟨p1, p2, acc, p3, p4⟩ := p
  refine ht H' p2 _ fun H3 e3 => ?_
  cases b with
  | true =>
    show te σ2 H3 fun v H4 => ∃ acc, H4 Dl = some (.lst acc) ∧ acc.length < sizeLine ∧ Cp H R Dl zs' (upd H4 Dl (.lst (acc ++ [v])))
    refine he rfl H3 (p2.trans e3) _ fun v H4 e4 hv => ⟨acc, e4 Dl _ (e3 Dl _ p3), sz_lt (by rw [p4.len]; omega), p1, Ex.mut ((p2.trans e3).trans e4) p1, _, upd_same, ?_⟩
    have hD := e4 Dl _ (e3 Dl _ p3)
    rw [h1 rfl]
    exact (p4.imp fun z u hu => (st z).mu hD ((st z).ex (e3.trans e4) hu)).snoc ((st y).mu hD hv)
  | false =>
    show Cp H R Dl zs' H3
    rw [h0 rfl]
    exact ⟨p1, p2.trans e3, acc, e3 Dl _ p3, p4.imp fun z u hu => (st z).ex e3 hu⟩
theorem filt_yes {ys : List α} {c : α → Bool} {i : Nat} {y : α} (hy : ys[i]? = some y) (h : c y = true) : (ys.take (i + 1)).filter c = (ys.take i).filter c ++ [y] := by
  rw [List.take_add_one, hy, List.filter_append]
  show _ ++ List.filter c [y] = _
  rw [List.filter_cons_of_pos h]
  rfl
theorem filt_no {ys : List α} {c : α → Bool} {i : Nat} {y : α} (hy : ys[i]? = some y) (h : c y = false) : (ys.take (i + 1)).filter c = (ys.take i).filter c := by
  rw [List.take_add_one, hy, List.filter_append]
  show _ ++ List.filter c [y] = _
  rw [List.filter_cons_of_neg (by rw [h]; decide)]
  show _ ++ [] = _
  rw [List.append_nil]
theorem filt_len {ys : List α} {c : α → Bool} {i : Nat} (hz : ys.length ≤ 40000) : ((ys.take i).filter c).length < 50000 := by
  have h1 := List.length_filter_le c (ys.take i)
  rw [List.length_take] at h1
  omega
/-- over a list that stands -/
theorem ep_lcA {ys : List α} {g : α → V} {a : Addr} {tl : TE} {j : Nat} {vs : List Nat} (c : α → Bool) (st : ∀ y, Stay (R y)) (h : Ev tl σ H (.ref a)) (hx : SqL K H a (ys.map g)) (hz : ys.length ≤ 40000) (hw : ∀ x, wipe ((wipe σ vs).set j (some x)) vs = wipe σ vs)
    (ht : ∀ (y : α) (H1 : Hp), Ex H H1 → y ∈ ys → EvT tt ((wipe σ vs).set j (some (g y))) H1 (c y)) (he : ∀ (y : α) (H1 : Hp), Ex H H1 → y ∈ ys → c y = true → EvP te ((wipe σ vs).set j (some (g y))) H1 (R y)) :
    EvPL (tLc (iList K tl) (gName j) tt te vs) σ H (ys.filter c) R := fun H0 e Q q => h H0 e _ fun H1 e1 => ⟨a, rfl, ⟨ys.map g, ex_l (e.trans e1) hx⟩, fun Dl hD => by
  refine lc_list (xs := ys.map g) (fun i => Cp H1 R Dl ((ys.take i).filter c)) ⟨hD, Ex.new hD, _, upd_same, by rw [List.take_zero]; exact .nil⟩ (fun i H' _ p => ex_l ((e.trans e1).trans p.2.1) hx) (fun i x H' hi p => ⟨hw x, ?_⟩)
    (fun H' p => by
      rw [List.length_map, List.take_length] at p
      obtain ⟨p1, p2, acc, p3, p4⟩ := p
      exact q Dl acc H' (fresh_back e1 p1) (e1.trans p2) p3 p4)
  rw [List.getElem?_map] at hi
  obtain ⟨y, hy, rfl⟩ := Option.map_eq_some_iff.mp hi
  have hm := List.mem_of_getElem? hy
  exact cp_turn (te := te) (y := y) st p (filt_len hz) (ht y H1 (e.trans e1) hm) (he y H1 (e.trans e1) hm) (fun hc => filt_yes hy hc) (fun hc => filt_no hy hc)⟩
/-- over a range, each turn gives -/
theorem ep_lcR {ta : TA} {j : Nat} {vs : List Nat} {n : Int} {R : Nat → V → Hp → Prop} (st : ∀ y, Stay (R y)) (h : EvA ta σ H [.int n]) (hn : 0 ≤ n ∧ n ≤ 40000) (hw : ∀ x, wipe ((wipe σ vs).set j (some x)) vs = wipe σ vs)
    (he : ∀ (i : Nat) H1, Ex H H1 → (i : Int) < n → EvP te ((wipe σ vs).set j (some (.int (i : Int)))) H1 (R i)) :
    EvPL (tLc (iRng1 ta) (gName j) tYes te vs) σ H (List.range n.toNat) R := fun H0 e Q q => h H0 e _ fun H1 e1 => ⟨n, rfl, by omega, by omega, fun Dl hD => by
  refine lc_range (lo := 0) (n := n.toNat) (fun i => Cp H1 R Dl (List.range i)) ⟨hD, Ex.new hD, _, upd_same, .nil⟩ (fun i H' hi p => ?_) (fun H' p => by
      obtain ⟨p1, p2, acc, p3, p4⟩ := p
      exact q Dl acc H' (fresh_back e1 p1) (e1.trans p2) p3 p4)
  have e0 : (0 : Int) + (i : Int) = (i : Int) := Int.zero_add _
  show wipe ((wipe σ vs).set j (some (.int ((0 : Int) + (i : Int))))) vs = wipe σ vs ∧ tYes ((wipe σ vs).set j (some (.int ((0 : Int) + (i : Int))))) H' fun b H3 => if b = true then te ((wipe σ vs).set j (some (.int ((0 : Int) + (i : Int))))) H3 fun y H4 => ∃ acc, H4 Dl = some (.lst acc) ∧ acc.length < sizeLine ∧ Cp H1 R Dl (List.range (i + 1)) (upd H4 Dl (.lst (acc ++ [y]))) else Cp H1 R Dl (List.range (i + 1)) H3
  rw [e0]
  have key := cp_turn (te := te) (tt := tYes) (y := i) (b := true) (σ2 := (wipe σ vs).set j (some (.int (i : Int)))) st p (by rw [List.length_range]; omega) et_yes (fun _ => he i H1 (e.trans e1) (by omega)) (fun _ => List.range_succ) (fun z => by cases z)
  exact ⟨hw _, key⟩⟩
/-- a tuple -/
def IsT (K : PySem.W.Frag) (xs : List V) (v : V) (H : Hp) : Prop := ∃ p, v = .ref p ∧ SqT K H p xs
theorem stay_T {xs : List V} : Stay (IsT K xs) := ⟨fun e ⟨p, h, hp⟩ => ⟨p, h, ex_t e hp⟩, fun {v H a ys zs} ha ⟨p, h, hp⟩ => ⟨p, h, by
  rcases hp with (hp | ⟨ob, hp⟩) | hp
  · refine .inl (.inl ?_)
    rw [upd_ne (fun z => by rw [z, ha] at hp; cases hp)]
    exact hp
  · refine .inl (.inr ⟨ob, ?_⟩)
    rw [upd_ne (fun z => by rw [z, ha] at hp; cases hp)]
    exact hp
  · exact .inr hp⟩⟩
theorem ep_T {xs : List V} (h : Vt.EvT K te σ H xs) : EvP te σ H (IsT K xs) := fun H1 e Q q => h H1 e Q fun p H2 e2 hp => q _ H2 e2 ⟨p, rfl, hp⟩
theorem ep_U {xs : List V} (h : EvU te σ H xs) : EvP te σ H (IsT K xs) := fun H1 e Q q => h H1 e Q fun p H2 _ e2 hp => q _ H2 e2 ⟨p, rfl, .inl (.inl hp)⟩
end
end Vlp

set_option Elab.async false
set_option linter.all false
set_option maxRecDepth 100000
set_option maxHeartbeats 2000000
/-! Comprehensions over a new tuple; `in` of a dict that is made there. -/
namespace Ve
open PySem PySem.Spec PyProof.Rows L2 Vl Evl
section
variable {K : PySem.W.Frag} {σ : L2.St} {H : Hp} {te : TE}
theorem el_lcU {α : Type} {ys : List α} {g : α → V} {tl : TE} {j : Nat} {vs : List Nat} {tt : TT} (c : α → Bool) (w : α → V) (h : EvU tl σ H (ys.map g)) (hz : ys.length ≤ 40000) (hw : ∀ x, wipe ((wipe σ vs).set j (some x)) vs = wipe σ vs)
    (ht : ∀ (y : α) (H1 : Hp), Ex H H1 → y ∈ ys → EvT tt ((wipe σ vs).set j (some (g y))) H1 (c y)) (he : ∀ (y : α) (H1 : Hp), Ex H H1 → y ∈ ys → c y = true → Ev te ((wipe σ vs).set j (some (g y))) H1 (w y)) :
    EvL (tLc (iTup K tl) (gName j) tt te vs) σ H ((ys.filter c).map w) := fun H0 e Q q => h H0 e _ fun a H1 ha e1 hx => ⟨a, rfl, ⟨ys.map g, st_of hx⟩, fun Dl hD => by
  have hgm := given_map c w (fun i => match ys[i]? with | some y => c y | none => false) (fun i => match ys[i]? with | some y => w y | none => .non) (fun i y hy => by rw [hy]; exact ⟨rfl, rfl⟩) ys.length (Nat.le_refl _)
  rw [List.take_length] at hgm
  refine lc_tup (xs := ys.map g) (Cw H1 (fun i => match ys[i]? with | some y => c y | none => false) (fun i => match ys[i]? with | some y => w y | none => .non) Dl) ⟨hD, Ex.new hD, upd_same⟩ (fun i H' _ p => st_of (p.2.1 a _ hx)) (fun i x H' hi p => ⟨hw x, ?_⟩)
    (fun H' p => q Dl H' (fresh_back e1 p.1) (e1.trans p.2.1) (by have h2 := p.2.2; rw [List.length_map, hgm] at h2; exact h2))
  rw [List.getElem?_map] at hi
  obtain ⟨y, hy, rfl⟩ := Option.map_eq_some_iff.mp hi
  have hm := List.mem_of_getElem? hy
  refine cw_turn p (by have := (List.getElem?_eq_some_iff.mp hy).1; omega) ?_ ?_
  · rw [hy]
    exact ht y H1 (e.trans e1) hm
  · rw [hy]
    exact fun hf => he y H1 (e.trans e1) hm hf⟩
theorem ev_lenT {p : Addr} {xs : List V} (h : Ev te σ H (.ref p)) (hx : SqT K H p xs) : Ev (tCB (fun vs H Q => ∃ x n, vs = [x] ∧ LenV K x H n ∧ Q (.int n) H) (tCons te tNil)) σ H (.int (xs.length : Nat)) := fun H1 e Q q =>
  h H1 e _ fun H2 e2 => ⟨.ref p, xs.length, rfl, .inr ⟨xs, ex_t (e.trans e2) hx, rfl⟩, q H2 e2⟩
/-- x in d, d made there -/
theorem et_inN {ty td : TE} {y : V} {b : Bool} (h1 : Ev ty σ H y) (h2 : ∀ H1, Ex H H1 → ∀ Q : VK, (∀ d o H2, Ex H1 H2 → DGet H2 d y o → o.isSome = b → Q (.ref d) H2) → td σ H1 Q) : EvT (tB (tDIn ty td)) σ H b := fun H1 e Q q =>
  h1 H1 e _ fun H2 e2 => h2 H2 (e.trans e2) _ fun d o H3 e3 hg hb => ⟨d, o, rfl, hg, _, rfl, by rw [hb]; exact q H3 (e2.trans e3)⟩
end
end Ve

set_option Elab.async false
set_option linter.all false
/-! Sorted lists of texts: there is one of each lot. -/
namespace Vsr
open PySem PySem.Spec PyProof.Rows Vp
theorem lt_tri : ∀ a b : List Nat, ltCps a b = false → ltCps b a = false → a = b
  | [], [], _, _ => rfl
  | [], _ :: _, h, _ => by cases h
  | _ :: _, [], _, h => by cases h
  | a :: r, b :: t, h1, h2 => by
    unfold ltCps at h1 h2
    rw [Bool.or_eq_false_iff] at h1 h2
    have e1 := of_decide_eq_false h1.1
    have e2 := of_decide_eq_false h2.1
    have e : a = b := by omega
    subst e
    have h3 := h1.2
    have h4 := h2.2
    rw [beq_self_eq_true, Bool.true_and] at h3 h4
    rw [lt_tri r t h3 h4]
theorem le_tr : ∀ a b c : List Nat, ltCps b a = false → ltCps c b = false → ltCps c a = false
  | [], _, [], _, _ => rfl
  | [], _, _ :: _, _, _ => rfl
  | _ :: _, [], _, h, _ => by cases h
  | _ :: _, _ :: _, [], _, h => by cases h
  | a :: r, b :: t, c :: u, h1, h2 => by
    unfold ltCps at h1 h2 ⊢
    rw [Bool.or_eq_false_iff] at h1 h2 ⊢
    have e1 := of_decide_eq_false h1.1
    have e2 := of_decide_eq_false h2.1
    refine ⟨decide_eq_false (by omega), ?_⟩
    by_cases e : c = a
    · subst e
      have e3 : b = c := by omega
      subst e3
      have h3 := h1.2
      have h4 := h2.2
      rw [beq_self_eq_true, Bool.true_and] at h3 h4 ⊢
      exact le_tr r t u h3 h4
    · rw [beq_eq_false_iff_ne.mpr e, Bool.false_and]
def leS (a b : Str) : Prop := ltCps b.cps.toList a.cps.toList = false
theorem pw_of : ∀ (l : List Str) (p : Str), risingS p l = true → (p :: l).Pairwise leS
  | [], p, _ => List.pairwise_singleton _ _
  | x :: r, p, h => by
    unfold risingS at h
    obtain ⟨h1, h2⟩ := Bool.and_eq_true_iff.mp h
    have ih := pw_of r x h2
    have hx : leS p x := by
      unfold leS
      cases e : ltCps x.cps.toList p.cps.toList with
      | false => rfl
      | true => rw [e] at h1; cases h1
    refine List.pairwise_cons.mpr ⟨fun y hy => ?_, ih⟩
    rcases List.mem_cons.mp hy with rfl | hy
    · exact hx
    · exact le_tr _ _ _ hx ((List.pairwise_cons.mp ih).1 y hy)
theorem pw_sorted : ∀ l : List Str, sortedS l = true → l.Pairwise leS
  | [], _ => .nil
  | x :: r, h => pw_of r x h
theorem sorted_one {u v : List Str} (hu : sortedS u = true) (hv : sortedS v = true) (p : u.Perm v) : u = v :=
  List.Perm.eq_of_pairwise (le := leS) (fun a b _ _ h1 h2 => by
    rw [tx_of a, tx_of b, lt_tri _ _ h2 h1]) (pw_sorted u hu) (pw_sorted v hv) p
end Vsr

set_option Elab.async false
set_option linter.all false
set_option maxRecDepth 100000
set_option maxHeartbeats 4000000
/-! Rounds in tuples compared; what is known without the pool. -/
namespace K08
open PySem PySem.Spec PyProof.Rows L2 Vl Evl Vp Vr Vt Vc Vw Ve Vda Vx2
/-- two rounds that are turned alike -/
def Tw (K : PySem.W.Frag) (C : Addr) (a b : Addr) (H : Hp) : Prop := ∃ la lb, Rnd K C H a la ∧ Rnd K C H b lb ∧ Lns la ∧ Lns lb ∧ least la = least lb
def DR (K : PySem.W.Frag) (C : Addr) : Eqv := fun x y H => DIns C (Tw K C) x y H ∨ DFlat x y H
theorem mon_DR {K : PySem.W.Frag} {C : Addr} : Mon (DR K C) := Mon.or (mon_ins fun a b H H' e ⟨la, lb, h1, h2, h3⟩ => ⟨la, lb, h1.mono e, h2.mono e, h3⟩) mon_flat
theorem eqG_DR {X : Cx} {CN : Addr} {C : Addr} (N : RB X.prog X.w X.K X.mg X.base C CN) : EqG X 2 (DR X.K C) := by
  obtain ⟨f, fd, M, ne, b, F⟩ := N.eq
  refine EqG.or (eqG_ins (CX := L2.CX0) (E := fun _ _ _ => False) (F.imp fun vs H Q E q => ?_) M.at_ M.fn b pass0) (eqG_flat.mono (by omega))
  obtain ⟨o, o2, rfl, ⟨la, lb, h1, h2, h3, h4, h5⟩, q⟩ := q
  refine ⟨o, .ref o2, la, rfl, h1, h3, .inl ⟨o2, lb, rfl, h2, h4, fun H' e => ?_⟩⟩
  rw [decide_eq_true h5]
  exact q H' e
theorem sqt_wo {K : PySem.W.Frag} {H : Hp} {p g : Addr} {xs ys : List V} (h : SqT K H p xs) (hg : H g = some (.lst ys)) : SqT K (Wo H g) p xs := by
  rcases h with (h | ⟨ob, h⟩) | h
  · exact .inl (.inl (wo_at h (fun z => by rw [z, hg] at h; cases h)))
  · exact .inl (.inr ⟨ob, wo_at h (fun z => by rw [z, hg] at h; cases h)⟩)
  · exact .inr h
theorem rnd_wo {K : PySem.W.Frag} {C : Addr} {H : Hp} {o g : Addr} {a : List (List Nat)} {ys : List V} (h : Rnd K C H o a) (hg : H g = some (.lst ys)) : Rnd K C (Wo H g) o a := by
  obtain ⟨dx, q, h1, h2⟩ := h
  exact ⟨dx, q, wo_at h1 (fun z => by rw [z, hg] at h1; cases h1), sqt_wo h2 hg⟩
theorem pl_lst {Hk H : Hp} {p : Addr} {n : Nat} (h : Pl Hk p n H) : ∃ ys, H p = some (.lst ys) := by
  obtain ⟨a, b, c, h1, _⟩ := h.at_
  exact ⟨_, h1⟩
theorem pl_rnd {K : PySem.W.Frag} {C : Addr} {Hk H : Hp} {p o : Addr} {n : Nat} {a : List (List Nat)} (h : Pl Hk p n H) (r : Rnd K C H o a) : Rnd K C (Wo H p) o a := by
  obtain ⟨ys, hy⟩ := pl_lst h
  exact rnd_wo r hy
theorem pl_sqt {K : PySem.W.Frag} {Hk H : Hp} {p o : Addr} {n : Nat} {a : List V} (h : Pl Hk p n H) (r : SqT K H o a) : SqT K (Wo H p) o a := by
  obtain ⟨ys, hy⟩ := pl_lst h
  exact sqt_wo r hy
/-- a wrong number as data -/
theorem Wrong.data {K : PySem.W.Frag} {y : V} {H : Hp} (h : Wrong y) : ∃ d, Dp K H y d ∧ SeqAt.shaped d = true := by
  rcases h with rfl | rfl | rfl | rfl | rfl | rfl
  · exact ⟨_, .int _, by decide +kernel⟩
  · exact ⟨_, .int _, by decide +kernel⟩
  · exact ⟨_, .bl _, by decide +kernel⟩
  · exact ⟨_, .str _, by decide +kernel⟩
  · exact ⟨_, .non, by decide +kernel⟩
  · exact ⟨_, .int _, by decide +kernel⟩
theorem Wrong.isb {K : PySem.W.Frag} {y : V} {H : Hp} (h : Wrong y) : ∃ (t : String) (b : Bool), TyX K H y (.type t) ∧ kitB t "bool" = some b := by
  rcases h with rfl | rfl | rfl | rfl | rfl | rfl
  · exact ⟨"int", false, .base (.int _), by decide +kernel⟩
  · exact ⟨"int", false, .base (.int _), by decide +kernel⟩
  · exact ⟨"bool", true, .base (.bl _), by decide +kernel⟩
  · exact ⟨"str", false, .base (.str _), by decide +kernel⟩
  · exact ⟨"NoneType", false, .base .non, by decide +kernel⟩
  · exact ⟨"int", false, .base (.int _), by decide +kernel⟩
theorem wrong_pick {k : Nat} (h : k < 6) : ∃ y, [V.int 0, .int (0 - 1), .bl true, .str (Str.ofString "2"), .non, .int (0 - 10 ^ 30)][k]? = some y ∧ Wrong y := by
  match k, h with
  | 0, _ => exact ⟨_, rfl, .inl rfl⟩
  | 1, _ => exact ⟨_, rfl, .inr (.inl rfl)⟩
  | 2, _ => exact ⟨_, rfl, .inr (.inr (.inl rfl))⟩
  | 3, _ => exact ⟨_, rfl, .inr (.inr (.inr (.inl rfl)))⟩
  | 4, _ => exact ⟨_, rfl, .inr (.inr (.inr (.inr (.inl rfl))))⟩
  | 5, _ => exact ⟨_, rfl, .inr (.inr (.inr (.inr (.inr rfl))))⟩
theorem sh_pair {b : List (List Nat)} {n : Int} (h : ∀ l ∈ b, nam l) : SeqAt.shaped (.tuple [wd b, .int n]) = true := shaped_of (by
    show (PyData.canLayAll0 (dtx b) && (true && true)) = true
    rw [lay_ok b (oks_nam h)]
    rfl) (by
    show max (wd b).depth (max 0 0) + 1 ≤ 64
    have := dep_wd b
    omega)
section
variable {K : PySem.W.Frag} {C : Addr} {te : TE} {σ : L2.St} {H : Hp} {o : Addr} {a : List (List Nat)}
theorem et_lan (h : Ev te σ H (.ref o)) (r : Rnd K C H o a) : Vt.EvT K (tPr C (getSp C "_lanes") te) σ H (vtx a) := fun H1 e Q q => h H1 e _ fun H2 e2 => by
  obtain ⟨dx, q0, h1, h2⟩ := r
  exact ⟨o, dx, _, rfl, (e.trans e2) _ _ h1, o, dx, _, .ref q0, rfl, (e.trans e2) _ _ h1, rfl, q q0 H2 e2 (ex_t (e.trans e2) h2)⟩
theorem ed_T {xs : List (List Nat)} (h : Vt.EvT K te σ H (vtx xs)) : EvD K te σ H (wd xs) := fun H1 e Q q => h H1 e Q fun p H2 e2 hp => q _ H2 e2 (dp_wd hp)
theorem ed_lan (h : Ev te σ H (.ref o)) (r : Rnd K C H o a) : EvD K (tPr C (getSp C "_lanes") te) σ H (wd a) := ed_T (et_lan h r)
theorem ev_isR (c : C8.InsC K C) (h : Ev te σ H (.ref o)) (r : Rnd K C H o a) : Ev (tCB (rIsi K) (tCons te (tCons (tC (V.ref C)) tNil))) σ H (.bl true) := fun H1 e Q q => h H1 e _ fun H2 e2 => by
  obtain ⟨dx, q0, h1, h2⟩ := r
  exact ⟨V.ref o, V.ref C, .ref C, .ref C, true, rfl, .own C, .base (.ins ((e.trans e2) _ _ h1) c.cl c.ha c.hn c.htk c.hm), c.me, q H2 e2⟩
theorem er_mul {CN : Addr} {E : L2.St → XK} {ta tb : TE} {k : Nat} (h : Ev ta σ H (.ref o)) (r : Rnd K C H o a) (La : Lns a) (hk : Ev tb σ H (.int (k : Nat))) (k1 : 1 ≤ k) (k2 : k ≤ 1000) (k3 : k * a.length ≤ 1000) : EvR K C (tOw C (spMul K C CN) E ta tb) σ H (Vq.rp k a) := fun H1 e Q q =>
  h H1 e _ fun H2 e2 => hk H2 (e.trans e2) _ fun H3 e3 => by
  have R3 := r.mono ((e.trans e2).trans e3)
  obtain ⟨dx, q0, h1, h2⟩ := id R3
  exact ⟨o, dx, _, "int", rfl, h1, .inr (.inl ⟨_, rfl, rfl⟩), o, .int (k : Nat), a, rfl, R3, La, .inl ⟨k, rfl, k1, k2, k3, fun o2 H' e' ho r2 => q o2 H' ((e2.trans e3).trans e') (fresh_back (e2.trans e3) ho) r2⟩⟩
theorem et_lanR (h : EvR K C te σ H a) : Vt.EvT K (tPr C (getSp C "_lanes") te) σ H (vtx a) := fun H1 e Q q => h H1 e _ fun o H2 e2 no r => by
  obtain ⟨dx, q0, h1, h2⟩ := r
  exact ⟨o, dx, _, rfl, h1, o, dx, _, .ref q0, rfl, h1, rfl, q q0 H2 e2 h2⟩
theorem et_U {xs : List V} (h : EvU te σ H xs) : Vt.EvT K te σ H xs := fun H1 e Q q => h H1 e Q fun p H2 _ e2 hp => q p H2 e2 (.inl (.inl hp))
theorem ev_roots {CN r : Addr} {s k : Nat} {E E2 : L2.St → XK} {ta tb t6 t7 t8 : TE} (h : Ev ta σ H (.ref o)) (R : Rnd K C H o a) (La : Lns a) (hk : Ev tb σ H (.int (k : Nat))) (k1 : 1 ≤ k) (k2 : k ≤ 1000) (k3 : k * a.length ≤ 1000)
    (h6 : Ev t6 σ H (.ref r)) (Rr : Rnd K C H r (a.take s)) (hrt : Vq.Rt a s) (h7 : Ev t7 σ H (.int ((a.length / s : Nat) : Int))) (h8 : Ev t8 σ H (.int (k : Nat))) :
    Ev (tOp (Vne.rNeG K (DR K C)) (Vtr.tMethS C "root" (spRoot K C) E (tOw C (spMul K C CN) E2 ta tb) tNil) (tTup (tCons t6 (tCons (tOp (rI CMul fun i j => .int (i * j)) t7 t8) tNil)))) σ H (.bl false) := fun H1 e Q q => by
  have hm := er_mul (CN := CN) (E := E2) h R La hk k1 k2 k3
  refine hm H1 e _ fun o2 H2 e2 no2 r2 => ?_
  obtain ⟨dx2, q2, g1, g2⟩ := id r2
  refine ⟨o2, dx2, _, rfl, g1, rfl, o2, Vq.rp k a, rfl, r2, lns_rp La k1 k3, fun t r' s' H3 e3 nt hrt' ht hr' => ?_⟩
  obtain rfl : s' = s := hrt'.one (hrt.rp La.2.1 k1)
  have hd : s' ∣ a.length := ((Vq.siz_iff La.2.1 hrt.1.1).mp hrt.1).1
  rw [Vq.rp_div hd] at ht
  rw [Vq.rp_take k1 (hrt.le La.2.1)] at hr'
  have e13 := (e.trans e2).trans e3
  refine h6 H3 e13 _ fun H4 e4 => h7 H4 (e13.trans e4) _ fun H5 e5 => h8 H5 ((e13.trans e4).trans e5) _ fun H6 e6 => ?_
  have l2 := La.2.2
  have dl : a.length / s' ≤ a.length := Nat.div_le_self _ _
  refine ⟨((a.length / s' : Nat) : Int), (k : Int), rfl, rfl, by unfold CMul; omega, sz_of (by show 2 ≤ 100000; decide), fun u nu => ?_⟩
  have e36 := (e4.trans e5).trans e6
  have eu : Ex H3 (upd H6 u (.tup [.ref r, .int (((a.length / s' : Nat) : Int) * (k : Int))])) := e36.trans (Ex.new nu)
  have w1 := hr'.mono eu
  have w2 := Rr.mono (e13.trans eu)
  obtain ⟨da, qa, wa, _⟩ := id w1
  obtain ⟨db, qb, wb, _⟩ := id w2
  refine ⟨⟨t, u, _, _, rfl, rfl, st_of (eu _ _ ht), st_of upd_same, Prs.cons (.inl ⟨r', r, da, db, _, _, rfl, rfl, wa, wb, _, _, w1, w2, lns_take La hrt.1.1, lns_take La hrt.1.1, rfl⟩) (Prs.cons (.inr ⟨rfl, rfl, ?_⟩) Prs.nil)⟩, fun H' e' => q H' (((e2.trans e3).trans eu).trans e')⟩
  show eqV (.int ((a.length / s' * k : Nat) : Int)) (.int (((a.length / s' : Nat) : Int) * (k : Int))) = true
  rw [← Int.natCast_mul]
  simp [eqV]
theorem el_cat {ta tb : TE} {xs ys : List V} (h : EvL ta σ H xs) (h2 : EvL tb σ H ys) (hl : xs.length + ys.length ≤ 100000) : EvL (tOp rCat ta tb) σ H (xs ++ ys) := fun H1 e Q q =>
  h H1 e _ fun p H2 np e2 hp => h2 H2 (e.trans e2) _ fun p2 H3 np2 e3 hp2 => ⟨p, p2, xs, ys, rfl, rfl, e3 _ _ hp, hp2, sz_of hl, fun p4 n4 => q p4 _ (fresh_back (e2.trans e3) n4) ((e2.trans e3).trans (Ex.new n4)) upd_same⟩
theorem el_rot {p1 p2 : Addr} {t1 t2 u1 u2 : TE} {k : Nat} (h1 : Ev t1 σ H (.ref p1)) (g1 : SqL K H p1 (vtx a)) (h2 : Ev t2 σ H (.ref p2)) (g2 : SqL K H p2 (vtx a)) (k1 : Ev u1 σ H (.int (k : Int))) (k2 : Ev u2 σ H (.int (k : Int))) (hl : a.length ≤ 1000) :
    EvL (tOp rCat (tSl (rSlL K) t1 (tPart u1) tNoPart) (tSl (rSlL K) t2 tNoPart (tPart u2))) σ H (vtx (rot a k)) := by
  have := el_cat (el_sl h1 (eo_some k1) eo_none g1) (el_sl h2 eo_none (eo_some k2) g2) (by
    have h3 := cutV_length (vtx a) (some (k : Int)) none
    have h4 := cutV_length (vtx a) none (some (k : Int))
    rw [vtx_len] at h3 h4
    omega)
  rw [cutV1, cutV0, ← vtx_rot] at this
  exact this
theorem eu_tupleN {xs : List V} (h : EvL te σ H xs) : EvU (tCB (fun vs H Q => ∃ p ys, vs = [.ref p] ∧ ((SqL K H p ys ∧ ∀ l, H l = none → Q (.ref l) (upd H l (.tup ys))) ∨ (SqT K H p ys ∧ Q (.ref p) H))) (tCons te tNil)) σ H xs := fun H1 e Q q =>
  h H1 e _ fun p H2 np e2 hp => ⟨p, xs, rfl, .inl ⟨sq_of hp, fun l hl => q l _ (fresh_back e2 hl) (e2.trans (Ex.new hl)) upd_same⟩⟩
end
theorem sh_rots {a : List (List Nat)} (h : ∀ l ∈ a, nam l) (js : List Nat) : SeqAt.shaped (.list (js.map fun j => wd (rot a j))) = true := by
  have key : ∀ js : List Nat, PyData.canLayAll0 (js.map fun j => wd (rot a j)) = true ∧ PyData.depthAll (js.map fun j => wd (rot a j)) ≤ 1 := by
    intro js
    induction js with
    | nil => exact ⟨rfl, by show 0 ≤ 1; omega⟩
    | cons j r ih =>
      refine ⟨?_, ?_⟩
      · show (PyData.canLayAll0 (dtx (rot a j)) && PyData.canLayAll0 (r.map fun j => wd (rot a j))) = true
        rw [lay_ok _ (oks_nam (rot_nam h)), ih.1]
        rfl
      · show max (wd (rot a j)).depth (PyData.depthAll (r.map fun j => wd (rot a j))) ≤ 1
        have := dep_wd (rot a j)
        have := ih.2
        omega
  exact shaped_of (key js).1 (by
    show PyData.depthAll _ + 1 ≤ 64
    have := (key js).2
    omega)
theorem s_asgP {α : Type} {te : TE} {i : Nat} {D : Ends} {σ : L2.St} {H : Hp} {ys : List α} {R : α → V → Hp → Prop} (h : Vlp.EvPL te σ H ys R) (k : ∀ p xs H1, H p = none → Ex H H1 → H1 p = some (.lst xs) → Vlp.All2 (fun y v => R y v H1) ys xs → D.nx (σ.set i (some (.ref p))) H1) : tAsg te (gName i) D σ H :=
  h H (Ex.refl H) _ fun p xs H1 hp e h1 h2 => k p xs H1 hp e h1 h2
/-- the different lanes, sorted, are what was taken -/
theorem taken_same {xs a : List (List Nat)} {u ys : List Str} (NX : Names xs) (hax : ∀ y ∈ a, y ∈ xs) (hu : u.Perm ((xs.filter fun x => decide (x ∈ a)).map tx)) (su : sortedS u = true) (nd : ys.Nodup) (hk : ∀ k, k ∈ ys ↔ k ∈ a.map tx) (sy : sortedS ys = true) : u = ys := by
  refine Vsr.sorted_one su sy (hu.trans ?_)
  refine (List.perm_ext_iff_of_nodup ?_ nd).mpr fun z => ?_
  · have h1 : (xs.filter fun x => decide (x ∈ a)).Nodup := NX.2.filter _
    exact List.pairwise_map.mpr (h1.imp fun h e => h (tx_inj e))
  · rw [hk z, List.mem_map, List.mem_map]
    constructor
    · rintro ⟨x, hx, rfl⟩
      exact ⟨x, of_decide_eq_true (List.mem_filter.mp hx).2, rfl⟩
    · rintro ⟨x, hx, rfl⟩
      exact ⟨x, List.mem_filter.mpr ⟨hax x hx, decide_eq_true hx⟩, rfl⟩
theorem ev_isW {K : PySem.W.Frag} {y : V} (hy : Wrong y) : ∃ b : Bool, ∀ (te : TE) (σ : L2.St) (H : Hp), Ev te σ H y → Ev (tCB (rIsi K) (tCons te (tCons (tC (V.ty "bool")) tNil))) σ H (.bl b) := by
  have go : ∀ (t : String) (b : Bool), (∀ H, TyX K H y (.type t)) → kitB t "bool" = some b → ∀ (te : TE) (σ : L2.St) (H : Hp), Ev te σ H y → Ev (tCB (rIsi K) (tCons te (tCons (tC (V.ty "bool")) tNil))) σ H (.bl b) := fun t b ht hb te σ H h =>
    ev_cb (ea_cons h (ea_cons ev_c ea_nil)) (fun H1 e Q q => ⟨y, V.ty "bool", .type t, .type "bool", b, rfl, .ty _, ht _, kit_ty hb, q H1 (Ex.refl _)⟩)
  rcases hy with rfl | rfl | rfl | rfl | rfl | rfl
  · exact ⟨_, go "int" false (fun _ => .base (.int _)) (by decide +kernel)⟩
  · exact ⟨_, go "int" false (fun _ => .base (.int _)) (by decide +kernel)⟩
  · exact ⟨_, go "bool" true (fun _ => .base (.bl _)) (by decide +kernel)⟩
  · exact ⟨_, go "str" false (fun _ => .base (.str _)) (by decide +kernel)⟩
  · exact ⟨_, go "NoneType" false (fun _ => .base .non) (by decide +kernel)⟩
  · exact ⟨_, go "int" false (fun _ => .base (.int _)) (by decide +kernel)⟩
theorem not_less {a : List (List Nat)} {j : Nat} (h : j < a.length) : ltW (rot a j) (least a) = false := lt1_least a (a.length - 1) j (by omega)
theorem least_in {a : List (List Nat)} (h : 1 ≤ a.length) : ((List.range a.length).map fun j => wd (rot a j)).any (fun z => PyData.eqv z (wd (least a))) = true := by
  obtain ⟨j, hj, e⟩ := lt1_turn a (a.length - 1)
  refine List.any_eq_true.mpr ⟨wd (rot a j), List.mem_map.mpr ⟨j, List.mem_range.mpr (by omega), rfl⟩, ?_⟩
  rw [show rot a j = least a from e.symm, eqv_wd]
  exact decide_eq_true rfl
theorem given_none (n : Nat) (v : Nat → V) : given n (fun _ => false) v = [] := by
  unfold given
  rw [List.filter_eq_nil_iff.mpr (fun _ _ z => by cases z)]
  rfl
theorem sorted_data {a : List (List Nat)} {ys : List Str} (h : ∀ l ∈ a, nam l) (hk : ∀ k, k ∈ ys ↔ k ∈ a.map tx) : ∃ l, ys.map V.str = vtx l ∧ Oks l := by
  refine ⟨ys.map fun z => z.cps.toList, ?_, oks_nam fun l hl => ?_⟩
  · unfold vtx
    rw [List.map_map]
    exact List.map_congr_left fun z _ => congrArg V.str (tx_of z)
  · obtain ⟨z, hz, rfl⟩ := List.mem_map.mp hl
    obtain ⟨x, hx, rfl⟩ := List.mem_map.mp ((hk z).mp hz)
    exact h x hx
theorem inV_vtx {l : List Nat} {xs : List (List Nat)} : inV (V.str (tx l)) (vtx xs) = decide (l ∈ xs) := by
  unfold inV vtx
  rw [List.any_map]
  cases e : decide (l ∈ xs) with
  | true =>
    have hm := of_decide_eq_true e
    rw [List.any_eq_true]
    exact ⟨l, hm, by show eqV (V.str (tx l)) (V.str (tx l)) = true; unfold eqV; simp⟩
  | false =>
    have hm := of_decide_eq_false e
    rw [List.any_eq_false]
    intro y hy z
    have z : eqV (V.str (tx y)) (V.str (tx l)) = true := z
    unfold eqV at z
    have : tx y = tx l := by simpa using z
    exact hm (by rw [← tx_inj this]; exact hy)
theorem flat_tx (xs : List (List Nat)) : (vtx xs).all flatV = true := List.all_eq_true.mpr fun v hv => by
  unfold vtx at hv
  obtain ⟨l, _, rfl⟩ := List.mem_map.mp hv
  rfl
theorem ev_sorted {K : PySem.W.Frag} {C CN o : Addr} {E : L2.St → XK} {tA tB : TE} {σ : L2.St} {H : Hp} {xs a : List (List Nat)} (hA : EvL tA σ H ((xs.filter fun x => decide (x ∈ a)).map fun x => V.str (tx x))) (hB : Ev tB σ H (.ref o)) (R : Rnd K C H o a) (La : Lns a) (h60 : a.length ≤ 60) (NX : Names xs) (hax : ∀ y ∈ a, y ∈ xs) (hfl : (xs.filter fun x => decide (x ∈ a)).length < 64) :
    Ev (tOp (rNeD K) (tCB (rSortedS K) (tCons tA tNil)) (tCB (fun xs H Q => ∃ p ys, xs = [.ref p] ∧ (SqL K H p ys ∨ SqT K H p ys) ∧ ∀ l, H l = none → Q (.ref l) (upd H l (.lst ys))) (tCons (Vtr.tMethS C "taken" (spTkn K C) E tB tNil) tNil))) σ H (.bl false) := fun H1 e1 Q1 q1 =>
  hA H1 e1 _ fun pc H2 nc e2 hpc => by
    refine ⟨pc, (xs.filter fun x => decide (x ∈ a)).map tx, rfl, sq_of (by rw [List.map_map]; exact hpc), by rw [List.length_map]; exact hfl, fun u pu hperm hsu npu => ?_⟩
    have e12 := (e1.trans e2).trans (Ex.new (o := .lst (u.map V.str)) npu)
    refine hB _ e12 _ fun H3 e3 => ?_
    have R3 := R.mono (e12.trans e3)
    obtain ⟨dxp, qp, hp1, hp2⟩ := id R3
    refine ⟨o, dxp, _, rfl, hp1, rfl, o, a, rfl, R3, La, h60, fun qt ys' H4 e4 nqt hqt ndy hky sy hly => ?_⟩
    refine ⟨qt, ys'.map V.str, rfl, .inr (st_of hqt), fun lq nlq => ?_⟩
    obtain rfl : u = ys' := taken_same NX hax hperm hsu ndy hky sy
    obtain ⟨lz, hlz, okz⟩ := sorted_data La.1 hky
    have hu := (e3.trans e4) _ _ (upd_same (H := H2) (a := pu))
    rw [hlz] at hu ⊢
    have eA : Ex H1 H4 := (e2.trans (Ex.new npu)).trans (e3.trans e4)
    refine ⟨wls lz, wls lz, dp_l (sq_of ((Ex.new nlq) _ _ hu)), dp_l (sq_of upd_same), sh_l okz, sh_l okz, ?_⟩
    rw [eq_l, decide_eq_true rfl]
    exact q1 _ (eA.trans (Ex.new nlq))
end K08

set_option Elab.async false
set_option linter.all false
set_option maxRecDepth 100000
set_option maxHeartbeats 4000000
/-! The law. -/
namespace K08
open PySem PySem.Spec PyProof.Rows L2 Vl Evl Vp Vr Vt Vc Vw Ve Vda Vx2 Vlp
abbrev sLw : Stmt := top 24
abbrev nLw : List Str := ["_law_script", "_law_k", "_law_pool_here", "_law_names_here", "_law_word_here", "_law_ring", "_law_shorter", "_law_many", "_law_number", "_law_wrong", "_law_told", "_law_about", "_law_at", "_law_least", "_law_one", "_law_distinct", "_law_name"]
def spLaw (K : PySem.W.Frag) : Sp := fun vs H Q _ => ∃ (l : Addr) (ns : List Int), vs = [.ref l] ∧ SqL K H l (ns.map V.int) ∧ ∀ H', Q (.bl true) H'
theorem _root_.L2.Room.un1 {k : Nat} {A : Around} (hr : Room (k + 1) A) : A.units + 65 < cLine := by have := hr.un; omega
section
variable {P : Program} {w : World} {K : PySem.W.Frag} {mg : Str → Option Value} {base : Heap} {C CN : Addr}
theorem scLw : FnScope nLw ["_law_script"] (defScope sLw) := ⟨rfl, rfl, rfl, by decide +kernel, rfl, by decide +kernel, by decide +kernel⟩
theorem ok_law {f : Addr} {fd : FuncData} (F : FnP K "law" sLw f fd) (N : RB P w K mg base C CN) (TCe : Fu P w K mg base L2.CX0 1 "_law_cell" (spCell K)) (TPo : Fu P w K mg base L2.CX0 1 "_law_pool" spPool) (TT : Fu P w K mg base L2.CX0 1 "_law_take" spTake) (TNa : Fu P w K mg base L2.CX0 2 "_law_names" spNames) (TWd : Fu P w K mg base L2.CX0 2 "_law_word" spWord)
    (TDr : Fu P w K mg base L2.CX0 1 "_law_due_root" (spDr K)) (TRf : Fu P w K mg base L2.CX0 7 "_law_refused" (spRf K C)) (gRound : mg "Round" = some (.ref C)) (mTuple : mg "tuple" = none) (mLen : mg "len" = none) (mRange : mg "range" = none) (mIsinstance : mg "isinstance" = none) (mBool : mg "bool" = none) (mMin : mg "min" = none) (mList : mg "list" = none) (mStr : mg "str" = none) (mSorted : mg "sorted" = none) :
    FnOk P w K mg base L2.CX0 8 f fd ["_law_script"] (spLaw K) := by
  refine F.ok (CX := L2.CX0) scLw (fun vs H Q E h => ?_) (fun cdv A outer s H vs Q E hr h => ?_)
  · obtain ⟨l, ns, rfl, _⟩ := h
    rfl
  · refine ⟨_, (pss_cons (ps_for (passes_of rfl) rfl (pi_range1 (by rfl) mRange (pa_cons pe_int pa_nil)) (pg_name (i := 1) scLw.nd rfl (by first | exact Or.inl rfl | exact Or.inr rfl)) (pss_cons (ps_set (i := 2) scLw.nd rfl (by first | exact Or.inl rfl | exact Or.inr rfl) (pe_fu TPo hr (by rfl) (pa_cons (pe_op op_add (pe_fu TCe hr (by rfl) (pa_cons (pv 0) (pa_cons (pv 1) pa_nil))) (pv 1)) pa_nil)))
      (pss_cons (ps_set (i := 3) scLw.nd rfl (by first | exact Or.inl rfl | exact Or.inr rfl) (pe_fu TNa hr (by rfl) (pa_cons (pv 2) (pa_cons pe_int pa_nil))))
      (pss_cons (ps_set (i := 4) scLw.nd rfl (by first | exact Or.inl rfl | exact Or.inr rfl) (pe_op op_rep (pe_fu TWd hr (by rfl) (pa_cons (pv 2) (pa_cons (pv 3) (pa_cons pe_int pa_nil)))) (pe_op op_add pe_int (pe_fu TT hr (by rfl) (pa_cons (pv 2) (pa_cons pe_int pa_nil))))))
      (pss_cons (ps_set (i := 5) scLw.nd rfl (by first | exact Or.inl rfl | exact Or.inr rfl) (pe_nw N.new hr (by rfl) (pa_cons (pv 4) pa_nil)))
      (pss_cons (ps_asg (pe_mo0 (pv 5) N.cls N.root hr) (pg_tup rfl (pgs_cons (pg_name (i := 6) scLw.nd rfl (by first | exact Or.inl rfl | exact Or.inr rfl)) (pgs_cons (pg_name (i := 7) scLw.nd rfl (by first | exact Or.inl rfl | exact Or.inr rfl)) pgs_nil))))
      (pss_cons (ps_if (PW.pt (pw_or (pt_cmpR (op_neD hr.units) (pe_tup (pa_cons (pe_pr (pv 6) N.cls N.lan hr) (pa_cons (pv 7) pa_nil))) (pe_fu TDr hr (by rfl) (pa_cons (pv 4) pa_nil)) (nomark _)) (pw_or1 (pt_not (pt_val (pe_callB call_isi (by rfl) mIsinstance boot_isinstance (pa_cons (pv 6) (pa_cons (pe_glob (v := V.ref C) (by rfl) gRound rfl) pa_nil)))))))) (pss_one (ps_ret pe_bl)) pss_nil)
      (pss_cons (ps_set (i := 8) scLw.nd rfl (by first | exact Or.inl rfl | exact Or.inr rfl) (pe_op op_add pe_int (pe_fu TT hr (by rfl) (pa_cons (pv 2) (pa_cons (pe_callB (call_min2 rfl) (by rfl) mMin boot_min (pa_cons pe_int (pa_cons (pe_op op_fdiv pe_int (pe_callB call_len (by rfl) mLen boot_len (pa_cons (pv 4) pa_nil))) pa_nil))) pa_nil)))))
      (pss_cons (ps_if (PW.pt (pw_or (pt_cmpR (op_neD hr.units) (pe_pr (Vw.pe_owN N.mul hr (pv 5) (pv 8)) N.cls N.lan hr) (pe_op Vre.op_repA (pe_callTy call_tuple_of (by rfl) mTuple boot_tuple (pa_cons (pv 4) pa_nil)) (pv 8)) (nomark _)) (pw_or1 (pt_cmpR (Vne.op_neG (D := DR K C) mon_DR (eqG_DR N) (hr.mono (by decide))) (pe_mo0 (Vw.pe_owN N.mul hr (pv 5) (pv 8)) N.cls N.root hr) (pe_tup (pa_cons (pv 6) (pa_cons (pe_op op_mul (pv 7) (pv 8)) pa_nil))) (nomark _))))) (pss_one (ps_ret pe_bl)) pss_nil)
      (pss_cons (ps_set (i := 9) scLw.nd rfl (by first | exact Or.inl rfl | exact Or.inr rfl) (pe_ix ix_list (pe_lst (pa_cons pe_int (pa_cons (pe_op op_sub pe_int pe_int) (pa_cons pe_bl (pa_cons pe_str (pa_cons pe_non (pa_cons (pe_op op_sub pe_int (pe_op op_pow pe_int pe_int)) pa_nil))))))) (pe_fu TT hr (by rfl) (pa_cons (pv 2) (pa_cons pe_int pa_nil))) fun _ _ => rfl))
      (pss_cons (ps_set (i := 10) scLw.nd rfl (by first | exact Or.inl rfl | exact Or.inr rfl) (pe_fu TRf hr (by rfl) (pa_cons (pv 5) (pa_cons (pv 9) pa_nil))))
      (pss_cons (ps_if (PW.pt (pw_or (pt_cmpR (op_neD hr.units) (pe_ix ix_list (pv 10) pe_int fun _ _ => rfl) pe_str (nomark _)) (pw_or (pt_cmpR (op_neD hr.units) (pe_ix ix_list (pv 10) pe_int fun _ _ => rfl) (pv 9) (nomark _)) (pw_or1 (pt_cmpR op_ne (pe_callB call_isi (by rfl) mIsinstance boot_isinstance (pa_cons (pe_ix ix_list (pv 10) pe_int fun _ _ => rfl) (pa_cons (pe_bltn (v := V.ty "bool") (by rfl) mBool boot_bool rfl) pa_nil))) (pe_callB call_isi (by rfl) mIsinstance boot_isinstance (pa_cons (pv 9) (pa_cons (pe_bltn (v := V.ty "bool") (by rfl) mBool boot_bool rfl) pa_nil))) (nomark _)))))) (pss_one (ps_ret pe_bl)) pss_nil)
      (pss_cons (ps_setLc (i := 11) (own := [("_law_at", 12)]) (g := (gName 12)) (tt := tYes) (te := (tCB (fun vs H Q => ∃ p ys, vs = [.ref p] ∧ ((SqL K H p ys ∧ ∀ l, H l = none → Q (.ref l) (upd H l (.tup ys))) ∨ (SqT K H p ys ∧ Q (.ref p) H))) (tCons (tOp rCat (tSl (rSlL K) (tVar 4) (tPart (tVar 12)) tNoPart) (tSl (rSlL K) (tVar 4) tNoPart (tPart (tVar 12)))) tNil))) rfl scLw.nd rfl rfl (sw_true rfl rfl rfl (by decide +kernel)) (pi_range1 (by rfl) mRange (pa_cons (pe_callB call_len (by rfl) mLen boot_len (pa_cons (pv 4) pa_nil)) pa_nil)) (blkOk_by (own := [("_law_at", 12)]) (N := nLw) (sc := defScope sLw) (by decide +kernel)) (fun _ _ _ _ _ => (pg_name (i := 12) scLw.nd rfl (by first | exact Or.inl rfl | exact Or.inr rfl))) (fun _ _ _ _ _ => pts_nil) (fun _ _ _ _ _ => (pe_callTy call_tuple_of (by rfl) mTuple boot_tuple (pa_cons (pe_op op_cat (pe_slice sl_list (pv 4) (po_some (pv 12)) po_none) (pe_slice sl_list (pv 4) po_none (po_some (pv 12)))) pa_nil))))
      (pss_cons (ps_set (i := 13) scLw.nd rfl (by first | exact Or.inl rfl | exact Or.inr rfl) (pe_mo0 (pv 5) N.cls N.least hr))
      (pss_cons (ps_if (PW.pt (pw_or (pt_cmpR (op_notInD hr.un1) (pv 13) (pv 11) rfl) (pw_or1 (pt_cmpR (op_neD hr.units) (pe_lc (own := [("_law_one", 14)]) (g := (gName 14)) (tt := (tTest (tOp (Vo.rLtD K) (tVar 14) (tVar 13)))) (te := (tVar 14)) rfl scLw.nd (pi_list (pv 11)) (blkOk_by (own := [("_law_one", 14)]) (N := nLw) (sc := defScope sLw) (by decide +kernel)) (fun _ _ _ _ _ => (pg_name (i := 14) scLw.nd rfl (by first | exact Or.inl rfl | exact Or.inr rfl))) (fun _ _ _ _ _ => (pts_one (pt_cmpR (Vo.op_ltD hr.units) (pv 14) (pv 13) (nomark _)))) (fun _ _ _ _ _ => (pv 14))) (pe_lst pa_nil) (nomark _))))) (pss_one (ps_ret pe_bl)) pss_nil)
      (pss_cons (ps_if (pt_cmpR (op_neD hr.units) (pe_mo0 (Vw.pe_owN N.shl hr (pv 5) (pe_fu TT hr (by rfl) (pa_cons (pv 2) (pa_cons pe_int pa_nil)))) N.cls N.least hr) (pv 13) (nomark _)) (pss_one (ps_ret pe_bl)) pss_nil)
      (pss_cons (ps_setLc (i := 15) (own := [("_law_name", 16)]) (g := (gName 16)) (tt := (tTest (tOp (rIn K false) (tVar 16) (tVar 4)))) (te := (tVar 16)) rfl scLw.nd rfl rfl (sw_true rfl rfl rfl (by decide +kernel)) (pi_list (pv 3)) (blkOk_by (own := [("_law_name", 16)]) (N := nLw) (sc := defScope sLw) (by decide +kernel)) (fun _ _ _ _ _ => (pg_name (i := 16) scLw.nd rfl (by first | exact Or.inl rfl | exact Or.inr rfl))) (fun _ _ _ _ _ => (pts_one (pt_cmpR op_in_seq (pv 16) (pv 4) rfl))) (fun _ _ _ _ _ => (pv 16)))
      (pss_cons (ps_if (PW.pt (pw_or (pt_cmpR (op_neD hr.units) (pe_callB cr_sortedS (by rfl) mSorted boot_sorted (pa_cons (pe_lc (own := [("_law_name", 16)]) (g := (gName 16)) (tt := tYes) (te := (tCB (fun xs H Q => ∃ a, xs = [.str a] ∧ Q (.str a) H) (tCons (tVar 16) tNil))) rfl scLw.nd (pi_list (pv 15)) (blkOk_by (own := [("_law_name", 16)]) (N := nLw) (sc := defScope sLw) (by decide +kernel)) (fun _ _ _ _ _ => (pg_name (i := 16) scLw.nd rfl (by first | exact Or.inl rfl | exact Or.inr rfl))) (fun _ _ _ _ _ => pts_nil) (fun _ _ _ _ _ => (pe_callTy SkE.call_str_str (by rfl) mStr boot_str (pa_cons (pv 16) pa_nil)))) pa_nil)) (pe_callTy call_list_of (by rfl) mList boot_list (pa_cons (pe_mo0 (pv 5) N.cls N.taken hr) pa_nil)) (nomark _)) (pw_or1 (pt_not (pt_val (pe_callB call_isi (by rfl) mIsinstance boot_isinstance (pa_cons (pe_mo0 (pv 5) N.cls N.taken hr) (pa_cons (pe_bltn (v := V.ty "tuple") (by rfl) mTuple boot_tuple rfl) pa_nil)))))))) (pss_one (ps_ret pe_bl)) pss_nil)
      (pss_one (ps_if (pt_cmpR (op_neD hr.units) (pe_pr (pv 5) N.cls N.lan hr) (pe_callTy call_tuple_of (by rfl) mTuple boot_tuple (pa_cons (pv 4) pa_nil)) (nomark _)) (pss_one (ps_ret pe_bl)) pss_nil))))))))))))))))))))
      (pss_one (ps_ret pe_bl))), ?_⟩
    obtain ⟨l, ns, rfl, hS, k⟩ := h
    refine s_seq ?_
    refine s_forR1 (n := 4) (ea_cons ev_c ea_nil) (by decide) (fun i st H' => Ex H H' ∧ ∃ t1 t2 t3 t4 t5 t6 t7 t8 t9 t10 t11 t13 t15, st = [some (.ref l), t1, t2, t3, t4, t5, t6, t7, t8, t9, t10, t11, none, t13, none, t15, none])
      (fun H1 e1 => ⟨e1, _, _, _, _, _, _, _, _, _, _, _, _, _, rfl⟩) ?_ ?_
    · rintro i st H0 hi ⟨e0, t1, t2, t3, t4, t5, t6, t7, t8, t9, t10, t11, t13, t15, rfl⟩
      dsimp only
      have hS0 := ex_l e0 hS
      refine s_seq ?_
      refine ⟨_, rfl, _, rfl, l, ns, (i : Nat), rfl, hS0, ?_⟩
      refine ⟨_, rfl, cellOf ns (i : Nat), (i : Int), rfl, rfl, _, rfl, fun p H1 np e1 hp => ?_⟩
      have P1 : Pl H0 p 0 H1 := ⟨np, e1, hp⟩
      dsimp only
      refine s_seq ?_
      refine ⟨_, rfl, p, 3, H0, 0, rfl, by omega, P1, by omega, fun nq xs H2 nn P2 hq hxl NX => ?_⟩
      dsimp only
      refine s_seq ?_
      refine ⟨_, rfl, _, rfl, p, nq, xs, 6, Wo H2 p, 50, rfl, by omega, by omega, P2.re, by omega, wo_at hq (P1.ne nn), by omega, by omega, fun d0 ys H3 nd0 P3 hd0 y1 y2 y3 => ?_⟩
      have P3b := P2.back P3
      refine ⟨_, rfl, p, 4, Wo H3 p, 100, rfl, by omega, by omega, P3b.re, by omega, fun r H4 r1 r2 P4 => ?_⟩
      obtain ⟨j, rfl⟩ := Int.eq_ofNat_of_zero_le r1
      have hd4 : H4 d0 = some (.lst (vtx ys)) := P4.ex _ _ (wo_at hd0 (P2.ne nd0))
      have hq4 : H4 nq = some (.lst (vtx xs)) := P4.ex _ _ (wo_at (P3.ex _ _ (wo_at hq (P1.ne nn))) (P1.ne nn))
      have P4b := P3b.back P4
      have y48 : ys.length ≤ 12 := Nat.le_trans y2 (by decide)
      have hz : ys.length * (j + 1) ≤ 48 := Nat.mul_le_mul y48 (show j + 1 ≤ 4 by omega)
      have hk : (1 + (j : Int)).toNat = j + 1 := by omega
      refine ⟨1, (j : Int), rfl, rfl, d0, 1 + (j : Int), vtx ys, rfl, rfl, hd4, by omega, by omega, by rw [vtx_len, hk]; exact sz_of (by omega), fun d nd => ?_⟩
      rw [hk]
      have hrp : (List.replicate (j + 1) (vtx ys)).flatten = vtx (Vq.rp (j + 1) ys) := Vre.vtx_rp _ _
      rw [hrp]
      have La : Lns (Vq.rp (j + 1) ys) := ⟨rp_nam fun y hy => NX.1 y (y3 y hy), by rw [Vq.rp_len]; exact Nat.mul_pos (by omega) y1, by rw [Vq.rp_len, Nat.mul_comm]; omega⟩
      have l48 : (Vq.rp (j + 1) ys).length ≤ 48 := by rw [Vq.rp_len, Nat.mul_comm]; exact hz
      have hax : ∀ y ∈ Vq.rp (j + 1) ys, y ∈ xs := fun y hy => y3 y (rep_mem hy)
      generalize Vq.rp (j + 1) ys = a at La l48 hax
      have P5 : Pl H0 p 101 (upd H4 d (.lst (vtx a))) := P4b.new nd
      have dp : d ≠ p := P4b.ne nd
      have dq : nq ≠ d := fun z => by rw [z, nd] at hq4; cases hq4
      have bd : (Wo (upd H4 d (.lst (vtx a))) p) d = some (.lst (vtx a)) := wo_at upd_same dp
      have bq : (Wo (upd H4 d (.lst (vtx a))) p) nq = some (.lst (vtx xs)) := wo_at ((upd_ne dq).trans hq4) (P1.ne nn)
      have P6 := P5.re
      have be := P5.wo
      generalize upd H4 d (.lst (vtx a)) = H5 at P5 P6 bd bq be
      generalize Wo H5 p = B at P6 bd bq be
      dsimp only
      refine s_seq ?_
      refine ⟨_, rfl, fun o dx hx hdx hne => ⟨o, dx, d, H5, a, rfl, rfl, hx, hdx, hne, .inl (sq_of (P6.ex _ _ bd)), La, fun H6 e6 rR => ⟨rfl, ?_⟩⟩⟩
      have P7 := P6.grow e6
      dsimp only
      refine s_seq ?_
      obtain ⟨dx6, q6, h61, h62⟩ := id rR
      refine ⟨_, rfl, o, dx6, _, rfl, h61, rfl, o, a, rfl, rR, La, fun t r s H7 e7 nt hrt ht hr => ?_⟩
      refine ⟨t, _, rfl, st_of ht, rfl, _, _, rfl, _, _, rfl, rfl, ?_⟩
      dsimp only
      have P8 := P7.grow e7
      have rR7 := rR.mono e7
      have s1 : 1 ≤ s := hrt.1.1
      have Lr : Lns (a.take s) := lns_take La s1
      refine s_seq ?_
      refine s_if (b := false) (et_or (a := false) (b := false) (et_test (ev_unlike (d := .tuple [wd (a.take s), .int ((a.length / s : Nat) : Int)]) (ed_tup (eda_cons (ed_lan (ev_var rfl) hr) (eda_cons (ed_ev (ev_var rfl) (.int _)) eda_nil)) (by show 2 ≤ 100000; decide))
        (ed_fu (ea_cons (ev_var rfl) ea_nil) fun H8 e8 Q8 q8 E8 => ⟨d, a, rfl, e8 _ _ (P8.ex _ _ bd), La, fun v s' H9 e9 hrt' hv => q8 v H9 e9 (by rw [hrt.one hrt']; exact hv)⟩) (sh_pair Lr.1)))
        (fun _ => et_not (a := true) (et_B (ev_isR N.ins (ev_var rfl) hr)))) (fun z => by cases z) (fun _ H8 e8 => ?_)
      have P9 := P8.grow e8
      have Rb := pl_rnd P9 (rR7.mono e8)
      have Rr := pl_rnd P9 (hr.mono e8)
      have b2 := P9.wo
      have bd := b2 _ _ bd
      have bq := b2 _ _ bq
      have be := be.trans b2
      have PA := P9.re
      generalize Wo H8 p = B2 at Rb Rr b2 bd bq be PA
      clear P9 P8 P7 P6 P5 rR7 rR hr ht
      dsimp only
      refine s_seq ?_
      have la0 : (0 : Int) < (a.length : Int) := by have := La.2.1; omega
      have q4 : (4 : Int) ≤ 200 / (a.length : Int) := Int.le_ediv_of_mul_le la0 (by omega)
      have q5 : 200 / (a.length : Int) * (a.length : Int) ≤ 200 := Int.ediv_mul_le _ (by omega)
      refine ⟨_, rfl, _, rfl, .ref d, a.length, rfl, .inl ⟨vtx a, sq_of (PA.ex _ _ bd), (vtx_len a).symm⟩, 200, (a.length : Int), rfl, rfl, by unfold CDiv; omega, 8, 200 / (a.length : Int), rfl, ?_⟩
      generalize 200 / (a.length : Int) = qq at q4 q5
      have m1 : (1 : Int) ≤ if qq < 8 then qq else 8 := by split <;> omega
      have m8 : (if qq < 8 then qq else 8) ≤ (8 : Int) := by split <;> omega
      have mq : (if qq < 8 then qq else 8) ≤ qq := by split <;> omega
      generalize (if qq < 8 then qq else 8) = m at m1 m8 mq
      refine ⟨p, m, B2, _, rfl, m1, by omega, PA, by omega, fun r9 H9 g1 g2 PB => ?_⟩
      obtain ⟨k9, rfl⟩ := Int.eq_ofNat_of_zero_le g1
      have kz : (k9 + 1) * a.length ≤ 200 := by
        have h1 : ((k9 + 1 : Nat) : Int) ≤ qq := by omega
        have h2 : ((k9 + 1 : Nat) : Int) * (a.length : Int) ≤ qq * (a.length : Int) := Int.mul_le_mul_of_nonneg_right h1 (by omega)
        have h3 : (((k9 + 1) * a.length : Nat) : Int) ≤ 200 := by rw [Int.natCast_mul]; omega
        omega
      have k8 : k9 + 1 ≤ 8 := by omega
      refine ⟨_, _, rfl, rfl, ?_⟩
      dsimp only
      show tSeq _ _ _ _ _
      have hk9 : (1 : Int) + ((k9 : Nat) : Int) = ((k9 + 1 : Nat) : Int) := by omega
      rw [hk9]
      have k1 : 1 ≤ k9 + 1 := by omega
      generalize k9 + 1 = kk at kz k8 k1
      have R9 := Rb.mono PB.ex
      have r9 := Rr.mono PB.ex
      have bd9 := PB.ex _ _ bd
      refine s_seq ?_
      have hms : ∀ {H' : Hp}, Ex H9 H' → EvR K C (tOw C (spMul K C CN) (fun _ => nil0) (tVar 5) (tVar 8)) [some (.ref l), some (.int (i : Int)), some (.ref p), some (.ref nq), some (.ref d), some (.ref o), some (.ref r), some (.int ((a.length / s : Nat) : Int)), some (.int (kk : Nat)), t9, t10, t11, none, t13, none, t15, none] H' (Vq.rp kk a) := fun e => er_mul (ev_var rfl) (R9.mono e) La (ev_var rfl) k1 (by omega) (by omega)
      refine s_if (b := false) (et_or (a := false) (b := false) (et_test (ev_unlike (d := wd (Vq.rp kk a)) (ed_T (et_lanR (hms (Ex.refl _)))) (ed_T (by
          have := Vre.et_rep (K := K) (et_U (eu_tupleA (K := K) (ev_var (i := 4) rfl) (sq_of bd9))) (ev_var (σ := [some (.ref l), some (.int (i : Int)), some (.ref p), some (.ref nq), some (.ref d), some (.ref o), some (.ref r), some (.int ((a.length / s : Nat) : Int)), some (.int (kk : Nat)), t9, t10, t11, none, t13, none, t15, none]) (i := 8) rfl) (vtx_ne La.2.1) k1 (by omega) (by rw [vtx_len]; exact La.2.2)
          rw [Vre.vtx_rp] at this
          exact this)) (sh_wd (rp_nam La.1))))
        (fun _ => et_test (ev_roots (ev_var rfl) R9 La (ev_var rfl) k1 (by omega) (by omega) (ev_var rfl) r9 hrt (ev_var rfl) (ev_var rfl)))) (fun z => by cases z) (fun _ HA eA => ?_)
      dsimp only
      have PC := PB.grow eA
      have RC := pl_rnd PC (R9.mono eA)
      have bC := PC.wo
      have bd := bC _ _ bd
      have bq := bC _ _ bq
      have be := be.trans bC
      have PD := PC.re
      generalize Wo HA p = B3 at RC bC bd bq be PD
      clear PC PB PA R9 r9 bd9 hms Rb Rr
      refine s_seq ?_
      refine ⟨0, 1, rfl, rfl, 10, 30, rfl, rfl, ⟨by decide, by decide, by decide⟩, 0, _, rfl, rfl, by show 6 ≤ sizeLine; decide, fun rr nrr => ?_⟩
      have PE := PD.new (o := .lst [.int 0, .int (0 - 1), .bl true, .str (Str.ofString "2"), .non, .int (0 - 10 ^ 30)]) nrr
      have rrp := PD.ne nrr
      refine ⟨_, rfl, p, 6, Wo _ p, _, rfl, by omega, by omega, PE.re, by omega, fun r12 H12 z1 z2 PF => ?_⟩
      obtain ⟨k6, rfl⟩ := Int.eq_ofNat_of_zero_le z1
      have hrr : H12 rr = some (.lst [.int 0, .int (0 - 1), .bl true, .str (Str.ofString "2"), .non, .int (0 - 10 ^ 30)]) := PF.ex _ _ (wo_at upd_same rrp)
      obtain ⟨y, w1, hy⟩ := wrong_pick (k := k6) (by omega)
      have PG := PE.back PF
      refine ⟨rr, _, (k6 : Int), y, rfl, rfl, sq_of hrr, at_of rfl w1, ?_⟩
      dsimp only
      clear PF PE PD hrr w1
      have RG := RC.mono PG.ex
      obtain ⟨dxg, qg, hg1, hg2⟩ := id RG
      refine s_seq ?_
      refine ⟨_, rfl, _, rfl, o, y, a, rfl, RG, La, hy, fun lt H13 e13 nlt hlt => ?_⟩
      dsimp only
      refine s_seq ?_
      obtain ⟨dy, hdy, sdy⟩ := hy.data (K := K) (H := H13)
      obtain ⟨bb, hbb⟩ := ev_isW (K := K) hy
      refine s_if (b := false) (et_or (a := false) (b := false) (et_test (ev_unlike (d := .str (Str.ofString "number")) (ed_ev (ev_ixA (i := 0) (ev_var rfl) (sq_of hlt) rfl) (.str _)) (ed_ev ev_c (.str _)) (by decide +kernel)))
        (fun _ => et_or (a := false) (b := false) (et_test (ev_unlike (d := dy) (ed_ev (ev_ixA (i := 1) (ev_var rfl) (sq_of hlt) rfl) hdy) (ed_ev (ev_var rfl) hdy) sdy)) (fun _ => et_test (ev_is (ev_op (hbb _ _ _ (ev_ixA (i := 1) (ev_var rfl) (sq_of hlt) rfl)) (hbb _ _ _ (ev_var rfl)) (rv_ne rfl)) (by rw [decide_eq_true rfl]; rfl))))) (fun z => by cases z) (fun _ HH eH => ?_)
      have PH := (PG.grow e13).grow eH
      have RH := (RG.mono e13).mono eH
      have bdH := PH.ex _ _ bd
      dsimp only
      clear hlt hdy hg1 hg2
      refine s_seq ?_
      refine s_asgP (ep_lcR (n := (a.length : Int)) (R := fun j => IsT K (vtx (rot a j))) (fun _ => stay_T) (ea_cons (ev_is (ev_lenA (ev_var rfl) (sq_of bdH)) (by rw [vtx_len])) ea_nil) (by omega) (fun _ => rfl) (fun j H14 e14 hj => ep_U (eu_tupleN (el_rot (ev_var rfl) (sq_of (e14 _ _ bdH)) (ev_var rfl) (sq_of (e14 _ _ bdH)) (ev_var rfl) (ev_var rfl) La.2.2)))) fun pa xa HI na eI hpa hA => ?_
      rw [Int.toNat_natCast] at hA
      dsimp only
      have PI := PH.grow eI
      have RI := RH.mono eI
      refine s_seq ?_
      obtain ⟨dxi, qi, hi1, hi2⟩ := id RI
      refine ⟨_, rfl, o, dxi, _, rfl, hi1, rfl, o, a, rfl, RI, La, fun ql HJ eJ hql => ?_⟩
      dsimp only
      refine s_seq ?_
      have hxl : xa.length = a.length := by rw [hA.len, List.length_range]
      refine s_if (b := false) (et_or (a := false) (b := false) (et_test (fun H1 e1 Q1 q1 => ⟨_, rfl, _, rfl, wd (least a), (List.range a.length).map fun j => wd (rot a j), dp_wd (ex_t e1 hql), .lst (sq_of (e1 _ _ (eJ _ _ hpa))) (All2.dpa (R := fun j v => IsT K (vtx (rot a j)) v H1) (fun j v ⟨pp, ev, hp⟩ => by rw [ev]; exact dp_wd hp) (hA.imp fun j v hv => (stay_T (K := K)).ex (eJ.trans e1) hv)), sh_wd (least_nam La.1), sh_rots La.1 _, by
          rw [least_in La.2.1]
          exact q1 _ (Ex.refl _)⟩))
        (fun _ => et_test (ev_unlike (d := .list []) (ed_L (xs := []) (by
          have := el_lcL (K := K) (σ := [some (.ref l), some (.int (i : Int)), some (.ref p), some (.ref nq), some (.ref d), some (.ref o), some (.ref r), some (.int ((a.length / s : Nat) : Int)), some (.int (kk : Nat)), some y, some (.ref lt), some (.ref pa), none, some (.ref ql), none, t15, none]) (H := HJ) (j := 14) (vs := [14]) (te := tVar 14) (t := tTest (tOp (Vo.rLtD K) (tVar 14) (tVar 13))) (tl := tVar 11) (a := pa) (xs := xa) (fun _ => false) (fun _ => .non) (ev_var rfl) (sq_of (eJ _ _ hpa)) (by omega) (fun _ => rfl) (fun j x H1 e1 hx => ?_) (fun j x H1 e1 hx z => by cases z)
          · rw [given_none] at this
            exact this
          · obtain ⟨j', hj', pp, ev, hp⟩ := hA.get hx
            have hj2 : j' < a.length := List.mem_range.mp (List.mem_of_getElem? hj')
            subst ev
            refine et_test (fun H2 e2 Q q => ⟨_, rfl, _, rfl, wd (rot a j'), wd (least a), dp_wd (ex_t ((eJ.trans e1).trans e2) hp), dp_wd (ex_t (e1.trans e2) hql), alike_wd _ _, (fun z => nomatch z), ?_, ?_⟩)
            · have := dep_wd (rot a j')
              omega
            · have hlt2 : PySem.W.dataLt (wd (rot a j')) (wd (least a)) = false := not_less hj2
              rw [hlt2]
              exact q _ (Ex.refl _)) .nil) (ed_L (xs := []) (el_lst ea_nil (by show 0 ≤ 100000; omega)) .nil) (by decide +kernel)))) (fun z => by cases z) (fun _ HK eK => ?_)
      dsimp only
      have PK := (PI.grow eJ).grow eK
      have RK := pl_rnd PK ((RI.mono eJ).mono eK)
      have hqlK := pl_sqt PK (ex_t eK hql)
      have bK := PK.wo
      have bd := bK _ _ bd
      have bq := bK _ _ bq
      have be := be.trans bK
      have PL := PK.re
      generalize Wo HK p = B4 at RK hqlK bK bd bq be PL
      clear PK PI PH RI RH hA hpa hi1 hi2 hql
      refine s_seq ?_
      obtain ⟨dxk, qk, hk1, hk2⟩ := id RK
      refine ⟨_, rfl, _, rfl, p, 30, B4, _, rfl, by omega, by omega, PL, by omega, fun r30 HL z1 z2 PM => ?_⟩
      have RL := RK.mono PM.ex
      refine ⟨o, dxk, _, "int", rfl, PM.ex _ _ hk1, .inr (.inl ⟨_, rfl, rfl⟩), o, .int r30, a, rfl, RL, La, .inl ⟨r30, rfl, fun o2 HM eM no2 r2 => ?_⟩⟩
      obtain ⟨mm1, mm2⟩ := mod_nat (i := r30) La.2.1
      generalize (r30 % (a.length : Int)).toNat = km at mm1 mm2 r2
      have Lm : Lns (rot a km) := ⟨rot_nam La.1, by rw [rot_len]; exact La.2.1, by rw [rot_len]; exact La.2.2⟩
      obtain ⟨dxm, qm, hm1, hm2⟩ := id r2
      refine ⟨o2, dxm, _, rfl, hm1, rfl, o2, rot a km, rfl, r2, Lm, fun q2 HN eN hq2 => ?_⟩
      have ml : least (rot a km) = least a := (least_iff Lm.2.1 La.2.1).mpr (Turn.symm ⟨km, mm2, rfl⟩)
      rw [ml] at hq2
      have PN := (PM.grow eM).grow eN
      have eLN := eM.trans eN
      refine ⟨_, rfl, wd (least a), wd (least a), dp_wd hq2, dp_wd (ex_t eLN (ex_t PM.ex hqlK)), sh_wd (least_nam La.1), sh_wd (least_nam La.1), _, rfl, ?_⟩
      refine ifF (by rw [eqv_wd, decide_eq_true rfl]; decide) ?_
      dsimp only
      have RN := RL.mono eLN
      have bqN := PN.ex _ _ bq
      have bdN := PN.ex _ _ bd
      clear hm1 hm2 hk1 hk2 hq2
      refine s_seq ?_
      refine s_asgL (xs := (xs.filter fun x => decide (x ∈ a)).map fun x => V.str (tx x)) (el_lcA (ys := xs) (g := fun x => V.str (tx x)) (fun x => decide (x ∈ a)) (fun x => V.str (tx x)) (ev_var rfl) (sq_of bqN) (by omega) (fun _ => rfl) (fun x H1 e1 hx => et_test (ev_is (ev_op (ev_var rfl) (ev_var rfl) (rv_isL (sq_of (e1 _ _ bdN)) rfl (flat_tx _))) (by rw [inV_vtx]))) (fun x _ _ _ _ => ev_var rfl)) fun pd HP nd eP hpd => ?_
      dsimp only
      have RP := RN.mono eP
      obtain ⟨dxp, qp, hp1, hp2⟩ := id RP
      refine s_seq ?_
      have hfl : (xs.filter fun x => decide (x ∈ a)).length ≤ 3 := by
        have := List.length_filter_le (fun x => decide (x ∈ a)) xs
        omega
      refine s_if (b := false) (et_or (a := false) (b := false) (et_test (fun H1 e1 Q1 q1 => ?_)) (fun _ => et_not (a := true) (et_B (fun H1 e1 Q1 q1 => ?_)))) (fun z => by cases z) (fun _ HQ eQ => ?_)
      · have hA : EvL (tLc (iList K (tVar 15)) (gName 16) tYes (tCB (fun xs H Q => ∃ a, xs = [V.str a] ∧ Q (.str a) H) (tCons (tVar 16) tNil)) [16]) [some (.ref l), some (.int (i : Int)), some (.ref p), some (.ref nq), some (.ref d), some (.ref o), some (.ref r), some (.int ((a.length / s : Nat) : Int)), some (.int (kk : Nat)), some y, some (.ref lt), some (.ref pa), none, some (.ref ql), none, some (.ref pd), none] H1 ((xs.filter fun x => decide (x ∈ a)).map fun x => V.str (tx x)) :=
          el_lcM (K := K) (ys := xs.filter fun x => decide (x ∈ a)) (g := fun x => V.str (tx x)) (fun x => V.str (tx x)) (ev_var rfl) (sq_of (e1 _ _ hpd)) (by omega) (fun _ => rfl) (fun x H2 e2 hx => ev_cb (vs := [.str (tx x)]) (ea_cons (ev_var rfl) ea_nil) (fun H3 e3 Q q => ⟨_, rfl, q H3 (Ex.refl _)⟩))
        exact ev_sorted (CN := CN) hA (ev_var rfl) (RP.mono e1) La (by omega) NX hax (by omega) H1 (Ex.refl _) Q1 q1
      · exact ⟨_, rfl, o, dxp, _, rfl, e1 _ _ hp1, rfl, o, a, rfl, RP.mono e1, La, by omega, fun qt ys' H3 e3 nqt hqt ndy hky sy hly => ⟨.ref qt, V.ty "tuple", .type "tuple", .type "tuple", true, rfl, .ty _, .base (.tup hqt), kit_ty (by decide +kernel), q1 _ e3⟩⟩
      dsimp only
      have bdQ := eQ _ _ (eP _ _ bdN)
      refine s_if (b := false) (et_test (ev_unlike (d := wd a) (ed_lan (ev_var rfl) (RP.mono eQ)) (ed_Un (eu_tupleA (ev_var rfl) (sq_of bdQ))) (sh_wd La.1))) (fun z => by cases z) (fun _ HR eR => ?_)
      exact ⟨e0.trans (be.trans (PN.ex.trans (eP.trans (eQ.trans eR)))), _, _, _, _, _, _, _, _, _, _, _, _, _, rfl⟩
    · rintro st H1 ⟨e1, t1, t2, t3, t4, t5, t6, t7, t8, t9, t10, t11, t13, t15, rfl⟩
      dsimp only
      refine s_ret (v := .bl true) ev_c fun H9 _ => ?_
      exact k H9
end
end K08

set_option Elab.async false
set_option linter.all false
set_option maxRecDepth 100000
set_option maxHeartbeats 0
namespace K08
open PySem PySem.Spec PyProof.Rows L2 Vh Vw
abbrev iniBadNumber : Stmt := (clB (top 4)).getD 0 (.Pass ⟨0, 0, 0, 0⟩)
def fn : List He.DefD := [gD (top 9) "is_name", gD (top 10) "is_integer", gD (top 11) "check_name", gD (top 12) "check_sequence", gD (top 15) "least_turn", gD (top 17) "_law_cell", gD (top 18) "_law_pool", gD (top 19) "_law_take", gD (top 20) "_law_names", gD (top 21) "_law_word", gD (top 22) "_law_due_root", gD (top 23) "_law_refused", gD (top 24) "law", mD (mem 0) "Round" "__init__" "Round.__init__", mD (mem 2) "Round" "root" "Round.root", mD (mem 3) "Round" "least" "Round.least", mD (mem 4) "Round" "taken" "Round.taken", mD (mem 10) "Round" "__eq__" "Round.__eq__", mD (mem 11) "Round" "__mul__" "Round.__mul__", mD (mem 12) "Round" "__lshift__" "Round.__lshift__", mD iniBadNumber "BadNumber" "__init__" "BadNumber.__init__"]
def pr : List PrD := [(("Round", "lanes"), mD (mem 1) "Round" "lanes" "Round.lanes")]
def globals : List Str := ["Round", "BadNumber", "is_name", "is_integer", "check_name", "check_sequence", "least_turn", "_law_cell", "_law_pool", "_law_take", "_law_names", "_law_word", "_law_due_root", "_law_refused", "law"]
def frees : List Str := ["len", "int", "str", "isinstance", "range", "tuple", "list", "all", "min", "bool", "sorted", "set"]
def meths : List Str := ["root", "least", "taken", "__eq__"]
def errs : List Str := ["BadNumber"]
def fs : List Fact := [glosF globals, freesF frees, strF "LETTERS" (Vp.tx Vp.letters), strF "DIGITS" (Vp.tx Vp.digits), intF "LONGEST" 8, clsF "Round" ["_lanes"] meths, mkF "Round", prpF "Round" "lanes", takB, owF "Round" "mul", owF "Round" "lshift", insF "Round", neF "Round", errF "BadNumber" ["value"], exmF errs]
abbrev Rw : PySem.W.OpenRow := PySem.W.OpenLaw.row PySem.Challenge.rw_alsoshown_k08_multiples_of_rounds
abbrev hk : PySem.W.Hook := hookP 5 (allF fs) fn pr
def ob (s : PySem.W.SharedT) : He.AlD := obsPG 5 (allF fs) fn pr (HandSHeadRun.getT s)
theorem ob_eq (s : PySem.W.SharedT) : ob s = hk.obs s.abs := obsPG_eq (HandSHeadRun.getT_eq s)
def loose : List Str := (["_wall", "__name__", "ShowError", "BadName", "EmptyWalk", "BadNumber", "LETTERS", "DIGITS", "LONGEST", "is_name", "is_integer", "check_name", "check_sequence", "Round", "least_turn", "_law_cell", "_law_pool", "_law_take", "_law_names", "_law_word", "_law_due_root", "_law_refused"] : List Str)
theorem run (w : World) : HandSHeadRun.RunEq Rw (PySem.W.view Rw.prog [24]) hk ob 20000 loose w := by
  intro os
  kernel_rfl
end K08

set_option Elab.async false
set_option linter.all false
set_option maxRecDepth 100000
set_option maxHeartbeats 4000000
namespace K08
open PySem PySem.Spec PyProof.Rows L2 Vl Evl Vh Vc Vx2 Vw
theorem facts_ok {P : Program} {w : World} {K : PySem.W.Frag} {h : Heap} {mg : Str → Option Value} {f : Addr} (X : K.In h) (G : h.Ns mainGlobals mg) (hfa : mg ("law" : Str) = some (.ref f)) (c : SaysP (allF fs) fn pr K) :
    ∃ fd : FuncData, (∀ (s : Shared) (v : Value), BindsTo s fd ⟨[v], []⟩ [("_law_script", v)]) ∧ ∀ base : Heap, K.In base → base.Ns mainGlobals mg → FnOk P w K mg base L2.CX0 9 f fd ["_law_script"] (spLaw K) := by
  have a := c.one.1
  have gg := glos_ok X G (fact_at a 0)
  have fr := frees_ok X G (fact_at a 1)
  have gL := He.str_ok X G (fact_at a 2)
  have gDg := He.str_ok X G (fact_at a 3)
  have gO := He.int_ok X G (fact_at a 4)
  have ro := clsF_ok (fact_at a 5)
  have M := He.mkr_ok (fact_at a 6)
  have pL := prpF_ok (fact_at a 7)
  have tak := fact_at a 8
  obtain ⟨wM, zM⟩ := owF_ok (fact_at a 9)
  obtain ⟨wS, zS⟩ := owF_ok (fact_at a 10)
  have ins := insF_ok ro.cls (fact_at a 11) tak
  have ne := fact_at a 12
  have eBadNumber := fact_at a 13
  have exm := fact_at a 14
  obtain ⟨fd_is_name, D_is_name⟩ := c.def_ 0 (d := gD (top 9) "is_name") rfl
  obtain ⟨fd_is_integer, D_is_integer⟩ := c.def_ 1 (d := gD (top 10) "is_integer") rfl
  obtain ⟨fd_check_name, D_check_name⟩ := c.def_ 2 (d := gD (top 11) "check_name") rfl
  obtain ⟨fd_check_sequence, D_check_sequence⟩ := c.def_ 3 (d := gD (top 12) "check_sequence") rfl
  obtain ⟨fd_least_turn, D_least_turn⟩ := c.def_ 4 (d := gD (top 15) "least_turn") rfl
  obtain ⟨fd__law_cell, D__law_cell⟩ := c.def_ 5 (d := gD (top 17) "_law_cell") rfl
  obtain ⟨fd__law_pool, D__law_pool⟩ := c.def_ 6 (d := gD (top 18) "_law_pool") rfl
  obtain ⟨fd__law_take, D__law_take⟩ := c.def_ 7 (d := gD (top 19) "_law_take") rfl
  obtain ⟨fd__law_names, D__law_names⟩ := c.def_ 8 (d := gD (top 20) "_law_names") rfl
  obtain ⟨fd__law_word, D__law_word⟩ := c.def_ 9 (d := gD (top 21) "_law_word") rfl
  obtain ⟨fd__law_due_root, D__law_due_root⟩ := c.def_ 10 (d := gD (top 22) "_law_due_root") rfl
  obtain ⟨fd__law_refused, D__law_refused⟩ := c.def_ 11 (d := gD (top 23) "_law_refused") rfl
  obtain ⟨fd_law, D_law⟩ := c.def_ 12 (d := gD (top 24) "law") rfl
  obtain ⟨fd_m__init__, D_m__init__⟩ := c.def_ 13 (d := mD (mem 0) "Round" "__init__" "Round.__init__") rfl
  obtain ⟨fd_mroot, D_mroot⟩ := c.def_ 14 (d := mD (mem 2) "Round" "root" "Round.root") rfl
  obtain ⟨fd_mleast, D_mleast⟩ := c.def_ 15 (d := mD (mem 3) "Round" "least" "Round.least") rfl
  obtain ⟨fd_mtaken, D_mtaken⟩ := c.def_ 16 (d := mD (mem 4) "Round" "taken" "Round.taken") rfl
  obtain ⟨fd_m__eq__, D_m__eq__⟩ := c.def_ 17 (d := mD (mem 10) "Round" "__eq__" "Round.__eq__") rfl
  obtain ⟨fd_m__mul__, D_m__mul__⟩ := c.def_ 18 (d := mD (mem 11) "Round" "__mul__" "Round.__mul__") rfl
  obtain ⟨fd_m__lshift__, D_m__lshift__⟩ := c.def_ 19 (d := mD (mem 12) "Round" "__lshift__" "Round.__lshift__") rfl
  obtain ⟨fd_iBadNumber, D_iBadNumber⟩ := c.def_ 20 (d := mD iniBadNumber "BadNumber" "__init__" "BadNumber.__init__") rfl
  obtain ⟨fd_planes, D_planes⟩ := c.prp 0 (q := (("Round", "lanes"), mD (mem 1) "Round" "lanes" "Round.lanes")) rfl
  have e := hfa.symm.trans (gg "law" (by decide))
  cases e
  have b := FunD.bindsA (ps := ["_law_script"]) D_law fun _ _ _ _ _ _ us hl => match us, hl with | [_], _ => rfl
  have b_is_name : L2.Binds K fd_is_name ["value"] [] := FunD.bindsN D_is_name fun _ _ _ _ _ _ us hl => match us, hl with | [_], _ => rfl
  have b_is_integer : L2.Binds K fd_is_integer ["value"] [] := FunD.bindsN D_is_integer fun _ _ _ _ _ _ us hl => match us, hl with | [_], _ => rfl
  have b_check_name : L2.Binds K fd_check_name ["value"] [] := FunD.bindsN D_check_name fun _ _ _ _ _ _ us hl => match us, hl with | [_], _ => rfl
  have b_check_sequence : L2.Binds K fd_check_sequence ["names"] [] := FunD.bindsN D_check_sequence fun _ _ _ _ _ _ us hl => match us, hl with | [_], _ => rfl
  have b_least_turn : L2.Binds K fd_least_turn ["lanes"] [] := FunD.bindsN D_least_turn fun _ _ _ _ _ _ us hl => match us, hl with | [_], _ => rfl
  have b__law_cell : L2.Binds K fd__law_cell ["_law_script", "_law_k"] [] := FunD.bindsN D__law_cell fun _ _ _ _ _ _ us hl => match us, hl with | [_, _], _ => rfl
  have b__law_pool : L2.Binds K fd__law_pool ["_law_cell_here"] [] := FunD.bindsN D__law_pool fun _ _ _ _ _ _ us hl => match us, hl with | [_], _ => rfl
  have b__law_take : L2.Binds K fd__law_take ["_law_pool_here", "_law_many"] [] := FunD.bindsN D__law_take fun _ _ _ _ _ _ us hl => match us, hl with | [_, _], _ => rfl
  have b__law_names : L2.Binds K fd__law_names ["_law_pool_here", "_law_many"] [] := FunD.bindsN D__law_names fun _ _ _ _ _ _ us hl => match us, hl with | [_, _], _ => rfl
  have b__law_word : L2.Binds K fd__law_word ["_law_pool_here", "_law_names_here", "_law_most"] [] := FunD.bindsN D__law_word fun _ _ _ _ _ _ us hl => match us, hl with | [_, _, _], _ => rfl
  have b__law_due_root : L2.Binds K fd__law_due_root ["_law_word_here"] [] := FunD.bindsN D__law_due_root fun _ _ _ _ _ _ us hl => match us, hl with | [_], _ => rfl
  have b__law_refused : L2.Binds K fd__law_refused ["_law_ring", "_law_number"] [] := FunD.bindsN D__law_refused fun _ _ _ _ _ _ us hl => match us, hl with | [_, _], _ => rfl
  have b_m__init__ : L2.Binds K fd_m__init__ ["self", "lanes"] [] := FunD.bindsN D_m__init__ fun _ _ _ _ _ _ us hl => match us, hl with | [_, _], _ => rfl
  have b_mroot : L2.Binds K fd_mroot ["self"] [] := FunD.bindsN D_mroot fun _ _ _ _ _ _ us hl => match us, hl with | [_], _ => rfl
  have b_mleast : L2.Binds K fd_mleast ["self"] [] := FunD.bindsN D_mleast fun _ _ _ _ _ _ us hl => match us, hl with | [_], _ => rfl
  have b_mtaken : L2.Binds K fd_mtaken ["self"] [] := FunD.bindsN D_mtaken fun _ _ _ _ _ _ us hl => match us, hl with | [_], _ => rfl
  have b_m__eq__ : L2.Binds K fd_m__eq__ ["self", "other"] [] := FunD.bindsN D_m__eq__ fun _ _ _ _ _ _ us hl => match us, hl with | [_, _], _ => rfl
  have b_m__mul__ : L2.Binds K fd_m__mul__ ["self", "other"] [] := FunD.bindsN D_m__mul__ fun _ _ _ _ _ _ us hl => match us, hl with | [_, _], _ => rfl
  have b_m__lshift__ : L2.Binds K fd_m__lshift__ ["self", "other"] [] := FunD.bindsN D_m__lshift__ fun _ _ _ _ _ _ us hl => match us, hl with | [_, _], _ => rfl
  have b_iBadNumber : L2.Binds K fd_iBadNumber ["self", "value"] [] := FunD.bindsN D_iBadNumber fun _ _ _ _ _ _ us hl => match us, hl with | [_, _], _ => rfl
  have b_planes : L2.Binds K fd_planes ["self"] [] := FunD.bindsN D_planes fun _ _ _ _ _ _ us hl => match us, hl with | [_], _ => rfl
  refine ⟨fd_law, fun s v => b s [v] rfl, fun base _ _ => ?_⟩
  have E_BadNumber : Err1 P w K mg base "BadNumber" "value" (He.ga K "BadNumber") := err1_of eBadNumber tak (gg "BadNumber" (by decide)) (ok_ini1 (f := "value") D_iBadNumber ⟨rfl, rfl, rfl, by decide +kernel, rfl, by decide +kernel, by decide +kernel⟩ rfl (errB_ok (He.ba eBadNumber).1 tak).1 ((iniB_ok (He.ba eBadNumber).2).no "value" (by decide)) (by decide) (by decide)) b_iBadNumber
  have G_isname := ok_isname (P := P) (w := w) (base := base) D_is_name (fr "isinstance" (by decide)) (fr "str" (by decide)) (fr "len" (by decide)) (fr "all" (by decide)) gL gDg gO
  have G_chkn := ok_chkn D_check_name D_is_name (gg "is_name" (by decide)) G_isname
  have G_chks := ok_chks D_check_sequence D_check_name (gg "check_name" (by decide)) (fr "len" (by decide)) G_chkn
  have G_isint := ok_isint (P := P) (w := w) (base := base) D_is_integer (fr "isinstance" (by decide)) (fr "int" (by decide)) (fr "bool" (by decide))
  have G_lt := ok_least (P := P) (w := w) (base := base) D_least_turn (fr "len" (by decide)) (fr "range" (by decide))
  have G_ini := ok_ini D_m__init__ ro.cls (ro.no "_lanes" (by decide)) D_check_sequence (gg "check_sequence" (by decide)) (fr "tuple" (by decide)) G_chks
  have G_lanes := ok_lanes (P := P) (w := w) (base := base) (mg := mg) D_planes ro.cls (ro.no "_lanes" (by decide))
  have TR : Nw P w K mg base (He.ga K "Round") L2.CX0 4 "Round" (spIniR K (He.ga K "Round")) := ⟨_, _, _, G_ini, M, b_m__init__, (gg "Round" (by decide))⟩
  have TLt : Fu P w K mg base L2.CX0 1 "least_turn" (spLeast K) := .of G_lt (gg "least_turn" (by decide)) D_least_turn.kp b_least_turn
  have TIi : Fu P w K mg base L2.CX0 1 "is_integer" (spIsInt K) := .of G_isint (gg "is_integer" (by decide)) D_is_integer.kp b_is_integer
  have G_root := ok_root D_mroot ro.cls (ro.no "_lanes" (by decide)) TR (fr "len" (by decide))
  have G_leastM := ok_leastM D_mleast ro.cls (ro.no "_lanes" (by decide)) TLt
  have G_taken := ok_taken (P := P) (w := w) (base := base) D_mtaken ro.cls (ro.no "_lanes" (by decide)) (fr "tuple" (by decide)) (fr "sorted" (by decide)) (fr "set" (by decide))
  have G_mul := ok_mul D_m__mul__ ro.cls (ro.no "_lanes" (by decide)) TIi E_BadNumber TR
  have G_eq := ok_eq D_m__eq__ ins (ro.no "_lanes" (by decide)) (fr "isinstance" (by decide)) (gg "Round" (by decide)) D_least_turn (gg "least_turn" (by decide)) G_lt
  obtain ⟨fE, fdE, iC, tI, bE, GE⟩ := E_BadNumber.ini
  have G_shl := ok_shl D_m__lshift__ ro.cls (ro.no "_lanes" (by decide)) (fr "len" (by decide)) D_is_integer (gg "is_integer" (by decide)) G_isint E_BadNumber.T iC tI (gg "BadNumber" (by decide)) bE GE (gg "Round" (by decide)) M b_m__init__ G_ini
  have N : RB P w K mg base (He.ga K "Round") (He.ga K "BadNumber") :=
    { cls := ro.cls
      ins := ins
      new := TR
      lan := ⟨_, _, _, _, G_lanes, pL, b_planes⟩
      root := ⟨_, _, _, G_root, ro.me "root" (by decide), b_mroot⟩
      least := ⟨_, _, _, G_leastM, ro.me "least" (by decide), b_mleast⟩
      taken := ⟨_, _, _, G_taken, ro.me "taken" (by decide), b_mtaken⟩
      mul := ⟨⟨_, _, _, G_mul, wM, b_m__mul__⟩, zM⟩
      shl := ⟨⟨_, _, _, G_shl, wS, b_m__lshift__⟩, zS⟩
      eq := ⟨_, _, ro.me "__eq__" (by decide), ne, b_m__eq__, G_eq⟩ }
  have TCe : Fu P w K mg base L2.CX0 1 "_law_cell" (spCell K) := .of (ok_cell D__law_cell (fr "len" (by decide))) (gg "_law_cell" (by decide)) D__law_cell.kp b__law_cell
  have TPo : Fu P w K mg base L2.CX0 1 "_law_pool" Vp.spPool := .of (ok_pool D__law_pool (fr "int" (by decide))) (gg "_law_pool" (by decide)) D__law_pool.kp b__law_pool
  have TT : Fu P w K mg base L2.CX0 1 "_law_take" Vp.spTake := .of (ok_take D__law_take (fr "int" (by decide))) (gg "_law_take" (by decide)) D__law_take.kp b__law_take
  have TNa : Fu P w K mg base L2.CX0 2 "_law_names" Vp.spNames := .of (ok_names D__law_names D__law_take (gg "_law_take" (by decide)) (fr "int" (by decide)) (fr "len" (by decide)) (fr "range" (by decide))) (gg "_law_names" (by decide)) D__law_names.kp b__law_names
  have TWd : Fu P w K mg base L2.CX0 2 "_law_word" Vp.spWord := .of (ok_word D__law_word D__law_take (gg "_law_take" (by decide)) (fr "int" (by decide)) (fr "len" (by decide)) (fr "range" (by decide))) (gg "_law_word" (by decide)) D__law_word.kp b__law_word
  have TDr : Fu P w K mg base L2.CX0 1 "_law_due_root" (spDr K) := .of (ok_dr D__law_due_root (fr "tuple" (by decide)) (fr "len" (by decide)) (fr "range" (by decide))) (gg "_law_due_root" (by decide)) D__law_due_root.kp b__law_due_root
  have TRf : Fu P w K mg base L2.CX0 7 "_law_refused" (spRf K (He.ga K "Round")) := .of (ok_rf D__law_refused N E_BadNumber (by
    have := exmF_ok exm (x := "BadNumber") (y := "BadNumber") (by decide) (by decide)
    rw [decide_eq_true rfl] at this
    exact this)) (gg "_law_refused" (by decide)) D__law_refused.kp b__law_refused
  exact (ok_law D_law N TCe TPo TT TNa TWd TDr TRf (gg "Round" (by decide)) (fr "tuple" (by decide)) (fr "len" (by decide)) (fr "range" (by decide)) (fr "isinstance" (by decide)) (fr "bool" (by decide)) (fr "min" (by decide)) (fr "list" (by decide)) (fr "str" (by decide)) (fr "sorted" (by decide))).mono (by decide)
end K08
open PySem PySem.W PySem.Calls PyProof.Rows
theorem PySem.Challenge.cw_alsoshown_k08_multiples_of_rounds_holds : PySem.Challenge.rw_alsoshown_k08_multiples_of_rounds.Holds := by
  w_on; o_law
  refine HandSHeadRun.head_any (r := OpenLaw.row PySem.Challenge.rw_alsoshown_k08_multiples_of_rounds) (q := view (OpenLaw.row PySem.Challenge.rw_alsoshown_k08_multiples_of_rounds).prog [24]) (H := K08.hk) (ob := K08.ob) (M := 20000) (loose := K08.loose)
    (d := HandSHeadRun.topDef (OpenLaw.row PySem.Challenge.rw_alsoshown_k08_multiples_of_rounds).prog 24) (kwd := []) K08.ob_eq
    (by kernel_rfl) (fun s => by kernel_rfl) K08.run (by kernel_rfl) (by kernel_rfl) (by kernel_rfl) (by rfl) (by first | assumption | decide +kernel) (by decide +kernel) ⟨rfl, rfl, rfl, rfl, rfl, by decide +kernel⟩ ?hw ?hc
  case hw => w_witness2
  case hc =>
    refine L2.walk_ofE (l := PySem.Challenge.rw_alsoshown_k08_multiples_of_rounds) (n := 63) (k := 9) (x := "_law_script") (CX := L2.CX0) rfl (by decide) (by kernel_rfl) ⟨rfl, by decide, by decide⟩ ?F (fun _ _ _ _ z => z)
    intro w mg fa h Y G hmg0
    obtain ⟨K, KX, c⟩ := Y
    have hmg : mg ("law" : PySem.Str) = some (.ref fa) := by
      have e : (HandSHeadRun.topDef (OpenLaw.row PySem.Challenge.rw_alsoshown_k08_multiples_of_rounds).prog 24).name = ("law" : PySem.Str) := by kernel_rfl
      rw [← e]
      exact hmg0
    obtain ⟨fd, hb, hF⟩ := K08.facts_ok (P := (PySem.Challenge.rw_alsoshown_k08_multiples_of_rounds).prog) (w := w) KX G hmg c
    exact ⟨K, fd, K08.spLaw K, KX, hb, fun H a ns hl _ hS => ⟨a, ns, rfl, hS, fun _ => rfl⟩, hF⟩
#print axioms PySem.Challenge.cw_alsoshown_k08_multiples_of_rounds_holds
