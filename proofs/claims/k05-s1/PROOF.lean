import PyProof.Rows.All
import Wide.All
import OpenK.AllK
import Wide.FinOn
import HandS.ForMost
import HandS.ForExc
import HandS.ExcInit
import HandS.IsInst
import HandS.ExcField
import HandS.HeadHook1
import KE.KExcIs
import KE.KStateDown
import KE.KIsAll
import Lean
import HandS.Defaults
import HandS.Head0
import HandS.Head1
import HandS.Head2
import HandS.HeadEnd
import HandS.HeadHook2
import HandS.EndBits
import HandS.Wide
import HandS.Evl
import PyProof.Rows.ReprOcc
import HandS.LawCells
import HandS.Property
import HandS.CallSlots
import HandS.TupAny
import KE.KOpsOwn
import PyProof.InstNe
import KE.LtData
import KE.DataCmp
import PyProof.EqAt
import PyProof.EqKinds
import PyProof.TupleCall
import HandS.Base
import HandS.Call
import HandS.Exc
import HandS.ExcOwn
import HandS.RevTup
import HandS.More
import KE.KDictList
import PyProof.TupleOps
import HandS.Walk
import HandS.Style
import HandS.Steps
import HandS.Dict
import HandS.Small
import HandS.WordsDict
import KE.GoesEnum
import HandS.Iter
import HandS.DictComp
import PySem.Challenge.RW_alsoshown_k05_walks_and_ways
set_option Elab.async false
set_option linter.all false
set_option maxRecDepth 100000
set_option maxHeartbeats 2000000
/-! Exceptions of the program as values: made by a call, kept, read, asked for their class. -/
namespace Vx
open PySem PySem.Spec PyProof.Rows L2
section
variable {X : Cx} {C fI : Addr} {k : Nat} {fd : FuncData} {ps : List Str}
variable {sp : Sp} {e : Expr} {es : List Expr} {ta : TA} {te : TE} {x f : Str}
variable {p pos : Pos}
/-- C(e, ..) for a value: the exception stays tracked -/
def tMkV (C : Addr) (sp : Sp) (ta : TA) : TE := fun st H Q =>
  ta st H fun vs H1 => vs.length ≤ 1000 ∧ ∀ a, H1 a = none →
    sp (.ref a :: vs) (upd H1 a (exo a C none))
      (fun v H2 => v = .non ∧ Q (.ref a) H2) (fun _ _ _ => False)
theorem pe_mkV (T : OexC X.K C)
    (iC : PySem.W.findIn X.K (.ref C) "__init__" = some (some (.ref fI)))
    (tI : PySem.W.typeIn X.K (.ref fI) = some (.type "function"))
    (F1 : FnOk X.prog X.w X.K X.mg X.base CX0 k fI fd ps sp)
    (hr : Room (k + 1) X.A) (hb : Binds X.K fd ps []) (hg : Gl X x)
    (hm : X.mg x = some (.ref C)) (ha : PA X (e :: es) ta)
    (hdb : (x == ("__debug__" : Str)) = false := by decide)
    (he : starEach (e :: es) X.env = (false, eval e X.env) :: starEach es X.env := by rfl)
    (hpl : (backTo pos (starEach es X.env)).any (·.1) = false := by rfl) :
    PE X (.Call (.Name x p) (e :: es) [] pos) (tMkV C sp ta) := by
  refine ⟨fun pins s σ H Q I h => ?_⟩
  obtain ⟨nm, q, N, bs, bm, sn, sub, ab, col, dd, k0, k1, k2, k3, k5, hC, hbm⟩ := T.cls
  refine wpAny_Call_Name_kw (ld_glob I hg hm ?_ hdb)
  refine PySem.W.callWith_K (h₀ := X.base) I.ok.mod.kin T.kC ?_ he hpl
  refine thn (ha.run pos pins s σ H _ I h) ?_
  rintro us s1 ⟨vs, H1, I1, r1, hz, q1⟩
  refine ⟨I1.kIn, ?_⟩
  show wpAny _ _ (call (.ref C) us) _ _ _
  obtain ⟨hp, g, dr, tk, os⟩ := s1
  let h2 : Heap := (hp.push (PySem.W.kdv_tup us)).push (PySem.HandSPX.excO C hp.objs.size)
  have hsz : hp.objs.size ≤ hp.objs.size + 1 := Nat.le_succ _
  have hn : H1 (hp.objs.size + 1) = none := I1.hok.fresh hsz
  have hq := q1 (hp.objs.size + 1) hn
  have kk : ∀ b o, hp.get? b = some o → h2.get? b = some o := by
    intro b o eb
    exact Heap.get?_push_of_some _ (Heap.get?_push_of_some _ eb)
  have hget : h2.get? (hp.objs.size + 1) = some (PySem.HandSPX.excO C hp.objs.size) := by
    show ((hp.push _).push _).get? _ = _
    heap_get
  have I2 : Inv X pins σ (upd H1 (hp.objs.size + 1) (exo (hp.objs.size + 1) C none)) ⟨h2, g, dr, tk, os⟩ :=
    Inv.laid (s := ⟨hp, g, dr, tk, os⟩) (t' := tk) I1 kk hsz (exo_ok hget)
  have r2 : Vals (V.ref (hp.objs.size + 1) :: vs) (Value.ref (hp.objs.size + 1) :: us) := .cons rfl r1
  have hl : (Value.ref (hp.objs.size + 1) :: us ++ []).length = ps.length := by
    have e1 := r2.length
    rw [F1.len _ _ _ _ hq] at e1
    rw [List.append_nil]
    exact e1.symm
  have hus : us.length ≤ sizeLine := by
    have e1 := Paired.length r1
    rw [sizeLine_eq]
    omega
  have hbb := hb ⟨h2, g, dr, tk, os⟩ (Value.ref (hp.objs.size + 1) :: us) I2.kIn hl
  rw [List.append_nil] at hbb
  have run := F1.run (X.A.under (.builtin "type.__call__" ⟨.ref C :: us, []⟩)) X.stack
    ⟨h2, g, dr, tk, os⟩ _ ⟨Value.ref (hp.objs.size + 1) :: us, []⟩
    (Value.ref (hp.objs.size + 1) :: us) _ _ (fun _ _ _ => False)
    (hr.make C us []) (I2.env0.make C us []) hbb r2 hq
  refine wpAny_call ?_
  refine PySem.HandSPX.call_own F.excBase_ValueError
    (fun Y => PySem.HandSPX.refsVE_contains Y bm hbm) (I1.kIn _ _ hC)
    (PySem.W.looks_findIn I1.kIn iC) (fun self => PySem.W.bind_fn I1.kIn self tI) hus ?_
  refine codeAny_mono run ?_
  intro r s' hq'
  cases r with
  | error er => exact (hq' : False).elim
  | ok fl =>
    cases fl with
    | ret u =>
      obtain ⟨v, H2, os2, bare2, un2, hok2, rv, ev, q2⟩ := hq'
      subst ev
      have J := I2.call' (ch := []) os2 un2 hok2 bare2 (fun b z => absurd z (by simp))
      exact ⟨rv, .ref (hp.objs.size + 1), H2, J, rfl, q2⟩
    | next => exact False.elim hq'
    | brk => exact False.elim hq'
    | cont => exact False.elim hq'
/-- C() for a value, C without an own __init__ -/
def tMkP (C : Addr) : TE := fun _ H Q => ∀ a, H a = none → Q (.ref a) (upd H a (exo a C none))
theorem pe_mkP (q : PySem.W.excIn X.K C He.veBase "ValueError.__new__" = true)
    (gC : X.mg x = some (.ref C)) (kC : PySem.W.keepIn X.K (.ref C) = true) (hg : Gl X x)
    (hdb : (x == ("__debug__" : Str)) = false := by decide) :
    PE X (.Call (.Name x p) [] [] pos) (tMkP C) := by
  refine ⟨fun pins s σ H Q I h => ?_⟩
  refine wpAny_Call_Name_kw (ld_glob I hg gC ?_ hdb)
  refine PySem.W.callWith_K0 I.kIn kC ?_
  obtain ⟨bm, N, nm, qn, bs, hdct, sn, sub, ab, col, dd, k0, k1, k2, k3, k5, mN, hC, hN, hni, T⟩ := exc_obj I.kIn q
  obtain ⟨hp, g, dr, tk, os⟩ := s
  refine wpAny_call_exc_subT PySem.F.excBase_ValueError T hC hN hni (fun h' a hm => ?_) (by show 0 ≤ sizeLine; omega)
  have hn : H a = none := I.hok.gone hm.new
  obtain ⟨t, ht, _, _⟩ := hm.there
  refine ⟨.ref a, upd H a (exo a C none), ?_, rfl, h a hn⟩
  have un : Un X.fs [] H (upd H a (exo a C none)) hp h' := {
    keep := fun b u y _ _ _ => hm.keeps b u y
    slot := fun b u y _ _ _ => ⟨u.slots, hm.keeps b u y⟩
    free := fun b u y n _ => by
      rw [upd_ne (fun z => by rw [z, hm.new] at y; cases y)]
      exact n
    there := fun b u y _ => ⟨u, hm.keeps b u y⟩
    tups := fun b xs y => by rw [upd_ne (ne_of_none y hn)]; exact y
    frzs := fun b u xs y => by rw [upd_ne (ne_of_none y hn)]; exact y
    tbls := fun b ps y => ⟨#[], by rw [upd_ne (ne_of_none y hn), y]; simp⟩ }
  refine I.un (t' := tk) un ?_
  intro b u e
  by_cases hb : b = a
  · subst hb
    rw [upd_same] at e
    cases e
    exact exo_ok ht
  · rw [upd_ne hb] at e
    refine (I.hok b u e).stay (fun c v _ y => hm.keeps c v y) (fun c y => ?_) (fun c xs y => ?_)
    · rw [upd_ne (ne_of_none y hn)]; exact y
    · rw [upd_ne (ne_of_none y hn)]; exact y
/-- e.f, e an exception that is kept -/
def tXv (K : PySem.W.Frag) (f : Str) (te : TE) : TE := fun st H Q => te st H fun x H1 =>
  ∃ (a C d : Addr) (fs : List (Str × V)) (v : V), x = .ref a ∧ XfC K C ∧
    PySem.W.findIn K (.ref C) f = some none ∧ H1 a = some (exo a C (some d)) ∧
    H1 d = some (exd d fs) ∧ fs.lookup f = some v ∧ Q v H1
theorem inst_of {P : Program} {w : World} {H : Hp} {h : Heap} {a C : Addr}
    (hok : HOk P w H h) (e : H a = some (exo a C none)) :
    ∃ ob, PySem.W.InstAt h a ob C none := by
  obtain ⟨t1, ho⟩ := exo_at hok e
  exact ⟨_, ho, rfl, rfl, trivial⟩
theorem inst_of2 {P : Program} {w : World} {H : Hp} {h : Heap} {a C d : Addr} {fs : List (Str × V)}
    (hok : HOk P w H h) (e : H a = some (exo a C (some d))) (ed : H d = some (exd d fs)) :
    ∃ ob od, PySem.W.InstAt h a ob C (some od) ∧ h.get? d = some od := by
  obtain ⟨t1, ho⟩ := exo_at hok e
  obtain ⟨mA, hns, rel⟩ := exd_at hok ed
  obtain ⟨od, es, ep, hd, hr⟩ := hns
  exact ⟨_, od, ⟨ho, rfl, rfl, hd⟩, hd⟩
theorem pe_xv (he : PE X e te)
    (hb : attributeBase e f X.env (eval e X.env) = eval e X.env := by rfl) :
    PE X (.Attribute e f pos) (tXv X.K f te) := by
  refine ⟨fun pins s σ H Q I h => ?_⟩
  refine attr_of hb (thn (he.run pins s σ H _ I h) fun u s1 hh => ?_)
  obtain ⟨y, H1, I1, rx, a, C, d, fs, v, ex, T, hno, ea, ed, l, q⟩ := hh
  subst ex
  obtain rfl : u = Value.ref a := rx
  obtain ⟨t1, ho⟩ := exo_at I1.hok ea
  obtain ⟨mA, hns, rel⟩ := exd_at I1.hok ed
  obtain ⟨od, hd, hl⟩ := lookIn_ns hns
  have e1 : RelO (some v) (mA f) := by
    rw [← l]
    exact rel f
  obtain ⟨u2, hu, ru⟩ := RelO.some_of e1
  have J : PySem.W.InstAt s1.heap a _ C (some od) := ⟨ho, rfl, rfl, hd⟩
  exact HandSPX.exc_get I1.kIn J T.ga T.gg T.exC (PySem.W.findObj_own T.hdC hno rfl (by rw [hl, hu])) (handed_of ru) ⟨v, H1, I1.tok _, ru, q⟩
/-- what a class of errors must say so that isinstance is answered -/
structure IsC (K : PySem.W.Frag) (C : Addr) : Prop where
  hc : (PySem.W.clsIn K C).isSome = true
  hg : PySem.W.findIn K (.ref C) "__getattribute__" = some (some (.builtin "BaseException.__getattribute__"))
  hk : PySem.W.findIn K (.ref C) "__getattr__" = some none
  hs : PySem.W.subIn K (.ref C) (.type "BaseException") = some true
  ha : PySem.W.findIn K (.ref C) "__class__" = some (some (.builtin "object.__class__"))
  hn : PySem.W.specialIn K (.builtin "object.__class__") "__get__" = some (some (.builtin "getset_descriptor.__get__"))
  ht : PySem.W.takesIn K (.builtin "object.__class__") = some true
  hm : PySem.W.mroIn K C (.type "object") = some true
/-- at a stands an exception of the class at C -/
def ExAt (H : Hp) (a C : Addr) : Prop :=
  H a = some (exo a C none) ∨ ∃ d fs, H a = some (exo a C (some d)) ∧ H d = some (exd d fs)
def rIsV (K : PySem.W.Frag) : List V → Hp → VK → Prop := fun xs H Q =>
  ∃ (a C : Addr) (c : V) (cv : Value) (b : Bool), xs = [.ref a, c] ∧ (∀ u, RelV c u → u = cv) ∧
    ExAt H a C ∧ IsC K C ∧ PySem.W.kitOne K (.ref C) cv = some b ∧ Q (.bl b) H
theorem call_isV : CallR X (.builtin "isinstance") (rIsV X.K) := by
  intro pins s σ H xs us Q I r h
  obtain ⟨a, C, c, cv, b, rfl, hcv, ex, T, e1, q⟩ := h
  obtain ⟨u1, u2, rfl, r1, r2⟩ := vals2 r
  obtain rfl := hcv _ r2
  obtain rfl : u1 = Value.ref a := r1
  have done : ∀ tk, EP X pins σ Q (.bool b) { s with toks := tk } := fun tk => ⟨.bl b, H, I.tok tk, rfl, q⟩
  rcases ex with ex | ⟨d, fs, ex, ed⟩
  · obtain ⟨ob, J⟩ := inst_of I.hok ex
    exact PySem.W.kia_one (PySem.W.kitx_exc T.hc T.hg T.hk T.hs T.ha T.hn T.ht T.hm) I.kIn J e1 (fun z => nomatch z) done
  · obtain ⟨ob, od, J, _⟩ := inst_of2 I.hok ex ed
    exact PySem.W.kia_one (PySem.W.kitx_exc T.hc T.hg T.hk T.hs T.ha T.hn T.ht T.hm) I.kIn J e1 (fun z => nomatch z) done
end
end Vx

set_option Elab.async false
set_option linter.all false
set_option maxRecDepth 100000
set_option maxHeartbeats 2000000
/-! The head: facts by one Bool of the written part, defs by data. -/
namespace Vh
open PySem PySem.Spec PyProof.Rows L2
abbrev Fg := PySem.W.Frag
def obsB (f : Fg → Bool) (fn : List He.DefD) (K : Fg) : He.AlD :=
  (f K && fn.all fun d => d.ok K, fn.map fun d => He.fnW K d.at_)
def SaysB (f : Fg → Bool) (fn : List He.DefD) (K : Fg) : Prop := obsB f fn K = He.valD fn
def obsBG (n : Nat) (f : Fg → Bool) (fn : List He.DefD) (g : Addr → Option Obj) : He.AlD :=
  obsB f fn (He.frG g (He.asD g n))
def hookB (n : Nat) (f : Fg → Bool) (fn : List He.DefD) : PySem.W.Hook where
  α := He.AlD
  obs := fun s => obsBG n f fn s.heap.get?
  val := fun _ => He.valD fn
  says := fun _ h => ∃ K : Fg, K.In h ∧ SaysB f fn K
  of := fun _ _ e => ⟨_, He.frG_in, e⟩
  keeps := fun _ _ _ ⟨K, hK, c⟩ k => ⟨K, PySem.W.Frag.In.keeps hK k, c⟩
theorem obsBG_eq {n : Nat} {f : Fg → Bool} {fn : List He.DefD} {g : Addr → Option Obj} {s : Shared}
    (h : ∀ a, g a = s.heap.get? a) : obsBG n f fn g = (hookB n f fn).obs s := by
  have e : g = s.heap.get? := funext h
  rw [e] <;> rfl
section
variable {f : Fg → Bool} {fn : List He.DefD} {K : Fg}
theorem SaysB.fact (c : SaysB f fn K) : f K = true :=
  (He.ba (show (f K && fn.all fun d => d.ok K) = true from congrArg (fun z : He.AlD => z.1) c)).1
theorem SaysB.def_ (c : SaysB f fn K) (i : Nat) {d : He.DefD} (h : fn[i]? = some d := by rfl) :
    ∃ fd, FunD K d.name d.qual d.params d.body d.scope (d.dvs K) (d.kws K) (He.fAd K d.at_) fd := by
  have c2 := (He.ba (show (f K && fn.all fun d => d.ok K) = true from congrArg (fun z : He.AlD => z.1) c)).2
  have e : fn.map (fun d => He.fnW K d.at_) = fn.map He.DefD.val := congrArg (fun z : He.AlD => z.2) c
  have e2 : (fn.map fun d => He.fnW K d.at_)[i]? = (fn.map He.DefD.val)[i]? := by rw [e]
  rw [List.getElem?_map, List.getElem?_map, h] at e2
  exact He.DefD.funD (Option.some.inj e2) (List.all_eq_true.mp c2 d (List.mem_of_getElem? h))
end
/-- a def of the top, a method of a class of the top -/
def gD (st : Stmt) (x : Str) : He.DefD := ⟨(x, none), x, x, defArgs st, defBody st, defScope st, [], []⟩
def mD (st : Stmt) (c m q : Str) : He.DefD := ⟨(c, some m), m, q, defArgs st, defBody st, defScope st, [], []⟩
/-! the errors' classes -/
def headB (K : Fg) (C : Addr) (bm : List Value) (sl : List (Option Value)) (cd : ClassData) : Bool :=
  match sl with
  | [_, _, _, _, some (.builtin n), _] =>
    n == "ValueError.__new__" && (!cd.hasDel && (cd.hasDict && PySem.HandSPX.refsVE bm))
  | _ => false
def oexB (K : Fg) (C : Addr) : Bool :=
  match K.lookup C with
  | some ⟨.type "type", _, .cls cd, sl⟩ => (match cd.mro with
    | .ref D :: bm => D == C && headB K C bm sl.toList cd
    | _ => false)
  | _ => false
theorem oexB_ok {K : Fg} {C : Addr} (h : oexB K C = true) :
    ∃ nm q N bs bm sn sub ab col dd k0 k1 k2 k3 k5,
      K.lookup C = some (excClassObj nm q C N bs bm true sn sub ab col dd k0 k1 k2 k3 k5 "ValueError.__new__") ∧
        PySem.HandSPX.refsVE bm = true := by
  unfold oexB at h
  split at h
  · rename_i dd cd sl ho
    split at h
    · rename_i D bm hm
      obtain ⟨h1, h2⟩ := He.ba h
      unfold headB at h2
      split at h2
      · rename_i k0 k1 k2 k3 n k5 hs
        simp only [Bool.and_eq_true, beq_iff_eq, Bool.not_eq_true'] at h1 h2
        obtain ⟨h3, h4, h5, h6⟩ := h2
        subst h1 h3
        obtain ⟨nm, bs, mro, ns, qn, hd, sn, sub, ab, col, del⟩ := cd
        dsimp only at hm h4 h5
        subst hm h4 h5
        obtain ⟨l⟩ := sl
        dsimp only at hs
        subst hs
        exact ⟨nm, qn, ns, bs, bm, sn, sub, ab, col, dd, k0, k1, k2, k3, k5, ho, h6⟩
      · cases h2
    · cases h
  · cases h
/-- all that is asked of a class of errors -/
def errB (K : Fg) (C : Addr) : Bool :=
  oexB K C && (He.eqO (PySem.W.findIn K (.ref C) "__setattr__") (some (some (.builtin "object.__setattr__"))) &&
   (decide (PySem.W.subIn K (.ref C) (.type "BaseException") = some true) &&
   (decide (PySem.W.typeIn K (.ref C) = some (.type "type")) && (PySem.W.keepIn K (.ref C) && (xfB K C &&
   (He.eqO (PySem.W.findIn K (.ref C) "__class__") (some (some (.builtin "object.__class__"))) &&
    decide (PySem.W.mroIn K C (.type "object") = some true)))))))
def takB (K : Fg) : Bool :=
  He.eqO (PySem.W.specialIn K (.builtin "object.__class__") "__get__") (some (some (.builtin "getset_descriptor.__get__"))) &&
    decide (PySem.W.takesIn K (.builtin "object.__class__") = some true)
theorem errB_ok {K : Fg} {C : Addr} (h : errB K C = true) (hk : takB K = true) : OexC K C ∧ XfC K C ∧ Vx.IsC K C := by
  obtain ⟨h1, h⟩ := He.ba h
  obtain ⟨h2, h⟩ := He.ba h
  obtain ⟨h3, h⟩ := He.ba h
  obtain ⟨h4, h⟩ := He.ba h
  obtain ⟨h5, h⟩ := He.ba h
  obtain ⟨h6, h⟩ := He.ba h
  obtain ⟨h7, h8⟩ := He.ba h
  obtain ⟨k1, k2⟩ := He.ba hk
  have X := xfB_ok h6
  have c := oexB_ok h1
  refine ⟨⟨c, He.eqO_ok h2, of_decide_eq_true h3, of_decide_eq_true h4, h5⟩, X, ?_⟩
  refine ⟨?_, X.ga, X.gg, X.exC, He.eqO_ok h7, He.eqO_ok k1, of_decide_eq_true k2, of_decide_eq_true h8⟩
  obtain ⟨nm, q, N, bs, bm, sn, sub, ab, col, dd, k0, k1, k2, k3, k5, hC, hbm⟩ := c
  unfold PySem.W.clsIn
  rw [hC]
  rfl
/-- its own __init__ at f1, no field named f in the class -/
def iniB (K : Fg) (C : Addr) (fs : List Str) : Bool :=
  He.eqO (PySem.W.findIn K (.ref C) "__init__") (some (some (.ref (He.ma K C "__init__")))) &&
  (decide (PySem.W.typeIn K (.ref (He.ma K C "__init__")) = some (.type "function")) &&
   fs.all fun f => He.eqO (PySem.W.findIn K (.ref C) f) (some none))
structure Ini (K : Fg) (C : Addr) (fs : List Str) : Prop where
  iC : PySem.W.findIn K (.ref C) "__init__" = some (some (.ref (He.ma K C "__init__")))
  tI : PySem.W.typeIn K (.ref (He.ma K C "__init__")) = some (.type "function")
  no : ∀ f ∈ fs, PySem.W.findIn K (.ref C) f = some none
theorem iniB_ok {K : Fg} {C : Addr} {fs : List Str} (h : iniB K C fs = true) : Ini K C fs := by
  obtain ⟨h1, h⟩ := He.ba h
  obtain ⟨h2, h3⟩ := He.ba h
  exact ⟨He.eqO_ok h1, of_decide_eq_true h2, fun f hf => He.eqO_ok (List.all_eq_true.mp h3 f hf)⟩
end Vh

set_option Elab.async false
set_option linter.all false
set_option maxRecDepth 100000
set_option maxHeartbeats 2000000
/-! The head, with the getters of properties. -/
namespace Vh
open PySem PySem.Spec PyProof.Rows L2
/-- the getter of the property f of the class named c -/
def pgA (K : Fg) (c f : Str) : Addr := match PySem.W.recIn K (He.ma K (He.ga K c) f) "property" with
  | some (.ref g :: _) => g
  | _ => 0
def fnX (K : Fg) (a : Addr) : He.FnW := match K.lookup a with
  | some ⟨_, _, .func x, _⟩ => some (x.name, x.qualname, x.params, x.body, x.scope, x.globals, x.closure, x.builtins)
  | _ => none
def okX (K : Fg) (a : Addr) (q : Str) : Bool := PySem.W.keepIn K (.ref a) && (match K.lookup a with
  | some ⟨_, _, .func x, _⟩ => PySem.W.codeIn K x.code q && (He.dflB K x.defaults [] && He.kwdB K x.kwdefaults [])
  | _ => false)
theorem funX {K : Fg} {a : Addr} {d : He.DefD} (e : fnX K a = d.val) (c : okX K a d.qual = true) : ∃ fd, FunD K d.name d.qual d.params d.body d.scope [] [] a fd := by
  obtain ⟨kp, c2⟩ := He.ba c
  unfold fnX at e
  cases q : K.lookup a with
  | none =>
    rw [q] at c2
    cases c2
  | some o =>
    obtain ⟨w1, w2, w3, w4⟩ := o
    rw [q] at c2 e
    cases w3 with
    | func x =>
      obtain ⟨n1, n2, n3, n4, n5, n6, n7, n8, n9, n10, n11, n12, n13, n14, n15⟩ := x
      have e3 : (some (n1, n2, n3, n4, n5, n6, n7, n15) : He.FnW) = some (d.name, d.qual, d.params, .stmts d.body, d.scope, mainGlobals, [], builtinsNs) := e
      injection e3 with e3
      injection e3 with h1 e3
      injection e3 with h2 e3
      injection e3 with h3 e3
      injection e3 with h4 e3
      injection e3 with h5 e3
      injection e3 with h6 e3
      injection e3 with h7 h8
      subst h1 h2 h3 h4 h5 h6 h7 h8
      have c4 : (PySem.W.codeIn K n13 d.qual && (He.dflB K n8 [] && He.kwdB K n9 [])) = true := c2
      obtain ⟨g1, g2⟩ := He.ba c4
      obtain ⟨g3, g4⟩ := He.ba g2
      exact ⟨_, ⟨w1, w2, n8, n9, n10, n11, n12, n13, n14, w4, rfl, q, g1, He.dflB_ok g3, He.kwdB_ok g4⟩, kp⟩
    | _ => cases c2
abbrev PrD : Type := (Str × Str) × He.DefD
def obsP (f : Fg → Bool) (fn : List He.DefD) (pr : List PrD) (K : Fg) : He.AlD :=
  (f K && (fn.all (fun d => d.ok K) && pr.all fun q => okX K (pgA K q.1.1 q.1.2) q.2.qual), fn.map (fun d => He.fnW K d.at_) ++ pr.map fun q => fnX K (pgA K q.1.1 q.1.2))
def valP (fn : List He.DefD) (pr : List PrD) : He.AlD := (true, fn.map He.DefD.val ++ pr.map fun q => q.2.val)
def SaysP (f : Fg → Bool) (fn : List He.DefD) (pr : List PrD) (K : Fg) : Prop := obsP f fn pr K = valP fn pr
def obsPG (n : Nat) (f : Fg → Bool) (fn : List He.DefD) (pr : List PrD) (g : Addr → Option Obj) : He.AlD :=
  obsP f fn pr (He.frG g (He.asD g n))
def hookP (n : Nat) (f : Fg → Bool) (fn : List He.DefD) (pr : List PrD) : PySem.W.Hook where
  α := He.AlD
  obs := fun t => obsPG n f fn pr t.heap.get?
  val := fun _ => valP fn pr
  says := fun _ h => ∃ K : Fg, K.In h ∧ SaysP f fn pr K
  of := fun _ _ e => ⟨_, He.frG_in, e⟩
  keeps := fun _ _ _ ⟨K, hK, c⟩ k => ⟨K, PySem.W.Frag.In.keeps hK k, c⟩
theorem obsPG_eq {n : Nat} {f : Fg → Bool} {fn : List He.DefD} {pr : List PrD} {g : Addr → Option Obj} {t : Shared}
    (h : ∀ a, g a = t.heap.get? a) : obsPG n f fn pr g = (hookP n f fn pr).obs t := by
  have e : g = t.heap.get? := funext h
  rw [e] <;> rfl
section
variable {f : Fg → Bool} {fn : List He.DefD} {pr : List PrD} {K : Fg}
theorem SaysP.one (c : SaysP f fn pr K) : f K = true ∧ (∀ d ∈ fn, d.ok K = true) ∧ ∀ q ∈ pr, okX K (pgA K q.1.1 q.1.2) q.2.qual = true := by
  obtain ⟨h1, h2⟩ := He.ba (show (f K && (fn.all (fun d => d.ok K) && pr.all fun q => okX K (pgA K q.1.1 q.1.2) q.2.qual)) = true from congrArg (fun z : He.AlD => z.1) c)
  obtain ⟨h3, h4⟩ := He.ba h2
  exact ⟨h1, List.all_eq_true.mp h3, List.all_eq_true.mp h4⟩
theorem SaysP.two (c : SaysP f fn pr K) : fn.map (fun d => He.fnW K d.at_) = fn.map He.DefD.val ∧ pr.map (fun q => fnX K (pgA K q.1.1 q.1.2)) = pr.map fun q => q.2.val := by
  have e : fn.map (fun d => He.fnW K d.at_) ++ pr.map (fun q => fnX K (pgA K q.1.1 q.1.2)) = fn.map He.DefD.val ++ pr.map fun q => q.2.val := congrArg (fun z : He.AlD => z.2) c
  exact List.append_inj e (by rw [List.length_map, List.length_map])
theorem SaysP.def_ (c : SaysP f fn pr K) (i : Nat) {d : He.DefD} (h : fn[i]? = some d := by rfl) :
    ∃ fd, FunD K d.name d.qual d.params d.body d.scope (d.dvs K) (d.kws K) (He.fAd K d.at_) fd := by
  have e2 : (fn.map fun d => He.fnW K d.at_)[i]? = (fn.map He.DefD.val)[i]? := by rw [c.two.1]
  rw [List.getElem?_map, List.getElem?_map, h] at e2
  exact He.DefD.funD (Option.some.inj e2) (c.one.2.1 d (List.mem_of_getElem? h))
theorem SaysP.prp (c : SaysP f fn pr K) (i : Nat) {q : PrD} (h : pr[i]? = some q := by rfl) :
    ∃ fd, FunD K q.2.name q.2.qual q.2.params q.2.body q.2.scope [] [] (pgA K q.1.1 q.1.2) fd := by
  have e2 : (pr.map fun q => fnX K (pgA K q.1.1 q.1.2))[i]? = (pr.map fun q => q.2.val)[i]? := by rw [c.two.2]
  rw [List.getElem?_map, List.getElem?_map, h] at e2
  exact funX (Option.some.inj e2) (c.one.2.2 q (List.mem_of_getElem? h))
end
end Vh

set_option Elab.async false
set_option linter.all false
set_option maxRecDepth 100000
set_option maxHeartbeats 2000000
namespace Vl
open PySem PySem.Spec PyProof.Rows L2
theorem pe_weak {X : Cx} {e : Expr} {t t' : TE} (h : PE X e t) (w : ∀ s H Q, t' s H Q → t s H Q) : PE X e t' :=
  ⟨fun pins s σ H Q I q => h.run pins s σ H Q I (w σ H Q q)⟩
theorem pa_weak {X : Cx} {es : List Expr} {t t' : TA} (h : PA X es t) (w : ∀ s H Q, t' s H Q → t s H Q) : PA X es t' :=
  ⟨fun pos pins s σ H Q I q => h.run pos pins s σ H Q I (w σ H Q q)⟩
theorem s_seq {t u : TS} {D : Ends} {st : L2.St} {H : Hp} (h : t { D with nx := u D } st H) : tSeq t u D st H := h
def tMono (te : TE) : TE := fun s H Q => ∃ R : VK, te s H R ∧ ∀ v H1, R v H1 → Q v H1
theorem pe_mono {X : Cx} {e : Expr} {t : TE} (h : PE X e t) : PE X e (tMono t) :=
  ⟨fun pins s σ H Q I ⟨R, q, w⟩ => thn (h.run pins s σ H R I q) fun _ _ ⟨v, H1, I1, r, k⟩ => ⟨v, H1, I1, r, w v H1 k⟩⟩
theorem same_upd {H : Hp} {p : Addr} {o : HO} (h : H p = none) : Same H (upd H p o) := by
  intro b x e
  rw [upd_ne (ne_of_none e h)]
  exact e
theorem same_sqt {K : PySem.W.Frag} {H H' : Hp} {a : Addr} {xs : List V} (e : Same H H') (h : SqT K H a xs) : SqT K H' a xs := by
  rcases h with (h | ⟨o, h⟩) | h
  · exact .inl (.inl (e _ _ h))
  · exact .inl (.inr ⟨o, e _ _ h⟩)
  · exact .inr h
mutual
theorem dp_same {K : PySem.W.Frag} {H H' : Hp} (e : Same H H') : ∀ {v : V} {d : PyData}, Dp K H v d → Dp K H' v d
  | _, _, .non => .non
  | _, _, .bl b => .bl b
  | _, _, .int i => .int i
  | _, _, .str x => .str x
  | _, _, .lst h hs => .lst (e.seq h) (dpa_same e hs)
  | _, _, .tup h hs => .tup (same_sqt e h) (dpa_same e hs)
theorem dpa_same {K : PySem.W.Frag} {H H' : Hp} (e : Same H H') : ∀ {v : List V} {d : List PyData}, DpAll K H v d → DpAll K H' v d
  | _, _, .nil => .nil
  | _, _, .cons h hs => .cons (dp_same e h) (dpa_same e hs)
end
theorem dpa_rep {K : PySem.W.Frag} {H : Hp} {v : V} {d : PyData} (h : Dp K H v d) : ∀ n, DpAll K H (List.replicate n v) (List.replicate n d)
  | 0 => .nil
  | n + 1 => .cons h (dpa_rep h n)
theorem dpa_bl {K : PySem.W.Frag} {H : Hp} : ∀ bs : List Bool, DpAll K H (bs.map V.bl) (bs.map PyData.bool)
  | [] => .nil
  | b :: r => .cons (.bl b) (dpa_bl r)
/-- data that may be compared -/
def Low (d : PyData) : Prop := d.canLay0 = true ∧ d.depth ≤ 10
theorem low_rep {d : PyData} (h : Low d) : ∀ n, PyData.canLayAll0 (List.replicate n d) = true ∧ PyData.depthAll (List.replicate n d) ≤ 10
  | 0 => ⟨rfl, by show 0 ≤ 10; omega⟩
  | n + 1 => by
    obtain ⟨h1, h2⟩ := low_rep h n
    rw [List.replicate_succ]
    refine ⟨?_, ?_⟩
    · show (d.canLay0 && PyData.canLayAll0 (List.replicate n d)) = true
      rw [h.1, h1]
      rfl
    · show max d.depth (PyData.depthAll (List.replicate n d)) ≤ 10
      exact Nat.max_le.mpr ⟨h.2, h2⟩
theorem shaped_of {d : PyData} (h1 : d.canLay0 = true) (h2 : d.depth ≤ 64) : SeqAt.shaped d = true := by
  unfold SeqAt.shaped
  rw [h1, decide_eq_true h2]
  rfl
theorem low_bl : ∀ bs : List Bool, PyData.canLayAll0 (bs.map PyData.bool) = true ∧ PyData.depthAll (bs.map PyData.bool) = 0
  | [] => ⟨rfl, rfl⟩
  | b :: r => by
    obtain ⟨h1, h2⟩ := low_bl r
    refine ⟨?_, ?_⟩
    · show (true && PyData.canLayAll0 (r.map PyData.bool)) = true
      rw [h1]
      rfl
    · show max 0 (PyData.depthAll (r.map PyData.bool)) = 0
      rw [h2]
      rfl
theorem eqv_same {d : PyData} (h : d.canLay0 = true) : PyData.eqv d d = true := SeqAt.eqv_refl d h
theorem strOk_of (s : String) : PyData.strOk (Str.ofString s) = true := by
  unfold PyData.strOk
  rw [← Array.all_toList, PyProof.Rows.signs_ofString, List.all_eq_true]
  intro c hc
  obtain ⟨x, _, rfl⟩ := List.mem_map.mp hc
  refine decide_eq_true ?_
  have h := x.valid
  have : x.toNat = x.val.toNat := rfl
  rcases h with h | ⟨_, h⟩
  · rw [this]; exact Nat.lt_trans h (by decide)
  · rw [this]; exact h
theorem strOk_app {a b : Str} (ha : PyData.strOk a = true) (hb : PyData.strOk b = true) : PyData.strOk (a ++ b) = true := by
  unfold PyData.strOk at *
  show ((a.cps ++ b.cps).all _) = true
  rw [Array.all_append, ha, hb]
  rfl
def EvP (te : TE) (st : L2.St) (H : Hp) (P : V → Hp → Prop) : Prop :=
  ∀ H1, Evl.Ex H H1 → ∀ Q : VK, (∀ x H2, Evl.Ex H1 H2 → P x H2 → Q x H2) → te st H1 Q
def EvAP (ta : TA) (st : L2.St) (H : Hp) (P : List V → Hp → Prop) : Prop :=
  ∀ H1, Evl.Ex H H1 → ∀ Q : List V → Hp → Prop, (∀ x H2, Evl.Ex H1 H2 → P x H2 → Q x H2) → ta st H1 Q
theorem eap_nil {st : L2.St} {H : Hp} : EvAP tNil st H (fun xs _ => xs = []) :=
  fun H1 _ Q q => q [] H1 (Evl.Ex.refl H1) rfl
theorem eap_cons {te : TE} {tr : TA} {st : L2.St} {H : Hp} {P : V → Hp → Prop} {R : List V → Hp → Prop}
    (h : EvP te st H P) (hr : EvAP tr st H R) (mono : ∀ x H1 H2, Evl.Ex H1 H2 → P x H1 → P x H2) :
    EvAP (tCons te tr) st H (fun vs H1 => ∃ x xs, vs = x :: xs ∧ P x H1 ∧ R xs H1) := by
  intro H1 e Q q
  refine h H1 e _ fun x H2 e2 p => ?_
  refine hr H2 (e.trans e2) _ fun xs H3 e3 r => ?_
  exact q _ H3 (e2.trans e3) ⟨x, xs, rfl, mono x H2 H3 e3 p, r⟩
/-- an error: its class at C, its only field f holding v -/
def ErrV (H : Hp) (a C : Addr) (f : Str) (v : V) : Prop :=
  ∃ d, H a = some (exo a C (some d)) ∧ H d = some (exd d [(f, v)])
theorem ErrV.mono {H H' : Hp} {a C : Addr} {f : Str} {v : V} (e : Evl.Ex H H') (h : ErrV H a C f v) : ErrV H' a C f v := by
  obtain ⟨d, h1, h2⟩ := h
  exact ⟨d, e _ _ h1, e _ _ h2⟩
theorem ErrV.at_ {H : Hp} {a C : Addr} {f : Str} {v : V} (h : ErrV H a C f v) : Vx.ExAt H a C := by
  obtain ⟨d, h1, h2⟩ := h
  exact .inr ⟨d, _, h1, h2⟩
theorem exAt_mono {H H' : Hp} {a C : Addr} (e : Evl.Ex H H') (h : Vx.ExAt H a C) : Vx.ExAt H' a C := by
  rcases h with h | ⟨d, fs, h1, h2⟩
  · exact .inl (e _ _ h)
  · exact .inr ⟨d, fs, e _ _ h1, e _ _ h2⟩
def Errs (v : V) : List (Addr × Str) → List V → Hp → Prop
  | [], xs, _ => xs = []
  | (C, f) :: r, xs, H => ∃ a ys, xs = .ref a :: ys ∧ ErrV H a C f v ∧ Errs v r ys H
theorem Errs.mono {v : V} {H H' : Hp} (e : Evl.Ex H H') : ∀ {l : List (Addr × Str)} {xs : List V}, Errs v l xs H → Errs v l xs H'
  | [], _, h => h
  | (C, f) :: r, _, h => by
    obtain ⟨a, ys, h1, h2, h3⟩ := h
    exact ⟨a, ys, h1, h2.mono e, Errs.mono e h3⟩
theorem Errs.len {v : V} {H : Hp} : ∀ {l : List (Addr × Str)} {xs : List V}, Errs v l xs H → xs.length = l.length
  | [], _, h => by
    rw [show _ = [] from h]
    rfl
  | (C, f) :: r, _, h => by
    obtain ⟨a, ys, h1, h2, h3⟩ := h
    rw [h1, List.length_cons, List.length_cons, Errs.len h3]
theorem Errs.app {v : V} {H : Hp} : ∀ {l m : List (Addr × Str)} {xs ys : List V}, Errs v l xs H → Errs v m ys H → Errs v (l ++ m) (xs ++ ys) H
  | [], m, xs, ys, h, h' => by
    rw [show xs = [] from h]
    exact h'
  | (C, f) :: r, m, xs, ys, h, h' => by
    obtain ⟨a, zs, h1, h2, h3⟩ := h
    rw [h1]
    exact ⟨a, zs ++ ys, rfl, h2, Errs.app h3 h'⟩
theorem Errs.get {v : V} {H : Hp} : ∀ {l : List (Addr × Str)} {xs : List V} {i : Nat} {x : V}, Errs v l xs H → xs[i]? = some x →
    ∃ C f a, l[i]? = some (C, f) ∧ x = .ref a ∧ ErrV H a C f v
  | [], xs, i, x, h, hi => by
    rw [show xs = [] from h] at hi
    cases hi
  | (C, f) :: r, xs, 0, x, h, hi => by
    obtain ⟨a, ys, h1, h2, h3⟩ := h
    rw [h1] at hi
    have e : V.ref a = x := Option.some.inj hi
    exact ⟨C, f, a, rfl, e.symm, h2⟩
  | (C, f) :: r, xs, i + 1, x, h, hi => by
    obtain ⟨a, ys, h1, h2, h3⟩ := h
    rw [h1] at hi
    exact Errs.get (i := i) h3 hi
theorem given_rep (v : V) : ∀ n, Evl.given n (fun _ => true) (fun _ => v) = List.replicate n v := by
  intro n
  induction n with
  | zero => rfl
  | succ n ih =>
    rw [Evl.given_yes rfl, ih, ← List.replicate_succ']
/-- __init__(self, f): self.f = f -/
def spIni (C : Addr) (f : Str) : Sp := fun vs H Q _ => ∃ (a : Addr) (v : V), vs = [.ref a, v] ∧ H a = some (exo a C none) ∧
  ∀ dx, H dx = none → dx ≠ a → Q .non (upd (upd H dx (exd dx [(f, v)])) a (exo a C (some dx)))
section
variable {P : Program} {w : World} {K : PySem.W.Frag} {mg : Str → Option Value} {base : Heap}
theorem ok_ini1 {f qual : Str} {pa : Arguments} {bd : List Stmt} {sc : Scope} {fI C : Addr} {fd : FuncData} {p1 p2 p3 p4 : Pos}
    (F : FunD K "__init__" qual pa bd sc [] [] fI fd) (S : FnScope ["self", f] ["self", f] sc)
    (hb : bd = [.Assign [.Attribute (.Name "self" p1) f p2] (.Name f p3) p4]) (T : OexC K C)
    (no : PySem.W.findIn K (.ref C) f = some none) (hd : (f == ("__debug__" : Str)) = false)
    (hc : (f == ("__classdict__" : Str)) = false) : FnOk P w K mg base CX0 1 fI fd ["self", f] (spIni C f) := by
  refine F.ok (CX := CX0) S (fun vs H Q E h => ?_) (fun cdv A outer s H vs Q E hr h => ?_)
  · obtain ⟨a, v, rfl, _⟩ := h
    rfl
  · rw [hb]
    have v0 := vis_par S (x := "self") List.mem_cons_self
    have v1 := vis_par S (x := f) (List.mem_cons_of_mem _ List.mem_cons_self)
    refine ⟨_, (pss_one (ps_ost (pe_var (i := 0) rfl v0) (pe_var (i := 1) rfl v1 hd hc))), ?_⟩
    obtain ⟨a, v, rfl, ha, q⟩ := h
    exact ⟨v, rfl, .ref a, rfl, a, C, rfl, T, no, .inl ⟨ha, fun dx h1 h2 => q dx h1 h2⟩⟩
end
section
variable {X : Cx} {C fI : Addr} {k : Nat} {fd : FuncData} {e : Expr} {te : TE} {x f : Str} {p pos : Pos}
def tErr (C : Addr) (f : Str) (te : TE) : TE := fun st H Q => te st H fun v H1 =>
  ∀ a H2, H1 a = none → Same H1 H2 → ErrV H2 a C f v → Q (.ref a) H2
theorem pe_err (T : OexC X.K C)
    (iC : PySem.W.findIn X.K (.ref C) "__init__" = some (some (.ref fI)))
    (tI : PySem.W.typeIn X.K (.ref fI) = some (.type "function"))
    (F1 : FnOk X.prog X.w X.K X.mg X.base CX0 k fI fd ["self", f] (spIni C f))
    (hr : Room (k + 1) X.A) (hb : Binds X.K fd ["self", f] []) (hg : Gl X x)
    (hm : X.mg x = some (.ref C)) (ha : PE X e te)
    (hdb : (x == ("__debug__" : Str)) = false := by decide)
    (hs : starEach [e] X.env = (false, eval e X.env) :: starEach [] X.env := by rfl) :
    PE X (.Call (.Name x p) [e] [] pos) (tErr C f te) := by
  have ha2 : PE X e (tMono te) := pe_mono ha
  refine pe_weak (Vx.pe_mkV T iC tI F1 hr hb hg hm (pa_cons ha2 pa_nil hs) hdb hs (by rfl)) ?_
  intro st H Q h
  refine ⟨_, h, fun v H1 q => ⟨by show 1 ≤ 1000; omega, fun a na => ?_⟩⟩
  refine ⟨a, v, rfl, upd_same, fun dx n1 n2 => ⟨rfl, ?_⟩⟩
  have nd : H1 dx = none := by rw [upd_ne n2] at n1; exact n1
  refine q a _ na (fun b o hb => ?_) ⟨dx, upd_same, ?_⟩
  · rw [upd_ne (ne_of_none hb na), upd_ne (ne_of_none hb nd), upd_ne (ne_of_none hb na)]
    exact hb
  · rw [upd_ne n2, upd_same]
end
end Vl

set_option Elab.async false
set_option linter.all false
set_option maxRecDepth 100000
set_option maxHeartbeats 2000000
/-! Operators that a class of the program defines: by its methods' promises. -/
namespace Vo
open PySem PySem.Spec PyProof.Rows L2
section
variable {X : Cx} {CX : CXT} {k : Nat} {f C : Addr} {fd : FuncData} {ps : List Str} {sp : Sp}
variable {pins : List (Addr × Obj)} {σ : L2.St} {H : Hp} {s : Shared} {Q : VK} {us : List Value} {vs : List V} {E : XK}
/-- a method called one level further in -/
theorem run_in1 (F : FnOk X.prog X.w X.K X.mg X.base CX k f fd ps sp) (hr : Room (k + 1) X.A) (hb : Binds X.K fd ps [])
    (hx : PassesAt CX X σ E) (I : Inv X pins σ H s) (r : Vals vs us) (h : sp vs H Q E) :
    wpAny (model X.prog X.w) X.A.in1 (call (.ref f) us) (EP X pins σ Q) X.xe s := by
  have hl : us.length = ps.length := by
    rw [← r.length]
    exact F.len _ _ _ _ h
  have b := hb s us I.kIn (by rw [List.append_nil]; exact hl)
  rw [List.append_nil] at b
  have run := F.run X.A.in1 X.stack s H ⟨us, []⟩ us vs Q E hr.in1 I.env0.in1 b r h
  refine wpAny_call (codeAny_mono run ?_)
  intro z s' hq
  cases z with
  | error e => exact hx pins H s e s' I hq
  | ok fl =>
    cases fl with
    | ret u => exact I.after hq
    | next => exact False.elim hq
    | brk => exact False.elim hq
    | cont => exact False.elim hq
/-- the same where it stands -/
theorem run_here (F : FnOk X.prog X.w X.K X.mg X.base CX k f fd ps sp) (hr : Room k X.A) (hb : Binds X.K fd ps [])
    (hx : PassesAt CX X σ E) (I : Inv X pins σ H s) (r : Vals vs us) (h : sp vs H Q E) :
    wpAny (model X.prog X.w) X.A (call (.ref f) us) (EP X pins σ Q) X.xe s :=
  run_fnS (E := fun _ => E) F hr hb hx I r h
end
section
variable {X : Cx} {CX : CXT} {k : Nat} {f C : Addr} {fd : FuncData} {ps : List Str} {sp : Sp} {E : L2.St → XK}
variable {a b : Expr} {ta tb : TE} {pos : Pos}
/-- one operand an instance of the class at C -/
def tOwn1 (C : Addr) (sp : Sp) (E : L2.St → XK) (ta : TE) : TE := fun st H Q => ta st H fun x H1 =>
  ∃ o dx fs, x = .ref o ∧ H1 o = some (.ins C dx fs) ∧ sp [x] H1 Q (E st)
/-- the left one of two -/
def tOwn2 (C : Addr) (R : V → Prop) (sp : Sp) (E : L2.St → XK) (ta tb : TE) : TE := fun st H Q => ta st H fun x H1 => tb st H1 fun y H2 =>
  ∃ o dx fs, x = .ref o ∧ H2 o = some (.ins C dx fs) ∧ R y ∧ sp [x, y] H2 Q (E st)
theorem inst_at {pins : List (Addr × Obj)} {σ : L2.St} {H : Hp} {s : Shared} {o dx : Addr} {fs : List (Str × V)} (I : Inv X pins σ H s) (ea : H o = some (.ins C dx fs)) :
    ∃ ob od, PySem.W.InstAt s.heap o ob C (some od) := by
  obtain ⟨mA, O, _, _, _, _⟩ := ins_get I.hok ea
  obtain ⟨od, J, _⟩ := O.look
  exact ⟨_, od, J⟩
/-- o[i] -/
theorem pe_ixO (M : Meth X.K C "__getitem__" f) (hf : PySem.W.fnIn X.K f = true) (F : FnOk X.prog X.w X.K X.mg X.base CX k f fd ps sp) (hr : Room (k + 1) X.A) (hb : Binds X.K fd ps [])
    (hx : ∀ st, PassesAt CX X st (E st)) (ha : PE X a ta) (hi : PE X b tb)
    (hs : ∀ o i, subscripted b true (.ref o) i = runValue (.builtin "lifetime.subscript" ⟨[.ref o, i], []⟩)) :
    PE X (.Subscript a b pos) (tOwn2 C (fun _ => True) sp E ta tb) := by
  refine ⟨fun pins s σ H Q I h => ?_⟩
  refine Subscript_ (binT ha hi I h fun v u s2 x y H2 I2 rx ry q => ?_)
  obtain ⟨o, dx, fs, rfl, eo, _, q⟩ := q
  obtain rfl : v = Value.ref o := rx
  obtain ⟨ob, od, J⟩ := inst_at I2 eo
  obtain ⟨m, fr⟩ := I2.fr
  exact PySem.W.sub_K fr I2.ok.mod.kin J M.at_ hf M.fn (run_in1 F hr hb (hx σ) I2 (Paired.cons (show RelV (V.ref o) (Value.ref o) from rfl) (.cons ry .nil)) q) (hs o u)
/-- -o -/
theorem pe_negO (M : Meth X.K C "__neg__" f) (F : FnOk X.prog X.w X.K X.mg X.base CX k f fd ps sp) (hr : Room k X.A) (hb : Binds X.K fd ps [])
    (hx : ∀ st, PassesAt CX X st (E st)) (ha : PE X a ta) : PE X (.UnaryOp .USub a pos) (tOwn1 C sp E ta) := by
  refine ⟨fun pins s σ H Q I h => ?_⟩
  refine UnaryOp_ (thn (ha.run pins s σ H _ I h) fun v s1 ⟨x, H1, I1, r1, q1⟩ => ?_)
  obtain ⟨o, dx, fs, rfl, eo, q⟩ := q1
  obtain rfl : v = Value.ref o := r1
  obtain ⟨ob, od, J⟩ := inst_at I1 eo
  obtain ⟨m, fr⟩ := I1.fr
  exact PySem.W.ksp_neg fr I1.ok.mod.kin J M.at_ M.fn (run_here F hr hb (hx σ) I1 (Paired.cons (show RelV (V.ref o) (Value.ref o) from rfl) .nil) q)
end
section
variable {X : Cx} {CX : CXT} {k : Nat} {f C : Addr} {fd : FuncData} {ps : List Str} {sp : Sp} {E : L2.St → XK}
variable {a b : Expr} {ta tb : TE} {pos : Pos}
/-- what comes back is no NotImplemented: any V's value -/
theorem cmp_back {pins : List (Addr × Obj)} {σ : L2.St} {Q : VK} {u : Value} {s' : Shared} (h : EP X pins σ Q u s') : PySem.W.CmpBack (EP X pins σ Q) u s' := by
  obtain ⟨v, H', I, r, q⟩ := h
  have hn : u ≠ .notImplemented := by
    intro z
    subst z
    cases v with
    | non => cases r
    | bl b => cases r
    | int i => obtain ⟨t, z⟩ := r; cases z
    | str x => obtain ⟨t, z⟩ := r; cases z
    | byt x => obtain ⟨t, z⟩ := r; cases z
    | flt x => obtain ⟨t, z⟩ := r; cases z
    | ref a => cases r
    | ty n => cases r
  have k : EP X pins σ Q u s' := ⟨v, H', I, r, q⟩
  unfold PySem.W.CmpBack
  cases u with
  | notImplemented => exact absurd rfl hn
  | _ => exact k
/-- the class's own operators: what the written part must say -/
structure OwnOp (K : PySem.W.Frag) (C : Addr) (nm : String) (f : Addr) : Prop where
  fst : PySem.W.selfFirst K C = true
  at_ : PySem.W.findIn K (.ref C) (PySem.dunder nm) = some (some (.ref f))
  fn : PySem.W.isFn K (.ref f) = true
  r : PySem.W.findIn K (.ref C) (dunderR nm) = some none
/-- the right operand is of the built-in type T, which knows nothing of C -/
structure Far (K : PySem.W.Frag) (C : Addr) (nm T : String) : Prop where
  h1 : ∃ fo, PySem.W.findIn K (.type T) (PySem.dunder nm) = some fo
  h2 : ∃ ro, PySem.W.findIn K (.type T) (dunderR nm) = some ro
  sub : PySem.W.subIn K (.type T) (.ref C) = some false
theorem own_bin {prog : Program} {w : World} {A : Around} {Er : Value → Shared → Prop} {s : Shared} {K : PySem.W.Frag} {x C L f : Addr} {h0 : Heap} {m : Str → Option Value} {ox : Obj} {od : Option Obj} {T : String}
    {op : Operator} {b : Value} {Q : Value → Shared → Prop} (F : Fr h0 L s.heap m) (X0 : K.In h0) (I : PySem.W.InstAt s.heap x ox C od)
    (hb : PySem.W.Looks (model prog w) s.heap (typeOf b) (.type T)) (W : OwnOp K C op.info.2 f) (Z : Far K C op.info.2 T)
    (h : wpAny (model prog w) A (call (.ref f) [.ref x, b]) (PySem.W.CmpBack Q) Er s) : wpAny (model prog w) A (binaryOp op (.ref x) b) Q Er s := by
  have X := X0.keeps F.keep
  obtain ⟨cd, rest, hcd, hm⟩ := PySem.W.ksp_first W.fst
  obtain ⟨fo, h1⟩ := Z.h1
  obtain ⟨ro, h2⟩ := Z.h2
  have one := PySem.W.ksp_try X I W.at_ W.fn h
  rcases hi : op.info with ⟨sym, nm⟩
  have wa := W.at_
  have wr := W.r
  rw [hi] at wa wr h1 h2
  rw [hi] at one
  dsimp only at wa wr h1 h2 one
  obtain ⟨hh, g, d, tt, os⟩ := s
  have a1 : PySem.W.Looks (model prog w) hh (typeOf (.ref x)) (.ref C) := I.type
  have a2 : PySem.W.Looks (model prog w) hh (typeOf b) (.type T) := hb
  have a3 := PySem.W.fills_K (M := model prog w) X hcd hm wa
  have a4 := PySem.W.ksp_fillsT (M := model prog w) X h1 h2
  have a5 := PySem.W.looks_subIn (M := model prog w) X Z.sub
  have a6 := PySem.W.ksp_inPy (M := model prog w) X wa wr (.inl rfl)
  have a7 : PySem.W.Looks (model prog w) hh (numberSlotInPython (.type T) nm) false := PySem.W.Looks.of_pure rfl
  have a8 := PySem.W.looks_findIn (M := model prog w) X h2
  revert a4
  generalize ((fo.isSome && !isSeqSlot fo) || (ro.isSome && !isSeqSlot ro)) = rt
  intro a4
  have ne : (Value.ref C == Value.type T) = false := by
    refine Bool.eq_false_iff.mpr fun q => ?_
    cases beq_iff_eq.mp q
  simp only [binaryOp, hi]
  refine wpAny_holding (wpAny_bind ?_)
  unfold binaryOp1
  refine wpAny_bind (a1.at (wpAny_bind (a2.at (wpAny_bind (a3.at ?_)))))
  simp only [ne, Bool.false_eq_true, if_false]
  cases rt
  all_goals
    ksp_lk
    refine wpAny_mono one (fun r s' hr => ?_) fun _ _ z => z
    obtain ⟨v, rfl, hq⟩ := hr
    ksp_lk
    exact hq
/-- o op y, y of a built-in type -/
theorem pe_binO {op : Operator} {T : V → Hp → String → Prop} (W : OwnOp X.K C op.info.2 f)
    (Z : ∀ y H t, T y H t → Far X.K C op.info.2 t)
    (hT : ∀ (pins : List (Addr × Obj)) (st : L2.St) (H : Hp) (s : Shared) (y : V) (u : Value) (t : String), Inv X pins st H s → RelV y u → T y H t → PySem.W.Looks (model X.prog X.w) s.heap (typeOf u) (.type t))
    (F : FnOk X.prog X.w X.K X.mg X.base CX k f fd ps sp) (hr : Room k X.A) (hb : Binds X.K fd ps [])
    (hx : ∀ st, PassesAt CX X st (E st)) (ha : PE X a ta) (hi : PE X b tb) :
    PE X (.BinOp a op b pos) (fun st H Q => ta st H fun x H1 => tb st H1 fun y H2 => ∃ o dx fs t, x = .ref o ∧ H2 o = some (.ins C dx fs) ∧ T y H2 t ∧ sp [x, y] H2 Q (E st)) := by
  refine ⟨fun pins s σ H Q I h => ?_⟩
  refine wpAny_BinOp (binT ha hi I h fun v u s2 x y H2 I2 rx ry q => ?_)
  obtain ⟨o, dx, fs, t, rfl, eo, ht, q⟩ := q
  obtain rfl : v = Value.ref o := rx
  obtain ⟨ob, od, J⟩ := inst_at I2 eo
  obtain ⟨m, fr⟩ := I2.fr
  refine own_bin fr I2.ok.mod.kin J (hT _ _ _ _ _ _ _ I2 ry ht) W (Z _ _ _ ht) ?_
  exact wpAny_mono (run_here F hr hb (hx σ) I2 (Paired.cons (show RelV (V.ref o) (Value.ref o) from rfl) (.cons ry .nil)) q) (fun u s' z => cmp_back z) fun _ _ z => z
/-- Passes, at some slots -/
theorem passes_at {E1 : XK} (h : Passes CX X E1) (st : L2.St) : PassesAt CX X st E1 := fun pins H s e s' I c => h pins st H s e s' I c
def rOwn (C : Addr) (T : V → Hp → Value → Prop) (sp : Sp) (E1 : XK) : R2 := fun x y H Q =>
  ∃ o dx fs t, x = .ref o ∧ H o = some (.ins C dx fs) ∧ T y H t ∧ sp [x, y] H Q E1
/-- o == y -/
theorem op_eqO {E1 : XK} {T : V → Hp → Value → Prop} (M : Meth X.K C "__eq__" f) (Z : ∀ y H t, T y H t → PySem.W.notFirst X.K C t = true)
    (hT : ∀ (pins : List (Addr × Obj)) (st : L2.St) (H : Hp) (s : Shared) (y : V) (u t : Value), Inv X pins st H s → RelV y u → T y H t → PySem.W.Looks (model X.prog X.w) s.heap (typeOf u) t)
    (F : FnOk X.prog X.w X.K X.mg X.base CX k f fd ps sp) (hr : Room k X.A) (hb : Binds X.K fd ps []) (hx : Passes CX X E1) :
    OpR X (compareOp .Eq) (rOwn C T sp E1) := by
  intro pins s σ H x y v u Q I rx ry q
  obtain ⟨o, dx, fs, t, rfl, eo, ht, q⟩ := q
  obtain rfl : v = Value.ref o := rx
  obtain ⟨ob, od, J⟩ := inst_at I eo
  obtain ⟨m, fr⟩ := I.fr
  unfold compareOp
  refine PySem.W.cmp_K (hu_lt hr) fr I.ok.mod.kin J (hT _ _ _ _ _ _ _ I ry ht) (Z _ _ _ ht) M.at_ M.fn ?_
  exact wpAny_mono (run_here F hr hb (passes_at hx σ) I (Paired.cons (show RelV (V.ref o) (Value.ref o) from rfl) (.cons ry .nil)) q) (fun u s' z => cmp_back z) fun _ _ z => z
where
  hu_lt {k : Nat} {A : Around} (hr : Room k A) : A.units < cLine := by have := hr.un; omega
/-- the class has an own __eq__ and no own __ne__, no base but object -/
def neB (K : PySem.W.Frag) (C f : Addr) : Bool :=
  match K.lookup C with
  | some ⟨.type "type", _, .cls cd, sl⟩ =>
    (match cd.mro with
      | [.ref D, .type "object"] => D == C
      | _ => false) && ((match sl.toList with
      | [_, _, _, _, some (.builtin _), _] => true
      | _ => false) && (!cd.hasDel && (PySem.W.nsOkIn K cd.ns && (decide (PySem.W.nsIn K cd.ns "__eq__" = some (some (.ref f))) &&
        (decide (PySem.W.nsIn K cd.ns "__ne__" = some none) && PySem.W.isFn K (.ref f))))))
  | _ => false
theorem ns_val {K : PySem.W.Frag} {h : Heap} {N : Addr} {mg : Str → Option Value} {n : Str} {v : Value} (X : K.In h) (G : h.Ns N mg) (e : PySem.W.nsIn K N n = some (some v)) : mg n = some v := by
  obtain ⟨o, es, ep, ho, hd, _, hf⟩ := G
  unfold PySem.W.nsIn at e
  split at e
  · rename_i c d es2 n2 sl q
    obtain rfl := Option.some.inj (ho.symm.trans (X _ _ q))
    cases hd
    split at e
    · next en he =>
        obtain rfl := Option.some.inj (Option.some.inj e)
        rw [← hf]
        unfold nsFind findBy
        rw [← Array.find?_toList, he]
        rfl
    · split at e <;> cases e
  · cases e
theorem ne_at {K : PySem.W.Frag} {C f x : Addr} {h : Heap} {ob : Obj} {od : Option Obj} (X : K.In h) (I : PySem.W.InstAt h x ob C od) (q : neB K C f = true) : h.OwnEqNoNe x C f "object" [.type "object"] := by
  unfold neB at q
  split at q
  · rename_i dd cd sl ho
    obtain ⟨q1, q⟩ := Bool.and_eq_true_iff.mp q
    obtain ⟨q2, q⟩ := Bool.and_eq_true_iff.mp q
    obtain ⟨q3, q⟩ := Bool.and_eq_true_iff.mp q
    obtain ⟨q4, q⟩ := Bool.and_eq_true_iff.mp q
    obtain ⟨q5, q⟩ := Bool.and_eq_true_iff.mp q
    obtain ⟨q6, q7⟩ := Bool.and_eq_true_iff.mp q
    split at q1
    · rename_i D hm
      split at q2
      · rename_i k0 k1 k2 k3 n k5 hs
        obtain rfl : D = C := beq_iff_eq.mp q1
        obtain ⟨nm, bs, mro, ns, qn, hd, sn, sub, ab, col, del⟩ := cd
        dsimp only at hm q3 q4 q5 q6
        have e3 : del = false := by
          cases del with
          | false => rfl
          | true => cases q3
        subst hm e3
        obtain ⟨l⟩ := sl
        dsimp only at hs
        subst hs
        have G : h.Ns ns (h.nsMap ns) := .of_isNs (PySem.W.isNs_of_in X q4)
        have g1 : h.nsMap ns "__eq__" = some (.ref f) := ns_val X G (of_decide_eq_true q5)
        have g2 : h.nsMap ns "__ne__" = none := PySem.W.ns_none_of X G (of_decide_eq_true q6)
        have tf : PySem.W.typeIn K (.ref f) = some (.type "function") := beq_iff_eq.mp q7
        obtain ⟨fo, hfo, hfc⟩ := Option.map_eq_some_iff.mp (show (K.lookup f).map (·.cls) = some (.type "function") from tf)
        refine ⟨ob, fo, nm, qn, ns, bs, hd, sn, sub, ab, col, dd, k0, k1, k2, k3, k5, n, h.nsMap ns, some (.builtin "object.__eq__"), I.at_, I.cls, X _ _ ho, G, g1, X _ _ hfo, hfc, (by kernel_rfl), ?_, g2⟩
        rw [typeLookup_type, builtinLookup_eq_fast]
        kernel_rfl
      · cases q2
    · cases q1
  · cases q
def rNe (C : Addr) (sp : Sp) (E1 : XK) : R2 := fun x y H Q =>
  ∃ o dx fs o2 dx2 fs2, x = .ref o ∧ y = .ref o2 ∧ H o = some (.ins C dx fs) ∧ H o2 = some (.ins C dx2 fs2) ∧ sp [x, y] H (fun v H1 => ∃ b, v = .bl b ∧ Q (.bl (!b)) H1) E1
/-- o != y, both of the class, which has __eq__ and no __ne__ -/
theorem op_neO {E1 : XK} (q : neB X.K C f = true) (F : FnOk X.prog X.w X.K X.mg X.base CX k f fd ps sp) (hr : Room (k + 1) X.A) (hb : Binds X.K fd ps []) (hx : Passes CX X E1) :
    OpR X (compareOp .NotEq) (rNe C sp E1) := by
  intro pins s σ H x y v u Q I rx ry q1
  obtain ⟨o, dx, fs, o2, dx2, fs2, rfl, rfl, eo, eo2, qs⟩ := q1
  obtain rfl : v = Value.ref o := rx
  obtain rfl : u = Value.ref o2 := ry
  obtain ⟨ob, od, J⟩ := inst_at I eo
  obtain ⟨ob2, od2, J2⟩ := inst_at I eo2
  obtain ⟨m, fr⟩ := I.fr
  have hu : X.A.units + 1 < cLine := by have := hr.un; omega
  have X0 := I.ok.mod.kin.keeps fr.keep
  have run := run_in1 F hr hb (passes_at hx σ) I (Paired.cons (show RelV (V.ref o) (Value.ref o) from rfl) (.cons (show RelV (V.ref o2) (Value.ref o2) from rfl) .nil)) qs
  obtain ⟨hh, g, d, t, os⟩ := s
  refine compareOp_ne_ownEq PySem.F.cmp_object (ne_at X0 J q) J2.at_ J2.cls hu (wpAny_mono run (fun z s' hz => ?_) fun _ _ z => z)
  obtain ⟨v1, H1, I1, r1, b, rfl, q2⟩ := hz
  exact ⟨b, r1, .bl (!b), H1, I1, rfl, q2⟩
/-- len(o) by the class's __len__ -/
theorem call_lenO {E1 : XK} (M : Meth X.K C "__len__" f) (hf : PySem.W.isFn X.K (.ref f) = true) (F : FnOk X.prog X.w X.K X.mg X.base CX k f fd ps sp) (hr : Room (k + 1) X.A) (hb : Binds X.K fd ps []) (hx : Passes CX X E1) :
    CallR X (.builtin "len") (fun xs H Q => ∃ o dx fs, xs = [.ref o] ∧ H o = some (.ins C dx fs) ∧ sp [.ref o] H (fun v H1 => ∃ n : Nat, v = .int n ∧ n < 2 ^ 62 ∧ Q (.int n) H1) E1) := by
  intro pins s σ H xs us Q I r h
  obtain ⟨o, dx, fs, rfl, eo, qs⟩ := h
  obtain ⟨u, rfl, rx⟩ := vals1 r
  obtain rfl : u = Value.ref o := rx
  obtain ⟨ob, od, J⟩ := inst_at I eo
  obtain ⟨m, fr⟩ := I.fr
  refine PySem.W.len_K fr I.ok.mod.kin J M.at_ hf (wpAny_mono (run_in1 F hr hb (passes_at hx σ) I (Paired.cons (show RelV (V.ref o) (Value.ref o) from rfl) .nil) qs) (fun z s' hz => ?_) fun _ _ z => z)
  obtain ⟨v1, H1, I1, r1, n, rfl, hn, q2⟩ := hz
  obtain ⟨t1, rfl⟩ := r1
  exact ⟨⟨by omega, by omega⟩, .int n, H1, I1.tok _, ⟨_, rfl⟩, q2⟩
/-- a < b, of data -/
def rLtD (K : PySem.W.Frag) : R2 := fun x y H Q => ∃ d e, Dp K H x d ∧ Dp K H y e ∧ PySem.W.alike d e = true ∧ d ≠ .none ∧ min d.depth e.depth ≤ 64 ∧ Q (.bl (PySem.W.dataLt d e)) H
theorem op_ltD (hu : X.A.units + 64 < cLine) : OpR X (compareOp .Lt) (rLtD X.K) := by
  intro pins s σ H x y v u Q I rx ry q
  obtain ⟨d, e, hd, he, ha, hn, hm, q⟩ := q
  obtain ⟨as, r1⟩ := Dp.reads I d x v hd rx
  obtain ⟨bs, r2⟩ := Dp.reads I e y u he ry
  exact PySem.W.lt_data r1 r2 ha hn (by omega) ⟨.bl _, H, I, rfl, q⟩
end
end Vo

set_option Elab.async false
set_option linter.all false
set_option maxRecDepth 100000
set_option maxHeartbeats 2000000
/-! y in o, y not in o: the class's own __contains__. -/
namespace Vo
open PySem PySem.Spec PyProof.Rows L2
section
variable {X : Cx} {CX : CXT} {k : Nat} {f C : Addr} {fd : FuncData} {ps : List Str} {sp : Sp} {E1 : XK}
/-- its promise gives a bool, which neg turns about -/
def rHas (C : Addr) (neg : Bool) (sp : Sp) (E1 : XK) : R2 := fun y x H Q =>
  ∃ o dx fs, x = .ref o ∧ H o = some (.ins C dx fs) ∧ sp [x, y] H (fun v H1 => ∃ b, v = .bl b ∧ Q (.bl (if neg = true then !b else b)) H1) E1
theorem op_inO (M : Meth X.K C "__contains__" f) (F : FnOk X.prog X.w X.K X.mg X.base CX k f fd ps sp) (hr : Room k X.A) (hb : Binds X.K fd ps []) (hx : Passes CX X E1) : OpR X (compareOp .In) (rHas C false sp E1) := by
  intro pins s σ H y x u v Q I ry rx q
  obtain ⟨o, dx, fs, rfl, eo, qs⟩ := q
  obtain rfl : v = Value.ref o := rx
  obtain ⟨ob, od, J⟩ := inst_at I eo
  obtain ⟨m, fr⟩ := I.fr
  refine PySem.W.in_K fr I.ok.mod.kin J M.at_ M.fn (wpAny_mono (run_here F hr hb (passes_at hx σ) I (Paired.cons (show RelV (V.ref o) (Value.ref o) from rfl) (.cons ry .nil)) qs) (fun z s' hz => ?_) fun _ _ z => z)
  obtain ⟨v1, H1, I1, r1, b, rfl, q2⟩ := hz
  cases r1
  exact wpAny_truthy_bool ⟨.bl b, H1, I1, rfl, q2⟩
theorem op_notInO (M : Meth X.K C "__contains__" f) (F : FnOk X.prog X.w X.K X.mg X.base CX k f fd ps sp) (hr : Room k X.A) (hb : Binds X.K fd ps []) (hx : Passes CX X E1) : OpR X (compareOp .NotIn) (rHas C true sp E1) := by
  intro pins s σ H y x u v Q I ry rx q
  obtain ⟨o, dx, fs, rfl, eo, qs⟩ := q
  obtain rfl : v = Value.ref o := rx
  obtain ⟨ob, od, J⟩ := inst_at I eo
  obtain ⟨m, fr⟩ := I.fr
  refine PySem.W.notIn_K fr I.ok.mod.kin J M.at_ M.fn (wpAny_mono (run_here F hr hb (passes_at hx σ) I (Paired.cons (show RelV (V.ref o) (Value.ref o) from rfl) (.cons ry .nil)) qs) (fun z s' hz => ?_) fun _ _ z => z)
  obtain ⟨v1, H1, I1, r1, b, rfl, q2⟩ := hz
  cases r1
  exact wpAny_truthy_bool ⟨.bl (!b), H1, I1, rfl, q2⟩
end
end Vo

set_option Elab.async false
set_option linter.all false
set_option maxRecDepth 100000
/-! try with several except clauses, each with a name or without. Methods of an own class called where the wish depends on the slots. -/
namespace Vtr
open PySem PySem.Spec PyProof.Rows L2
/-- a clause: its class, the slot of its name, its suite -/
abbrev Clause : Type := Value × Option Nat × (Addr → Value → Option Addr → TS)
/-- the slots behind a suite whose name is gone -/
def goneE (D : Ends) (i : Nat) : Ends := { nx := fun σ' H' => D.nx (σ'.set i none) H', rt := D.rt, bk := fun σ' H' => D.bk (σ'.set i none) H', ct := fun σ' H' => D.ct (σ'.set i none) H' }
/-- what the clauses wish, one behind the other -/
def wCl (K : PySem.W.Frag) (Wout : WX) (D : Ends) : List Clause → WX
  | [] => Wout
  | (c, none, ts) :: r => fun cls d σ H => ∃ b, PySem.W.exmOne K cls c = some b ∧ (b = true → ∀ a, H a = none → ts a cls d D σ H) ∧ (b = false → wCl K Wout D r cls d σ H)
  | (c, some i, ts) :: r => fun cls d σ H => ∃ b, PySem.W.exmOne K cls c = some b ∧ (b = true → ∀ a, H a = none → ts a cls d (goneE D i) (σ.set i (some (.ref a))) H) ∧ (b = false → wCl K Wout D r cls d σ H)
inductive ClsOk (X : Cx) : List ExceptHandler → List Clause → Prop
  | nil : ClsOk X [] []
  | plain {x : Str} {c : Value} {ts : Addr → Value → Option Addr → TS} {b₀ : Stmt} {suite : List Stmt} {np pos' : Pos} {hds : List ExceptHandler} {l : List Clause} (hc : Names X x c)
      (hsu : ∀ (a : Addr) (oe : Obj) (cls : Value) (d : Option Addr) (pn : List (Addr × Obj)), Zc cls d oe → (∃ vs, oe.data = .fields vs) → PSs (X.suite a ((a, oe) :: pn)) (b₀ :: suite) (ts a cls d)) (r : ClsOk X hds l) :
      ClsOk X (.ExceptHandler (some (.Name x np)) none (b₀ :: suite) pos' :: hds) ((c, none, ts) :: l)
  | named {x n : Str} {i : Nat} {c : Value} {ts : Addr → Value → Option Addr → TS} {b₀ : Stmt} {suite : List Stmt} {np pos' : Pos} {hds : List ExceptHandler} {l : List Clause} (hi : X.N[i]? = some n) (hln : X.env.kindOf n = some .local) (hc : Names X x c)
      (hsu : ∀ (a : Addr) (oe : Obj) (cls : Value) (d : Option Addr) (pn : List (Addr × Obj)), Zc cls d oe → (∃ vs, oe.data = .fields vs) → PSs (X.suite a ((a, oe) :: pn)) (b₀ :: suite) (ts a cls d)) (r : ClsOk X hds l) :
      ClsOk X (.ExceptHandler (some (.Name x np)) (some n) (b₀ :: suite) pos' :: hds) ((c, some i, ts) :: l)
section
variable {X : Cx} {body : List Stmt} {h₀ : ExceptHandler} {hds : List ExceptHandler} {l : List Clause} {pos : Pos} {tb : WX → TS} {Wout : WX}
theorem ps_try_cl (hs : X.stack = X.env :: X.outer) (hf : X.env.frame = some X.env.locals) (hN : X.N.Nodup) (tk : Takes X Wout)
    (hb : ∀ (W : WX) (pn : List (Addr × Obj)) (xe : Value → Shared → Prop), Takes (X.tr pn xe) W → PassesOwn (model X.prog X.w) X.A X.env xe → PSs (X.tr pn xe) body (tb W))
    (hh : ClsOk X (h₀ :: hds) l) : PS X (.Try body (h₀ :: hds) [] [] pos) (fun D σ H => tb (wCl X.K Wout D l) D σ H) := by
  refine ⟨fun pins s σ H D I h => ?_⟩
  have ok := I.ok
  have hfr : X.A.frames = some (X.env :: X.outer) := by rw [ok.frames, hs]
  refine wpAny_Try_except ?_
  refine wpAny_mono ((hb (wCl X.K Wout D l) (X.pn ++ pins) (fun e s₁ => wpAny (model X.prog X.w) X.A (noteFrame e X.env) (fun _ s₂ => wpAny (model X.prog X.w) X.A (setFlight e none) (fun _ s₃ =>
    wpAny (model X.prog X.w) X.A (handleBy e X.env (h₀ :: hds)) (SP X pins D) X.xe s₃) X.xe s₂) X.xe s₁) (fun u s' xx => ?_) PassesOwn.looking).run [] s σ H D (I.toTry _) h) (fun f s1 hsp => ?_) (fun e s1 he => he)
  · obtain ⟨a, B, sI, pins', σ', H', cls, d, rfl, J', nb, up, sky, na, os, ag, w⟩ := xx
    have J : Inv X pins σ' H' sI := J'.ofTry ok
    have sky' : Sky B (X.env :: X.outer) a (Zc cls d) X.env.locals s'.heap := by rw [← hs]; exact sky
    show wpAny (model X.prog X.w) X.A (noteFrame (.ref a) X.env) _ _ _
    refine Sky.land Zc.steady hfr hf sky' fun h3 fl3 up3 => ?_
    have J3 : Inv X pins σ' H' { s' with heap := h3 } := J.landed nb fl3.1 (up.trans up3) os ag
    obtain ⟨oe3, vs3, he3, hz3, hd3⟩ := fl3.there
    have notFr : ∀ {h : Heap} {o : Obj} {vs : Array Value}, h.FunFrames B (X.env :: X.outer) → h.get? a = some o → o.data = .fields vs → a ∉ frs (X.env :: X.outer) := fun {h o vs} ff e dd hm => by
      obtain ⟨_, o', e', hnf⟩ := ff.mem hm
      rw [e] at e'; cases e'
      exact hnf _ dd
    have nfr := notFr fl3.2.2.1 he3 hd3
    have nL : a ≠ X.env.locals := fun z => nfr (List.mem_filterMap.mpr ⟨X.env, List.mem_cons_self, by rw [hf, z]⟩)
    have nF : a ∉ X.fs := fun hm => by
      obtain ⟨e, he, q⟩ := List.mem_filterMap.mp hm
      exact nfr (List.mem_filterMap.mpr ⟨e, List.mem_cons_of_mem _ he, q⟩)
    have S3 := J3.suite he3 hd3 na nL nF
    have LT : PySem.W.Looks (model X.prog X.w) h3 (typeOf (.ref a)) cls := fun A Q E s k q => wpAny_typeOf_ref (k _ _ he3) (by rw [hz3.1]; exact q)
    have test : ∀ {x : Str} {c : Value} {np : Pos}, Names X x c → ∀ {Q : Value → Shared → Prop} {E : Value → Shared → Prop}, Q c { s' with heap := h3 } → wpAny (model X.prog X.w) (X.A.mark (some (.ref a))) (eval (.Name x np) X.env) Q E { s' with heap := h3 } := fun {x c np} hc {Q E} q => by
      obtain ⟨hg, hdbg, hm | ⟨hm, hv, hnn⟩⟩ := hc
      · exact ld_glob (X := X.suite a ((a, oe3) :: (X.pn ++ pins))) S3 hg hm q hdbg
      · exact ld_blt (X := X.suite a ((a, oe3) :: (X.pn ++ pins))) S3 hg hm hv q hnn hdbg
    have go : ∀ {hds' : List ExceptHandler} {l' : List Clause}, ClsOk X hds' l' → wCl X.K Wout D l' cls d σ' H' →
        wpAny (model X.prog X.w) X.A (handleBy (.ref a) X.env hds') (SP X pins D) X.xe { s' with heap := h3 } := by
      intro hds' l' hk
      induction hk with
      | nil =>
        intro w
        refine wpAny_handleBy_nil ?_
        obtain ⟨k1, k2, k3, oe, vs, T, oT, ts', he, hz, hd, h1, hr⟩ := id fl3
        unfold PySem.passOn
        refine wpAny_bind (wpAny_field he hd h1 ?_)
        rw [if_neg (show ¬ ((Value.ref T == Value.none) = true) from by simp)]
        have fin : wpAny (model X.prog X.w) X.A (setFlight (.ref a) X.env.frame) (fun _ s4 => wpAny (model X.prog X.w) X.A (throw (.ref a) : Sem Flow) (SP X pins D) X.xe s4) X.xe { s' with heap := h3 } := by
          rw [hf]
          refine HandSPX.setFlight_upZ fl3 fun h4 hh4 up4 => wpAny_throw (tk _ _ ?_)
          exact ⟨a, B, sI, pins, σ', H', cls, d, rfl, J, nb, (up.trans up3).trans up4, .inr (.inr (by rw [hs]; exact hh4)), na, os, ag, w⟩
        first
          | exact wpAny_bind (wpAny_pure (wpAny_bind fin))
          | exact wpAny_bind fin
      | @plain x c ts b₀ suite np pos' hds2 l2 hc hsu r ih =>
        intro w
        obtain ⟨b, hb1, hyes, hno⟩ := w
        refine wpAny_handleBy_cons (codeAny_handlers_test ?_) (by intro q; cases q)
        have LM := PySem.W.exm_one (M := model X.prog X.w) (J3.kIn) LT hb1
        refine test hc (LM.here ?_)
        cases b with
        | true =>
          refine codeAny_handlers_suite ?_
          refine HandSPX.lands_againZ fl3 fun h4 fl4 up4 => ?_
          have J4 : Inv X pins σ' H' { s' with heap := h4 } := J.landed nb fl4.1 ((up.trans up3).trans up4) os ag
          obtain ⟨oe4, vs4, he4, hz4, hd4⟩ := fl4.there
          have S4 := J4.suite he4 hd4 na nL nF
          refine wpAny_mono ((hsu a oe4 cls d (X.pn ++ pins) hz4 ⟨_, hd4⟩).run [] _ _ H' _ S4 (hyes rfl a na)) (fun f s6 hsp => ?_) (fun _ _ z => False.elim z)
          cases f with
          | next =>
            obtain ⟨σ6, H6, S6, q6⟩ := hsp
            exact ⟨_, _, S6.unsuite ok, q6⟩
          | brk =>
            obtain ⟨σ6, H6, S6, q6⟩ := hsp
            exact ⟨_, _, S6.unsuite ok, q6⟩
          | cont =>
            obtain ⟨σ6, H6, S6, q6⟩ := hsp
            exact ⟨_, _, S6.unsuite ok, q6⟩
          | ret u =>
            obtain ⟨v6, σ6, H6, S6, r6, q6⟩ := hsp
            exact ⟨_, _, _, S6.unsuite ok, r6, q6⟩
        | false =>
          show wpAny _ X.A (handleBy (.ref a) X.env hds2) _ _ _
          exact ih (hno rfl)
      | @named x n i c ts b₀ suite np pos' hds2 l2 hi hln hc hsu r ih =>
        intro w
        have hloc : Loc X.env.scope n := .inl hln
        obtain ⟨b, hb1, hyes, hno⟩ := w
        refine wpAny_handleBy_cons (codeAny_handlers_test ?_) (by intro q; cases q)
        have LM := PySem.W.exm_one (M := model X.prog X.w) (J3.kIn) LT hb1
        refine test hc (LM.here ?_)
        cases b with
        | true =>
          refine codeAny_handlers_suite_as ?_
          refine HandSPX.lands_againZ fl3 fun h4 fl4 up4 => ?_
          have J4 : Inv X pins σ' H' { s' with heap := h4 } := J.landed nb fl4.1 ((up.trans up3).trans up4) os ag
          obtain ⟨oe4, vs4, he4, hz4, hd4⟩ := fl4.there
          have S4 := J4.suite he4 hd4 na nL nF
          refine store_ok (X := X.suite a ((a, oe4) :: (X.pn ++ pins))) (v := .ref a) S4 hN hi hloc rfl (fun s5 S5 => ?_) (.inr hln)
          refine wpAny_mono ((hsu a oe4 cls d (X.pn ++ pins) hz4 ⟨_, hd4⟩).run [] s5 _ H' _ S5 (hyes rfl a na)) (fun f s6 hsp => ?_) (fun _ _ z => False.elim z)
          have end_ : ∀ {σ6 : L2.St} {H6 : Hp} {Q : Shared → Prop}, Inv (X.suite a ((a, oe4) :: (X.pn ++ pins))) [] σ6 H6 s6 → (∀ s7, Inv X pins (σ6.set i none) H6 s7 → Q s7) →
              wpAny (model X.prog X.w) X.A (do bindName X.env n .none; unbindBehindTheSuite X.env n pos') (fun _ s7 => Q s7) X.xe s6 := fun {σ6 H6 Q} S6 hq => gone_ok (S6.unsuite ok) hN hi hln hq
          cases f with
          | next =>
            obtain ⟨σ6, H6, S6, q6⟩ := hsp
            exact end_ S6 fun s7 J7 => ⟨_, _, J7, q6⟩
          | brk =>
            obtain ⟨σ6, H6, S6, q6⟩ := hsp
            exact end_ S6 fun s7 J7 => ⟨_, _, J7, q6⟩
          | cont =>
            obtain ⟨σ6, H6, S6, q6⟩ := hsp
            exact end_ S6 fun s7 J7 => ⟨_, _, J7, q6⟩
          | ret u =>
            obtain ⟨v6, σ6, H6, S6, r6, q6⟩ := hsp
            exact end_ S6 fun s7 J7 => ⟨_, _, _, J7, r6, q6⟩
        | false =>
          show wpAny _ X.A (handleBy (.ref a) X.env hds2) _ _ _
          exact ih (hno rfl)
    exact go hh w
  · cases f with
    | next =>
      obtain ⟨σ', H', J', q⟩ := hsp
      exact wpAny_execs_nil ⟨σ', H', J'.ofTry ok, q⟩
    | brk =>
      obtain ⟨σ', H', J', q⟩ := hsp
      exact ⟨σ', H', J'.ofTry ok, q⟩
    | cont =>
      obtain ⟨σ', H', J', q⟩ := hsp
      exact ⟨σ', H', J'.ofTry ok, q⟩
    | ret u =>
      obtain ⟨v, σ', H', J', r, q⟩ := hsp
      exact ⟨v, σ', H', J'.ofTry ok, r, q⟩
end
theorem takes_no {X : Cx} : Takes X fun _ _ _ _ => False := fun u s' ⟨a, B, sI, pins, σ, H, cls, d, e, I, nb, up, sky, na, os, ag, h⟩ => h.elim
/-- nothing is raised where nothing may be -/
theorem passN {X : Cx} : Passes (L2.CX X.prog X.w) X fun _ _ _ => False := fun _ _ _ _ _ _ _ ⟨_, _, _, _, _, _, _, _, _, _, _, _, h⟩ => h.elim
theorem passNo {X : Cx} (σ : L2.St) : PassesAt (L2.CX X.prog X.w) X σ fun _ _ _ => False := fun _ _ _ _ _ _ ⟨_, _, _, _, _, _, _, _, _, _, _, _, h⟩ => h.elim
section
variable {X : Cx} {CX : CXT} {k : Nat} {f C : Addr} {fd : FuncData} {ps : List Str} {sp : Sp} {E : L2.St → XK} {x m : Str} {p pos apos : Pos} {e o : Expr} {es : List Expr} {ta : TE} {t : TA}
/-- o.m(..), the wish of what is raised by the slots -/
def tMethS (C : Addr) (m : Str) (sp : Sp) (E : L2.St → XK) (ta : TE) (t : TA) : TE := fun σ H Q => ta σ H fun x H1 => ∃ a dx fs, x = .ref a ∧ H1 a = some (.ins C dx fs) ∧ fs.lookup m = none ∧ t σ H1 fun vs H2 => sp (x :: vs) H2 Q (E σ)
theorem pe_methAt {pl : Sem Bool} (he : PE X o ta) (c : Cls X.K C) (hm : Meth X.K C m f) (F : FnOk X.prog X.w X.K X.mg X.base CX k f fd ps sp) (hr : Room k X.A) (hb : Binds X.K fd ps []) (hx : ∀ σ, PassesAt CX X σ (E σ)) (ha : PA X (e :: es) t)
    (hst : starEach (e :: es) X.env = (false, eval e X.env) :: starEach es X.env := by rfl) (hpl : (backTo pos (starEach es X.env)).any (·.1) = false := by rfl)
    (ht : eval (.Call (.Attribute o m apos) (e :: es) [] pos) X.env = (do
      let ov ← eval o X.env
      standAt apos.atName
      let (f, first) ← holding [ov] (getMethod ov m pl)
      callWith pos f first (backTo pos (starEach (e :: es) X.env)) (backToKw pos (keywordEach [] X.env))) := by rfl) :
    PE X (.Call (.Attribute o m apos) (e :: es) [] pos) (tMethS C m sp E ta t) := by
  refine ⟨fun pins s σ H Q I h => ?_⟩
  refine PySem.W.methodCall_KW (pl := pl) (thn (he.run pins s σ H _ I h) fun u s1 ⟨x, H1, I1, rx, a, dx, fs, ex, ea, l, q⟩ => ?_) ht
  subst ex
  obtain rfl : u = Value.ref a := rx
  refine getmeth_ok I1 ea c hm l ?_
  refine PySem.W.callWith_K (first := [.ref a]) (h₀ := X.base) I.ok.mod.kin hm.kp (thn (ha.run pos pins s1 σ H1 _ I1 q) fun us s2 ⟨vs, H2, I2, r, q2⟩ => ⟨I2.kIn, ?_⟩) hst hpl
  exact run_fnS (us := .ref a :: us) (vs := .ref a :: vs) F hr hb (hx σ) I2 (.cons rfl r) q2
theorem pe_methAt0 {pl : Sem Bool} (he : PE X o ta) (c : Cls X.K C) (hm : Meth X.K C m f) (F : FnOk X.prog X.w X.K X.mg X.base CX k f fd ps sp) (hr : Room k X.A) (hb : Binds X.K fd ps []) (hx : ∀ σ, PassesAt CX X σ (E σ))
    (ht : eval (.Call (.Attribute o m apos) [] [] pos) X.env = (do
      let ov ← eval o X.env
      standAt apos.atName
      let (f, first) ← holding [ov] (getMethod ov m pl)
      callWith pos f first (backTo pos (starEach [] X.env)) (backToKw pos (keywordEach [] X.env))) := by rfl) :
    PE X (.Call (.Attribute o m apos) [] [] pos) (tMethS C m sp E ta tNil) := by
  refine ⟨fun pins s σ H Q I h => ?_⟩
  refine PySem.W.methodCall_KW (pl := pl) (thn (he.run pins s σ H _ I h) fun u s1 ⟨x, H1, I1, rx, a, dx, fs, ex, ea, l, q⟩ => ?_) ht
  subst ex
  obtain rfl : u = Value.ref a := rx
  refine getmeth_ok I1 ea c hm l ?_
  exact PySem.W.callWith_K0 (first := [.ref a]) I1.kIn hm.kp (run_fnS (us := [.ref a]) (vs := [.ref a]) F hr hb (hx σ) I1 (.cons rfl .nil) q)
end
end Vtr

set_option Elab.async false
set_option linter.all false
set_option maxRecDepth 100000
set_option maxHeartbeats 2000000
/-! Who is called, in one word: a def of the module (Fu), a method (Mo), a property (Pr), an own class made (Nw). -/
namespace Vc
open PySem PySem.Spec PyProof.Rows L2 Evl Vtr Vo
abbrev nil0 : XK := fun _ _ _ => False
structure Fu (P : Program) (w : World) (K : PySem.W.Frag) (mg : Str → Option Value) (base : Heap) (CX : CXT) (k : Nat) (x : Str) (sp : Sp) : Prop where
  ex : ∃ (f : Addr) (fd : FuncData) (ps : List Str), FnOk P w K mg base CX k f fd ps sp ∧ mg x = some (.ref f) ∧ PySem.W.keepIn K (.ref f) = true ∧ L2.Binds K fd ps []
structure Mo (P : Program) (w : World) (K : PySem.W.Frag) (mg : Str → Option Value) (base : Heap) (C : Addr) (CX : CXT) (k : Nat) (m : Str) (sp : Sp) : Prop where
  ex : ∃ (f : Addr) (fd : FuncData) (ps : List Str), FnOk P w K mg base CX k f fd ps sp ∧ Meth K C m f ∧ L2.Binds K fd ps []
structure Pr (P : Program) (w : World) (K : PySem.W.Frag) (mg : Str → Option Value) (base : Heap) (C : Addr) (k : Nat) (m : Str) (sp : Sp) : Prop where
  ex : ∃ (p f : Addr) (fd : FuncData) (ps : List Str), FnOk P w K mg base L2.CX0 k f fd ps sp ∧ PropOf K C m p f ∧ L2.Binds K fd ps []
structure Nw (P : Program) (w : World) (K : PySem.W.Frag) (mg : Str → Option Value) (base : Heap) (C : Addr) (CX : CXT) (k : Nat) (x : Str) (sp : Sp) : Prop where
  ex : ∃ (f : Addr) (fd : FuncData) (ps : List Str), FnOk P w K mg base CX k f fd ps sp ∧ Mk K C f ∧ L2.Binds K fd ps [] ∧ mg x = some (.ref C)
theorem app_nil (vs : List V) : vs ++ [] = vs := List.append_nil vs
section
variable {X : Cx} {C : Addr} {j k : Nat} {x m : Str} {sp : Sp} {E : L2.St → XK} {p pos apos : Pos} {e o : Expr} {es : List Expr} {ta : TE} {t : TA}
/-- the promise, asked of the arguments -/
def tFu (sp : Sp) (E : L2.St → XK) (t : TA) : TE := fun σ H Q => t σ H fun vs H1 => sp vs H1 Q (E σ)
theorem pe_fu (T : Fu X.prog X.w X.K X.mg X.base L2.CX0 k x sp) (hr : Room j X.A) (hg : Gl X x) (ha : PA X (e :: es) t) (hk : k ≤ j := by decide) (hdb : (x == ("__debug__" : Str)) = false := by decide)
    (he : starEach (e :: es) X.env = (false, eval e X.env) :: starEach es X.env := by rfl) (hpl : (backTo pos (starEach es X.env)).any (·.1) = false := by rfl) : PE X (.Call (.Name x p) (e :: es) [] pos) (tFu sp (fun _ => nil0) t) := by
  obtain ⟨f, fd, ps, F, hm, kp, b⟩ := T.ex
  exact pe_callS (E := fun _ => nil0) F (hr.mono hk) hg hm kp b (fun _ _ _ _ _ _ _ h => h.elim) ha hdb he hpl
theorem pe_fuX (T : Fu X.prog X.w X.K X.mg X.base (L2.CX X.prog X.w) k x sp) (hr : Room j X.A) (hg : Gl X x) (hx : ∀ σ, PassesAt (L2.CX X.prog X.w) X σ (E σ)) (ha : PA X (e :: es) t) (hk : k ≤ j := by decide) (hdb : (x == ("__debug__" : Str)) = false := by decide)
    (he : starEach (e :: es) X.env = (false, eval e X.env) :: starEach es X.env := by rfl) (hpl : (backTo pos (starEach es X.env)).any (·.1) = false := by rfl) : PE X (.Call (.Name x p) (e :: es) [] pos) (tFu sp E t) := by
  obtain ⟨f, fd, ps, F, hm, kp, b⟩ := T.ex
  exact pe_callS F (hr.mono hk) hg hm kp b hx ha hdb he hpl
/-- one that may raise, where it raises nothing -/
theorem pe_fuN (T : Fu X.prog X.w X.K X.mg X.base (L2.CX X.prog X.w) k x sp) (hr : Room j X.A) (hg : Gl X x) (ha : PA X (e :: es) t) (hk : k ≤ j := by decide) (hdb : (x == ("__debug__" : Str)) = false := by decide)
    (he : starEach (e :: es) X.env = (false, eval e X.env) :: starEach es X.env := by rfl) (hpl : (backTo pos (starEach es X.env)).any (·.1) = false := by rfl) : PE X (.Call (.Name x p) (e :: es) [] pos) (tFu sp (fun _ => nil0) t) := by
  exact pe_fuX (E := fun _ => nil0) T hr hg (fun σ => passNo σ) ha hk hdb he hpl
theorem pe_mo {pl : Sem Bool} (he : PE X o ta) (c : Cls X.K C) (T : Mo X.prog X.w X.K X.mg X.base C L2.CX0 k m sp) (hr : Room j X.A) (ha : PA X (e :: es) t) (hk : k ≤ j := by decide)
    (hst : starEach (e :: es) X.env = (false, eval e X.env) :: starEach es X.env := by rfl) (hpl : (backTo pos (starEach es X.env)).any (·.1) = false := by rfl)
    (ht : eval (.Call (.Attribute o m apos) (e :: es) [] pos) X.env = (do
      let ov ← eval o X.env
      standAt apos.atName
      let (f, first) ← holding [ov] (getMethod ov m pl)
      callWith pos f first (backTo pos (starEach (e :: es) X.env)) (backToKw pos (keywordEach [] X.env))) := by rfl) :
    PE X (.Call (.Attribute o m apos) (e :: es) [] pos) (tMethS C m sp (fun _ => nil0) ta t) := by
  obtain ⟨f, fd, ps, F, hm, b⟩ := T.ex
  exact pe_methAt (pl := pl) he c hm F (hr.mono hk) b (fun _ _ _ _ _ _ _ h => h.elim) ha hst hpl ht
theorem pe_moX {pl : Sem Bool} (he : PE X o ta) (c : Cls X.K C) (T : Mo X.prog X.w X.K X.mg X.base C (L2.CX X.prog X.w) k m sp) (hr : Room j X.A) (hx : ∀ σ, PassesAt (L2.CX X.prog X.w) X σ (E σ)) (ha : PA X (e :: es) t) (hk : k ≤ j := by decide)
    (hst : starEach (e :: es) X.env = (false, eval e X.env) :: starEach es X.env := by rfl) (hpl : (backTo pos (starEach es X.env)).any (·.1) = false := by rfl)
    (ht : eval (.Call (.Attribute o m apos) (e :: es) [] pos) X.env = (do
      let ov ← eval o X.env
      standAt apos.atName
      let (f, first) ← holding [ov] (getMethod ov m pl)
      callWith pos f first (backTo pos (starEach (e :: es) X.env)) (backToKw pos (keywordEach [] X.env))) := by rfl) :
    PE X (.Call (.Attribute o m apos) (e :: es) [] pos) (tMethS C m sp E ta t) := by
  obtain ⟨f, fd, ps, F, hm, b⟩ := T.ex
  exact pe_methAt (pl := pl) he c hm F (hr.mono hk) b hx ha hst hpl ht
theorem pe_moN {pl : Sem Bool} (he : PE X o ta) (c : Cls X.K C) (T : Mo X.prog X.w X.K X.mg X.base C (L2.CX X.prog X.w) k m sp) (hr : Room j X.A) (ha : PA X (e :: es) t) (hk : k ≤ j := by decide)
    (hst : starEach (e :: es) X.env = (false, eval e X.env) :: starEach es X.env := by rfl) (hpl : (backTo pos (starEach es X.env)).any (·.1) = false := by rfl)
    (ht : eval (.Call (.Attribute o m apos) (e :: es) [] pos) X.env = (do
      let ov ← eval o X.env
      standAt apos.atName
      let (f, first) ← holding [ov] (getMethod ov m pl)
      callWith pos f first (backTo pos (starEach (e :: es) X.env)) (backToKw pos (keywordEach [] X.env))) := by rfl) :
    PE X (.Call (.Attribute o m apos) (e :: es) [] pos) (tMethS C m sp (fun _ => nil0) ta t) := pe_moX (pl := pl) (E := fun _ => nil0) he c T hr (fun σ => passNo σ) ha hk hst hpl ht
theorem pe_mo0 {pl : Sem Bool} (he : PE X o ta) (c : Cls X.K C) (T : Mo X.prog X.w X.K X.mg X.base C L2.CX0 k m sp) (hr : Room j X.A) (hk : k ≤ j := by decide)
    (ht : eval (.Call (.Attribute o m apos) [] [] pos) X.env = (do
      let ov ← eval o X.env
      standAt apos.atName
      let (f, first) ← holding [ov] (getMethod ov m pl)
      callWith pos f first (backTo pos (starEach [] X.env)) (backToKw pos (keywordEach [] X.env))) := by rfl) :
    PE X (.Call (.Attribute o m apos) [] [] pos) (tMethS C m sp (fun _ => nil0) ta tNil) := by
  obtain ⟨f, fd, ps, F, hm, b⟩ := T.ex
  exact pe_methAt0 (pl := pl) he c hm F (hr.mono hk) b (fun _ _ _ _ _ _ _ h => h.elim) ht
theorem pe_mo0X {pl : Sem Bool} (he : PE X o ta) (c : Cls X.K C) (T : Mo X.prog X.w X.K X.mg X.base C (L2.CX X.prog X.w) k m sp) (hr : Room j X.A) (hx : ∀ σ, PassesAt (L2.CX X.prog X.w) X σ (E σ)) (hk : k ≤ j := by decide)
    (ht : eval (.Call (.Attribute o m apos) [] [] pos) X.env = (do
      let ov ← eval o X.env
      standAt apos.atName
      let (f, first) ← holding [ov] (getMethod ov m pl)
      callWith pos f first (backTo pos (starEach [] X.env)) (backToKw pos (keywordEach [] X.env))) := by rfl) :
    PE X (.Call (.Attribute o m apos) [] [] pos) (tMethS C m sp E ta tNil) := by
  obtain ⟨f, fd, ps, F, hm, b⟩ := T.ex
  exact pe_methAt0 (pl := pl) he c hm F (hr.mono hk) b hx ht
/-- o.m, a property -/
def tPr (C : Addr) (sp : Sp) (ta : TE) : TE := fun σ H Q => ta σ H fun x H1 => ∃ a dx fs, x = .ref a ∧ H1 a = some (.ins C dx fs) ∧ sp [.ref a] H1 Q nil0
theorem pe_pr (he : PE X e ta) (c : Cls X.K C) (T : Pr X.prog X.w X.K X.mg X.base C k m sp) (hr : Room j X.A) (hk : k + 1 ≤ j := by decide) (hab : attributeBase e m X.env (eval e X.env) = eval e X.env := by rfl) :
    PE X (.Attribute e m pos) (tPr C sp ta) := by
  obtain ⟨p, f, fd, ps, F, hp, b⟩ := T.ex
  refine ⟨(pe_prop (E := nil0) he c hp F (hr.mono hk) b .nil (fun _ _ _ _ _ _ _ h => h.elim) hab).run⟩
/-- C(..) of an own class -/
def tNw (C : Addr) (sp : Sp) (E : L2.St → XK) (t : TA) : TE := fun σ H Q => t σ H fun vs H1 => ∀ x dx, H1 x = none → H1 dx = none → dx ≠ x → sp (.ref x :: vs) (upd (upd H1 dx (.own x)) x (.ins C dx [])) (fun v H2 => v = .non ∧ Q (.ref x) H2) (E σ)
theorem pe_nw0 (T : Nw X.prog X.w X.K X.mg X.base C L2.CX0 k x sp) (hr : Room j X.A) (hg : Gl X x) (hk : k + 1 ≤ j := by decide) (hdb : (x == ("__debug__" : Str)) = false := by decide) :
    PE X (.Call (.Name x p) [] [] pos) (tNw C sp (fun _ => nil0) tNil) := by
  obtain ⟨f, fd, ps, F, M, b, hm⟩ := T.ex
  exact ⟨(pe_make0 (E := nil0) M F (hr.mono hk) hg hm b .nil (fun _ _ _ _ _ _ _ h => h.elim) hdb).run⟩
theorem pe_nw (T : Nw X.prog X.w X.K X.mg X.base C L2.CX0 k x sp) (hr : Room j X.A) (hg : Gl X x) (ha : PA X (e :: es) t) (hk : k + 1 ≤ j := by decide) (hdb : (x == ("__debug__" : Str)) = false := by decide)
    (hs : starEach (e :: es) X.env = (false, eval e X.env) :: starEach es X.env := by rfl) (hpl : (backTo pos (starEach es X.env)).any (·.1) = false := by rfl) : PE X (.Call (.Name x p) (e :: es) [] pos) (tNw C sp (fun _ => nil0) t) := by
  obtain ⟨f, fd, ps, F, M, b, hm⟩ := T.ex
  refine Vl.pe_weak (pe_make (E := nil0) M F (hr.mono hk) hg hm b .nil (fun _ _ _ _ _ _ _ h => h.elim) ha hdb hs hpl) fun σ H Q h => ?_
  unfold tMake
  simp only [app_nil]
  exact h
/-- y in o, y not in o -/
theorem op_inM (T : Mo X.prog X.w X.K X.mg X.base C L2.CX0 k "__contains__" sp) (hr : Room j X.A) (hk : k ≤ j := by decide) : OpR X (compareOp .In) (rHas C false sp nil0) := by
  obtain ⟨f, fd, ps, F, hm, b⟩ := T.ex
  exact op_inO hm F (hr.mono hk) b (fun _ _ _ _ _ _ _ h => h.elim)
theorem op_notInM (T : Mo X.prog X.w X.K X.mg X.base C L2.CX0 k "__contains__" sp) (hr : Room j X.A) (hk : k ≤ j := by decide) : OpR X (compareOp .NotIn) (rHas C true sp nil0) := by
  obtain ⟨f, fd, ps, F, hm, b⟩ := T.ex
  exact op_notInO hm F (hr.mono hk) b (fun _ _ _ _ _ _ _ h => h.elim)
end
/-- o[i] of an own class -/
structure Gt (P : Program) (w : World) (K : PySem.W.Frag) (mg : Str → Option Value) (base : Heap) (C : Addr) (CX : CXT) (k : Nat) (sp : Sp) : Prop where
  ex : ∃ (f : Addr) (fd : FuncData) (ps : List Str), FnOk P w K mg base CX k f fd ps sp ∧ Meth K C "__getitem__" f ∧ L2.Binds K fd ps [] ∧ PySem.W.fnIn K f = true
abbrev tIxM (C : Addr) (sp : Sp) (E : L2.St → XK) (ta tb : TE) : TE := tOwn2 C (fun _ => True) sp E ta tb
section
variable {X : Cx} {C : Addr} {j k : Nat} {sp : Sp} {E : L2.St → XK} {pos : Pos} {a b : Expr} {ta tb : TE}
theorem pe_ixX (T : Gt X.prog X.w X.K X.mg X.base C (L2.CX X.prog X.w) k sp) (hr : Room j X.A) (hx : ∀ st, PassesAt (L2.CX X.prog X.w) X st (E st)) (ha : PE X a ta) (hi : PE X b tb) (hk : k + 1 ≤ j := by decide)
    (hs : ∀ o i, subscripted b true (.ref o) i = runValue (.builtin "lifetime.subscript" ⟨[.ref o, i], []⟩) := by intro _ _; rfl) : PE X (.Subscript a b pos) (tIxM C sp E ta tb) := by
  obtain ⟨f, fd, ps, F, hm, b', hf⟩ := T.ex
  exact pe_ixO hm hf F (hr.mono hk) b' hx ha hi hs
theorem pe_ixN (T : Gt X.prog X.w X.K X.mg X.base C (L2.CX X.prog X.w) k sp) (hr : Room j X.A) (ha : PE X a ta) (hi : PE X b tb) (hk : k + 1 ≤ j := by decide)
    (hs : ∀ o i, subscripted b true (.ref o) i = runValue (.builtin "lifetime.subscript" ⟨[.ref o, i], []⟩) := by intro _ _; rfl) : PE X (.Subscript a b pos) (tIxM C sp (fun _ => nil0) ta tb) := pe_ixX (E := fun _ => nil0) T hr (fun σ => passNo σ) ha hi hk hs
/-- len(o) -/
def rLenM (C : Addr) (sp : Sp) : List V → Hp → VK → Prop := fun xs H Q => ∃ o dx fs, xs = [.ref o] ∧ H o = some (.ins C dx fs) ∧ sp [.ref o] H (fun v H1 => ∃ n : Nat, v = .int n ∧ n < 2 ^ 62 ∧ Q (.int n) H1) nil0
theorem call_lenM (T : Mo X.prog X.w X.K X.mg X.base C L2.CX0 k "__len__" sp) (hr : Room j X.A) (hk : k + 1 ≤ j := by decide) : CallR X (.builtin "len") (rLenM C sp) := by
  obtain ⟨f, fd, ps, F, hm, b⟩ := T.ex
  exact call_lenO (E1 := nil0) hm hm.fn F (hr.mono hk) b (fun _ _ _ _ _ _ _ h => h.elim)
theorem pe_negM (T : Mo X.prog X.w X.K X.mg X.base C L2.CX0 k "__neg__" sp) (hr : Room j X.A) (ha : PE X a ta) (hk : k ≤ j := by decide) : PE X (.UnaryOp .USub a pos) (tOwn1 C sp (fun _ => nil0) ta) := by
  obtain ⟨f, fd, ps, F, hm, b⟩ := T.ex
  exact pe_negO (E := fun _ => nil0) hm F (hr.mono hk) b (fun _ _ _ _ _ _ _ h => h.elim) ha
end
/-! ### what they are made of -/
section
variable {P : Program} {w : World} {K : PySem.W.Frag} {mg : Str → Option Value} {base : Heap} {CX : CXT} {k : Nat} {f C : Addr} {fd : FuncData} {ps : List Str} {sp : Sp} {x m : Str}
theorem Fu.of (F : FnOk P w K mg base CX k f fd ps sp) (hm : mg x = some (.ref f)) (kp : PySem.W.keepIn K (.ref f) = true) (b : L2.Binds K fd ps []) : Fu P w K mg base CX k x sp := ⟨f, fd, ps, F, hm, kp, b⟩
theorem Mo.of (F : FnOk P w K mg base CX k f fd ps sp) (hm : Meth K C m f) (b : L2.Binds K fd ps []) : Mo P w K mg base C CX k m sp := ⟨f, fd, ps, F, hm, b⟩
theorem Fu.mono {j : Nat} (T : Fu P w K mg base CX k x sp) (h : k ≤ j) : Fu P w K mg base CX j x sp := by
  obtain ⟨f, fd, ps, F, r⟩ := T.ex
  exact ⟨f, fd, ps, F.mono h, r⟩
end
/-! ### what they come to -/
section
variable {K : PySem.W.Frag} {σ : L2.St} {H : Hp} {z : V}
theorem ev_fu {sp : Sp} {E : L2.St → XK} {vs : List V} {ta : TA} (h : EvA ta σ H vs) (hs : SpV sp vs H z) : Ev (tFu sp E ta) σ H z := fun H1 e Q q =>
  h H1 e _ fun H2 e2 => hs H2 (e.trans e2) Q (fun H3 e3 => q H3 (e2.trans e3)) (E σ)
theorem el_fu {sp : Sp} {E : L2.St → XK} {vs xs : List V} {ta : TA} (h : EvA ta σ H vs) (hs : SpL sp vs H xs) : EvL (tFu sp E ta) σ H xs := fun H1 e Q q =>
  h H1 e _ fun H2 e2 => hs H2 (e.trans e2) Q (fun p H3 hp e3 h3 => q p H3 (fresh_back e2 hp) (e2.trans e3) h3) (E σ)
def SpU (sp : Sp) (vs : List V) (H : Hp) (xs : List V) : Prop := ∀ H1, Ex H H1 → ∀ Q : VK, (∀ p H2, H1 p = none → Ex H1 H2 → H2 p = some (.tup xs) → Q (.ref p) H2) → ∀ E : XK, sp vs H1 Q E
/-- a method on an object -/
theorem ev_me {C : Addr} {m : Str} {sp : Sp} {E : L2.St → XK} {te : TE} {ta : TA} {o dx : Addr} {fs : List (Str × V)} {vs : List V} (h : Ev te σ H (.ref o)) (ho : H o = some (.ins C dx fs)) (hl : fs.lookup m = none) (ha : EvA ta σ H vs) (hs : SpV sp (.ref o :: vs) H z) :
    Ev (tMethS C m sp E te ta) σ H z := fun H1 e Q q => h H1 e _ fun H2 e2 => ⟨o, dx, fs, rfl, (e.trans e2) _ _ ho, hl, ha H2 (e.trans e2) _ fun H3 e3 => hs H3 ((e.trans e2).trans e3) Q (fun H4 e4 => q H4 ((e2.trans e3).trans e4)) (E σ)⟩
theorem eu_me {C : Addr} {m : Str} {sp : Sp} {E : L2.St → XK} {te : TE} {ta : TA} {o dx : Addr} {fs : List (Str × V)} {vs xs : List V} (h : Ev te σ H (.ref o)) (ho : H o = some (.ins C dx fs)) (hl : fs.lookup m = none) (ha : EvA ta σ H vs) (hs : SpU sp (.ref o :: vs) H xs) :
    EvU (tMethS C m sp E te ta) σ H xs := fun H1 e Q q => h H1 e _ fun H2 e2 => ⟨o, dx, fs, rfl, (e.trans e2) _ _ ho, hl, ha H2 (e.trans e2) _ fun H3 e3 => hs H3 ((e.trans e2).trans e3) Q (fun p H4 hp e4 h4 => q p H4 (fresh_back (e2.trans e3) hp) ((e2.trans e3).trans e4) h4) (E σ)⟩
theorem eu_pr {C : Addr} {sp : Sp} {te : TE} {o dx : Addr} {fs : List (Str × V)} {xs : List V} (h : Ev te σ H (.ref o)) (ho : H o = some (.ins C dx fs)) (hs : SpU sp [.ref o] H xs) : EvU (tPr C sp te) σ H xs := fun H1 e Q q =>
  h H1 e _ fun H2 e2 => ⟨o, dx, fs, rfl, (e.trans e2) _ _ ho, hs H2 (e.trans e2) Q (fun p H4 hp e4 h4 => q p H4 (fresh_back e2 hp) (e2.trans e4) h4) nil0⟩
theorem ev_has {C : Addr} {neg : Bool} {sp : Sp} {ta tb : TE} {y : V} {o dx : Addr} {fs : List (Str × V)} {b : Bool} (hy : Ev ta σ H y) (h : Ev tb σ H (.ref o)) (ho : H o = some (.ins C dx fs)) (hs : SpV sp [.ref o, y] H (.bl b)) :
    Ev (tOp (rHas C neg sp nil0) ta tb) σ H (.bl (if neg = true then !b else b)) := ev_op hy h fun H1 e Q q => ⟨o, dx, fs, rfl, e _ _ ho, hs H1 e _ (fun H2 e2 => ⟨b, rfl, q H2 e2⟩) nil0⟩
/-- o[i], i a new tuple -/
theorem eu_ixM {C : Addr} {sp : Sp} {E : L2.St → XK} {ta tb : TE} {o dx : Addr} {fs : List (Str × V)} {is xs : List V} (h : Ev ta σ H (.ref o)) (ho : H o = some (.ins C dx fs)) (hi : EvU tb σ H is) (hs : ∀ t H1, Ex H H1 → H1 t = some (.tup is) → SpU sp [.ref o, .ref t] H1 xs) :
    EvU (tIxM C sp E ta tb) σ H xs := fun H1 e Q q => h H1 e _ fun H2 e2 => hi H2 (e.trans e2) _ fun t H3 ht e3 h3 => ⟨o, dx, fs, rfl, ((e.trans e2).trans e3) _ _ ho, trivial, hs t H3 ((e.trans e2).trans e3) h3 H3 (Ex.refl _) Q (fun p H4 hp e4 h4 => q p H4 (fresh_back (e2.trans e3) hp) ((e2.trans e3).trans e4) h4) (E σ)⟩
theorem ev_lenM {C : Addr} {sp : Sp} {ta : TE} {o dx : Addr} {fs : List (Str × V)} {n : Nat} (h : Ev ta σ H (.ref o)) (ho : H o = some (.ins C dx fs)) (hn : n < 2 ^ 62) (hs : SpV sp [.ref o] H (.int n)) : Ev (tCB (rLenM C sp) (tCons ta tNil)) σ H (.int n) :=
  fun H1 e Q q => h H1 e _ fun H2 e2 => ⟨o, dx, fs, rfl, (e.trans e2) _ _ ho, hs H2 (e.trans e2) _ (fun H3 e3 => ⟨n, rfl, hn, q H3 (e2.trans e3)⟩) nil0⟩
/-- a comparison of two new tuples, of two values at addresses -/
theorem ev_opT {r : R2} {ta tb : TE} {xs ys : List V} {K : PySem.W.Frag} (h : EvU ta σ H xs) (h2 : EvU tb σ H ys) (hr : ∀ p q H1, SqT K H1 p xs → SqT K H1 q ys → Ex H H1 → RV r (.ref p) (.ref q) H1 z) : Ev (tOp r ta tb) σ H z :=
  ev_opUU h h2 fun p q H1 hp hq e => hr p q H1 (.inl (.inl hp)) (.inl (.inl hq)) e
end
end Vc

set_option Elab.async false
set_option linter.all false
set_option maxRecDepth 100000
set_option maxHeartbeats 2000000
/-! An error of the program, with one field, raised about a variable's value. -/
namespace Vx2
open PySem PySem.Spec PyProof.Rows L2 Vl Evl
/-- the error of the class at CN about y, its field called f -/
def RaisedF (CN : Addr) (f : Str) (H : Hp) (y : V) (E : XK) : Prop := ∀ d H', Ex H H' → H' d = some (.xd [(f, y)]) → E (.ref CN) (some d) H'
theorem raised_f {CN : Addr} {f : Str} {te : TE} {st : L2.St} {H : Hp} {y : V} {W : WX} (i : Nat) (h : te = tVar i) (hy : st[i]? = some (some y)) (q : RaisedF CN f H y fun cls d H' => W cls d st H') :
    tMkO CN (spIni CN f) [] (tCons te tNil) st H (fun cls d H' => W cls d st H') := by
  subst h
  refine ⟨y, hy, by show 1 ≤ 1000; omega, fun a na => ?_⟩
  refine ⟨a, y, rfl, upd_same, fun dx n1 n2 => ?_⟩
  have nd : H dx = none := by rw [upd_ne n2] at n1; exact n1
  refine ⟨rfl, dx, [(f, y)], upd_same, by rw [upd_ne n2, upd_same], nd, ?_⟩
  refine q dx _ (fun b o hb => ?_) upd_same
  rw [upd_ne (ne_of_none hb nd), del_ne (ne_of_none hb na), upd_ne (ne_of_none hb na), upd_ne (ne_of_none hb nd), upd_ne (ne_of_none hb na)]
  exact hb
/-- what is asked of such a class to be raised, and its __init__ -/
structure Err1 (P : Program) (w : World) (K : PySem.W.Frag) (mg : Str → Option Value) (base : Heap) (x f : Str) (C : Addr) : Prop where
  T : OexC K C
  X : XfC K C
  no : PySem.W.findIn K (.ref C) f = some none
  g : mg x = some (.ref C)
  ini : ∃ fI fd, PySem.W.findIn K (.ref C) "__init__" = some (some (.ref fI)) ∧ PySem.W.typeIn K (.ref fI) = some (.type "function") ∧ Binds K fd ["self", f] [] ∧ FnOk P w K mg base CX0 1 fI fd ["self", f] (spIni C f)
end Vx2

set_option Elab.async false
set_option linter.all false
set_option maxRecDepth 100000
set_option maxHeartbeats 2000000
/-! The head's facts as a list; what they say of classes, errors, properties. -/
namespace Vh
open PySem PySem.Spec PyProof.Rows L2 Vx2 Vc
abbrev Fact : Type := Fg → Bool
def allF (fs : List Fact) (K : Fg) : Bool := fs.all fun g => g K
theorem fact_at {fs : List Fact} {K : Fg} (h : allF fs K = true) (i : Nat) {g : Fact} (e : fs[i]? = some g := by rfl) : g K = true := List.all_eq_true.mp h g (List.mem_of_getElem? e)
def glosF (xs : List Str) : Fact := fun K => xs.all fun x => (He.Fa.glo x).ok K
def freesF (xs : List Str) : Fact := fun K => xs.all fun x => (He.Fa.free x).ok K
theorem glos_ok {xs : List Str} {K : Fg} {h : Heap} {mg : Str → Option Value} (X : K.In h) (G : h.Ns mainGlobals mg) (c : glosF xs K = true) : ∀ x ∈ xs, mg x = some (.ref (He.ga K x)) := fun x hx => He.glo_ok X G (List.all_eq_true.mp c x hx)
theorem frees_ok {xs : List Str} {K : Fg} {h : Heap} {mg : Str → Option Value} (X : K.In h) (G : h.Ns mainGlobals mg) (c : freesF xs K = true) : ∀ x ∈ xs, mg x = none := fun x hx => He.free_ok X G (List.all_eq_true.mp c x hx)
/-- a class of the program: its methods, its fields' names free -/
def clsF (x : Str) (fs ms : List Str) : Fact := fun K => (He.Fa.cls x).ok K && ((fs.all fun f => (He.Fa.noat x f).ok K) && ms.all fun m => (He.Fa.meth x m).ok K)
structure ClsK (K : Fg) (C : Addr) (fs ms : List Str) : Prop where
  cls : Cls K C
  no : ∀ f ∈ fs, NoAttr K C f
  me : ∀ m ∈ ms, Meth K C m (He.ma K C m)
theorem clsF_ok {x : Str} {fs ms : List Str} {K : Fg} (c : clsF x fs ms K = true) : ClsK K (He.ga K x) fs ms := by
  obtain ⟨c1, c2⟩ := He.ba c
  obtain ⟨c2, c3⟩ := He.ba c2
  exact ⟨He.cls_ok c1, fun f hf => He.noat_ok (List.all_eq_true.mp c2 f hf), fun m hm => He.meth_ok (List.all_eq_true.mp c3 m hm)⟩
/-- a property -/
def prpF (x f : Str) : Fact := fun K =>
  He.eqO (PySem.W.findIn K (.ref (He.ga K x)) f) (some (some (.ref (He.ma K (He.ga K x) f)))) && (He.eqO (PySem.W.specialIn K (.ref (He.ma K (He.ga K x) f)) "__get__") (some (some (.builtin "property.__get__"))) && (decide (PySem.W.takesIn K (.ref (He.ma K (He.ga K x) f)) = some true) &&
  (match PySem.W.recIn K (He.ma K (He.ga K x) f) "property" with
    | some (.ref _ :: _) => true
    | _ => false)))
theorem prpF_ok {x f : Str} {K : Fg} (h : prpF x f K = true) : PropOf K (He.ga K x) f (He.ma K (He.ga K x) f) (pgA K x f) := by
  obtain ⟨h1, h⟩ := He.ba h
  obtain ⟨h2, h⟩ := He.ba h
  obtain ⟨h3, h4⟩ := He.ba h
  refine ⟨He.eqO_ok h1, He.eqO_ok h2, of_decide_eq_true h3, ?_⟩
  unfold pgA
  split at h4
  · next g rest e => exact ⟨rest, by rw [e]⟩
  · cases h4
/-- a class of errors with fields -/
def errF (x : Str) (fs : List Str) : Fact := fun K => errB K (He.ga K x) && iniB K (He.ga K x) fs
/-- a class of errors without an own __init__ -/
def err0F (x : Str) : Fact := fun K => errB K (He.ga K x)
def exmF (xs : List Str) : Fact := fun K => xs.all fun x => xs.all fun y => (He.Fa.exm x y (decide (x = y))).ok K
theorem exmF_ok {xs : List Str} {K : Fg} (h : exmF xs K = true) {x y : Str} (hx : x ∈ xs) (hy : y ∈ xs) : PySem.W.exmOne K (.ref (He.ga K x)) (.ref (He.ga K y)) = some (decide (x = y)) :=
  of_decide_eq_true (List.all_eq_true.mp (List.all_eq_true.mp h x hx) y hy)
def fnF (x m : Str) : Fact := fun K => PySem.W.fnIn K (He.ma K (He.ga K x) m)
def mkF (x : Str) : Fact := fun K => (He.Fa.mkr x).ok K
def strF (x z : Str) : Fact := fun K => (He.Fa.str x z).ok K
def intF (x : Str) (i : Int) : Fact := fun K => (He.Fa.int x i).ok K
theorem err1_of {P : Program} {w : World} {K : Fg} {mg : Str → Option Value} {base : Heap} {x f : Str} {fd : FuncData} (h : errF x [f] K = true) (hk : takB K = true) (g : mg x = some (.ref (He.ga K x)))
    (G : FnOk P w K mg base L2.CX0 1 (He.ma K (He.ga K x) "__init__") fd ["self", f] (Vl.spIni (He.ga K x) f)) (b : L2.Binds K fd ["self", f] []) : Err1 P w K mg base x f (He.ga K x) := by
  obtain ⟨h1, h2⟩ := He.ba h
  obtain ⟨O, XF, IS⟩ := errB_ok h1 hk
  have I := iniB_ok h2
  exact ⟨O, XF, I.no f List.mem_cons_self, g, _, fd, I.iC, I.tI, b, G⟩
end Vh

set_option Elab.async false
set_option linter.all false
set_option maxRecDepth 100000
set_option maxHeartbeats 2000000
/-! tuple(d) of a dict: its keys. -/
namespace Vd
open PySem PySem.Spec PyProof.Rows PySem.W
section
variable {prog : Program} {w : World} {A : Around} {E : Value → Shared → Prop} {s : Shared} {T : String} {r d : Addr} {n : Nat} {P : Nat → Value → Prop} {OK : Heap → Prop}
theorem collect_kdl {Q : List Value → Shared → Prop} (K : KdlSrc prog w T r d n P OK) (hh : A.handled = none) (hok : OK s.heap) (hn : n ≤ sizeLine)
    (hQ : ∀ (h' : Heap) (tk : Nat) (acc : Array Value), (∀ b o, s.heap.get? b = some o → h'.get? b = some o) → ItemsOf P acc n → Q acc.toList { s with heap := h', toks := tk }) :
    wpAny (model prog w) A (collect (.ref r)) Q E s := by
  have lt := K.there _ hok
  have hSr : s.heap.objs.size ≠ r := Nat.ne_of_gt lt.1
  have hSd : s.heap.objs.size ≠ d := Nat.ne_of_gt lt.2
  unfold collect
  refine wpAny_bind (wpAny_runValue (codeAny_builtin F.entry_proto_collect ?_))
  rw [Around.under_plainId F.plain_proto_collect _]
  show wpAny _ A.in1 (newList [] >>= fun l' => again (.builtin "list.__iadd__" ⟨[l', .ref r], []⟩)) _ _ s
  refine wpAny_bind (wpAny_newObj_type ?_)
  refine wpAny_pure ⟨plainId_quiet F.plain_list_iadd _, codeAny_builtin F.entry_list_iadd ?_⟩
  rw [Around.under_plainId F.plain_list_iadd _]
  have hS₁ : (s.heap.push { cls := .type "list", data := .seq ([] : List Value).toArray }).get? s.heap.objs.size = some { cls := .type "list", data := .seq ([] : List Value).toArray } := Heap.get?_push_size _ rfl
  show wpAny _ A.in1 (Builtin.List.listExtendWith (.ref s.heap.objs.size) (.ref r) (.ref s.heap.objs.size)) _ _ _
  refine kdl_extend (R := wants _ E) (A := A) (s := { s with heap := s.heap.push { cls := .type "list", data := .seq ([] : List Value).toArray } }) K hh (K.keep _ _ hok fun b _ o e => Heap.get?_push_of_some _ e) s.heap.objs.size hSr hSd (.ref s.heap.objs.size) 0 hS₁ (fun h' tk acc' c' hk hS' hacc => ?_) hn
  show wpAny _ A (load s.heap.objs.size >>= _) _ _ _
  refine wpAny_bind (wpAny_load hS' ?_)
  refine wpAny_pure ?_
  exact hQ h' tk acc' (fun b o e => hk b o (Nat.ne_of_lt (Heap.lt_size e)) (Heap.get?_push_of_some _ e)) hacc
theorem code_tuple_kdl {Q₁ : Value → Shared → Prop} (K : KdlSrc prog w T r d n P OK) (hh : A.handled = none) (hok : OK s.heap) (hn : n ≤ sizeLine)
    (h : ∀ (h' : Heap) (tk : Nat) (acc : Array Value), (∀ b o, s.heap.get? b = some o → h'.get? b = some o) → ItemsOf P acc n → Q₁ (.ref h'.objs.size) { s with heap := h'.push { cls := .type "tuple", data := .seq acc }, toks := tk }) :
    codeAny (model prog w) A (.call (.builtin "tuple.__new__") ⟨[.type "tuple", .ref r], []⟩) (wants Q₁ E) s := by
  refine codeAny_of_tree ?_
  show wpAny _ A.in1 (do checkBuiltinCall "tuple.__new__" ⟨[.type "tuple", .ref r], []⟩; again (.builtin "tuple.__new__" ⟨[.type "tuple", .ref r], []⟩)) _ _ s
  refine wpAny_bind (wpAny_of_eq (F.newCall_tuple_1 _) (wpAny_pure ⟨plainId_quiet F.plain_tuple_new _, codeAny_builtin F.entry_tuple_new ?_⟩))
  rw [Around.under_plainId F.plain_tuple_new _]
  have hsub := sub_tuple_self
  have hinit := init_tuple_lookup
  have hmh := madeHere_tuple
  have hTI : s.TypeIs (.ref r) T := K.type s hok
  have hnt := K.notTuple
  have hh1 : A.in1.handled = none := hh
  wp_walk using wpAny_typeOf hTI, collect_kdl (A := A.in1) K hh1 hok hn
  intro h' tk acc hk hacc
  show wpAny _ _ (Builtin.Tuple.tupleExact acc.toList.toArray >>= fun v => ret v) _ _ _
  unfold Builtin.Tuple.tupleExact
  refine wpAny_bind (wpAny_newObj_type ?_ (by show acc.toList.toArray.size ≤ sizeLine; simp only [Array.toArray_toList]; rw [hacc.1]; exact hn))
  refine wpAny_pure ?_
  have e : acc.toList.toArray = acc := by simp
  rw [e]
  exact h h' tk acc hk hacc
theorem call_tuple_kdl {Q : Value → Shared → Prop} (K : KdlSrc prog w T r d n P OK) (hh : A.handled = none) (hok : OK s.heap) (hn : n ≤ sizeLine)
    (hQ : ∀ (h' : Heap) (tk : Nat) (acc : Array Value), (∀ b o, s.heap.get? b = some o → h'.get? b = some o) → ItemsOf P acc n → Q (.ref h'.objs.size) { s with heap := h'.push { cls := .type "tuple", data := .seq acc }, toks := tk }) :
    wpAny (model prog w) A (call (.type "tuple") [.ref r]) Q E s := by
  refine callType_codes (Q₁ := fun obj s₁ => s₁.TypeIs obj "tuple" ∧ Q obj s₁) F.called_tuple (F.typeCall_tuple_1 _) F.entry_object_init
    (code_tuple_kdl (A := A.in1) K hh hok hn fun h' tk acc hk hacc => ⟨⟨_, Heap.get?_push_size _ rfl, rfl⟩, hQ h' tk acc hk hacc⟩) fun obj s₁ h₁ => ?_
  exact ⟨h₁.1, F.args_object_init_2 obj _, object_init_meets F.called_tuple.init.lookup F.called_tuple.made (by decide) prog w A.in1 _ s₁ ⟨h₁.1, rfl, h₁.2⟩⟩
end
section
open L2
variable {X : Cx}
/-- tuple(d): its keys -/
theorem call_tupleD (hcalm : X.calm = true) : CallR X (.type "tuple") (fun xs H Q => ∃ (a : Addr) (kvs : List (L2.Key × V)), xs = [.ref a] ∧ Rd H a (.dK kvs) ∧ ∀ p, H p = none → Q (.ref p) (upd H p (.tup (kvs.map fun kv => kV kv.1)))) := by
  intro pins s σ H xs us Q I r q
  obtain ⟨a, kvs, ex, hd, q⟩ := q
  subst ex
  obtain ⟨u, eu, rx⟩ := vals1 r
  subst eu
  cases rx
  obtain ⟨z, lo, vs, rel, dd⟩ := dk_rd I.hok hd
  obtain ⟨ep, hat⟩ := dd.dictAt
  have ek : (kvs.map fun kv => kV kv.1) = vs.map fun p => kV p.1 := by
    have e := congrArg (List.map kV) rel.keys
    rw [List.map_map, List.map_map] at e
    exact e
  refine call_tuple_kdl (PySem.W.kdl_dict (knd := mixKind X.prog X.w) (kvs := vs) (ep := ep) lo) (I.ok.hd hcalm) hat (by rw [← rel.length]; exact z) fun h' tk acc hk hacc => ?_
  have hv : Vals (vs.map fun p => kV p.1) acc.toList := keys_at (by rw [Array.length_toList]; exact hacc.1) fun j v e => hacc.2 j v (by rw [← Array.getElem?_toList]; exact e)
  have I1 : Inv X pins σ H { s with heap := h', toks := tk } := I.kept (t' := tk) hk
  refine ⟨.ref h'.objs.size, upd H h'.objs.size (.tup (kvs.map fun kv => kV kv.1)), I1.laid (t' := tk) (fun b o e => Heap.get?_push_of_some _ e) (Nat.le_refl _)
    (show ObjOk X.prog X.w _ _ _ (.tup (kvs.map fun kv => kV kv.1)) from ⟨by rw [List.length_map]; exact z, acc.toList, by rw [ek]; exact hv, by rw [Array.toArray_toList]; exact IsTup.new _ _⟩), rfl, q _ (I1.hok.fresh (Nat.le_refl _))⟩
end
end Vd

set_option Elab.async false
set_option linter.all false
set_option maxRecDepth 100000
set_option maxHeartbeats 2000000
/-! The laws' own draws: a pool of three ints, names out of it. -/
namespace Vp
open PySem PySem.Spec PyProof.Rows L2 Vl Evl
/-- a text by its signs -/
def tx (l : List Nat) : Str := ⟨l.toArray⟩
theorem tx_list (l : List Nat) : (tx l).cps.toList = l := rfl
theorem tx_len (l : List Nat) : (tx l).length = l.length := rfl
theorem tx_app (a b : List Nat) : tx a ++ tx b = tx (a ++ b) := by
  show Str.mk (a.toArray ++ b.toArray) = Str.mk (a ++ b).toArray
  rw [List.append_toArray]
theorem tx_one (c : Nat) : (⟨#[c]⟩ : Str) = tx [c] := rfl
theorem tx_inj {a b : List Nat} (h : tx a = tx b) : a = b := by
  have := congrArg (fun z : Str => z.cps.toList) h
  exact this
theorem tx_of (z : Str) : z = tx z.cps.toList := by
  obtain ⟨a⟩ := z
  rfl
theorem tx_cut0 (l : List Nat) (k : Nat) : cutS (tx l) none (some (k : Int)) = tx (l.take k) := by
  show Str.mk _ = Str.mk _
  rw [HT.sIx_nat, HT.sIx_none, tx_len, tx_list, List.drop_zero, Nat.sub_zero, ← List.take_take, List.take_length]
theorem tx_cut1 (l : List Nat) (k : Nat) : cutS (tx l) (some (k : Int)) none = tx (l.drop k) := by
  show Str.mk _ = Str.mk _
  rw [HT.sIx_nat, HT.sIx_none, tx_len, tx_list]
  congr 2
  by_cases h : k ≤ l.length
  · rw [Nat.min_eq_left h, ← List.length_drop, List.take_length]
  · rw [List.drop_of_length_le (by omega), List.drop_of_length_le (by omega), List.take_nil]
def letters : List Nat := [97, 98, 99, 100, 101, 102, 103, 104, 105, 106, 107, 108, 109, 110, 111, 112, 113, 114, 115, 116, 117, 118, 119, 120, 121, 122]
def digits : List Nat := [48, 49, 50, 51, 52, 53, 54, 55, 56, 57]
def signs : List Nat := letters ++ digits
/-- the signs of a name: a small letter, then up to seven small letters and figures -/
def nam (l : List Nat) : Prop := ∃ c r, l = c :: r ∧ c ∈ letters ∧ (∀ x ∈ r, x ∈ signs) ∧ r.length ≤ 7
theorem nam_len {l : List Nat} (h : nam l) : 1 ≤ l.length ∧ l.length ≤ 8 := by
  obtain ⟨c, r, rfl, _, _, h4⟩ := h
  rw [List.length_cons]
  omega
theorem letters_signs {c : Nat} (h : c ∈ letters) : c ∈ signs := List.mem_append_left _ h
theorem nam_signs {l : List Nat} (h : nam l) : ∀ x ∈ l, x ∈ signs := by
  obtain ⟨c, r, rfl, h2, h3, _⟩ := h
  intro x hx
  rcases List.mem_cons.mp hx with rfl | hx
  · exact letters_signs h2
  · exact h3 x hx
theorem nam_take {l : List Nat} (h : nam l) (k : Nat) : nam (l.take (k + 1)) := by
  obtain ⟨c, r, rfl, h2, h3, h4⟩ := h
  refine ⟨c, r.take k, List.take_succ_cons, h2, fun x hx => h3 x (List.mem_of_mem_take hx), ?_⟩
  rw [List.length_take]
  omega
/-- a pool stands at p, its counter at most n -/
def PoolAt (H : Hp) (p : Addr) (n : Nat) : Prop := ∃ a b c : Int, H p = some (.lst [.int a, .int b, .int c]) ∧ 0 ≤ b ∧ b < 1000000007 ∧ 0 ≤ c ∧ c ≤ n
theorem PoolAt.mono {H : Hp} {p : Addr} {n m : Nat} (h : PoolAt H p n) (hm : n ≤ m) : PoolAt H p m := by
  obtain ⟨a, b, c, h1, h2, h3, h4, h5⟩ := h
  exact ⟨a, b, c, h1, h2, h3, h4, by omega⟩
/-- all but what stands at p -/
def Wo (H : Hp) (p : Addr) : Hp := fun b => if b = p then none else H b
theorem wo_self (H : Hp) (p : Addr) : Wo H p p = none := if_pos rfl
theorem wo_ne {H : Hp} {p b : Addr} (h : b ≠ p) : Wo H p b = H b := if_neg h
theorem wo_ex (H : Hp) (p : Addr) : Ex (Wo H p) H := fun b o e => by
  by_cases h : b = p
  · rw [h, wo_self] at e
    cases e
  · rw [wo_ne h] at e
    exact e
theorem wo_of {Hk H : Hp} {p : Addr} (h : Hk p = none) (e : Ex Hk H) : Ex Hk (Wo H p) := fun b o hb => by
  rw [wo_ne (ne_of_none hb h)]
  exact e b o hb
theorem wo_at {H : Hp} {p b : Addr} {o : HO} (h : H b = some o) (hb : b ≠ p) : Wo H p b = some o := by
  rw [wo_ne hb]
  exact h
/-- what is known is Hk, all but the pool at p; the pool stands there -/
structure Pl (Hk : Hp) (p : Addr) (n : Nat) (H : Hp) : Prop where
  no : Hk p = none
  ex : Ex Hk H
  at_ : PoolAt H p n
theorem Pl.re {Hk H : Hp} {p : Addr} {n : Nat} (h : Pl Hk p n H) : Pl (Wo H p) p n H := ⟨wo_self _ _, wo_ex _ _, h.at_⟩
theorem Pl.wo {Hk H : Hp} {p : Addr} {n : Nat} (h : Pl Hk p n H) : Ex Hk (Wo H p) := wo_of h.no h.ex
theorem Pl.grow {Hk H H' : Hp} {p : Addr} {n : Nat} (h : Pl Hk p n H) (e : Ex H H') : Pl Hk p n H' := by
  obtain ⟨a, b, c, h1, h2⟩ := h.at_
  exact ⟨h.no, h.ex.trans e, a, b, c, e _ _ h1, h2⟩
theorem Pl.cnt {Hk H : Hp} {p : Addr} {n m : Nat} (h : Pl Hk p n H) (hm : n ≤ m) : Pl Hk p m H := ⟨h.no, h.ex, h.at_.mono hm⟩
theorem Pl.sub {Hk Hj H : Hp} {p : Addr} {n : Nat} (h : Pl Hk p n H) (e : Ex Hj Hk) (hn : Hj p = none) : Pl Hj p n H := ⟨hn, e.trans h.ex, h.at_⟩
/-- a new object beside the pool -/
theorem Pl.new {Hk H : Hp} {p q : Addr} {n : Nat} {o : HO} (h : Pl Hk p n H) (hq : H q = none) : Pl Hk p n (upd H q o) := h.grow (Ex.new hq)
theorem Pl.ne {Hk H : Hp} {p q : Addr} {n : Nat} (h : Pl Hk p n H) (hq : H q = none) : q ≠ p := fun z => by
  obtain ⟨a, b, c, h1, _⟩ := h.at_
  rw [z, h1] at hq
  cases hq
/-! promises -/
def spPool : Sp := fun vs H Q _ => ∃ c : Int, vs = [.int c] ∧ ∀ p H', H p = none → Ex H H' → PoolAt H' p 0 → Q (.ref p) H'
def spTake : Sp := fun vs H Q _ => ∃ (p : Addr) (m : Int) (Hk : Hp) (n : Nat), vs = [.ref p, .int m] ∧ 1 ≤ m ∧ m ≤ 100000 ∧ Pl Hk p n H ∧ n ≤ 100000 ∧
  ∀ (r : Int) H', 0 ≤ r → r < m → Pl Hk p (n + 1) H' → Q (.int r) H'
/-- names, none of them twice -/
def Names (xs : List (List Nat)) : Prop := (∀ l ∈ xs, nam l) ∧ xs.Nodup
def vtx (xs : List (List Nat)) : List V := xs.map fun l => V.str (tx l)
theorem vtx_len (xs : List (List Nat)) : (vtx xs).length = xs.length := List.length_map _
theorem vtx_app (xs ys : List (List Nat)) : vtx (xs ++ ys) = vtx xs ++ vtx ys := List.map_append
theorem vtx_at {xs : List (List Nat)} {i : Nat} {l : List Nat} (h : xs[i]? = some l) : (vtx xs)[i]? = some (V.str (tx l)) := by
  unfold vtx
  rw [List.getElem?_map, h]
  rfl
def spNames : Sp := fun vs H Q _ => ∃ (p : Addr) (m : Nat) (Hk : Hp) (n : Nat), vs = [.ref p, .int (m : Int)] ∧ m ≤ 8 ∧ Pl Hk p n H ∧ n ≤ 90000 ∧
  ∀ q xs H', H q = none → Pl Hk p (n + 50) H' → H' q = some (.lst (vtx xs)) → xs.length = m → Names xs → Q (.ref q) H'
/-- words out of names -/
def spWord : Sp := fun vs H Q _ => ∃ (p q : Addr) (xs : List (List Nat)) (m : Nat) (Hk : Hp) (n : Nat), vs = [.ref p, .ref q, .int (m : Int)] ∧ 1 ≤ m ∧ m ≤ 30 ∧ Pl Hk p n H ∧ n ≤ 90000 ∧ Hk q = some (.lst (vtx xs)) ∧ 1 ≤ xs.length ∧ xs.length ≤ 1000 ∧
  ∀ d ys H', H d = none → Pl Hk p (n + 50) H' → H' d = some (.lst (vtx ys)) → 1 ≤ ys.length → ys.length ≤ max m 12 → (∀ y ∈ ys, y ∈ xs) → Q (.ref d) H'
theorem mod7 {s i j n : Nat} (hn : n = 26 ∨ n = 36) (hi : i < 26) (hj : j < 26) (h : (s + 7 * i) % n = (s + 7 * j) % n) : i = j := by
  rcases hn with rfl | rfl <;> omega
theorem mod3 {s i j : Nat} (hi : i < 8) (hj : j < 8) (h : (s + 3 * i) % 26 = (s + 3 * j) % 26) : i = j := by omega
theorem nodup_letters : letters.Nodup := by decide
theorem nodup_signs : signs.Nodup := by decide +kernel
theorem len_letters : letters.length = 26 := rfl
theorem len_signs : signs.length = 36 := rfl
theorem nodup_key {α : Type} {l : List α} (h : ∀ (i j : Nat) (y : α), l[i]? = some y → l[j]? = some y → i = j) : l.Nodup := by
  refine List.pairwise_iff_getElem.mpr fun i j hi hj hij e => ?_
  have := h i j l[i] (List.getElem?_eq_getElem hi) (by rw [e]; exact List.getElem?_eq_getElem hj)
  omega
theorem nodup_range {α : Type} {m : Nat} {f : Nat → α} (h : ∀ i j, i < m → j < m → f i = f j → i = j) : ((List.range m).map f).Nodup := by
  refine nodup_key fun i j y hi hj => ?_
  rw [List.getElem?_map] at hi hj
  by_cases a : i < m
  · by_cases b : j < m
    · rw [List.getElem?_range a] at hi
      rw [List.getElem?_range b] at hj
      exact h i j a b ((Option.some.inj hi).trans (Option.some.inj hj).symm)
    · rw [List.getElem?_eq_none (by rw [List.length_range]; omega)] at hj
      cases hj
  · rw [List.getElem?_eq_none (by rw [List.length_range]; omega)] at hi
    cases hi
theorem getD_at {l : List Nat} {i : Nat} (h : i < l.length) : l[i]? = some (l.getD i 0) := by
  rw [List.getElem?_eq_getElem h, List.getD_eq_getElem?_getD, List.getElem?_eq_getElem h]
  rfl
theorem getD_mem {l : List Nat} {i : Nat} (h : i < l.length) : l.getD i 0 ∈ l := List.mem_of_getElem? (getD_at h)
theorem getD_inj {l : List Nat} (hn : l.Nodup) {i j : Nat} (hi : i < l.length) (hj : j < l.length) (h : l.getD i 0 = l.getD j 0) : i = j :=
  nd_ix hn (getD_at hi) (by rw [h]; exact getD_at hj)
theorem nam_one {c : Nat} (h : c ∈ letters) : nam [c] := ⟨c, [], rfl, h, (fun _ z => nomatch z), by show 0 ≤ 7; omega⟩
theorem nam_snoc {l : List Nat} {c : Nat} (h : nam l) (hc : c ∈ signs) (hl : l.length ≤ 7) : nam (l ++ [c]) := by
  obtain ⟨a, r, rfl, h2, h3, h4⟩ := h
  refine ⟨a, r ++ [c], rfl, h2, fun x hx => ?_, ?_⟩
  · rcases List.mem_append.mp hx with hx | hx
    · exact h3 x hx
    · rw [List.mem_singleton.mp hx]
      exact hc
  · rw [List.length_append, List.length_singleton]
    rw [List.length_cons] at hl
    omega
theorem nam_cons {l : List Nat} {c : Nat} (hc : c ∈ letters) (hl : ∀ x ∈ l, x ∈ signs) (h7 : l.length ≤ 7) : nam (c :: l) := ⟨c, l, rfl, hc, hl, h7⟩
/-- a sign put into a stem -/
theorem nam_put {w : List Nat} {c t p : Nat} (hw : nam w) (ht : t ≤ 7) (hp : p ≤ (w.take t).length) (h : p = 0 → c ∈ letters) (h2 : c ∈ signs) :
    nam ((w.take t).take p ++ [c] ++ (w.take t).drop p) := by
  have hm : ∀ x ∈ w.take t, x ∈ signs := fun x hx => nam_signs hw x (List.mem_of_mem_take hx)
  have hl : (w.take t).length ≤ 7 := by rw [List.length_take]; omega
  cases p with
  | zero =>
    rw [List.take_zero, List.nil_append, List.drop_zero]
    exact nam_cons (h rfl) hm hl
  | succ p =>
    obtain ⟨a, r, hw1, ha, hr, h7⟩ := hw
    cases t with
    | zero =>
      rw [List.take_zero] at hp
      exact absurd hp (by show ¬ p + 1 ≤ 0; omega)
    | succ t =>
      rw [hw1, List.take_succ_cons] at hm hl hp ⊢
      rw [List.take_succ_cons, List.drop_succ_cons, List.append_assoc]
      rw [List.length_cons] at hl hp
      refine ⟨a, (r.take t).take p ++ ([c] ++ (r.take t).drop p), rfl, ha, fun x hx => ?_, ?_⟩
      · rcases List.mem_append.mp hx with hx | hx
        · exact hm x (List.mem_cons_of_mem _ (List.mem_of_mem_take hx))
        · rcases List.mem_append.mp hx with hx | hx
          · rw [List.mem_singleton.mp hx]
            exact h2
          · exact hm x (List.mem_cons_of_mem _ (List.mem_of_mem_drop hx))
      · rw [List.length_append, List.length_append, List.length_take, List.length_drop, List.length_singleton]
        omega
theorem put_at {w : List Nat} {c p : Nat} (hp : p ≤ w.length) : (w.take p ++ [c] ++ w.drop p)[p]? = some c := by
  rw [List.append_assoc, List.getElem?_append_right (by rw [List.length_take]; omega), List.length_take, Nat.min_eq_left hp, Nat.sub_self]
  rfl
theorem str_letters : Str.ofString "abcdefghijklmnopqrstuvwxyz" = tx letters := by decide +kernel
theorem str_digits : Str.ofString "0123456789" = tx digits := by decide +kernel
theorem rv_cats {a b : List Nat} {H : Hp} (h : a.length + b.length ≤ 100000) : RV rCatS (.str (tx a)) (.str (tx b)) H (.str (tx (a ++ b))) := by
  intro H1 _ Q q
  refine ⟨tx a, tx b, rfl, rfl, sz_of h, ?_⟩
  rw [tx_app]
  exact q H1 (Ex.refl H1)
theorem fresh_wo {H H' : Hp} {p d : Addr} {n m : Nat} {Hk : Hp} (h0 : Pl Hk p n H) (h : Pl (Wo H p) p m H') (hd : H' d = none) : H d = none := by
  cases e : H d with
  | none => rfl
  | some o =>
    have hp : d ≠ p := h.ne hd
    have := h.ex d o (wo_at e hp)
    rw [hd] at this
    cases this
theorem Pl.back {Hk H H' : Hp} {p : Addr} {n m : Nat} (h0 : Pl Hk p n H) (h : Pl (Wo H p) p m H') : Pl Hk p m H' := h.sub h0.wo h0.no
theorem cutV0 (xs : List V) (k : Nat) : cutV xs none (some (k : Int)) = xs.take k := by
  unfold cutV
  rw [HT.sIx_nat, HT.sIx_none, List.drop_zero, Nat.sub_zero, ← List.take_take, List.take_length]
theorem cutV1 (xs : List V) (k : Nat) : cutV xs (some (k : Int)) none = xs.drop k := by
  unfold cutV
  rw [HT.sIx_nat, HT.sIx_none]
  by_cases h : k ≤ xs.length
  · rw [Nat.min_eq_left h, ← List.length_drop, List.take_length]
  · rw [List.drop_of_length_le (by omega), List.drop_of_length_le (by omega), List.take_nil]
theorem vtx_take (xs : List (List Nat)) (k : Nat) : (vtx xs).take k = vtx (xs.take k) := List.map_take.symm
theorem vtx_drop (xs : List (List Nat)) (k : Nat) : (vtx xs).drop k = vtx (xs.drop k) := List.map_drop.symm
theorem vtx_rep (xs : List (List Nat)) : ∀ k, (List.replicate k (vtx xs)).flatten = vtx (List.replicate k xs).flatten
  | 0 => rfl
  | k + 1 => by
    rw [List.replicate_succ, List.flatten_cons, List.replicate_succ, List.flatten_cons, vtx_rep xs k, vtx_app]
theorem rep_len {α : Type} (xs : List α) : ∀ k, (List.replicate k xs).flatten.length = k * xs.length
  | 0 => by rw [Nat.zero_mul]; rfl
  | k + 1 => by
    rw [List.replicate_succ, List.flatten_cons, List.length_append, rep_len xs k, Nat.succ_mul]
    omega
theorem rep_mem {α : Type} {xs : List α} {y : α} {k : Nat} (h : y ∈ (List.replicate k xs).flatten) : y ∈ xs := by
  obtain ⟨l, hl, hy⟩ := List.mem_flatten.mp h
  rw [(List.mem_replicate.mp hl).2] at hy
  exact hy
end Vp

set_option maxRecDepth 100000
namespace K05
open PySem
def top (i : Nat) : Stmt := PySem.Challenge.pw_alsoshown_k05_walks_and_ways.main.body.getD i (.Pass ⟨0, 0, 0, 0⟩)
end K05

set_option Elab.async false
set_option linter.all false
set_option maxRecDepth 100000
set_option maxHeartbeats 4000000
namespace K05
open PySem PySem.Spec PyProof.Rows L2 Vl Evl Vp
abbrev sCell : Stmt := top 25
abbrev sPool : Stmt := top 26
abbrev sTake : Stmt := top 27
abbrev FnP (K : PySem.W.Frag) (x : Str) (st : Stmt) (f : Addr) (fd : FuncData) : Prop := FunD K x x (defArgs st) (defBody st) (defScope st) [] [] f fd
section
variable {P : Program} {w : World} {K : PySem.W.Frag} {mg : Str → Option Value} {base : Heap}
theorem scC : FnScope ["_law_script", "_law_k"] ["_law_script", "_law_k"] (defScope sCell) := ⟨rfl, rfl, rfl, by decide +kernel, rfl, by decide +kernel, by decide +kernel⟩
theorem ok_cell {f : Addr} {fd : FuncData} (F : FnP K "_law_cell" sCell f fd) (mL : mg "len" = none) :
    FnOk P w K mg base CX0 1 f fd ["_law_script", "_law_k"] (spCell K) := by
  refine F.ok (CX := CX0) scC (fun vs H Q E h => ?_) (fun cdv A outer s H vs Q E hr h => ?_)
  · obtain ⟨l, ns, j, rfl, _⟩ := h
    rfl
  · refine ⟨_, pss_cons (ps_if (pt_cmpR op_lt (pv 1) (pe_callB call_len (by rfl) mL boot_len (pa_cons (pv 0) pa_nil)) (nomark _))
        (pss_one (ps_ret (pe_ix ix_seq (pv 0) (pv 1) fun _ _ => rfl))) pss_nil)
      (pss_one (ps_ret pe_int)), ?_⟩
    obtain ⟨l, ns, j, rfl, hs, q⟩ := h
    refine ⟨_, rfl, _, rfl, V.ref l, (ns.map V.int).length, rfl, .inl ⟨_, hs, rfl⟩, (j : Nat), ((ns.map V.int).length : Nat), rfl, rfl, _, rfl, ?_⟩
    by_cases hj : j < ns.length
    · rw [decide_eq_true (show ((j : Nat) : Int) < (((ns.map V.int).length : Nat) : Int) by rw [List.length_map]; omega)]
      refine iteT ?_
      exact ⟨_, rfl, _, rfl, .inl ⟨l, _, _, _, rfl, rfl, hs, atI_cell hj, q⟩⟩
    · rw [decide_eq_false (show ¬ ((j : Nat) : Int) < (((ns.map V.int).length : Nat) : Int) by rw [List.length_map]; omega)]
      refine iteF ?_
      rw [cell_out hj] at q
      exact q
theorem scP : FnScope ["_law_cell_here", "_law_folded"] ["_law_cell_here"] (defScope sPool) := ⟨rfl, rfl, rfl, by decide +kernel, rfl, by decide +kernel, by decide +kernel⟩
theorem ok_pool {f : Addr} {fd : FuncData} (F : FnP K "_law_pool" sPool f fd) (mI : mg "int" = none) :
    FnOk P w K mg base CX0 1 f fd ["_law_cell_here"] spPool := by
  refine F.ok (CX := CX0) scP (fun vs H Q E h => ?_) (fun cdv A outer s H vs Q E hr h => ?_)
  · obtain ⟨c, rfl, _⟩ := h
    rfl
  · refine ⟨_, pss_cons (ps_set (i := 1) scP.nd rfl (by first | exact Or.inl rfl | exact Or.inr rfl) (pe_op op_mul pe_int (pv 0)))
      (pss_cut (ps_if (pt_cmpR op_lt (pv 0) pe_int (nomark _)) (pss_one (ps_set (i := 1) scP.nd rfl (by first | exact Or.inl rfl | exact Or.inr rfl) (pe_op op_sub (pe_op op_sub pe_int (pe_op op_mul pe_int (pv 0))) pe_int))) pss_nil)
      (pss_cons (ps_if (pt_cmpR op_ge (pv 1) (pe_op op_pow pe_int pe_int) (nomark _)) (pss_one (ps_ret (pe_lst (pa_cons (pv 1) (pa_cons (pe_op op_mod (pe_callTy call_int1 (by rfl) mI (by decide +kernel) (pa_cons (pv 1) pa_nil)) pe_int) (pa_cons pe_int pa_nil)))))) pss_nil)
      (pss_one (ps_ret (pe_lst (pa_cons pe_int (pa_cons (pe_op op_mod (pe_callTy call_int1 (by rfl) mI (by decide +kernel) (pa_cons (pv 1) pa_nil)) pe_int) (pa_cons pe_int pa_nil)))))))), ?_⟩
    obtain ⟨c, rfl, q⟩ := h
    refine s_asg (v := .int (2 * c)) (ev_op ev_c (ev_var rfl) (rv_I (.inl ⟨by decide, by decide⟩))) fun H1 e1 => ?_
    refine ⟨fun st H2 => Ex H H2 ∧ ∃ g : Int, st = [some (.int c), some (.int g)], ?_, ?_⟩
    · refine s_if (b := decide (c < 0)) (et_test (ev_op (ev_var rfl) ev_c rv_I0)) (fun _ H2 e2 => ?_) (fun _ H2 e2 => ?_)
      · refine s_asg (v := .int (0 - 2 * c - 1)) (ev_op (ev_op ev_c (ev_op ev_c (ev_var rfl) (rv_I (.inl ⟨by decide, by decide⟩))) rv_I0) ev_c rv_I0) fun H3 e3 => ?_
        exact ⟨e1.trans (e2.trans e3), _, rfl⟩
      · exact ⟨e1.trans e2, _, rfl⟩
    rintro _ H2 ⟨e2, g, rfl⟩
    have fin : ∀ (a : Int) (H3 : Hp), Ex H H3 → ∀ p, H3 p = none → Q (.ref p) (upd H3 p (.lst [.int a, .int (g % 1000000007), .int 0])) := fun a H3 e3 p np =>
      q p _ (fresh_back e3 np) (e3.trans (Ex.new np)) ⟨a, _, 0, upd_same, Int.emod_nonneg _ (by decide), Int.emod_lt_of_pos _ (by decide), Int.le_refl 0, Int.le_refl 0⟩
    have ei : Ev (tOp (rI (fun _ j => 0 < j) fun i j => .int (i % j)) (tCB (fun xs H Q => (∃ i, xs = [.int i] ∧ Q (.int i) H) ∨ ∃ k, xs = [.bl k] ∧ Q (.int (if k then 1 else 0)) H) (tCons (tVar 1) tNil)) (tC (.int 1000000007)))
        [some (.int c), some (.int g)] H2 (.int (g % 1000000007)) :=
      ev_op (ev_cb (ea_cons (ev_var rfl) ea_nil) (fun H1 _ Q q => .inl ⟨_, rfl, q H1 (Ex.refl H1)⟩)) ev_c (rv_I (by show (0 : Int) < 1000000007; decide))
    refine s_seq ?_
    refine s_if (b := decide ((10 : Int) ^ (18 : Int).toNat ≤ g)) (et_test (ev_op (ev_var rfl) (ev_op ev_c ev_c (rv_I ⟨by decide, by decide, by decide⟩)) rv_I0)) (fun _ H3 e3 => ?_) (fun _ H3 e3 => ?_)
    · exact ⟨_, rfl, ei.mono e3 H3 (Ex.refl H3) _ fun H4 e4 => ⟨by show 3 ≤ sizeLine; decide, fun p np => fin g H4 (e2.trans (e3.trans e4)) p np⟩⟩
    · exact ei.mono e3 H3 (Ex.refl H3) _ fun H4 e4 => ⟨by show 3 ≤ sizeLine; decide, fun p np => fin 0 H4 (e2.trans (e3.trans e4)) p np⟩
theorem scT : FnScope ["_law_pool_here", "_law_many_here", "_law_draw", "_law_mixed_here"] ["_law_pool_here", "_law_many_here"] (defScope sTake) := ⟨rfl, rfl, rfl, by decide +kernel, rfl, by decide +kernel, by decide +kernel⟩
theorem ok_take {f : Addr} {fd : FuncData} (F : FnP K "_law_take" sTake f fd) (mI : mg "int" = none) :
    FnOk P w K mg base CX0 1 f fd ["_law_pool_here", "_law_many_here"] spTake := by
  refine F.ok (CX := CX0) scT (fun vs H Q E h => ?_) (fun cdv A outer s H vs Q E hr h => ?_)
  · obtain ⟨p, m, Hk, n, rfl, _⟩ := h
    rfl
  · refine ⟨_, pss_cons (ps_if (pt_cmpR op_gt (pe_ix ix_list (pv 0) pe_int fun _ _ => rfl) pe_int (nomark _))
        (pss_cons (ps_set (i := 2) scT.nd rfl (by first | exact Or.inl rfl | exact Or.inr rfl) (pe_op op_mod (pe_callTy call_int1 (by rfl) mI (by decide +kernel) (pa_cons (pe_ix ix_list (pv 0) pe_int fun _ _ => rfl) pa_nil)) (pv 1)))
        (pss_cons (ps_asg (pe_op op_fdivN (pe_ix ix_list (pv 0) pe_int fun _ _ => rfl) (pv 1)) (pg_sub (pv 0) pe_int set_list))
        (pss_one (ps_ret (pv 2))))) pss_nil)
      (pss_cons (ps_asg (pe_op op_add (pe_ix ix_list (pv 0) pe_int fun _ _ => rfl) pe_int) (pg_sub (pv 0) pe_int set_list))
      (pss_cons (ps_set (i := 3) scT.nd rfl (by first | exact Or.inl rfl | exact Or.inr rfl) (pe_op op_mod (pe_callTy call_int1 (by rfl) mI (by decide +kernel) (pa_cons (pe_op op_pow (pe_op op_add (pe_op op_add (pe_ix ix_list (pv 0) pe_int fun _ _ => rfl) (pe_op op_mul pe_int (pe_ix ix_list (pv 0) pe_int fun _ _ => rfl))) pe_int) pe_int) pa_nil)) pe_int))
      (pss_one (ps_ret (pe_op op_mod (pe_op op_mod (pe_callTy call_int1 (by rfl) mI (by decide +kernel) (pa_cons (pe_op op_mul (pe_op op_add (pv 3) (pe_ix ix_list (pv 0) pe_int fun _ _ => rfl)) pe_int) pa_nil)) pe_int) (pv 1)))))), ?_⟩
    obtain ⟨p, m, Hk, n, rfl, hm, hm2, hp, hn, q⟩ := h
    obtain ⟨a, b, c, ha, hb0, hb1, hc0, hc1⟩ := hp.at_
    have it : ∀ (j : Nat) (x : Int) (us : List V) (H1 : Hp), H1 p = some (.lst us) → us[j]? = some (.int x) → ∀ {t2 t3 : Option V}, Ev (tOp (rIxL K) (tVar 0) (tC (.int (j : Int)))) [some (.ref p), some (.int m), t2, t3] H1 (.int x) := fun j x us H1 h1 h2 t2 t3 =>
      ev_op (ev_var rfl) ev_c (rv_ixL (sq_of h1) (at_of rfl h2))
    have ti : ∀ {te : TE} {st : L2.St} {H1 : Hp} {i : Int}, Ev te st H1 (.int i) → Ev (tCB (fun xs H Q => (∃ i, xs = [.int i] ∧ Q (.int i) H) ∨ ∃ k, xs = [.bl k] ∧ Q (.int (if k then 1 else 0)) H) (tCons te tNil)) st H1 (.int i) :=
      fun h => ev_cb (ea_cons h ea_nil) (fun H1 _ Q q => .inl ⟨_, rfl, q H1 (Ex.refl H1)⟩)
    refine s_seq ?_
    refine s_if (b := decide (0 < a)) (et_test (ev_op (it 0 a _ H ha rfl) ev_c rv_I0)) (fun _ H1 e1 => ?_) (fun _ H1 e1 => ?_)
    · have h1 := e1 _ _ ha
      refine s_seq ?_
      refine s_asg (v := .int (a % m)) (ev_op (ti (it 0 a _ H1 h1 rfl)) (ev_var rfl) (rv_I (show 0 < m by omega))) fun H2 e2 => ?_
      dsimp only
      refine s_seq ?_
      refine s_setL (j := 0) (v := .int (a.fdiv m)) (e2 _ _ h1) (ev_op (it 0 a _ H2 (e2 _ _ h1) rfl) (ev_var rfl) (rv_I ⟨show m ≠ 0 by omega, show m.natAbs < 1073741824 by omega⟩)) (ev_var rfl) ev_c (by show 0 < 3; omega) fun H3 e3 => ?_
      dsimp only
      refine s_ret (v := .int (a % m)) (ev_var rfl) fun H4 e4 => ?_
      refine q _ _ (Int.emod_nonneg _ (by omega)) (Int.emod_lt_of_pos _ (by omega)) ?_
      refine ⟨hp.no, (Ex.mut (hp.ex.trans (e1.trans (e2.trans e3))) hp.no).trans e4, a.fdiv m, b, c, e4 _ _ upd_same, hb0, hb1, hc0, by omega⟩
    · have h1 := e1 _ _ ha
      dsimp only
      refine s_seq ?_
      refine s_setL (j := 2) (v := .int (c + 1)) h1 (ev_op (it 2 c _ H1 h1 rfl) ev_c rv_I0) (ev_var rfl) ev_c (by show 2 < 3; omega) fun H2 e2 => ?_
      have h2 : (upd H2 p (.lst [.int a, .int b, .int (c + 1)])) p = some (.lst [.int a, .int b, .int (c + 1)]) := upd_same
      have x2 : Ex Hk (upd H2 p (.lst [.int a, .int b, .int (c + 1)])) := Ex.mut (hp.ex.trans (e1.trans e2)) hp.no
      show tSeq _ _ _ _ (upd H2 p (.lst [.int a, .int b, .int (c + 1)]))
      generalize upd H2 p (.lst [.int a, .int b, .int (c + 1)]) = H3 at h2 x2
      refine s_seq ?_
      refine s_asg (v := .int ((b + 7919 * (c + 1) + 104729) ^ (5 : Int).toNat % 2147483647)) (ev_op (ti (ev_op (ev_op (ev_op (it 1 b _ H3 h2 rfl) (ev_op ev_c (it 2 (c + 1) _ H3 h2 rfl) (rv_I (.inl ⟨by decide, by decide⟩))) rv_I0) ev_c rv_I0) ev_c (rv_I ⟨by decide, by decide, by show (b + 7919 * (c + 1) + 104729).natAbs < 2 ^ 64; omega⟩))) ev_c (rv_I (by show (0 : Int) < 2147483647; decide))) fun H4 e4 => ?_
      dsimp only
      have hz0 : 0 ≤ (b + 7919 * (c + 1) + 104729) ^ (5 : Int).toNat % 2147483647 := Int.emod_nonneg _ (by decide)
      have hz1 : (b + 7919 * (c + 1) + 104729) ^ (5 : Int).toNat % 2147483647 < 2147483647 := Int.emod_lt_of_pos _ (by decide)
      generalize (b + 7919 * (c + 1) + 104729) ^ (5 : Int).toNat % 2147483647 = z at hz0 hz1
      have h4 := e4 _ _ h2
      refine s_ret (v := .int ((z + (c + 1)) * 40692 % 2147483629 % m)) (ev_op (ev_op (ti (ev_op (ev_op (ev_var rfl) (it 2 (c + 1) _ H4 h4 rfl) rv_I0) ev_c (rv_I (.inr ⟨by decide, by decide⟩)))) ev_c (rv_I (by show (0 : Int) < 2147483629; decide))) (ev_var rfl) (rv_I (show 0 < m by omega))) fun H5 e5 => ?_
      refine q _ _ (Int.emod_nonneg _ (by omega)) (Int.emod_lt_of_pos _ (by omega)) ?_
      exact ⟨hp.no, x2.trans (e4.trans e5), a, b, c + 1, e5 _ _ h4, hb0, hb1, by omega, by omega⟩
end
end K05

set_option Elab.async false
set_option linter.all false
set_option maxRecDepth 100000
set_option maxHeartbeats 4000000
namespace K05
open PySem PySem.Spec PyProof.Rows L2 Vl Evl Vp
abbrev sNames : Stmt := top 28
abbrev nN : List Str := ["_law_pool_here", "_law_many_here", "_law_letters", "_law_signs", "_law_word", "_law_k", "_law_kind", "_law_start", "_law_stem", "_law_place", "_law_told_here", "_law_names_here", "_law_sign"]
section
variable {P : Program} {w : World} {K : PySem.W.Frag} {mg : Str → Option Value} {base : Heap}
theorem scN : FnScope nN ["_law_pool_here", "_law_many_here"] (defScope sNames) := ⟨rfl, rfl, rfl, by decide +kernel, rfl, by decide +kernel, by decide +kernel⟩
theorem ok_names {f fT : Addr} {fd fdT : FuncData} (F : FnP K "_law_names" sNames f fd) (FT : FnP K "_law_take" sTake fT fdT) (gT : mg "_law_take" = some (.ref fT)) (mI : mg "int" = none) (mL : mg "len" = none) (mR : mg "range" = none) :
    FnOk P w K mg base CX0 2 f fd ["_law_pool_here", "_law_many_here"] spNames := by
  have GT : FnOk P w K mg base CX0 1 fT fdT ["_law_pool_here", "_law_many_here"] spTake := ok_take FT mI
  have bT : Binds K fdT ["_law_pool_here", "_law_many_here"] [] := FT.bindsN fun _ _ _ _ _ _ us hl => match us, hl with | [_, _], _ => rfl
  have kT := FT.kp
  refine F.ok (CX := CX0) scN (fun vs H Q E h => ?_) (fun cdv A outer s H vs Q E hr h => ?_)
  · obtain ⟨p, m, Hk, n, rfl, _⟩ := h
    rfl
  · have hr1 : Room 1 _ := hr
    refine ⟨_, (pss_cons (ps_set (i := 2) scN.nd rfl (by first | exact Or.inl rfl | exact Or.inr rfl) pe_str)
      (pss_cons (ps_set (i := 3) scN.nd rfl (by first | exact Or.inl rfl | exact Or.inr rfl) (pe_op op_add_str (pv 2) pe_str))
      (pss_cons (ps_set (i := 4) scN.nd rfl (by first | exact Or.inl rfl | exact Or.inr rfl) (pe_ix ix_str (pv 2) (pe_call GT hr1 (by rfl) gT kT bT .nil pass0 (pa_cons (pv 0) (pa_cons pe_int pa_nil))) fun _ _ => rfl))
      (pss_cons (ps_for (passes_of rfl) rfl (pi_range1 (by rfl) mR (pa_cons pe_int pa_nil)) (pg_name (i := 5) scN.nd rfl (by first | exact Or.inl rfl | exact Or.inr rfl)) (pss_one (ps_set (i := 4) scN.nd rfl (by first | exact Or.inl rfl | exact Or.inr rfl) (pe_op op_add_str (pv 4) (pe_ix ix_str (pv 3) (pe_call GT hr1 (by rfl) gT kT bT .nil pass0 (pa_cons (pv 0) (pa_cons pe_int pa_nil))) fun _ _ => rfl)))))
      (pss_cons (ps_set (i := 6) scN.nd rfl (by first | exact Or.inl rfl | exact Or.inr rfl) (pe_call GT hr1 (by rfl) gT kT bT .nil pass0 (pa_cons (pv 0) (pa_cons pe_int pa_nil))))
      (pss_cons (ps_set (i := 7) scN.nd rfl (by first | exact Or.inl rfl | exact Or.inr rfl) (pe_call GT hr1 (by rfl) gT kT bT .nil pass0 (pa_cons (pv 0) (pa_cons pe_int pa_nil))))
      (pss_cons (ps_if (pt_cmpR op_eq (pv 6) pe_int (nomark _)) (pss_one (ps_ret (pe_lc (own := [("_law_k", 5)]) (g := gName 5) (tt := tYes) (te := (tSl rSlS (tVar 4) tNoPart (tPart (tOp (rI0 fun i j => .int (i + j)) (tVar 5) (tC (.int 1)))))) rfl scN.nd (pi_range1 (by rfl) mR (pa_cons (pv 1) pa_nil)) (blkOk_by (own := [("_law_k", 5)]) (N := nN) (sc := defScope sNames) (by decide +kernel)) (fun _ _ _ _ _ => (pg_name (i := 5) scN.nd rfl (by first | exact Or.inl rfl | exact Or.inr rfl))) (fun _ _ _ _ _ => pts_nil) (fun _ _ _ _ _ => (pe_slice sl_str (pv 4) po_none (po_some (pe_op op_add (pv 5) pe_int))))))) pss_nil)
      (pss_cons (ps_if (pt_cmpR op_eq (pv 6) pe_int (nomark _)) (pss_one (ps_ret (pe_lc (own := [("_law_k", 5)]) (g := gName 5) (tt := tYes) (te := (tOp rCatS (tOp rIxS (tVar 2) (tOp (rI (fun _ j => 0 < j) fun i j => .int (i % j)) (tOp (rI0 fun i j => .int (i + j)) (tVar 7) (tOp (rI CMul fun i j => .int (i * j)) (tC (.int 3)) (tVar 5))) (tC (.int 26)))) (tSl rSlS (tVar 4) tNoPart (tPart (tCall spTake [] E0 (tCons (tVar 0) (tCons (tC (.int 8)) tNil))))))) rfl scN.nd (pi_range1 (by rfl) mR (pa_cons (pv 1) pa_nil)) (blkOk_by (own := [("_law_k", 5)]) (N := nN) (sc := defScope sNames) (by decide +kernel)) (fun _ _ _ _ _ => (pg_name (i := 5) scN.nd rfl (by first | exact Or.inl rfl | exact Or.inr rfl))) (fun _ _ _ _ _ => pts_nil) (fun _ _ _ _ _ => (pe_op op_add_str (pe_ix ix_str (pv 2) (pe_op op_mod (pe_op op_add (pv 7) (pe_op op_mul pe_int (pv 5))) pe_int) fun _ _ => rfl) (pe_slice sl_str (pv 4) po_none (po_some (pe_call GT hr1 (by rfl) gT kT bT .nil pass0 (pa_cons (pv 0) (pa_cons pe_int pa_nil)))))))))) pss_nil)
      (pss_cons (ps_set (i := 8) scN.nd rfl (by first | exact Or.inl rfl | exact Or.inr rfl) (pe_slice sl_str (pv 4) po_none (po_some (pe_call GT hr1 (by rfl) gT kT bT .nil pass0 (pa_cons (pv 0) (pa_cons pe_int pa_nil))))))
      (pss_cons (ps_set (i := 9) scN.nd rfl (by first | exact Or.inl rfl | exact Or.inr rfl) (pe_call GT hr1 (by rfl) gT kT bT .nil pass0 (pa_cons (pv 0) (pa_cons (pe_op op_add (pe_callB call_len_str (by rfl) mL boot_len (pa_cons (pv 8) pa_nil)) pe_int) pa_nil))))
      (pss_cons (ps_set (i := 10) scN.nd rfl (by first | exact Or.inl rfl | exact Or.inr rfl) (pe_ifExp (pt_cmpR op_eq (pv 9) pe_int (nomark _)) (pv 2) (pv 3)))
      (pss_cons (ps_set (i := 11) scN.nd rfl (by first | exact Or.inl rfl | exact Or.inr rfl) (pe_lst pa_nil))
      (pss_cons (ps_for (passes_of rfl) rfl (pi_range1 (by rfl) mR (pa_cons (pv 1) pa_nil)) (pg_name (i := 5) scN.nd rfl (by first | exact Or.inl rfl | exact Or.inr rfl)) (pss_cons (ps_set (i := 12) scN.nd rfl (by first | exact Or.inl rfl | exact Or.inr rfl) (pe_ix ix_str (pv 10) (pe_op op_mod (pe_op op_add (pv 7) (pe_op op_mul pe_int (pv 5))) (pe_callB call_len_str (by rfl) mL boot_len (pa_cons (pv 10) pa_nil))) fun _ _ => rfl)) (pss_one (ps_expr (pe_bm PySem.F.plainAttrs_list PySem.F.slot_list_append PySem.F.type_list_append mt_append (pv 11) (pa_cons (pe_op op_add_str (pe_op op_add_str (pe_slice sl_str (pv 8) po_none (po_some (pv 9))) (pv 12)) (pe_slice sl_str (pv 8) (po_some (pv 9)) po_none)) pa_nil))))))
      (pss_one (ps_ret (pv 11)))))))))))))))), ?_⟩
    obtain ⟨p, m, Hk, n, rfl, hm, hp0, hn, q⟩ := h
    have hp := hp0.re
    have wk : (Wo H p) p = none := wo_self _ _
    -- letters, signs
    refine s_asg (v := .str (tx letters)) (ev_is ev_c (by rw [str_letters])) fun H1 e1 => ?_
    refine s_asg (v := .str (tx signs)) (ev_is (ev_op (y := .str (tx digits)) (ev_var rfl) (ev_is ev_c (by rw [str_digits])) (rv_cats (by decide))) rfl) fun H2 e2 => ?_
    have hp2 := hp.grow (e1.trans e2)
    -- word
    refine ⟨_, rfl, _, rfl, p, 26, Wo H p, n, rfl, by omega, by omega, hp2, by omega, ?_⟩
    intro r H3 r0 r1 hp3
    obtain ⟨j, rfl⟩ := Int.eq_ofNat_of_zero_le r0
    have hj : j < letters.length := by show j < 26; omega
    refine ⟨tx letters, _, _, rfl, rfl, (by show 26 ≤ sizeLine; decide), text_at (zs := letters) hj, ?_⟩
    dsimp only
    refine s_seq ?_
    refine s_forR1 (n := 7) (ea_cons ev_c ea_nil) (by omega) (fun i st H' => ∃ l t5, st = [some (.ref p), some (.int (m : Int)), some (.str (tx letters)), some (.str (tx signs)), some (.str (tx l)), t5, none, none, none, none, none, none, none] ∧ nam l ∧ l.length = i + 1 ∧ Pl (Wo H p) p (n + 1 + i) H') ?_ ?_ ?_
    · exact fun H4 e4 => ⟨[letters.getD j 0], none, rfl, nam_one (getD_mem hj), rfl, hp3.grow e4⟩
    · rintro i _ H4 hi ⟨l, t5, rfl, hl, hlen, hpl⟩
      refine ⟨_, rfl, _, rfl, _, rfl, p, 36, Wo H p, _, rfl, by omega, by omega, hpl, by omega, ?_⟩
      intro r H5 r0 r1 hp5
      obtain ⟨k, rfl⟩ := Int.eq_ofNat_of_zero_le r0
      have hk : k < signs.length := by show k < 36; omega
      refine ⟨tx signs, _, _, rfl, rfl, (by show 36 ≤ sizeLine; decide), text_at (zs := signs) hk, ?_⟩
      refine ⟨tx l, tx [signs.getD k 0], rfl, rfl, sz_of (by rw [tx_len, tx_len, List.length_singleton]; omega), ?_⟩
      refine ⟨l ++ [signs.getD k 0], some (.int (i : Int)), ?_, nam_snoc hl (getD_mem hk) (by omega), by rw [List.length_append, List.length_singleton, hlen], by rw [show n + 1 + (i + 1) = n + 1 + i + 1 by omega]; exact hp5⟩
      rw [tx_app]
      rfl
    rintro _ H4 ⟨l, t5, rfl, hl, hlen, hp4⟩
    have hlen8 : l.length = 8 := hlen
    -- kind, start
    refine ⟨_, rfl, p, 4, Wo H p, _, rfl, by omega, by omega, hp4, by show n + 1 + 7 ≤ 100000; omega, ?_⟩
    intro kd H5 kd0 kd1 hp5
    refine ⟨_, rfl, p, 36, Wo H p, _, rfl, by omega, by omega, hp5, by show n + 1 + 7 + 1 ≤ 100000; omega, ?_⟩
    intro sr H6 sr0 sr1 hp6
    obtain ⟨s0, rfl⟩ := Int.eq_ofNat_of_zero_le sr0
    dsimp only
    refine s_seq ?_
    refine s_if (b := decide (V.int kd = V.int 0)) (et_test (ev_op (ev_var rfl) ev_c (rv_eq rfl))) (fun _ H7 e7 => ?_) (fun _ H7 e7 => ?_)
    · -- kind 0
      have hp7 := hp6.grow e7
      refine s_retL (xs := vtx ((List.range m).map fun k => l.take (k + 1))) ?_ fun d H8 nd e8 h8 => ?_
      · have key := el_lcR1 (σ := [some (.ref p), some (.int (m : Int)), some (.str (tx letters)), some (.str (tx signs)), some (.str (tx l)), t5, some (.int kd), some (.int (s0 : Int)), none, none, none, none, none]) (H := H7) (t := tYes)
          (te := (tSl rSlS (tVar 4) tNoPart (tPart (tOp (rI0 fun i j => .int (i + j)) (tVar 5) (tC (.int 1)))))) (ta := tCons (tVar 1) tNil) (j := 5) (vs := [5]) (n := (m : Int)) (fun _ => true) (fun k => .str (tx (l.take (k + 1)))) (ea_cons (ev_var rfl) ea_nil) (by omega) (fun _ => rfl)
          (fun j H2 e hj H3 e3 Q q => q H3 (Ex.refl H3)) (fun j H2 e hj _ => ?_)
        · rw [show ((m : Int)).toNat = m from rfl] at key
          have e0 : given m (fun _ => true) (fun k => V.str (tx (l.take (k + 1)))) = vtx ((List.range m).map fun k => l.take (k + 1)) := by
            unfold given vtx
            rw [List.filter_eq_self.mpr (fun _ _ => rfl), List.map_map]
            rfl
          rw [e0] at key
          exact key
        · intro H3 e3 Q q
          refine ⟨_, rfl, _, rfl, _, _, rfl, rfl, _, rfl, tx l, rfl, sz_of (by rw [tx_len]; omega), ?_⟩
          rw [show ((j : Int) + 1) = ((j + 1 : Nat) : Int) by omega, tx_cut0]
          exact q H3 (Ex.refl H3)
      · refine q d _ H8 (fresh_wo hp0 hp7 nd) (hp0.back ((hp7.grow e8).cnt (by omega))) h8 (by rw [List.length_map, List.length_range]) ⟨fun y hy => ?_, nodup_range fun i j hi hj e => ?_⟩
        · obtain ⟨k, _, rfl⟩ := List.mem_map.mp hy
          exact nam_take hl k
        · have := congrArg List.length e
          rw [List.length_take, List.length_take] at this
          omega
    dsimp only
    refine s_seq ?_
    refine s_if (b := decide (V.int kd = V.int 1)) (et_test (ev_op (ev_var rfl) ev_c (rv_eq rfl))) (fun _ H8 e8 => ?_) (fun _ H8 e8 => ?_)
    · -- kind 1
      have hp8 := hp6.grow (e7.trans e8)
      refine ⟨_, rfl, (m : Int), rfl, by omega, by omega, fun Dl hD => lc_range (lo := 0) (n := m) (fun i H' => ∃ ys, H' Dl = some (.lst (vtx ys)) ∧ ys.length = i ∧ (∀ (j : Nat) (y : List Nat), ys[j]? = some y → nam y ∧ y.head? = some (letters.getD ((s0 + 3 * j) % 26) 0)) ∧ Pl (Wo H p) p (n + 10 + i) H')
        ⟨[], upd_same, rfl, (fun j y h => by simp at h), (hp8.new hD).cnt (by show n + 1 + 7 + 1 + 1 ≤ n + 10 + 0; omega)⟩ ?_ ?_⟩
      · rintro i H9 hi ⟨ys, h1, h2, h3, h4⟩
        refine ⟨rfl, ?_⟩
        unfold tYes
        dsimp only
        rw [if_pos rfl]
        have em : Ev (tOp (rI (fun _ j => 0 < j) fun i j => .int (i % j)) (tOp (rI0 fun i j => .int (i + j)) (tVar 7) (tOp (rI CMul fun i j => .int (i * j)) (tC (.int 3)) (tVar 5))) (tC (.int 26))) [some (.ref p), some (.int (m : Int)), some (.str (tx letters)), some (.str (tx signs)), some (.str (tx l)), some (.int (0 + (i : Int))), some (.int kd), some (.int (s0 : Int)), none, none, none, none, none] H9 (.int (((s0 + 3 * i) % 26 : Nat) : Int)) :=
          ev_is (ev_op (ev_op (ev_var rfl) (ev_op ev_c (ev_var rfl) (rv_I (.inl ⟨by decide, by decide⟩))) rv_I0) ev_c (rv_I (by show (0 : Int) < 26; decide))) (congrArg V.int (show ((s0 : Int) + 3 * (0 + (i : Int))) % 26 = (((s0 + 3 * i) % 26 : Nat) : Int) by omega))
        have hx : (s0 + 3 * i) % 26 < letters.length := Nat.mod_lt _ (by decide)
        refine ⟨_, rfl, em H9 (Ex.refl H9) _ fun H10 e10 => ?_⟩
        refine ⟨tx letters, _, _, rfl, rfl, (by show 26 ≤ sizeLine; decide), text_at (zs := letters) hx, ?_⟩
        have h10 := h4.grow e10
        have hDp : Dl ≠ p := hp8.ne hD
        refine ⟨_, rfl, _, rfl, p, 8, Wo H10 p, _, rfl, by omega, by omega, h10.re, by omega, ?_⟩
        intro r H11 r0 r1 hp11
        obtain ⟨t, rfl⟩ := Int.eq_ofNat_of_zero_le r0
        refine ⟨_, rfl, tx l, rfl, sz_of (by rw [tx_len]; omega), ?_⟩
        rw [tx_cut0]
        refine ⟨tx [letters.getD ((s0 + 3 * i) % 26) 0], tx (l.take t), rfl, rfl, sz_of (by rw [tx_len, tx_len, List.length_singleton, List.length_take]; omega), ?_⟩
        rw [tx_app]
        have hDl : H11 Dl = some (.lst (vtx ys)) := hp11.ex _ _ (wo_at (e10 _ _ h1) hDp)
        refine ⟨vtx ys, hDl, sz_lt (by rw [vtx_len]; omega), ys ++ [letters.getD ((s0 + 3 * i) % 26) 0 :: l.take t], ?_, by rw [List.length_append, List.length_singleton, h2], ?_, ?_⟩
        · rw [upd_same, vtx_app]
          rfl
        · intro j y hy
          by_cases hj : j < ys.length
          · rw [List.getElem?_append_left hj] at hy
            exact h3 j y hy
          · have hj2 := (List.getElem?_eq_some_iff.mp hy).1
            rw [List.length_append, List.length_singleton] at hj2
            obtain rfl : j = ys.length := by omega
            rw [List.getElem?_append_right (Nat.le_refl _), Nat.sub_self] at hy
            obtain rfl := Option.some.inj hy
            rw [h2]
            exact ⟨nam_cons (getD_mem hx) (fun x hx => nam_signs hl x (List.mem_of_mem_take hx)) (by rw [List.length_take]; omega), rfl⟩
        · have hb : Pl (Wo H p) p (n + 10 + (i + 1)) H11 := (hp11.sub h10.wo h10.no).cnt (by omega)
          refine ⟨hb.no, Ex.mut hb.ex ?_, ?_⟩
          · cases e : (Wo H p) Dl with
            | none => rfl
            | some o =>
              have := hp8.ex _ _ e
              rw [hD] at this
              cases this
          · obtain ⟨a, b, c, k1, k2⟩ := hb.at_
            exact ⟨a, b, c, by rw [upd_ne hDp.symm]; exact k1, k2⟩
      · rintro H9 ⟨ys, h1, h2, h3, h4⟩
        refine q Dl ys H9 (fresh_wo hp0 hp8 hD) (hp0.back (h4.cnt (by omega))) h1 h2 ⟨fun y hy => ?_, nodup_key fun i j y hi hj => ?_⟩
        · obtain ⟨j, hj⟩ := List.getElem?_of_mem hy
          exact (h3 j y hj).1
        · have a1 := (h3 i y hi).2
          have a2 := (h3 j y hj).2
          have li := (List.getElem?_eq_some_iff.mp hi).1
          have lj := (List.getElem?_eq_some_iff.mp hj).1
          rw [a1] at a2
          exact mod3 (by omega) (by omega) (getD_inj nodup_letters (Nat.mod_lt _ (by decide)) (Nat.mod_lt _ (by decide)) (Option.some.inj a2))
    -- kind 2, 3
    have hp8 := hp6.grow (e7.trans e8)
    refine ⟨_, rfl, _, rfl, p, 8, Wo H p, _, rfl, by omega, by omega, hp8, by show n + 1 + 7 + 1 + 1 ≤ 100000; omega, ?_⟩
    intro r H9 r0 r1 hp9
    obtain ⟨t, rfl⟩ := Int.eq_ofNat_of_zero_le r0
    refine ⟨_, rfl, tx l, rfl, sz_of (by rw [tx_len]; omega), ?_⟩
    rw [tx_cut0]
    have hst : (l.take t).length ≤ 7 := by rw [List.length_take]; omega
    -- place
    refine ⟨_, rfl, _, rfl, tx (l.take t), rfl, sz_of (by rw [tx_len]; omega), ((l.take t).length : Int), 1, rfl, rfl, ?_⟩
    refine ⟨p, ((l.take t).length : Int) + 1, Wo H p, _, rfl, by omega, by omega, hp9, by show n + 1 + 7 + 1 + 1 + 1 ≤ 100000; omega, ?_⟩
    intro r H10 r0 r1 hp10
    obtain ⟨g, rfl⟩ := Int.eq_ofNat_of_zero_le r0
    have hg : g ≤ (l.take t).length := by omega
    -- told
    obtain ⟨told, htold, hn2, hts, htl, hlen2⟩ : ∃ told : List Nat, told = (if V.int (g : Int) = V.int 0 then letters else Vp.signs) ∧ told.Nodup ∧ (∀ c ∈ told, c ∈ Vp.signs) ∧ (g = 0 → ∀ c ∈ told, c ∈ letters) ∧ (told.length = 26 ∨ told.length = 36) := by
      by_cases h0 : g = 0
      · refine ⟨letters, by rw [if_pos (by rw [h0]; rfl)], nodup_letters, fun c hc => letters_signs hc, fun _ c hc => hc, .inl rfl⟩
      · refine ⟨Vp.signs, by rw [if_neg (fun z => h0 (by have := V.int.inj z; omega))], nodup_signs, fun c hc => hc, fun z => absurd z h0, .inr rfl⟩
    refine s_asg (v := .str (tx told)) (ev_if (b := decide (V.int (g : Int) = V.int 0)) (et_test (ev_op (ev_var rfl) ev_c (rv_eq rfl))) (fun h => ev_is (ev_var rfl) (by rw [htold, if_pos (of_decide_eq_true h)])) (fun h => ev_is (ev_var rfl) (by rw [htold, if_neg (of_decide_eq_false h)]))) fun H11 e11 => ?_
    -- names = []
    refine ⟨by show 0 ≤ sizeLine; omega, fun d nd => ?_⟩
    have hp11 := hp10.grow e11
    have hdp : d ≠ p := hp11.ne nd
    have wd : (Wo H p) d = none := by
      cases e : (Wo H p) d with
      | none => rfl
      | some o =>
        have := hp11.ex _ _ e
        rw [nd] at this
        cases this
    let f : Nat → List Nat := fun k => (l.take t).take g ++ [told.getD ((s0 + 7 * k) % told.length) 0] ++ (l.take t).drop g
    have hmod : ∀ k, (s0 + 7 * k) % told.length < told.length := fun k => Nat.mod_lt _ (by omega)
    dsimp only
    refine s_seq ?_
    refine s_forR1 (n := (m : Int)) (ea_cons (ev_var rfl) ea_nil) (by omega) (fun i st H' => ∃ t5 t12, st = [some (.ref p), some (.int (m : Int)), some (.str (tx letters)), some (.str (tx signs)), some (.str (tx l)), t5, some (.int kd), some (.int (s0 : Int)), some (.str (tx (l.take t))), some (.int (g : Int)), some (.str (tx told)), some (.ref d), t12] ∧ H' d = some (.lst (vtx ((List.range i).map f))) ∧ Pl (Wo H p) p (n + 20) H') ?_ ?_ ?_
    · exact fun H12 e12 => ⟨t5, none, rfl, e12 _ _ upd_same, ((hp11.new nd).grow e12).cnt (by omega)⟩
    · rintro i _ H12 hi ⟨t5', t12, rfl, hd12, hp12⟩
      refine s_seq ?_
      refine s_asg (v := .str (tx [told.getD ((s0 + 7 * i) % told.length) 0])) (ev_op (ev_var rfl) (y := .int (((s0 + 7 * i) % told.length : Nat) : Int)) (ev_is (ev_op (ev_op (ev_var rfl) (ev_op ev_c (ev_var rfl) (rv_I (.inl ⟨by decide, by decide⟩))) rv_I0) (ev_cb (z := .int (told.length : Int)) (ea_cons (ev_var rfl) ea_nil) (fun H1 _ Q q => ⟨tx told, rfl, sz_of (by rw [tx_len]; omega), q H1 (Ex.refl H1)⟩)) (rv_I (show (0 : Int) < (told.length : Int) by omega))) ?_) ?_) fun H13 e13 => ?_
      · refine congrArg V.int ?_
        rw [Int.natCast_emod, Int.natCast_add, Int.natCast_mul]
        rfl
      · intro H1 _ Q q
        exact ⟨tx told, _, _, rfl, rfl, sz_of (by rw [tx_len]; omega), text_at (zs := told) (hmod i), q H1 (Ex.refl H1)⟩
      dsimp only
      refine s_app (xs := vtx ((List.range i).map f)) (v := .str (tx (f i))) (e13 _ _ hd12) (ev_var rfl) ?_ (by rw [vtx_len, List.length_map, List.length_range]; omega) fun H14 e14 => ?_
      · intro H1 _ Q q
        have c0 := tx_cut0 (l.take t) g
        have c1 := tx_cut1 (l.take t) g
        refine ⟨_, rfl, _, rfl, _, rfl, tx (l.take t), rfl, sz_of (by rw [tx_len]; omega), ?_⟩
        rw [c0]
        refine ⟨_, rfl, tx ((l.take t).take g), tx [told.getD ((s0 + 7 * i) % told.length) 0], rfl, rfl, sz_of (by rw [tx_len, tx_len, List.length_take, List.length_singleton]; omega), ?_⟩
        rw [tx_app]
        refine ⟨_, rfl, _, rfl, _, rfl, tx (l.take t), rfl, sz_of (by rw [tx_len]; omega), ?_⟩
        rw [c1]
        refine ⟨tx ((l.take t).take g ++ [told.getD ((s0 + 7 * i) % told.length) 0]), tx ((l.take t).drop g), rfl, rfl, sz_of (by rw [tx_len, tx_len, List.length_append, List.length_take, List.length_singleton, List.length_drop]; omega), ?_⟩
        rw [tx_app]
        exact q H1 (Ex.refl H1)
      · refine ⟨some (.int (i : Int)), _, rfl, ?_, ?_⟩
        · rw [upd_same, List.range_succ, List.map_append, vtx_app]
          rfl
        · have hb := hp12.grow (e13.trans e14)
          refine ⟨hb.no, Ex.mut hb.ex wd, ?_⟩
          obtain ⟨a, b, c, k1, k2⟩ := hb.at_
          exact ⟨a, b, c, by rw [upd_ne hdp.symm]; exact k1, k2⟩
    rintro _ H12 ⟨t5', t12, rfl, hd12, hp12⟩
    refine ⟨_, rfl, ?_⟩
    refine q d _ H12 (fresh_wo hp0 hp11 nd) (hp0.back (hp12.cnt (by omega))) hd12 (by rw [List.length_map, List.length_range]; rfl) ⟨fun y hy => ?_, nodup_range fun i j hi hj e => ?_⟩
    · obtain ⟨k, _, rfl⟩ := List.mem_map.mp hy
      exact nam_put hl (by omega) hg (fun h0 => htl h0 _ (getD_mem (hmod k))) (hts _ (getD_mem (hmod k)))
    · have a1 := put_at (c := told.getD ((s0 + 7 * i) % told.length) 0) hg
      have a2 := put_at (c := told.getD ((s0 + 7 * j) % told.length) 0) hg
      have e2 : (l.take t).take g ++ [told.getD ((s0 + 7 * i) % told.length) 0] ++ (l.take t).drop g = (l.take t).take g ++ [told.getD ((s0 + 7 * j) % told.length) 0] ++ (l.take t).drop g := e
      rw [e2, a2] at a1
      have hi' : i < m := hi
      have hj' : j < m := hj
      exact mod7 hlen2 (by omega) (by omega) (getD_inj hn2 (hmod i) (hmod j) (Option.some.inj a1).symm)
end
end K05

set_option Elab.async false
set_option linter.all false
set_option maxRecDepth 100000
set_option maxHeartbeats 4000000
namespace K05
open PySem PySem.Spec PyProof.Rows L2 Vl Evl Vp
abbrev sMany : Stmt := top 29
abbrev nMy : List Str := ["_law_pool_here", "_law_many_here", "_law_letters", "_law_signs", "_law_stem", "_law_k", "_law_place", "_law_told_here", "_law_start", "_law_names_here", "_law_sign"]
theorem mod3w {s i j : Nat} (hi : i < 26) (hj : j < 26) (h : (s + 3 * i) % 26 = (s + 3 * j) % 26) : i = j := by omega
/-- up to 26 names -/
def spMany : Sp := fun vs H Q _ => ∃ (p : Addr) (m : Nat) (Hk : Hp) (n : Nat), vs = [.ref p, .int (m : Int)] ∧ m ≤ 26 ∧ Pl Hk p n H ∧ n ≤ 90000 ∧
  ∀ q xs H', H q = none → Pl Hk p (n + 50) H' → H' q = some (.lst (vtx xs)) → xs.length = m → Names xs → Q (.ref q) H'
section
variable {P : Program} {w : World} {K : PySem.W.Frag} {mg : Str → Option Value} {base : Heap}
theorem scMy : FnScope nMy ["_law_pool_here", "_law_many_here"] (defScope sMany) := ⟨rfl, rfl, rfl, by decide +kernel, rfl, by decide +kernel, by decide +kernel⟩
theorem ok_many {f fT : Addr} {fd fdT : FuncData} (F : FnP K "_law_many" sMany f fd) (FT : FnP K "_law_take" sTake fT fdT) (gT : mg "_law_take" = some (.ref fT)) (mI : mg "int" = none) (mL : mg "len" = none) (mR : mg "range" = none) :
    FnOk P w K mg base CX0 2 f fd ["_law_pool_here", "_law_many_here"] spMany := by
  have GT : FnOk P w K mg base CX0 1 fT fdT ["_law_pool_here", "_law_many_here"] spTake := ok_take FT mI
  have bT : Binds K fdT ["_law_pool_here", "_law_many_here"] [] := FT.bindsN fun _ _ _ _ _ _ us hl => match us, hl with | [_, _], _ => rfl
  have kT := FT.kp
  refine F.ok (CX := CX0) scMy (fun vs H Q E h => ?_) (fun cdv A outer s H vs Q E hr h => ?_)
  · obtain ⟨p, m, Hk, n, rfl, _⟩ := h
    rfl
  · have hr1 : Room 1 _ := hr
    refine ⟨_, (pss_cons (ps_set (i := 2) scMy.nd rfl (by first | exact Or.inl rfl | exact Or.inr rfl) pe_str)
      (pss_cons (ps_set (i := 3) scMy.nd rfl (by first | exact Or.inl rfl | exact Or.inr rfl) (pe_op op_add_str (pv 2) pe_str))
      (pss_cons (ps_set (i := 4) scMy.nd rfl (by first | exact Or.inl rfl | exact Or.inr rfl) (pe_ix ix_str (pv 2) (pe_call GT hr1 (by rfl) gT kT bT .nil pass0 (pa_cons (pv 0) (pa_cons pe_int pa_nil))) fun _ _ => rfl))
      (pss_cons (ps_for (passes_of rfl) rfl (pi_range1 (by rfl) mR (pa_cons (pe_call GT hr1 (by rfl) gT kT bT .nil pass0 (pa_cons (pv 0) (pa_cons pe_int pa_nil))) pa_nil)) (pg_name (i := 5) scMy.nd rfl (by first | exact Or.inl rfl | exact Or.inr rfl)) (pss_one (ps_set (i := 4) scMy.nd rfl (by first | exact Or.inl rfl | exact Or.inr rfl) (pe_op op_add_str (pv 4) (pe_ix ix_str (pv 3) (pe_call GT hr1 (by rfl) gT kT bT .nil pass0 (pa_cons (pv 0) (pa_cons pe_int pa_nil))) fun _ _ => rfl)))))
      (pss_cons (ps_set (i := 6) scMy.nd rfl (by first | exact Or.inl rfl | exact Or.inr rfl) (pe_call GT hr1 (by rfl) gT kT bT .nil pass0 (pa_cons (pv 0) (pa_cons (pe_op op_add (pe_callB call_len_str (by rfl) mL boot_len (pa_cons (pv 4) pa_nil)) pe_int) pa_nil))))
      (pss_cons (ps_set (i := 7) scMy.nd rfl (by first | exact Or.inl rfl | exact Or.inr rfl) (pe_ifExp (pt_cmpR op_eq (pv 6) pe_int (nomark _)) (pv 2) (pv 3)))
      (pss_cons (ps_set (i := 8) scMy.nd rfl (by first | exact Or.inl rfl | exact Or.inr rfl) (pe_call GT hr1 (by rfl) gT kT bT .nil pass0 (pa_cons (pv 0) (pa_cons pe_int pa_nil))))
      (pss_cons (ps_if (pt_cmpR op_eq (pe_call GT hr1 (by rfl) gT kT bT .nil pass0 (pa_cons (pv 0) (pa_cons pe_int pa_nil))) pe_int (nomark _)) (pss_one (ps_ret (pe_lc (own := [("_law_k", 5)]) (g := gName 5) (tt := tYes) (te := (tOp rCatS (tOp rIxS (tVar 2) (tOp (rI (fun _ j => 0 < j) fun i j => .int (i % j)) (tOp (rI0 fun i j => .int (i + j)) (tVar 8) (tOp (rI CMul fun i j => .int (i * j)) (tC (.int 3)) (tVar 5))) (tC (.int 26)))) (tSl rSlS (tVar 4) tNoPart (tPart (tCall spTake [] E0 (tCons (tVar 0) (tCons (tC (.int 8)) tNil))))))) rfl scMy.nd (pi_range1 (by rfl) mR (pa_cons (pv 1) pa_nil)) (blkOk_by (own := [("_law_k", 5)]) (N := nMy) (sc := defScope sMany) (by decide +kernel)) (fun _ _ _ _ _ => (pg_name (i := 5) scMy.nd rfl (by first | exact Or.inl rfl | exact Or.inr rfl))) (fun _ _ _ _ _ => pts_nil) (fun _ _ _ _ _ => (pe_op op_add_str (pe_ix ix_str (pv 2) (pe_op op_mod (pe_op op_add (pv 8) (pe_op op_mul pe_int (pv 5))) pe_int) fun _ _ => rfl) (pe_slice sl_str (pv 4) po_none (po_some (pe_call GT hr1 (by rfl) gT kT bT .nil pass0 (pa_cons (pv 0) (pa_cons pe_int pa_nil)))))))))) pss_nil)
      (pss_cons (ps_set (i := 9) scMy.nd rfl (by first | exact Or.inl rfl | exact Or.inr rfl) (pe_lst pa_nil))
      (pss_cons (ps_for (passes_of rfl) rfl (pi_range1 (by rfl) mR (pa_cons (pv 1) pa_nil)) (pg_name (i := 5) scMy.nd rfl (by first | exact Or.inl rfl | exact Or.inr rfl)) (pss_cons (ps_set (i := 10) scMy.nd rfl (by first | exact Or.inl rfl | exact Or.inr rfl) (pe_ix ix_str (pv 7) (pe_op op_mod (pe_op op_add (pv 8) (pe_op op_mul pe_int (pv 5))) (pe_callB call_len_str (by rfl) mL boot_len (pa_cons (pv 7) pa_nil))) fun _ _ => rfl)) (pss_one (ps_expr (pe_bm PySem.F.plainAttrs_list PySem.F.slot_list_append PySem.F.type_list_append mt_append (pv 9) (pa_cons (pe_op op_add_str (pe_op op_add_str (pe_slice sl_str (pv 4) po_none (po_some (pv 6))) (pv 10)) (pe_slice sl_str (pv 4) (po_some (pv 6)) po_none)) pa_nil))))))
      (pss_one (ps_ret (pv 9))))))))))))), ?_⟩
    obtain ⟨p, m, Hk, n, rfl, hm, hp0, hn, q⟩ := h
    have hp := hp0.re
    refine s_asg (v := .str (tx letters)) (ev_is ev_c (by rw [str_letters])) fun H1 e1 => ?_
    refine s_asg (v := .str (tx signs)) (ev_is (ev_op (y := .str (tx digits)) (ev_var rfl) (ev_is ev_c (by rw [str_digits])) (rv_cats (by decide))) rfl) fun H2 e2 => ?_
    have hp2 := hp.grow (e1.trans e2)
    refine ⟨_, rfl, _, rfl, p, 26, Wo H p, n, rfl, by omega, by omega, hp2, by omega, ?_⟩
    intro r H3 r0 r1 hp3
    obtain ⟨j, rfl⟩ := Int.eq_ofNat_of_zero_le r0
    have hj : j < letters.length := by show j < 26; omega
    refine ⟨tx letters, _, _, rfl, rfl, (by show 26 ≤ sizeLine; decide), text_at (zs := letters) hj, ?_⟩
    dsimp only
    refine s_seq ?_
    -- how many signs more
    refine ⟨_, rfl, p, 7, Wo H p, _, rfl, by omega, by omega, hp3, by omega, ?_⟩
    intro r H4 r0 r1 hp4
    obtain ⟨z, rfl⟩ := Int.eq_ofNat_of_zero_le r0
    have hz : z < 7 := by omega
    refine ⟨(z : Int), rfl, by omega, by omega, for_range (lo := 0) (n := ((z : Int)).toNat) (fun i st H' => ∃ l t5, st = [some (.ref p), some (.int (m : Int)), some (.str (tx letters)), some (.str (tx Vp.signs)), some (.str (tx l)), t5, none, none, none, none, none] ∧ nam l ∧ l.length = i + 1 ∧ Pl (Wo H p) p (n + 1 + 1 + i) H') ⟨[letters.getD j 0], none, rfl, nam_one (getD_mem hj), rfl, hp4⟩ ?_ ?_⟩
    · rintro i _ H4 hi ⟨l, t5, rfl, hl, hlen, hpl⟩
      have hi7 : i < 7 := by omega
      refine ⟨_, rfl, _, rfl, _, rfl, p, 36, Wo H p, _, rfl, by omega, by omega, hpl, by omega, ?_⟩
      intro r H5 r0 r1 hp5
      obtain ⟨k, rfl⟩ := Int.eq_ofNat_of_zero_le r0
      have hk : k < Vp.signs.length := by show k < 36; omega
      refine ⟨tx Vp.signs, _, _, rfl, rfl, (by show 36 ≤ sizeLine; decide), text_at (zs := Vp.signs) hk, ?_⟩
      refine ⟨tx l, tx [Vp.signs.getD k 0], rfl, rfl, sz_of (by rw [tx_len, tx_len, List.length_singleton]; omega), ?_⟩
      refine ⟨l ++ [Vp.signs.getD k 0], some (.int (0 + (i : Int))), ?_, nam_snoc hl (getD_mem hk) (by omega), by rw [List.length_append, List.length_singleton, hlen], by rw [show n + 1 + 1 + (i + 1) = n + 1 + 1 + i + 1 by omega]; exact hp5⟩
      rw [tx_app]
      rfl
    rintro _ H5 ⟨l, t5, rfl, hl, hlen, hp5⟩
    have hl7 : l.length ≤ 7 := by omega
    have hl1 : 1 ≤ l.length := by omega
    have hp5 : Pl (Wo H p) p (n + 10) H5 := hp5.cnt (by omega)
    -- place
    refine ⟨_, rfl, _, rfl, tx l, rfl, sz_of (by rw [tx_len]; omega), (l.length : Int), 1, rfl, rfl, ?_⟩
    refine ⟨p, (l.length : Int) + 1, Wo H p, _, rfl, by omega, by omega, hp5, by omega, ?_⟩
    intro r H6 r0 r1 hp6
    obtain ⟨g, rfl⟩ := Int.eq_ofNat_of_zero_le r0
    have hg : g ≤ l.length := by omega
    -- told
    obtain ⟨told, htold, hn2, hts, htl, hlen2⟩ : ∃ told : List Nat, told = (if V.int (g : Int) = V.int 0 then letters else Vp.signs) ∧ told.Nodup ∧ (∀ c ∈ told, c ∈ Vp.signs) ∧ (g = 0 → ∀ c ∈ told, c ∈ letters) ∧ (told.length = 26 ∨ told.length = 36) := by
      by_cases h0 : g = 0
      · refine ⟨letters, by rw [if_pos (by rw [h0]; rfl)], nodup_letters, fun c hc => letters_signs hc, fun _ c hc => hc, .inl rfl⟩
      · refine ⟨Vp.signs, by rw [if_neg (fun z => h0 (by have := V.int.inj z; omega))], nodup_signs, fun c hc => hc, fun z => absurd z h0, .inr rfl⟩
    refine s_asg (v := .str (tx told)) (ev_if (b := decide (V.int (g : Int) = V.int 0)) (et_test (ev_op (ev_var rfl) ev_c (rv_eq rfl))) (fun h => ev_is (ev_var rfl) (by rw [htold, if_pos (of_decide_eq_true h)])) (fun h => ev_is (ev_var rfl) (by rw [htold, if_neg (of_decide_eq_false h)]))) fun H7 e7 => ?_
    have hp7 := hp6.grow e7
    -- start
    refine ⟨_, rfl, p, 36, Wo H p, _, rfl, by omega, by omega, hp7, by omega, ?_⟩
    intro sr H8 sr0 sr1 hp8
    obtain ⟨s0, rfl⟩ := Int.eq_ofNat_of_zero_le sr0
    -- if take(3) == 0
    dsimp only
    refine s_seq ?_
    refine ⟨_, rfl, p, 3, Wo H p, _, rfl, by omega, by omega, hp8, by omega, ?_⟩
    intro r3 H9 r30 r31 hp9
    refine ⟨rfl, _, rfl, ?_⟩
    refine ite2 (fun _ => ?_) (fun _ => ?_)
    · refine ⟨_, rfl, (m : Int), rfl, by omega, by omega, fun Dl hD => lc_range (lo := 0) (n := m) (fun i H' => ∃ ys, H' Dl = some (.lst (vtx ys)) ∧ ys.length = i ∧ (∀ (j : Nat) (y : List Nat), ys[j]? = some y → nam y ∧ y.head? = some (letters.getD ((s0 + 3 * j) % 26) 0)) ∧ Pl (Wo H p) p (n + 14 + i) H')
        ⟨[], upd_same, rfl, (fun j y h => by simp at h), (hp9.new hD).cnt (by omega)⟩ ?_ ?_⟩
      · rintro i H9' hi ⟨ys, h1, h2, h3, h4⟩
        refine ⟨rfl, ?_⟩
        unfold tYes
        dsimp only
        rw [if_pos rfl]
        have em : Ev (tOp (rI (fun _ j => 0 < j) fun i j => .int (i % j)) (tOp (rI0 fun i j => .int (i + j)) (tVar 8) (tOp (rI CMul fun i j => .int (i * j)) (tC (.int 3)) (tVar 5))) (tC (.int 26))) [some (.ref p), some (.int (m : Int)), some (.str (tx letters)), some (.str (tx Vp.signs)), some (.str (tx l)), some (.int (0 + (i : Int))), some (.int (g : Int)), some (.str (tx told)), some (.int (s0 : Int)), none, none] H9' (.int (((s0 + 3 * i) % 26 : Nat) : Int)) :=
          ev_is (ev_op (ev_op (ev_var rfl) (ev_op ev_c (ev_var rfl) (rv_I (.inl ⟨by decide, by decide⟩))) rv_I0) ev_c (rv_I (by show (0 : Int) < 26; decide))) (congrArg V.int (show ((s0 : Int) + 3 * (0 + (i : Int))) % 26 = (((s0 + 3 * i) % 26 : Nat) : Int) by omega))
        have hx : (s0 + 3 * i) % 26 < letters.length := Nat.mod_lt _ (by decide)
        refine ⟨_, rfl, em H9' (Ex.refl H9') _ fun H10 e10 => ?_⟩
        refine ⟨tx letters, _, _, rfl, rfl, (by show 26 ≤ sizeLine; decide), text_at (zs := letters) hx, ?_⟩
        have h10 := h4.grow e10
        have hDp : Dl ≠ p := hp9.ne hD
        refine ⟨_, rfl, _, rfl, p, 8, Wo H10 p, _, rfl, by omega, by omega, h10.re, by omega, ?_⟩
        intro r H11 r0 r1 hp11
        obtain ⟨t, rfl⟩ := Int.eq_ofNat_of_zero_le r0
        refine ⟨_, rfl, tx l, rfl, sz_of (by rw [tx_len]; omega), ?_⟩
        rw [tx_cut0]
        refine ⟨tx [letters.getD ((s0 + 3 * i) % 26) 0], tx (l.take t), rfl, rfl, sz_of (by rw [tx_len, tx_len, List.length_singleton, List.length_take]; omega), ?_⟩
        rw [tx_app]
        have hDl : H11 Dl = some (.lst (vtx ys)) := hp11.ex _ _ (wo_at (e10 _ _ h1) hDp)
        refine ⟨vtx ys, hDl, sz_lt (by rw [vtx_len]; omega), ys ++ [letters.getD ((s0 + 3 * i) % 26) 0 :: l.take t], ?_, by rw [List.length_append, List.length_singleton, h2], ?_, ?_⟩
        · rw [upd_same, vtx_app]
          rfl
        · intro j y hy
          by_cases hj : j < ys.length
          · rw [List.getElem?_append_left hj] at hy
            exact h3 j y hy
          · have hj2 := (List.getElem?_eq_some_iff.mp hy).1
            rw [List.length_append, List.length_singleton] at hj2
            obtain rfl : j = ys.length := by omega
            rw [List.getElem?_append_right (Nat.le_refl _), Nat.sub_self] at hy
            obtain rfl := Option.some.inj hy
            rw [h2]
            exact ⟨nam_cons (getD_mem hx) (fun x hx => nam_signs hl x (List.mem_of_mem_take hx)) (by rw [List.length_take]; omega), rfl⟩
        · have hb : Pl (Wo H p) p (n + 14 + (i + 1)) H11 := (hp11.sub h10.wo h10.no).cnt (by omega)
          refine ⟨hb.no, Ex.mut hb.ex ?_, ?_⟩
          · cases e : (Wo H p) Dl with
            | none => rfl
            | some o =>
              have := hp9.ex _ _ e
              rw [hD] at this
              cases this
          · obtain ⟨a, b, c, k1, k2⟩ := hb.at_
            exact ⟨a, b, c, by rw [upd_ne hDp.symm]; exact k1, k2⟩
      · rintro H9' ⟨ys, h1, h2, h3, h4⟩
        refine q Dl ys H9' (fresh_wo hp0 hp9 hD) (hp0.back (h4.cnt (by omega))) h1 h2 ⟨fun y hy => ?_, nodup_key fun i j y hi hj => ?_⟩
        · obtain ⟨j, hj⟩ := List.getElem?_of_mem hy
          exact (h3 j y hj).1
        · have a1 := (h3 i y hi).2
          have a2 := (h3 j y hj).2
          have li := (List.getElem?_eq_some_iff.mp hi).1
          have lj := (List.getElem?_eq_some_iff.mp hj).1
          rw [a1] at a2
          exact mod3w (by omega) (by omega) (getD_inj nodup_letters (Nat.mod_lt _ (by decide)) (Nat.mod_lt _ (by decide)) (Option.some.inj a2))
    -- names = []
    refine ⟨by show 0 ≤ sizeLine; omega, fun d nd => ?_⟩
    have hdp : d ≠ p := hp9.ne nd
    have wd : (Wo H p) d = none := by
      cases e : (Wo H p) d with
      | none => rfl
      | some o =>
        have := hp9.ex _ _ e
        rw [nd] at this
        cases this
    let f : Nat → List Nat := fun k => l.take g ++ [told.getD ((s0 + 7 * k) % told.length) 0] ++ l.drop g
    have hmod : ∀ k, (s0 + 7 * k) % told.length < told.length := fun k => Nat.mod_lt _ (by omega)
    dsimp only
    refine s_seq ?_
    refine s_forR1 (n := (m : Int)) (ea_cons (ev_var rfl) ea_nil) (by omega) (fun i st H' => ∃ t5 t12, st = [some (.ref p), some (.int (m : Int)), some (.str (tx letters)), some (.str (tx Vp.signs)), some (.str (tx l)), t5, some (.int (g : Int)), some (.str (tx told)), some (.int (s0 : Int)), some (.ref d), t12] ∧ H' d = some (.lst (vtx ((List.range i).map f))) ∧ Pl (Wo H p) p (n + 20) H') ?_ ?_ ?_
    · exact fun H12 e12 => ⟨t5, none, rfl, e12 _ _ upd_same, ((hp9.new nd).grow e12).cnt (by omega)⟩
    · rintro i _ H12 hi ⟨t5', t12, rfl, hd12, hp12⟩
      refine s_seq ?_
      refine s_asg (v := .str (tx [told.getD ((s0 + 7 * i) % told.length) 0])) (ev_op (ev_var rfl) (y := .int (((s0 + 7 * i) % told.length : Nat) : Int)) (ev_is (ev_op (ev_op (ev_var rfl) (ev_op ev_c (ev_var rfl) (rv_I (.inl ⟨by decide, by decide⟩))) rv_I0) (ev_cb (z := .int (told.length : Int)) (ea_cons (ev_var rfl) ea_nil) (fun H1 _ Q q => ⟨tx told, rfl, sz_of (by rw [tx_len]; omega), q H1 (Ex.refl H1)⟩)) (rv_I (show (0 : Int) < (told.length : Int) by omega))) ?_) ?_) fun H13 e13 => ?_
      · refine congrArg V.int ?_
        rw [Int.natCast_emod, Int.natCast_add, Int.natCast_mul]
        rfl
      · intro H1 _ Q q
        exact ⟨tx told, _, _, rfl, rfl, sz_of (by rw [tx_len]; omega), text_at (zs := told) (hmod i), q H1 (Ex.refl H1)⟩
      dsimp only
      refine s_app (xs := vtx ((List.range i).map f)) (v := .str (tx (f i))) (e13 _ _ hd12) (ev_var rfl) ?_ (by rw [vtx_len, List.length_map, List.length_range]; omega) fun H14 e14 => ?_
      · intro H1 _ Q q
        have c0 := tx_cut0 l g
        have c1 := tx_cut1 l g
        refine ⟨_, rfl, _, rfl, _, rfl, tx l, rfl, sz_of (by rw [tx_len]; omega), ?_⟩
        rw [c0]
        refine ⟨_, rfl, tx (l.take g), tx [told.getD ((s0 + 7 * i) % told.length) 0], rfl, rfl, sz_of (by rw [tx_len, tx_len, List.length_take, List.length_singleton]; omega), ?_⟩
        rw [tx_app]
        refine ⟨_, rfl, _, rfl, _, rfl, tx l, rfl, sz_of (by rw [tx_len]; omega), ?_⟩
        rw [c1]
        refine ⟨tx (l.take g ++ [told.getD ((s0 + 7 * i) % told.length) 0]), tx (l.drop g), rfl, rfl, sz_of (by rw [tx_len, tx_len, List.length_append, List.length_take, List.length_singleton, List.length_drop]; omega), ?_⟩
        rw [tx_app]
        exact q H1 (Ex.refl H1)
      · refine ⟨some (.int (i : Int)), _, rfl, ?_, ?_⟩
        · rw [upd_same, List.range_succ, List.map_append, vtx_app]
          rfl
        · have hb := hp12.grow (e13.trans e14)
          refine ⟨hb.no, Ex.mut hb.ex wd, ?_⟩
          obtain ⟨a, b, c, k1, k2⟩ := hb.at_
          exact ⟨a, b, c, by rw [upd_ne hdp.symm]; exact k1, k2⟩
    rintro _ H12 ⟨t5', t12, rfl, hd12, hp12⟩
    refine ⟨_, rfl, ?_⟩
    have l7 : l.take 7 = l := List.take_of_length_le hl7
    refine q d _ H12 (fresh_wo hp0 hp9 nd) (hp0.back (hp12.cnt (by omega))) hd12 (by rw [List.length_map, List.length_range]; rfl) ⟨fun y hy => ?_, nodup_range fun i j hi hj e => ?_⟩
    · obtain ⟨k, _, rfl⟩ := List.mem_map.mp hy
      have := nam_put (t := 7) (p := g) (c := told.getD ((s0 + 7 * k) % told.length) 0) hl (by omega) (by rw [l7]; exact hg) (fun h0 => htl h0 _ (getD_mem (hmod k))) (hts _ (getD_mem (hmod k)))
      rw [l7] at this
      exact this
    · have a1 := put_at (c := told.getD ((s0 + 7 * i) % told.length) 0) hg
      have a2 := put_at (c := told.getD ((s0 + 7 * j) % told.length) 0) hg
      have e2 : l.take g ++ [told.getD ((s0 + 7 * i) % told.length) 0] ++ l.drop g = l.take g ++ [told.getD ((s0 + 7 * j) % told.length) 0] ++ l.drop g := e
      rw [e2, a2] at a1
      exact mod7 hlen2 (by omega) (by omega) (getD_inj hn2 (hmod i) (hmod j) (Option.some.inj a1).symm)
end
end K05

set_option Elab.async false
set_option linter.all false
set_option maxRecDepth 100000
set_option maxHeartbeats 4000000
namespace K05
open PySem PySem.Spec PyProof.Rows L2 Vl Evl Vp
theorem el_cat2 {ta tb : TE} {σ : L2.St} {H : Hp} {xs ys : List V} (h : EvL ta σ H xs) (h2 : EvL tb σ H ys) (hl : xs.length + ys.length ≤ 100000) : EvL (tOp rCat ta tb) σ H (xs ++ ys) := fun H1 e Q q =>
  h H1 e _ fun p H2 np e2 hp => h2 H2 (e.trans e2) _ fun p2 H3 np2 e3 hp2 => ⟨p, p2, xs, ys, rfl, rfl, e3 _ _ hp, hp2, sz_of hl, fun p4 n4 => q p4 _ (fresh_back (e2.trans e3) n4) ((e2.trans e3).trans (Ex.new n4)) upd_same⟩
theorem perm_out {α : Type} {ms ls : List α} {k : Nat} (h : k < ls.length) : (ms ++ [ls[k]] ++ (ls.take k ++ ls.drop (k + 1))).Perm (ms ++ ls) := by
  rw [List.append_assoc]
  refine List.Perm.append_left ms ?_
  have e : ls = ls.take k ++ ls[k] :: ls.drop (k + 1) := by
    conv => lhs; rw [← List.take_append_drop k ls, List.drop_eq_getElem_cons h]
  have p := List.perm_middle (a := ls[k]) (l₁ := ls.take k) (l₂ := ls.drop (k + 1))
  rw [← e] at p
  exact p.symm
abbrev sMixed : Stmt := top 30
abbrev nMx : List Str := ["_law_pool_here", "_law_things", "_law_left", "_law_mixed_here", "_law_k", "_law_at"]
/-- the things in a drawn order -/
def spMixed : Sp := fun vs H Q _ => ∃ (p t : Addr) (xs : List V) (Hk : Hp) (n : Nat), vs = [.ref p, .ref t] ∧ Pl Hk p n H ∧ n ≤ 90000 ∧ Hk t = some (.lst xs) ∧ xs.length ≤ 40 ∧
  ∀ d ys H', H d = none → Pl Hk p (n + 50) H' → H' d = some (.lst ys) → ys.Perm xs → Q (.ref d) H'
section
variable {P : Program} {w : World} {K : PySem.W.Frag} {mg : Str → Option Value} {base : Heap}
theorem scMx : FnScope nMx ["_law_pool_here", "_law_things"] (defScope sMixed) := ⟨rfl, rfl, rfl, by decide +kernel, rfl, by decide +kernel, by decide +kernel⟩
theorem ok_mixed {f fT : Addr} {fd fdT : FuncData} (F : FnP K "_law_mixed" sMixed f fd) (FT : FnP K "_law_take" sTake fT fdT) (gT : mg "_law_take" = some (.ref fT)) (mI : mg "int" = none) (mL : mg "len" = none) (mR : mg "range" = none) (mLi : mg "list" = none) :
    FnOk P w K mg base CX0 2 f fd ["_law_pool_here", "_law_things"] spMixed := by
  have GT : FnOk P w K mg base CX0 1 fT fdT ["_law_pool_here", "_law_many_here"] spTake := ok_take FT mI
  have bT : Binds K fdT ["_law_pool_here", "_law_many_here"] [] := FT.bindsN fun _ _ _ _ _ _ us hl => match us, hl with | [_, _], _ => rfl
  have kT := FT.kp
  refine F.ok (CX := CX0) scMx (fun vs H Q E h => ?_) (fun cdv A outer s H vs Q E hr h => ?_)
  · obtain ⟨p, t, xs, Hk, n, rfl, _⟩ := h
    rfl
  · have hr1 : Room 1 _ := hr
    refine ⟨_, (pss_cons (ps_set (i := 2) scMx.nd rfl (by first | exact Or.inl rfl | exact Or.inr rfl) (pe_callTy call_list_of (by rfl) mLi boot_list (pa_cons (pv 1) pa_nil)))
      (pss_cons (ps_set (i := 3) scMx.nd rfl (by first | exact Or.inl rfl | exact Or.inr rfl) (pe_lst pa_nil))
      (pss_cons (ps_for (passes_of rfl) rfl (pi_range1 (by rfl) mR (pa_cons (pe_callB call_len (by rfl) mL boot_len (pa_cons (pv 1) pa_nil)) pa_nil)) (pg_name (i := 4) scMx.nd rfl (by first | exact Or.inl rfl | exact Or.inr rfl))
        (pss_cons (ps_set (i := 5) scMx.nd rfl (by first | exact Or.inl rfl | exact Or.inr rfl) (pe_call GT hr1 (by rfl) gT kT bT .nil pass0 (pa_cons (pv 0) (pa_cons (pe_callB call_len (by rfl) mL boot_len (pa_cons (pv 2) pa_nil)) pa_nil))))
        (pss_cons (ps_expr (pe_bm PySem.F.plainAttrs_list PySem.F.slot_list_append PySem.F.type_list_append mt_append (pv 3) (pa_cons (pe_ix ix_list (pv 2) (pv 5) fun _ _ => rfl) pa_nil)))
        (pss_one (ps_set (i := 2) scMx.nd rfl (by first | exact Or.inl rfl | exact Or.inr rfl) (pe_op op_cat (pe_slice sl_list (pv 2) po_none (po_some (pv 5))) (pe_slice sl_list (pv 2) (po_some (pe_op op_add (pv 5) pe_int)) po_none)))))))
      (pss_one (ps_ret (pv 3)))))), ?_⟩
    obtain ⟨p, t, xs, Hk, n, rfl, hp0, hn, ht, hx, q⟩ := h
    have hp := hp0.re
    have tp : t ≠ p := fun z => by rw [z, hp0.no] at ht; cases ht
    have htk : (Wo H p) t = some (.lst xs) := wo_at (hp0.ex _ _ ht) tp
    refine s_seq ?_
    refine ⟨_, rfl, t, xs, rfl, .inl (sq_of (hp0.ex _ _ ht)), fun a na => ?_⟩
    dsimp only
    refine s_seq ?_
    refine ⟨by show 0 ≤ sizeLine; omega, fun d nd => ?_⟩
    have ha1 := (upd_same (H := H) (a := a) (o := HO.lst xs))
    have hp1 : Pl (Wo H p) p n (upd H a (.lst xs)) := hp.new na
    have hp2 : Pl (Wo H p) p n (upd (upd H a (.lst xs)) d (.lst [])) := hp1.new nd
    have ad : a ≠ d := fun z => by rw [← z, ha1] at nd; cases nd
    have ap : a ≠ p := hp.ne na
    have dp : d ≠ p := hp1.ne nd
    have dk : (Wo H p) d = none := by
      cases e : (Wo H p) d with
      | none => rfl
      | some o =>
        have := hp1.ex _ _ e
        rw [nd] at this
        cases this
    dsimp only
    refine s_seq ?_
    refine s_forR1 (n := (xs.length : Int)) (ea_cons (ev_cb (ea_cons (ev_var rfl) ea_nil) (fun H3 e3 Q q => ⟨_, xs.length, rfl, .inl ⟨xs, sq_of (e3 _ _ (hp2.ex _ _ htk)), rfl⟩, q H3 (Ex.refl H3)⟩)) ea_nil) (by omega)
      (fun i st H' => ∃ b ls ms t4 t5, st = [some (.ref p), some (.ref t), some (.ref b), some (.ref d), t4, t5] ∧ H' b = some (.lst ls) ∧ H' d = some (.lst ms) ∧ b ≠ d ∧ b ≠ p ∧ ls.length + i = xs.length ∧ (ms ++ ls).Perm xs ∧ ms.length = i ∧ Pl (Wo H p) p (n + i) H')
      (fun H3 e3 => ⟨a, xs, [], none, none, rfl, e3 _ _ ((upd_ne ad).trans ha1), e3 _ _ upd_same, ad, ap, rfl, List.Perm.refl _, rfl, hp2.grow e3⟩) ?_ ?_
    · rintro i _ H3 hi ⟨b, ls, ms, t4, t5, rfl, hb, hd, bd, bp, hlen, hperm, hml, hpl⟩
      dsimp only
      refine s_seq ?_
      refine ⟨_, rfl, _, rfl, _, ls.length, rfl, .inl ⟨ls, sq_of hb, rfl⟩, p, (ls.length : Int), Wo H3 p, _, rfl, by omega, by omega, hpl.re, by omega, fun r H4 r0 r1 hp4 => ?_⟩
      obtain ⟨k, rfl⟩ := Int.eq_ofNat_of_zero_le r0
      have hk : k < ls.length := by omega
      have hp4b := hpl.back hp4
      have hb4 : H4 b = some (.lst ls) := hp4.ex _ _ (wo_at hb bp)
      have hd4 : H4 d = some (.lst ms) := hp4.ex _ _ (wo_at hd dp)
      dsimp only
      refine s_seq ?_
      refine s_app (xs := ms) (v := ls[k]) hd4 (ev_var rfl) (ev_op (ev_var rfl) (ev_var rfl) (rv_ixL (sq_of hb4) (at_of rfl (List.getElem?_eq_getElem hk)))) (by omega) fun H5 e5 => ?_
      dsimp only
      have hb5 : (upd H5 d (.lst (ms ++ [ls[k]]))) b = some (.lst ls) := (upd_ne bd).trans (e5 _ _ hb4)
      have hp5 : Pl (Wo H p) p (n + i + 1) (upd H5 d (.lst (ms ++ [ls[k]]))) := by
        have hz := hp4b.grow e5
        refine ⟨hz.no, Ex.mut hz.ex dk, ?_⟩
        obtain ⟨a', b', c', w1, w2⟩ := hz.at_
        exact ⟨a', b', c', by rw [upd_ne dp.symm]; exact w1, w2⟩
      have key := el_cat2 (σ := [some (.ref p), some (.ref t), some (.ref b), some (.ref d), some (.int (i : Int)), some (.int (k : Int))]) (el_sl (lo := none) (hi := some (k : Int)) (K := K) (ev_var (i := 2) rfl) eo_none (eo_some (ev_var (i := 5) rfl)) (sq_of hb5))
        (el_sl (lo := some ((k + 1 : Nat) : Int)) (hi := none) (K := K) (ev_var (i := 2) rfl) (eo_some (show Ev (tOp (rI0 fun i j => .int (i + j)) (tVar 5) (tC (.int 1))) _ _ (.int ((k + 1 : Nat) : Int)) from ev_is (ev_op (ev_var rfl) ev_c rv_I0) rfl)) eo_none (sq_of hb5)) (by
          have h3 := cutV_length ls (some ((k + 1 : Nat) : Int)) none
          have h4 := cutV_length ls none (some (k : Int))
          omega)
      rw [cutV0, cutV1] at key
      refine key _ (Ex.refl _) _ fun b2 H6 nb2 e6 hb6 => ?_
      have hd6 : H6 d = some (.lst (ms ++ [ls[k]])) := e6 _ _ upd_same
      have hp6 := hp5.grow e6
      have b2d : b2 ≠ d := fun z => by
        rw [z, upd_same] at nb2
        cases nb2
      refine ⟨b2, ls.take k ++ ls.drop (k + 1), ms ++ [ls[k]], _, _, rfl, hb6, hd6, b2d, hp5.ne nb2, ?_, (perm_out hk).trans hperm, ?_, by rw [show n + (i + 1) = n + i + 1 by omega]; exact hp6⟩
      · rw [List.length_append, List.length_take, List.length_drop]
        omega
      · rw [List.length_append, List.length_singleton, hml]
    · rintro _ H3 ⟨b, ls, ms, t4, t5, rfl, hb, hd, bd, bp, hlen, hperm, hml, hpl⟩
      have hl0 : ls = [] := List.length_eq_zero_iff.mp (by have e1 : ((xs.length : Int)).toNat = xs.length := by omega
                                                           omega)
      rw [hl0, List.append_nil] at hperm
      have fd : H d = none := by
        rw [upd_ne (fun z => ad z.symm)] at nd
        exact nd
      exact ⟨_, rfl, q d ms H3 fd (hp0.back (hpl.cnt (by omega))) hd hperm⟩
end
end K05

set_option Elab.async false
set_option linter.all false
set_option maxRecDepth 100000
set_option maxHeartbeats 2000000
/-! Sequences that go round: the least of all turns tells them apart. -/
namespace Vr
open PySem PySem.Spec PyProof.Rows L2 Vl Vp
def dtx (a : List (List Nat)) : List PyData := a.map fun l => PyData.str (tx l)
def wd (a : List (List Nat)) : PyData := .tuple (dtx a)
def ltW (a b : List (List Nat)) : Bool := PySem.W.dataLt (wd a) (wd b)
theorem key_inj : ∀ {a b : List (List Nat)}, PySem.W.keyToksAll (dtx a) = PySem.W.keyToksAll (dtx b) → a = b
  | [], [], _ => rfl
  | [], x :: r, h => by
    unfold dtx at h
    simp only [List.map_nil, List.map_cons, PySem.W.keyToksAll] at h
    cases List.cons.inj h |>.1
  | x :: r, [], h => by
    unfold dtx at h
    simp only [List.map_nil, List.map_cons, PySem.W.keyToksAll] at h
    cases List.cons.inj h |>.1
  | x :: r, y :: t, h => by
    unfold dtx at h
    simp only [List.map_cons, PySem.W.keyToksAll, PySem.W.keyToks, List.cons_append, List.nil_append] at h
    obtain ⟨_, h⟩ := List.cons.inj h
    obtain ⟨h1, h2⟩ := List.cons.inj h
    have e1 : x = y := Sum.inr.inj h1
    have e2 : r = t := key_inj h2
    rw [e1, e2]
theorem lt_irr (a : List (List Nat)) : ltW a a = false := PyProof.Rows.lex_irrefl (O := itemOrd) _
theorem lt_trans {a b c : List (List Nat)} (h1 : ltW a b = true) (h2 : ltW b c = true) : ltW a c = true := PyProof.Rows.lex_trans (O := itemOrd) _ _ _ h1 h2
theorem lt_total {a b : List (List Nat)} (h1 : ltW a b = false) (h2 : ltW b a = false) : a = b := by
  have := PyProof.Rows.lex_total (O := itemOrd) _ _ h1 h2
  unfold wd at this
  rw [PySem.W.keyToks, PySem.W.keyToks] at this
  exact key_inj this
theorem le_trans {a b c : List (List Nat)} (h1 : ltW b a = false) (h2 : ltW c b = false) : ltW c a = false := by
  cases e : ltW c a with
  | false => rfl
  | true =>
    rcases PyProof.Rows.lex_negTrans (O := itemOrd) (PySem.W.keyToks (wd c)) (PySem.W.keyToks (wd b)) (PySem.W.keyToks (wd a)) e with h | h
    · exact absurd h2 (by rw [show ltW c b = true from h]; decide)
    · exact absurd h1 (by rw [show ltW b a = true from h]; decide)
/-- begun elsewhere -/
def rot {α : Type} (a : List α) (k : Nat) : List α := a.drop k ++ a.take k
theorem rot_zero {α : Type} (a : List α) : rot a 0 = a := by
  unfold rot
  rw [List.take_zero, List.append_nil, List.drop_zero]
theorem rot_len {α : Type} (a : List α) (k : Nat) : (rot a k).length = a.length := by
  unfold rot
  rw [List.length_append, List.length_drop, List.length_take]
  omega
theorem rot_at {α : Type} {a : List α} {k i : Nat} (hk : k ≤ a.length) (hi : i < a.length) : (rot a k)[i]? = a[(i + k) % a.length]? := by
  unfold rot
  by_cases h : i < a.length - k
  · rw [List.getElem?_append_left (by rw [List.length_drop]; exact h), List.getElem?_drop, Nat.mod_eq_of_lt (by omega), Nat.add_comm]
  · rw [List.getElem?_append_right (by rw [List.length_drop]; omega), List.length_drop, List.getElem?_take_of_lt (by omega), Nat.mod_eq_sub_mod (by omega), Nat.mod_eq_of_lt (by omega)]
    congr 1
    omega
theorem rot_rot {α : Type} {a : List α} {k j : Nat} (hk : k < a.length) (hj : j < a.length) : rot (rot a k) j = rot a ((k + j) % a.length) := by
  refine List.ext_getElem? fun i => ?_
  have hn : (k + j) % a.length < a.length := Nat.mod_lt _ (by omega)
  by_cases hi : i < a.length
  · rw [rot_at (by rw [rot_len]; omega) (by rw [rot_len]; exact hi), rot_len, rot_at (by omega) (Nat.mod_lt _ (by omega)), rot_at (by omega) hi, Nat.mod_add_mod, Nat.add_mod_mod]
    congr 2
    omega
  · rw [List.getElem?_eq_none (by rw [rot_len, rot_len]; omega), List.getElem?_eq_none (by rw [rot_len]; omega)]
theorem rot_back {α : Type} {a : List α} {k : Nat} (hk : k < a.length) : rot (rot a k) ((a.length - k) % a.length) = a := by
  rw [rot_rot hk (Nat.mod_lt _ (by omega)), Nat.add_mod_mod, show k + (a.length - k) = a.length by omega, Nat.mod_self, rot_zero]
/-- the least of the turns 0 .. k -/
def lt1 (a : List (List Nat)) : Nat → List (List Nat)
  | 0 => a
  | k + 1 => if ltW (rot a (k + 1)) (lt1 a k) = true then rot a (k + 1) else lt1 a k
theorem lt1_turn (a : List (List Nat)) : ∀ k, ∃ j, j ≤ k ∧ lt1 a k = rot a j
  | 0 => ⟨0, by omega, (rot_zero a).symm⟩
  | k + 1 => by
    obtain ⟨j, h1, h2⟩ := lt1_turn a k
    unfold lt1
    by_cases h : ltW (rot a (k + 1)) (lt1 a k) = true
    · rw [if_pos h]
      exact ⟨k + 1, by omega, rfl⟩
    · rw [if_neg h]
      exact ⟨j, by omega, h2⟩
theorem lt1_least (a : List (List Nat)) : ∀ k j, j ≤ k → ltW (rot a j) (lt1 a k) = false
  | 0, j, h => by
    obtain rfl : j = 0 := by omega
    rw [rot_zero]
    exact lt_irr a
  | k + 1, j, h => by
    unfold lt1
    by_cases g : ltW (rot a (k + 1)) (lt1 a k) = true
    · rw [if_pos g]
      by_cases e : j = k + 1
      · rw [e]
        exact lt_irr _
      · refine le_trans (b := lt1 a k) ?_ (lt1_least a k j (by omega))
        cases z : ltW (lt1 a k) (rot a (k + 1)) with
        | false => rfl
        | true =>
          have := lt_trans z g
          rw [lt_irr] at this
          cases this
    · rw [if_neg g]
      by_cases e : j = k + 1
      · rw [e]
        exact Bool.eq_false_iff.mpr g
      · exact lt1_least a k j (by omega)
def least (a : List (List Nat)) : List (List Nat) := lt1 a (a.length - 1)
theorem lt1_len (a : List (List Nat)) (k : Nat) : (lt1 a k).length = a.length := by
  obtain ⟨j, _, h⟩ := lt1_turn a k
  rw [h, rot_len]
theorem least_len (a : List (List Nat)) : (least a).length = a.length := lt1_len _ _
def Turn (a b : List (List Nat)) : Prop := ∃ k, k < a.length ∧ rot a k = b
theorem Turn.sub {a b : List (List Nat)} (h : Turn a b) : ltW (least b) (least a) = false := by
  obtain ⟨k, hk, rfl⟩ := h
  obtain ⟨j, hj, e⟩ := lt1_turn (rot a k) ((rot a k).length - 1)
  rw [rot_len] at hj
  have e2 : least (rot a k) = rot a ((k + j) % a.length) := e.trans (rot_rot hk (by omega))
  rw [e2]
  have := Nat.mod_lt (k + j) (show 0 < a.length by omega)
  exact lt1_least a _ _ (by omega)
theorem Turn.symm {a b : List (List Nat)} (h : Turn a b) : Turn b a := by
  obtain ⟨k, hk, rfl⟩ := h
  exact ⟨(a.length - k) % a.length, by rw [rot_len]; exact Nat.mod_lt _ (by omega), rot_back hk⟩
theorem least_iff {a b : List (List Nat)} (ha : 1 ≤ a.length) (hb : 1 ≤ b.length) : least a = least b ↔ Turn a b := by
  constructor
  · intro h
    obtain ⟨i, hi, e1⟩ := lt1_turn a (a.length - 1)
    obtain ⟨j, hj, e2⟩ := lt1_turn b (b.length - 1)
    have e : rot a i = rot b j := e1.symm.trans (h.trans e2)
    have hl : a.length = b.length := by
      have := congrArg List.length e
      rw [rot_len, rot_len] at this
      exact this
    have hb2 := rot_back (a := b) (k := j) (by omega)
    rw [← e, rot_rot (a := a) (by omega) (by rw [hl]; exact Nat.mod_lt _ (by omega))] at hb2
    exact ⟨_, Nat.mod_lt _ (by omega), hb2⟩
  · intro h
    exact lt_total h.symm.sub h.sub
/-- compared as data -/
theorem alike_dtx : ∀ a b : List (List Nat), PySem.W.alikeAll (dtx a) (dtx b) = true
  | [], _ => by
    unfold dtx
    rw [List.map_nil, PySem.W.alikeAll]
  | x :: r, [] => by
    unfold dtx
    rw [List.map_nil, List.map_cons, PySem.W.alikeAll]
  | x :: r, y :: t => by
    have := alike_dtx r t
    unfold dtx at *
    rw [List.map_cons, List.map_cons, PySem.W.alikeAll, this, PySem.W.alike]
    rfl
theorem alike_wd (a b : List (List Nat)) : PySem.W.alike (wd a) (wd b) = true := by
  unfold wd
  rw [PySem.W.alike]
  exact alike_dtx a b
theorem dep_dtx : ∀ a : List (List Nat), PyData.depthAll (dtx a) = 0
  | [] => rfl
  | x :: r => by
    show max 0 (PyData.depthAll (dtx r)) = 0
    rw [dep_dtx r]
    rfl
theorem dep_wd (a : List (List Nat)) : (wd a).depth ≤ 1 := by
  show PyData.depthAll (dtx a) + 1 ≤ 1
  rw [dep_dtx]
  omega
theorem dpa_vtx {K : PySem.W.Frag} {H : Hp} : ∀ a : List (List Nat), DpAll K H (vtx a) (dtx a)
  | [] => .nil
  | x :: r => .cons (.str _) (dpa_vtx r)
theorem dp_wd {K : PySem.W.Frag} {H : Hp} {p : Addr} {a : List (List Nat)} (h : SqT K H p (vtx a)) : Dp K H (.ref p) (wd a) := .tup h (dpa_vtx a)
theorem vtx_inj {a b : List (List Nat)} (h : vtx a = vtx b) : a = b := by
  have : ∀ x y : List Nat, V.str (tx x) = V.str (tx y) → x = y := fun x y e => tx_inj (V.str.inj e)
  exact List.map_inj_right this |>.mp h
theorem vtx_rot (a : List (List Nat)) (k : Nat) : vtx (rot a k) = (vtx a).drop k ++ (vtx a).take k := by
  unfold rot
  rw [vtx_app, vtx_drop, vtx_take]
theorem vtx_rev (a : List (List Nat)) : (vtx a).reverse = vtx a.reverse := List.map_reverse.symm
end Vr

set_option Elab.async false
set_option linter.all false
set_option maxRecDepth 100000
set_option maxHeartbeats 4000000
namespace K05
open PySem PySem.Spec PyProof.Rows L2 Vl Evl Vp
abbrev sNet : Stmt := top 31
abbrev nNt : List Str := ["_law_pool_here", "_law_most", "_law_lanes", "_law_names_here", "_law_posts", "_law_told_here", "_law_name", "_law_found", "_law_k", "_law_start"]
/-- a lane's row: name, start, end -/
abbrev Row : Type := Addr × (List Nat × List Nat × List Nat)
def RowAt (H : Hp) (r : Row) : Prop := H r.1 = some (.tup [.str (tx r.2.1), .str (tx r.2.2.1), .str (tx r.2.2.2)])
/-- rows between posts, no name twice -/
def RowsOk (ps : List (List Nat)) (rs : List Row) : Prop := Names (rs.map fun r => r.2.1) ∧ ∀ r ∈ rs, r.2.2.1 ∈ ps ∧ r.2.2.2 ∈ ps
def spNet : Sp := fun vs H Q _ => ∃ (p : Addr) (most lanes : Nat) (Hk : Hp) (n : Nat), vs = [.ref p, .int (most : Int), .int (lanes : Int)] ∧ most ≤ 8 ∧ lanes ≤ 26 ∧ Pl Hk p n H ∧ n ≤ 80000 ∧
  ∀ d a b ps rs H', H d = none → Pl Hk p (n + 400) H' → H' d = some (.lst [.ref a, .ref b]) → H' a = some (.lst (vtx ps)) → H' b = some (.lst (rs.map fun r => V.ref r.1)) →
    a ≠ b → Names ps → ps.length ≤ most → rs.length ≤ lanes → RowsOk ps rs → (∀ r ∈ rs, RowAt H' r) → Q (.ref d) H'
theorem perm_map {f : Row → V} : ∀ {ys : List V} {rs : List Row}, ys.Perm (rs.map f) → ∃ rs' : List Row, ys = rs'.map f ∧ rs'.Perm rs
  | [], rs, h => by
    have e := h.symm.eq_nil
    rw [List.map_eq_nil_iff] at e
    exact ⟨[], rfl, by rw [e]⟩
  | y :: t, rs, h => by
    obtain ⟨x, hx, rfl⟩ := List.mem_map.mp (h.subset List.mem_cons_self)
    have p := List.perm_cons_erase hx
    have h2 : (f x :: t).Perm (f x :: (rs.erase x).map f) := h.trans (p.map f)
    obtain ⟨r', e, h3⟩ := perm_map h2.cons_inv
    exact ⟨x :: r', by rw [e]; rfl, (h3.cons x).trans p.symm⟩
theorem names_take {xs : List (List Nat)} (h : Names xs) (k : Nat) : Names (xs.take k) := ⟨fun l hl => h.1 l (List.mem_of_mem_take hl), h.2.sublist (List.take_sublist k xs)⟩
theorem names_sub {xs ys : List (List Nat)} (h : Names xs) (s : ys.Sublist xs) : Names ys := ⟨fun l hl => h.1 l (s.subset hl), h.2.sublist s⟩
theorem inV_vtx {l : List Nat} {xs : List (List Nat)} : inV (V.str (tx l)) (vtx xs) = decide (l ∈ xs) := by
  unfold inV vtx
  rw [List.any_map]
  cases e : decide (l ∈ xs) with
  | true =>
    have hm := of_decide_eq_true e
    rw [List.any_eq_true]
    exact ⟨l, hm, by show eqV (V.str (tx l)) (V.str (tx l)) = true; unfold eqV; simp⟩
  | false =>
    have hm := of_decide_eq_false e
    rw [List.any_eq_false]
    intro y hy z
    have z : eqV (V.str (tx y)) (V.str (tx l)) = true := z
    unfold eqV at z
    have : tx y = tx l := by simpa using z
    exact hm (by rw [← tx_inj this]; exact hy)
theorem flat_vtx (xs : List (List Nat)) : (vtx xs).all flatV = true := by
  rw [List.all_eq_true]
  intro v hv
  obtain ⟨l, _, rfl⟩ := List.mem_map.mp hv
  rfl
/-- the names of ts that are none of xs, behind xs turned about -/
theorem names_mix {xs ts : List (List Nat)} (hx : Names xs) (ht : Names ts) : Names (xs.reverse ++ ts.filter fun l => !decide (l ∈ xs)) := by
  refine ⟨fun l hl => ?_, ?_⟩
  · rcases List.mem_append.mp hl with h | h
    · exact hx.1 l (List.mem_reverse.mp h)
    · exact ht.1 l (List.mem_filter.mp h).1
  · rw [List.nodup_append]
    refine ⟨(List.reverse_perm xs).nodup_iff.mpr hx.2, ht.2.sublist List.filter_sublist, fun a ha b hb e => ?_⟩
    have h1 := List.mem_reverse.mp ha
    have h2 := (List.mem_filter.mp hb).2
    rw [← e, decide_eq_true h1] at h2
    cases h2
theorem given_filter (ts : List (List Nat)) (c : List Nat → Bool) : ∀ n, n ≤ ts.length → given n (fun i => c (ts.getD i [])) (fun i => V.str (tx (ts.getD i []))) = vtx ((ts.take n).filter c)
  | 0, _ => by rw [List.take_zero]; rfl
  | n + 1, h => by
    have hn : n < ts.length := by omega
    have e : ts.getD n [] = ts[n] := by rw [List.getD_eq_getElem?_getD, List.getElem?_eq_getElem hn]; rfl
    have t : ts.take (n + 1) = ts.take n ++ [ts[n]] := by rw [List.take_succ, List.getElem?_eq_getElem hn]; rfl
    have ih := given_filter ts c n (by omega)
    rw [t, List.filter_append, vtx_app]
    cases hc : c ts[n] with
    | true =>
      rw [given_yes (f := fun i => c (ts.getD i [])) (by show c (ts.getD n []) = true; rw [e]; exact hc), ih, List.filter_cons_of_pos hc, List.filter_nil, e]
      rfl
    | false =>
      rw [given_no (f := fun i => c (ts.getD i [])) (by show c (ts.getD n []) = false; rw [e]; exact hc), ih, List.filter_cons_of_neg (by rw [hc]; decide), List.filter_nil]
      show _ = _ ++ []
      rw [List.append_nil]
theorem lay_dtx : ∀ a : List (List Nat), (∀ l ∈ a, nam l) → PyData.canLayAll0 (Vr.dtx a) = true
  | [], _ => rfl
  | x :: r, h => by
    have hr := lay_dtx r fun l hl => h l (List.mem_cons_of_mem _ hl)
    have hx : PyData.canLay0 (PyData.str (tx x)) = true := by
      show PyData.strOk (tx x) = true
      unfold PyData.strOk
      rw [← Array.all_toList, tx_list, List.all_eq_true]
      intro c hc
      have hs : c ∈ Vp.signs := nam_signs (h x List.mem_cons_self) c hc
      have all : ∀ c ∈ Vp.signs, c < 128 := by decide +kernel
      have := all c hs
      refine decide_eq_true ?_
      omega
    show (PyData.canLay0 (PyData.str (tx x)) && PyData.canLayAll0 (Vr.dtx r)) = true
    rw [hx, hr]
    rfl
theorem sh_wl {a : List (List Nat)} (h : ∀ l ∈ a, nam l) : SeqAt.shaped (.list (Vr.dtx a)) = true := shaped_of (lay_dtx a h) (by
  show PyData.depthAll (Vr.dtx a) + 1 ≤ 64
  rw [Vr.dep_dtx]
  omega)
theorem ne_nil (a : List (List Nat)) : (!PyData.eqv (.list (Vr.dtx a)) (.list [])) = !a.isEmpty := by cases a <;> rfl
theorem if_t {c A B : Prop} [Decidable c] (h : c) (a : A) : if c then A else B := by
  rw [if_pos h]
  exact a
theorem if_f {c A B : Prop} [Decidable c] (h : ¬ c) (b : B) : if c then A else B := by
  rw [if_neg h]
  exact b
theorem rows_mono {H H' : Hp} {rs : List Row} (e : Ex H H') (h : ∀ r ∈ rs, RowAt H r) : ∀ r ∈ rs, RowAt H' r := fun r hr => e _ _ (h r hr)
theorem rows_upd {H : Hp} {rs : List Row} {f : Addr} {xs : List V} {o : HO} (h : ∀ r ∈ rs, RowAt H r) (hf : H f = some (.lst xs)) : ∀ r ∈ rs, RowAt (upd H f o) r := fun r hr => by
  show upd H f o r.1 = _
  rw [upd_ne (fun z => by have := h r hr; unfold RowAt at this; rw [z, hf] at this; cases this)]
  exact h r hr
theorem rows_wo {B H : Hp} {p : Addr} {n : Nat} {rs : List Row} (P : Pl B p n H) (h : ∀ r ∈ rs, RowAt H r) : ∀ r ∈ rs, RowAt (Wo H p) r := fun r hr => wo_at (h r hr) (fun z => by
  obtain ⟨a, b, c, w1, _⟩ := P.at_
  have := h r hr
  unfold RowAt at this
  rw [z, w1] at this
  cases this)
section
variable {P : Program} {w : World} {K : PySem.W.Frag} {mg : Str → Option Value} {base : Heap}
theorem scNt : FnScope nNt ["_law_pool_here", "_law_most", "_law_lanes"] (defScope sNet) := ⟨rfl, rfl, rfl, by decide +kernel, rfl, by decide +kernel, by decide +kernel⟩
theorem ok_net {f fT fNm fMy fMx : Addr} {fd fdT fdNm fdMy fdMx : FuncData} (F : FnP K "_law_net" sNet f fd) (FT : FnP K "_law_take" sTake fT fdT) (FNm : FnP K "_law_names" sNames fNm fdNm) (FMy : FnP K "_law_many" sMany fMy fdMy) (FMx : FnP K "_law_mixed" sMixed fMx fdMx)
    (gT : mg "_law_take" = some (.ref fT)) (gNm : mg "_law_names" = some (.ref fNm)) (gMy : mg "_law_many" = some (.ref fMy)) (gMx : mg "_law_mixed" = some (.ref fMx)) (mI : mg "int" = none) (mL : mg "len" = none) (mR : mg "range" = none) (mLi : mg "list" = none) (mM : mg "min" = none) :
    FnOk P w K mg base CX0 3 f fd ["_law_pool_here", "_law_most", "_law_lanes"] spNet := by
  have GT : FnOk P w K mg base CX0 1 fT fdT ["_law_pool_here", "_law_many_here"] spTake := ok_take FT mI
  have GNm : FnOk P w K mg base CX0 2 fNm fdNm ["_law_pool_here", "_law_many_here"] spNames := ok_names FNm FT gT mI mL mR
  have GMy : FnOk P w K mg base CX0 2 fMy fdMy ["_law_pool_here", "_law_many_here"] spMany := ok_many FMy FT gT mI mL mR
  have GMx : FnOk P w K mg base CX0 2 fMx fdMx ["_law_pool_here", "_law_things"] spMixed := ok_mixed FMx FT gT mI mL mR mLi
  have bT : Binds K fdT ["_law_pool_here", "_law_many_here"] [] := FT.bindsN fun _ _ _ _ _ _ us hl => match us, hl with | [_, _], _ => rfl
  have bNm : Binds K fdNm ["_law_pool_here", "_law_many_here"] [] := FNm.bindsN fun _ _ _ _ _ _ us hl => match us, hl with | [_, _], _ => rfl
  have bMy : Binds K fdMy ["_law_pool_here", "_law_many_here"] [] := FMy.bindsN fun _ _ _ _ _ _ us hl => match us, hl with | [_, _], _ => rfl
  have bMx : Binds K fdMx ["_law_pool_here", "_law_things"] [] := FMx.bindsN fun _ _ _ _ _ _ us hl => match us, hl with | [_, _], _ => rfl
  have kT := FT.kp
  have kNm := FNm.kp
  have kMy := FMy.kp
  have kMx := FMx.kp
  refine F.ok (CX := CX0) scNt (fun vs H Q E h => ?_) (fun cdv A outer s H vs Q E hr h => ?_)
  · obtain ⟨p, a, b, Hk, n, rfl, _⟩ := h
    rfl
  · have hr2 : Room 2 _ := hr
    have hr1 : Room 1 _ := hr.mono (by omega)
    refine ⟨_, (pss_cons (ps_set (i := 3) scNt.nd rfl (by first | exact Or.inl rfl | exact Or.inr rfl) (pe_call GNm hr2 (by rfl) gNm kNm bNm .nil pass0 (pa_cons (pv 0) (pa_cons pe_int pa_nil))))
      (pss_cons (ps_set (i := 4) scNt.nd rfl (by first | exact Or.inl rfl | exact Or.inr rfl) (pe_slice sl_list (pv 3) po_none (po_some (pe_call GT hr1 (by rfl) gT kT bT .nil pass0 (pa_cons (pv 0) (pa_cons (pe_op op_add (pv 1) pe_int) pa_nil))))))
      (pss_cons (ps_set (i := 5) scNt.nd rfl (by first | exact Or.inl rfl | exact Or.inr rfl) (pe_call GMy hr2 (by rfl) gMy kMy bMy .nil pass0 (pa_cons (pv 0) (pa_cons (pv 2) pa_nil))))
      (pss_cut (ps_if (pt_cmpR op_eq (pe_call GT hr1 (by rfl) gT kT bT .nil pass0 (pa_cons (pv 0) (pa_cons pe_int pa_nil))) pe_int (nomark _)) (pss_one (ps_set (i := 5) scNt.nd rfl (by first | exact Or.inl rfl | exact Or.inr rfl) (pe_slice sl_list (pe_op op_cat (pe_revL (pv 3)) (pe_lc (own := [("_law_name", 6)]) (g := gName 6) (tt := tTest (tOp (rIn K true) (tVar 6) (tVar 3))) (te := tVar 6) rfl scNt.nd (pi_list (pv 5)) (blkOk_by (own := [("_law_name", 6)]) (N := nNt) (sc := defScope sNet) (by decide +kernel)) (fun _ _ _ _ _ => (pg_name (i := 6) scNt.nd rfl (by first | exact Or.inl rfl | exact Or.inr rfl))) (fun _ _ _ _ _ => pts_one (pt_cmpR op_notIn_seq (pv 6) (pv 3) rfl)) (fun _ _ _ _ _ => pv 6))) po_none (po_some (pv 2))))) pss_nil)
      (pss_cons (ps_set (i := 7) scNt.nd rfl (by first | exact Or.inl rfl | exact Or.inr rfl) (pe_lst pa_nil))
      (pss_cut (ps_if (PW.pt (pw_and (pt_cmpR (op_neD hr.units) (pv 4) (pe_lst pa_nil) (nomark _)) (pw_and1 (pt_cmpR op_eq (pe_call GT hr1 (by rfl) gT kT bT .nil pass0 (pa_cons (pv 0) (pa_cons pe_int pa_nil))) pe_int (nomark _))))) (pss_one (ps_for (passes_of rfl) rfl (pi_range1 (by rfl) mR (pa_cons (pe_callB (call_min2 rfl) (by rfl) mM boot_min (pa_cons (pv 2) (pa_cons (pe_callB call_len (by rfl) mL boot_len (pa_cons (pv 4) pa_nil)) pa_nil))) pa_nil)) (pg_name (i := 8) scNt.nd rfl (by first | exact Or.inl rfl | exact Or.inr rfl)) (pss_one (ps_expr (pe_bm PySem.F.plainAttrs_list PySem.F.slot_list_append PySem.F.type_list_append mt_append (pv 7) (pa_cons (pe_tup (pa_cons (pe_ix ix_list (pv 5) (pv 8) fun _ _ => rfl) (pa_cons (pe_ix ix_list (pv 4) (pv 8) fun _ _ => rfl) (pa_cons (pe_ix ix_list (pv 4) (pe_op op_mod (pe_op op_add (pv 8) pe_int) (pe_callB call_len (by rfl) mL boot_len (pa_cons (pv 4) pa_nil))) fun _ _ => rfl) pa_nil)))) pa_nil)))))) pss_nil)
      (pss_cut (ps_for (passes_of rfl) rfl (pi_list (pe_slice sl_list (pv 5) (po_some (pe_callB call_len (by rfl) mL boot_len (pa_cons (pv 7) pa_nil))) po_none)) (pg_name (i := 6) scNt.nd rfl (by first | exact Or.inl rfl | exact Or.inr rfl)) (pss_one (ps_if (PW.pt (pw_and (pt_cmpR (op_neD hr.units) (pv 4) (pe_lst pa_nil) (nomark _)) (pw_and1 (pt_cmpR op_gt (pe_call GT hr1 (by rfl) gT kT bT .nil pass0 (pa_cons (pv 0) (pa_cons pe_int pa_nil))) pe_int (nomark _))))) (pss_cons (ps_set (i := 9) scNt.nd rfl (by first | exact Or.inl rfl | exact Or.inr rfl) (pe_ix ix_list (pv 4) (pe_call GT hr1 (by rfl) gT kT bT .nil pass0 (pa_cons (pv 0) (pa_cons (pe_callB call_len (by rfl) mL boot_len (pa_cons (pv 4) pa_nil)) pa_nil))) fun _ _ => rfl)) (pss_one (ps_expr (pe_bm PySem.F.plainAttrs_list PySem.F.slot_list_append PySem.F.type_list_append mt_append (pv 7) (pa_cons (pe_tup (pa_cons (pv 6) (pa_cons (pv 9) (pa_cons (pe_ix ix_list (pv 4) (pe_call GT hr1 (by rfl) gT kT bT .nil pass0 (pa_cons (pv 0) (pa_cons (pe_callB call_len (by rfl) mL boot_len (pa_cons (pv 4) pa_nil)) pa_nil))) fun _ _ => rfl) pa_nil)))) pa_nil))))) pss_nil)))
      (pss_one (ps_ret (pe_lst (pa_cons (pv 4) (pa_cons (pe_call GMx hr2 (by rfl) gMx kMx bMx .nil pass0 (pa_cons (pv 0) (pa_cons (pv 7) pa_nil))) pa_nil)))))))))))), ?_⟩
    obtain ⟨p, most, lanes, Hk, n, rfl, hm, hla, hp0, hn, q⟩ := h
    have hp := hp0.re
    refine s_seq ?_
    refine ⟨_, rfl, p, 8, Wo H p, n, rfl, by omega, hp, by omega, fun nq xs H1 nn hP1 hq1 hx1 hN => ?_⟩
    have nqp : nq ≠ p := hp.ne nn
    dsimp only
    refine s_seq ?_
    refine ⟨_, rfl, _, rfl, _, rfl, (most : Int), 1, rfl, rfl, p, (most : Int) + 1, Wo H1 p, _, rfl, by omega, by omega, hP1.re, by omega, fun r H2 r0 r1 hP2 => ?_⟩
    obtain ⟨z, rfl⟩ := Int.eq_ofNat_of_zero_le r0
    have hq2 : H2 nq = some (.lst (vtx xs)) := hP2.ex _ _ (wo_at hq1 nqp)
    refine ⟨(z : Int), rfl, nq, vtx xs, rfl, sq_of hq2, fun a na => ?_⟩
    rw [cutV0, vtx_take]
    have ap : a ≠ p := hP2.ne na
    have hP3 : Pl (Wo H1 p) p (n + 51) (upd H2 a (.lst (vtx (xs.take z)))) := hP2.new na
    have ha3 : (upd H2 a (.lst (vtx (xs.take z)))) a = some (.lst (vtx (xs.take z))) := upd_same
    have hq3 : (upd H2 a (.lst (vtx (xs.take z)))) nq = some (.lst (vtx xs)) := (Ex.new na) _ _ hq2
    have hps : Names (xs.take z) := names_take hN z
    have hpl : (xs.take z).length ≤ most := by rw [List.length_take]; omega
    have hp8 : (xs.take z).length ≤ 8 := by omega
    have Bk : Ex (Wo H p) (Wo (upd H2 a (.lst (vtx (xs.take z)))) p) := hP1.wo.trans hP3.wo
    have P3 := hP3.re
    have hBa : (Wo (upd H2 a (.lst (vtx (xs.take z)))) p) a = some (.lst (vtx (xs.take z))) := wo_at ha3 ap
    have hBq : (Wo (upd H2 a (.lst (vtx (xs.take z)))) p) nq = some (.lst (vtx xs)) := wo_at hq3 nqp
    generalize Wo (upd H2 a (.lst (vtx (xs.take z)))) p = B at Bk P3 hBa hBq
    generalize upd H2 a (.lst (vtx (xs.take z))) = H3 at P3
    clear hP3 ha3 hq3 hP1 hP2 hq2
    have fin : ∀ {m : Nat} {HE : Hp}, Pl B p m HE → Pl (Wo H p) p m HE := fun P => P.sub Bk (wo_self _ _)
    generalize xs.take z = ps at hBa hps hpl hp8
    dsimp only
    refine s_seq ?_
    refine ⟨_, rfl, _, rfl, p, lanes, B, _, rfl, by omega, P3, by omega, fun t ts H4 nt hP4 ht4 hlt hNt => ?_⟩
    have tp : t ≠ p := P3.ne nt
    dsimp only
    refine ⟨fun st' H' => ∃ t ts n6, st' = [some (.ref p), some (.int (most : Int)), some (.int (lanes : Int)), some (.ref nq), some (.ref a), some (.ref t), n6, none, none, none] ∧ H' t = some (.lst (vtx ts)) ∧ t ≠ p ∧ Names ts ∧ ts.length ≤ lanes ∧ min lanes 8 ≤ ts.length ∧ Pl B p (n + 102) H', ?_, ?_⟩
    · refine ⟨_, rfl, p, 3, Wo H4 p, _, rfl, by omega, by omega, hP4.re, by omega, fun r H5 r0 r1 hP5 => ?_⟩
      have P5 := hP4.back hP5
      have ht5 : H5 t = some (.lst (vtx ts)) := hP5.ex _ _ (wo_at ht4 tp)
      refine ⟨rfl, _, rfl, ?_⟩
      refine ite2 (fun _ => ?_) (fun _ => ?_)
      · refine ⟨_, rfl, nq, vtx xs, rfl, sq_of (P5.ex _ _ hBq), fun r6 n6 => ?_⟩
        have P6 := P5.new n6 (o := .lst (vtx xs).reverse)
        have e6 : Ex H5 (upd H5 r6 (.lst (vtx xs).reverse)) := Ex.new n6
        have key := el_lcL (K := K) (σ := [some (.ref p), some (.int (most : Int)), some (.int (lanes : Int)), some (.ref nq), some (.ref a), some (.ref t), none, none, none, none]) (H := upd H5 r6 (.lst (vtx xs).reverse)) (a := t) (xs := vtx ts) (tl := tVar 5) (j := 6) (vs := [6]) (t := tTest (tOp (rIn K true) (tVar 6) (tVar 3))) (te := tVar 6)
          (fun i => !decide (ts.getD i [] ∈ xs)) (fun i => V.str (tx (ts.getD i []))) (ev_var rfl) (sq_of (e6 _ _ ht5)) (by rw [vtx_len]; omega) (fun _ => rfl) (fun i x H7 e7 hx => ?_) (fun i x H7 e7 hx _ => ?_)
        · rw [vtx_len, given_filter ts (fun l => !decide (l ∈ xs)) ts.length (Nat.le_refl _), List.take_length] at key
          refine key _ (Ex.refl _) _ fun r8 H8 n8 e8 h8 => ?_
          refine ⟨r6, r8, (vtx xs).reverse, _, rfl, rfl, e8 _ _ upd_same, h8, sz_of (by
            have := List.length_filter_le (fun l => !decide (l ∈ xs)) ts
            rw [List.length_reverse, vtx_len, vtx_len]
            omega), fun r9 n9 => ?_⟩
          refine ⟨_, rfl, (lanes : Int), rfl, r9, _, rfl, sq_of upd_same, fun r10 n10 => ?_⟩
          rw [cutV0]
          have e10 : ((vtx xs).reverse ++ vtx (ts.filter fun l => !decide (l ∈ xs))).take lanes = vtx ((xs.reverse ++ ts.filter fun l => !decide (l ∈ xs)).take lanes) := by
            rw [show (vtx xs).reverse = vtx xs.reverse from List.map_reverse.symm, ← vtx_app, vtx_take]
          rw [e10]
          have P9 := ((P6.grow e8).new n9 (o := .lst ((vtx xs).reverse ++ vtx (ts.filter fun l => !decide (l ∈ xs)))))
          refine ⟨r10, _, none, rfl, upd_same, P9.ne n10, names_take (names_mix hN hNt) lanes, by rw [List.length_take]; omega, ?_, (P9.new n10).cnt (by omega)⟩
          rw [List.length_take, List.length_append, List.length_reverse]
          omega
        · unfold vtx at hx
          rw [List.getElem?_map] at hx
          obtain ⟨l, hl, rfl⟩ := Option.map_eq_some_iff.mp hx
          have el : ts.getD i [] = l := by rw [List.getD_eq_getElem?_getD, hl]; rfl
          have := et_test (ev_op (σ := (wipe [some (.ref p), some (.int (most : Int)), some (.int (lanes : Int)), some (.ref nq), some (.ref a), some (.ref t), none, none, none, none] [6]).set 6 (some (.str (tx l)))) (H := H7) (ta := tVar 6) (tb := tVar 3) (ev_var rfl) (ev_var rfl) (rv_inL (K := K) (neg := true) (sq_of (e7 _ _ (P6.ex _ _ hBq))) rfl (flat_vtx xs)))
          rw [if_pos rfl, inV_vtx] at this
          show EvT _ _ _ (!decide (ts.getD i [] ∈ xs))
          rw [el]
          exact this
        · unfold vtx at hx
          rw [List.getElem?_map] at hx
          obtain ⟨l, hl, rfl⟩ := Option.map_eq_some_iff.mp hx
          have el : ts.getD i [] = l := by rw [List.getD_eq_getElem?_getD, hl]; rfl
          show Ev _ _ _ (V.str (tx (ts.getD i [])))
          rw [el]
          exact ev_var rfl
      · exact ⟨t, ts, none, rfl, ht5, tp, hNt, by omega, by omega, P5.cnt (by omega)⟩
    rintro _ H6 ⟨t, ts, n6, rfl, ht6, tp, hNt, hlt, hmin, P6⟩
    -- found = []
    refine s_seq ?_
    refine ⟨by show 0 ≤ sizeLine; omega, fun fd nfd => ?_⟩
    have fdB : B fd = none := fresh_back P6.ex nfd
    have fdp : fd ≠ p := P6.ne nfd
    have tfd : t ≠ fd := fun z => by rw [← z, ht6] at nfd; cases nfd
    have P7 := P6.new nfd (o := .lst [])
    have ht7 : (upd H6 fd (.lst [])) t = some (.lst (vtx ts)) := (upd_ne tfd).trans ht6
    have hf7 : (upd H6 fd (.lst [])) fd = some (.lst (([] : List Row).map fun r => V.ref r.1)) := upd_same
    generalize upd H6 fd (.lst []) = H7 at P7 ht7 hf7
    dsimp only
    refine ⟨fun st' H' => ∃ (rs : List Row) (n6 n8 : Option V), st' = [some (.ref p), some (.int (most : Int)), some (.int (lanes : Int)), some (.ref nq), some (.ref a), some (.ref t), n6, some (.ref fd), n8, none] ∧ H' t = some (.lst (vtx ts)) ∧ H' fd = some (.lst (rs.map fun r => V.ref r.1)) ∧ (∀ r ∈ rs, RowAt H' r) ∧ rs.map (fun r => r.2.1) = ts.take rs.length ∧ (∀ r ∈ rs, r.2.2.1 ∈ ps ∧ r.2.2.2 ∈ ps) ∧ rs.length ≤ ts.length ∧ Pl B p (n + 103) H', ?_, ?_⟩
    · refine ⟨_, rfl, by show 0 ≤ sizeLine; omega, fun e0 ne0 => ?_⟩
      have P8 := P7.new ne0 (o := .lst [])
      have e8 : Ex H7 (upd H7 e0 (.lst [])) := Ex.new ne0
      refine ⟨.list (Vr.dtx ps), .list [], .lst (sq_of (P8.ex _ _ hBa)) (Vr.dpa_vtx ps), .lst (sq_of upd_same) .nil, sh_wl hps.1, by decide +kernel, _, rfl, ?_⟩
      rw [ne_nil]
      cases hem : ps.isEmpty with
      | true =>
        refine if_f (by decide) ?_
        refine if_f Bool.false_ne_true ?_
        exact ⟨[], n6, none, rfl, e8 _ _ ht7, e8 _ _ hf7, (fun r h => nomatch h), rfl, (fun r h => nomatch h), Nat.zero_le _, P8.cnt (by omega)⟩
      | false =>
        have hp1 : 1 ≤ ps.length := by
          cases ps with
          | nil => cases hem
          | cons x r => rw [List.length_cons]; omega
        refine if_t rfl ?_
        have fde : fd ≠ e0 := fun z => by rw [← z, hf7] at ne0; cases ne0
        have te : t ≠ e0 := fun z => by rw [← z, ht7] at ne0; cases ne0
        refine ⟨_, rfl, p, 2, Wo _ p, _, rfl, by omega, by omega, P8.re, by omega, fun r H9 r0 r1 hP9 => ?_⟩
        have P9 := P8.back hP9
        have ht9 : H9 t = some (.lst (vtx ts)) := hP9.ex _ _ (wo_at (e8 _ _ ht7) tp)
        have hf9 := hP9.ex _ _ (wo_at (e8 _ _ hf7) fdp)
        refine ⟨rfl, _, rfl, ?_⟩
        refine ite2 (fun _ => ?_) (fun _ => ?_)
        · refine s_forR1 (n := ((min lanes ps.length : Nat) : Int)) (ea_cons (ev_is (ev_cb (z := .int (if (ps.length : Int) < (lanes : Int) then (ps.length : Int) else (lanes : Int))) (ea_cons (ev_var rfl) (ea_cons (ev_cb (z := .int (ps.length : Nat)) (ea_cons (ev_var rfl) ea_nil) (fun H1 e1 Q q => ⟨_, ps.length, rfl, .inl ⟨vtx ps, sq_of (e1 _ _ (P9.ex _ _ hBa)), (vtx_len ps).symm⟩, q H1 (Ex.refl H1)⟩)) ea_nil)) (fun H1 e1 Q q => ⟨_, _, rfl, q H1 (Ex.refl H1)⟩)) (congrArg V.int (by split <;> omega))) ea_nil) (by omega)
            (fun i st' H' => ∃ (rs : List Row) (n8 : Option V), st' = [some (.ref p), some (.int (most : Int)), some (.int (lanes : Int)), some (.ref nq), some (.ref a), some (.ref t), n6, some (.ref fd), n8, none] ∧ H' t = some (.lst (vtx ts)) ∧ H' fd = some (.lst (rs.map fun r => V.ref r.1)) ∧ (∀ r ∈ rs, RowAt H' r) ∧ rs.map (fun r => r.2.1) = ts.take i ∧ (∀ r ∈ rs, r.2.2.1 ∈ ps ∧ r.2.2.2 ∈ ps) ∧ rs.length = i ∧ Pl B p (n + 103) H')
            (fun H1 e1 => ⟨[], none, rfl, e1 _ _ ht9, e1 _ _ hf9, (fun r h => nomatch h), rfl, (fun r h => nomatch h), rfl, (P9.grow e1).cnt (by omega)⟩) ?_ ?_
          · rintro i _ HA hi ⟨rs, n8, rfl, htA, hfA, hrA, hnm, hin, hlen, PA⟩
            have hi1 : i < ts.length := by omega
            have hi2 : i < ps.length := by omega
            have hi3 : (i + 1) % ps.length < ps.length := Nat.mod_lt _ (by omega)
            refine ⟨_, rfl, Or.inl ⟨rfl, _, sq_of hfA⟩, ?_⟩
            refine ⟨_, rfl, _, rfl, t, vtx ts, _, _, rfl, rfl, sq_of htA, at_of rfl (vtx_at (List.getElem?_eq_getElem hi1)), ?_⟩
            refine ⟨_, rfl, _, rfl, a, vtx ps, _, _, rfl, rfl, sq_of (PA.ex _ _ hBa), at_of rfl (vtx_at (List.getElem?_eq_getElem hi2)), ?_⟩
            refine ⟨_, rfl, _, rfl, (i : Int), 1, rfl, rfl, _, rfl, .ref a, ps.length, rfl, .inl ⟨vtx ps, sq_of (PA.ex _ _ hBa), (vtx_len ps).symm⟩, _, (ps.length : Int), rfl, rfl, by omega, a, vtx ps, _, _, rfl, rfl, sq_of (PA.ex _ _ hBa), at_of (j := (i + 1) % ps.length) (by rw [Int.natCast_emod, Int.natCast_add]; rfl) (vtx_at (List.getElem?_eq_getElem hi3)), ?_⟩
            refine ⟨by show 3 ≤ sizeLine; decide, fun tt ntt => ?_⟩
            have eT := Ex.new (H := HA) (o := .tup [.str (tx ts[i]), .str (tx ps[i]), .str (tx ps[(i + 1) % ps.length])]) ntt
            have PT := PA.new ntt (o := .tup [.str (tx ts[i]), .str (tx ps[i]), .str (tx ps[(i + 1) % ps.length])])
            have htt := (upd_same (H := HA) (a := tt) (o := .tup [.str (tx ts[i]), .str (tx ps[i]), .str (tx ps[(i + 1) % ps.length])]))
            refine ⟨fd, _, _, rfl, rfl, eT _ _ hfA, sz_lt (by rw [List.length_map]; omega), ?_⟩
            have ftt : tt ≠ fd := fun z => by rw [z, hfA] at ntt; cases ntt
            refine ⟨rs ++ [(tt, (ts[i], ps[i], ps[(i + 1) % ps.length]))], some (.int (i : Int)), rfl, (upd_ne tfd).trans (eT _ _ htA), ?_, ?_, ?_, ?_, ?_, ?_⟩
            · rw [upd_same, List.map_append]
              rfl
            · intro r hr
              rcases List.mem_append.mp hr with hr | hr
              · exact rows_upd (rows_mono eT hrA) (eT _ _ hfA) r hr
              · rw [List.mem_singleton.mp hr]
                exact (upd_ne ftt).trans htt
            · rw [List.map_append, hnm, List.take_succ, List.getElem?_eq_getElem hi1]
              rfl
            · intro r hr
              rcases List.mem_append.mp hr with hr | hr
              · exact hin r hr
              · rw [List.mem_singleton.mp hr]
                exact ⟨List.getElem_mem hi2, List.getElem_mem hi3⟩
            · rw [List.length_append, List.length_singleton, hlen]
            · refine ⟨PT.no, Ex.mut PT.ex fdB, ?_⟩
              obtain ⟨a', b', c', w1, w2⟩ := PT.at_
              exact ⟨a', b', c', by rw [upd_ne fdp.symm]; exact w1, w2⟩
          · rintro _ HA ⟨rs, n8, rfl, htA, hfA, hrA, hnm, hin, hlen, PA⟩
            have e1 : (((min lanes ps.length : Nat) : Int)).toNat = min lanes ps.length := by omega
            rw [e1] at hlen hnm
            exact ⟨rs, n6, n8, rfl, htA, hfA, hrA, by rw [hnm, hlen], hin, by omega, PA⟩
        · exact ⟨[], n6, none, rfl, ht9, hf9, (fun r h => nomatch h), rfl, (fun r h => nomatch h), Nat.zero_le _, P9.cnt (by omega)⟩
    rintro _ H8 ⟨rs, n6', n8, rfl, ht8, hf8, hr8, hnm8, hin8, hlen8, P8⟩
    have k0 : rs.length ≤ ts.length := hlen8
    generalize hk0 : rs.length = k at k0
    refine ⟨fun st' H' => ∃ (rs : List Row) (n6 n8 n9 : Option V), st' = [some (.ref p), some (.int (most : Int)), some (.int (lanes : Int)), some (.ref nq), some (.ref a), some (.ref t), n6, some (.ref fd), n8, n9] ∧ H' fd = some (.lst (rs.map fun r => V.ref r.1)) ∧ (∀ r ∈ rs, RowAt H' r) ∧ (rs.map fun r => r.2.1).Sublist ts ∧ (∀ r ∈ rs, r.2.2.1 ∈ ps ∧ r.2.2.2 ∈ ps) ∧ Pl B p (n + 300) H', ?_, ?_⟩
    · refine ⟨_, rfl, _, rfl, .ref fd, rs.length, rfl, .inl ⟨_, sq_of hf8, (List.length_map _).symm⟩, (rs.length : Int), rfl, t, vtx ts, rfl, sq_of ht8, fun r nr => ?_⟩
      rw [cutV1, vtx_drop, hk0]
      have rp : r ≠ p := P8.ne nr
      have rf : r ≠ fd := fun z => by rw [z, hf8] at nr; cases nr
      have e9 := Ex.new (o := .lst (vtx (ts.drop k))) nr
      have keep : ∀ {m m' : Nat} {HX HY : Hp} {R F : HO} {rs : List Row}, Pl B p m HX → Pl (Wo HX p) p m' HY → HX r = some R → HX fd = some F → (∀ r ∈ rs, RowAt HX r) → Pl B p m' HY ∧ HY r = some R ∧ HY fd = some F ∧ ∀ r ∈ rs, RowAt HY r :=
        fun P P' h1 h2 h3 => ⟨P.back P', P'.ex _ _ (wo_at h1 rp), P'.ex _ _ (wo_at h2 fdp), rows_mono P'.ex (rows_wo P h3)⟩
      refine ⟨r, rfl, ⟨_, sq_of upd_same⟩, for_list (xs := vtx (ts.drop k)) (fun i st' H' => ∃ (rs : List Row) (n6 n8 n9 : Option V), st' = [some (.ref p), some (.int (most : Int)), some (.int (lanes : Int)), some (.ref nq), some (.ref a), some (.ref t), n6, some (.ref fd), n8, n9] ∧ H' r = some (.lst (vtx (ts.drop k))) ∧ H' fd = some (.lst (rs.map fun r => V.ref r.1)) ∧ (∀ r ∈ rs, RowAt H' r) ∧ (rs.map fun r => r.2.1).Sublist (ts.take (k + i)) ∧ (∀ r ∈ rs, r.2.2.1 ∈ ps ∧ r.2.2.2 ∈ ps) ∧ Pl B p (n + 103 + 3 * i) H')
        ⟨rs, n6', n8, none, rfl, upd_same, e9 _ _ hf8, rows_mono e9 hr8, by rw [hnm8, hk0]; exact List.Sublist.refl _, hin8, P8.new nr⟩ (fun i st' H' _ ⟨_, _, _, _, _, z, _⟩ => sq_of z) ?_ ?_⟩
      · rintro i x _ HA hx ⟨rs, n6, n8, n9, rfl, hrA, hfA, hwA, hsub, hin, PA⟩
        have hx2 : ∃ l, ts[k + i]? = some l ∧ x = V.str (tx l) := by
          unfold vtx at hx
          rw [List.getElem?_map, List.getElem?_drop] at hx
          obtain ⟨l, hl, e⟩ := Option.map_eq_some_iff.mp hx
          exact ⟨l, hl, e.symm⟩
        obtain ⟨l, hl, rfl⟩ := hx2
        have hki := (List.getElem?_eq_some_iff.mp hl).1
        have tk : ts.take (k + (i + 1)) = ts.take (k + i) ++ [l] := by
          rw [show k + (i + 1) = k + i + 1 by omega, List.take_succ, hl]
          rfl
        have sub1 : (rs.map fun r => r.2.1).Sublist (ts.take (k + (i + 1))) := by
          rw [tk]
          exact hsub.trans (List.sublist_append_left _ _)
        refine ⟨_, rfl, by show 0 ≤ sizeLine; omega, fun e0 ne0 => ?_⟩
        have eB := Ex.new (o := .lst []) ne0
        have PB := PA.new ne0 (o := .lst [])
        refine ⟨.list (Vr.dtx ps), .list [], .lst (sq_of (PB.ex _ _ hBa)) (Vr.dpa_vtx ps), .lst (sq_of upd_same) .nil, sh_wl hps.1, by decide +kernel, _, rfl, ?_⟩
        rw [ne_nil]
        cases hem : ps.isEmpty with
        | true =>
          refine if_f (by decide) ?_
          refine if_f Bool.false_ne_true ?_
          exact ⟨rs, _, n8, n9, rfl, eB _ _ hrA, eB _ _ hfA, rows_mono eB hwA, sub1, hin, PB.cnt (by omega)⟩
        | false =>
          have hp1 : 1 ≤ ps.length := by
            cases ps with
            | nil => cases hem
            | cons x r => rw [List.length_cons]; omega
          refine if_t rfl ?_
          have hrB := eB _ _ hrA
          have hfB := eB _ _ hfA
          have hwB := rows_mono eB hwA
          generalize upd HA e0 (.lst []) = HB at eB PB hrB hfB hwB
          refine ⟨_, rfl, p, 4, Wo HB p, _, rfl, by omega, by omega, PB.re, by omega, fun r1 HC r10 r11 hPC => ?_⟩
          obtain ⟨PC, hrC, hfC, hwC⟩ := keep PB hPC hrB hfB hwB
          refine ⟨r1, 0, rfl, rfl, _, rfl, ?_⟩
          refine ite2 (fun _ => ?_) (fun _ => ?_)
          · refine ⟨_, rfl, _, rfl, _, rfl, .ref a, ps.length, rfl, .inl ⟨vtx ps, sq_of (PC.ex _ _ hBa), (vtx_len ps).symm⟩, p, (ps.length : Int), Wo HC p, _, rfl, by omega, by omega, PC.re, by omega, fun r2 HD r20 r21 hPD => ?_⟩
            obtain ⟨PD, hrD, hfD, hwD⟩ := keep PC hPD hrC hfC hwC
            obtain ⟨k2, rfl⟩ := Int.eq_ofNat_of_zero_le r20
            have h2 : k2 < ps.length := by omega
            refine ⟨a, vtx ps, _, _, rfl, rfl, sq_of (PD.ex _ _ hBa), at_of rfl (vtx_at (List.getElem?_eq_getElem h2)), ?_⟩
            dsimp only
            refine ⟨_, rfl, Or.inl ⟨rfl, _, sq_of hfD⟩, ?_⟩
            refine ⟨_, rfl, _, rfl, _, rfl, _, rfl, _, rfl, .ref a, ps.length, rfl, .inl ⟨vtx ps, sq_of (PD.ex _ _ hBa), (vtx_len ps).symm⟩, p, (ps.length : Int), Wo HD p, _, rfl, by omega, by omega, PD.re, by omega, fun r3 HE r30 r31 hPE => ?_⟩
            obtain ⟨PE, hrE, hfE, hwE⟩ := keep PD hPE hrD hfD hwD
            obtain ⟨k3, rfl⟩ := Int.eq_ofNat_of_zero_le r30
            have h3 : k3 < ps.length := by omega
            refine ⟨a, vtx ps, _, _, rfl, rfl, sq_of (PE.ex _ _ hBa), at_of rfl (vtx_at (List.getElem?_eq_getElem h3)), ?_⟩
            refine ⟨by show 3 ≤ sizeLine; decide, fun tt ntt => ?_⟩
            have eT := Ex.new (H := HE) (o := .tup [.str (tx l), .str (tx ps[k2]), .str (tx ps[k3])]) ntt
            have PT := PE.new ntt (o := .tup [.str (tx l), .str (tx ps[k2]), .str (tx ps[k3])])
            have htt := (upd_same (H := HE) (a := tt) (o := .tup [.str (tx l), .str (tx ps[k2]), .str (tx ps[k3])]))
            have hlen : rs.length ≤ 26 := by
              have := hsub.length_le
              rw [List.length_map, List.length_take] at this
              omega
            refine ⟨fd, _, _, rfl, rfl, eT _ _ hfE, sz_lt (by rw [List.length_map]; omega), ?_⟩
            have ftt : tt ≠ fd := fun z => by rw [z, hfE] at ntt; cases ntt
            refine ⟨rs ++ [(tt, (l, ps[k2], ps[k3]))], some (.str (tx l)), n8, _, rfl, (upd_ne rf).trans (eT _ _ hrE), ?_, ?_, ?_, ?_, ?_⟩
            · rw [upd_same, List.map_append]
              rfl
            · intro r hr
              rcases List.mem_append.mp hr with hr | hr
              · exact rows_upd (rows_mono eT hwE) (eT _ _ hfE) r hr
              · rw [List.mem_singleton.mp hr]
                exact (upd_ne ftt).trans htt
            · rw [List.map_append, tk]
              exact List.Sublist.append hsub (List.Sublist.refl _)
            · intro r hr
              rcases List.mem_append.mp hr with hr | hr
              · exact hin r hr
              · rw [List.mem_singleton.mp hr]
                exact ⟨List.getElem_mem h2, List.getElem_mem h3⟩
            · have PT2 := PT.cnt (show n + 103 + 3 * i + 1 + 1 + 1 ≤ n + 103 + 3 * (i + 1) by omega)
              refine ⟨PT2.no, Ex.mut PT2.ex fdB, ?_⟩
              obtain ⟨a', b', c', w1, w2⟩ := PT2.at_
              exact ⟨a', b', c', by rw [upd_ne fdp.symm]; exact w1, w2⟩
          · exact ⟨rs, _, n8, n9, rfl, hrC, hfC, hwC, sub1, hin, PC.cnt (by omega)⟩
      · rintro _ HA ⟨rs, n6, n8, n9, rfl, hrA, hfA, hwA, hsub, hin, PA⟩
        have hd : (vtx (ts.drop k)).length ≤ 26 := by
          rw [vtx_len, List.length_drop]
          omega
        exact ⟨rs, n6, n8, n9, rfl, hfA, hwA, hsub.trans (List.take_sublist _ _), hin, PA.cnt (by omega)⟩
    rintro _ H9 ⟨rs, n6, n8, n9, rfl, hf9, hr9, hsub, hin9, P9⟩
    have hlen : rs.length ≤ lanes := by
      have := hsub.length_le
      rw [List.length_map] at this
      omega
    have hrow : ∀ (rs' : List Row), rs'.Perm rs → RowsOk ps rs' := fun rs' hp => by
      have hn := names_sub hNt hsub
      refine ⟨⟨fun l hl => hn.1 l ((hp.map _).subset hl), (hp.map _).nodup_iff.mpr hn.2⟩, fun r hr => hin9 r (hp.subset hr)⟩
    refine ⟨_, rfl, _, rfl, _, rfl, p, fd, rs.map (fun r => V.ref r.1), Wo H9 p, _, rfl, P9.re, by omega, wo_at hf9 fdp, by rw [List.length_map]; omega, fun b ys HE nb hPE hb hperm => ?_⟩
    obtain ⟨rs', e, hp'⟩ := perm_map hperm
    have PE := P9.back hPE
    have hr' : ∀ r ∈ rs', RowAt HE r := fun r hr => rows_mono hPE.ex (rows_wo P9 hr9) r (hp'.subset hr)
    refine ⟨by show 2 ≤ sizeLine; decide, fun d nd => ?_⟩
    have eF := Ex.new (o := .lst [.ref a, .ref b]) nd
    have ab : a ≠ b := fun z => by
      have := P9.ex _ _ hBa
      rw [z, nb] at this
      cases this
    have PF := fin (PE.new nd (o := .lst [.ref a, .ref b]))
    refine q d a b ps rs' _ (fresh_wo hp0 (fin PE) nd) (hp0.back (PF.cnt (by omega))) upd_same (eF _ _ (PE.ex _ _ hBa)) (by rw [eF _ _ hb, e]) ab hps hpl (by rw [hp'.length_eq]; exact hlen) (hrow rs' hp') (rows_mono eF hr')
end
end K05

set_option Elab.async false
set_option linter.all false
set_option maxRecDepth 100000
set_option maxHeartbeats 4000000
namespace K05
open PySem PySem.Spec PyProof.Rows L2 Vl Evl Vp Vx2
abbrev sIsName : Stmt := top 14
abbrev sChkN : Stmt := top 15
/-- is_name, of a name -/
def spIsName : Sp := fun vs H Q _ => ∃ l, vs = [.str (tx l)] ∧ ((nam l ∧ ∀ H', Ex H H' → Q (.bl true) H') ∨ (l = [65] ∧ Q (.bl false) H))
theorem ifT {c A B : Prop} [Decidable c] (h : c) (a : A) : if c then A else B := by
  rw [if_pos h]
  exact a
theorem ifF {c A B : Prop} [Decidable c] (h : ¬ c) (b : B) : if c then A else B := by
  rw [if_neg h]
  exact b
section
variable {P : Program} {w : World} {K : PySem.W.Frag} {mg : Str → Option Value} {base : Heap}
abbrev nIN : List Str := ["value", "sign"]
theorem scIN : FnScope nIN ["value"] (defScope sIsName) := ⟨rfl, rfl, rfl, by decide +kernel, rfl, by decide +kernel, by decide +kernel⟩
theorem ok_isname {f : Addr} {fd : FuncData} (F : FnP K "is_name" sIsName f fd) (mI : mg "isinstance" = none) (mS : mg "str" = none) (mL : mg "len" = none) (mA : mg "all" = none)
    (gL : ∃ t, mg "LETTERS" = some (.str (tx letters) t)) (gD : ∃ t, mg "DIGITS" = some (.str (tx digits) t)) (gO : ∃ t, mg "LONGEST" = some (.int 8 t)) :
    FnOk P w K mg base CX0 1 f fd ["value"] spIsName := by
  obtain ⟨tL, gL⟩ := gL
  obtain ⟨tD, gD⟩ := gD
  obtain ⟨tO, gO⟩ := gO
  refine F.ok (CX := CX0) scIN (fun vs H Q E h => ?_) (fun cdv A outer s H vs Q E hr h => ?_)
  · obtain ⟨l, rfl, _⟩ := h
    rfl
  · refine ⟨_, (pss_cons (ps_if (PW.pt (pw_or (pt_not (pt_val (pe_callB call_isi (by rfl) mI boot_isinstance (pa_cons (pv 0) (pa_cons (pe_bltn (v := V.ty "str") (by rfl) mS boot_str rfl) pa_nil)))))
        (pw_or1 (pt_not (pt_chain op_le op_le pe_int (pe_callB call_len (by rfl) mL boot_len (pa_cons (pv 0) pa_nil)) (pe_glob (v := V.int 8) (by rfl) gO ⟨tO, rfl⟩)))))) (pss_one (ps_ret pe_bl)) pss_nil)
      (pss_one (ps_ret (pe_and (pe_cmpR op_inS (pe_ix ix_str (pv 0) pe_int fun _ _ => rfl) (pe_glob (v := V.str (tx letters)) (by rfl) gL ⟨tL, rfl⟩) rfl)
        (pe_one (pe_callB (cr_all rfl) (by rfl) mA boot_all (pa_cons (pe_lc (own := [("sign", 1)]) (g := gName 1) (tt := tYes) (te := tOp rInS (tVar 1) (tOp rCatS (tC (.str (tx letters))) (tC (.str (tx digits))))) rfl scIN.nd (pi_str (pv 0)) (blkOk_by (own := [("sign", 1)]) (N := nIN) (sc := defScope sIsName) (by decide +kernel)) (fun _ _ _ _ _ => (pg_name (i := 1) scIN.nd rfl (by first | exact Or.inl rfl | exact Or.inr rfl))) (fun _ _ _ _ _ => pts_nil)
          (fun _ _ _ _ _ => pe_cmpR op_inS (pv 1) (pe_op op_add_str (pe_glob (v := V.str (tx letters)) (by rfl) gL ⟨tL, rfl⟩) (pe_glob (v := V.str (tx digits)) (by rfl) gD ⟨tD, rfl⟩)) rfl)) pa_nil))))))), ?_⟩
    obtain ⟨l, rfl, h⟩ := h
    rcases h with ⟨hl, q⟩ | ⟨rfl, q⟩
    · skip
      have hll := nam_len hl
      have hs : (tx l).length = l.length := tx_len l
      refine s_seq ?_
      refine ⟨_, rfl, V.str (tx l), V.ty "str", .type "str", .type "str", true, rfl, .ty _, .base (.str _), kit_ty (by decide +kernel), true, rfl, ?_⟩
      refine ifF Bool.false_ne_true ?_
      refine ⟨_, rfl, _, (tx l).length, rfl, ⟨sz_of (by omega), rfl⟩, 1, _, rfl, rfl, _, rfl, ?_⟩
      refine ifT (decide_eq_true (by omega)) ?_
      refine ⟨_, _, rfl, rfl, _, rfl, ?_⟩
      refine ifF (by rw [decide_eq_true (show ((tx l).length : Int) ≤ 8 by omega)]; decide) ?_
      obtain ⟨c0, r0, rfl, hc, hr0, h7⟩ := id hl
      refine ⟨_, rfl, tx (c0 :: r0), 0, c0, rfl, rfl, sz_of (by omega), text_at (zs := c0 :: r0) (j := 0) (Nat.succ_pos _), _, _, rfl, rfl, _, rfl, ?_⟩
      refine ifT (decide_eq_true (by exact hc)) ?_
      refine ⟨_, rfl, tx (c0 :: r0), rfl, fun Dl hD => ?_⟩
      refine lc_it walk_str (fun i H' => H' = upd H Dl (.lst ((List.replicate i true).map V.bl))) rfl (fun _ _ _ _ => trivial) ?_ ?_
      · rintro i x H2 H3 hi rfl ⟨rfl, c, hcc, rfl⟩
        have hcm : c ∈ c0 :: r0 := by
          rw [← Array.getElem?_toList] at hcc
          exact List.mem_of_getElem? hcc
        refine ⟨rfl, ?_⟩
        unfold tYes
        dsimp only
        rw [if_pos rfl]
        refine ⟨_, rfl, tx letters, tx digits, rfl, rfl, by decide +kernel, c, _, rfl, rfl, (List.replicate i true).map V.bl, upd_same, ?_, ?_⟩
        · refine sz_lt ?_
          rw [List.length_map, List.length_replicate]
          have : (tx (c0 :: r0)).cps.size = (c0 :: r0).length := rfl
          omega
        · rw [tx_app, tx_list, decide_eq_true (show c ∈ letters ++ digits from nam_signs hl c hcm), upd_upd, List.replicate_succ', List.map_append]
          rfl
      · rintro H2 rfl
        refine ⟨Dl, List.replicate _ true, rfl, sq_of upd_same, ?_⟩
        rw [show (List.replicate ((tx (c0 :: r0)).cps.size) true).all id = true from List.all_eq_true.mpr fun b hb => (List.mem_replicate.mp hb).2]
        exact q _ (Ex.new hD)
    · refine s_seq ?_
      refine ⟨_, rfl, V.str (tx [65]), V.ty "str", .type "str", .type "str", true, rfl, .ty _, .base (.str _), kit_ty (by decide +kernel), true, rfl, ?_⟩
      refine ifF Bool.false_ne_true ?_
      refine ⟨_, rfl, _, 1, rfl, ⟨by show 1 ≤ sizeLine; decide, rfl⟩, 1, _, rfl, rfl, _, rfl, ?_⟩
      refine ifT (by decide) ?_
      refine ⟨_, _, rfl, rfl, _, rfl, ?_⟩
      refine ifF (by decide) ?_
      refine ⟨_, rfl, tx [65], 0, 65, rfl, rfl, by show 1 ≤ sizeLine; decide, text_at (zs := [65]) (j := 0) (by decide), _, _, rfl, rfl, _, rfl, ?_⟩
      exact ifF (by decide +kernel) q
end
end K05

set_option Elab.async false
set_option linter.all false
set_option maxRecDepth 100000
set_option maxHeartbeats 4000000
namespace K05
open PySem PySem.Spec PyProof.Rows L2 Vl Evl Vp Vx2
/-- check_name: nothing for a name, the error for "A" -/
def spChkN (CN : Addr) : Sp := fun vs H Q E => ∃ l, vs = [.str (tx l)] ∧ ((nam l ∧ ∀ H', Ex H H' → Q .non H') ∨ (l = [65] ∧ RaisedF CN "name" H (.str (tx l)) E))
section
variable {P : Program} {w : World} {K : PySem.W.Frag} {mg : Str → Option Value} {base : Heap} {CN : Addr}
theorem scCN : FnScope ["value"] ["value"] (defScope sChkN) := ⟨rfl, rfl, rfl, by decide +kernel, rfl, by decide +kernel, by decide +kernel⟩
theorem ok_chkn {f fN : Addr} {fd fdN : FuncData} (F : FnP K "check_name" sChkN f fd) (FN : FnP K "is_name" sIsName fN fdN) (gN : mg "is_name" = some (.ref fN))
    (GN : FnOk P w K mg base CX0 1 fN fdN ["value"] spIsName) (EB : Err1 P w K mg base "BadName" "name" CN) :
    FnOk P w K mg base (L2.CX P w) 3 f fd ["value"] (spChkN CN) := by
  have bN : Binds K fdN ["value"] [] := FN.bindsN fun _ _ _ _ _ _ us hl => match us, hl with | [_], _ => rfl
  have kN := FN.kp
  obtain ⟨fE, fdE, iC, tI, bE, GE⟩ := EB.ini
  refine F.ok (CX := L2.CX P w) scCN (fun vs H Q E h => ?_) (fun cdv A outer s H vs Q E hr h => ?_)
  · obtain ⟨l, rfl, _⟩ := h
    rfl
  · have hr2 : Room 2 _ := hr
    have hr1 : Room 1 _ := hr.mono (by omega)
    refine ⟨_, (pss_one (ps_if (pt_not (pt_val (pe_call GN hr1 (by rfl) gN kN bN .nil pass0 (pa_cons (pv 0) pa_nil)))) (pss_one (ps_raise rfl (takes_of rfl rfl rfl rfl) (pmk_oex EB.T iC tI GE hr2 bE .nil pass0 (by rfl) EB.g (pa_cons (pv 0) pa_nil)))) pss_nil)), ?_⟩
    obtain ⟨l, rfl, h⟩ := h
    rcases h with ⟨hl, q⟩ | ⟨rfl, q⟩
    · exact ⟨_, rfl, l, rfl, .inl ⟨hl, fun H' e => ⟨true, rfl, ifF Bool.false_ne_true (q H' e)⟩⟩⟩
    · exact ⟨_, rfl, [65], rfl, .inr ⟨rfl, false, rfl, ifT rfl (raised_f (W := fun cls d _ H' => E cls d H') 0 rfl rfl q)⟩⟩
end
end K05

set_option Elab.async false
set_option linter.all false
set_option maxRecDepth 100000
set_option maxHeartbeats 4000000
namespace K05
open PySem PySem.Spec PyProof.Rows L2 Vl Evl Vp Vx2
def clB : Stmt → List Stmt
  | .ClassDef (body := b) .. => b
  | _ => []
/-- the i-th member of the class Net -/
def mem (i : Nat) : Stmt := (clB (top 17)).getD i (.Pass ⟨0, 0, 0, 0⟩)
abbrev FnM (K : PySem.W.Frag) (m q : Str) (st : Stmt) (f : Addr) (fd : FuncData) : Prop := FunD K m q (defArgs st) (defBody st) (defScope st) [] [] f fd
abbrev sPost : Stmt := mem 1
/-- the posts' dict, the lanes' dict -/
def dPosts (ps : List (List Nat)) : List (Key × V) := ps.map fun l => ((Sum.inr (tx l) : Key), V.bl true)
def dEnds (es : List Row) : List (Key × V) := es.map fun e => ((Sum.inr (tx e.2.1) : Key), V.ref e.1)
/-- a lane's ends -/
def EndAt (H : Hp) (e : Row) : Prop := H e.1 = some (.tup [.str (tx e.2.2.1), .str (tx e.2.2.2)])
/-- a net at o -/
structure NetAt (C : Addr) (H : Hp) (o dx dp de : Addr) (ps : List (List Nat)) (es : List Row) : Prop where
  at_ : H o = some (.ins C dx [("_posts", .ref dp), ("_ends", .ref de)])
  posts : H dp = some (.dK (dPosts ps))
  ends : H de = some (.dK (dEnds es))
  rows : ∀ e ∈ es, EndAt H e
theorem NetAt.mono {C : Addr} {H H' : Hp} {o dx dp de : Addr} {ps : List (List Nat)} {es : List Row} (e : Ex H H') (n : NetAt C H o dx dp de ps es) : NetAt C H' o dx dp de ps es :=
  ⟨e _ _ n.at_, e _ _ n.posts, e _ _ n.ends, fun r hr => e _ _ (n.rows r hr)⟩
theorem posts_val (ps : List (List Nat)) (l : List Nat) : (valV (dPosts ps) (Sum.inr (tx l) : Key)).isSome = decide (l ∈ ps) := by
  induction ps with
  | nil => rfl
  | cons x r ih =>
    unfold dPosts at *
    rw [List.map_cons]
    by_cases h : x = l
    · rw [valV_pos (by rw [h]), decide_eq_true (by rw [h]; exact List.mem_cons_self)]
      rfl
    · have hn : ¬ (Sum.inr (tx x) : Key) = Sum.inr (tx l) := fun z => h (tx_inj (Sum.inr.inj z))
      rw [valV_neg hn, ih]
      by_cases hm : l ∈ r
      · rw [decide_eq_true hm, decide_eq_true (List.mem_cons_of_mem _ hm)]
      · rw [decide_eq_false hm, decide_eq_false (fun z => (List.mem_cons.mp z).elim (fun e => h e.symm) hm)]
/-- net.post(name) -/
def spPost (C BN NT : Addr) : Sp := fun vs H Q E => ∃ (o dx dp de : Addr) (ps : List (List Nat)) (es : List Row) (l : List Nat), vs = [.ref o, .str (tx l)] ∧ NetAt C H o dx dp de ps es ∧ ps.length ≤ 1000 ∧
  ((nam l ∧ l ∉ ps ∧ ∀ H', Ex H H' → Q .non (upd H' dp (.dK (dPosts (ps ++ [l]))))) ∨ (nam l ∧ l ∈ ps ∧ RaisedF NT "name" H (.str (tx l)) E) ∨ (l = [65] ∧ RaisedF BN "name" H (.str (tx l)) E))
theorem RaisedF.grow {CN : Addr} {f : Str} {H H' : Hp} {y : V} {E : XK} (h : RaisedF CN f H y E) (e : Ex H H') : RaisedF CN f H' y E := fun d H2 e2 hd => h d H2 (e.trans e2) hd
section
variable {P : Program} {w : World} {K : PySem.W.Frag} {mg : Str → Option Value} {base : Heap} {C BN NT : Addr}
theorem scPo : FnScope ["self", "name"] ["self", "name"] (defScope sPost) := ⟨rfl, rfl, rfl, by decide +kernel, rfl, by decide +kernel, by decide +kernel⟩
theorem ok_post {f fN : Addr} {fd fdN : FuncData} (F : FnM K "post" "Net.post" sPost f fd) (c : Cls K C) (n1 : NoAttr K C "_posts") (FN : FnP K "check_name" sChkN fN fdN) (gN : mg "check_name" = some (.ref fN))
    (GN : FnOk P w K mg base (L2.CX P w) 3 fN fdN ["value"] (spChkN BN)) (ET : Err1 P w K mg base "NameTaken" "name" NT) :
    FnOk P w K mg base (L2.CX P w) 4 f fd ["self", "name"] (spPost C BN NT) := by
  have bN : Binds K fdN ["value"] [] := FN.bindsN fun _ _ _ _ _ _ us hl => match us, hl with | [_], _ => rfl
  have kN := FN.kp
  obtain ⟨fE, fdE, iC, tI, bE, GE⟩ := ET.ini
  refine F.ok (CX := L2.CX P w) scPo (fun vs H Q E h => ?_) (fun cdv A outer s H vs Q E hr h => ?_)
  · obtain ⟨o, dx, dp, de, ps, es, l, rfl, _⟩ := h
    rfl
  · have hr3 : Room 3 _ := hr
    have hr2 : Room 2 _ := hr.mono (by omega)
    refine ⟨_, (pss_cons (ps_expr (pe_callS (E := WE fun cls d _ H => E cls d H) GN hr3 (by rfl) gN kN bN (fun st => passAt (takes_of rfl rfl rfl rfl) st) (pa_cons (pv 1) pa_nil)))
      (pss_cons (ps_if (pt_cmp (pc_din (Nat.lt_of_le_of_lt (Nat.add_le_add_left (show 1 ≤ 64 by decide) _) hr.units) (pv 1) (pe_fld (pv 0) rfl))) (pss_one (ps_raise rfl (takes_of rfl rfl rfl rfl) (pmk_oex ET.T iC tI GE hr2 bE .nil pass0 (by rfl) ET.g (pa_cons (pv 1) pa_nil)))) pss_nil)
      (pss_one (ps_asg pe_bl (pg_sub (pe_fld (pv 0) rfl) (pv 1) (set_dict (Nat.lt_of_le_of_lt (Nat.add_le_add_left (show 1 ≤ 64 by decide) _) hr.units))))))), ?_⟩
    obtain ⟨o, dx, dp, de, ps, es, l, rfl, N, h1, h⟩ := h
    refine s_seq ?_
    have body : nam l → ∀ H', Ex H H' → ((l ∉ ps ∧ ∀ H', Ex H H' → Q .non (upd H' dp (.dK (dPosts (ps ++ [l]))))) ∨ (l ∈ ps ∧ RaisedF NT "name" H (.str (tx l)) E)) →
        tSeq (tIfS (tB (tDIn (tVar 1) (tFld K (tVar 0) "_posts"))) (tSeq (fun _ σ H => tMkO NT (spIni NT "name") [] (tCons (tVar 1) tNil) σ H fun cls d H' => E cls d H') tNext) tNext)
          (tSeq (tAsg (tC (.bl true)) (gSub (tFld K (tVar 0) "_posts") (tVar 1) rSetD)) tNext) { nx := fun _ H' => Q .non H', rt := Q } [some (.ref o), some (.str (tx l))] H' := by
      intro hl H1 e1 h
      have N1 := N.mono e1
      refine s_seq ?_
      refine ⟨_, rfl, _, rfl, o, C, dx, _, .ref dp, rfl, N1.at_, c, n1, rfl, dp, _, rfl, DGet.k (k := (Sum.inr (tx l) : Key)) N1.posts, _, rfl, ?_⟩
      rw [posts_val]
      rcases h with ⟨hm, q⟩ | ⟨hm, q⟩
      · refine if_f (by rw [decide_eq_false hm]; decide) ?_
        refine ⟨_, rfl, o, C, dx, _, .ref dp, rfl, N1.at_, c, n1, rfl, _, rfl, dp, _, rfl, DPut.k (k := (Sum.inr (tx l) : Key)) N1.posts (sz_lt (by unfold dPosts; rw [List.length_map]; omega)), ?_⟩
        have hv : valV (dPosts ps) (Sum.inr (tx l) : Key) = none := by
          have := posts_val ps l
          rw [decide_eq_false hm] at this
          exact Option.not_isSome_iff_eq_none.mp (by rw [this]; decide)
        rw [putK_new _ hv]
        have := q H1 e1
        unfold dPosts at *
        rw [List.map_append] at this
        exact this
      · refine if_t (by rw [decide_eq_true hm]) ?_
        exact raised_f (W := fun cls d _ H' => E cls d H') 1 rfl rfl (RaisedF.grow q e1)
    refine ⟨_, rfl, ?_⟩
    rcases h with ⟨hl, hm, q⟩ | ⟨hl, hm, q⟩ | ⟨rfl, q⟩
    · exact ⟨l, rfl, .inl ⟨hl, fun H' e => body hl H' e (.inl ⟨hm, q⟩)⟩⟩
    · exact ⟨l, rfl, .inl ⟨hl, fun H' e => body hl H' e (.inr ⟨hm, q⟩)⟩⟩
    · exact ⟨[65], rfl, .inr ⟨rfl, q⟩⟩
end
end K05

set_option Elab.async false
set_option linter.all false
set_option maxRecDepth 100000
set_option maxHeartbeats 4000000
namespace K05
open PySem PySem.Spec PyProof.Rows L2 Vl Evl Vp Vx2
abbrev sPosts : Stmt := mem 4
abbrev sLanes : Stmt := mem 5
abbrev sHas : Stmt := mem 11
abbrev sNLen : Stmt := mem 13
theorem keys_posts (ps : List (List Nat)) : ((dPosts ps).map fun kv => kV kv.1) = vtx ps := by
  unfold dPosts vtx
  rw [List.map_map]
  rfl
theorem keys_ends (es : List Row) : ((dEnds es).map fun kv => kV kv.1) = vtx (es.map fun e => e.2.1) := by
  unfold dEnds vtx
  rw [List.map_map, List.map_map]
  rfl
/-- net.posts, net.lanes: new tuples -/
def spPosts (C : Addr) : Sp := fun vs H Q _ => ∃ (o dx dp de : Addr) (ps : List (List Nat)) (es : List Row), vs = [.ref o] ∧ NetAt C H o dx dp de ps es ∧ ∀ t, H t = none → Q (.ref t) (upd H t (.tup (vtx ps)))
def spLanes (C : Addr) : Sp := fun vs H Q _ => ∃ (o dx dp de : Addr) (ps : List (List Nat)) (es : List Row), vs = [.ref o] ∧ NetAt C H o dx dp de ps es ∧ ∀ t, H t = none → Q (.ref t) (upd H t (.tup (vtx (es.map fun e => e.2.1))))
def spNLen (C : Addr) : Sp := fun vs H Q _ => ∃ (o dx dp de : Addr) (ps : List (List Nat)) (es : List Row), vs = [.ref o] ∧ NetAt C H o dx dp de ps es ∧ Q (.int (es.length : Nat)) H
section
variable {P : Program} {w : World} {K : PySem.W.Frag} {mg : Str → Option Value} {base : Heap} {C : Addr}
theorem scPs : FnScope ["self"] ["self"] (defScope sPosts) := ⟨rfl, rfl, rfl, by decide +kernel, rfl, by decide +kernel, by decide +kernel⟩
theorem ok_posts {f : Addr} {fd : FuncData} (F : FnM K "posts" "Net.posts" sPosts f fd) (c : Cls K C) (n1 : NoAttr K C "_posts") (mT : mg "tuple" = none) : FnOk P w K mg base CX0 1 f fd ["self"] (spPosts C) := by
  refine F.ok (CX := CX0) scPs (fun vs H Q E h => ?_) (fun cdv A outer s H vs Q E hr h => ?_)
  · obtain ⟨o, dx, dp, de, ps, es, rfl, _⟩ := h
    rfl
  · refine ⟨_, pss_one (ps_ret (pe_callTy (Vd.call_tupleD rfl) (by rfl) mT boot_tuple (pa_cons (pe_fld (pv 0) rfl) pa_nil))), ?_⟩
    obtain ⟨o, dx, dp, de, ps, es, rfl, N, q⟩ := h
    refine ⟨_, rfl, o, C, dx, _, .ref dp, rfl, N.at_, c, n1, rfl, dp, dPosts ps, rfl, .inl N.posts, fun t nt => ?_⟩
    rw [keys_posts]
    exact q t nt
theorem scLs : FnScope ["self"] ["self"] (defScope sLanes) := ⟨rfl, rfl, rfl, by decide +kernel, rfl, by decide +kernel, by decide +kernel⟩
theorem ok_lanes {f : Addr} {fd : FuncData} (F : FnM K "lanes" "Net.lanes" sLanes f fd) (c : Cls K C) (n1 : NoAttr K C "_ends") (mT : mg "tuple" = none) : FnOk P w K mg base CX0 1 f fd ["self"] (spLanes C) := by
  refine F.ok (CX := CX0) scLs (fun vs H Q E h => ?_) (fun cdv A outer s H vs Q E hr h => ?_)
  · obtain ⟨o, dx, dp, de, ps, es, rfl, _⟩ := h
    rfl
  · refine ⟨_, pss_one (ps_ret (pe_callTy (Vd.call_tupleD rfl) (by rfl) mT boot_tuple (pa_cons (pe_fld (pv 0) rfl) pa_nil))), ?_⟩
    obtain ⟨o, dx, dp, de, ps, es, rfl, N, q⟩ := h
    refine ⟨_, rfl, o, C, dx, _, .ref de, rfl, N.at_, c, n1, rfl, de, dEnds es, rfl, .inl N.ends, fun t nt => ?_⟩
    rw [keys_ends]
    exact q t nt
theorem scNl : FnScope ["self"] ["self"] (defScope sNLen) := ⟨rfl, rfl, rfl, by decide +kernel, rfl, by decide +kernel, by decide +kernel⟩
theorem ok_nlen {f : Addr} {fd : FuncData} (F : FnM K "__len__" "Net.__len__" sNLen f fd) (c : Cls K C) (n1 : NoAttr K C "_ends") (mL : mg "len" = none) : FnOk P w K mg base CX0 1 f fd ["self"] (spNLen C) := by
  refine F.ok (CX := CX0) scNl (fun vs H Q E h => ?_) (fun cdv A outer s H vs Q E hr h => ?_)
  · obtain ⟨o, dx, dp, de, ps, es, rfl, _⟩ := h
    rfl
  · refine ⟨_, pss_one (ps_ret (pe_callB call_lenD (by rfl) mL boot_len (pa_cons (pe_fld (pv 0) rfl) pa_nil))), ?_⟩
    obtain ⟨o, dx, dp, de, ps, es, rfl, N, q⟩ := h
    refine ⟨_, rfl, o, C, dx, _, .ref de, rfl, N.at_, c, n1, rfl, de, dEnds es, rfl, N.ends, ?_⟩
    have : (dEnds es).length = es.length := List.length_map _
    rw [this]
    exact q
end
end K05

set_option Elab.async false
set_option linter.all false
set_option maxRecDepth 100000
set_option maxHeartbeats 4000000
namespace K05
open PySem PySem.Spec PyProof.Rows L2 Vl Evl Vp Vx2
abbrev sChkP : Stmt := top 19
/-- the first of ns that is not in ps is l -/
def FirstOut (ns ps : List (List Nat)) (l : List Nat) : Prop := ∃ i : Nat, ns[i]? = some l ∧ l ∉ ps ∧ ∀ (j : Nat) (y : List Nat), j < i → ns[j]? = some y → y ∈ ps
/-- check_posts(net, names) -/
def spChkP (K : PySem.W.Frag) (C NP : Addr) : Sp := fun vs H Q E => ∃ (o dx dp de t : Addr) (ps : List (List Nat)) (es : List Row) (ns : List (List Nat)), vs = [.ref o, .ref t] ∧ NetAt C H o dx dp de ps es ∧ SqT K H t (vtx ns) ∧
  (((∀ l ∈ ns, l ∈ ps) ∧ ∀ H', Ex H H' → Q .non H') ∨ ∃ l, FirstOut ns ps l ∧ RaisedF NP "name" H (.str (tx l)) E)
section
variable {P : Program} {w : World} {K : PySem.W.Frag} {mg : Str → Option Value} {base : Heap} {C NP pL fL : Addr}
theorem scCP : FnScope ["net", "names", "name"] ["net", "names"] (defScope sChkP) := ⟨rfl, rfl, rfl, by decide +kernel, rfl, by decide +kernel, by decide +kernel⟩
theorem ok_chkp {f : Addr} {fd fdL : FuncData} (F : FnP K "check_posts" sChkP f fd) (c : Cls K C) (hp : PropOf K C "posts" pL fL) (bL : Binds K fdL ["self"] []) (GL : FnOk P w K mg base CX0 1 fL fdL ["self"] (spPosts C)) (EP : Err1 P w K mg base "NoPost" "name" NP) :
    FnOk P w K mg base (L2.CX P w) 3 f fd ["net", "names"] (spChkP K C NP) := by
  obtain ⟨fE, fdE, iC, tI, bE, GE⟩ := EP.ini
  refine F.ok (CX := L2.CX P w) scCP (fun vs H Q E h => ?_) (fun cdv A outer s H vs Q E hr h => ?_)
  · obtain ⟨o, dx, dp, de, t, ps, es, ns, rfl, _⟩ := h
    rfl
  · have hr2 : Room 2 _ := hr
    refine ⟨_, (pss_one (ps_for (passes_of rfl) rfl (pi_tup (pv 1)) (pg_name (i := 2) scCP.nd rfl (by first | exact Or.inl rfl | exact Or.inr rfl))
      (pss_one (ps_if (pt_cmpR op_notIn_seq (pv 2) (pe_prop (E := E0) (pv 0) c hp GL hr2 bL .nil pass0 (by rfl)) rfl) (pss_one (ps_raise rfl (takes_of rfl rfl rfl rfl) (pmk_oex EP.T iC tI GE hr2 bE .nil pass0 (by rfl) EP.g (pa_cons (pv 2) pa_nil)))) pss_nil)))), ?_⟩
    obtain ⟨o, dx, dp, de, t, ps, es, ns, rfl, N, ht, h⟩ := h
    refine s_forT (a := t) (ev_var rfl) ht (fun i st H' => ∃ t2, st = [some (.ref o), some (.ref t), t2] ∧ Ex H H' ∧ ∀ (j : Nat) (y : List Nat), j < i → ns[j]? = some y → y ∈ ps)
      (fun H1 e => ⟨none, rfl, e, fun j y hj => absurd hj (Nat.not_lt_zero j)⟩) (fun i st H' _ ⟨_, _, e, _⟩ => ex_t e ht) ?_ ?_
    · rintro i x σ' H1 hx ⟨t2, rfl, e1, hall⟩
      unfold vtx at hx
      rw [List.getElem?_map] at hx
      obtain ⟨l, hl, rfl⟩ := Option.map_eq_some_iff.mp hx
      have N1 := N.mono e1
      refine ⟨_, rfl, _, rfl, o, dx, _, rfl, N1.at_, o, dx, dp, de, ps, es, rfl, N1, fun tt ntt => ?_⟩
      have e2 := e1.trans (Ex.new (o := .tup (vtx ps)) ntt)
      refine ⟨tt, vtx ps, rfl, .inr (.inl (.inl upd_same)), rfl, flat_vtx ps, _, rfl, ?_⟩
      rw [if_pos rfl, inV_vtx]
      by_cases hm : l ∈ ps
      · refine if_f (by rw [decide_eq_true hm]; decide) ?_
        refine ⟨_, rfl, e2, fun j y hj hy => ?_⟩
        by_cases hji : j < i
        · exact hall j y hji hy
        · obtain rfl : j = i := by omega
          rw [hl] at hy
          obtain rfl := Option.some.inj hy
          exact hm
      · refine if_t (by rw [decide_eq_false hm]; rfl) ?_
        rcases h with ⟨ha, _⟩ | ⟨l2, ⟨i2, g1, g2, g3⟩, q⟩
        · exact absurd (ha l (List.mem_of_getElem? hl)) hm
        · have ei : i = i2 := by
            rcases Nat.lt_trichotomy i i2 with h1 | h1 | h1
            · exact absurd (g3 i l h1 hl) hm
            · exact h1
            · exact absurd (hall i2 l2 h1 g1) g2
          rw [ei] at hl
          rw [hl] at g1
          obtain rfl := Option.some.inj g1
          exact raised_f (W := fun cls d _ H' => E cls d H') 2 rfl rfl (RaisedF.grow q e2)
    · rintro st H1 ⟨t2, rfl, e1, hall⟩
      rcases h with ⟨ha, q⟩ | ⟨l2, ⟨i2, g1, g2, g3⟩, q⟩
      · exact q H1 e1
      · exact absurd (hall i2 l2 (by rw [vtx_len]; exact (List.getElem?_eq_some_iff.mp g1).1) g1) g2
end
end K05

set_option Elab.async false
set_option linter.all false
set_option maxRecDepth 100000
set_option maxHeartbeats 4000000
namespace K05
open PySem PySem.Spec PyProof.Rows L2 Vl Evl Vp Vx2
def laneNames (es : List Row) : List (List Nat) := es.map fun e => e.2.1
theorem ends_val (es : List Row) (l : List Nat) : (valV (dEnds es) (Sum.inr (tx l) : Key)).isSome = decide (l ∈ laneNames es) := by
  induction es with
  | nil => rfl
  | cons x r ih =>
    unfold dEnds laneNames at *
    rw [List.map_cons, List.map_cons]
    by_cases h : x.2.1 = l
    · rw [valV_pos (by rw [h]), decide_eq_true (by rw [h]; exact List.mem_cons_self)]
      rfl
    · have hn : ¬ (Sum.inr (tx x.2.1) : Key) = Sum.inr (tx l) := fun z => h (tx_inj (Sum.inr.inj z))
      rw [valV_neg hn, ih]
      by_cases hm : l ∈ r.map fun e => e.2.1
      · rw [decide_eq_true hm, decide_eq_true (List.mem_cons_of_mem _ hm)]
      · rw [decide_eq_false hm, decide_eq_false (fun z => (List.mem_cons.mp z).elim (fun e => h e.symm) hm)]
/-- x in net -/
def spHas (K : PySem.W.Frag) (C : Addr) : Sp := fun vs H Q _ => ∃ (o dx dp de : Addr) (y : V) (ps : List (List Nat)) (es : List Row), vs = [.ref o, y] ∧ NetAt C H o dx dp de ps es ∧
  ((∃ l, y = .str (tx l) ∧ Q (.bl (decide (l ∈ laneNames es))) H) ∨ (∃ t : String, TyX K H y (.type t) ∧ kitB t "str" = some false ∧ Q (.bl false) H))
section
variable {P : Program} {w : World} {K : PySem.W.Frag} {mg : Str → Option Value} {base : Heap} {C : Addr}
theorem scHs : FnScope ["self", "x"] ["self", "x"] (defScope sHas) := ⟨rfl, rfl, rfl, by decide +kernel, rfl, by decide +kernel, by decide +kernel⟩
theorem ok_has {f : Addr} {fd : FuncData} (F : FnM K "__contains__" "Net.__contains__" sHas f fd) (c : Cls K C) (n1 : NoAttr K C "_ends") (mI : mg "isinstance" = none) (mS : mg "str" = none) : FnOk P w K mg base CX0 1 f fd ["self", "x"] (spHas K C) := by
  refine F.ok (CX := CX0) scHs (fun vs H Q E h => ?_) (fun cdv A outer s H vs Q E hr h => ?_)
  · obtain ⟨o, dx, dp, de, y, ps, es, rfl, _⟩ := h
    rfl
  · refine ⟨_, pss_one (ps_ret (pe_and (pe_callB call_isi (by rfl) mI boot_isinstance (pa_cons (pv 1) (pa_cons (pe_bltn (v := V.ty "str") (by rfl) mS boot_str rfl) pa_nil)))
      (pe_one (pe_cmp (pc_din (Nat.lt_of_le_of_lt (Nat.add_le_add_left (show 1 ≤ 64 by decide) _) hr.units) (pv 1) (pe_fld (pv 0) rfl)))))), ?_⟩
    obtain ⟨o, dx, dp, de, y, ps, es, rfl, N, h⟩ := h
    rcases h with ⟨l, rfl, q⟩ | ⟨t, ht, hk, q⟩
    · refine ⟨_, rfl, V.str (tx l), V.ty "str", .type "str", .type "str", true, rfl, .ty _, .base (.str _), kit_ty (by decide +kernel), true, rfl, ?_⟩
      refine if_t rfl ?_
      refine ⟨_, rfl, _, rfl, o, C, dx, _, .ref de, rfl, N.at_, c, n1, rfl, de, _, rfl, DGet.k (k := (Sum.inr (tx l) : Key)) N.ends, ?_⟩
      rw [ends_val]
      exact q
    · refine ⟨_, rfl, y, V.ty "str", .type t, .type "str", false, rfl, .ty _, ht, kit_ty hk, false, rfl, ?_⟩
      exact if_f Bool.false_ne_true q
end
end K05

set_option Elab.async false
set_option linter.all false
set_option maxRecDepth 100000
set_option maxHeartbeats 2000000
/-! Tuples and lists of texts compared. -/
namespace Vda
open PySem PySem.Spec PyProof.Rows L2 Vl Evl Vp Vr
/-- texts of true signs -/
def Oks (a : List (List Nat)) : Prop := ∀ l ∈ a, ∀ c ∈ l, c < 1114112
theorem oks_nam {a : List (List Nat)} (h : ∀ l ∈ a, nam l) : Oks a := fun l hl c hc => by
  have hs : c ∈ Vp.signs := nam_signs (h l hl) c hc
  have all : ∀ c ∈ Vp.signs, c < 128 := by decide +kernel
  have := all c hs
  omega
theorem oks_cons {l : List Nat} {a : List (List Nat)} (h : ∀ c ∈ l, c < 1114112) (ha : Oks a) : Oks (l :: a) := fun x hx => by
  rcases List.mem_cons.mp hx with rfl | hx
  · exact h
  · exact ha x hx
theorem ok_nam {l : List Nat} (h : nam l) : ∀ c ∈ l, c < 1114112 := oks_nam (a := [l]) (fun x hx => by rw [List.mem_singleton.mp hx]; exact h) l List.mem_cons_self
theorem oks_nil : Oks [] := fun _ h => nomatch h
theorem lay_ok : ∀ a : List (List Nat), Oks a → PyData.canLayAll0 (dtx a) = true
  | [], _ => rfl
  | x :: r, h => by
    have hr := lay_ok r fun l hl => h l (List.mem_cons_of_mem _ hl)
    have hx : PyData.canLay0 (PyData.str (tx x)) = true := by
      show PyData.strOk (tx x) = true
      unfold PyData.strOk
      rw [← Array.all_toList, tx_list, List.all_eq_true]
      exact fun c hc => decide_eq_true (h x List.mem_cons_self c hc)
    show (PyData.canLay0 (PyData.str (tx x)) && PyData.canLayAll0 (dtx r)) = true
    rw [hx, hr]
    rfl
theorem sh_w {a : List (List Nat)} (h : Oks a) : SeqAt.shaped (wd a) = true := shaped_of (lay_ok a h) (by have := dep_wd a; omega)
def wls (a : List (List Nat)) : PyData := .list (dtx a)
theorem sh_l {a : List (List Nat)} (h : Oks a) : SeqAt.shaped (wls a) = true := shaped_of (lay_ok a h) (by
  show PyData.depthAll (dtx a) + 1 ≤ 64
  rw [dep_dtx]
  omega)
theorem eq_w (a b : List (List Nat)) : PyData.eqv (wd a) (wd b) = decide (a = b) := by
  by_cases h : a = b
  · rw [decide_eq_true h, h]
    exact PySem.W.eqv_refl_alike _ (alike_wd b b)
  · rw [decide_eq_false h]
    cases e : PyData.eqv (wd a) (wd b) with
    | false => rfl
    | true =>
      have k := (PySem.W.toks_eqv (wd a) (wd b) (alike_wd a b)).1 e
      unfold wd at k
      rw [PySem.W.keyToks, PySem.W.keyToks] at k
      exact absurd (key_inj k) h
theorem eq_l (a b : List (List Nat)) : PyData.eqv (wls a) (wls b) = decide (a = b) := by
  rw [← eq_w]
  unfold wls wd
  rw [PyData.eqv, PyData.eqv]
theorem dp_l {K : PySem.W.Frag} {H : Hp} {p : Addr} {a : List (List Nat)} (h : SqL K H p (vtx a)) : Dp K H (.ref p) (wls a) := .lst h (dpa_vtx a)
section
variable {K : PySem.W.Frag} {H : Hp} {p q : Addr} {a b : List (List Nat)}
theorem rv_eqT (h : SqT K H p (vtx a)) (h2 : SqT K H q (vtx b)) (oa : Oks a) (ob : Oks b) : RV (rEqD K) (.ref p) (.ref q) H (.bl (decide (a = b))) := fun H1 e1 Q q1 => by
  refine ⟨wd a, wd b, dp_wd (ex_t e1 h), dp_wd (ex_t e1 h2), sh_w oa, sh_w ob, ?_⟩
  rw [eq_w]
  exact q1 H1 (Ex.refl _)
theorem rv_neT (h : SqT K H p (vtx a)) (h2 : SqT K H q (vtx b)) (oa : Oks a) (ob : Oks b) : RV (rNeD K) (.ref p) (.ref q) H (.bl (!decide (a = b))) := fun H1 e1 Q q1 => by
  refine ⟨wd a, wd b, dp_wd (ex_t e1 h), dp_wd (ex_t e1 h2), sh_w oa, sh_w ob, ?_⟩
  rw [eq_w]
  exact q1 H1 (Ex.refl _)
theorem rv_eqL (h : SqL K H p (vtx a)) (h2 : SqL K H q (vtx b)) (oa : Oks a) (ob : Oks b) : RV (rEqD K) (.ref p) (.ref q) H (.bl (decide (a = b))) := fun H1 e1 Q q1 => by
  refine ⟨wls a, wls b, dp_l (ex_l e1 h), dp_l (ex_l e1 h2), sh_l oa, sh_l ob, ?_⟩
  rw [eq_l]
  exact q1 H1 (Ex.refl _)
theorem rv_neL (h : SqL K H p (vtx a)) (h2 : SqL K H q (vtx b)) (oa : Oks a) (ob : Oks b) : RV (rNeD K) (.ref p) (.ref q) H (.bl (!decide (a = b))) := fun H1 e1 Q q1 => by
  refine ⟨wls a, wls b, dp_l (ex_l e1 h), dp_l (ex_l e1 h2), sh_l oa, sh_l ob, ?_⟩
  rw [eq_l]
  exact q1 H1 (Ex.refl _)
end
end Vda

set_option Elab.async false
set_option linter.all false
set_option maxRecDepth 100000
set_option maxHeartbeats 2000000
/-! [k for k in d if ..], a dict locked meanwhile; tuple([..]). -/
namespace Vlk
open PySem PySem.Spec PyProof.Rows L2 Evl
/-- H, the dict at d locked -/
abbrev Lk (H : Hp) (d : Addr) (od : Obj) (kvs : List (Key × V)) : Hp := upd H d (.frz od (.dK kvs))
section
variable {K : PySem.W.Frag} {σ : L2.St} {H : Hp}
theorem lk_get {d b : Addr} {od : Obj} {kvs : List (Key × V)} {o : HO} (h : H b = some o) (hn : b ≠ d) : Lk H d od kvs b = some o := by
  show upd H d _ b = _
  rw [upd_ne hn]
  exact h
theorem dget_frz {d : Addr} {od : Obj} {kvs : List (Key × V)} {k : Key} (h : H d = some (.frz od (.dK kvs))) : DGet H d (kV k) (valV kvs k) := .inl ⟨kvs, k, .inr ⟨od, h⟩, rfl, rfl⟩
/-- the keys of d for which the test says yes -/
theorem el_keys {td : TE} {tt : TT} {j : Nat} {d : Addr} {kvs : List (Key × V)} (c : Key × V → Bool) (hd : H d = some (.dK kvs)) (hz : kvs.length ≤ 40000) (hw : ∀ x, wipe ((wipe σ [j]).set j (some x)) [j] = wipe σ [j])
    (hj : ∀ x, ((wipe σ [j]).set j (some x))[j]? = some (some x))
    (htd : ∀ H1 od, Ex H H1 → Ev td σ (Lk H1 d od kvs) (.ref d))
    (ht : ∀ (H1 : Hp) (od : Obj) (i : Nat) (kv : Key × V), Ex H H1 → kvs[i]? = some kv → EvT tt ((wipe σ [j]).set j (some (kV kv.1))) (Lk H1 d od kvs) (c kv)) :
    EvL (tLockE (tLc (iKeys td) (gName j) tt (tVar j) [j])) σ H ((kvs.filter c).map fun kv => kV kv.1) := by
  intro H1 e1 Q q
  refine ⟨d, .dK kvs, e1 _ _ hd, trivial, fun od => ?_⟩
  have hlk : (Lk H1 d od kvs) d = some (.frz od (.dK kvs)) := upd_same
  refine htd H1 od e1 _ (Ex.refl _) _ fun H2 e2 => ?_
  refine ⟨d, od, rfl, .inl ⟨kvs, e2 _ _ hlk, fun D nD => ?_⟩⟩
  have ndd : D ≠ d := fun z => by rw [z, e2 _ _ hlk] at nD; cases nD
  have hn2 : (Lk H1 d od kvs) D = none := fresh_back e2 nD
  have hn1 : H1 D = none := by
    have := hn2
    rw [show (Lk H1 d od kvs) D = H1 D from upd_ne ndd] at this
    exact this
  refine lc_it walk_keys (fun i H3 => Ex (Lk H1 d od kvs) H3 ∧ H3 D = some (.lst (((kvs.take i).filter c).map fun kv => kV kv.1))) ⟨Ex.mut e2 hn2, by rw [List.take_zero]; exact upd_same⟩ (fun i H3 _ h => h.1 _ _ hlk) ?_ ?_
  · rintro i x H3 H4 hi ⟨e3, hD⟩ ⟨rfl, k, v, hk, rfl⟩
    have htk : kvs.take (i + 1) = kvs.take i ++ [(k, v)] := by rw [List.take_succ, hk]; rfl
    refine ⟨hw _, ?_⟩
    have hc := ht H1 od i (k, v) e1 hk
    refine hc H4 e3 _ fun H5 e5 => ?_
    cases hcv : c (k, v) with
    | true =>
      rw [if_pos rfl]
      refine ⟨kV k, hj _, _, e5 _ _ hD, ?_, Ex.mut (e3.trans e5) hn2, ?_⟩
      · refine sz_lt ?_
        rw [List.length_map]
        have := List.length_filter_le c (kvs.take i)
        rw [List.length_take] at this
        omega
      · rw [upd_same, htk, List.filter_append, List.map_append, List.filter_cons_of_pos hcv]
        rfl
    | false =>
      rw [if_neg (by decide)]
      refine ⟨e3.trans e5, ?_⟩
      rw [e5 _ _ hD, htk, List.filter_append, List.filter_cons_of_neg (by rw [hcv]; decide), List.filter_nil, List.append_nil]
  · rintro H3 ⟨e3, hD⟩
    rw [List.take_length] at hD
    have ne : D ≠ d := ndd
    refine ⟨e3 _ _ hlk, q D _ hn1 (fun b o hb => ?_) (by rw [upd_ne ne]; exact hD)⟩
    by_cases hbd : b = d
    · rw [hbd, upd_same]
      rw [hbd, e1 _ _ hd] at hb
      exact hb
    · rw [upd_ne hbd]
      exact e3 _ _ (lk_get hb hbd)
/-- tuple(a new list) -/
theorem eu_tupleL {te : TE} {xs : List V} (h : EvL te σ H xs) : EvU (tCB (fun vs H Q => ∃ p ys, vs = [.ref p] ∧ ((SqL K H p ys ∧ ∀ l, H l = none → Q (.ref l) (upd H l (.tup ys))) ∨ (SqT K H p ys ∧ Q (.ref p) H))) (tCons te tNil)) σ H xs := by
  intro H1 e1 Q q
  refine h H1 e1 _ fun p H2 hp e2 h2 => ?_
  exact ⟨p, xs, rfl, .inl ⟨sq_of h2, fun l hl => q l _ (fresh_back e2 hl) (e2.trans (Ex.new hl)) upd_same⟩⟩
theorem ev_fld {te : TE} {o C dx : Addr} {fs : List (Str × V)} {f : Str} {v : V} (h : Ev te σ H (.ref o)) (ho : H o = some (.ins C dx fs)) (c : Cls K C) (n : NoAttr K C f) (hl : fs.lookup f = some v) : Ev (tFld K te f) σ H v :=
  fun H1 e Q q => h H1 e _ fun H2 e2 => ⟨o, C, dx, fs, v, rfl, (e.trans e2) _ _ ho, c, n, hl, q H2 e2⟩
theorem dget_ex {H' : Hp} {a : Addr} {y : V} {r : Option V} (e : Ex H H') (h : DGet H a y r) : DGet H' a y r := by
  rcases h with ⟨kvs, k, h1, h2, h3⟩ | ⟨kvs, k, b, h1, h2, h3, h4⟩
  · exact .inl ⟨kvs, k, ex_rd e h1, h2, h3⟩
  · exact .inr ⟨kvs, k, b, ex_rd e h1, h2, e _ _ h3, h4⟩
theorem ev_dget {td ty : TE} {d : Addr} {y v : V} (h : Ev td σ H (.ref d)) (h2 : Ev ty σ H y) (hg : DGet H d y (some v)) : Ev (tDGet td ty) σ H v :=
  fun H1 e Q q => h H1 e _ fun H2 e2 => h2 H2 (e.trans e2) _ fun H3 e3 => ⟨d, v, rfl, dget_ex ((e.trans e2).trans e3) hg, q H3 (e2.trans e3)⟩
end
end Vlk

set_option Elab.async false
set_option linter.all false
set_option maxRecDepth 100000
set_option maxHeartbeats 2000000
/-! What comes to data: whatever objects hold it. -/
namespace Ve
open PySem PySem.Spec PyProof.Rows L2 Vl Evl Vp Vr Vc Vlk Vda
mutual
theorem dp_ex {K : PySem.W.Frag} {H H' : Hp} (e : Ex H H') : ∀ {v : V} {d : PyData}, Dp K H v d → Dp K H' v d
  | _, _, .non => .non
  | _, _, .bl b => .bl b
  | _, _, .int i => .int i
  | _, _, .str x => .str x
  | _, _, .lst h hs => .lst (ex_l e h) (dpa_ex e hs)
  | _, _, .tup h hs => .tup (ex_t e h) (dpa_ex e hs)
theorem dpa_ex {K : PySem.W.Frag} {H H' : Hp} (e : Ex H H') : ∀ {v : List V} {d : List PyData}, DpAll K H v d → DpAll K H' v d
  | _, _, .nil => .nil
  | _, _, .cons h hs => .cons (dp_ex e h) (dpa_ex e hs)
end
def EvD (K : PySem.W.Frag) (te : TE) (σ : L2.St) (H : Hp) (d : PyData) : Prop := ∀ H1, Ex H H1 → ∀ Q : VK, (∀ v H2, Ex H1 H2 → Dp K H2 v d → Q v H2) → te σ H1 Q
def EvDA (K : PySem.W.Frag) (ta : TA) (σ : L2.St) (H : Hp) (ds : List PyData) : Prop := ∀ H1, Ex H H1 → ∀ Q : List V → Hp → Prop, (∀ vs H2, Ex H1 H2 → DpAll K H2 vs ds → Q vs H2) → ta σ H1 Q
def SpD (K : PySem.W.Frag) (sp : Sp) (vs : List V) (H : Hp) (d : PyData) : Prop := ∀ H1, Ex H H1 → ∀ Q : VK, (∀ v H2, Ex H1 H2 → Dp K H2 v d → Q v H2) → ∀ E : XK, sp vs H1 Q E
section
variable {K : PySem.W.Frag} {σ : L2.St} {H H' : Hp} {te ta tb : TE} {t : TA} {d e : PyData} {v : V}
theorem EvD.mono (x : Ex H H') (h : EvD K te σ H d) : EvD K te σ H' d := fun H1 a Q q => h H1 (x.trans a) Q q
theorem ed_ev (h : Ev te σ H v) (hd : Dp K H v d) : EvD K te σ H d := fun H1 e Q q => h H1 e Q fun H2 e2 => q v H2 e2 (dp_ex (e.trans e2) hd)
theorem ed_str {s : List Nat} (h : Ev te σ H (.str (tx s))) : EvD K te σ H (.str (tx s)) := ed_ev h (.str _)
theorem ed_U {xs : List V} {ds : List PyData} (h : EvU te σ H xs) (hd : DpAll K H xs ds) : EvD K te σ H (.tuple ds) := fun H1 e Q q => h H1 e Q fun p H2 _ e2 hp => q _ H2 e2 (.tup (.inl (.inl hp)) (dpa_ex (e.trans e2) hd))
theorem ed_L {xs : List V} {ds : List PyData} (h : EvL te σ H xs) (hd : DpAll K H xs ds) : EvD K te σ H (.list ds) := fun H1 e Q q => h H1 e Q fun p H2 _ e2 hp => q _ H2 e2 (.lst (sq_of hp) (dpa_ex (e.trans e2) hd))
theorem ed_Un {xs : List (List Nat)} (h : EvU te σ H (vtx xs)) : EvD K te σ H (wd xs) := ed_U h (dpa_vtx xs)
theorem ed_Ln {xs : List (List Nat)} (h : EvL te σ H (vtx xs)) : EvD K te σ H (wls xs) := ed_L h (dpa_vtx xs)
theorem eda_nil : EvDA K tNil σ H [] := fun H1 _ Q q => q [] H1 (Ex.refl _) .nil
theorem eda_cons {ds : List PyData} (h : EvD K te σ H d) (hr : EvDA K t σ H ds) : EvDA K (tCons te t) σ H (d :: ds) := fun H1 e Q q =>
  h H1 e _ fun v H2 e2 h2 => hr H2 (e.trans e2) _ fun vs H3 e3 h3 => q _ H3 (e2.trans e3) (.cons (dp_ex e3 h2) h3)
theorem dpa_len : ∀ {vs : List V} {ds : List PyData}, DpAll K H vs ds → vs.length = ds.length
  | _, _, .nil => rfl
  | _, _, .cons h hs => by
    rw [List.length_cons, List.length_cons, dpa_len hs]
theorem ed_tup {ds : List PyData} (h : EvDA K t σ H ds) (hl : ds.length ≤ 100000) : EvD K (tTup t) σ H (.tuple ds) := fun H1 e Q q =>
  h H1 e _ fun vs H2 e2 h2 => ⟨by rw [dpa_len h2]; exact sz_of hl, fun p hp => q _ _ (e2.trans (Ex.new hp)) (.tup (.inl (.inl upd_same)) (dpa_ex (Ex.new hp) h2))⟩
theorem ed_lst {ds : List PyData} (h : EvDA K t σ H ds) (hl : ds.length ≤ 100000) : EvD K (tLst t) σ H (.list ds) := fun H1 e Q q =>
  h H1 e _ fun vs H2 e2 h2 => ⟨by rw [dpa_len h2]; exact sz_of hl, fun p hp => q _ _ (e2.trans (Ex.new hp)) (.lst (sq_of upd_same) (dpa_ex (Ex.new hp) h2))⟩
theorem ev_eqD (h : EvD K ta σ H d) (h2 : EvD K tb σ H e) (s1 : SeqAt.shaped d = true) (s2 : SeqAt.shaped e = true) : Ev (tOp (rEqD K) ta tb) σ H (.bl (PyData.eqv d e)) := fun H1 x Q q =>
  h H1 x _ fun v H2 e2 hv => h2 H2 (x.trans e2) _ fun u H3 e3 hu => ⟨d, e, dp_ex e3 hv, hu, s1, s2, q H3 (e2.trans e3)⟩
theorem ev_neD (h : EvD K ta σ H d) (h2 : EvD K tb σ H e) (s1 : SeqAt.shaped d = true) (s2 : SeqAt.shaped e = true) : Ev (tOp (rNeD K) ta tb) σ H (.bl (!PyData.eqv d e)) := fun H1 x Q q =>
  h H1 x _ fun v H2 e2 hv => h2 H2 (x.trans e2) _ fun u H3 e3 hu => ⟨d, e, dp_ex e3 hv, hu, s1, s2, q H3 (e2.trans e3)⟩
theorem sh_lay (h : SeqAt.shaped d = true) : d.canLay0 = true := by
  unfold SeqAt.shaped at h
  exact (Bool.and_eq_true_iff.mp h).1
/-- the same data: equal -/
theorem ev_same (h : EvD K ta σ H d) (h2 : EvD K tb σ H d) (s : SeqAt.shaped d = true) : Ev (tOp (rEqD K) ta tb) σ H (.bl true) := by
  have := ev_eqD h h2 s s
  rw [SeqAt.eqv_refl d (sh_lay s)] at this
  exact this
theorem ev_unlike (h : EvD K ta σ H d) (h2 : EvD K tb σ H d) (s : SeqAt.shaped d = true) : Ev (tOp (rNeD K) ta tb) σ H (.bl false) := by
  have := ev_neD h h2 s s
  rw [SeqAt.eqv_refl d (sh_lay s)] at this
  exact this
theorem ed_fu {sp : Sp} {E : L2.St → XK} {vs : List V} (h : EvA t σ H vs) (hs : SpD K sp vs H d) : EvD K (tFu sp E t) σ H d := fun H1 e Q q =>
  h H1 e _ fun H2 e2 => hs H2 (e.trans e2) Q (fun v H3 e3 => q v H3 (e2.trans e3)) (E σ)
theorem et_yes : EvT tYes σ H true := fun H1 _ Q q => q H1 (Ex.refl _)
/-- tuple(a list that stands) -/
theorem eu_tupleA {p : Addr} {xs : List V} (h : Ev te σ H (.ref p)) (hx : SqL K H p xs) : EvU (tCB (fun vs H Q => ∃ p ys, vs = [.ref p] ∧ ((SqL K H p ys ∧ ∀ l, H l = none → Q (.ref l) (upd H l (.tup ys))) ∨ (SqT K H p ys ∧ Q (.ref p) H))) (tCons te tNil)) σ H xs := fun H1 e Q q =>
  h H1 e _ fun H2 e2 => ⟨p, xs, rfl, .inl ⟨ex_l (e.trans e2) hx, fun l hl => q l _ (fresh_back e2 hl) (e2.trans (Ex.new hl)) upd_same⟩⟩
theorem ev_lenA {p : Addr} {xs : List V} (h : Ev te σ H (.ref p)) (hx : SqL K H p xs) : Ev (tCB (fun vs H Q => ∃ x n, vs = [x] ∧ LenV K x H n ∧ Q (.int n) H) (tCons te tNil)) σ H (.int (xs.length : Nat)) := fun H1 e Q q =>
  h H1 e _ fun H2 e2 => ⟨.ref p, xs.length, rfl, .inl ⟨xs, ex_l (e.trans e2) hx, rfl⟩, q H2 e2⟩
theorem ev_ixA {p : Addr} {xs : List V} {i : Nat} (h : Ev te σ H (.ref p)) (hx : SqL K H p xs) (hi : xs[i]? = some v) : Ev (tOp (rIxL K) te (tC (.int (i : Nat)))) σ H v := ev_op h ev_c (rv_ixL hx (at_of rfl hi))
/-! comprehensions by their items -/
theorem given_map {α : Type} {ys : List α} (c : α → Bool) (w : α → V) (f : Nat → Bool) (v : Nat → V) (h : ∀ (i : Nat) (y : α), ys[i]? = some y → f i = c y ∧ v i = w y) : ∀ n, n ≤ ys.length → given n f v = ((ys.take n).filter c).map w
  | 0, _ => by rw [List.take_zero]; rfl
  | n + 1, hn => by
    have hlt : n < ys.length := by omega
    have hy : ys[n]? = some ys[n] := List.getElem?_eq_getElem hlt
    obtain ⟨h1, h2⟩ := h n _ hy
    have ih := given_map c w f v h n (by omega)
    have ht : ys.take (n + 1) = ys.take n ++ [ys[n]] := by rw [List.take_succ, hy]; rfl
    rw [ht, List.filter_append, List.map_append]
    cases hc : c ys[n] with
    | true =>
      rw [given_yes (by rw [h1]; exact hc), ih, List.filter_cons_of_pos hc, h2]
      rfl
    | false =>
      rw [given_no (by rw [h1]; exact hc), ih, List.filter_cons_of_neg (by rw [hc]; decide)]
      show _ = _ ++ []
      rw [List.append_nil]
theorem el_lcA {α : Type} {ys : List α} {g : α → V} {a : Addr} {tl : TE} {j : Nat} {vs : List Nat} {tt : TT} (c : α → Bool) (w : α → V) (h : Ev tl σ H (.ref a)) (hx : SqL K H a (ys.map g)) (hz : ys.length ≤ 40000) (hw : ∀ x, wipe ((wipe σ vs).set j (some x)) vs = wipe σ vs)
    (ht : ∀ (y : α) (H1 : Hp), Ex H H1 → y ∈ ys → EvT tt ((wipe σ vs).set j (some (g y))) H1 (c y)) (he : ∀ (y : α) (H1 : Hp), Ex H H1 → y ∈ ys → c y = true → Ev te ((wipe σ vs).set j (some (g y))) H1 (w y)) :
    EvL (tLc (iList K tl) (gName j) tt te vs) σ H ((ys.filter c).map w) := by
  have key := el_lcL (K := K) (σ := σ) (H := H) (te := te) (t := tt) (j := j) (vs := vs) (fun i => match ys[i]? with | some y => c y | none => false) (fun i => match ys[i]? with | some y => w y | none => .non) h hx (by rw [List.length_map]; exact hz) hw
    (fun i x H1 e hi => by
      rw [List.getElem?_map] at hi
      obtain ⟨y, hy, rfl⟩ := Option.map_eq_some_iff.mp hi
      rw [hy]
      exact ht y H1 e (List.mem_of_getElem? hy))
    (fun i x H1 e hi hf => by
      rw [List.getElem?_map] at hi
      obtain ⟨y, hy, rfl⟩ := Option.map_eq_some_iff.mp hi
      rw [hy] at hf ⊢
      exact he y H1 e (List.mem_of_getElem? hy) hf)
  rw [given_map c w _ _ (fun i y hy => by rw [hy]; exact ⟨rfl, rfl⟩) _ (by rw [List.length_map]; exact Nat.le_refl _), List.length_map, List.take_length] at key
  exact key
theorem el_lcM {α : Type} {ys : List α} {g : α → V} {a : Addr} {tl : TE} {j : Nat} {vs : List Nat} (w : α → V) (h : Ev tl σ H (.ref a)) (hx : SqL K H a (ys.map g)) (hz : ys.length ≤ 40000) (hw : ∀ x, wipe ((wipe σ vs).set j (some x)) vs = wipe σ vs)
    (he : ∀ (y : α) (H1 : Hp), Ex H H1 → y ∈ ys → Ev te ((wipe σ vs).set j (some (g y))) H1 (w y)) :
    EvL (tLc (iList K tl) (gName j) tYes te vs) σ H (ys.map w) := by
  have := el_lcA (K := K) (tt := tYes) (te := te) (fun _ => true) w h hx hz hw (fun y H1 _ _ => et_yes) (fun y H1 e hy _ => he y H1 e hy)
  rw [List.filter_eq_self.mpr (fun _ _ => rfl)] at this
  exact this
theorem s_forNUn {D : Ends} {tu : TS} {xs : List V} {tl : TE} {j : Nat} (h : EvU tl σ H xs) (Pv : Addr → Nat → L2.St → Hp → Prop) (h0 : ∀ p H1, H p = none → Ex H H1 → H1 p = some (.tup xs) → Pv p 0 σ H1) (hl : ∀ p i σ' H', i ≤ xs.length → Pv p i σ' H' → SqT K H' p xs)
    (hs : ∀ p i x σ' H', xs[i]? = some x → Pv p i σ' H' → tu { D with nx := Pv p (i + 1), ct := Pv p (i + 1), bk := D.nx } (σ'.set j (some x)) H') (hd : ∀ p σ' H', Pv p xs.length σ' H' → D.nx σ' H') : tFor (iTup K tl) (gName j) tu D σ H :=
  h H (Ex.refl H) _ fun p H1 hp e h1 => ⟨p, rfl, ⟨xs, .inl (.inl h1)⟩, for_tup (Pv p) (h0 p H1 hp e h1) (hl p) (hs p) (hd p)⟩
theorem et_notin {ty td : TE} {d : Addr} {y : V} {o : Option V} (h1 : Ev ty σ H y) (h2 : Ev td σ H (.ref d)) (hg : DGet H d y o) : EvT (tB (tDNotIn ty td)) σ H (!o.isSome) := fun H1 e Q q =>
  h1 H1 e _ fun H2 e2 => h2 H2 (e.trans e2) _ fun H3 e3 => ⟨d, o, rfl, dget_ex ((e.trans e2).trans e3) hg, _, rfl, q H3 (e2.trans e3)⟩
theorem et_in {ty td : TE} {d : Addr} {y : V} {o : Option V} (h1 : Ev ty σ H y) (h2 : Ev td σ H (.ref d)) (hg : DGet H d y o) : EvT (tB (tDIn ty td)) σ H o.isSome := fun H1 e Q q =>
  h1 H1 e _ fun H2 e2 => h2 H2 (e.trans e2) _ fun H3 e3 => ⟨d, o, rfl, dget_ex ((e.trans e2).trans e3) hg, _, rfl, q H3 (e2.trans e3)⟩
theorem et_truL {p : Addr} {xs : List V} (h : Ev te σ H (.ref p)) (hx : SqL K H p xs) : EvT (fun σ H Q => te σ H fun x H' => ∃ k, TruV K x H' k ∧ Q k H') σ H (!xs.isEmpty) := fun H1 e Q q =>
  h H1 e _ fun H2 e2 => ⟨_, .inl ⟨xs, ex_l (e.trans e2) hx, rfl⟩, q H2 e2⟩
theorem q_forNUn {D : Ends} {tu tz : TS} {xs : List V} {tl : TE} {j : Nat} (h : EvU tl σ H xs) (Pv : Addr → Nat → L2.St → Hp → Prop) (h0 : ∀ p H1, H p = none → Ex H H1 → H1 p = some (.tup xs) → Pv p 0 σ H1) (hl : ∀ p i σ' H', i ≤ xs.length → Pv p i σ' H' → SqT K H' p xs)
    (hs : ∀ p i x σ' H', xs[i]? = some x → Pv p i σ' H' → tu { D with nx := Pv p (i + 1), ct := Pv p (i + 1), bk := tz D } (σ'.set j (some x)) H') (hd : ∀ p σ' H', Pv p xs.length σ' H' → tz D σ' H') : tSeq (tFor (iTup K tl) (gName j) tu) tz D σ H :=
  h H (Ex.refl H) _ fun p H1 hp e h1 => ⟨p, rfl, ⟨xs, .inl (.inl h1)⟩, for_tup (Pv p) (h0 p H1 hp e h1) (hl p) (hs p) (hd p)⟩
end
end Ve

set_option Elab.async false
set_option linter.all false
set_option maxRecDepth 100000
set_option maxHeartbeats 2000000
/-! enumerate(x), for .. in x: x a list or a tuple. -/
namespace PySem
open Sem (wp)
theorem vmeets_enumerate {v : Value} {o : Obj} {H : Heap → Prop} (B : Begins v o H) :
    Meets (Builtin.«enumerate.__new__» ⟨[.type "enumerate", v], []⟩) (fun _ R s => H s.heap ∧
      R (.ok (.ret (.ref (s.heap.push o).objs.size))) { s with heap := (s.heap.push o).push { cls := .type "enumerate", data := .fields #[.none, .bool false, .ref s.heap.objs.size, rawInt 0, .none, .none] } }) :=
  .of_wp fun prog w A R s h => by
    obtain ⟨hp, g, d, tk, os⟩ := s; obtain ⟨h1, h⟩ := h
    have hsub := sub_enumerate
    have q1 : ∀ {A' : Around} {E : Value → Shared → Prop} {Q : Value → Shared → Prop}, Q (.ref hp.objs.size) ⟨hp.push o, g, d, tk, os⟩ → wpAny (model prog w) A' (pyIter v) Q E ⟨hp, g, d, tk, os⟩ :=
      fun q => B.iter prog w _ _ ⟨hp, g, d, tk, os⟩ _ h1 q
    wp_walk using q1
    refine wpAny_stack_any fun st => wpAny_pure ?_
    split
    · rename_i c _ _ _ _ _
      cases (c == Value.type "enumerate")
      · wp_walk using q1
        exact ⟨_, rfl, h⟩
      · wp_walk using q1
        exact ⟨_, rfl, h⟩
    · wp_walk using q1
      exact ⟨_, rfl, h⟩
section
variable {prog : Program} {w : World} {A : Around} {E : Value → Shared → Prop} {s : Shared}
theorem vcall_enumerate {v : Value} {o : Obj} {H : Heap → Prop} {Q : Value → Shared → Prop} (B : Begins v o H) (h1 : H s.heap)
    (h : ∀ h', IsEnum h' (s.heap.objs.size + 1) s.heap.objs.size 0 .none → h'.get? s.heap.objs.size = some o → h'.objs.size = s.heap.objs.size + 2 →
      (∀ b o, s.heap.get? b = some o → h'.get? b = some o) → Q (.ref (s.heap.objs.size + 1)) { s with heap := h' }) :
    wpAny (model prog w) A (call (.type "enumerate") [v]) Q E s := by
  refine callType_new F.called_enumerate (by decide) (F.typeCall_enumerate_1 _) (F.newCall_enumerate_1 _) (fun obj => F.args_object_init_2 obj _) F.entry_enumerate_new
    (vmeets_enumerate B) ⟨h1, ?_⟩
  have hz : (s.heap.push o).objs.size = s.heap.objs.size + 1 := Heap.size_push ..
  show _ ∧ _
  rw [hz]
  have he : IsEnum ((s.heap.push o).push { cls := .type "enumerate", data := .fields #[.none, .bool false, .ref s.heap.objs.size, rawInt 0, .none, .none] }) (s.heap.objs.size + 1) s.heap.objs.size 0 .none := by
    have := Heap.get?_push_size (s.heap.push o) (o := { cls := .type "enumerate", data := .fields #[.none, .bool false, .ref s.heap.objs.size, rawInt 0, .none, .none] }) rfl
    rw [hz] at this; exact this
  refine ⟨⟨_, he, rfl⟩, h _ he (Heap.get?_push_of_some _ (Heap.get?_push_size _ B.free)) (by rw [Heap.size_push, hz]) fun b o x => Heap.get?_push_of_some _ (Heap.get?_push_of_some _ x)⟩
end
end PySem
namespace Ven
open PySem PySem.Spec PyProof.Rows L2 Evl Ve
/-- the tuple at a, each item in a new pair -/
def IteT (K : PySem.W.Frag) (a : Addr) : It :=
  ⟨fun i H => ∃ (xs : List V) (x : V), SqT K H a xs ∧ xs[i]? = some x, fun i H v H' => ∃ T x, v = .ref T ∧ H T = none ∧ H' = upd H T (.tup [.int (i : Nat), x]) ∧ ∀ xs, SqT K H a xs → xs[i]? = some x, fun i H => ∃ xs : List V, SqT K H a xs ∧ xs.length ≤ i⟩
theorem turn_enumT {P : Program} {w : World} {K : PySem.W.Frag} {elts : List Expr} {kk : Nat} {tpos : Pos} (a e it : Addr) :
    Turn P w K (.Tuple elts kk tpos) (IteT K a) [e, it] e (fun i h => (∃ old, IsEnum h e it ((i : Nat) : Int) old) ∧ h.IsTupleIter it a i ∧ e ≠ it) where
  mem := by simp
  obj := fun i h st b hb => by
    obtain ⟨⟨old, he⟩, ⟨o, ho, hc, hd⟩, _⟩ := st
    have e' : b = e ∨ b = it := by simpa using hb
    rcases e' with z | z
    · rw [z]; exact ⟨_, he, fun v q => nomatch q⟩
    · rw [z]; exact ⟨o, ho, fun v q => by rw [hd] at q; cases q⟩
  keep := fun i h h' st k => let ⟨⟨old, he⟩, hi, hne⟩ := st; ⟨⟨old, k e (by simp) _ he⟩, hi.at fun o q => k it (by simp) o q, hne⟩
  item := by
    intro X hP hw hK hc i pins s σ H E I hf st hg
    subst hP hw hK
    obtain ⟨⟨old, he⟩, hit, hne⟩ := st
    obtain ⟨xs, x, hq, hx⟩ := hg
    obtain ⟨its, rv, p, hz⟩ := I.tuple hq
    obtain ⟨u, hu, ru⟩ := rv.get hx
    have hel : e < s.heap.objs.size := Heap.lt_size he
    have hil : it < s.heap.objs.size := by obtain ⟨_, q, _⟩ := hit; exact Heap.lt_size q
    have pt : s.heap.IsTuple a its.toArray := p
    have hta : a ≠ it := fun z => by
      obtain ⟨o1, h1, c1, d1⟩ := hit
      obtain ⟨o2, h2, c2, _⟩ := pt
      rw [z, h1] at h2
      cases h2
      rw [c1] at c2
      exact absurd c2 (by decide)
    have hea : e ≠ a := fun z => by
      obtain ⟨o2, h2, c2, _⟩ := pt
      rw [← z] at h2
      have h3 := he
      unfold IsEnum at h3
      rw [h3] at h2
      cases h2
      have c3 : Value.type "enumerate" = Value.type "tuple" := c2
      injection c3 with c4
      exact absurd c4 (by decide)
    have hh1 : X.A.in1.handled = none := I.ok.hd hc
    refine wpAny_pyNext_enum_itemD (i := i) (Draws.tuple hh1 it a hta its.toArray) he ⟨hit, pt⟩ (by
      have := (List.getElem?_eq_some_iff.mp hu).1
      simpa using this) hne (by simp [hne, hea]) fun y h' tk hy ho hs' hT hsz hk => ?_
    have hyu : y = u := by
      have : its.toArray[i]? = some u := by simpa using hu
      rw [this] at hy
      exact (Option.some.inj hy).symm
    subst hyu
    obtain ⟨hit', _⟩ := hs'
    refine ⟨_, rfl, wpAny_letOwnedTupleGo_enum (s := { s with heap := h', toks := tk + 1 }) ho fun h'' he' sb => ?_⟩
    have hT2 : h''.get? s.heap.objs.size = some { cls := .type "tuple", data := .seq #[.int i tk, y] } := (sb.2 _ (Nat.ne_of_gt hel)).trans hT
    have new : ObjOk X.prog X.w (upd H s.heap.objs.size (.tup [.int (i : Nat), x])) h'' s.heap.objs.size (.tup [.int (i : Nat), x]) :=
      ⟨by show 2 ≤ sizeLine; decide, [.int i tk, y], .cons ⟨_, rfl⟩ (.cons ru .nil), ⟨_, hT2, rfl, _, rfl⟩⟩
    have I1 : Inv X pins σ (upd H s.heap.objs.size (.tup [.int (i : Nat), x])) { s with heap := h'', toks := tk + 1 } :=
      I.turnedNew (ch := [e, it]) (fun b ob hb q => (sb.2 b (fun z => hb (by simp [z]))).trans (hk b ob (fun z => hb (by simp [z])) (fun z => hb (by simp [z])) q)) hf (Nat.le_refl _) new
    refine ⟨.ref s.heap.objs.size, _, I1, rfl, ⟨_, x, rfl, I.hok.fresh (Nat.le_refl _), rfl, fun ys hy => by rw [I.tuple_inj hy hq]; exact hx⟩, ⟨⟨y, ?_⟩, hit'.at fun o q => (sb.2 it (Ne.symm hne)).trans q, hne⟩, fun b hb => ?_⟩
    · have e1 : ((i + 1 : Nat) : Int) = (i : Int) + 1 := by omega
      rw [e1]; exact he'
    · have hb' : b < s.heap.objs.size := by
        have e' : b = e ∨ b = it := by simpa using hb
        rcases e' with z | z
        · rw [z]; exact hel
        · rw [z]; exact hil
      rw [upd_ne (Nat.ne_of_lt hb')]
      exact (hf b hb).1
  done := by
    intro X hP hw hK hc i pins s σ H E I hf st hg
    subst hP hw hK
    obtain ⟨⟨old, he⟩, hit, hne⟩ := st
    obtain ⟨xs, hq, hx⟩ := hg
    obtain ⟨its, rv, p, hz⟩ := I.tuple hq
    obtain ⟨f0, f1, f2, f3, f4, f5⟩ := hf it (by simp)
    have hl := rv.length
    have pt : s.heap.IsTuple a its.toArray := p
    have hh1 : X.A.in1.handled = none := I.ok.hd hc
    have hT : s.TypeIs (.ref e) "enumerate" := ⟨_, he, rfl⟩
    unfold pyNext
    refine wpAny_bind (wpAny_attempt (wpAny_callSpecial?_slot (name := Str.ofString "__next__") hT F.slot_enumerate_next
      (wpAny_call_entry F.slot_enumerate_next hT F.entry_enumerate_next ?_ (F.args_enumerate_next_1 _))))
    show wpAny _ _ (field (.ref e) 2 >>= _) _ _ _
    refine wpAny_bind (wpAny_field he rfl (x := .ref it) rfl ?_)
    refine wpAny_bind (wpAny_nextOf_tuple_end hh1 hit pt (by simp; omega) fun h' x he' hx' => ?_)
    obtain ⟨o, ho, hc⟩ := hx'
    refine wpAny_bind (wpAny_isInstance (T := "StopIteration") (b := true) ⟨o, ho, hc⟩ isSubtype_stop ?_)
    exact wpAny_pure ⟨rfl, I.turned (t' := s.toks) (fun b o hb q => he' b o hb q) f0 f1 f3 f4 f5⟩
  self := fun A i s Q E st h => let ⟨⟨_, he⟩, _⟩ := st; wpAny_pyIter_enum he h
/-- a list or a tuple -/
def SqA (K : PySem.W.Frag) (H : Hp) (a : Addr) (xs : List V) : Prop := SqL K H a xs ∨ SqT K H a xs
theorem ex_a {K : PySem.W.Frag} {H H' : Hp} {a : Addr} {xs : List V} (e : Ex H H') (h : SqA K H a xs) : SqA K H' a xs := h.imp (ex_l e) (ex_t e)
def iEnumA (K : PySem.W.Frag) (ta : TA) : TI := fun σ H R => ta σ H fun vs H1 => ∃ a xs, vs = [.ref a] ∧ ((SqL K H1 a xs ∧ R (Ite K a) H1) ∨ (SqT K H1 a xs ∧ R (IteT K a) H1))
theorem pi_enumA {X : Cx} {e : Expr} {ta : TA} {p pos tpos : Pos} {elts : List Expr} {kk : Nat} (hg : Gl X "enumerate") (hm : X.mg "enumerate" = none) (ha : PA X [e] ta) (hs : starEach [e] X.env = [(false, eval e X.env)] := by rfl) :
    PI X (.Tuple elts kk tpos) (.Call (.Name "enumerate" p) [e] [] pos) (iEnumA X.K ta) := by
  refine ⟨fun pins s σ H R I h => ?_⟩
  refine Call_ (ld_blt I hg hm boot_enumerate (PyProof.Rows.callWith_type1 (thn (ha.run pos pins s σ H _ I h) fun us s1 ⟨vs, H1, I1, r1, q1⟩ => ?_) hs rfl))
  obtain ⟨a, xs, ex, q⟩ := q1
  subst ex
  cases r1 with
  | cons r rr =>
    cases rr
    cases r
    have fin : ∀ {o : Obj} {Hh : Heap → Prop} {J : It} {St : Nat → Heap → Prop}, Begins (.ref a) o Hh → Hh s1.heap → Turn X.prog X.w X.K (.Tuple elts kk tpos) J [s1.heap.objs.size + 1, s1.heap.objs.size] (s1.heap.objs.size + 1) St →
        (∀ h', IsEnum h' (s1.heap.objs.size + 1) s1.heap.objs.size 0 .none → h'.get? s1.heap.objs.size = some o → St 0 h') → R J H1 →
        wpAny (model X.prog X.w) X.A (call (.type "enumerate") [.ref a]) (fun v => wpAny (model X.prog X.w) X.A (pyIter v) (PIE X pins σ (.Tuple elts kk tpos) R) X.xe) X.xe s1 := fun B hB T hst q => by
      refine vcall_enumerate B hB fun h' he hit hsz hk => wpAny_pyIter_enum he ?_
      have I2 : Inv X pins σ H1 { s1 with heap := h' } := I1.kept (t' := s1.toks) hk
      refine ⟨s1.heap.objs.size + 1, [s1.heap.objs.size + 1, s1.heap.objs.size], _, _, H1, rfl, I2, T, hst h' he hit, fun b hb => ?_, q⟩
      have e' : b = s1.heap.objs.size + 1 ∨ b = s1.heap.objs.size := by simpa using hb
      have hle : s1.heap.objs.size ≤ b := by
        rcases e' with z | z
        · rw [z]; exact Nat.le_add_right _ _
        · rw [z]; exact Nat.le_refl _
      exact I1.fpOk hle (I1.hok.fresh hle)
    rcases q with ⟨hq, q⟩ | ⟨hq, q⟩
    · obtain ⟨its, rv, p', hz⟩ := I1.list hq
      exact fin (begins_list a its.toArray) p'.isList (turn_enum a _ _) (fun h' he hit => ⟨⟨.none, he⟩, ⟨_, hit, rfl, rfl⟩, Nat.succ_ne_self _⟩) q
    · obtain ⟨its, rv, p', hz⟩ := I1.tuple hq
      exact fin (begins_tuple a its.toArray) (show s1.heap.IsTuple a its.toArray from p') (turn_enumT a _ _) (fun h' he hit => ⟨⟨.none, he⟩, ⟨_, hit, rfl, rfl⟩, Nat.succ_ne_self _⟩) q
def iSeqA (K : PySem.W.Frag) (tl : TE) : TI := fun σ H R => tl σ H fun x H1 => ∃ a, x = .ref a ∧ (((∃ xs, SqL K H1 a xs) ∧ R (Itl K a) H1) ∨ ((∃ xs, SqT K H1 a xs) ∧ R (Itt K a) H1))
theorem pi_seqA {X : Cx} {tg l : Expr} {tl : TE} (hl : PE X l tl) : PI X tg l (iSeqA X.K tl) := by
  refine ⟨fun pins s σ H R I h => ?_⟩
  refine thn (hl.run pins s σ H _ I h) fun v s1 ⟨x, H1, I1, r1, q1⟩ => ?_
  obtain ⟨a, e, ⟨⟨xs, hq⟩, q⟩ | ⟨⟨xs, hq⟩, q⟩⟩ := q1
  · subst e
    cases r1
    obtain ⟨its, rv, p, hz⟩ := I1.list hq
    refine wpAny_pyIter_list p.isList ?_
    refine ⟨s1.heap.objs.size, [s1.heap.objs.size], _, _, H1, rfl, I1.kept (t' := s1.toks) fun b o e => Heap.get?_push_of_some _ e, turn_list a _, ⟨_, Heap.get?_push_size _ rfl, rfl, rfl⟩, fun b hb => ?_, q⟩
    have e : b = s1.heap.objs.size := by simpa using hb
    subst e
    exact I1.fpOk (Nat.le_refl _) (I1.hok.fresh (Nat.le_refl _))
  · subst e
    cases r1
    obtain ⟨its, rv, p, hz⟩ := I1.tuple hq
    refine wpAny_pyIter_tuple (show s1.heap.IsTuple a its.toArray from p) ?_
    refine ⟨s1.heap.objs.size, [s1.heap.objs.size], _, _, H1, rfl, I1.kept (t' := s1.toks) fun b o e => Heap.get?_push_of_some _ e, turn_tuple a _, ⟨_, Heap.get?_push_size _ rfl, rfl, rfl⟩, fun b hb => ?_, q⟩
    have e : b = s1.heap.objs.size := by simpa using hb
    subst e
    exact I1.fpOk (Nat.le_refl _) (I1.hok.fresh (Nat.le_refl _))
/-! their readings -/
section
variable {K : PySem.W.Frag} {σ : L2.St} {H : Hp} {D : Ends} {tu : TS} {g : TG} {a : Addr} {xs : List V}
def YEn (xs : List V) : Nat → Hp → V → Hp → Prop := fun i H v H' => ∃ T x, v = .ref T ∧ H T = none ∧ H' = upd H T (.tup [.int (i : Nat), x]) ∧ xs[i]? = some x
theorem walk_en : Walk (Ite K a) xs.length (fun H => SqL K H a xs) (YEn xs) :=
  ⟨fun i _ hi q => ⟨xs, xs[i], q, by simp [hi]⟩, fun _ q => ⟨xs, q, Nat.le_refl _⟩, fun _ _ _ _ _ q y => let ⟨T, x, h1, h2, h3, h4⟩ := y; ⟨T, x, h1, h2, h3, h4 xs q⟩⟩
theorem walk_enT : Walk (IteT K a) xs.length (fun H => SqT K H a xs) (YEn xs) :=
  ⟨fun i _ hi q => ⟨xs, xs[i], q, by simp [hi]⟩, fun _ q => ⟨xs, q, Nat.le_refl _⟩, fun _ _ _ _ _ q y => let ⟨T, x, h1, h2, h3, h4⟩ := y; ⟨T, x, h1, h2, h3, h4 xs q⟩⟩
theorem s_forEn {ta : TA} (h : EvA ta σ H [.ref a]) (hx : SqA K H a xs) (Pv : Nat → L2.St → Hp → Prop) (h0 : ∀ H1, Ex H H1 → Pv 0 σ H1) (hl : ∀ i σ' H', Pv i σ' H' → Ex H H')
    (hs : ∀ i x T σ' H', xs[i]? = some x → Pv i σ' H' → H' T = none → g (.ref T) σ' (upd H' T (.tup [.int (i : Nat), x])) fun σ2 H2 => tu { D with nx := Pv (i + 1), ct := Pv (i + 1), bk := D.nx } σ2 H2) (hd : ∀ σ' H', Pv xs.length σ' H' → D.nx σ' H') : tFor (iEnumA K ta) g tu D σ H :=
  h H (Ex.refl H) _ fun H1 e => ⟨a, xs, rfl, by
    rcases hx with hx | hx
    · exact .inl ⟨ex_l e hx, for_it walk_en Pv (h0 H1 e) (fun i σ' H' _ p => ex_l (hl i σ' H' p) hx) (fun i v σ' H' H2 _ p ⟨T, x, e1, e2, e3, e4⟩ => by subst e1 e3; exact hs i x T σ' H' e4 p e2) hd⟩
    · exact .inr ⟨ex_t e hx, for_it walk_enT Pv (h0 H1 e) (fun i σ' H' _ p => ex_t (hl i σ' H' p) hx) (fun i v σ' H' H2 _ p ⟨T, x, e1, e2, e3, e4⟩ => by subst e1 e3; exact hs i x T σ' H' e4 p e2) hd⟩⟩
theorem s_forSq {tl : TE} (h : Ev tl σ H (.ref a)) (hx : SqA K H a xs) (Pv : Nat → L2.St → Hp → Prop) (h0 : ∀ H1, Ex H H1 → Pv 0 σ H1) (hl : ∀ i σ' H', Pv i σ' H' → Ex H H')
    (hs : ∀ i x σ' H', xs[i]? = some x → Pv i σ' H' → g x σ' H' fun σ2 H2 => tu { D with nx := Pv (i + 1), ct := Pv (i + 1), bk := D.nx } σ2 H2) (hd : ∀ σ' H', Pv xs.length σ' H' → D.nx σ' H') : tFor (iSeqA K tl) g tu D σ H :=
  h H (Ex.refl H) _ fun H1 e => ⟨a, rfl, by
    rcases hx with hx | hx
    · exact .inl ⟨⟨xs, ex_l e hx⟩, for_list Pv (h0 H1 e) (fun i σ' H' _ p => ex_l (hl i σ' H' p) hx) hs hd⟩
    · exact .inr ⟨⟨xs, ex_t e hx⟩, for_tup Pv (h0 H1 e) (fun i σ' H' _ p => ex_t (hl i σ' H' p) hx) hs hd⟩⟩
theorem ev_lenQ {te : TE} (h : Ev te σ H (.ref a)) (hx : SqA K H a xs) : Ev (tCB (fun vs H Q => ∃ x n, vs = [x] ∧ LenV K x H n ∧ Q (.int n) H) (tCons te tNil)) σ H (.int (xs.length : Nat)) := fun H1 e Q q =>
  h H1 e _ fun H2 e2 => ⟨.ref a, xs.length, rfl, (ex_a (e.trans e2) hx).imp (fun h => ⟨xs, h, rfl⟩) (fun h => ⟨xs, h, rfl⟩), q H2 e2⟩
end
end Ven

set_option Elab.async false
set_option linter.all false
set_option maxRecDepth 100000
set_option maxHeartbeats 4000000
namespace K05
open PySem PySem.Spec PyProof.Rows L2 Vl Evl Vp Vx2 Ven
abbrev sChkL : Stmt := top 20
/-- check_lanes(net, names) -/
def spChkL (K : PySem.W.Frag) (C NL : Addr) : Sp := fun vs H Q E => ∃ (o dx dp de t : Addr) (ps : List (List Nat)) (es : List Row) (ns : List (List Nat)), vs = [.ref o, .ref t] ∧ NetAt C H o dx dp de ps es ∧ SqA K H t (vtx ns) ∧
  (((∀ l ∈ ns, l ∈ laneNames es) ∧ ∀ H', Ex H H' → Q .non H') ∨ ∃ l, FirstOut ns (laneNames es) l ∧ RaisedF NL "name" H (.str (tx l)) E)
section
variable {P : Program} {w : World} {K : PySem.W.Frag} {mg : Str → Option Value} {base : Heap} {C NL fH : Addr}
theorem scCL : FnScope ["net", "names", "name"] ["net", "names"] (defScope sChkL) := ⟨rfl, rfl, rfl, by decide +kernel, rfl, by decide +kernel, by decide +kernel⟩
theorem ok_chkl {f : Addr} {fd fdH : FuncData} (F : FnP K "check_lanes" sChkL f fd) (c : Cls K C) (MH : Meth K C "__contains__" fH) (bH : Binds K fdH ["self", "x"] []) (GH : FnOk P w K mg base CX0 1 fH fdH ["self", "x"] (spHas K C)) (EP : Err1 P w K mg base "NoLane" "name" NL) :
    FnOk P w K mg base (L2.CX P w) 3 f fd ["net", "names"] (spChkL K C NL) := by
  obtain ⟨fE, fdE, iC, tI, bE, GE⟩ := EP.ini
  refine F.ok (CX := L2.CX P w) scCL (fun vs H Q E h => ?_) (fun cdv A outer s H vs Q E hr h => ?_)
  · obtain ⟨o, dx, dp, de, t, ps, es, ns, rfl, _⟩ := h
    rfl
  · have hr2 : Room 2 _ := hr
    have hr1 : Room 1 _ := hr.mono (by omega)
    refine ⟨_, (pss_one (ps_for (passes_of rfl) rfl (pi_seqA (pv 1)) (pg_name (i := 2) scCL.nd rfl (by first | exact Or.inl rfl | exact Or.inr rfl))
      (pss_one (ps_if (pt_cmpR (Vo.op_notInO (E1 := E0) MH GH hr1 bH pass0) (pv 2) (pv 0) rfl) (pss_one (ps_raise rfl (takes_of rfl rfl rfl rfl) (pmk_oex EP.T iC tI GE hr2 bE .nil pass0 (by rfl) EP.g (pa_cons (pv 2) pa_nil)))) pss_nil)))), ?_⟩
    obtain ⟨o, dx, dp, de, t, ps, es, ns, rfl, N, ht, h⟩ := h
    refine s_forSq (a := t) (ev_var rfl) ht (fun i st H' => ∃ t2, st = [some (.ref o), some (.ref t), t2] ∧ Ex H H' ∧ ∀ (j : Nat) (y : List Nat), j < i → ns[j]? = some y → y ∈ laneNames es)
      (fun H1 e => ⟨none, rfl, e, fun j y hj => absurd hj (Nat.not_lt_zero j)⟩) (fun i st H' ⟨_, _, e, _⟩ => e) ?_ ?_
    · rintro i x σ' H1 hx ⟨t2, rfl, e1, hall⟩
      unfold vtx at hx
      rw [List.getElem?_map] at hx
      obtain ⟨l, hl, rfl⟩ := Option.map_eq_some_iff.mp hx
      have N1 := N.mono e1
      refine ⟨_, rfl, _, rfl, o, dx, _, rfl, N1.at_, o, dx, dp, de, _, ps, es, rfl, N1, .inl ⟨l, rfl, _, rfl, _, rfl, ?_⟩⟩
      rw [if_pos rfl]
      by_cases hm : l ∈ laneNames es
      · refine if_f (by rw [decide_eq_true hm]; decide) ?_
        refine ⟨_, rfl, e1, fun j y hj hy => ?_⟩
        by_cases hji : j < i
        · exact hall j y hji hy
        · obtain rfl : j = i := by omega
          rw [hl] at hy
          obtain rfl := Option.some.inj hy
          exact hm
      · refine if_t (by rw [decide_eq_false hm]; rfl) ?_
        rcases h with ⟨ha, _⟩ | ⟨l2, ⟨i2, g1, g2, g3⟩, q⟩
        · exact absurd (ha l (List.mem_of_getElem? hl)) hm
        · have ei : i = i2 := by
            rcases Nat.lt_trichotomy i i2 with h1 | h1 | h1
            · exact absurd (g3 i l h1 hl) hm
            · exact h1
            · exact absurd (hall i2 l2 h1 g1) g2
          rw [ei] at hl
          rw [hl] at g1
          obtain rfl := Option.some.inj g1
          exact raised_f (W := fun cls d _ H' => E cls d H') 2 rfl rfl (RaisedF.grow q e1)
    · rintro st H1 ⟨t2, rfl, e1, hall⟩
      rcases h with ⟨ha, q⟩ | ⟨l2, ⟨i2, g1, g2, g3⟩, q⟩
      · exact q H1 e1
      · exact absurd (hall i2 l2 (by rw [vtx_len]; exact (List.getElem?_eq_some_iff.mp g1).1) g1) g2
end
end K05

set_option Elab.async false
set_option linter.all false
set_option maxRecDepth 100000
set_option maxHeartbeats 4000000
namespace K05
open PySem PySem.Spec PyProof.Rows L2 Vl Evl Vp Vx2
abbrev sLane : Stmt := mem 2
/-- net.lane(name, start, end) -/
def spLane (C BN NT NP : Addr) : Sp := fun vs H Q E => ∃ (o dx dp de : Addr) (ps : List (List Nat)) (es : List Row) (l a b : List Nat), vs = [.ref o, .str (tx l), .str (tx a), .str (tx b)] ∧ NetAt C H o dx dp de ps es ∧ es.length ≤ 1000 ∧
  ((nam l ∧ l ∉ laneNames es ∧ a ∈ ps ∧ b ∈ ps ∧ ∀ t H', Ex H H' → H t = none → H' t = some (.tup [.str (tx a), .str (tx b)]) → Q .non (upd H' de (.dK (dEnds (es ++ [(t, (l, a, b))]))))) ∨
   (l = [65] ∧ RaisedF BN "name" H (.str (tx l)) E) ∨ (nam l ∧ l ∈ laneNames es ∧ RaisedF NT "name" H (.str (tx l)) E) ∨
   (nam l ∧ l ∉ laneNames es ∧ ∃ x, FirstOut [a, b] ps x ∧ RaisedF NP "name" H (.str (tx x)) E))
section
variable {P : Program} {w : World} {K : PySem.W.Frag} {mg : Str → Option Value} {base : Heap} {C BN NT NP : Addr}
theorem scLa : FnScope ["self", "name", "start", "end"] ["self", "name", "start", "end"] (defScope sLane) := ⟨rfl, rfl, rfl, by decide +kernel, rfl, by decide +kernel, by decide +kernel⟩
theorem ok_lane {f fN fP : Addr} {fd fdN fdP : FuncData} (F : FnM K "lane" "Net.lane" sLane f fd) (c : Cls K C) (n1 : NoAttr K C "_ends") (FN : FnP K "check_name" sChkN fN fdN) (gN : mg "check_name" = some (.ref fN))
    (GN : FnOk P w K mg base (L2.CX P w) 3 fN fdN ["value"] (spChkN BN)) (ET : Err1 P w K mg base "NameTaken" "name" NT) (FP : FnP K "check_posts" sChkP fP fdP) (gP : mg "check_posts" = some (.ref fP)) (GP : FnOk P w K mg base (L2.CX P w) 3 fP fdP ["net", "names"] (spChkP K C NP)) :
    FnOk P w K mg base (L2.CX P w) 4 f fd ["self", "name", "start", "end"] (spLane C BN NT NP) := by
  have bN : Binds K fdN ["value"] [] := FN.bindsN fun _ _ _ _ _ _ us hl => match us, hl with | [_], _ => rfl
  have kN := FN.kp
  have bP : Binds K fdP ["net", "names"] [] := FP.bindsN fun _ _ _ _ _ _ us hl => match us, hl with | [_, _], _ => rfl
  have kP := FP.kp
  obtain ⟨fE, fdE, iC, tI, bE, GE⟩ := ET.ini
  refine F.ok (CX := L2.CX P w) scLa (fun vs H Q E h => ?_) (fun cdv A outer s H vs Q E hr h => ?_)
  · obtain ⟨o, dx, dp, de, ps, es, l, a, b, rfl, _⟩ := h
    rfl
  · have hr3 : Room 3 _ := hr
    have hr2 : Room 2 _ := hr.mono (by omega)
    refine ⟨_, (pss_cut (ps_expr (pe_callS (E := WE fun cls d _ H => E cls d H) GN hr3 (by rfl) gN kN bN (fun st => passAt (takes_of rfl rfl rfl rfl) st) (pa_cons (pv 1) pa_nil)))
      (pss_cons (ps_if (pt_cmp (pc_din (Nat.lt_of_le_of_lt (Nat.add_le_add_left (show 1 ≤ 64 by decide) _) hr.units) (pv 1) (pe_fld (pv 0) rfl))) (pss_one (ps_raise rfl (takes_of rfl rfl rfl rfl) (pmk_oex ET.T iC tI GE hr2 bE .nil pass0 (by rfl) ET.g (pa_cons (pv 1) pa_nil)))) pss_nil)
      (pss_cons (ps_expr (pe_callS (E := WE fun cls d _ H => E cls d H) GP hr3 (by rfl) gP kP bP (fun st => passAt (takes_of rfl rfl rfl rfl) st) (pa_cons (pv 0) (pa_cons (pe_tup (pa_cons (pv 2) (pa_cons (pv 3) pa_nil))) pa_nil))))
      (pss_one (ps_asg (pe_tup (pa_cons (pv 2) (pa_cons (pv 3) pa_nil))) (pg_sub (pe_fld (pv 0) rfl) (pv 1) (set_dict (Nat.lt_of_le_of_lt (Nat.add_le_add_left (show 1 ≤ 64 by decide) _) hr.units)))))))), ?_⟩
    obtain ⟨o, dx, dp, de, ps, es, l, a, b, rfl, N, h1, h⟩ := h
    refine ⟨fun st' H' => st' = [some (.ref o), some (.str (tx l)), some (.str (tx a)), some (.str (tx b))] ∧ Ex H H' ∧ nam l, ?_, ?_⟩
    · refine ⟨_, rfl, ?_⟩
      rcases h with ⟨hl, _⟩ | ⟨rfl, q⟩ | ⟨hl, _⟩ | ⟨hl, _⟩
      · exact ⟨l, rfl, .inl ⟨hl, fun H' e => ⟨rfl, e, hl⟩⟩⟩
      · exact ⟨[65], rfl, .inr ⟨rfl, q⟩⟩
      · exact ⟨l, rfl, .inl ⟨hl, fun H' e => ⟨rfl, e, hl⟩⟩⟩
      · exact ⟨l, rfl, .inl ⟨hl, fun H' e => ⟨rfl, e, hl⟩⟩⟩
    rintro _ H1 ⟨rfl, e1, hl⟩
    have n65 : ¬ nam [65] := fun ⟨c, r, e, hc, _⟩ => by
      obtain rfl := (List.cons.inj e).1
      exact absurd hc (by decide)
    have N1 := N.mono e1
    refine s_seq ?_
    refine ⟨_, rfl, _, rfl, o, C, dx, _, .ref de, rfl, N1.at_, c, n1, rfl, de, _, rfl, DGet.k (k := (Sum.inr (tx l) : Key)) N1.ends, _, rfl, ?_⟩
    rw [ends_val]
    by_cases hm : l ∈ laneNames es
    · refine if_t (by rw [decide_eq_true hm]) ?_
      rcases h with ⟨_, hn, _⟩ | ⟨rfl, _⟩ | ⟨_, _, q⟩ | ⟨_, hn, _⟩
      · exact absurd hm hn
      · exact absurd hl n65
      · exact raised_f (W := fun cls d _ H' => E cls d H') 1 rfl rfl (RaisedF.grow q e1)
      · exact absurd hm hn
    · refine if_f (by rw [decide_eq_false hm]; decide) ?_
      dsimp only
      refine s_seq ?_
      refine ⟨_, rfl, _, rfl, _, rfl, by show 2 ≤ sizeLine; decide, fun t0 nt0 => ?_⟩
      have e2 := e1.trans (Ex.new (o := .tup [.str (tx a), .str (tx b)]) nt0)
      refine ⟨o, dx, dp, de, t0, ps, es, [a, b], rfl, N.mono e2, .inl (.inl upd_same), ?_⟩
      rcases h with ⟨_, _, ha, hb, q⟩ | ⟨rfl, _⟩ | ⟨_, hn, _⟩ | ⟨_, _, x, fo, q⟩
      · refine .inl ⟨fun y hy => ?_, fun H3 e3 => ?_⟩
        · rcases List.mem_cons.mp hy with rfl | hy
          · exact ha
          · rw [List.mem_singleton.mp hy]
            exact hb
        · refine ⟨_, rfl, _, rfl, by show 2 ≤ sizeLine; decide, fun t nt => ?_⟩
          have e4 := (e2.trans e3).trans (Ex.new (o := .tup [.str (tx a), .str (tx b)]) nt)
          have N4 := N.mono e4
          refine ⟨_, rfl, o, C, dx, _, .ref de, rfl, N4.at_, c, n1, rfl, _, rfl, de, _, rfl, DPut.k (k := (Sum.inr (tx l) : Key)) N4.ends (sz_lt (by unfold dEnds; rw [List.length_map]; omega)), ?_⟩
          have hv : valV (dEnds es) (Sum.inr (tx l) : Key) = none := by
            have := ends_val es l
            rw [decide_eq_false hm] at this
            exact Option.not_isSome_iff_eq_none.mp (by rw [this]; decide)
          rw [putK_new _ hv]
          have := q t _ e4 (fresh_back (e2.trans e3) nt) upd_same
          unfold dEnds at *
          rw [List.map_append] at this
          exact this
      · exact absurd hl n65
      · exact absurd hn hm
      · exact .inr ⟨x, fo, RaisedF.grow q e2⟩
end
end K05

set_option Elab.async false
set_option linter.all false
set_option maxRecDepth 100000
set_option maxHeartbeats 4000000
namespace K05
open PySem PySem.Spec PyProof.Rows L2 Vl Evl Vp Vx2
abbrev sStart : Stmt := mem 6
abbrev sEnd : Stmt := mem 7
/-- the row of the lane l -/
def rowOf (es : List Row) (l : List Nat) : Option Row := es.find? fun e => decide (e.2.1 = l)
theorem ends_get (l : List Nat) : ∀ es : List Row, valV (dEnds es) (Sum.inr (tx l) : Key) = (rowOf es l).map fun e => V.ref e.1
  | [] => rfl
  | x :: r => by
    have ih := ends_get l r
    unfold dEnds rowOf at *
    rw [List.map_cons]
    by_cases h : x.2.1 = l
    · rw [valV_pos (by rw [h]), List.find?_cons, decide_eq_true h]
      rfl
    · have hn : ¬ (Sum.inr (tx x.2.1) : Key) = Sum.inr (tx l) := fun z => h (tx_inj (Sum.inr.inj z))
      rw [valV_neg hn, ih, List.find?_cons, decide_eq_false h]
theorem rowOf_mem {es : List Row} {l : List Nat} {r : Row} (h : rowOf es l = some r) : r ∈ es ∧ r.2.1 = l := ⟨List.mem_of_find?_eq_some h, of_decide_eq_true (List.find?_some (p := fun e : Row => decide (e.2.1 = l)) h)⟩
/-- net.start_of(l), net.end_of(l) -/
def spEndOf (C NL : Addr) (g : Row → List Nat) : Sp := fun vs H Q E => ∃ (o dx dp de : Addr) (ps : List (List Nat)) (es : List Row) (l : List Nat), vs = [.ref o, .str (tx l)] ∧ NetAt C H o dx dp de ps es ∧
  ((∃ r, rowOf es l = some r ∧ ∀ H', Ex H H' → Q (.str (tx (g r))) H') ∨ (l ∉ laneNames es ∧ RaisedF NL "name" H (.str (tx l)) E))
section
variable {P : Program} {w : World} {K : PySem.W.Frag} {mg : Str → Option Value} {base : Heap} {C NL : Addr}
theorem scSt : FnScope ["self", "lane"] ["self", "lane"] (defScope sStart) := ⟨rfl, rfl, rfl, by decide +kernel, rfl, by decide +kernel, by decide +kernel⟩
theorem scEd : FnScope ["self", "lane"] ["self", "lane"] (defScope sEnd) := ⟨rfl, rfl, rfl, by decide +kernel, rfl, by decide +kernel, by decide +kernel⟩
theorem ok_start {f fL : Addr} {fd fdL : FuncData} (F : FnM K "start_of" "Net.start_of" sStart f fd) (c : Cls K C) (n1 : NoAttr K C "_ends") (FL : FnP K "check_lanes" sChkL fL fdL) (gL : mg "check_lanes" = some (.ref fL)) (GL : FnOk P w K mg base (L2.CX P w) 3 fL fdL ["net", "names"] (spChkL K C NL)) :
    FnOk P w K mg base (L2.CX P w) 4 f fd ["self", "lane"] (spEndOf C NL fun r => r.2.2.1) := by
  have bL : Binds K fdL ["net", "names"] [] := FL.bindsN fun _ _ _ _ _ _ us hl => match us, hl with | [_, _], _ => rfl
  have kL := FL.kp
  refine F.ok (CX := L2.CX P w) scSt (fun vs H Q E h => ?_) (fun cdv A outer s H vs Q E hr h => ?_)
  · obtain ⟨o, dx, dp, de, ps, es, l, rfl, _⟩ := h
    rfl
  · have hr3 : Room 3 _ := hr
    refine ⟨_, (pss_cons (ps_expr (pe_callS (E := WE fun cls d _ H => E cls d H) GL hr3 (by rfl) gL kL bL (fun st => passAt (takes_of rfl rfl rfl rfl) st) (pa_cons (pv 0) (pa_cons (pe_tup (pa_cons (pv 1) pa_nil)) pa_nil))))
      (pss_one (ps_ret (pe_ix ix_tup (pe_dget (Nat.lt_of_le_of_lt (Nat.add_le_add_left (show 1 ≤ 64 by decide) _) hr.units) (pe_fld (pv 0) rfl) (pv 1) (fun _ _ => rfl)) pe_int fun _ _ => rfl)))), ?_⟩
    obtain ⟨o, dx, dp, de, ps, es, l, rfl, N, h⟩ := h
    refine s_seq ?_
    refine ⟨_, rfl, _, rfl, by show 1 ≤ sizeLine; decide, fun t0 nt0 => ?_⟩
    have e2 := Ex.new (H := H) (o := .tup [.str (tx l)]) nt0
    refine ⟨o, dx, dp, de, t0, ps, es, [l], rfl, N.mono e2, .inr (.inl (.inl upd_same)), ?_⟩
    rcases h with ⟨r, hr1, q⟩ | ⟨hn, q⟩
    · obtain ⟨hm, hname⟩ := rowOf_mem hr1
      refine .inl ⟨fun y hy => ?_, fun H3 e3 => ?_⟩
      · rw [List.mem_singleton.mp hy, ← hname]
        exact List.mem_map_of_mem hm
      · have e4 := e2.trans e3
        have N4 := N.mono e4
        have hv : valV (dEnds es) (Sum.inr (tx l) : Key) = some (V.ref r.1) := by rw [ends_get, hr1]; rfl
        refine ⟨_, rfl, o, C, dx, _, .ref de, rfl, N4.at_, c, n1, rfl, _, rfl, de, .ref r.1, rfl, hv ▸ DGet.k (k := (Sum.inr (tx l) : Key)) N4.ends, r.1, _, 0, _, rfl, rfl, .inl (.inl (N4.rows r hm)), at_of (j := 0) rfl rfl, q H3 e4⟩
    · exact .inr ⟨l, ⟨0, rfl, hn, fun j y hj => absurd hj (Nat.not_lt_zero j)⟩, RaisedF.grow q e2⟩
theorem ok_end {f fL : Addr} {fd fdL : FuncData} (F : FnM K "end_of" "Net.end_of" sEnd f fd) (c : Cls K C) (n1 : NoAttr K C "_ends") (FL : FnP K "check_lanes" sChkL fL fdL) (gL : mg "check_lanes" = some (.ref fL)) (GL : FnOk P w K mg base (L2.CX P w) 3 fL fdL ["net", "names"] (spChkL K C NL)) :
    FnOk P w K mg base (L2.CX P w) 4 f fd ["self", "lane"] (spEndOf C NL fun r => r.2.2.2) := by
  have bL : Binds K fdL ["net", "names"] [] := FL.bindsN fun _ _ _ _ _ _ us hl => match us, hl with | [_, _], _ => rfl
  have kL := FL.kp
  refine F.ok (CX := L2.CX P w) scEd (fun vs H Q E h => ?_) (fun cdv A outer s H vs Q E hr h => ?_)
  · obtain ⟨o, dx, dp, de, ps, es, l, rfl, _⟩ := h
    rfl
  · have hr3 : Room 3 _ := hr
    refine ⟨_, (pss_cons (ps_expr (pe_callS (E := WE fun cls d _ H => E cls d H) GL hr3 (by rfl) gL kL bL (fun st => passAt (takes_of rfl rfl rfl rfl) st) (pa_cons (pv 0) (pa_cons (pe_tup (pa_cons (pv 1) pa_nil)) pa_nil))))
      (pss_one (ps_ret (pe_ix ix_tup (pe_dget (Nat.lt_of_le_of_lt (Nat.add_le_add_left (show 1 ≤ 64 by decide) _) hr.units) (pe_fld (pv 0) rfl) (pv 1) (fun _ _ => rfl)) pe_int fun _ _ => rfl)))), ?_⟩
    obtain ⟨o, dx, dp, de, ps, es, l, rfl, N, h⟩ := h
    refine s_seq ?_
    refine ⟨_, rfl, _, rfl, by show 1 ≤ sizeLine; decide, fun t0 nt0 => ?_⟩
    have e2 := Ex.new (H := H) (o := .tup [.str (tx l)]) nt0
    refine ⟨o, dx, dp, de, t0, ps, es, [l], rfl, N.mono e2, .inr (.inl (.inl upd_same)), ?_⟩
    rcases h with ⟨r, hr1, q⟩ | ⟨hn, q⟩
    · obtain ⟨hm, hname⟩ := rowOf_mem hr1
      refine .inl ⟨fun y hy => ?_, fun H3 e3 => ?_⟩
      · rw [List.mem_singleton.mp hy, ← hname]
        exact List.mem_map_of_mem hm
      · have e4 := e2.trans e3
        have N4 := N.mono e4
        have hv : valV (dEnds es) (Sum.inr (tx l) : Key) = some (V.ref r.1) := by rw [ends_get, hr1]; rfl
        refine ⟨_, rfl, o, C, dx, _, .ref de, rfl, N4.at_, c, n1, rfl, _, rfl, de, .ref r.1, rfl, hv ▸ DGet.k (k := (Sum.inr (tx l) : Key)) N4.ends, r.1, _, 1, _, rfl, rfl, .inl (.inl (N4.rows r hm)), at_of (j := 1) rfl rfl, q H3 e4⟩
    · exact .inr ⟨l, ⟨0, rfl, hn, fun j y hj => absurd hj (Nat.not_lt_zero j)⟩, RaisedF.grow q e2⟩
end
end K05

set_option Elab.async false
set_option linter.all false
set_option maxRecDepth 100000
set_option maxHeartbeats 4000000
namespace K05
open PySem PySem.Spec PyProof.Rows L2 Vl Evl Vp Vx2
abbrev sNIni : Stmt := mem 0
/-- Net() -/
def spNIni (C : Addr) : Sp := fun vs H Q _ => ∃ (x dx : Addr) (H0 : Hp), vs = [.ref x] ∧ H = upd (upd H0 dx (.own x)) x (.ins C dx []) ∧ H0 x = none ∧ H0 dx = none ∧ dx ≠ x ∧
  ∀ dp de H', Ex H0 H' → H0 dp = none → H0 de = none → dp ≠ de → NetAt C H' x dx dp de [] [] → Q .non H'
section
variable {P : Program} {w : World} {K : PySem.W.Frag} {mg : Str → Option Value} {base : Heap} {C NL : Addr}
theorem scNi : FnScope ["self"] ["self"] (defScope sNIni) := ⟨rfl, rfl, rfl, by decide +kernel, rfl, by decide +kernel, by decide +kernel⟩
theorem ok_nini {f : Addr} {fd : FuncData} (F : FnM K "__init__" "Net.__init__" sNIni f fd) (c : Cls K C) (n1 : NoAttr K C "_posts") (n2 : NoAttr K C "_ends") : FnOk P w K mg base CX0 1 f fd ["self"] (spNIni C) := by
  refine F.ok (CX := CX0) scNi (fun vs H Q E h => ?_) (fun cdv A outer s H vs Q E hr h => ?_)
  · obtain ⟨x, dx, H0, rfl, _⟩ := h
    rfl
  · refine ⟨_, (pss_cons (ps_fld (pv 0) pe_dnewK (by rfl)) (pss_one (ps_fld (pv 0) pe_dnewK (by rfl)))), ?_⟩
    obtain ⟨x, dx, H0, rfl, rfl, hx, hdx, hne, q⟩ := h
    refine s_seq ?_
    refine fun dp ndp => ⟨_, rfl, x, C, dx, [], rfl, ?_, c, n1, by show 0 < 1000; omega, ?_⟩
    · have hx1 := upd_same (H := upd H0 dx (.own x)) (a := x) (o := HO.ins C dx [])
      exact (Ex.new ndp) _ _ hx1
    · have dpx : dp ≠ x := fun z => by rw [z, upd_same] at ndp; cases ndp
      have dpd : dp ≠ dx := fun z => by rw [z, upd_ne hne, upd_same] at ndp; cases ndp
      have h0p : H0 dp = none := by
        rw [upd_ne dpx, upd_ne dpd] at ndp
        exact ndp
      refine fun de nde => ⟨_, rfl, x, C, dx, [("_posts", .ref dp)], rfl, (upd_ne (fun z => by rw [← z, upd_same] at nde; cases nde)).trans upd_same, c, n2, by show 1 < 1000; omega, ?_⟩
      have dex : de ≠ x := fun z => by rw [z, upd_same] at nde; cases nde
      have dep : de ≠ dp := fun z => by rw [z, upd_ne dpx, upd_same] at nde; cases nde
      have ded : de ≠ dx := fun z => by rw [z, upd_ne hne, upd_ne dpd.symm, upd_ne hne, upd_same] at nde; cases nde
      have h0e : H0 de = none := by
        rw [upd_ne dex, upd_ne dep, upd_ne dex, upd_ne ded] at nde
        exact nde
      refine q dp de _ ?_ h0p h0e dep.symm ⟨upd_same, ?_, ?_, fun e he => nomatch he⟩
      · exact Ex.mut ((Ex.mut (((Ex.new hdx).trans (Ex.new (by rw [upd_ne hne.symm]; exact hx))).trans (Ex.new ndp)) hx).trans (Ex.new nde)) hx
      · exact (upd_ne dpx).trans ((upd_ne dep.symm).trans ((upd_ne dpx).trans upd_same))
      · exact (upd_ne dex).trans upd_same
end
end K05

set_option Elab.async false
set_option linter.all false
set_option maxRecDepth 100000
set_option maxHeartbeats 4000000
namespace K05
open PySem PySem.Spec PyProof.Rows L2 Vl Evl Vp Vx2 Vlk Vda
abbrev sOut : Stmt := mem 8
theorem NetAt.ne_ends {C : Addr} {H : Hp} {o dx dp de : Addr} {ps : List (List Nat)} {es : List Row} (n : NetAt C H o dx dp de ps es) : o ≠ de := fun z => by
  have h1 := n.at_
  rw [z, n.ends] at h1
  cases h1
theorem NetAt.row_ne {C : Addr} {H : Hp} {o dx dp de : Addr} {ps : List (List Nat)} {es : List Row} (n : NetAt C H o dx dp de ps es) {r : Row} (hm : r ∈ es) : r.1 ≠ de := fun z => by
  have h1 := n.rows r hm
  unfold EndAt at h1
  rw [z, n.ends] at h1
  cases h1
/-- net.out_of(a) -/
def spOut (C NP : Addr) : Sp := fun vs H Q E => ∃ (o dx dp de : Addr) (ps : List (List Nat)) (es : List Row) (a : List Nat), vs = [.ref o, .str (tx a)] ∧ NetAt C H o dx dp de ps es ∧ es.length ≤ 1000 ∧ (laneNames es).Nodup ∧
  ((a ∈ ps ∧ ∀ t H', Ex H H' → H t = none → H' t = some (.tup (vtx (laneNames (es.filter fun e => decide (e.2.2.1 = a))))) → Q (.ref t) H') ∨ (a ∉ ps ∧ RaisedF NP "name" H (.str (tx a)) E))
theorem row_own {es : List Row} (nd : (laneNames es).Nodup) {i : Nat} {r : Row} (h : es[i]? = some r) : rowOf es r.2.1 = some r := by
  induction es generalizing i with
  | nil => cases h
  | cons x t ih =>
    unfold rowOf
    rw [List.find?_cons]
    cases i with
    | zero =>
      have : x = r := Option.some.inj h
      rw [this, decide_eq_true rfl]
    | succ i =>
      have h : t[i]? = some r := h
      have hm : r ∈ t := List.mem_of_getElem? h
      have hne : ¬ x.2.1 = r.2.1 := fun z => (List.nodup_cons.mp nd).1 (by show x.2.1 ∈ laneNames t; rw [z]; exact List.mem_map_of_mem hm)
      rw [decide_eq_false hne]
      exact ih (List.nodup_cons.mp nd).2 h
theorem ends_at {es : List Row} {i : Nat} {kv : Key × V} (h : (dEnds es)[i]? = some kv) : ∃ r, es[i]? = some r ∧ kv = ((Sum.inr (tx r.2.1) : Key), V.ref r.1) := by
  unfold dEnds at h
  rw [List.getElem?_map] at h
  obtain ⟨r, hr, rfl⟩ := Option.map_eq_some_iff.mp h
  exact ⟨r, hr, rfl⟩
/-- the key filter by a row's property -/
def byName (es : List Row) (c : Row → Bool) (kv : Key × V) : Bool := match kv.1 with
  | .inr z => es.any fun e => decide (tx e.2.1 = z) && c e
  | _ => false
theorem byName_row {es : List Row} (nd : (laneNames es).Nodup) {c : Row → Bool} {r : Row} (hm : r ∈ es) (v : V) : byName es c ((Sum.inr (tx r.2.1) : Key), v) = c r := by
  show (es.any fun e => decide (tx e.2.1 = tx r.2.1) && c e) = c r
  have one : ∀ e ∈ es, e.2.1 = r.2.1 → e = r := by
    intro e he h
    obtain ⟨i, hi⟩ := List.getElem?_of_mem he
    obtain ⟨j, hj⟩ := List.getElem?_of_mem hm
    have h1 := row_own nd hi
    have h2 := row_own nd hj
    rw [h, h2] at h1
    exact (Option.some.inj h1).symm
  cases hc : c r with
  | true =>
    rw [List.any_eq_true]
    exact ⟨r, hm, by rw [hc, decide_eq_true rfl]; rfl⟩
  | false =>
    rw [List.any_eq_false]
    intro e he z
    rw [Bool.and_eq_true, decide_eq_true_eq] at z
    have := one e he (tx_inj z.1)
    rw [this, hc] at z
    cases z.2
theorem filter_names {es : List Row} (nd : (laneNames es).Nodup) (c : Row → Bool) : (((dEnds es).filter (byName es c)).map fun kv => kV kv.1) = vtx (laneNames (es.filter c)) := by
  unfold dEnds laneNames vtx
  rw [List.filter_map, List.map_map, List.map_map]
  have : (es.filter (byName es c ∘ fun e => ((Sum.inr (tx e.2.1) : Key), V.ref e.1))) = es.filter c := List.filter_congr fun e he => byName_row nd he _
  rw [this]
  rfl
section
variable {P : Program} {w : World} {K : PySem.W.Frag} {mg : Str → Option Value} {base : Heap} {C NP : Addr}
abbrev nOt : List Str := ["self", "post", "lane"]
theorem scOt : FnScope nOt ["self", "post"] (defScope sOut) := ⟨rfl, rfl, rfl, by decide +kernel, rfl, by decide +kernel, by decide +kernel⟩
theorem ok_out {f fP : Addr} {fd fdP : FuncData} (F : FnM K "out_of" "Net.out_of" sOut f fd) (c : Cls K C) (n1 : NoAttr K C "_ends") (FP : FnP K "check_posts" sChkP fP fdP) (gP : mg "check_posts" = some (.ref fP)) (GP : FnOk P w K mg base (L2.CX P w) 3 fP fdP ["net", "names"] (spChkP K C NP)) (mT : mg "tuple" = none) :
    FnOk P w K mg base (L2.CX P w) 4 f fd ["self", "post"] (spOut C NP) := by
  have bP : Binds K fdP ["net", "names"] [] := FP.bindsN fun _ _ _ _ _ _ us hl => match us, hl with | [_, _], _ => rfl
  have kP := FP.kp
  refine F.ok (CX := L2.CX P w) scOt (fun vs H Q E h => ?_) (fun cdv A outer s H vs Q E hr h => ?_)
  · obtain ⟨o, dx, dp, de, ps, es, a, rfl, _⟩ := h
    rfl
  · have hr3 : Room 3 _ := hr
    refine ⟨_, (pss_cons (ps_expr (pe_callS (E := WE fun cls d _ H => E cls d H) GP hr3 (by rfl) gP kP bP (fun st => passAt (takes_of rfl rfl rfl rfl) st) (pa_cons (pv 0) (pa_cons (pe_tup (pa_cons (pv 1) pa_nil)) pa_nil))))
      (pss_one (ps_ret (pe_callTy call_tuple_of (by rfl) mT boot_tuple (pa_cons (pe_lock (pe_lc (own := [("lane", 2)]) (g := gName 2) (tt := tTest (tOp rEq (tOp (rIxT K) (tDGet (tFld K (tVar 0) "_ends") (tVar 2)) (tC (.int 0))) (tVar 1))) (te := tVar 2) rfl scOt.nd (pi_keys (pe_fld (pv 0) rfl)) (blkOk_by (own := [("lane", 2)]) (N := nOt) (sc := defScope sOut) (by decide +kernel)) (fun _ _ _ _ _ => (pg_name (i := 2) scOt.nd rfl (by first | exact Or.inl rfl | exact Or.inr rfl)))
        (fun _ _ _ _ _ => pts_one (pt_cmpR op_eq (pe_ix ix_tup (pe_dget (Nat.lt_of_le_of_lt (Nat.add_le_add_left (show 1 ≤ 64 by decide) _) hr.units) (pe_fld (pv 0) rfl) (pv 2) (fun _ _ => rfl)) pe_int fun _ _ => rfl) (pv 1) (nomark _))) (fun _ _ _ _ _ => pv 2))) pa_nil))))), ?_⟩
    obtain ⟨o, dx, dp, de, ps, es, a, rfl, N, hz, nd, h⟩ := h
    refine s_seq ?_
    refine ⟨_, rfl, _, rfl, by show 1 ≤ sizeLine; decide, fun t0 nt0 => ?_⟩
    have e2 := Ex.new (H := H) (o := .tup [.str (tx a)]) nt0
    refine ⟨o, dx, dp, de, t0, ps, es, [a], rfl, N.mono e2, .inl (.inl upd_same), ?_⟩
    rcases h with ⟨hm, q⟩ | ⟨hn, q⟩
    · refine .inl ⟨fun y hy => by rw [List.mem_singleton.mp hy]; exact hm, fun H3 e3 => ?_⟩
      have e4 := e2.trans e3
      have N4 := N.mono e4
      dsimp only
      refine s_retU (xs := vtx (laneNames (es.filter fun e => decide (e.2.2.1 = a)))) (eu_tupleL ?_) ?_
      rotate_left
      · exact fun t H5 nt e5 ht => q t H5 (e4.trans e5) (fresh_back e4 nt) ht
      rw [← filter_names nd]
      refine el_keys (byName es _) N4.ends (by unfold dEnds; rw [List.length_map]; omega) (fun _ => rfl) (fun _ => rfl) ?_ ?_
      · intro H6 od e6
        exact ev_fld (ev_var rfl) (lk_get (N4.mono e6).at_ (N4.ne_ends)) c n1 rfl
      · rintro H6 od i kv e6 hkv
        obtain ⟨r, hr, rfl⟩ := ends_at hkv
        have hmr := List.mem_of_getElem? hr
        have N6 := N4.mono e6
        rw [byName_row nd hmr]
        have hv : valV (dEnds es) (Sum.inr (tx r.2.1) : Key) = some (V.ref r.1) := by rw [ends_get, row_own nd hr]; rfl
        refine et_test (ev_is (ev_op (ev_op (ev_dget (ev_fld (ev_var rfl) (lk_get N6.at_ N6.ne_ends) c n1 rfl) (ev_var rfl) (hv ▸ dget_frz upd_same)) ev_c (rv_ixT (xs := [.str (tx r.2.2.1), .str (tx r.2.2.2)]) (.inl (.inl (lk_get (N6.rows r hmr) (N6.row_ne hmr)))) (at_of (j := 0) rfl rfl))) (ev_var rfl) (rv_eq rfl)) ?_)
        congr 1
        exact decide_eq_decide.mpr ⟨fun z => tx_inj (V.str.inj z), fun z => by rw [z]⟩
    · exact .inr ⟨a, ⟨0, rfl, hn, fun j y hj => absurd hj (Nat.not_lt_zero j)⟩, RaisedF.grow q e2⟩
end
end K05

set_option Elab.async false
set_option linter.all false
set_option maxRecDepth 100000
set_option maxHeartbeats 4000000
/-! The class Net in one word, and what its methods come to. -/
namespace K05
open PySem PySem.Spec PyProof.Rows L2 Vl Evl Vp Vx2 Vlk Vda Vc Ve
structure ND (P : Program) (w : World) (K : PySem.W.Frag) (mg : Str → Option Value) (base : Heap) (C BN NT NP NL : Addr) : Prop where
  cls : Cls K C
  post : Mo P w K mg base C (L2.CX P w) 4 "post" (spPost C BN NT)
  lane : Mo P w K mg base C (L2.CX P w) 4 "lane" (spLane C BN NT NP)
  posts : Pr P w K mg base C 1 "posts" (spPosts C)
  lanes : Pr P w K mg base C 1 "lanes" (spLanes C)
  len : Mo P w K mg base C L2.CX0 1 "__len__" (spNLen C)
  start : Mo P w K mg base C (L2.CX P w) 4 "start_of" (spEndOf C NL fun r => r.2.2.1)
  end_ : Mo P w K mg base C (L2.CX P w) 4 "end_of" (spEndOf C NL fun r => r.2.2.2)
  out : Mo P w K mg base C (L2.CX P w) 4 "out_of" (spOut C NP)
  has : Mo P w K mg base C L2.CX0 1 "__contains__" (spHas K C)
  new : Nw P w K mg base C L2.CX0 1 "Net" (spNIni C)
section
variable {K : PySem.W.Frag} {C BN NT NP NL : Addr} {H : Hp} {o dx dp de : Addr} {ps : List (List Nat)} {es : List Row}
theorem sv_posts (N : NetAt C H o dx dp de ps es) : SpU (spPosts C) [.ref o] H (vtx ps) := fun H1 e Q q E => ⟨o, dx, dp, de, ps, es, rfl, N.mono e, fun t nt => q t _ nt (Ex.new nt) upd_same⟩
theorem sv_lanes (N : NetAt C H o dx dp de ps es) : SpU (spLanes C) [.ref o] H (vtx (laneNames es)) := fun H1 e Q q E => ⟨o, dx, dp, de, ps, es, rfl, N.mono e, fun t nt => q t _ nt (Ex.new nt) upd_same⟩
theorem sv_len (N : NetAt C H o dx dp de ps es) : SpV (spNLen C) [.ref o] H (.int (es.length : Nat)) := fun H1 e Q q E => ⟨o, dx, dp, de, ps, es, rfl, N.mono e, q H1 (Ex.refl _)⟩
theorem sv_end {g : Row → List Nat} {l : List Nat} {r : Row} (N : NetAt C H o dx dp de ps es) (h : rowOf es l = some r) : SpV (spEndOf C NL g) [.ref o, .str (tx l)] H (.str (tx (g r))) := fun H1 e Q q E => ⟨o, dx, dp, de, ps, es, l, rfl, N.mono e, .inl ⟨r, h, fun H2 e2 => q H2 e2⟩⟩
theorem sv_out {a : List Nat} (N : NetAt C H o dx dp de ps es) (hz : es.length ≤ 1000) (nd : (laneNames es).Nodup) (h : a ∈ ps) : SpU (spOut C NP) [.ref o, .str (tx a)] H (vtx (laneNames (es.filter fun e => decide (e.2.2.1 = a)))) := fun H1 e Q q E =>
  ⟨o, dx, dp, de, ps, es, a, rfl, N.mono e, hz, nd, .inl ⟨h, fun t H2 e2 nt ht => q t H2 nt e2 ht⟩⟩
theorem sv_has {l : List Nat} (N : NetAt C H o dx dp de ps es) : SpV (spHas K C) [.ref o, .str (tx l)] H (.bl (decide (l ∈ laneNames es))) := fun H1 e Q q E => ⟨o, dx, dp, de, _, ps, es, rfl, N.mono e, .inl ⟨l, rfl, q H1 (Ex.refl _)⟩⟩
theorem sv_hasN (N : NetAt C H o dx dp de ps es) : SpV (spHas K C) [.ref o, .non] H (.bl false) := fun H1 e Q q E => ⟨o, dx, dp, de, _, ps, es, rfl, N.mono e, .inr ⟨"NoneType", .base .non, by decide +kernel, q H1 (Ex.refl _)⟩⟩
theorem sv_hasL {t : Addr} {xs : List V} (N : NetAt C H o dx dp de ps es) (h : H t = some (.lst xs)) : SpV (spHas K C) [.ref o, .ref t] H (.bl false) := fun H1 e Q q E => ⟨o, dx, dp, de, _, ps, es, rfl, N.mono e, .inr ⟨"list", .base (.lst (e _ _ h)), by decide +kernel, q H1 (Ex.refl _)⟩⟩
end
/-! the law's own: parts told, the ends by lane -/
abbrev sEn : Stmt := top 33
abbrev nEn : List Str := ["_law_parts", "_law_ends_here", "_law_lane", "_law_start", "_law_end"]
def refs (rs : List Row) : List V := rs.map fun r => V.ref r.1
structure Told (H : Hp) (q a b : Addr) (ps : List (List Nat)) (rs : List Row) : Prop where
  at_ : H q = some (.lst [.ref a, .ref b])
  posts : H a = some (.lst (vtx ps))
  rows : H b = some (.lst (refs rs))
  row : ∀ r ∈ rs, RowAt H r
theorem Told.mono {H H' : Hp} {q a b : Addr} {ps : List (List Nat)} {rs : List Row} (e : Ex H H') (h : Told H q a b ps rs) : Told H' q a b ps rs := ⟨e _ _ h.at_, e _ _ h.posts, e _ _ h.rows, fun r hr => e _ _ (h.row r hr)⟩
def bare (rs : List Row) : List (List Nat × List Nat × List Nat) := rs.map fun r => r.2
def spEn : Sp := fun vs H Q _ => ∃ (q a b : Addr) (ps : List (List Nat)) (rs : List Row), vs = [.ref q] ∧ Told H q a b ps rs ∧ (laneNames rs).Nodup ∧ rs.length ≤ 1000 ∧
  ∀ d es H', Ex H H' → H d = none → H' d = some (.dK (dEnds es)) → bare es = bare rs → (∀ e ∈ es, EndAt H' e) → Q (.ref d) H'
theorem bare_names {es rs : List Row} (h : bare es = bare rs) : laneNames es = laneNames rs := by
  have : ∀ l : List Row, laneNames l = (bare l).map fun x => x.1 := fun l => by unfold laneNames bare; rw [List.map_map]; rfl
  rw [this, this, h]
theorem bare_take (rs : List Row) (i : Nat) : bare (rs.take i) = (bare rs).take i := by unfold bare; rw [List.map_take]
section
variable {P : Program} {w : World} {K : PySem.W.Frag} {mg : Str → Option Value} {base : Heap}
theorem scEn : FnScope nEn ["_law_parts"] (defScope sEn) := ⟨rfl, rfl, rfl, by decide +kernel, rfl, by decide +kernel, by decide +kernel⟩
theorem ok_en {f : Addr} {fd : FuncData} (F : FnP K "_law_ends" sEn f fd) : FnOk P w K mg base L2.CX0 1 f fd ["_law_parts"] spEn := by
  refine F.ok (CX := L2.CX0) scEn (fun vs H Q E h => ?_) (fun cdv A outer s H vs Q E hr h => ?_)
  · obtain ⟨q, a, b, ps, rs, rfl, _⟩ := h
    rfl
  · refine ⟨_, (pss_cons (ps_set (i := 1) scEn.nd rfl (by first | exact Or.inl rfl | exact Or.inr rfl) pe_dnewK)
      (pss_cons (ps_for (passes_of rfl) rfl (pi_list (pe_ix ix_list (pv 0) pe_int fun _ _ => rfl)) (pg_tup rfl (pgs_cons (pg_name (i := 2) scEn.nd rfl (by first | exact Or.inl rfl | exact Or.inr rfl)) (pgs_cons (pg_name (i := 3) scEn.nd rfl (by first | exact Or.inl rfl | exact Or.inr rfl)) (pgs_cons (pg_name (i := 4) scEn.nd rfl (by first | exact Or.inl rfl | exact Or.inr rfl)) pgs_nil)))) (pss_one (ps_dput (Nat.lt_of_le_of_lt (Nat.add_le_add_left (show 1 ≤ 64 by decide) _) hr.units) (pv 1) (pv 2) (pe_tup (pa_cons (pv 3) (pa_cons (pv 4) pa_nil))) rfl)))
      (pss_one (ps_ret (pv 1))))), ?_⟩
    obtain ⟨q, a, b, ps, rs, rfl, T, nd, hz, k⟩ := h
    refine s_seq ?_
    refine fun d nd0 => ?_
    have T1 := T.mono (Ex.new (o := HO.dK []) nd0)
    refine s_seq ?_
    refine s_forL (ev_ixA (i := 1) (ev_var rfl) (sq_of T1.at_) rfl) (sq_of T1.rows) (fun i st H' => ∃ t2 t3 t4 es, st = [some (.ref q), some (.ref d), t2, t3, t4] ∧ Ex H H' ∧ H' d = some (.dK (dEnds es)) ∧ bare es = bare (rs.take i) ∧ ∀ e ∈ es, EndAt H' e)
      (fun H1 e => ⟨none, none, none, [], rfl, (Ex.new nd0).trans e, e _ _ upd_same, by rw [List.take_zero], fun _ h => nomatch h⟩) (fun i st H' _ ⟨_, _, _, _, _, e, _⟩ => sq_of (e _ _ T.rows)) ?_ ?_
    · rintro i x σ' H1 hx ⟨t2, t3, t4, es, rfl, e1, hd, hb, hes⟩
      unfold refs at hx
      rw [List.getElem?_map] at hx
      obtain ⟨r, hr1, rfl⟩ := Option.map_eq_some_iff.mp hx
      have hm := List.mem_of_getElem? hr1
      have htk : rs.take (i + 1) = rs.take i ++ [r] := by rw [List.take_succ, hr1]; rfl
      refine ⟨r.1, _, rfl, .inl (.inl (e1 _ _ (T.row r hm))), rfl, ?_⟩
      refine ⟨_, _, rfl, _, _, rfl, _, _, rfl, rfl, ?_⟩
      refine ⟨_, rfl, _, rfl, by show 2 ≤ sizeLine; decide, fun t nt => ?_⟩
      have e2 := e1.trans (Ex.new (o := HO.tup [.str (tx r.2.2.1), .str (tx r.2.2.2)]) nt)
      have td : t ≠ d := fun z => by rw [z, hd] at nt; cases nt
      have hd2 : upd H1 t (.tup [.str (tx r.2.2.1), .str (tx r.2.2.2)]) d = some (.dK (dEnds es)) := (upd_ne td.symm).trans hd
      refine ⟨_, rfl, _, rfl, d, _, rfl, DPut.k (k := (Sum.inr (tx r.2.1) : Key)) hd2 (sz_lt ?_), ?_⟩
      · have h1 : (bare es).length = (bare (rs.take i)).length := by rw [hb]
        unfold bare at h1
        rw [List.length_map, List.length_map, List.length_take] at h1
        unfold dEnds
        rw [List.length_map]
        omega
      · have hnew : r.2.1 ∉ laneNames es := by
          rw [bare_names hb]
          intro z
          have nd2 : (laneNames (rs.take (i + 1))).Nodup := by
            unfold laneNames at nd ⊢
            rw [List.map_take]
            exact nd.sublist (List.take_sublist _ _)
          rw [htk] at nd2
          unfold laneNames at nd2 z
          rw [List.map_append, List.nodup_append] at nd2
          exact nd2.2.2 _ z _ (List.mem_singleton.mpr rfl) rfl
        have hv : valV (dEnds es) (Sum.inr (tx r.2.1) : Key) = none := by
          have := ends_val es r.2.1
          rw [decide_eq_false hnew] at this
          exact Option.not_isSome_iff_eq_none.mp (by rw [this]; decide)
        refine ⟨_, _, _, es ++ [(t, r.2)], rfl, Ex.mut e2 nd0, ?_, ?_, ?_⟩
        · rw [upd_same, putK_new _ hv]
          unfold dEnds
          rw [List.map_append]
          rfl
        · rw [htk]
          unfold bare at hb ⊢
          rw [List.map_append, List.map_append, hb]
          rfl
        · intro e he
          rcases List.mem_append.mp he with he | he
          · have h1 := hes e he
            unfold EndAt at h1 ⊢
            rw [upd_ne (fun z => by rw [z, hd] at h1; cases h1), upd_ne (fun z => by rw [z, nt] at h1; cases h1)]
            exact h1
          · rw [List.mem_singleton.mp he]
            show upd _ d _ t = _
            rw [upd_ne td, upd_same]
    · rintro st H1 ⟨t2, t3, t4, es, rfl, e1, hd, hb, hes⟩
      refine ⟨_, rfl, k d es H1 e1 nd0 hd ?_ hes⟩
      rw [hb]
      unfold refs
      rw [List.length_map, List.take_length]
end
end K05

set_option Elab.async false
set_option linter.all false
set_option maxRecDepth 100000
set_option maxHeartbeats 2000000
/-! What is reached on a graph; a search that goes through its own list. -/
namespace Vrc
variable {α : Type}
inductive Reach (E : α → α → Prop) (a : α) : α → Prop
  | refl : Reach E a a
  | step {b c : α} : Reach E a b → E b c → Reach E a c
theorem Reach.trans {E : α → α → Prop} {a b c : α} (h : Reach E a b) (h2 : Reach E b c) : Reach E a c := by
  induction h2 with
  | refl => exact h
  | step _ e ih => exact .step ih e
theorem Reach.one {E : α → α → Prop} {a b : α} (e : E a b) : Reach E a b := .step .refl e
theorem Reach.mono {E F : α → α → Prop} (h : ∀ x y, E x y → F x y) {a b : α} (r : Reach E a b) : Reach F a b := by
  induction r with
  | refl => exact .refl
  | step _ e ih => exact .step ih (h _ _ e)
/-- ks is what has been found, the first j of it looked at -/
structure Bfs (E : α → α → Prop) (a : α) (ks : List α) (j : Nat) : Prop where
  nd : ks.Nodup
  src : a ∈ ks
  re : ∀ b ∈ ks, Reach E a b
  cl : ∀ (i : Nat) (b : α), i < j → ks[i]? = some b → ∀ c, E b c → c ∈ ks
theorem Bfs.start {E : α → α → Prop} (a : α) : Bfs E a [a] 0 := ⟨List.nodup_cons.mpr ⟨(fun h => nomatch h), List.nodup_nil⟩, List.mem_cons_self, fun b hb => by rw [List.mem_singleton.mp hb]; exact .refl, fun i b hi => absurd hi (Nat.not_lt_zero i)⟩
theorem Bfs.add {E : α → α → Prop} {a b c : α} {ks : List α} {j : Nat} (h : Bfs E a ks j) (hj : j ≤ ks.length) (hb : b ∈ ks) (e : E b c) (hc : c ∉ ks) : Bfs E a (ks ++ [c]) j := by
  refine ⟨?_, List.mem_append_left _ h.src, fun x hx => ?_, fun i x hi hx y hy => ?_⟩
  · rw [List.nodup_append]
    exact ⟨h.nd, List.nodup_cons.mpr ⟨(fun h => nomatch h), List.nodup_nil⟩, fun u hu v hv z => hc (by rw [← List.mem_singleton.mp hv, ← z]; exact hu)⟩
  · rcases List.mem_append.mp hx with hx | hx
    · exact h.re x hx
    · rw [List.mem_singleton.mp hx]
      exact .step (h.re b hb) e
  · rw [List.getElem?_append_left (by omega)] at hx
    exact List.mem_append_left _ (h.cl i x hi hx y hy)
theorem Bfs.next {E : α → α → Prop} {a b : α} {ks : List α} {j : Nat} (h : Bfs E a ks j) (hb : ks[j]? = some b) (hc : ∀ c, E b c → c ∈ ks) : Bfs E a ks (j + 1) :=
  ⟨h.nd, h.src, h.re, fun i x hi hx y hy => by
    by_cases hij : i < j
    · exact h.cl i x hij hx y hy
    · obtain rfl : i = j := by omega
      rw [hb] at hx
      rw [← Option.some.inj hx] at hy
      exact hc y hy⟩
theorem Bfs.done {E : α → α → Prop} {a : α} {ks : List α} {j : Nat} (h : Bfs E a ks j) (hj : ks.length ≤ j) (b : α) : b ∈ ks ↔ Reach E a b := by
  refine ⟨h.re b, fun r => ?_⟩
  induction r with
  | refl => exact h.src
  | step _ e ih =>
    obtain ⟨i, hi⟩ := List.getElem?_of_mem ih
    have := (List.getElem?_eq_some_iff.mp hi).1
    exact h.cl i _ (by omega) hi _ e
theorem few_of {ks ps : List α} (nd : ks.Nodup) (h : ∀ b ∈ ks, b ∈ ps) : ks.length ≤ ps.length := nd.length_le_of_subset h
end Vrc

set_option Elab.async false
set_option linter.all false
set_option maxRecDepth 100000
set_option maxHeartbeats 2000000
/-! Ways with their lanes: a search by width finds shortest ones. -/
namespace Vwy
variable {α β : Type}
inductive Wk (E : β → α → α → Prop) (a : α) : α → List β → Prop
  | nil : Wk E a a []
  | snoc {b c : α} {l : β} {ls : List β} : Wk E a b ls → E l b c → Wk E a c (ls ++ [l])
/-- a shortest way -/
structure Best (E : β → α → α → Prop) (a b : α) (ls : List β) : Prop where
  wk : Wk E a b ls
  le : ∀ ls', Wk E a b ls' → ls.length ≤ ls'.length
theorem Best.len {E : β → α → α → Prop} {a b : α} {ls ls' : List β} (h : Best E a b ls) (h' : Best E a b ls') : ls.length = ls'.length := Nat.le_antisymm (h.le _ h'.wk) (h'.le _ h.wk)
structure Lev (E : β → α → α → Prop) (a : α) (ws : List (α × List β)) (j : Nat) : Prop where
  mono : ∀ (i k : Nat) x y, i ≤ k → ws[i]? = some x → ws[k]? = some y → x.2.length ≤ y.2.length
  bound : ∀ x, ws[j]? = some x → ∀ y ∈ ws, y.2.length ≤ x.2.length + 1
  src : (a, ([] : List β)) ∈ ws
  wk : ∀ x ∈ ws, Wk E a x.1 x.2
  cl : ∀ (i : Nat) x, i < j → ws[i]? = some x → ∀ l c, E l x.1 c → ∃ y ∈ ws, y.1 = c ∧ y.2.length ≤ x.2.length + 1
theorem Lev.start {E : β → α → α → Prop} (a : α) : Lev E a [(a, [])] 0 :=
  ⟨fun i k x y hik hx hy => by
    have hi : i = 0 := by
      have := (List.getElem?_eq_some_iff.mp hx).1
      rw [List.length_singleton] at this
      omega
    have hk : k = 0 := by
      have := (List.getElem?_eq_some_iff.mp hy).1
      rw [List.length_singleton] at this
      omega
    rw [hi] at hx
    rw [hk, hx] at hy
    rw [Option.some.inj hy]
    exact Nat.le_refl _,
   fun x hx y hy => by rw [List.mem_singleton.mp hy]; exact Nat.zero_le _, List.mem_singleton.mpr rfl,
   fun x hx => by rw [List.mem_singleton.mp hx]; exact .nil, fun i x hi => absurd hi (Nat.not_lt_zero i)⟩
theorem Lev.add {E : β → α → α → Prop} {a b c : α} {l : β} {ls : List β} {ws : List (α × List β)} {j : Nat} (h : Lev E a ws j) (hj : ws[j]? = some (b, ls)) (e : E l b c) : Lev E a (ws ++ [(c, ls ++ [l])]) j := by
  have hjl := (List.getElem?_eq_some_iff.mp hj).1
  have hbd := h.bound _ hj
  have hlen : (ls ++ [l]).length = ls.length + 1 := by rw [List.length_append]; rfl
  refine ⟨fun i k x y hik hx hy => ?_, fun x hx y hy => ?_, List.mem_append_left _ h.src, fun x hx => ?_, fun i x hi hx l' c' he => ?_⟩
  · by_cases hk : k < ws.length
    · rw [List.getElem?_append_left (by omega)] at hx
      rw [List.getElem?_append_left hk] at hy
      exact h.mono i k x y hik hx hy
    · have hkl : k = ws.length := by
        have := (List.getElem?_eq_some_iff.mp hy).1
        rw [List.length_append, List.length_singleton] at this
        omega
      rw [hkl, List.getElem?_append_right (Nat.le_refl _), Nat.sub_self] at hy
      have hy2 : (c, ls ++ [l]) = y := Option.some.inj hy
      rw [← hy2]
      show x.2.length ≤ (ls ++ [l]).length
      rw [hlen]
      by_cases hi : i < ws.length
      · rw [List.getElem?_append_left hi] at hx
        exact hbd x (List.mem_of_getElem? hx)
      · have hil : i = ws.length := by omega
        rw [hil, List.getElem?_append_right (Nat.le_refl _), Nat.sub_self] at hx
        have hx2 : (c, ls ++ [l]) = x := Option.some.inj hx
        rw [← hx2]
        show (ls ++ [l]).length ≤ _
        omega
  · rw [List.getElem?_append_left hjl, hj] at hx
    rw [← Option.some.inj hx]
    rcases List.mem_append.mp hy with hy | hy
    · exact hbd y hy
    · rw [List.mem_singleton.mp hy]
      show (ls ++ [l]).length ≤ ls.length + 1
      omega
  · rcases List.mem_append.mp hx with hx | hx
    · exact h.wk x hx
    · rw [List.mem_singleton.mp hx]
      exact .snoc (h.wk _ (List.mem_of_getElem? hj)) e
  · rw [List.getElem?_append_left (by omega)] at hx
    obtain ⟨y, hy, h1, h2⟩ := h.cl i x hi hx l' c' he
    exact ⟨y, List.mem_append_left _ hy, h1, h2⟩
theorem Lev.next {E : β → α → α → Prop} {a b : α} {ls : List β} {ws : List (α × List β)} {j : Nat} (h : Lev E a ws j) (hj : ws[j]? = some (b, ls)) (hc : ∀ l c, E l b c → c ∈ ws.map fun w => w.1) : Lev E a ws (j + 1) := by
  refine ⟨h.mono, fun x hx y hy => ?_, h.src, h.wk, fun i x hi hx l c he => ?_⟩
  · have h1 := h.bound _ hj y hy
    have h2 := h.mono j (j + 1) _ x (Nat.le_succ j) hj hx
    omega
  · by_cases hij : i < j
    · exact h.cl i x hij hx l c he
    · obtain rfl : i = j := by omega
      rw [hj] at hx
      have hx2 : (b, ls) = x := Option.some.inj hx
      rw [← hx2] at he ⊢
      obtain ⟨y, hy, rfl⟩ := List.mem_map.mp (hc l c he)
      exact ⟨y, hy, rfl, h.bound _ hj y hy⟩
theorem Lev.done {E : β → α → α → Prop} {a : α} {ws : List (α × List β)} {j : Nat} (h : Lev E a ws j) (hj : ws.length ≤ j) (nd : (ws.map fun w => w.1).Nodup) : ∀ x ∈ ws, Best E a x.1 x.2 := by
  have own : ∀ x ∈ ws, ∀ y ∈ ws, x.1 = y.1 → x = y := fun x hx y hy e => by
    obtain ⟨i, hi⟩ := List.getElem?_of_mem hx
    obtain ⟨k, hk⟩ := List.getElem?_of_mem hy
    have h1 : (ws.map fun w => w.1)[i]? = some x.1 := by rw [List.getElem?_map, hi]; rfl
    have h2 : (ws.map fun w => w.1)[k]? = some x.1 := by rw [List.getElem?_map, hk, e]; rfl
    have l1 := (List.getElem?_eq_some_iff.mp h1)
    have l2 := (List.getElem?_eq_some_iff.mp h2)
    have : i = k := L2.nd_ix nd h1 h2
    rw [this, hk] at hi
    exact (Option.some.inj hi).symm
  have key : ∀ b ls', Wk E a b ls' → ∃ y ∈ ws, y.1 = b ∧ y.2.length ≤ ls'.length := fun b ls' w => by
    induction w with
    | nil => exact ⟨_, h.src, rfl, Nat.le_refl _⟩
    | snoc _ e ih =>
      obtain ⟨y, hy, h1, h2⟩ := ih
      obtain ⟨i, hi⟩ := List.getElem?_of_mem hy
      have hlt := (List.getElem?_eq_some_iff.mp hi).1
      obtain ⟨z, hz, h3, h4⟩ := h.cl i y (by omega) hi _ _ (by rw [h1]; exact e)
      refine ⟨z, hz, h3, ?_⟩
      rw [List.length_append, List.length_singleton]
      omega
  intro x hx
  refine ⟨h.wk x hx, fun ls' w => ?_⟩
  obtain ⟨y, hy, h1, h2⟩ := key _ _ w
  rw [own x hx y hy h1.symm]
  exact h2
end Vwy

set_option Elab.async false
set_option linter.all false
set_option maxRecDepth 100000
set_option maxHeartbeats 4000000
namespace K05
open PySem PySem.Spec PyProof.Rows L2 Vl Evl Vp Vr Vx2 Vlk Vda Vc Ve Vrc Vwy
abbrev sWf : Stmt := top 22
abbrev nWf : List Str := ["net", "post", "ways", "queue", "here", "lane", "end"]
theorem ne_kind {H : Hp} {x y : Addr} {u v : HO} (hx : H x = some u) (hy : H y = some v) (h : u ≠ v) : x ≠ y := fun z => by
  rw [z, hy] at hx
  exact h (Option.some.inj hx).symm
/-- a lane leads from b to c -/
def Edge (bs : List (List Nat × List Nat × List Nat)) (b c : List Nat) : Prop := ∃ t ∈ bs, t.2.1 = b ∧ t.2.2 = c
def LaneB (bs : List (List Nat × List Nat × List Nat)) (l b c : List Nat) : Prop := (l, b, c) ∈ bs
/-- a way: its list's address, the post, its lanes -/
abbrev Way : Type := Addr × (List Nat × List (List Nat))
def dWays (xs : List Way) : List (Key × V) := xs.map fun x => ((Sum.inr (tx x.2.1) : Key), V.ref x.1)
def posts (xs : List Way) : List (List Nat) := xs.map fun x => x.2.1
def wp (xs : List Way) : List (List Nat × List (List Nat)) := xs.map fun x => x.2
theorem wp_posts (xs : List Way) : ((wp xs).map fun w => w.1) = posts xs := by
  unfold wp posts
  rw [List.map_map]
  rfl
theorem wp_at {xs : List Way} {j : Nat} {b0 : List Nat} (nd : (posts xs).Nodup) (hj : (posts xs)[j]? = some b0) {y : Way} (hy : y ∈ xs) (hb : y.2.1 = b0) : (wp xs)[j]? = some (b0, y.2.2) := by
  obtain ⟨k, hk⟩ := List.getElem?_of_mem hy
  have h1 : (posts xs)[k]? = some b0 := by
    unfold posts
    rw [List.getElem?_map, hk]
    exact congrArg some hb
  have hkj : k = j := nd_ix nd h1 hj
  unfold wp
  rw [← hkj, List.getElem?_map, hk, ← hb]
  rfl
theorem wp_some {xs : List Way} {j : Nat} {b0 : List Nat} (hj : (posts xs)[j]? = some b0) : ∃ ls, (wp xs)[j]? = some (b0, ls) := by
  unfold posts at hj
  rw [List.getElem?_map] at hj
  obtain ⟨z, hz, rfl⟩ := Option.map_eq_some_iff.mp hj
  exact ⟨z.2.2, by unfold wp; rw [List.getElem?_map, hz]; rfl⟩
theorem wp_app (xs : List Way) (z : Way) : wp (xs ++ [z]) = wp xs ++ [z.2] := List.map_append
theorem ways_val (xs : List Way) (l : List Nat) : (valV (dWays xs) (Sum.inr (tx l) : Key)).isSome = decide (l ∈ posts xs) := by
  induction xs with
  | nil => rfl
  | cons x r ih =>
    unfold dWays posts at *
    rw [List.map_cons, List.map_cons]
    by_cases h : x.2.1 = l
    · rw [valV_pos (by rw [h]), decide_eq_true (by rw [h]; exact List.mem_cons_self)]
      rfl
    · have hn : ¬ (Sum.inr (tx x.2.1) : Key) = Sum.inr (tx l) := fun z => h (tx_inj (Sum.inr.inj z))
      rw [valV_neg hn, ih]
      by_cases hm : l ∈ r.map fun e => e.2.1
      · rw [decide_eq_true hm, decide_eq_true (List.mem_cons_of_mem _ hm)]
      · rw [decide_eq_false hm, decide_eq_false (fun z => (List.mem_cons.mp z).elim (fun e => h e.symm) hm)]
theorem ways_get {xs : List Way} {l : List Nat} (h : l ∈ posts xs) : ∃ x ∈ xs, x.2.1 = l ∧ valV (dWays xs) (Sum.inr (tx l) : Key) = some (V.ref x.1) := by
  induction xs with
  | nil => cases h
  | cons x r ih =>
    by_cases hx : x.2.1 = l
    · refine ⟨x, List.mem_cons_self, hx, ?_⟩
      unfold dWays
      rw [List.map_cons, valV_pos (by rw [hx])]
    · have hn : ¬ (Sum.inr (tx x.2.1) : Key) = Sum.inr (tx l) := fun z => hx (tx_inj (Sum.inr.inj z))
      have hr : l ∈ posts r := by
        rcases List.mem_cons.mp h with h | h
        · exact absurd h.symm hx
        · exact h
      obtain ⟨y, hy, h1, h2⟩ := ih hr
      refine ⟨y, List.mem_cons_of_mem _ hy, h1, ?_⟩
      unfold dWays at h2 ⊢
      rw [List.map_cons, valV_neg hn]
      exact h2
theorem ways_none {xs : List Way} {l : List Nat} (h : l ∉ posts xs) : valV (dWays xs) (Sum.inr (tx l) : Key) = none := by
  have := ways_val xs l
  rw [decide_eq_false h] at this
  exact Option.not_isSome_iff_eq_none.mp (by rw [this]; decide)
/-- the search's objects: the dict, the queue from place j on -/
structure WS (H0 H : Hp) (d q : Addr) (xs : List Way) (j : Nat) : Prop where
  ex : Ex H0 H
  fd : H0 d = none
  fq : H0 q = none
  dct : H d = some (.dK (dWays xs))
  que : H q = some (.lst ((vtx (posts xs)).drop j))
  way : ∀ x ∈ xs, H x.1 = some (.lst (vtx x.2.2)) ∧ x.1 ≠ q
  short : ∀ x ∈ xs, x.2.2.length < xs.length
theorem WS.grow {H0 H H' : Hp} {d q : Addr} {xs : List Way} {j : Nat} (h : WS H0 H d q xs j) (e : Ex H H') : WS H0 H' d q xs j := ⟨h.ex.trans e, h.fd, h.fq, e _ _ h.dct, e _ _ h.que, fun x hx => ⟨e _ _ (h.way x hx).1, (h.way x hx).2⟩, h.short⟩
/-- what is told of the ways: their posts are those that are reached -/
structure WaysD (H : Hp) (d : Addr) (bs : List (List Nat × List Nat × List Nat)) (a : List Nat) (xs : List Way) : Prop where
  dct : H d = some (.dK (dWays xs))
  re : ∀ b, b ∈ posts xs ↔ Reach (Edge bs) a b
  way : ∀ x ∈ xs, H x.1 = some (.lst (vtx x.2.2))
  best : ∀ x ∈ xs, Best (LaneB bs) a x.2.1 x.2.2
  few : ∀ x ∈ xs, x.2.2.length ≤ 30
theorem WaysD.mono {H H' : Hp} {d : Addr} {bs : List (List Nat × List Nat × List Nat)} {a : List Nat} {xs : List Way} (e : Ex H H') (h : WaysD H d bs a xs) : WaysD H' d bs a xs := ⟨e _ _ h.dct, h.re, fun x hx => e _ _ (h.way x hx), h.best, h.few⟩
def rowsFrom (es : List Row) (b : List Nat) : List Row := es.filter fun e => decide (e.2.2.1 = b)
theorem way_of_get {H : Hp} {p : Addr} {xs : List V} {u : HO} {q : Addr} (h : H p = some u) (hn : H q = none) : p ≠ q := fun z => by
  rw [z, hn] at h
  cases h
def spWf (C : Addr) : Sp := fun vs H Q _ => ∃ (o dx dp de : Addr) (ps : List (List Nat)) (es : List Row) (a : List Nat), vs = [.ref o, .str (tx a)] ∧ NetAt C H o dx dp de ps es ∧ RowsOk ps es ∧ ps.length ≤ 30 ∧ es.length ≤ 30 ∧ a ∈ ps ∧
  ∀ d xs H', Ex H H' → H d = none → WaysD H' d (bare es) a xs → Q (.ref d) H'
section
variable {P : Program} {w : World} {K : PySem.W.Frag} {mg : Str → Option Value} {base : Heap} {C BN NT NP NL : Addr}
theorem scWf : FnScope nWf ["net", "post"] (defScope sWf) := ⟨rfl, rfl, rfl, by decide +kernel, rfl, by decide +kernel, by decide +kernel⟩
theorem ok_wf {f : Addr} {fd : FuncData} (F : FnP K "ways_from" sWf f fd) (N : ND P w K mg base C BN NT NP NL) :
    FnOk P w K mg base L2.CX0 5 f fd ["net", "post"] (spWf C) := by
  refine F.ok (CX := L2.CX0) scWf (fun vs H Q E h => ?_) (fun cdv A outer s H vs Q E hr h => ?_)
  · obtain ⟨o, dx, dp, de, ps, es, a, rfl, _⟩ := h
    rfl
  · refine ⟨_, (pss_cons (ps_set (i := 2) scWf.nd rfl (by first | exact Or.inl rfl | exact Or.inr rfl) (pe_disp (pps_cons (pv 1) (pe_lst pa_nil) pps_nil) (by rfl) (by rfl) (fun z => by cases z) (by decide)))
      (pss_cons (ps_set (i := 3) scWf.nd rfl (by first | exact Or.inl rfl | exact Or.inr rfl) (pe_lst (pa_cons (pv 1) pa_nil)))
      (pss_cons (ps_while (passes_of rfl) (pt_truth (pv 3) (by intro _; rfl)) (pss_cons (ps_set (i := 4) scWf.nd rfl (by first | exact Or.inl rfl | exact Or.inr rfl) (pe_bm PySem.F.plainAttrs_list PySem.F.slot_list_pop PySem.F.type_list_pop mt_popAt (pv 3) (pa_cons pe_int pa_nil)))
      (pss_one (ps_for (passes_of rfl) rfl (pi_tup (pe_moN (pv 0) N.cls N.out hr (pa_cons (pv 4) pa_nil))) (pg_name (i := 5) scWf.nd rfl (by first | exact Or.inl rfl | exact Or.inr rfl)) (pss_cons (ps_set (i := 6) scWf.nd rfl (by first | exact Or.inl rfl | exact Or.inr rfl) (pe_moN (pv 0) N.cls N.end_ hr (pa_cons (pv 5) pa_nil)))
      (pss_one (ps_if (pt_cmp (pc_dnotin (Nat.lt_of_le_of_lt (Nat.add_le_add_left (show 1 ≤ 64 by decide) _) hr.units) (pv 6) (pv 2))) (pss_cons (ps_dput (Nat.lt_of_le_of_lt (Nat.add_le_add_left (show 1 ≤ 64 by decide) _) hr.units) (pv 2) (pv 6) (pe_op op_cat (pe_dget (Nat.lt_of_le_of_lt (Nat.add_le_add_left (show 1 ≤ 64 by decide) _) hr.units) (pv 2) (pv 4) (fun _ _ => rfl)) (pe_lst (pa_cons (pv 5) pa_nil))) rfl)
      (pss_one (ps_expr (pe_bm PySem.F.plainAttrs_list PySem.F.slot_list_append PySem.F.type_list_append mt_append (pv 3) (pa_cons (pv 6) pa_nil))))) pss_nil)))))))
      (pss_one (ps_ret (pv 2)))))), ?_⟩
    obtain ⟨o, dx, dp, de, ps, es, a, rfl, N1, RO, hp30, he30, ha, k⟩ := h
    have nd : (laneNames es).Nodup := RO.1.2
    have lenE : es.length ≤ 1000 := by omega
    refine s_seq ?_
    refine fun d nd0 => ⟨_, rfl, Nat.zero_le _, fun l nl => ?_⟩
    have dl : d ≠ l := fun z => by rw [← z, upd_same] at nl; cases nl
    refine ⟨(upd_ne dl).trans upd_same, [((Sum.inr (tx a) : Key), V.ref l)], rfl, by show 1 ≤ 15; omega, ?_⟩
    refine s_seq ?_
    have hl0 : H l = none := fresh_back (Ex.new nd0) nl
    refine ⟨_, rfl, by show 1 ≤ sizeLine; decide, fun q nq => ?_⟩
    have qd : q ≠ d := fun z => by rw [z, upd_same] at nq; cases nq
    have ql : q ≠ l := fun z => by rw [z, upd_ne dl.symm, upd_same] at nq; cases nq
    have hq0 : H q = none := by
      rw [upd_ne qd, upd_ne ql, upd_ne qd] at nq
      exact nq
    have W0 : WS H (upd (upd (upd (upd H d (.dK [])) l (.lst [])) d (.dK (mergeK [] [((Sum.inr (tx a) : Key), V.ref l)]))) q (.lst [.str (tx a)])) d q [(l, a, [])] 0 :=
      { ex := (Ex.mut (Ex.mut (Ex.mut (Ex.mut (Ex.refl H) nd0) hl0) nd0) hq0)
        fd := nd0
        fq := hq0
        dct := (upd_ne qd.symm).trans upd_same
        que := upd_same
        way := fun x hx => by
          rw [List.mem_singleton.mp hx]
          exact ⟨(upd_ne ql.symm).trans ((upd_ne dl.symm).trans upd_same), ql.symm⟩
        short := fun x hx => by
          rw [List.mem_singleton.mp hx]
          exact Nat.zero_lt_one }
    dsimp only
    refine q_while (fun m st H' => ∃ t4 t5 t6 xs j, st = [some (.ref o), some (.str (tx a)), some (.ref d), some (.ref q), t4, t5, t6] ∧ WS H H' d q xs j ∧ Bfs (Edge (bare es)) a (posts xs) j ∧ Lev (LaneB (bare es)) a (wp xs) j ∧ j ≤ xs.length ∧ (∀ b ∈ posts xs, b ∈ ps) ∧ m = ps.length - j) ps.length
      ⟨none, none, none, [(l, a, [])], 0, rfl, W0, Bfs.start a, Lev.start a, Nat.zero_le _, fun b hb => by rw [List.mem_singleton.mp hb]; exact ha, by omega⟩ ?_
    rintro m st H1 ⟨t4, t5, t6, xs, j, rfl, W, B, Lv, hj, hin, hm⟩
    have hpl : (posts xs).length = xs.length := List.length_map _
    have hle : xs.length ≤ ps.length := by rw [← hpl]; exact few_of B.nd hin
    refine ⟨_, et_truL (ev_var rfl) (sq_of W.que), fun hb H2 e2 => ?_, fun hb H2 e2 => ?_⟩
    · have hlt : j < xs.length := by
        rw [Bool.not_eq_true', List.isEmpty_eq_false_iff] at hb
        have : 0 < ((vtx (posts xs)).drop j).length := List.length_pos_iff.mpr hb
        rw [List.length_drop, vtx_len, hpl] at this
        omega
      have W2 := W.grow e2
      have hjp : (posts xs)[j]? = some (posts xs)[j] := List.getElem?_eq_getElem (by rw [hpl]; exact hlt)
      generalize (posts xs)[j] = b0 at hjp
      have hdrop : (vtx (posts xs)).drop j = V.str (tx b0) :: (vtx (posts xs)).drop (j + 1) := by
        have h1 : j < (vtx (posts xs)).length := by rw [vtx_len, hpl]; exact hlt
        rw [List.drop_eq_getElem_cons h1]
        congr 1
        have := vtx_at hjp
        rw [List.getElem?_eq_getElem h1] at this
        exact Option.some.inj this
      have hb0 : b0 ∈ posts xs := List.mem_of_getElem? hjp
      have hb0p := hin _ hb0
      refine ⟨fun st H' => ∃ t4 t5 t6 xs, st = [some (.ref o), some (.str (tx a)), some (.ref d), some (.ref q), t4, t5, t6] ∧ WS H H' d q xs (j + 1) ∧ Bfs (Edge (bare es)) a (posts xs) (j + 1) ∧ Lev (LaneB (bare es)) a (wp xs) (j + 1) ∧ j + 1 ≤ xs.length ∧ (∀ b ∈ posts xs, b ∈ ps), ?_, ?_⟩
      · rintro st H3 ⟨t4, t5, t6, xs, rfl, W3, B3, Lv3, hj3, hin3⟩
        exact ⟨ps.length - (j + 1), by omega, t4, t5, t6, xs, j + 1, rfl, W3, B3, Lv3, hj3, hin3, rfl⟩
      · refine s_seq ?_
        refine ⟨_, rfl, .inl ⟨rfl, _, sq_of W2.que⟩, q, _, 0, 0, V.str (tx b0), rfl, rfl, W2.que, by decide, by decide, ?_, by rw [hdrop]; rfl, ?_⟩
        · rw [List.length_drop, vtx_len, hpl]
          have h1 : 0 < xs.length - j := by omega
          generalize xs.length - j = nn at h1
          unfold seqIndex?
          simp [h1]
        have W3 : WS H (upd H2 q (.lst (((vtx (posts xs)).drop j).eraseIdx 0))) d q xs (j + 1) :=
          { ex := Ex.mut W2.ex W2.fq
            fd := W2.fd
            fq := W2.fq
            dct := (upd_ne (ne_kind W2.dct W2.que (by intro z; cases z))).trans W2.dct
            que := by rw [upd_same, hdrop]; rfl
            way := fun x hx => ⟨(upd_ne (W2.way x hx).2).trans (W2.way x hx).1, (W2.way x hx).2⟩
            short := W2.short }
        dsimp only
        show tFor _ _ _ _ [some (.ref o), some (.str (tx a)), some (.ref d), some (.ref q), some (.str (tx b0)), t5, t6] _
        generalize hH3 : upd H2 q (.lst (((vtx (posts xs)).drop j).eraseIdx 0)) = H3 at W3
        clear hH3
        have rowsEq : ∀ r ∈ rowsFrom es b0, r ∈ es ∧ r.2.2.1 = b0 := fun r hr => ⟨(List.mem_filter.mp hr).1, of_decide_eq_true (List.mem_filter.mp hr).2⟩
        refine s_forNUn (eu_me (ev_var rfl) (N1.mono W3.ex).at_ rfl (ea_cons (ev_var rfl) ea_nil) (sv_out (N1.mono W3.ex) lenE nd hb0p))
          (fun t i st H' => ∃ t5 t6 xs', st = [some (.ref o), some (.str (tx a)), some (.ref d), some (.ref q), some (.str (tx b0)), t5, t6] ∧ H' t = some (.tup (vtx (laneNames (rowsFrom es b0)))) ∧ WS H H' d q xs' (j + 1) ∧ Bfs (Edge (bare es)) a (posts xs') j ∧ Lev (LaneB (bare es)) a (wp xs') j ∧ (posts xs')[j]? = some b0 ∧ (∀ b ∈ posts xs', b ∈ ps) ∧ ∀ r ∈ (rowsFrom es b0).take i, r.2.2.2 ∈ posts xs')
          (fun t H4 nt e4 ht => ⟨t5, t6, xs, rfl, ht, W3.grow e4, B, Lv, hjp, hin, fun r hr => by rw [List.take_zero] at hr; cases hr⟩)
          (fun t i st H' _ ⟨_, _, _, _, ht, _⟩ => st_of ht) ?_ ?_
        · rintro t i x st H4 hx ⟨t5, t6, xs', rfl, ht, W4, B4, Lv4, hj4, hin4, hr4⟩
          unfold vtx laneNames at hx
          rw [List.getElem?_map, List.getElem?_map, Option.map_map] at hx
          obtain ⟨r, hri, rfl⟩ := Option.map_eq_some_iff.mp hx
          have hri : (rowsFrom es b0)[i]? = some r := hri
          have hrm := List.mem_of_getElem? hri
          obtain ⟨hre, hrb⟩ := rowsEq r hrm
          obtain ⟨ie, hie⟩ := List.getElem?_of_mem hre
          have htk : (rowsFrom es b0).take (i + 1) = (rowsFrom es b0).take i ++ [r] := by rw [List.take_succ, hri]; rfl
          have hjx : j < xs'.length := by
            have := (List.getElem?_eq_some_iff.mp hj4).1
            unfold posts at this
            rwa [List.length_map] at this
          have hle4 : xs'.length ≤ ps.length := by
            have := few_of B4.nd hin4
            unfold posts at this
            rwa [List.length_map] at this
          have N4 := N1.mono W4.ex
          refine s_seq ?_
          refine s_asg (ev_me (ev_var rfl) N4.at_ rfl (ea_cons (ev_var rfl) ea_nil) (sv_end N4 (row_own nd hie))) fun H5 e5 => ?_
          have W5 := W4.grow e5
          have ht5 := e5 _ _ ht
          refine s_if (et_notin (ev_var rfl) (ev_var rfl) (DGet.k (k := (Sum.inr (tx r.2.2.2) : Key)) W5.dct)) (fun hb H6 e6 => ?_) (fun hb H6 e6 => ?_)
          · have hnew : r.2.2.2 ∉ posts xs' := fun z => by
              rw [ways_val, decide_eq_true z] at hb
              cases hb
            have W6 := W5.grow e6
            have hb4 : b0 ∈ posts xs' := List.mem_of_getElem? hj4
            obtain ⟨y, hy, hyb, hyv⟩ := ways_get hb4
            refine s_seq ?_
            refine (ev_dget (ev_var rfl) (ev_var rfl) (by rw [← hyv]; exact DGet.k (k := (Sum.inr (tx b0) : Key)) W6.dct) : Ev (tDGet (tVar 2) (tVar 4)) _ H6 (.ref y.1)) H6 (Ex.refl _) _ fun H7 e7 => ?_
            refine (el_lst (ea_cons (ev_var rfl) ea_nil) (by show 1 ≤ 100000; decide) : EvL (tLst (tCons (tVar 5) tNil)) _ H7 [.str (tx r.2.1)]) H7 (Ex.refl _) _ fun p H8 np e8 hp => ?_
            have W8 := W6.grow (e7.trans e8)
            have ht8 := (e6.trans (e7.trans e8)) _ _ ht5
            refine ⟨y.1, p, _, _, rfl, rfl, (W8.way y hy).1, hp, ?_, fun w nw => ?_⟩
            · have := W8.short y hy
              rw [vtx_len]
              exact sz_of (by show _ + 1 ≤ _; omega)
            have wd : w ≠ d := fun z => by rw [z, W8.dct] at nw; cases nw
            have wq : w ≠ q := fun z => by rw [z, W8.que] at nw; cases nw
            have hd9 : upd H8 w (.lst (vtx y.2.2 ++ [.str (tx r.2.1)])) d = some (.dK (dWays xs')) := (upd_ne wd.symm).trans W8.dct
            refine ⟨_, rfl, _, rfl, d, _, rfl, DPut.k (k := (Sum.inr (tx r.2.2.2) : Key)) hd9 (sz_lt ?_), ?_⟩
            · unfold dWays
              rw [List.length_map]
              omega
            dsimp only
            refine s_app (l := q) (xs := (vtx (posts xs')).drop (j + 1)) ?_ (ev_var rfl) (ev_var rfl) ?_ fun H9 e9 => ?_
            · rw [upd_ne (ne_kind W8.dct W8.que (by intro z; cases z)).symm, upd_ne wq.symm]
              exact W8.que
            · rw [List.length_drop, vtx_len]
              unfold posts
              rw [List.length_map]
              omega
            have qd8 : q ≠ d := (ne_kind W8.dct W8.que (by intro z; cases z)).symm
            have hw9 : H9 w = some (.lst (vtx (y.2.2 ++ [r.2.1]))) := by
              refine e9 _ _ ?_
              rw [upd_ne wd, upd_same]
              unfold vtx
              rw [List.map_append]
              rfl
            have old : ∀ (x : Addr) (u : HO), H8 x = some u → x ≠ d → x ≠ q → upd H9 q (.lst ((vtx (posts xs')).drop (j + 1) ++ [.str (tx r.2.2.2)])) x = some u := fun x u hx h1 h2 => by
              rw [upd_ne h2]
              refine e9 _ _ ?_
              rw [upd_ne h1, upd_ne (fun z => by rw [z, nw] at hx; cases hx)]
              exact hx
            refine ⟨_, _, xs' ++ [(w, r.2.2.2, y.2.2 ++ [r.2.1])], rfl, ?_, ⟨Ex.mut ((Ex.mut (W8.ex.trans (Ex.new nw)) W8.fd).trans e9) W8.fq, W8.fd, W8.fq, ?_, ?_, ?_, ?_⟩, ?_, ?_, ?_, ?_, ?_⟩
            · exact old _ _ ht8 (ne_kind ht8 W8.dct (by intro z; cases z)) (ne_kind ht8 W8.que (by intro z; cases z))
            · rw [upd_ne qd8.symm]
              refine e9 _ _ ?_
              rw [upd_same, putK_new _ (ways_none hnew)]
              unfold dWays
              rw [List.map_append]
              rfl
            · rw [upd_same]
              unfold posts vtx
              rw [List.map_append, List.map_append, List.drop_append_of_le_length (by rw [List.length_map, List.length_map]; omega)]
              rfl
            · intro x hx
              rcases List.mem_append.mp hx with hx | hx
              · have h1 := W8.way x hx
                exact ⟨old _ _ h1.1 (ne_kind h1.1 W8.dct (by intro z; cases z)) h1.2, h1.2⟩
              · rw [List.mem_singleton.mp hx]
                exact ⟨(upd_ne wq).trans hw9, wq⟩
            · intro x hx
              rw [List.length_append]
              rcases List.mem_append.mp hx with hx | hx
              · have := W8.short x hx
                omega
              · rw [List.mem_singleton.mp hx]
                have := W8.short y hy
                show (y.2.2 ++ [r.2.1]).length < _
                rw [List.length_append]
                show _ + 1 < _ + 1
                omega
            · unfold posts at B4 ⊢
              rw [List.map_append]
              refine B4.add (by rw [List.length_map]; omega) hb4 ?_ hnew
              exact ⟨r.2, List.mem_map.mpr ⟨r, hre, rfl⟩, hrb, rfl⟩
            · rw [wp_app]
              exact Lv4.add (wp_at B4.nd hj4 hy hyb) (List.mem_map.mpr ⟨r, hre, by rw [← hrb]⟩)
            · unfold posts at hj4 ⊢
              rw [List.map_append, List.getElem?_append_left (by rw [List.length_map]; exact hjx)]
              exact hj4
            · intro b hb'
              unfold posts at hb'
              rw [List.map_append] at hb'
              rcases List.mem_append.mp hb' with h | h
              · exact hin4 b h
              · rw [List.mem_singleton.mp h]
                exact (RO.2 r hre).2
            · intro r' hr'
              unfold posts
              rw [List.map_append]
              rw [htk] at hr'
              rcases List.mem_append.mp hr' with h | h
              · exact List.mem_append_left _ (hr4 r' h)
              · rw [List.mem_singleton.mp h]
                exact List.mem_append_right _ List.mem_cons_self
          · have hold : r.2.2.2 ∈ posts xs' := Decidable.byContradiction fun z => by
              rw [ways_val, decide_eq_false z] at hb
              cases hb
            refine ⟨_, _, xs', rfl, e6 _ _ ht5, W5.grow e6, B4, Lv4, hj4, hin4, fun r' hr' => ?_⟩
            rw [htk] at hr'
            rcases List.mem_append.mp hr' with h | h
            · exact hr4 r' h
            · rw [List.mem_singleton.mp h]
              exact hold
        · rintro t st H4 ⟨t5, t6, xs', rfl, ht, W4, B4, Lv4, hj4, hin4, hr4⟩
          have hjx : j < xs'.length := by
            have := (List.getElem?_eq_some_iff.mp hj4).1
            unfold posts at this
            rwa [List.length_map] at this
          refine ⟨_, _, _, xs', rfl, W4, B4.next hj4 (fun c hc => ?_), ?_, by omega, hin4⟩
          rotate_left
          · obtain ⟨ls, hls⟩ := wp_some hj4
            refine Lv4.next hls fun l c hl => ?_
            rw [wp_posts]
            unfold LaneB bare at hl
            obtain ⟨r, hr, hre⟩ := List.mem_map.mp hl
            have h1 : r.2.2.1 = b0 := by rw [hre]
            have h2 : r.2.2.2 = c := by rw [hre]
            rw [← h2]
            refine hr4 r ?_
            rw [List.take_of_length_le (by rw [vtx_len]; unfold laneNames; rw [List.length_map]; exact Nat.le_refl _)]
            exact List.mem_filter.mpr ⟨hr, decide_eq_true h1⟩
          obtain ⟨z, hz, hz1, hz2⟩ := hc
          unfold bare at hz
          obtain ⟨r, hr, rfl⟩ := List.mem_map.mp hz
          rw [← hz2]
          refine hr4 r ?_
          rw [List.take_of_length_le (by rw [vtx_len]; unfold laneNames; rw [List.length_map]; exact Nat.le_refl _)]
          exact List.mem_filter.mpr ⟨hr, decide_eq_true hz1⟩
    · have hge : ¬ j < xs.length := fun h => by
        rw [Bool.not_eq_false', List.isEmpty_iff] at hb
        have : ((vtx (posts xs)).drop j).length = 0 := by rw [hb]; rfl
        rw [List.length_drop, vtx_len, hpl] at this
        omega
      have W2 := W.grow e2
      refine s_ret (ev_var rfl) fun H3 e3 => k d xs H3 (W2.ex.trans e3) nd0 ⟨(W2.grow e3).dct, B.done (by rw [hpl]; omega), fun x hx => ((W2.grow e3).way x hx).1, fun x hx => Lv.done (by unfold wp; rw [List.length_map]; omega) (by rw [wp_posts]; exact B.nd) x.2 (List.mem_map.mpr ⟨x, hx, rfl⟩), fun x hx => by have := W2.short x hx; omega⟩
end
end K05

set_option Elab.async false
set_option linter.all false
set_option maxRecDepth 100000
set_option maxHeartbeats 4000000
/-! The law's own ways: the same search, its queue never shortened. -/
namespace K05
open PySem PySem.Spec PyProof.Rows L2 Vl Evl Vp Vr Vx2 Vlk Vda Vc Ve Vrc Vwy
theorem WS.put {H0 H8 H9 : Hp} {d q w : Addr} {xs : List Way} {j : Nat} {y : Way} {c l : List Nat} (W : WS H0 H8 d q xs j) (hj : j ≤ xs.length) (hy : y ∈ xs) (hn : c ∉ posts xs) (nw : H8 w = none)
    (e9 : Ex (upd (upd H8 w (.lst (vtx y.2.2 ++ [.str (tx l)]))) d (.dK (putK (dWays xs) (Sum.inr (tx c) : Key) (V.ref w)))) H9) :
    WS H0 (upd H9 q (.lst ((vtx (posts xs)).drop j ++ [.str (tx c)]))) d q (xs ++ [(w, c, y.2.2 ++ [l])]) j ∧ ∀ (x : Addr) (u : HO), H8 x = some u → x ≠ d → x ≠ q → upd H9 q (.lst ((vtx (posts xs)).drop j ++ [.str (tx c)])) x = some u := by
  have wd : w ≠ d := fun z => by rw [z, W.dct] at nw; cases nw
  have wq : w ≠ q := fun z => by rw [z, W.que] at nw; cases nw
  have qd : q ≠ d := (ne_kind W.dct W.que (by intro z; cases z)).symm
  have hw9 : H9 w = some (.lst (vtx (y.2.2 ++ [l]))) := by
    refine e9 _ _ ?_
    rw [upd_ne wd, upd_same]
    unfold vtx
    rw [List.map_append]
    rfl
  have old : ∀ (x : Addr) (u : HO), H8 x = some u → x ≠ d → x ≠ q → upd H9 q (.lst ((vtx (posts xs)).drop j ++ [.str (tx c)])) x = some u := fun x u hx h1 h2 => by
    rw [upd_ne h2]
    refine e9 _ _ ?_
    rw [upd_ne h1, upd_ne (fun z => by rw [z, nw] at hx; cases hx)]
    exact hx
  refine ⟨⟨Ex.mut ((Ex.mut (W.ex.trans (Ex.new nw)) W.fd).trans e9) W.fq, W.fd, W.fq, ?_, ?_, ?_, ?_⟩, old⟩
  · rw [upd_ne qd.symm]
    refine e9 _ _ ?_
    rw [upd_same, putK_new _ (ways_none hn)]
    unfold dWays
    rw [List.map_append]
    rfl
  · rw [upd_same]
    unfold posts vtx
    rw [List.map_append, List.map_append, List.drop_append_of_le_length (by rw [List.length_map, List.length_map]; omega)]
    rfl
  · intro x hx
    rcases List.mem_append.mp hx with hx | hx
    · have h1 := W.way x hx
      exact ⟨old _ _ h1.1 (ne_kind h1.1 W.dct (by intro z; cases z)) h1.2, h1.2⟩
    · rw [List.mem_singleton.mp hx]
      exact ⟨(upd_ne wq).trans hw9, wq⟩
  · intro x hx
    rw [List.length_append]
    rcases List.mem_append.mp hx with hx | hx
    · have := W.short x hx
      omega
    · rw [List.mem_singleton.mp hx]
      have := W.short y hy
      show (y.2.2 ++ [l]).length < _
      rw [List.length_append]
      show _ + 1 < _ + 1
      omega
theorem WS.len_eq (xs : List Way) : (posts xs).length = xs.length := List.length_map _
abbrev sWy : Stmt := top 34
abbrev nWy : List Str := ["_law_parts", "_law_start", "_law_ways_here", "_law_queue", "_law_at", "_law_lane", "_law_first", "_law_second"]
def spWy : Sp := fun vs H Q _ => ∃ (q pa pb : Addr) (ps : List (List Nat)) (rs : List Row) (a : List Nat), vs = [.ref q, .str (tx a)] ∧ Told H q pa pb ps rs ∧ RowsOk ps rs ∧ ps.length ≤ 30 ∧ rs.length ≤ 30 ∧ a ∈ ps ∧
  ∀ d xs H', Ex H H' → H d = none → WaysD H' d (bare rs) a xs → Q (.ref d) H'
section
variable {P : Program} {w : World} {K : PySem.W.Frag} {mg : Str → Option Value} {base : Heap}
theorem scWy : FnScope nWy ["_law_parts", "_law_start"] (defScope sWy) := ⟨rfl, rfl, rfl, by decide +kernel, rfl, by decide +kernel, by decide +kernel⟩
theorem ok_wy {f : Addr} {fd : FuncData} (F : FnP K "_law_ways" sWy f fd) (mLen : mg "len" = none) : FnOk P w K mg base L2.CX0 1 f fd ["_law_parts", "_law_start"] spWy := by
  refine F.ok (CX := L2.CX0) scWy (fun vs H Q E h => ?_) (fun cdv A outer s H vs Q E hr h => ?_)
  · obtain ⟨q, pa, pb, ps, rs, a, rfl, _⟩ := h
    rfl
  · refine ⟨_, (pss_cons (ps_set (i := 2) scWy.nd rfl (by first | exact Or.inl rfl | exact Or.inr rfl) (pe_disp (pps_cons (pv 1) (pe_lst pa_nil) pps_nil) (by rfl) (by rfl) (fun z => by cases z) (by decide)))
      (pss_cons (ps_set (i := 3) scWy.nd rfl (by first | exact Or.inl rfl | exact Or.inr rfl) (pe_lst (pa_cons (pv 1) pa_nil)))
      (pss_cons (ps_set (i := 4) scWy.nd rfl (by first | exact Or.inl rfl | exact Or.inr rfl) pe_int)
      (pss_cons (ps_while (passes_of rfl) (pt_cmpR op_lt (pv 4) (pe_callB call_len (by rfl) mLen boot_len (pa_cons (pv 3) pa_nil)) (nomark _)) (pss_cons (ps_for (passes_of rfl) rfl (pi_list (pe_ix ix_list (pv 0) pe_int fun _ _ => rfl)) (pg_tup rfl (pgs_cons (pg_name (i := 5) scWy.nd rfl (by first | exact Or.inl rfl | exact Or.inr rfl)) (pgs_cons (pg_name (i := 6) scWy.nd rfl (by first | exact Or.inl rfl | exact Or.inr rfl)) (pgs_cons (pg_name (i := 7) scWy.nd rfl (by first | exact Or.inl rfl | exact Or.inr rfl)) pgs_nil)))) (pss_one (ps_if (PW.pt (pw_and (pt_cmpR op_eq (pv 6) (pe_ix ix_list (pv 3) (pv 4) fun _ _ => rfl) (nomark _)) (pw_and1 (pt_cmp (pc_dnotin (Nat.lt_of_le_of_lt (Nat.add_le_add_left (show 1 ≤ 64 by decide) _) hr.units) (pv 7) (pv 2)))))) (pss_cons (ps_dput (Nat.lt_of_le_of_lt (Nat.add_le_add_left (show 1 ≤ 64 by decide) _) hr.units) (pv 2) (pv 7) (pe_op op_cat (pe_dget (Nat.lt_of_le_of_lt (Nat.add_le_add_left (show 1 ≤ 64 by decide) _) hr.units) (pv 2) (pv 6) (fun _ _ => rfl)) (pe_lst (pa_cons (pv 5) pa_nil))) rfl)
      (pss_one (ps_expr (pe_bm PySem.F.plainAttrs_list PySem.F.slot_list_append PySem.F.type_list_append mt_append (pv 3) (pa_cons (pv 7) pa_nil))))) pss_nil)))
      (pss_one (ps_set (i := 4) scWy.nd rfl (by first | exact Or.inl rfl | exact Or.inr rfl) (pe_op op_add (pv 4) pe_int)))))
      (pss_one (ps_ret (pv 2))))))), ?_⟩
    obtain ⟨g, pa, pb, ps, rs, a, rfl, T, RO, hp30, hr30, ha, k⟩ := h
    refine s_seq ?_
    refine fun d nd0 => ⟨_, rfl, Nat.zero_le _, fun l nl => ?_⟩
    have dl : d ≠ l := fun z => by rw [← z, upd_same] at nl; cases nl
    refine ⟨(upd_ne dl).trans upd_same, [((Sum.inr (tx a) : Key), V.ref l)], rfl, by show 1 ≤ 15; omega, ?_⟩
    refine s_seq ?_
    have hl0 : H l = none := fresh_back (Ex.new nd0) nl
    refine ⟨_, rfl, by show 1 ≤ sizeLine; decide, fun q nq => ?_⟩
    have qd : q ≠ d := fun z => by rw [z, upd_same] at nq; cases nq
    have ql : q ≠ l := fun z => by rw [z, upd_ne dl.symm, upd_same] at nq; cases nq
    have hq0 : H q = none := by
      rw [upd_ne qd, upd_ne ql, upd_ne qd] at nq
      exact nq
    have W0 : WS H (upd (upd (upd (upd H d (.dK [])) l (.lst [])) d (.dK (mergeK [] [((Sum.inr (tx a) : Key), V.ref l)]))) q (.lst [.str (tx a)])) d q [(l, a, [])] 0 :=
      { ex := (Ex.mut (Ex.mut (Ex.mut (Ex.mut (Ex.refl H) nd0) hl0) nd0) hq0)
        fd := nd0
        fq := hq0
        dct := (upd_ne qd.symm).trans upd_same
        que := upd_same
        way := fun x hx => by
          rw [List.mem_singleton.mp hx]
          exact ⟨(upd_ne ql.symm).trans ((upd_ne dl.symm).trans upd_same), ql.symm⟩
        short := fun x hx => by
          rw [List.mem_singleton.mp hx]
          exact Nat.zero_lt_one }
    refine s_seq ?_
    refine s_asg ev_c fun H0 e0 => ?_
    refine s_seq ?_
    refine s_while (fun m st H' => ∃ t5 t6 t7 xs, ∃ j : Nat, st = [some (.ref g), some (.str (tx a)), some (.ref d), some (.ref q), some (.int (j : Int)), t5, t6, t7] ∧ WS H H' d q xs 0 ∧ Bfs (Edge (bare rs)) a (posts xs) j ∧ Lev (LaneB (bare rs)) a (wp xs) j ∧ j ≤ xs.length ∧ (∀ b ∈ posts xs, b ∈ ps) ∧ m = ps.length - j) ps.length
      ⟨none, none, none, [(l, a, [])], 0, rfl, W0.grow e0, Bfs.start a, Lev.start a, Nat.zero_le _, fun b hb => by rw [List.mem_singleton.mp hb]; exact ha, by omega⟩ ?_
    rintro m st H1 ⟨t5, t6, t7, xs, j, rfl, W, B, Lv, hj, hin, hm⟩
    have hpl : (posts xs).length = xs.length := List.length_map _
    have hle : xs.length ≤ ps.length := by rw [← hpl]; exact few_of B.nd hin
    have hq1 : H1 q = some (.lst (vtx (posts xs))) := W.que
    refine ⟨_, et_test (ev_op (ev_var rfl) (ev_lenA (ev_var rfl) (sq_of hq1)) rv_I0), fun hb H2 e2 => ?_, fun hb H2 e2 => ?_⟩
    · have hlt : j < xs.length := by
        have := of_decide_eq_true hb
        rw [vtx_len, hpl] at this
        omega
      have W2 := W.grow e2
      have hjp : (posts xs)[j]? = some (posts xs)[j] := List.getElem?_eq_getElem (by rw [hpl]; exact hlt)
      generalize (posts xs)[j] = b0 at hjp
      refine ⟨fun st H' => ∃ t5 t6 t7 xs, st = [some (.ref g), some (.str (tx a)), some (.ref d), some (.ref q), some (.int ((j + 1 : Nat) : Int)), t5, t6, t7] ∧ WS H H' d q xs 0 ∧ Bfs (Edge (bare rs)) a (posts xs) (j + 1) ∧ Lev (LaneB (bare rs)) a (wp xs) (j + 1) ∧ j + 1 ≤ xs.length ∧ (∀ b ∈ posts xs, b ∈ ps), ?_, ?_⟩
      · rintro st H3 ⟨t5, t6, t7, xs, rfl, W3, B3, Lv3, hj3, hin3⟩
        exact ⟨ps.length - (j + 1), by omega, t5, t6, t7, xs, j + 1, rfl, W3, B3, Lv3, hj3, hin3, rfl⟩
      · have T2 := T.mono W2.ex
        refine s_seq ?_
        dsimp only
        refine s_forL (ev_ixA (i := 1) (ev_var rfl) (sq_of T2.at_) rfl) (sq_of T2.rows) (fun i st H' => ∃ t5 t6 t7 xs', st = [some (.ref g), some (.str (tx a)), some (.ref d), some (.ref q), some (.int (j : Int)), t5, t6, t7] ∧ WS H H' d q xs' 0 ∧ Bfs (Edge (bare rs)) a (posts xs') j ∧ Lev (LaneB (bare rs)) a (wp xs') j ∧ (posts xs')[j]? = some b0 ∧ (∀ b ∈ posts xs', b ∈ ps) ∧ ∀ r ∈ rs.take i, r.2.2.1 = b0 → r.2.2.2 ∈ posts xs')
          (fun H3 e3 => ⟨t5, t6, t7, xs, rfl, W2.grow e3, B, Lv, hjp, hin, fun r hr => by rw [List.take_zero] at hr; cases hr⟩) (fun i st H' _ ⟨_, _, _, _, _, W4, _⟩ => sq_of (W4.ex _ _ T.rows)) ?_ ?_
        · rintro i x st H4 hx ⟨t5, t6, t7, xs', rfl, W4, B4, Lv4, hj4, hin4, hr4⟩
          unfold refs at hx
          rw [List.getElem?_map] at hx
          obtain ⟨r, hri, rfl⟩ := Option.map_eq_some_iff.mp hx
          have hre := List.mem_of_getElem? hri
          have htk : rs.take (i + 1) = rs.take i ++ [r] := by rw [List.take_succ, hri]; rfl
          have hjx : j < xs'.length := by
            have := (List.getElem?_eq_some_iff.mp hj4).1
            rwa [WS.len_eq] at this
          have hle4 : xs'.length ≤ ps.length := by
            have := few_of B4.nd hin4
            rwa [WS.len_eq] at this
          have hq4 : H4 q = some (.lst (vtx (posts xs'))) := W4.que
          refine ⟨r.1, _, rfl, .inl (.inl (W4.ex _ _ (T.row r hre))), rfl, ?_⟩
          refine ⟨_, _, rfl, _, _, rfl, _, _, rfl, rfl, ?_⟩
          dsimp only
          show tIfS _ _ _ _ [some (.ref g), some (.str (tx a)), some (.ref d), some (.ref q), some (.int (j : Int)), some (.str (tx r.2.1)), some (.str (tx r.2.2.1)), some (.str (tx r.2.2.2))] H4
          refine s_if (et_and (et_test (ev_op (ev_var rfl) (ev_op (ev_var rfl) (ev_var rfl) (rv_ixL (sq_of hq4) (atI_nat (vtx_at hj4)))) (rv_eq rfl))) (fun _ => et_notin (ev_var rfl) (ev_var rfl) (DGet.k (k := (Sum.inr (tx r.2.2.2) : Key)) W4.dct))) (fun hb H6 e6 => ?_) (fun hb H6 e6 => ?_)
          · rw [Bool.and_eq_true] at hb
            have hst : r.2.2.1 = b0 := tx_inj (by have := of_decide_eq_true hb.1; injection this)
            have hnew : r.2.2.2 ∉ posts xs' := fun z => by
              have := hb.2
              rw [ways_val, decide_eq_true z] at this
              cases this
            have W6 := W4.grow e6
            have hb4 : b0 ∈ posts xs' := List.mem_of_getElem? hj4
            obtain ⟨y, hy, hyb, hyv⟩ := ways_get hb4
            refine s_seq ?_
            refine (ev_dget (ev_var rfl) (ev_var rfl) (by rw [← hyv, ← hst]; exact DGet.k (k := (Sum.inr (tx r.2.2.1) : Key)) W6.dct) : Ev (tDGet (tVar 2) (tVar 6)) _ H6 (.ref y.1)) H6 (Ex.refl _) _ fun H7 e7 => ?_
            refine (el_lst (ea_cons (ev_var rfl) ea_nil) (by show 1 ≤ 100000; decide) : EvL (tLst (tCons (tVar 5) tNil)) _ H7 [.str (tx r.2.1)]) H7 (Ex.refl _) _ fun p H8 np e8 hp => ?_
            have W8 := W6.grow (e7.trans e8)
            refine ⟨y.1, p, _, _, rfl, rfl, (W8.way y hy).1, hp, ?_, fun w nw => ?_⟩
            · have := W8.short y hy
              rw [vtx_len]
              exact sz_of (by show _ + 1 ≤ _; omega)
            have wd : w ≠ d := fun z => by rw [z, W8.dct] at nw; cases nw
            have wq : w ≠ q := fun z => by rw [z, W8.que] at nw; cases nw
            have hd9 : upd H8 w (.lst (vtx y.2.2 ++ [.str (tx r.2.1)])) d = some (.dK (dWays xs')) := (upd_ne wd.symm).trans W8.dct
            refine ⟨_, rfl, _, rfl, d, _, rfl, DPut.k (k := (Sum.inr (tx r.2.2.2) : Key)) hd9 (sz_lt ?_), ?_⟩
            · unfold dWays
              rw [List.length_map]
              omega
            dsimp only
            refine s_app (l := q) (xs := vtx (posts xs')) ?_ (ev_var rfl) (ev_var rfl) ?_ fun H9 e9 => ?_
            · rw [upd_ne (ne_kind W8.dct W8.que (by intro z; cases z)).symm, upd_ne wq.symm]
              exact W8.que
            · rw [vtx_len, WS.len_eq]
              omega
            obtain ⟨W9, old⟩ := W8.put (c := r.2.2.2) (l := r.2.1) (Nat.zero_le _) hy hnew nw e9
            refine ⟨_, _, _, xs' ++ [(w, r.2.2.2, y.2.2 ++ [r.2.1])], rfl, W9, ?_, ?_, ?_, ?_, ?_⟩
            · unfold posts at B4 ⊢
              rw [List.map_append]
              refine B4.add (by rw [List.length_map]; omega) hb4 ?_ hnew
              exact ⟨r.2, List.mem_map.mpr ⟨r, hre, rfl⟩, hst, rfl⟩
            · rw [wp_app]
              exact Lv4.add (wp_at B4.nd hj4 hy hyb) (List.mem_map.mpr ⟨r, hre, by rw [← hst]⟩)
            · unfold posts at hj4 ⊢
              rw [List.map_append, List.getElem?_append_left (by rw [List.length_map]; exact hjx)]
              exact hj4
            · intro b hb'
              unfold posts at hb'
              rw [List.map_append] at hb'
              rcases List.mem_append.mp hb' with h | h
              · exact hin4 b h
              · rw [List.mem_singleton.mp h]
                exact (RO.2 r hre).2
            · intro r' hr' hs'
              unfold posts
              rw [List.map_append]
              rw [htk] at hr'
              rcases List.mem_append.mp hr' with h | h
              · exact List.mem_append_left _ (hr4 r' h hs')
              · rw [List.mem_singleton.mp h]
                exact List.mem_append_right _ List.mem_cons_self
          · refine ⟨_, _, _, xs', rfl, W4.grow e6, B4, Lv4, hj4, hin4, fun r' hr' hs' => ?_⟩
            rw [htk] at hr'
            rcases List.mem_append.mp hr' with h | h
            · exact hr4 r' h hs'
            · have hrr := List.mem_singleton.mp h
              rw [hrr] at hs' ⊢
              refine Decidable.byContradiction fun z => ?_
              rw [ways_val, decide_eq_false z, decide_eq_true (by rw [hs'])] at hb
              cases hb
        · rintro st H4 ⟨t5, t6, t7, xs', rfl, W4, B4, Lv4, hj4, hin4, hr4⟩
          have hjx : j < xs'.length := by
            have := (List.getElem?_eq_some_iff.mp hj4).1
            rwa [WS.len_eq] at this
          refine s_asg (ev_op (ev_var rfl) ev_c rv_I0) fun H5 e5 => ⟨_, _, _, xs', rfl, W4.grow e5, B4.next hj4 (fun c hc => ?_), ?_, by omega, hin4⟩
          rotate_left
          · obtain ⟨ls, hls⟩ := wp_some hj4
            refine Lv4.next hls fun l c hl => ?_
            rw [wp_posts]
            unfold LaneB bare at hl
            obtain ⟨r, hr, hre⟩ := List.mem_map.mp hl
            have h1 : r.2.2.1 = b0 := by rw [hre]
            have h2 : r.2.2.2 = c := by rw [hre]
            rw [← h2]
            refine hr4 r ?_ h1
            rw [List.take_of_length_le (by unfold refs; rw [List.length_map]; exact Nat.le_refl _)]
            exact hr
          obtain ⟨z, hz, hz1, hz2⟩ := hc
          unfold bare at hz
          obtain ⟨r, hr, rfl⟩ := List.mem_map.mp hz
          rw [← hz2]
          refine hr4 r ?_ hz1
          rw [List.take_of_length_le (by unfold refs; rw [List.length_map]; exact Nat.le_refl _)]
          exact hr
    · have hge : ¬ j < xs.length := fun h => by
        have := of_decide_eq_false hb
        rw [vtx_len, hpl] at this
        omega
      have W2 := W.grow e2
      refine s_ret (ev_var rfl) fun H3 e3 => k d xs H3 (W2.ex.trans e3) nd0 ⟨(W2.grow e3).dct, B.done (by rw [hpl]; omega), fun x hx => ((W2.grow e3).way x hx).1, fun x hx => Lv.done (by unfold wp; rw [List.length_map]; omega) (by rw [wp_posts]; exact B.nd) x.2 (List.mem_map.mpr ⟨x, hx, rfl⟩), fun x hx => by have := W2.short x hx; omega⟩
end
end K05

set_option Elab.async false
set_option linter.all false
set_option maxRecDepth 100000
set_option maxHeartbeats 4000000
/-! The net that the law builds. -/
namespace K05
open PySem PySem.Spec PyProof.Rows L2 Vl Evl Vp Vr Vx2 Vlk Vda Vc Ve Vrc
theorem NetAt.addP {C : Addr} {H : Hp} {o dx dp de : Addr} {ps : List (List Nat)} (n : NetAt C H o dx dp de ps []) (hdd : dp ≠ de) (l : List Nat) : NetAt C (upd H dp (.dK (dPosts (ps ++ [l])))) o dx dp de (ps ++ [l]) [] :=
  ⟨(upd_ne (ne_kind n.at_ n.posts (by intro z; cases z))).trans n.at_, upd_same, (upd_ne hdd.symm).trans n.ends, fun _ h => nomatch h⟩
theorem NetAt.addE {C : Addr} {H : Hp} {o dx dp de t : Addr} {ps : List (List Nat)} {es : List Row} (n : NetAt C H o dx dp de ps es) (hdd : dp ≠ de) (l a b : List Nat) (ht : H t = some (.tup [.str (tx a), .str (tx b)])) : NetAt C (upd H de (.dK (dEnds (es ++ [(t, (l, a, b))])))) o dx dp de ps (es ++ [(t, (l, a, b))]) :=
  ⟨(upd_ne (ne_kind n.at_ n.ends (by intro z; cases z))).trans n.at_, (upd_ne hdd).trans n.posts, upd_same, fun e he => by
    have keep : ∀ {x : Addr} {u : List V}, H x = some (.tup u) → upd H de (.dK (dEnds (es ++ [(t, (l, a, b))]))) x = some (.tup u) := fun hx => (upd_ne (ne_kind hx n.ends (by intro z; cases z))).trans hx
    rcases List.mem_append.mp he with he | he
    · exact keep (n.rows e he)
    · rw [List.mem_singleton.mp he]
      exact keep ht⟩
theorem bare_len {es rs : List Row} (h : bare es = bare rs) : es.length = rs.length := by
  have := congrArg List.length h
  unfold bare at this
  rwa [List.length_map, List.length_map] at this
theorem rows_bare {ps : List (List Nat)} {es rs : List Row} (h : bare es = bare rs) (RO : RowsOk ps rs) : RowsOk ps es := by
  refine ⟨?_, fun r hr => ?_⟩
  · have : (es.map fun r => r.2.1) = rs.map fun r => r.2.1 := bare_names h
    rw [this]
    exact RO.1
  · have h1 : r.2 ∈ bare rs := by
      rw [← h]
      exact List.mem_map.mpr ⟨r, hr, rfl⟩
    unfold bare at h1
    obtain ⟨r', hr', he⟩ := List.mem_map.mp h1
    rw [← he]
    exact RO.2 r' hr'
abbrev sBu : Stmt := top 32
abbrev nBu : List Str := ["_law_parts", "_law_net_here", "_law_post", "_law_lane", "_law_start", "_law_end"]
def spBu (C : Addr) : Sp := fun vs H Q _ => ∃ (q a b : Addr) (ps : List (List Nat)) (rs : List Row), vs = [.ref q] ∧ Told H q a b ps rs ∧ Names ps ∧ RowsOk ps rs ∧ ps.length ≤ 30 ∧ rs.length ≤ 30 ∧
  ∀ (o dx dp de : Addr) (es : List Row) (H' : Hp), Ex H H' → NetAt C H' o dx dp de ps es → bare es = bare rs → Q (.ref o) H'
section
variable {P : Program} {w : World} {K : PySem.W.Frag} {mg : Str → Option Value} {base : Heap} {C BN NT NP NL : Addr}
theorem scBu : FnScope nBu ["_law_parts"] (defScope sBu) := ⟨rfl, rfl, rfl, by decide +kernel, rfl, by decide +kernel, by decide +kernel⟩
theorem ok_bu {f : Addr} {fd : FuncData} (F : FnP K "_law_built" sBu f fd) (N : ND P w K mg base C BN NT NP NL) : FnOk P w K mg base L2.CX0 5 f fd ["_law_parts"] (spBu C) := by
  refine F.ok (CX := L2.CX0) scBu (fun vs H Q E h => ?_) (fun cdv A outer s H vs Q E hr h => ?_)
  · obtain ⟨q, a, b, ps, rs, rfl, _⟩ := h
    rfl
  · refine ⟨_, (pss_cons (ps_set (i := 1) scBu.nd rfl (by first | exact Or.inl rfl | exact Or.inr rfl) (pe_nw0 N.new hr (by rfl)))
      (pss_cons (ps_for (passes_of rfl) rfl (pi_list (pe_ix ix_list (pv 0) pe_int fun _ _ => rfl)) (pg_name (i := 2) scBu.nd rfl (by first | exact Or.inl rfl | exact Or.inr rfl)) (pss_one (ps_expr (pe_moN (pv 1) N.cls N.post hr (pa_cons (pv 2) pa_nil)))))
      (pss_cons (ps_for (passes_of rfl) rfl (pi_list (pe_ix ix_list (pv 0) pe_int fun _ _ => rfl)) (pg_tup rfl (pgs_cons (pg_name (i := 3) scBu.nd rfl (by first | exact Or.inl rfl | exact Or.inr rfl)) (pgs_cons (pg_name (i := 4) scBu.nd rfl (by first | exact Or.inl rfl | exact Or.inr rfl)) (pgs_cons (pg_name (i := 5) scBu.nd rfl (by first | exact Or.inl rfl | exact Or.inr rfl)) pgs_nil)))) (pss_one (ps_expr (pe_moN (pv 1) N.cls N.lane hr (pa_cons (pv 3) (pa_cons (pv 4) (pa_cons (pv 5) pa_nil)))))))
      (pss_one (ps_ret (pv 1)))))), ?_⟩
    obtain ⟨q, a, b, ps, rs, rfl, T, NA, RO, hp30, hr30, k⟩ := h
    refine s_seq ?_
    intro o dx no ndx nex
    refine ⟨o, dx, H, rfl, rfl, no, ndx, nex, fun dp de H3 e3 ndp nde hdd N3 => ⟨rfl, ?_⟩⟩
    refine s_seq ?_
    have T3 := T.mono e3
    refine s_forL (ev_ixA (i := 0) (ev_var rfl) (sq_of T3.at_) rfl) (sq_of T3.posts) (fun i st H' => ∃ t2, st = [some (.ref q), some (.ref o), t2, none, none, none] ∧ Ex H H' ∧ NetAt C H' o dx dp de (ps.take i) [])
      (fun H6 e6 => ⟨none, rfl, e3.trans e6, by rw [List.take_zero]; exact N3.mono e6⟩) (fun i st H' _ ⟨_, _, e, _⟩ => sq_of (e _ _ T.posts)) ?_ ?_
    · rintro i x st H6 hx ⟨t5, rfl, e6, N6⟩
      unfold vtx at hx
      rw [List.getElem?_map] at hx
      obtain ⟨l0, hl0, rfl⟩ := Option.map_eq_some_iff.mp hx
      have htk : ps.take (i + 1) = ps.take i ++ [l0] := by rw [List.take_succ, hl0]; rfl
      have nm := NA.1 _ (List.mem_of_getElem? hl0)
      have nin : l0 ∉ ps.take i := fun z => by
        have nd2 := NA.2.sublist (List.take_sublist (i + 1) ps)
        rw [htk, List.nodup_append] at nd2
        exact nd2.2.2 _ z _ (List.mem_singleton.mpr rfl) rfl
      have ltk : (ps.take i).length ≤ 30 := by rw [List.length_take]; omega
      refine ⟨_, rfl, o, dx, _, rfl, N6.at_, rfl, _, rfl, o, dx, dp, de, ps.take i, [], _, rfl, N6, by omega, .inl ⟨nm, nin, fun H7 e7 => ?_⟩⟩
      refine ⟨_, rfl, Ex.mut (e6.trans e7) ndp, ?_⟩
      rw [htk]
      exact (N6.mono e7).addP hdd l0
    rintro st H6 ⟨t5, rfl, e6, N6⟩
    rw [vtx_len, List.take_length] at N6
    refine s_seq ?_
    have T6 := T.mono e6
    dsimp only
    refine s_forL (ev_ixA (i := 1) (ev_var rfl) (sq_of T6.at_) rfl) (sq_of T6.rows) (fun i st H' => ∃ t2 t3 t4 t5 es, st = [some (.ref q), some (.ref o), t2, t3, t4, t5] ∧ Ex H H' ∧ NetAt C H' o dx dp de ps es ∧ bare es = bare (rs.take i))
      (fun H7 e7 => ⟨_, none, none, none, [], rfl, e6.trans e7, N6.mono e7, by rw [List.take_zero]⟩) (fun i st H' _ ⟨_, _, _, _, _, _, e, _⟩ => sq_of (e _ _ T.rows)) ?_ ?_
    · rintro i x st H7 hx ⟨t2, t3, t4, t5, es, rfl, e7, N7, hbe⟩
      unfold refs at hx
      rw [List.getElem?_map] at hx
      obtain ⟨r, hr1, rfl⟩ := Option.map_eq_some_iff.mp hx
      have hmr := List.mem_of_getElem? hr1
      have htk : rs.take (i + 1) = rs.take i ++ [r] := by rw [List.take_succ, hr1]; rfl
      have nm := RO.1.1 _ (List.mem_map_of_mem (f := fun r : Row => r.2.1) hmr)
      have nin : r.2.1 ∉ laneNames es := fun z => by
        rw [bare_names hbe] at z
        have nd2 : (laneNames (rs.take (i + 1))).Nodup := by
          unfold laneNames
          rw [List.map_take]
          exact RO.1.2.sublist (List.take_sublist _ _)
        rw [htk] at nd2
        unfold laneNames at nd2 z
        rw [List.map_append, List.nodup_append] at nd2
        exact nd2.2.2 _ z _ (List.mem_singleton.mpr rfl) rfl
      have ltk : es.length ≤ 30 := by
        have := bare_len hbe
        rw [List.length_take] at this
        omega
      refine ⟨r.1, _, rfl, .inl (.inl (e7 _ _ (T.row r hmr))), rfl, ?_⟩
      refine ⟨_, _, rfl, _, _, rfl, _, _, rfl, rfl, ?_⟩
      refine ⟨_, rfl, o, dx, _, rfl, N7.at_, rfl, _, rfl, _, rfl, _, rfl, o, dx, dp, de, ps, es, r.2.1, r.2.2.1, r.2.2.2, rfl, N7, by omega, .inl ⟨nm, nin, (RO.2 r hmr).1, (RO.2 r hmr).2, fun t H8 e8 nt ht => ?_⟩⟩
      refine ⟨_, _, _, _, es ++ [(t, (r.2.1, r.2.2.1, r.2.2.2))], rfl, Ex.mut (e7.trans e8) nde, (N7.mono e8).addE hdd _ _ _ ht, ?_⟩
      rw [htk]
      unfold bare at hbe ⊢
      rw [List.map_append, List.map_append, hbe]
      rfl
    · rintro st H7 ⟨t2, t3, t4, t5, es, rfl, e7, N7, hbe⟩
      rw [List.take_of_length_le (by unfold refs; rw [List.length_map]; exact Nat.le_refl _)] at hbe
      exact s_ret (ev_var rfl) fun H8 e8 => k o dx dp de es H8 (e7.trans e8) (N7.mono e8) hbe
end
end K05

set_option Elab.async false
set_option linter.all false
set_option maxRecDepth 100000
set_option maxHeartbeats 2000000
/-! raise C(), C an own class without an own __init__. -/
namespace Vx2
open PySem PySem.Spec PyProof.Rows L2 Vl Evl
section
variable {X : Cx} {C : Addr} {bmB : List Value} {B newId initId : String} {x : Str} {p pos : Pos}
theorem pmk_own0 (F : ExcBaseFacts B newId initId bmB) (q : PySem.W.excIn X.K C bmB newId = true) (gC : X.mg x = some (.ref C)) (kC : PySem.W.keepIn X.K (.ref C) = true) (r : Raises X (.ref C)) (hg : Gl X x)
    (hdb : (x == ("__debug__" : Str)) = false := by decide) : PMk X (.Call (.Name x p) [] [] pos) (fun _ H Q => Q (.ref C) none H) := by
  intro pins s σ H Q I h
  refine wpAny_Call_Name_kw (ld_glob I hg gC ?_ hdb)
  refine PySem.W.callWith_K0 I.kIn kC ?_
  obtain ⟨bm, N, nm, qn, bs, hdct, sn, sub, ab, col, dd, k0, k1, k2, k3, k5, mN, hC, hN, hni, T⟩ := exc_obj I.kIn q
  refine wpAny_call_exc_subT F T hC hN hni (fun h' e hm => ?_) (by show 0 ≤ sizeLine; omega)
  exact mk_of I hm r h (I.hok.gone hm.new)
end
/-- what is asked of a class without an own __init__ to be raised -/
structure Err0 (K : PySem.W.Frag) (mg : Str → Option Value) (x : Str) (C : Addr) : Prop where
  q : PySem.W.excIn K C He.veBase "ValueError.__new__" = true
  exC : PySem.W.subIn K (.ref C) (.type "BaseException") = some true
  tyC : PySem.W.typeIn K (.ref C) = some (.type "type")
  kC : PySem.W.keepIn K (.ref C) = true
  g : mg x = some (.ref C)
theorem pmk_err0 {X : Cx} {C : Addr} {x : Str} {p pos : Pos} (h : Err0 X.K X.mg x C) (hg : Gl X x) (hdb : (x == ("__debug__" : Str)) = false := by decide) : PMk X (.Call (.Name x p) [] [] pos) (fun _ H Q => Q (.ref C) none H) :=
  pmk_own0 PySem.F.excBase_ValueError h.q h.g h.kC (raises_own h.exC h.tyC) hg hdb
end Vx2

set_option Elab.async false
set_option linter.all false
set_option maxRecDepth 100000
set_option maxHeartbeats 2000000
/-! Comprehensions over a new tuple; `in` of a dict that is made there. -/
namespace Ve
open PySem PySem.Spec PyProof.Rows L2 Vl Evl
section
variable {K : PySem.W.Frag} {σ : L2.St} {H : Hp} {te : TE}
theorem el_lcU {α : Type} {ys : List α} {g : α → V} {tl : TE} {j : Nat} {vs : List Nat} {tt : TT} (c : α → Bool) (w : α → V) (h : EvU tl σ H (ys.map g)) (hz : ys.length ≤ 40000) (hw : ∀ x, wipe ((wipe σ vs).set j (some x)) vs = wipe σ vs)
    (ht : ∀ (y : α) (H1 : Hp), Ex H H1 → y ∈ ys → EvT tt ((wipe σ vs).set j (some (g y))) H1 (c y)) (he : ∀ (y : α) (H1 : Hp), Ex H H1 → y ∈ ys → c y = true → Ev te ((wipe σ vs).set j (some (g y))) H1 (w y)) :
    EvL (tLc (iTup K tl) (gName j) tt te vs) σ H ((ys.filter c).map w) := fun H0 e Q q => h H0 e _ fun a H1 ha e1 hx => ⟨a, rfl, ⟨ys.map g, st_of hx⟩, fun Dl hD => by
  have hgm := given_map c w (fun i => match ys[i]? with | some y => c y | none => false) (fun i => match ys[i]? with | some y => w y | none => .non) (fun i y hy => by rw [hy]; exact ⟨rfl, rfl⟩) ys.length (Nat.le_refl _)
  rw [List.take_length] at hgm
  refine lc_tup (xs := ys.map g) (Cw H1 (fun i => match ys[i]? with | some y => c y | none => false) (fun i => match ys[i]? with | some y => w y | none => .non) Dl) ⟨hD, Ex.new hD, upd_same⟩ (fun i H' _ p => st_of (p.2.1 a _ hx)) (fun i x H' hi p => ⟨hw x, ?_⟩)
    (fun H' p => q Dl H' (fresh_back e1 p.1) (e1.trans p.2.1) (by have h2 := p.2.2; rw [List.length_map, hgm] at h2; exact h2))
  rw [List.getElem?_map] at hi
  obtain ⟨y, hy, rfl⟩ := Option.map_eq_some_iff.mp hi
  have hm := List.mem_of_getElem? hy
  refine cw_turn p (by have := (List.getElem?_eq_some_iff.mp hy).1; omega) ?_ ?_
  · rw [hy]
    exact ht y H1 (e.trans e1) hm
  · rw [hy]
    exact fun hf => he y H1 (e.trans e1) hm hf⟩
theorem ev_lenT {p : Addr} {xs : List V} (h : Ev te σ H (.ref p)) (hx : SqT K H p xs) : Ev (tCB (fun vs H Q => ∃ x n, vs = [x] ∧ LenV K x H n ∧ Q (.int n) H) (tCons te tNil)) σ H (.int (xs.length : Nat)) := fun H1 e Q q =>
  h H1 e _ fun H2 e2 => ⟨.ref p, xs.length, rfl, .inr ⟨xs, ex_t (e.trans e2) hx, rfl⟩, q H2 e2⟩
/-- x in d, d made there -/
theorem et_inN {ty td : TE} {y : V} {b : Bool} (h1 : Ev ty σ H y) (h2 : ∀ H1, Ex H H1 → ∀ Q : VK, (∀ d o H2, Ex H1 H2 → DGet H2 d y o → o.isSome = b → Q (.ref d) H2) → td σ H1 Q) : EvT (tB (tDIn ty td)) σ H b := fun H1 e Q q =>
  h1 H1 e _ fun H2 e2 => h2 H2 (e.trans e2) _ fun d o H3 e3 hg hb => ⟨d, o, rfl, hg, _, rfl, by rw [hb]; exact q H3 (e2.trans e3)⟩
end
end Ve

set_option Elab.async false
set_option linter.all false
set_option maxRecDepth 100000
set_option maxHeartbeats 4000000
/-! walked: the posts of a walk. -/
namespace K05
open PySem PySem.Spec PyProof.Rows L2 Vl Evl Vp Vr Vx2 Vlk Vda Vc Ve Vrc Ven
section
variable {K : PySem.W.Frag} {σ : L2.St} {H B : Hp} {D : Ends} {tu : TS} {g : TG} {a : Addr} {xs : List V}
theorem s_forEnB {ta : TA} (h : EvA ta σ H [.ref a]) (hB : Ex B H) (hx : SqA K B a xs) (Pv : Nat → L2.St → Hp → Prop) (h0 : ∀ H1, Ex H H1 → Pv 0 σ H1) (hl : ∀ i σ' H', Pv i σ' H' → Ex B H')
    (hs : ∀ i x T σ' H', xs[i]? = some x → Pv i σ' H' → H' T = none → g (.ref T) σ' (upd H' T (.tup [.int (i : Nat), x])) fun σ2 H2 => tu { D with nx := Pv (i + 1), ct := Pv (i + 1), bk := D.nx } σ2 H2) (hd : ∀ σ' H', Pv xs.length σ' H' → D.nx σ' H') : tFor (iEnumA K ta) g tu D σ H :=
  h H (Ex.refl H) _ fun H1 e => ⟨a, xs, rfl, by
    rcases hx with hx | hx
    · exact .inl ⟨ex_l (hB.trans e) hx, for_it walk_en Pv (h0 H1 e) (fun i σ' H' _ p => ex_l (hl i σ' H' p) hx) (fun i v σ' H' H2 _ p ⟨T, x, e1, e2, e3, e4⟩ => by subst e1 e3; exact hs i x T σ' H' e4 p e2) hd⟩
    · exact .inr ⟨ex_t (hB.trans e) hx, for_it walk_enT Pv (h0 H1 e) (fun i σ' H' _ p => ex_t (hl i σ' H' p) hx) (fun i v σ' H' H2 _ p ⟨T, x, e1, e2, e3, e4⟩ => by subst e1 e3; exact hs i x T σ' H' e4 p e2) hd⟩⟩
theorem rv_ixQ {i : Int} {v : V} (h : SqA K H a xs) (ha : atI xs i = some v) : RV (rIx K) (.ref a) (.int i) H v := fun H1 e Q q => (ex_a e h).elim (fun h => .inl ⟨a, xs, i, v, rfl, rfl, h, ha, q H1 (Ex.refl H1)⟩) (fun h => .inr (.inl ⟨a, xs, i, v, rfl, rfl, h, ha, q H1 (Ex.refl H1)⟩))
end
abbrev Bare : Type := List (List Nat × List Nat × List Nat)
def stE (bs : Bare) (l : List Nat) : List Nat := match bs.find? (fun t => decide (t.1 = l)) with | some t => t.2.1 | none => []
def enE (bs : Bare) (l : List Nat) : List Nat := match bs.find? (fun t => decide (t.1 = l)) with | some t => t.2.2 | none => []
def wposts (bs : Bare) (ls : List (List Nat)) : List (List Nat) := stE bs (ls.getD 0 []) :: ls.map (enE bs)
/-- the first place at which the walk breaks off -/
def BadAt (bs : Bare) (ls : List (List Nat)) (k : Nat) : Prop := (∃ l, ls[k]? = some l ∧ some (stE bs l) ≠ (wposts bs ls)[k]?) ∧ ∀ (i : Nat) l, i < k → ls[i]? = some l → some (stE bs l) = (wposts bs ls)[i]?
def Whole (bs : Bare) (ls : List (List Nat)) : Prop := ∀ (i : Nat) l, ls[i]? = some l → some (stE bs l) = (wposts bs ls)[i]?
theorem row_bare (es : List Row) (l : List Nat) : (bare es).find? (fun t => decide (t.1 = l)) = (rowOf es l).map fun r => r.2 := by
  unfold bare rowOf
  rw [List.find?_map]
  rfl
theorem row_st {es : List Row} {l : List Nat} {r : Row} (h : rowOf es l = some r) : stE (bare es) l = r.2.2.1 := by
  unfold stE
  rw [row_bare, h]
  rfl
theorem row_en {es : List Row} {l : List Nat} {r : Row} (h : rowOf es l = some r) : enE (bare es) l = r.2.2.2 := by
  unfold enE
  rw [row_bare, h]
  rfl
theorem row_in {es : List Row} (nd : (laneNames es).Nodup) {l : List Nat} (h : l ∈ laneNames es) : ∃ r, rowOf es l = some r := by
  unfold laneNames at h
  obtain ⟨r, hr, rfl⟩ := List.mem_map.mp h
  obtain ⟨i, hi⟩ := List.getElem?_of_mem hr
  exact ⟨r, row_own nd hi⟩
theorem wposts_len (bs : Bare) (ls : List (List Nat)) : (wposts bs ls).length = ls.length + 1 := by
  unfold wposts
  rw [List.length_cons, List.length_map]
theorem wposts_succ {bs : Bare} {ls : List (List Nat)} {i : Nat} {l : List Nat} (h : ls[i]? = some l) : (wposts bs ls).take (i + 1 + 1) = (wposts bs ls).take (i + 1) ++ [enE bs l] := by
  have h2 : (wposts bs ls)[i + 1]? = some (enE bs l) := by
    unfold wposts
    rw [List.getElem?_cons_succ, List.getElem?_map, h]
    rfl
  rw [List.take_succ (i := i + 1), h2]
  rfl
abbrev sWk : Stmt := top 21
abbrev nWk : List Str := ["net", "lanes", "posts", "place", "lane"]
def spWk (K : PySem.W.Frag) (C NL EWa BWa : Addr) : Sp := fun vs H Q E => ∃ (o dx dp de t : Addr) (ps : List (List Nat)) (es : List Row) (ls : List (List Nat)), vs = [.ref o, .ref t] ∧ NetAt C H o dx dp de ps es ∧ (laneNames es).Nodup ∧ SqA K H t (vtx ls) ∧ ls.length ≤ 1000 ∧
  ((ls = [] ∧ ∀ H', Ex H H' → E (.ref EWa) none H') ∨ (ls ≠ [] ∧ ∃ l, FirstOut ls (laneNames es) l ∧ RaisedF NL "name" H (.str (tx l)) E) ∨
   (ls ≠ [] ∧ (∀ l ∈ ls, l ∈ laneNames es) ∧ ∃ k : Nat, BadAt (bare es) ls k ∧ RaisedF BWa "place" H (.int (k : Nat)) E) ∨
   (ls ≠ [] ∧ (∀ l ∈ ls, l ∈ laneNames es) ∧ Whole (bare es) ls ∧ ∀ t' H', Ex H H' → H t' = none → H' t' = some (.tup (vtx (wposts (bare es) ls))) → Q (.ref t') H'))
section
variable {P : Program} {w : World} {K : PySem.W.Frag} {mg : Str → Option Value} {base : Heap} {C BN NT NP NL EWa BWa : Addr}
theorem scWk : FnScope nWk ["net", "lanes"] (defScope sWk) := ⟨rfl, rfl, rfl, by decide +kernel, rfl, by decide +kernel, by decide +kernel⟩
theorem ok_wk {f : Addr} {fd : FuncData} (F : FnP K "walked" sWk f fd) (N : ND P w K mg base C BN NT NP NL) (TCl : Fu P w K mg base (L2.CX P w) 3 "check_lanes" (spChkL K C NL)) (EW : Err0 K mg "EmptyWalk" EWa) (BW : Err1 P w K mg base "BadWalk" "place" BWa) (mTuple : mg "tuple" = none) (mLen : mg "len" = none) (mEnum : mg "enumerate" = none) :
    FnOk P w K mg base (L2.CX P w) 5 f fd ["net", "lanes"] (spWk K C NL EWa BWa) := by
  obtain ⟨fE, fdE, iC, tI, bE, GE⟩ := BW.ini
  refine F.ok (CX := L2.CX P w) scWk (fun vs H Q E h => ?_) (fun cdv A outer s H vs Q E hr h => ?_)
  · obtain ⟨o, dx, dp, de, t, ps, es, ls, rfl, _⟩ := h
    rfl
  · refine ⟨_, (pss_cons (ps_if (pt_cmpR op_eq (pe_callB call_len (by rfl) mLen boot_len (pa_cons (pv 1) pa_nil)) pe_int (nomark _)) (pss_one (ps_raise rfl (takes_of rfl rfl rfl rfl) (pmk_err0 EW (by rfl)))) pss_nil)
      (pss_cons (ps_expr (pe_fuX (E := WE fun cls d _ H => E cls d H) TCl hr (by rfl) (fun st => passAt (takes_of rfl rfl rfl rfl) st) (pa_cons (pv 0) (pa_cons (pv 1) pa_nil))))
      (pss_cons (ps_set (i := 2) scWk.nd rfl (by first | exact Or.inl rfl | exact Or.inr rfl) (pe_lst (pa_cons (pe_moN (pv 0) N.cls N.start hr (pa_cons (pe_ix ix_seq (pv 1) pe_int fun _ _ => rfl) pa_nil)) pa_nil)))
      (pss_cons (ps_for (passes_of rfl) rfl (pi_enumA (by rfl) mEnum (pa_cons (pv 1) pa_nil)) (pg_tup rfl (pgs_cons (pg_name (i := 3) scWk.nd rfl (by first | exact Or.inl rfl | exact Or.inr rfl)) (pgs_cons (pg_name (i := 4) scWk.nd rfl (by first | exact Or.inl rfl | exact Or.inr rfl)) pgs_nil))) (pss_cons (ps_if (pt_cmpR op_ne (pe_moN (pv 0) N.cls N.start hr (pa_cons (pv 4) pa_nil)) (pe_ix ix_list (pv 2) (pv 3) fun _ _ => rfl) (nomark _)) (pss_one (ps_raise rfl (takes_of rfl rfl rfl rfl) (pmk_oex BW.T iC tI GE (hr.mono (by omega)) bE .nil pass0 (by rfl) BW.g (pa_cons (pv 3) pa_nil)))) pss_nil)
      (pss_one (ps_expr (pe_bm PySem.F.plainAttrs_list PySem.F.slot_list_append PySem.F.type_list_append mt_append (pv 2) (pa_cons (pe_moN (pv 0) N.cls N.end_ hr (pa_cons (pv 4) pa_nil)) pa_nil))))))
      (pss_one (ps_ret (pe_callTy call_tuple_of (by rfl) mTuple boot_tuple (pa_cons (pv 2) pa_nil)))))))), ?_⟩
    obtain ⟨o, dx, dp, de, t, ps, es, ls, rfl, N1, nd, ht, hz, h⟩ := h
    refine s_seq ?_
    refine s_if (et_test (ev_op (ev_lenQ (ev_var rfl) ht) ev_c (rv_eq rfl))) (fun hb H1 e1 => ?_) (fun hb H1 e1 => ?_)
    · have h0 : ls = [] := by
        have h1 := of_decide_eq_true hb
        injection h1 with h2
        rw [vtx_len] at h2
        exact List.length_eq_zero_iff.mp (by omega)
      rcases h with ⟨_, q⟩ | ⟨hn, _⟩ | ⟨hn, _⟩ | ⟨hn, _⟩
      · exact q H1 e1
      · exact absurd h0 hn
      · exact absurd h0 hn
      · exact absurd h0 hn
    have hne : ls ≠ [] := fun z => by
      rw [z] at hb
      exact absurd hb (by decide)
    have N2 := N1.mono e1
    have ht1 := ex_a e1 ht
    refine s_seq ?_
    refine ⟨_, rfl, _, rfl, o, dx, dp, de, t, ps, es, ls, rfl, N2, ht1, ?_⟩
    have h' : (∃ l, FirstOut ls (laneNames es) l ∧ RaisedF NL "name" H (.str (tx l)) E) ∨ ((∀ l ∈ ls, l ∈ laneNames es) ∧ ((Whole (bare es) ls ∧ (∀ t' H', Ex H H' → H t' = none → H' t' = some (.tup (vtx (wposts (bare es) ls))) → Q (.ref t') H')) ∨ ∃ k : Nat, BadAt (bare es) ls k ∧ RaisedF BWa "place" H (.int (k : Nat)) E)) := by
      rcases h with ⟨h0, _⟩ | ⟨_, l, hf, q⟩ | ⟨_, hall, k, hk, q⟩ | ⟨_, hall, hw, q⟩
      · exact absurd h0 hne
      · exact .inl ⟨l, hf, q⟩
      · exact .inr ⟨hall, .inr ⟨k, hk, q⟩⟩
      · exact .inr ⟨hall, .inl ⟨hw, q⟩⟩
    rcases h' with ⟨l, hf, q⟩ | ⟨hall, hq⟩
    · exact .inr ⟨l, hf, RaisedF.grow q e1⟩
    refine .inl ⟨hall, fun H2 e2 => ?_⟩
    have e02 := e1.trans e2
    have ht2 := ex_a e02 ht
    have N3 := N1.mono e02
    obtain ⟨l0, tl0, hls⟩ := List.exists_cons_of_ne_nil hne
    have hl0 : ls[0]? = some l0 := by rw [hls]; rfl
    obtain ⟨r0, hr0⟩ := row_in nd (hall l0 (by rw [hls]; exact List.mem_cons_self))
    have hw0 : (wposts (bare es) ls).take 1 = [r0.2.2.1] := by
      unfold wposts
      rw [← row_st hr0, hls]
      rfl
    dsimp only
    refine s_seq ?_
    refine s_asgL (xs := vtx ((wposts (bare es) ls).take 1)) (by
      rw [hw0]
      exact el_lst (ea_cons (ev_me (ev_var rfl) N3.at_ rfl (ea_cons (ev_op (ev_var rfl) ev_c (rv_ixQ (v := V.str (tx l0)) ht2 (at_of (j := 0) rfl (by rw [hls]; rfl)))) ea_nil) (sv_end N3 hr0)) ea_nil) (by show 1 ≤ 100000; decide)) fun po H3 npo e3 hpo => ?_
    have hpo0 : H po = none := fresh_back e02 npo
    dsimp only
    refine s_seq ?_
    refine s_forEnB (B := H) (ea_cons (ev_var rfl) ea_nil) (e02.trans e3) ht (fun i st H' => ∃ t3 t4, st = [some (.ref o), some (.ref t), some (.ref po), t3, t4] ∧ Ex H H' ∧ H' po = some (.lst (vtx ((wposts (bare es) ls).take (i + 1)))) ∧ ∀ (j : Nat) l, j < i → ls[j]? = some l → some (stE (bare es) l) = (wposts (bare es) ls)[j]?)
      (fun H4 e4 => ⟨none, none, rfl, (e02.trans e3).trans e4, e4 _ _ hpo, fun j l hj => absurd hj (Nat.not_lt_zero j)⟩) (fun i st H' ⟨_, _, _, e, _⟩ => e) ?_ ?_
    · rintro i x T st H4 hx ⟨t3, t4, rfl, e4, hp4, hpre⟩ nT
      unfold vtx at hx
      rw [List.getElem?_map] at hx
      obtain ⟨l, hl, rfl⟩ := Option.map_eq_some_iff.mp hx
      have hil := (List.getElem?_eq_some_iff.mp hl).1
      obtain ⟨r, hr1⟩ := row_in nd (hall l (List.mem_of_getElem? hl))
      refine ⟨T, _, rfl, .inl (.inl upd_same), rfl, ?_⟩
      refine ⟨_, _, rfl, _, _, rfl, rfl, ?_⟩
      have e5 := e4.trans (Ex.new (o := HO.tup [V.int (i : Nat), V.str (tx l)]) nT)
      have hp5 := (Ex.new (o := HO.tup [V.int (i : Nat), V.str (tx l)]) nT) _ _ hp4
      generalize upd H4 T (.tup [.int (i : Nat), .str (tx l)]) = H5 at e5 hp5 ⊢
      have N5 := N1.mono e5
      have hwl : i < (wposts (bare es) ls).length := by rw [wposts_len]; omega
      have hwi : (wposts (bare es) ls)[i]? = some (wposts (bare es) ls)[i] := List.getElem?_eq_getElem hwl
      generalize (wposts (bare es) ls)[i] = wi at hwi
      have hti : ((wposts (bare es) ls).take (i + 1))[i]? = some wi := by rw [List.getElem?_take_of_lt (by omega), hwi]
      dsimp only
      show tSeq _ _ _ [some (.ref o), some (.ref t), some (.ref po), some (.int (i : Nat)), some (.str (tx l))] H5
      refine s_seq ?_
      refine s_if (et_test (ev_op (ev_me (ev_var rfl) N5.at_ rfl (ea_cons (ev_var rfl) ea_nil) (sv_end N5 hr1)) (ev_op (ev_var rfl) (ev_var rfl) (rv_ixL (sq_of hp5) (atI_nat (vtx_at hti)))) (rv_ne rfl))) (fun hc H6 e6 => ?_) (fun hc H6 e6 => ?_)
      · have hbad : r.2.2.1 ≠ wi := fun z => by rw [z, decide_eq_true rfl] at hc; cases hc
        rcases hq with ⟨hw, q⟩ | ⟨k, ⟨⟨lk, hk1, hk2⟩, hk3⟩, q⟩
        rotate_left
        · have hik : i = k := by
            rcases Nat.lt_trichotomy i k with h1 | h1 | h1
            · have := hk3 i l h1 hl
              rw [hwi, row_st hr1] at this
              exact absurd (Option.some.inj this) hbad
            · exact h1
            · exact absurd (hpre k lk h1 hk1) hk2
          rw [← hik] at q
          exact raised_f (W := fun cls d _ H' => E cls d H') 3 rfl rfl (RaisedF.grow q (e5.trans e6))
        · have := hw i l hl
          rw [hwi, row_st hr1] at this
          exact absurd (Option.some.inj this) hbad
      · have hgood : r.2.2.1 = wi := Decidable.byContradiction fun z => by
          rw [decide_eq_false (fun e => z (tx_inj (V.str.inj e)))] at hc
          cases hc
        have N6 := N5.mono e6
        refine s_app (l := po) (xs := vtx ((wposts (bare es) ls).take (i + 1))) (e6 _ _ hp5) (ev_var rfl) (ev_me (ev_var rfl) N6.at_ rfl (ea_cons (ev_var rfl) ea_nil) (sv_end N6 hr1)) ?_ fun H7 e7 => ?_
        · rw [vtx_len, List.length_take]
          omega
        refine ⟨_, _, rfl, Ex.mut (e5.trans (e6.trans e7)) hpo0, ?_, fun j l' hj hl' => ?_⟩
        · rw [upd_same, wposts_succ hl, vtx_app, row_en hr1]
          rfl
        · by_cases hji : j < i
          · exact hpre j l' hji hl'
          · have hje : j = i := by omega
            rw [hje] at hl' ⊢
            rw [hl] at hl'
            rw [← Option.some.inj hl', row_st hr1, hwi, hgood]
    · rintro st H4 ⟨t3, t4, rfl, e4, hp4, hpre⟩
      rw [vtx_len] at hp4 hpre
      have hwhole : Whole (bare es) ls := fun j l hl => hpre j l (List.getElem?_eq_some_iff.mp hl).1 hl
      rw [List.take_of_length_le (by rw [wposts_len]; exact Nat.le_refl _)] at hp4
      rcases hq with ⟨_, q⟩ | ⟨k, ⟨⟨lk, hk1, hk2⟩, _⟩, _⟩
      · dsimp only
        exact s_retU (eu_tupleA (ev_var rfl) (sq_of hp4)) fun p H5 np e5 hp => q p H5 (e4.trans e5) (fresh_back e4 np) hp
      · exact absurd (hwhole k lk hk1) hk2
end
end K05

set_option Elab.async false
set_option linter.all false
set_option maxRecDepth 100000
set_option maxHeartbeats 4000000
/-! way_from: a shortest way, None where there is none. -/
namespace K05
open PySem PySem.Spec PyProof.Rows L2 Vl Evl Vp Vr Vx2 Vlk Vda Vc Ve Vrc Ven Vwy
abbrev sWa : Stmt := top 23
abbrev nWa : List Str := ["net", "a", "b"]
def spWa (C NP : Addr) : Sp := fun vs H Q E => ∃ (o dx dp de : Addr) (ps : List (List Nat)) (es : List Row) (a b : List Nat), vs = [.ref o, .str (tx a), .str (tx b)] ∧ NetAt C H o dx dp de ps es ∧ RowsOk ps es ∧ ps.length ≤ 30 ∧ es.length ≤ 30 ∧
  ((∃ x, FirstOut [a, b] ps x ∧ RaisedF NP "name" H (.str (tx x)) E) ∨
   (a ∈ ps ∧ b ∈ ps ∧ (¬ Reach (Edge (bare es)) a b → ∀ H', Ex H H' → Q .non H') ∧ (Reach (Edge (bare es)) a b → ∀ (l : Addr) (ls : List (List Nat)) (H' : Hp), Ex H H' → H' l = some (.lst (vtx ls)) → Best (LaneB (bare es)) a b ls → ls.length ≤ 30 → Q (.ref l) H')))
section
variable {P : Program} {w : World} {K : PySem.W.Frag} {mg : Str → Option Value} {base : Heap} {C BN NT NP NL : Addr}
theorem scWa : FnScope nWa ["net", "a", "b"] (defScope sWa) := ⟨rfl, rfl, rfl, by decide +kernel, rfl, by decide +kernel, by decide +kernel⟩
theorem ok_wa {f : Addr} {fd : FuncData} (F : FnP K "way_from" sWa f fd) (TCp : Fu P w K mg base (L2.CX P w) 3 "check_posts" (spChkP K C NP)) (TWf : Fu P w K mg base L2.CX0 5 "ways_from" (spWf C)) :
    FnOk P w K mg base (L2.CX P w) 6 f fd ["net", "a", "b"] (spWa C NP) := by
  refine F.ok (CX := L2.CX P w) scWa (fun vs H Q E h => ?_) (fun cdv A outer s H vs Q E hr h => ?_)
  · obtain ⟨o, dx, dp, de, ps, es, a, b, rfl, _⟩ := h
    rfl
  · refine ⟨_, (pss_cons (ps_expr (pe_fuX (E := WE fun cls d _ H => E cls d H) TCp hr (by rfl) (fun st => passAt (takes_of rfl rfl rfl rfl) st) (pa_cons (pv 0) (pa_cons (pe_tup (pa_cons (pv 1) (pa_cons (pv 2) pa_nil))) pa_nil))))
      (pss_one (ps_ret (pe_dget1 (Nat.lt_of_le_of_lt (Nat.add_le_add_left (show 1 ≤ 64 by decide) _) hr.units) (pe_fu TWf hr (by rfl) (pa_cons (pv 0) (pa_cons (pv 1) pa_nil))) (pv 2) (by constructor <;> rfl))))), ?_⟩
    obtain ⟨o, dx, dp, de, ps, es, a, b, rfl, N1, RO, hp30, he30, h⟩ := h
    refine s_seq ?_
    refine ⟨_, rfl, _, rfl, _, rfl, by show 2 ≤ sizeLine; decide, fun t nt => ?_⟩
    have e1 := Ex.new (H := H) (o := .tup [.str (tx a), .str (tx b)]) nt
    refine ⟨o, dx, dp, de, t, ps, es, [a, b], rfl, N1.mono e1, .inl (.inl upd_same), ?_⟩
    rcases h with ⟨x, hf, q⟩ | ⟨ha, hb, q1, q2⟩
    · exact .inr ⟨x, hf, RaisedF.grow q e1⟩
    refine .inl ⟨fun l hl => ?_, fun H2 e2 => ?_⟩
    · rcases List.mem_cons.mp hl with rfl | hl
      · exact ha
      · rw [List.mem_singleton.mp hl]
        exact hb
    have e12 := e1.trans e2
    dsimp only
    refine ⟨_, rfl, _, rfl, o, dx, dp, de, ps, es, a, rfl, N1.mono e12, RO, hp30, he30, ha, fun d xs H3 e3 nd W => ?_⟩
    have e13 := e12.trans e3
    refine ⟨d, rfl, ?_, _, rfl, valV (dWays xs) (Sum.inr (tx b) : Key), DGet.k (k := (Sum.inr (tx b) : Key)) W.dct, ?_⟩
    · exact .inl ⟨_, .inl W.dct⟩
    · by_cases hr : Reach (Edge (bare es)) a b
      · obtain ⟨y, hy, hyb, hyv⟩ := ways_get ((W.re b).mpr hr)
        rw [hyv]
        have hbest := W.best y hy
        rw [hyb] at hbest
        exact q2 hr y.1 y.2.2 H3 e13 (W.way y hy) hbest (W.few y hy)
      · rw [ways_none (fun z => hr ((W.re b).mp z))]
        exact q1 hr H3 e13
end
end K05

set_option Elab.async false
set_option linter.all false
set_option maxRecDepth 100000
set_option maxHeartbeats 4000000
/-! What is told of a line, and what is due. -/
namespace K05
open PySem PySem.Spec PyProof.Rows L2 Vl Evl Vp Vr Vx2 Vlk Vda Vc Ve Vrc Ven Vwy
def names (bs : Bare) : List (List Nat) := bs.map fun t => t.1
theorem names_rows (es : List Row) : names (bare es) = laneNames es := by
  unfold names bare laneNames
  rw [List.map_map]
  rfl
inductive ResD (bs : Bare) (ls : List (List Nat)) : PyData → Prop
  | empty : ls = [] → ResD bs ls (.list [.str (Str.ofString "empty")])
  | lane (l : List Nat) : ls ≠ [] → FirstOut ls (names bs) l → ResD bs ls (.list [.str (Str.ofString "lane"), .str (tx l)])
  | walk (k : Nat) : ls ≠ [] → (∀ l ∈ ls, l ∈ names bs) → BadAt bs ls k → ResD bs ls (.list [.str (Str.ofString "walk"), .int (k : Nat)])
  | ok : ls ≠ [] → (∀ l ∈ ls, l ∈ names bs) → Whole bs ls → ResD bs ls (wd (wposts bs ls))
theorem first_of {α : Type} (p : α → Prop) : ∀ ls : List α, (∀ l ∈ ls, p l) ∨ ∃ (i : Nat) (l : α), ls[i]? = some l ∧ ¬ p l ∧ ∀ (j : Nat) y, j < i → ls[j]? = some y → p y
  | [] => .inl fun _ h => nomatch h
  | x :: r => by
    by_cases hx : p x
    · rcases first_of p r with h | ⟨i, l, h1, h2, h3⟩
      · refine .inl fun y hy => ?_
        rcases List.mem_cons.mp hy with rfl | hy
        · exact hx
        · exact h y hy
      · refine .inr ⟨i + 1, l, by rw [List.getElem?_cons_succ]; exact h1, h2, fun j y hj hy => ?_⟩
        cases j with
        | zero =>
          rw [List.getElem?_cons_zero] at hy
          rw [← Option.some.inj hy]
          exact hx
        | succ j =>
          rw [List.getElem?_cons_succ] at hy
          exact h3 j y (by omega) hy
    · exact .inr ⟨0, x, rfl, hx, fun j y hj => absurd hj (Nat.not_lt_zero j)⟩
theorem first_at (p : Nat → Prop) : ∀ n : Nat, (∀ i, i < n → p i) ∨ ∃ k, k < n ∧ ¬ p k ∧ ∀ i, i < k → p i
  | 0 => .inl fun i hi => absurd hi (Nat.not_lt_zero i)
  | n + 1 => by
    rcases first_at p n with h | ⟨k, h1, h2, h3⟩
    · by_cases hn : p n
      · refine .inl fun i hi => ?_
        by_cases hin : i < n
        · exact h i hin
        · obtain rfl : i = n := by omega
          exact hn
      · exact .inr ⟨n, by omega, hn, h⟩
    · exact .inr ⟨k, by omega, h2, h3⟩
theorem res_all (bs : Bare) (ls : List (List Nat)) : ∃ d, ResD bs ls d := by
  by_cases h0 : ls = []
  · exact ⟨_, .empty h0⟩
  rcases first_of (fun l => l ∈ names bs) ls with h | ⟨i, l, h1, h2, h3⟩
  · rcases first_at (fun i => ∀ l, ls[i]? = some l → some (stE bs l) = (wposts bs ls)[i]?) ls.length with hw | ⟨k, hk, hn, hb⟩
    · exact ⟨_, .ok h0 h fun i l hl => hw i (List.getElem?_eq_some_iff.mp hl).1 l hl⟩
    · refine ⟨_, .walk k h0 h ⟨⟨ls[k], List.getElem?_eq_getElem hk, fun z => hn fun l hl => ?_⟩, fun i l hi hl => hb i hi l hl⟩⟩
      rw [List.getElem?_eq_getElem hk] at hl
      rw [← Option.some.inj hl]
      exact z
  · exact ⟨_, .lane l h0 ⟨i, h1, h2, h3⟩⟩
abbrev sTo : Stmt := top 38
abbrev nTo : List Str := ["_law_net_here", "_law_line_here", "e"]
def spTo (K : PySem.W.Frag) (C : Addr) : Sp := fun vs H Q _ => ∃ (o dx dp de t : Addr) (ps : List (List Nat)) (es : List Row) (ls : List (List Nat)) (d : PyData), vs = [.ref o, .ref t] ∧ NetAt C H o dx dp de ps es ∧ (laneNames es).Nodup ∧ SqA K H t (vtx ls) ∧ ls.length ≤ 1000 ∧ ResD (bare es) ls d ∧
  ∀ v H', Ex H H' → Dp K H' v d → Q v H'
abbrev sDu : Stmt := top 37
abbrev nDu : List Str := ["_law_parts", "_law_line_here", "_law_ends_here", "_law_lane", "_law_posts", "_law_k"]
def spDu (K : PySem.W.Frag) : Sp := fun vs H Q _ => ∃ (q a b t : Addr) (ps : List (List Nat)) (rs : List Row) (ls : List (List Nat)) (d : PyData), vs = [.ref q, .ref t] ∧ Told H q a b ps rs ∧ (laneNames rs).Nodup ∧ rs.length ≤ 1000 ∧ H t = some (.lst (vtx ls)) ∧ Oks ls ∧ ls.length ≤ 1000 ∧ ResD (bare rs) ls d ∧
  ∀ v H', Ex H H' → Dp K H' v d → (d = wd (wposts (bare rs) ls) → ∃ p, v = .ref p ∧ H' p = some (.tup (vtx (wposts (bare rs) ls)))) → Q v H'
section
variable {P : Program} {w : World} {K : PySem.W.Frag} {mg : Str → Option Value} {base : Heap} {C BN NT NP NL EWa BWa : Addr}
theorem scTo : FnScope nTo ["_law_net_here", "_law_line_here"] (defScope sTo) := ⟨rfl, rfl, rfl, by decide +kernel, rfl, by decide +kernel, by decide +kernel⟩
theorem scDu : FnScope nDu ["_law_parts", "_law_line_here"] (defScope sDu) := ⟨rfl, rfl, rfl, by decide +kernel, rfl, by decide +kernel, by decide +kernel⟩
theorem ok_to {f : Addr} {fd : FuncData} (F : FnP K "_law_told" sTo f fd) (TWk : Fu P w K mg base (L2.CX P w) 5 "walked" (spWk K C NL EWa BWa)) (EW : Err0 K mg "EmptyWalk" EWa) (NLe : Err1 P w K mg base "NoLane" "name" NL) (BW : Err1 P w K mg base "BadWalk" "place" BWa)
    (xm : ∀ x y : Nat, x < 3 → y < 3 → PySem.W.exmOne K (.ref ([EWa, NL, BWa].getD x 0)) (.ref ([EWa, NL, BWa].getD y 0)) = some (decide (x = y))) :
    FnOk P w K mg base L2.CX0 6 f fd ["_law_net_here", "_law_line_here"] (spTo K C) := by
  refine F.ok (CX := L2.CX0) scTo (fun vs H Q E h => ?_) (fun cdv A outer s H vs Q E hr h => ?_)
  · obtain ⟨o, dx, dp, de, t, ps, es, ls, d, rfl, _⟩ := h
    rfl
  · refine ⟨_, (pss_one (Vtr.ps_try_cl rfl rfl scTo.nd Vtr.takes_no (tb := fun W => (tRet (tFu (spWk K C NL EWa BWa) (WE W) (tCons (tVar 0) (tCons (tVar 1) tNil))))) (fun W pn xe tk _ => (pss_one (ps_ret (pe_fuX (E := WE W) TWk hr (by rfl) (fun st => passAt tk st) (pa_cons (pv 0) (pa_cons (pv 1) pa_nil)))))) (Vtr.ClsOk.plain ⟨by rfl, by decide, .inl EW.g⟩ (fun a oe cls d pn hz hf => (pss_one (ps_ret (pe_lst (pa_cons pe_str pa_nil))))) (Vtr.ClsOk.named (i := 2) rfl rfl ⟨by rfl, by decide, .inl NLe.g⟩ (fun a oe cls d pn hz hf => (pss_one (ps_ret (pe_lst (pa_cons pe_str (pa_cons (pe_xf NLe.X NLe.no hz hf (pv 2)) pa_nil)))))) (Vtr.ClsOk.named (i := 2) rfl rfl ⟨by rfl, by decide, .inl BW.g⟩ (fun a oe cls d pn hz hf => (pss_one (ps_ret (pe_lst (pa_cons pe_str (pa_cons (pe_xf BW.X BW.no hz hf (pv 2)) pa_nil)))))) Vtr.ClsOk.nil))))), ?_⟩
    obtain ⟨o, dx, dp, de, t, ps, es, ls, d, rfl, N1, nd, ht, hz, R, k⟩ := h
    refine ⟨_, rfl, _, rfl, o, dx, dp, de, t, ps, es, ls, rfl, N1, nd, ht, hz, ?_⟩
    have x00 := xm 0 0 (by decide) (by decide)
    have x10 := xm 1 0 (by decide) (by decide)
    have x11 := xm 1 1 (by decide) (by decide)
    have x20 := xm 2 0 (by decide) (by decide)
    have x21 := xm 2 1 (by decide) (by decide)
    have x22 := xm 2 2 (by decide) (by decide)
    cases R with
    | empty h0 =>
      refine .inl ⟨h0, fun H2 e => ⟨true, x00, fun _ a2 na => ?_, (fun z => nomatch z)⟩⟩
      exact ⟨by show 1 ≤ sizeLine; decide, fun p np => k _ _ (e.trans (Ex.new np)) (.lst (sq_of upd_same) (.cons (.str _) .nil))⟩
    | lane l hne hf =>
      rw [names_rows] at hf
      refine .inr (.inl ⟨hne, l, hf, fun d H2 e hd => ⟨false, x10, (fun z => nomatch z), fun _ => ⟨true, x11, fun _ a2 na => ?_, (fun z => nomatch z)⟩⟩⟩)
      exact ⟨_, rfl, rfl, rfl, d, [("name", _)], _, rfl, hd, rfl, by show 2 ≤ sizeLine; decide, fun p np => k _ _ (e.trans (Ex.new np)) (.lst (sq_of upd_same) (.cons (.str _) (.cons (.str _) .nil)))⟩
    | walk kk hne hall hb =>
      rw [names_rows] at hall
      refine .inr (.inr (.inl ⟨hne, hall, kk, hb, fun d H2 e hd => ⟨false, x20, (fun z => nomatch z), fun _ => ⟨false, x21, (fun z => nomatch z), fun _ => ⟨true, x22, fun _ a2 na => ?_, (fun z => nomatch z)⟩⟩⟩⟩))
      exact ⟨_, rfl, rfl, rfl, d, [("place", _)], _, rfl, hd, rfl, by show 2 ≤ sizeLine; decide, fun p np => k _ _ (e.trans (Ex.new np)) (.lst (sq_of upd_same) (.cons (.str _) (.cons (.int _) .nil)))⟩
    | ok hne hall hw =>
      rw [names_rows] at hall
      exact .inr (.inr (.inr ⟨hne, hall, hw, fun t' H' e nt ht' => k _ H' e (dp_wd (st_of ht'))⟩))
theorem ev_st {σ : L2.St} {H : Hp} {dd : Addr} {es rs : List Row} {td ti : TE} {l : List Nat} (nd : (laneNames rs).Nodup) (hbe : bare es = bare rs) (hd : H dd = some (.dK (dEnds es))) (he : ∀ e ∈ es, EndAt H e) (hl : l ∈ laneNames rs) (h1 : Ev td σ H (.ref dd)) (h2 : Ev ti σ H (.str (tx l))) :
    Ev (tOp (rIxT K) (tDGet td ti) (tC (.int 0))) σ H (.str (tx (stE (bare rs) l))) ∧ Ev (tOp (rIxT K) (tDGet td ti) (tC (.int 1))) σ H (.str (tx (enE (bare rs) l))) := by
  have nde : (laneNames es).Nodup := by rw [bare_names hbe]; exact nd
  obtain ⟨r, hr⟩ := row_in nde (show l ∈ laneNames es by rw [bare_names hbe]; exact hl)
  have hv : valV (dEnds es) (Sum.inr (tx l) : Key) = some (V.ref r.1) := by rw [ends_get, hr]; rfl
  have hm := (rowOf_mem hr).1
  rw [← hbe, row_st hr, row_en hr]
  exact ⟨ev_op (ev_dget h1 h2 (by rw [← hv]; exact DGet.k (k := (Sum.inr (tx l) : Key)) hd)) ev_c (rv_ixT (st_of (he r hm)) (at_of (j := 0) rfl rfl)),
    ev_op (ev_dget h1 h2 (by rw [← hv]; exact DGet.k (k := (Sum.inr (tx l) : Key)) hd)) ev_c (rv_ixT (st_of (he r hm)) (at_of (j := 1) rfl rfl))⟩
theorem ok_du {f : Addr} {fd : FuncData} (F : FnP K "_law_due" sDu f fd) (TEn : Fu P w K mg base L2.CX0 1 "_law_ends" spEn) (mTuple : mg "tuple" = none) (mEnum : mg "enumerate" = none) :
    FnOk P w K mg base L2.CX0 2 f fd ["_law_parts", "_law_line_here"] (spDu K) := by
  refine F.ok (CX := L2.CX0) scDu (fun vs H Q E h => ?_) (fun cdv A outer s H vs Q E hr h => ?_)
  · obtain ⟨q, a, b, t, ps, rs, ls, d, rfl, _⟩ := h
    rfl
  · refine ⟨_, (pss_cons (ps_set (i := 2) scDu.nd rfl (by first | exact Or.inl rfl | exact Or.inr rfl) (pe_fu TEn hr (by rfl) (pa_cons (pv 0) pa_nil)))
      (pss_cons (ps_if (pt_cmpR (op_eqD hr.units) (pv 1) (pe_lst pa_nil) (nomark _)) (pss_one (ps_ret (pe_lst (pa_cons pe_str pa_nil)))) pss_nil)
      (pss_cons (ps_for (passes_of rfl) rfl (pi_list (pv 1)) (pg_name (i := 3) scDu.nd rfl (by first | exact Or.inl rfl | exact Or.inr rfl)) (pss_one (ps_if (pt_cmp (pc_dnotin (Nat.lt_of_le_of_lt (Nat.add_le_add_left (show 1 ≤ 64 by decide) _) hr.units) (pv 3) (pv 2))) (pss_one (ps_ret (pe_lst (pa_cons pe_str (pa_cons (pv 3) pa_nil))))) pss_nil)))
      (pss_cons (ps_set (i := 4) scDu.nd rfl (by first | exact Or.inl rfl | exact Or.inr rfl) (pe_lst (pa_cons (pe_ix ix_tup (pe_dget (Nat.lt_of_le_of_lt (Nat.add_le_add_left (show 1 ≤ 64 by decide) _) hr.units) (pv 2) (pe_ix ix_list (pv 1) pe_int fun _ _ => rfl) (fun _ _ => rfl)) pe_int fun _ _ => rfl) pa_nil)))
      (pss_cons (ps_for (passes_of rfl) rfl (pi_enumA (by rfl) mEnum (pa_cons (pv 1) pa_nil)) (pg_tup rfl (pgs_cons (pg_name (i := 5) scDu.nd rfl (by first | exact Or.inl rfl | exact Or.inr rfl)) (pgs_cons (pg_name (i := 3) scDu.nd rfl (by first | exact Or.inl rfl | exact Or.inr rfl)) pgs_nil))) (pss_cons (ps_if (pt_cmpR op_ne (pe_ix ix_tup (pe_dget (Nat.lt_of_le_of_lt (Nat.add_le_add_left (show 1 ≤ 64 by decide) _) hr.units) (pv 2) (pv 3) (fun _ _ => rfl)) pe_int fun _ _ => rfl) (pe_ix ix_list (pv 4) (pe_un un_neg pe_int) fun _ _ => rfl) (nomark _)) (pss_one (ps_ret (pe_lst (pa_cons pe_str (pa_cons (pv 5) pa_nil))))) pss_nil)
      (pss_one (ps_expr (pe_bm PySem.F.plainAttrs_list PySem.F.slot_list_append PySem.F.type_list_append mt_append (pv 4) (pa_cons (pe_ix ix_tup (pe_dget (Nat.lt_of_le_of_lt (Nat.add_le_add_left (show 1 ≤ 64 by decide) _) hr.units) (pv 2) (pv 3) (fun _ _ => rfl)) pe_int fun _ _ => rfl) pa_nil))))))
      (pss_one (ps_ret (pe_callTy call_tuple_of (by rfl) mTuple boot_tuple (pa_cons (pv 4) pa_nil))))))))), ?_⟩
    obtain ⟨q, a, b, t, ps, rs, ls, d, rfl, T, nd, hrz, ht, ok, hz, R, k⟩ := h
    refine s_seq ?_
    refine ⟨_, rfl, q, a, b, ps, rs, rfl, T, nd, hrz, fun dd es H1 e1 ndd hd hbe hes => ?_⟩
    dsimp only
    refine s_seq ?_
    refine s_if (et_test (ev_eqD (ed_ev (ev_var rfl) (dp_l (sq_of (e1 _ _ ht)))) (ed_Ln (xs := []) (el_lst ea_nil (by decide))) (sh_l ok) (sh_l oks_nil))) (fun hb H2 e2 => ?_) (fun hb H2 e2 => ?_)
    · rw [eq_l] at hb
      have h0 : ls = [] := of_decide_eq_true hb
      have e12 := e1.trans e2
      cases R with
      | empty _ => exact ⟨by show 1 ≤ sizeLine; decide, fun p np => k _ _ (e12.trans (Ex.new np)) (.lst (sq_of upd_same) (.cons (.str _) .nil)) (fun z => by unfold wd at z; cases z)⟩
      | lane l hne _ => exact absurd h0 hne
      | walk kk hne _ _ => exact absurd h0 hne
      | ok hne _ _ => exact absurd h0 hne
    rw [eq_l] at hb
    have hne : ls ≠ [] := of_decide_eq_false hb
    have e12 := e1.trans e2
    have hes2 : ∀ {H' : Hp}, Ex H1 H' → ∀ e ∈ es, EndAt H' e := fun x e he => x _ _ (hes e he)
    refine s_seq ?_
    refine s_forL (a := t) (ev_var rfl) (sq_of (e12 _ _ ht)) (fun i st H' => ∃ t3, st = [some (.ref q), some (.ref t), some (.ref dd), t3, none, none] ∧ Ex H1 H' ∧ ∀ (j : Nat) l, j < i → ls[j]? = some l → l ∈ laneNames rs)
      (fun H3 e3 => ⟨none, rfl, e2.trans e3, fun j l hj => absurd hj (Nat.not_lt_zero j)⟩) (fun i st H' _ ⟨_, _, e, _⟩ => sq_of ((e1.trans e) _ _ ht)) ?_ ?_
    · rintro i x st H3 hx ⟨t3, rfl, e3, hpre⟩
      unfold vtx at hx
      rw [List.getElem?_map] at hx
      obtain ⟨l, hl, rfl⟩ := Option.map_eq_some_iff.mp hx
      dsimp only
      refine s_if (et_notin (ev_var rfl) (ev_var rfl) (DGet.k (k := (Sum.inr (tx l) : Key)) (e3 _ _ hd))) (fun hc H4 e4 => ?_) (fun hc H4 e4 => ?_)
      · rw [ends_val, bare_names hbe] at hc
        have hout : l ∉ laneNames rs := fun z => by rw [decide_eq_true z] at hc; cases hc
        have e14 := e1.trans (e3.trans e4)
        cases R with
        | empty h0 => exact absurd h0 hne
        | lane l' _ hf =>
          rw [names_rows] at hf
          obtain ⟨i', g1, g2, g3⟩ := hf
          have hii : i = i' := by
            rcases Nat.lt_trichotomy i i' with h1 | h1 | h1
            · exact absurd (g3 i l h1 hl) hout
            · exact h1
            · exact absurd (hpre i' l' h1 g1) g2
          rw [hii, g1] at hl
          rw [← Option.some.inj hl]
          exact ⟨_, rfl, by show 2 ≤ sizeLine; decide, fun p np => k _ _ (e14.trans (Ex.new np)) (.lst (sq_of upd_same) (.cons (.str _) (.cons (.str _) .nil))) (fun z => by unfold wd at z; cases z)⟩
        | walk kk _ hall _ =>
          rw [names_rows] at hall
          exact absurd (hall l (List.mem_of_getElem? hl)) hout
        | ok _ hall _ =>
          rw [names_rows] at hall
          exact absurd (hall l (List.mem_of_getElem? hl)) hout
      · rw [ends_val, bare_names hbe] at hc
        have hin : l ∈ laneNames rs := Decidable.byContradiction fun z => by rw [decide_eq_false z] at hc; cases hc
        refine ⟨_, rfl, e3.trans e4, fun j y hj hy => ?_⟩
        by_cases hji : j < i
        · exact hpre j y hji hy
        · have hje : j = i := by omega
          rw [hje, hl] at hy
          rw [← Option.some.inj hy]
          exact hin
    rintro st H3 ⟨t3, rfl, e3, hpre⟩
    rw [vtx_len] at hpre
    have hall : ∀ l ∈ ls, l ∈ laneNames rs := fun l hl => by
      obtain ⟨i, hi⟩ := List.getElem?_of_mem hl
      exact hpre i l (List.getElem?_eq_some_iff.mp hi).1 hi
    have hq : Whole (bare rs) ls ∧ d = wd (wposts (bare rs) ls) ∨ ∃ kk : Nat, BadAt (bare rs) ls kk ∧ d = .list [.str (Str.ofString "walk"), .int (kk : Nat)] := by
      cases R with
      | empty h0 => exact absurd h0 hne
      | lane l' _ hf =>
        rw [names_rows] at hf
        obtain ⟨i', g1, g2, _⟩ := hf
        exact absurd (hall l' (List.mem_of_getElem? g1)) g2
      | walk kk _ _ hb => exact .inr ⟨kk, hb, rfl⟩
      | ok _ _ hw => exact .inl ⟨hw, rfl⟩
    clear R
    have e13 := e1.trans e3
    obtain ⟨l0, tl0, hls⟩ := List.exists_cons_of_ne_nil hne
    have hl0 : l0 ∈ laneNames rs := hall l0 (by rw [hls]; exact List.mem_cons_self)
    have hw0 : (wposts (bare rs) ls).take 1 = [stE (bare rs) l0] := by
      unfold wposts
      rw [hls]
      rfl
    dsimp only
    refine s_seq ?_
    refine s_asgL (xs := vtx ((wposts (bare rs) ls).take 1)) (by
      rw [hw0]
      exact el_lst (ea_cons (ev_st nd hbe (e3 _ _ hd) (hes2 e3) hl0 (ev_var rfl) (ev_op (ev_var rfl) ev_c (rv_ixL (sq_of (e13 _ _ ht)) (at_of (j := 0) rfl (by rw [hls]; rfl))))).1 ea_nil) (by show 1 ≤ 100000; decide)) fun po H4 npo e4 hpo => ?_
    have hpo1 : H1 po = none := fresh_back e3 npo
    dsimp only
    refine s_seq ?_
    refine s_forEnB (B := H1) (ea_cons (ev_var rfl) ea_nil) (e3.trans e4) (.inl (sq_of (e1 _ _ ht))) (fun i st H' => ∃ t3 t5, st = [some (.ref q), some (.ref t), some (.ref dd), t3, some (.ref po), t5] ∧ Ex H1 H' ∧ H' po = some (.lst (vtx ((wposts (bare rs) ls).take (i + 1)))) ∧ ∀ (j : Nat) l, j < i → ls[j]? = some l → some (stE (bare rs) l) = (wposts (bare rs) ls)[j]?)
      (fun H5 e5 => ⟨_, none, rfl, (e3.trans e4).trans e5, e5 _ _ hpo, fun j l hj => absurd hj (Nat.not_lt_zero j)⟩) (fun i st H' ⟨_, _, _, e, _⟩ => e) ?_ ?_
    · rintro i x T0 st H5 hx ⟨t3, t5, rfl, e5, hp5, hbef⟩ nT
      unfold vtx at hx
      rw [List.getElem?_map] at hx
      obtain ⟨l, hl, rfl⟩ := Option.map_eq_some_iff.mp hx
      have hil := (List.getElem?_eq_some_iff.mp hl).1
      have hlm := hall l (List.mem_of_getElem? hl)
      refine ⟨T0, _, rfl, .inl (.inl upd_same), rfl, ?_⟩
      refine ⟨_, _, rfl, _, _, rfl, rfl, ?_⟩
      have e6 := e5.trans (Ex.new (o := HO.tup [V.int (i : Nat), V.str (tx l)]) nT)
      have hp6 := (Ex.new (o := HO.tup [V.int (i : Nat), V.str (tx l)]) nT) _ _ hp5
      generalize upd H5 T0 (.tup [.int (i : Nat), .str (tx l)]) = H6 at e6 hp6 ⊢
      have hwl : i < (wposts (bare rs) ls).length := by rw [wposts_len]; omega
      have hwi : (wposts (bare rs) ls)[i]? = some (wposts (bare rs) ls)[i] := List.getElem?_eq_getElem hwl
      generalize (wposts (bare rs) ls)[i] = wi at hwi
      have hti : (wposts (bare rs) ls).take (i + 1) = (wposts (bare rs) ls).take i ++ [wi] := by rw [List.take_succ, hwi]; rfl
      dsimp only
      show tSeq _ _ _ [some (.ref q), some (.ref t), some (.ref dd), some (.str (tx l)), some (.ref po), some (.int (i : Nat))] H6
      refine s_seq ?_
      refine s_if (et_test (ev_op (ev_st nd hbe (e6 _ _ hd) (hes2 e6) hlm (ev_var rfl) (ev_var rfl)).1 (ev_op (ev_var rfl) (ev_un ev_c ru_neg) (rv_ixL (v := V.str (tx wi)) (sq_of hp6) (by rw [hti, vtx_app]; exact atI_last _ _))) (rv_ne rfl))) (fun hc H7 e7 => ?_) (fun hc H7 e7 => ?_)
      · have hbad : stE (bare rs) l ≠ wi := fun z => by rw [z, decide_eq_true rfl] at hc; cases hc
        rcases hq with ⟨hw, _⟩ | ⟨kk, ⟨⟨lk, hk1, hk2⟩, hk3⟩, hdd⟩
        · have := hw i l hl
          rw [hwi] at this
          exact absurd (Option.some.inj this) hbad
        · have hik : i = kk := by
            rcases Nat.lt_trichotomy i kk with h1 | h1 | h1
            · have := hk3 i l h1 hl
              rw [hwi] at this
              exact absurd (Option.some.inj this) hbad
            · exact h1
            · exact absurd (hbef kk lk h1 hk1) hk2
          rw [hdd, ← hik] at k
          have e17 := e1.trans (e6.trans e7)
          exact ⟨_, rfl, by show 2 ≤ sizeLine; decide, fun p np => k _ _ (e17.trans (Ex.new np)) (.lst (sq_of upd_same) (.cons (.str _) (.cons (.int _) .nil))) (fun z => by unfold wd at z; cases z)⟩
      · have hgood : stE (bare rs) l = wi := Decidable.byContradiction fun z => by
          rw [decide_eq_false (fun e => z (tx_inj (V.str.inj e)))] at hc
          cases hc
        have e67 := e6.trans e7
        refine s_app (l := po) (xs := vtx ((wposts (bare rs) ls).take (i + 1))) (e7 _ _ hp6) (ev_var rfl) (ev_st nd hbe (e67 _ _ hd) (hes2 e67) hlm (ev_var rfl) (ev_var rfl)).2 ?_ fun H8 e8 => ?_
        · rw [vtx_len, List.length_take]
          omega
        refine ⟨_, _, rfl, Ex.mut (e67.trans e8) hpo1, ?_, fun j l' hj hl' => ?_⟩
        · rw [upd_same, wposts_succ hl, vtx_app]
          rfl
        · by_cases hji : j < i
          · exact hbef j l' hji hl'
          · have hje : j = i := by omega
            rw [hje] at hl' ⊢
            rw [hl] at hl'
            rw [← Option.some.inj hl', hwi, hgood]
    · rintro st H5 ⟨t3, t5, rfl, e5, hp5, hbef⟩
      rw [vtx_len] at hp5 hbef
      have hwhole : Whole (bare rs) ls := fun j l hl => hbef j l (List.getElem?_eq_some_iff.mp hl).1 hl
      rw [List.take_of_length_le (by rw [wposts_len]; exact Nat.le_refl _)] at hp5
      rcases hq with ⟨_, hdd⟩ | ⟨kk, ⟨⟨lk, hk1, hk2⟩, _⟩, _⟩
      · rw [hdd] at k
        dsimp only
        exact s_retU (eu_tupleA (ev_var rfl) (sq_of hp5)) fun p H6 np e6 hp => k _ H6 (e1.trans (e5.trans e6)) (dp_wd (st_of hp)) (fun _ => ⟨p, rfl, hp⟩)
      · exact absurd (hwhole kk lk hk1) hk2
end
end K05

set_option Elab.async false
set_option linter.all false
set_option maxRecDepth 100000
set_option maxHeartbeats 4000000
namespace K05
open PySem PySem.Spec PyProof.Rows L2 Vl Evl Vp
abbrev sStrg : Stmt := top 35
abbrev nSg : List Str := ["_law_pool_here", "_law_names_here", "_law_word", "_law_letters", "_law_start", "_law_k", "_law_one"]
/-- a name that is none of these -/
def spStrg : Sp := fun vs H Q _ => ∃ (p q : Addr) (xs : List (List Nat)) (Hk : Hp) (n : Nat), vs = [.ref p, .ref q] ∧ Pl Hk p n H ∧ n ≤ 90000 ∧ Hk q = some (.lst (vtx xs)) ∧ (∀ l ∈ xs, nam l) ∧ xs.length ≤ 25 ∧
  ∀ l H', Pl Hk p (n + 5) H' → nam l → l ∉ xs → Q (.str (tx l)) H'
/-- 26 words that begin in 26 ways are not all among 25 -/
theorem not_all {xs : List (List Nat)} {s : Nat} {w : List Nat} (h : xs.length ≤ 25) : ¬ ∀ k, k < 26 → (letters.getD ((s + k) % 26) 0 :: w) ∈ xs := fun hall => by
  have nd : ((List.range 26).map fun k => letters.getD ((s + k) % 26) 0 :: w).Nodup := nodup_range fun i j hi hj e => by
    have := getD_inj nodup_letters (i := (s + i) % 26) (j := (s + j) % 26) (by show _ < 26; omega) (by show _ < 26; omega) (List.cons.inj e).1
    omega
  have := nd.length_le_of_subset (l₂ := xs) (fun y hy => by
    obtain ⟨k, hk, rfl⟩ := List.mem_map.mp hy
    exact hall k (List.mem_range.mp hk))
  rw [List.length_map, List.length_range] at this
  omega
section
variable {P : Program} {w : World} {K : PySem.W.Frag} {mg : Str → Option Value} {base : Heap}
theorem scSg : FnScope nSg ["_law_pool_here", "_law_names_here"] (defScope sStrg) := ⟨rfl, rfl, rfl, by decide +kernel, rfl, by decide +kernel, by decide +kernel⟩
theorem ok_strg {f fT : Addr} {fd fdT : FuncData} (F : FnP K "_law_stranger" sStrg f fd) (FT : FnP K "_law_take" sTake fT fdT) (gT : mg "_law_take" = some (.ref fT)) (mI : mg "int" = none) (mL : mg "len" = none) (mR : mg "range" = none) :
    FnOk P w K mg base CX0 2 f fd ["_law_pool_here", "_law_names_here"] spStrg := by
  have GT : FnOk P w K mg base CX0 1 fT fdT ["_law_pool_here", "_law_many_here"] spTake := ok_take FT mI
  have bT : Binds K fdT ["_law_pool_here", "_law_many_here"] [] := FT.bindsN fun _ _ _ _ _ _ us hl => match us, hl with | [_, _], _ => rfl
  have kT := FT.kp
  refine F.ok (CX := CX0) scSg (fun vs H Q E h => ?_) (fun cdv A outer s H vs Q E hr h => ?_)
  · obtain ⟨p, q, xs, Hk, n, rfl, _⟩ := h
    rfl
  · have hr1 : Room 1 _ := hr
    refine ⟨_, (pss_cons (ps_set (i := 2) scSg.nd rfl (by first | exact Or.inl rfl | exact Or.inr rfl) pe_str)
      (pss_cut (ps_if (pt_cmpR (op_neD hr.units) (pv 1) (pe_lst pa_nil) (nomark _)) (pss_one (ps_set (i := 2) scSg.nd rfl (by first | exact Or.inl rfl | exact Or.inr rfl) (pe_ix ix_list (pv 1) (pe_call GT hr1 (by rfl) gT kT bT .nil pass0 (pa_cons (pv 0) (pa_cons (pe_callB call_len (by rfl) mL boot_len (pa_cons (pv 1) pa_nil)) pa_nil))) fun _ _ => rfl))) pss_nil)
      (pss_cons (ps_set (i := 3) scSg.nd rfl (by first | exact Or.inl rfl | exact Or.inr rfl) pe_str)
      (pss_cons (ps_set (i := 4) scSg.nd rfl (by first | exact Or.inl rfl | exact Or.inr rfl) (pe_call GT hr1 (by rfl) gT kT bT .nil pass0 (pa_cons (pv 0) (pa_cons pe_int pa_nil))))
      (pss_cons (ps_for (passes_of rfl) rfl (pi_range1 (by rfl) mR (pa_cons pe_int pa_nil)) (pg_name (i := 5) scSg.nd rfl (by first | exact Or.inl rfl | exact Or.inr rfl)) (pss_cons (ps_set (i := 6) scSg.nd rfl (by first | exact Or.inl rfl | exact Or.inr rfl) (pe_op op_add_str (pe_ix ix_str (pv 3) (pe_op op_mod (pe_op op_add (pv 4) (pv 5)) pe_int) fun _ _ => rfl) (pe_slice sl_str (pv 2) (po_some pe_int) po_none))) (pss_one (ps_if (pt_cmpR op_notIn_seq (pv 6) (pv 1) rfl) (pss_one (ps_ret (pv 6))) pss_nil))))
      (pss_one (ps_ret pe_str))))))), ?_⟩
    obtain ⟨p, b, xs, Hk, n, rfl, hp, hn, hb, hx, hl, q⟩ := h
    refine s_seq ?_
    refine s_asg (v := .str (tx [113])) (ev_is ev_c (by decide +kernel)) fun H1 e1 => ?_
    have P1 := hp.grow e1
    dsimp only
    refine ⟨fun st' H' => ∃ l, st' = [some (.ref p), some (.ref b), some (.str (tx l)), none, none, none, none] ∧ nam l ∧ Pl Hk p (n + 1) H', ?_, ?_⟩
    · refine ⟨_, rfl, by show 0 ≤ sizeLine; omega, fun e0 ne0 => ?_⟩
      have P2 := P1.new ne0 (o := .lst [])
      refine ⟨.list (Vr.dtx xs), .list [], .lst (sq_of (P2.ex _ _ hb)) (Vr.dpa_vtx xs), .lst (sq_of upd_same) .nil, sh_wl hx, by decide +kernel, _, rfl, ?_⟩
      rw [ne_nil]
      cases hem : xs.isEmpty with
      | true =>
        refine if_f (by decide) ?_
        exact ⟨[113], rfl, nam_one (by decide), P2.cnt (by omega)⟩
      | false =>
        have hp1 : 1 ≤ xs.length := by
          cases xs with
          | nil => cases hem
          | cons x r => rw [List.length_cons]; omega
        refine if_t rfl ?_
        refine ⟨_, rfl, _, rfl, _, rfl, .ref b, xs.length, rfl, .inl ⟨vtx xs, sq_of (P2.ex _ _ hb), (vtx_len xs).symm⟩, p, (xs.length : Int), Hk, _, rfl, by omega, by omega, P2, by omega, fun r H3 r0 r1 P3 => ?_⟩
        obtain ⟨k, rfl⟩ := Int.eq_ofNat_of_zero_le r0
        have hk : k < xs.length := by omega
        refine ⟨b, vtx xs, _, _, rfl, rfl, sq_of (P3.ex _ _ hb), at_of rfl (vtx_at (List.getElem?_eq_getElem hk)), ?_⟩
        exact ⟨xs[k], rfl, hx _ (List.getElem_mem hk), P3⟩
    rintro _ H2 ⟨l, rfl, hnl, P2⟩
    refine s_seq ?_
    refine s_asg (v := .str (tx letters)) (ev_is ev_c (by rw [str_letters])) fun H3 e3 => ?_
    have P3 := P2.grow e3
    dsimp only
    refine s_seq ?_
    refine ⟨_, rfl, p, 26, Hk, _, rfl, by omega, by omega, P3, by omega, fun r H4 r0 r1 P4 => ?_⟩
    obtain ⟨s0, rfl⟩ := Int.eq_ofNat_of_zero_le r0
    have l8 := nam_len hnl
    have tl : ∀ x ∈ l.drop 1, x ∈ Vp.signs := fun x hx => nam_signs hnl x (List.mem_of_mem_drop hx)
    dsimp only
    refine s_seq ?_
    refine s_forR1 (n := 26) (ea_cons ev_c ea_nil) (by omega) (fun i st' H' => ∃ n5 n6, st' = [some (.ref p), some (.ref b), some (.str (tx l)), some (.str (tx letters)), some (.int (s0 : Int)), n5, n6] ∧ (∀ k, k < i → (letters.getD ((s0 + k) % 26) 0 :: l.drop 1) ∈ xs) ∧ Pl Hk p (n + 2) H')
      (fun H5 e5 => ⟨none, none, rfl, fun k hk => absurd hk (Nat.not_lt_zero k), P4.grow e5⟩) ?_ ?_
    · rintro i _ H5 hi ⟨n5, n6, rfl, hall, P5⟩
      dsimp only
      refine s_seq ?_
      have hm : (s0 + i) % 26 < letters.length := Nat.mod_lt _ (by decide)
      refine ⟨_, rfl, _, rfl, _, rfl, (s0 : Int), (i : Int), rfl, rfl, _, 26, rfl, rfl, by show (0 : Int) < 26; decide, tx letters, _, letters.getD ((s0 + i) % 26) 0, rfl, rfl, (by show 26 ≤ sizeLine; decide), (by
        show atI letters (((s0 : Int) + (i : Int)) % 26) = _
        rw [show ((s0 : Int) + (i : Int)) % 26 = (((s0 + i) % 26 : Nat) : Int) by omega]
        exact text_at hm), ?_⟩
      refine ⟨_, rfl, 1, rfl, tx l, rfl, sz_of (by rw [tx_len]; omega), ?_⟩
      have c1 := tx_cut1 l 1
      rw [show cutS (tx l) (some 1) none = tx (l.drop 1) from c1]
      refine ⟨tx [letters.getD ((s0 + i) % 26) 0], tx (l.drop 1), rfl, rfl, sz_of (by rw [tx_len, tx_len, List.length_singleton, List.length_drop]; omega), ?_⟩
      rw [tx_app]
      dsimp only
      refine ⟨_, rfl, _, rfl, b, vtx xs, rfl, .inl (sq_of (P5.ex _ _ hb)), rfl, flat_vtx xs, _, rfl, ?_⟩
      have ew : [letters.getD ((s0 + i) % 26) 0] ++ l.drop 1 = letters.getD ((s0 + i) % 26) 0 :: l.drop 1 := rfl
      rw [if_pos rfl, ew, inV_vtx]
      by_cases hm2 : (letters.getD ((s0 + i) % 26) 0 :: l.drop 1) ∈ xs
      · refine if_f (by rw [decide_eq_true hm2]; decide) ?_
        refine ⟨_, _, rfl, fun k hk => ?_, P5⟩
        by_cases hki : k < i
        · exact hall k hki
        · obtain rfl : k = i := by omega
          exact hm2
      · refine if_t (by rw [decide_eq_false hm2]; rfl) ?_
        exact ⟨_, rfl, q _ H5 (P5.cnt (by omega)) (nam_cons (getD_mem hm) tl (by rw [List.length_drop]; omega)) hm2⟩
    · rintro _ H5 ⟨n5, n6, rfl, hall, P5⟩
      exact absurd (fun k hk => hall k hk) (not_all hl)
end
end K05

set_option Elab.async false
set_option linter.all false
set_option maxRecDepth 100000
set_option maxHeartbeats 4000000
/-! A line of lanes that the law draws: any texts. -/
namespace K05
open PySem PySem.Spec PyProof.Rows L2 Vl Evl Vp Vr Vx2 Vlk Vda Vc Ve Vrc Ven Vwy
theorem Pl.mut {Hk H : Hp} {p x : Addr} {n : Nat} {o : HO} (h : Pl Hk p n H) (hx : Hk x = none) (xp : x ≠ p) : Pl Hk p n (upd H x o) := by
  refine ⟨h.no, Ex.mut h.ex hx, ?_⟩
  obtain ⟨a', b', c', w1, w2⟩ := h.at_
  exact ⟨a', b', c', by rw [upd_ne xp.symm]; exact w1, w2⟩
abbrev sLi : Stmt := top 36
abbrev nLi : List Str := ["_law_pool_here", "_law_parts", "_law_lanes", "_law_row", "_law_ends_here", "_law_line_here", "_law_turn", "_law_out", "_law_lane", "_law_new", "_law_name", "_law_at"]
def spLi : Sp := fun vs H Q _ => ∃ (p q a b : Addr) (ps : List (List Nat)) (rs : List Row) (Hk : Hp), vs = [.ref p, .ref q] ∧ Pl Hk p 0 H ∧ Told Hk q a b ps rs ∧ Names ps ∧ RowsOk ps rs ∧ rs.length ≤ 20 ∧
  ∀ (l : Addr) (ls : List (List Nat)) (m : Nat) (H' : Hp), Pl Hk p m H' → m ≤ 100 → H' l = some (.lst (vtx ls)) → (∀ x ∈ ls, nam x) → ls.length ≤ 50 → Q (.ref l) H'
section
variable {P : Program} {w : World} {K : PySem.W.Frag} {mg : Str → Option Value} {base : Heap}
theorem scLi : FnScope nLi ["_law_pool_here", "_law_parts"] (defScope sLi) := ⟨rfl, rfl, rfl, by decide +kernel, rfl, by decide +kernel, by decide +kernel⟩
theorem ok_li {f : Addr} {fd : FuncData} (F : FnP K "_law_line" sLi f fd) (TEn : Fu P w K mg base L2.CX0 1 "_law_ends" spEn) (TT : Fu P w K mg base L2.CX0 1 "_law_take" spTake) (TSg : Fu P w K mg base L2.CX0 2 "_law_stranger" spStrg) (mLen : mg "len" = none) (mRange : mg "range" = none) :
    FnOk P w K mg base L2.CX0 3 f fd ["_law_pool_here", "_law_parts"] spLi := by
  refine F.ok (CX := L2.CX0) scLi (fun vs H Q E h => ?_) (fun cdv A outer s H vs Q E hr h => ?_)
  · obtain ⟨p, q, a, b, ps, rs, Hk, rfl, _⟩ := h
    rfl
  · refine ⟨_, (pss_cons (ps_setLc (i := 2) (own := [("_law_row", 3)]) (g := (gName 3)) (tt := tYes) (te := (tOp (rIxT K) (tVar 3) (tC (.int 0)))) rfl scLi.nd rfl rfl (sw_true rfl rfl rfl (by decide +kernel)) (pi_list (pe_ix ix_list (pv 1) pe_int fun _ _ => rfl)) (blkOk_by (own := [("_law_row", 3)]) (N := nLi) (sc := defScope sLi) (by decide +kernel)) (fun _ _ _ _ _ => (pg_name (i := 3) scLi.nd rfl (by first | exact Or.inl rfl | exact Or.inr rfl))) (fun _ _ _ _ _ => pts_nil) (fun _ _ _ _ _ => (pe_ix ix_tup (pv 3) pe_int fun _ _ => rfl)))
      (pss_cons (ps_set (i := 4) scLi.nd rfl (by first | exact Or.inl rfl | exact Or.inr rfl) (pe_fu TEn hr (by rfl) (pa_cons (pv 1) pa_nil)))
      (pss_cons (ps_set (i := 5) scLi.nd rfl (by first | exact Or.inl rfl | exact Or.inr rfl) (pe_lst pa_nil))
      (pss_cons (ps_for (passes_of rfl) rfl (pi_range1 (by rfl) mRange (pa_cons (pe_fu TT hr (by rfl) (pa_cons (pv 0) (pa_cons pe_int pa_nil))) pa_nil)) (pg_name (i := 6) scLi.nd rfl (by first | exact Or.inl rfl | exact Or.inr rfl)) (pss_cons (ps_setLc (i := 7) (own := [("_law_lane", 8)]) (g := (gName 8)) (tt := (tOr (tTest (tOp (rEqD K) (tVar 5) (tLst tNil))) (tTest (tOp rEq (tOp (rIxT K) (tDGet (tVar 4) (tVar 8)) (tC (.int 0))) (tOp (rIxT K) (tDGet (tVar 4) (tOp (rIxL K) (tVar 5) (tUn (rU fun i => .int (-i)) (tC (.int 1))))) (tC (.int 1))))))) (te := (tVar 8)) rfl scLi.nd rfl rfl (sw_true rfl rfl rfl (by decide +kernel)) (pi_list (pv 2)) (blkOk_by (own := [("_law_lane", 8)]) (N := nLi) (sc := defScope sLi) (by decide +kernel)) (fun _ _ _ _ _ => (pg_name (i := 8) scLi.nd rfl (by first | exact Or.inl rfl | exact Or.inr rfl))) (fun _ _ _ _ _ => (pts_one (PW.pt (pw_or (pt_cmpR (op_eqD hr.units) (pv 5) (pe_lst pa_nil) (nomark _)) (pw_or1 (pt_cmpR op_eq (pe_ix ix_tup (pe_dget (Nat.lt_of_le_of_lt (Nat.add_le_add_left (show 1 ≤ 64 by decide) _) hr.units) (pv 4) (pv 8) (fun _ _ => rfl)) pe_int fun _ _ => rfl) (pe_ix ix_tup (pe_dget (Nat.lt_of_le_of_lt (Nat.add_le_add_left (show 1 ≤ 64 by decide) _) hr.units) (pv 4) (pe_ix ix_list (pv 5) (pe_un un_neg pe_int) fun _ _ => rfl) (fun _ _ => rfl)) pe_int fun _ _ => rfl) (nomark _))))))) (fun _ _ _ _ _ => (pv 8)))
      (pss_one (ps_if (pt_cmpR (op_neD hr.units) (pv 7) (pe_lst pa_nil) (nomark _)) (pss_one (ps_expr (pe_bm PySem.F.plainAttrs_list PySem.F.slot_list_append PySem.F.type_list_append mt_append (pv 5) (pa_cons (pe_ix ix_list (pv 7) (pe_fu TT hr (by rfl) (pa_cons (pv 0) (pa_cons (pe_callB call_len (by rfl) mLen boot_len (pa_cons (pv 7) pa_nil)) pa_nil))) fun _ _ => rfl) pa_nil)))) pss_nil))))
      (pss_cons (ps_if (PW.pt (pw_and (pt_cmpR (op_neD hr.units) (pv 5) (pe_lst pa_nil) (nomark _)) (pw_and1 (pt_cmpR op_eq (pe_fu TT hr (by rfl) (pa_cons (pv 0) (pa_cons pe_int pa_nil))) pe_int (nomark _))))) (pss_one (ps_asg (pe_ix ix_list (pv 2) (pe_fu TT hr (by rfl) (pa_cons (pv 0) (pa_cons (pe_callB call_len (by rfl) mLen boot_len (pa_cons (pv 2) pa_nil)) pa_nil))) fun _ _ => rfl) (pg_sub (pv 5) (pe_fu TT hr (by rfl) (pa_cons (pv 0) (pa_cons (pe_callB call_len (by rfl) mLen boot_len (pa_cons (pv 5) pa_nil)) pa_nil))) set_list))) pss_nil)
      (pss_cons (ps_if (pt_cmpR op_eq (pe_fu TT hr (by rfl) (pa_cons (pv 0) (pa_cons pe_int pa_nil))) pe_int (nomark _)) (pss_cons (ps_set (i := 9) scLi.nd rfl (by first | exact Or.inl rfl | exact Or.inr rfl) (pe_fu TSg hr (by rfl) (pa_cons (pv 0) (pa_cons (pv 2) pa_nil))))
      (pss_one (ps_for (passes_of rfl) rfl (pi_list (pe_slice sl_list (pe_lst (pa_cons (pe_fu TSg hr (by rfl) (pa_cons (pv 0) (pa_cons (pe_op op_cat (pv 2) (pe_lst (pa_cons (pv 9) pa_nil))) pa_nil))) (pa_cons (pv 9) pa_nil))) (po_some (pe_fu TT hr (by rfl) (pa_cons (pv 0) (pa_cons pe_int pa_nil)))) po_none)) (pg_name (i := 10) scLi.nd rfl (by first | exact Or.inl rfl | exact Or.inr rfl)) (pss_cons (ps_set (i := 11) scLi.nd rfl (by first | exact Or.inl rfl | exact Or.inr rfl) (pe_fu TT hr (by rfl) (pa_cons (pv 0) (pa_cons (pe_op op_add (pe_callB call_len (by rfl) mLen boot_len (pa_cons (pv 5) pa_nil)) pe_int) pa_nil))))
      (pss_one (ps_set (i := 5) scLi.nd rfl (by first | exact Or.inl rfl | exact Or.inr rfl) (pe_op op_cat (pe_op op_cat (pe_slice sl_list (pv 5) po_none (po_some (pv 11))) (pe_lst (pa_cons (pv 10) pa_nil))) (pe_slice sl_list (pv 5) (po_some (pv 11)) po_none)))))))) pss_nil)
      (pss_one (ps_ret (pv 5))))))))), ?_⟩
    obtain ⟨p, q, a, b, ps, rs, Hk, rfl, hp, T, NA, RO, hr20, k⟩ := h
    have nd : (laneNames rs).Nodup := RO.1.2
    have T0 := T.mono hp.ex
    refine s_seq ?_
    refine s_asgL (xs := vtx (laneNames rs)) (by
      have := el_lcM (K := K) (σ := [some (.ref p), some (.ref q), none, none, none, none, none, none, none, none, none, none]) (ys := rs) (g := fun r : Row => V.ref r.1) (j := 3) (vs := [3]) (tl := tOp (rIxL K) (tVar 1) (tC (.int 1))) (te := tOp (rIxT K) (tVar 3) (tC (.int 0))) (fun r => V.str (tx r.2.1)) (ev_ixA (i := 1) (ev_var rfl) (sq_of T0.at_) rfl) (sq_of T0.rows) (by omega) (fun x => rfl) (fun r H1 e1 hr1 => ev_op (ev_var rfl) ev_c (rv_ixT (st_of (K := K) (e1 _ _ (T0.row r hr1))) (at_of (j := 0) rfl rfl)))
      have hv : vtx (laneNames rs) = rs.map fun r => V.str (tx r.2.1) := by
        unfold vtx laneNames
        rw [List.map_map]
        rfl
      rw [hv]
      exact this) fun la H1 nla e1 hla => ?_
    dsimp only
    refine s_seq ?_
    refine ⟨_, rfl, q, a, b, ps, rs, rfl, T0.mono e1, nd, by omega, fun dd es H2 e2 ndd hd hbe hes => ?_⟩
    have e12 := e1.trans e2
    have hp2 := hp.grow e12
    obtain ⟨pc1, pc2, pc3, hpc, _⟩ := hp2.at_
    have TB : Told (Wo H2 p) q a b ps rs := T.mono hp2.wo
    have dB : Wo H2 p dd = some (.dK (dEnds es)) := wo_at hd (ne_kind hd hpc (by intro z; cases z))
    have esB : ∀ e ∈ es, EndAt (Wo H2 p) e := fun e he => wo_at (hes e he) (ne_kind (hes e he) hpc (by intro z; cases z))
    have lap : la ≠ p := hp.ne nla
    have laB : Wo H2 p la = some (.lst (vtx (laneNames rs))) := wo_at (e2 _ _ hla) lap
    have P2 : Pl (Wo H2 p) p 0 H2 := hp2.re
    have kB : ∀ (l : Addr) (ls : List (List Nat)) (m : Nat) (H' : Hp), Pl (Wo H2 p) p m H' → m ≤ 100 → H' l = some (.lst (vtx ls)) → (∀ x ∈ ls, nam x) → ls.length ≤ 50 → Q (.ref l) H' := fun l ls m H' hP => k l ls m H' (hp2.back hP)
    generalize Wo H2 p = B at TB dB esB P2 kB laB
    clear k hp hp2 hpc hd hes T0 hla
    have nmL : ∀ x ∈ laneNames rs, nam x := RO.1.1
    dsimp only
    refine s_seq ?_
    refine s_asgL (xs := vtx []) (el_lst ea_nil (by decide)) fun w H3 nw e3 hw => ?_
    have wB : B w = none := fresh_back P2.ex nw
    have wp : w ≠ p := P2.ne nw
    have P3 := P2.grow e3
    dsimp only
    refine s_seq ?_
    refine ⟨_, rfl, p, 9, Wo H3 p, 0, rfl, by omega, by omega, P3.re, by omega, fun r H4 r0 r1 P4' => ⟨r, rfl, by omega, by omega, ?_⟩⟩
    have P4 := P3.back P4'
    have hw4 : H4 w = some (.lst (vtx [])) := P4'.ex _ _ (wo_at hw wp)
    refine for_range (lo := 0) (n := r.toNat) (fun i st H' => ∃ t6 t7 ws, st = [some (.ref p), some (.ref q), some (.ref la), none, some (.ref dd), some (.ref w), t6, t7, none, none, none, none] ∧ Pl B p (1 + i) H' ∧ H' w = some (.lst (vtx ws)) ∧ (∀ l ∈ ws, l ∈ laneNames rs) ∧ ws.length ≤ i)
      ⟨none, none, [], rfl, P4, hw4, (fun _ h => nomatch h), Nat.zero_le _⟩ ?_ ?_
    · rintro i st H5 hi ⟨t6, t7, ws, rfl, P5, hw5, hin, hwl⟩
      have nmw : ∀ x ∈ ws, nam x := fun x hx => nmL x (hin x hx)
      show tSeq _ _ _ [some (.ref p), some (.ref q), some (.ref la), none, some (.ref dd), some (.ref w), some (.int ((0 : Int) + (i : Int))), t7, none, none, none, none] H5
      have hll : (laneNames rs).length ≤ 20 := by
        unfold laneNames
        rw [List.length_map]
        exact hr20
      refine s_seq ?_
      refine s_asgL (xs := vtx ((laneNames rs).filter fun l => decide (ws = []) || decide (V.str (tx (stE (bare rs) l)) = V.str (tx (enE (bare rs) (ws.getLast?.getD [])))))) (el_lcA (ys := laneNames rs) (g := fun l => V.str (tx l)) (fun l => decide (ws = []) || decide (V.str (tx (stE (bare rs) l)) = V.str (tx (enE (bare rs) (ws.getLast?.getD []))))) (fun l => V.str (tx l)) (ev_var rfl) (sq_of (P5.ex _ _ laB)) (by omega) (fun x => rfl) (fun l H6 e6 hl => ?_) (fun l H6 e6 _ _ => ev_var rfl)) fun po H6 npo e6 hpo => ?_
      · refine et_or (et_test (ev_is (ev_eqD (ed_ev (ev_var rfl) (dp_l (sq_of (e6 _ _ hw5)))) (ed_Ln (xs := []) (el_lst ea_nil (by decide))) (sh_l (oks_nam nmw)) (sh_l oks_nil)) (by rw [eq_l]))) (fun hf => ?_)
        have hne : ws ≠ [] := of_decide_eq_false hf
        have hwe : ws = ws.dropLast ++ [ws.getLast hne] := (List.dropLast_concat_getLast hne).symm
        have hat : atI (vtx ws) (-1) = some (V.str (tx (ws.getLast hne))) := by
          have h1 : vtx ws = vtx ws.dropLast ++ [V.str (tx (ws.getLast hne))] := by
            conv => lhs; rw [hwe]
            rw [vtx_app]
            rfl
          rw [h1]
          exact atI_last _ _
        have hlast : ws.getLast?.getD [] = ws.getLast hne := by rw [List.getLast?_eq_some_getLast hne]; rfl
        rw [hlast]
        have hd6 := (P5.ex.trans e6) _ _ dB
        have hes6 : ∀ e ∈ es, EndAt H6 e := fun e he => (P5.ex.trans e6) _ _ (esB e he)
        exact et_test (ev_op (ev_st nd hbe hd6 hes6 hl (ev_var rfl) (ev_var rfl)).1 (ev_st nd hbe hd6 hes6 (hin _ (List.getLast_mem hne)) (ev_var rfl) (ev_op (ev_var rfl) (ev_un ev_c ru_neg) (rv_ixL (sq_of (e6 _ _ hw5)) hat))).2 (rv_eq rfl))
      generalize hO : ((laneNames rs).filter fun l => decide (ws = []) || decide (V.str (tx (stE (bare rs) l)) = V.str (tx (enE (bare rs) (ws.getLast?.getD []))))) = out at hpo
      have hOin : ∀ l ∈ out, l ∈ laneNames rs := fun l hl => by
        rw [← hO] at hl
        exact (List.mem_filter.mp hl).1
      have hOl : out.length ≤ 20 := by
        rw [← hO]
        exact Nat.le_trans (List.length_filter_le _ _) hll
      clear hO
      dsimp only
      have P6 := P5.grow e6
      have pop : po ≠ p := P5.ne npo
      refine s_if (et_test (ev_neD (ed_ev (ev_var rfl) (dp_l (sq_of hpo))) (ed_Ln (xs := []) (el_lst ea_nil (by decide))) (sh_l (oks_nam fun l hl => nmL l (hOin l hl))) (sh_l oks_nil))) (fun hb H7 e7 => ?_) (fun hb H7 e7 => ?_)
      · rw [eq_l] at hb
        have hone : out ≠ [] := fun z => by rw [decide_eq_true z] at hb; cases hb
        have hol : 0 < out.length := List.length_pos_iff.mpr hone
        have P7 := P6.grow e7
        have hpo7 := e7 _ _ hpo
        have hw7 := e7 _ _ (e6 _ _ hw5)
        refine ⟨_, rfl, .inl ⟨rfl, _, sq_of hw7⟩, ?_⟩
        refine ⟨_, rfl, ⟨_, rfl, _, rfl, _, (vtx out).length, rfl, .inl ⟨_, sq_of hpo7, rfl⟩, p, ((vtx out).length : Int), Wo H7 p, _, rfl, by rw [vtx_len]; omega, by rw [vtx_len]; omega, P7.re, by omega, fun g2 H8 g0 g1 P8' => ?_⟩⟩
        obtain ⟨k2, rfl⟩ := Int.eq_ofNat_of_zero_le g0
        rw [vtx_len] at g1
        have hk2 : k2 < out.length := by omega
        have hl2 : out[k2]? = some out[k2] := List.getElem?_eq_getElem hk2
        generalize out[k2] = l2 at hl2
        have P8 := P7.back P8'
        have hpo8 : H8 po = _ := P8'.ex _ _ (wo_at hpo7 pop)
        have hw8 : H8 w = _ := P8'.ex _ _ (wo_at hw7 wp)
        refine ⟨po, _, (k2 : Int), .str (tx l2), rfl, rfl, sq_of hpo8, atI_nat (vtx_at hl2), ?_⟩
        refine ⟨w, _, .str (tx l2), rfl, rfl, hw8, sz_lt (by rw [vtx_len]; omega), ?_⟩
        refine ⟨_, _, ws ++ [l2], rfl, (Pl.mut P8 wB wp).cnt (by omega), ?_, fun x hx => ?_, ?_⟩
        · rw [upd_same, vtx_app]
          rfl
        · rcases List.mem_append.mp hx with hx | hx
          · exact hin x hx
          · rw [List.mem_singleton.mp hx]
            exact hOin _ (List.mem_of_getElem? hl2)
        · rw [List.length_append]
          show _ + 1 ≤ _
          omega
      · exact ⟨_, _, ws, rfl, (P6.grow e7).cnt (by omega), e7 _ _ (e6 _ _ hw5), hin, by omega⟩
    · rintro st H5 ⟨t6, t7, ws, rfl, P5, hw5, hin, hwl⟩
      have hwl9 : ws.length ≤ 9 := by omega
      have nmw : ∀ x ∈ ws, nam x := fun x hx => nmL x (hin x hx)
      have P5' : Pl B p 10 H5 := P5.cnt (by omega)
      clear P5 hwl
      dsimp only
      refine s_seq ?_
      -- the name that is changed
      refine (show ∀ D' : Ends, (∀ st H', (∃ t6 t7 ws, st = [some (.ref p), some (.ref q), some (.ref la), none, some (.ref dd), some (.ref w), t6, t7, none, none, none, none] ∧ Pl B p 20 H' ∧ H' w = some (.lst (vtx ws)) ∧ (∀ x ∈ ws, nam x) ∧ ws.length ≤ 9) → D'.nx st H') → tIfS _ _ _ D' _ _ from fun D' hn => ?_) _ (fun st H6 hI => ?_)
      · have hll : (laneNames rs).length ≤ 20 := by
          unfold laneNames
          rw [List.length_map]
          exact hr20
        have h1 : EvT (tTest (tOp (rNeD K) (tVar 5) (tLst tNil))) [some (.ref p), some (.ref q), some (.ref la), none, some (.ref dd), some (.ref w), t6, t7, none, none, none, none] H5 (!decide (ws = [])) := by
          rw [← eq_l]
          exact et_test (ev_neD (ed_ev (ev_var rfl) (dp_l (sq_of hw5))) (ed_Ln (xs := []) (el_lst ea_nil (by decide))) (sh_l (oks_nam nmw)) (sh_l oks_nil))
        refine h1 H5 (Ex.refl _) _ fun H6 e6 => ?_
        have P6 := P5'.grow e6
        have hw6 := e6 _ _ hw5
        by_cases h0 : ws = []
        · rw [decide_eq_true h0]
          exact hn _ _ ⟨_, _, ws, rfl, P6.cnt (by omega), hw6, nmw, hwl9⟩
        rw [decide_eq_false h0]
        obtain ⟨l0, hl0⟩ := List.exists_mem_of_ne_nil ws h0
        have hln : 0 < (laneNames rs).length := List.length_pos_of_mem (hin l0 hl0)
        have hwn : 0 < ws.length := List.length_pos_iff.mpr h0
        refine ⟨_, rfl, p, 3, Wo H6 p, _, rfl, by omega, by omega, P6.re, by omega, fun g H7 g0 g1 P7' => ⟨rfl, _, rfl, ?_⟩⟩
        have P7 := P6.back P7'
        have hw7 : H7 w = _ := P7'.ex _ _ (wo_at hw6 wp)
        by_cases hg : V.int g = V.int 0
        · dsimp only
          rw [if_pos (decide_eq_true hg)]
          have hla7 := P7.ex _ _ laB
          refine ⟨_, rfl, ⟨_, rfl, _, rfl, _, (vtx (laneNames rs)).length, rfl, .inl ⟨_, sq_of hla7, rfl⟩, p, ((vtx (laneNames rs)).length : Int), Wo H7 p, _, rfl, by rw [vtx_len]; omega, by rw [vtx_len]; omega, P7.re, by omega, fun g2 H8 g20 g21 P8' => ?_⟩⟩
          obtain ⟨k2, rfl⟩ := Int.eq_ofNat_of_zero_le g20
          rw [vtx_len] at g21
          have hk2 : k2 < (laneNames rs).length := by omega
          have hl2 : (laneNames rs)[k2]? = some (laneNames rs)[k2] := List.getElem?_eq_getElem hk2
          generalize (laneNames rs)[k2] = l2 at hl2
          have P8 := P7.back P8'
          have hw8 : H8 w = _ := P8'.ex _ _ (wo_at hw7 wp)
          refine ⟨la, _, (k2 : Int), .str (tx l2), rfl, rfl, sq_of (P8.ex _ _ laB), atI_nat (vtx_at hl2), ?_⟩
          refine ⟨_, rfl, ⟨_, rfl, _, rfl, _, (vtx ws).length, rfl, .inl ⟨_, sq_of hw8, rfl⟩, p, ((vtx ws).length : Int), Wo H8 p, _, rfl, by rw [vtx_len]; omega, by rw [vtx_len]; omega, P8.re, by omega, fun g3 H9 g30 g31 P9' => ?_⟩⟩
          obtain ⟨k3, rfl⟩ := Int.eq_ofNat_of_zero_le g30
          rw [vtx_len] at g31
          have P9 := P8.back P9'
          have hw9 : H9 w = _ := P9'.ex _ _ (wo_at hw8 wp)
          refine ⟨w, vtx ws, (k3 : Int), k3, rfl, rfl, hw9, ixN_nat (by rw [vtx_len]; omega), hn _ _ ⟨_, _, ws.set k3 l2, rfl, (Pl.mut P9 wB wp).cnt (by omega), ?_, fun x hx => ?_, by rw [List.length_set]; exact hwl9⟩⟩
          · rw [upd_same]
            unfold vtx
            rw [List.map_set]
          · rcases List.mem_or_eq_of_mem_set hx with hx | hx
            · exact nmw x hx
            · rw [hx]
              exact nmL _ (List.mem_of_getElem? hl2)
        · dsimp only
          rw [if_neg (by rw [decide_eq_false hg]; decide)]
          exact hn _ _ ⟨_, _, ws, rfl, P7.cnt (by omega), hw7, nmw, hwl9⟩
      obtain ⟨t6, t7, ws, rfl, P6, hw6, nmw, hwl⟩ := hI
      dsimp only
      refine s_seq ?_
      refine (show ∀ D' : Ends, (∀ st H', (∃ (w : Addr) (ws : List (List Nat)) (m : Nat), ∃ t6 t7 t9 t10 t11, st = [some (.ref p), some (.ref q), some (.ref la), none, some (.ref dd), some (.ref w), t6, t7, none, t9, t10, t11] ∧ Pl B p m H' ∧ m ≤ 100 ∧ H' w = some (.lst (vtx ws)) ∧ (∀ x ∈ ws, nam x) ∧ ws.length ≤ 50) → D'.nx st H') → tIfS _ _ _ D' _ _ from fun D' hn => ?_) _ (fun st H7 hI => ?_)
      · have hll : (laneNames rs).length ≤ 20 := by
          unfold laneNames
          rw [List.length_map]
          exact hr20
        refine ⟨_, rfl, p, 4, Wo H6 p, _, rfl, by omega, by omega, P6.re, by omega, fun g H7 g0 g1 P7' => ⟨rfl, _, rfl, ?_⟩⟩
        have P7 := P6.back P7'
        have hw7 : H7 w = _ := P7'.ex _ _ (wo_at hw6 wp)
        by_cases hg : V.int g = V.int 0
        · dsimp only
          rw [if_pos (decide_eq_true hg)]
          refine s_seq ?_
          refine ⟨_, rfl, _, rfl, p, la, laneNames rs, Wo H7 p, _, rfl, P7.re, by omega, wo_at (P7.ex _ _ laB) lap, nmL, by omega, fun l1 H8 P8' nm1 _ => ?_⟩
          have P8 := P7.back P8'
          have hw8 : H8 w = _ := P8'.ex _ _ (wo_at hw7 wp)
          dsimp only
          show tFor _ _ _ _ [some (.ref p), some (.ref q), some (.ref la), none, some (.ref dd), some (.ref w), t6, t7, none, some (.str (tx l1)), none, none] H8
          refine ⟨_, rfl, _, rfl, _, rfl, by show 1 ≤ sizeLine; decide, fun n1 nn1 => ⟨la, n1, vtx (laneNames rs), [.str (tx l1)], rfl, rfl, (Ex.new nn1) _ _ (P8.ex _ _ laB), upd_same, ?_, fun n2 nn2 => ?_⟩⟩
          · rw [vtx_len]
            exact sz_of (by show _ + 1 ≤ _; omega)
          have P9 := (P8.new nn1).new (o := HO.lst (vtx (laneNames rs) ++ [.str (tx l1)])) nn2
          have n2p : n2 ≠ p := (P8.new nn1).ne nn2
          have hw9 := (Ex.new (o := HO.lst (vtx (laneNames rs) ++ [.str (tx l1)])) nn2) _ _ ((Ex.new (o := HO.lst [.str (tx l1)]) nn1) _ _ hw8)
          have hn2 := upd_same (H := upd H8 n1 (HO.lst [V.str (tx l1)])) (a := n2) (o := HO.lst (vtx (laneNames rs) ++ [V.str (tx l1)]))
          generalize upd (upd H8 n1 (HO.lst [V.str (tx l1)])) n2 (HO.lst (vtx (laneNames rs) ++ [V.str (tx l1)])) = H9 at P9 hw9 hn2 ⊢
          refine ⟨p, n2, laneNames rs ++ [l1], Wo H9 p, _, rfl, P9.re, by omega, wo_at (by rw [vtx_app]; exact hn2) n2p, fun l hl => ?_, by rw [List.length_append]; show _ + 1 ≤ _; omega, fun l2 H10 P10' nm2 _ => ?_⟩
          · rcases List.mem_append.mp hl with hl | hl
            · exact nmL l hl
            · rw [List.mem_singleton.mp hl]
              exact nm1
          have P10 := P9.back P10'
          have hw10 : H10 w = _ := P10'.ex _ _ (wo_at hw9 wp)
          refine ⟨_, rfl, by show 2 ≤ sizeLine; decide, fun n3 nn3 => ?_⟩
          have P11 := P10.new (o := HO.lst [.str (tx l2), .str (tx l1)]) nn3
          have n3p : n3 ≠ p := P10.ne nn3
          have hw11 := (Ex.new (o := HO.lst [.str (tx l2), .str (tx l1)]) nn3) _ _ hw10
          have hn3 := upd_same (H := H10) (a := n3) (o := HO.lst [V.str (tx l2), V.str (tx l1)])
          generalize upd H10 n3 (HO.lst [V.str (tx l2), V.str (tx l1)]) = H11 at P11 hw11 hn3 ⊢
          refine ⟨_, rfl, p, 2, Wo H11 p, _, rfl, by omega, by omega, P11.re, by omega, fun g3 H12 g30 g31 P12' => ⟨_, rfl, n3, _, rfl, sq_of (P12'.ex _ _ (wo_at hn3 n3p)), fun n4 nn4 => ?_⟩⟩
          obtain ⟨k3, rfl⟩ := Int.eq_ofNat_of_zero_le g30
          have P12 := P11.back P12'
          have hw12 : H12 w = _ := P12'.ex _ _ (wo_at hw11 wp)
          have n4p : n4 ≠ p := P12.ne nn4
          have P13 := P12.new (o := HO.lst (cutV [.str (tx l2), .str (tx l1)] (some (k3 : Int)) none)) nn4
          have hw13 := (Ex.new (o := HO.lst (cutV [.str (tx l2), .str (tx l1)] (some (k3 : Int)) none)) nn4) _ _ hw12
          have hn4 := upd_same (H := H12) (a := n4) (o := HO.lst (cutV [V.str (tx l2), V.str (tx l1)] (some (k3 : Int)) none))
          generalize upd H12 n4 (HO.lst (cutV [V.str (tx l2), V.str (tx l1)] (some (k3 : Int)) none)) = H13 at P13 hw13 hn4 ⊢
          rw [cutV1] at hn4
          have hxl : (([V.str (tx l2), V.str (tx l1)] : List V).drop k3).length ≤ 2 := by rw [List.length_drop]; show 2 - k3 ≤ 2; omega
          have hxm : ∀ x ∈ ([V.str (tx l2), V.str (tx l1)] : List V).drop k3, ∃ nm, x = V.str (tx nm) ∧ nam nm := fun x hx => by
            rcases List.mem_cons.mp (List.mem_of_mem_drop hx) with h | h
            · exact ⟨l2, h, nm2⟩
            · exact ⟨l1, List.mem_singleton.mp h, nm1⟩
          generalize ([V.str (tx l2), V.str (tx l1)] : List V).drop k3 = xs at hn4 hxl hxm
          refine ⟨n4, rfl, ⟨xs, sq_of hn4⟩, ?_⟩
          refine for_list (xs := xs) (fun i st H' => ∃ (w : Addr) (ws : List (List Nat)), ∃ t10 t11, st = [some (.ref p), some (.ref q), some (.ref la), none, some (.ref dd), some (.ref w), t6, t7, none, some (.str (tx l1)), t10, t11] ∧ Pl B p (60 + i) H' ∧ H' n4 = some (.lst xs) ∧ w ≠ p ∧ H' w = some (.lst (vtx ws)) ∧ (∀ x ∈ ws, nam x) ∧ ws.length ≤ 9 + i)
            ⟨w, ws, none, none, rfl, P13.cnt (by omega), hn4, wp, hw13, nmw, hwl⟩ (fun i st H' _ ⟨_, _, _, _, _, _, h, _⟩ => sq_of h) ?_ ?_
          · rintro i x st H14 hx ⟨w, ws, t10, t11, rfl, P14, hn14, wp, hw14, nmw, hwl⟩
            have hi2 := (List.getElem?_eq_some_iff.mp hx).1
            obtain ⟨nm, rfl, hnm⟩ := hxm x (List.mem_of_getElem? hx)
            show tSeq _ _ _ [some (.ref p), some (.ref q), some (.ref la), none, some (.ref dd), some (.ref w), t6, t7, none, some (.str (tx l1)), some (.str (tx nm)), t11] H14
            refine s_seq ?_
            refine ⟨_, rfl, _, rfl, _, (vtx ws).length, rfl, .inl ⟨_, sq_of hw14, rfl⟩, ((vtx ws).length : Int), 1, rfl, rfl, p, (((vtx ws).length : Int) + 1), Wo H14 p, _, rfl, by omega, by rw [vtx_len]; omega, P14.re, by omega, fun g4 H15 g40 g41 P15' => ?_⟩
            obtain ⟨k4, rfl⟩ := Int.eq_ofNat_of_zero_le g40
            rw [vtx_len] at g41
            have P15 := P14.back P15'
            have hw15 : H15 w = _ := P15'.ex _ _ (wo_at hw14 wp)
            have hn15 : H15 n4 = _ := P15'.ex _ _ (wo_at hn14 n4p)
            dsimp only
            have key := el_cat2 (σ := [some (.ref p), some (.ref q), some (.ref la), none, some (.ref dd), some (.ref w), t6, t7, none, some (.str (tx l1)), some (.str (tx nm)), some (.int (k4 : Int))]) (el_cat2 (el_sl (lo := none) (hi := some (k4 : Int)) (K := K) (ev_var (i := 5) rfl) eo_none (eo_some (ev_var (i := 11) rfl)) (sq_of hw15)) (el_lst (ea_cons (ev_var (i := 10) (v := V.str (tx nm)) rfl) ea_nil) (by show 1 ≤ 100000; decide)) (by
              have h3 := cutV_length (vtx ws) none (some (k4 : Int))
              rw [vtx_len] at h3
              show _ + 1 ≤ _
              omega)) (el_sl (lo := some (k4 : Int)) (hi := none) (K := K) (ev_var (i := 5) rfl) (eo_some (ev_var (i := 11) rfl)) eo_none (sq_of hw15)) (by
              have h3 := cutV_length (vtx ws) none (some (k4 : Int))
              have h4 := cutV_length (vtx ws) (some (k4 : Int)) none
              rw [vtx_len] at h3 h4
              rw [List.length_append]
              show _ + 1 + _ ≤ _
              omega)
            rw [cutV0, cutV1] at key
            refine key _ (Ex.refl _) _ fun w2 H16 nw2 e16 hw16 => ?_
            have P16 := P15.grow e16
            refine ⟨w2, ws.take k4 ++ [nm] ++ ws.drop k4, _, _, rfl, P16.cnt (by omega), e16 _ _ hn15, P15.ne nw2, ?_, fun y hy => ?_, ?_⟩
            · rw [hw16]
              unfold vtx
              rw [List.map_append, List.map_append, List.map_take, List.map_drop]
              rfl
            · rcases List.mem_append.mp hy with hy | hy
              · rcases List.mem_append.mp hy with hy | hy
                · exact nmw y (List.mem_of_mem_take hy)
                · rw [List.mem_singleton.mp hy]
                  exact hnm
              · exact nmw y (List.mem_of_mem_drop hy)
            · rw [List.length_append, List.length_append, List.length_take, List.length_drop]
              show _ + 1 + _ ≤ _
              omega
          · rintro st H14 ⟨w, ws, t10, t11, rfl, P14, hn14, wp, hw14, nmw, hwl⟩
            exact hn _ _ ⟨w, ws, _, _, _, _, _, _, rfl, P14, by omega, hw14, nmw, by omega⟩
        · dsimp only
          rw [if_neg (by rw [decide_eq_false hg]; decide)]
          exact hn _ _ ⟨w, ws, _, _, _, _, _, _, rfl, P7, by omega, hw7, nmw, by omega⟩
      obtain ⟨w, ws, m, t6, t7, t9, t10, t11, rfl, P7, hm, hw7, nmw, hwl⟩ := hI
      dsimp only
      exact s_ret (ev_var rfl) fun H8 e8 => kB w ws m H8 (P7.grow e8) hm (e8 _ _ hw7) nmw hwl
end
end K05

set_option Elab.async false
set_option linter.all false
set_option maxRecDepth 100000
set_option maxHeartbeats 4000000
/-! Ways held against the law's; strangers. -/
namespace K05
open PySem PySem.Spec PyProof.Rows L2 Vl Evl Vp Vr Vx2 Vlk Vda Vc Ve Vrc Ven Vwy
theorem ev_isi {K : PySem.W.Frag} {σ : L2.St} {H : Hp} {te : TE} {v : V} {n : String} {t : Value} {b : Bool} (h : Ev te σ H v) (ty : ∀ H1, Ex H H1 → TyX K H1 v t) (hk : PySem.W.kitOne K t (.type n) = some b) : Ev (tCB (rIsi K) (tCons te (tCons (tC (.ty n)) tNil))) σ H (.bl b) := fun H1 e Q q =>
  h H1 e _ fun H2 e2 => ⟨v, .ty n, t, .type n, b, rfl, .ty _, ty H2 (e.trans e2), hk, q H2 e2⟩
theorem st_of_row {ps : List (List Nat)} {rs : List Row} (RO : RowsOk ps rs) {l b c : List Nat} (h : (l, b, c) ∈ bare rs) : l ∈ names (bare rs) ∧ stE (bare rs) l = b ∧ enE (bare rs) l = c := by
  refine ⟨List.mem_map.mpr ⟨_, h, rfl⟩, ?_⟩
  unfold bare at h
  obtain ⟨r, hr, he⟩ := List.mem_map.mp h
  obtain ⟨i, hi⟩ := List.getElem?_of_mem hr
  have h1 := row_own (show (laneNames rs).Nodup from RO.1.2) hi
  have e1 : r.2.1 = l := by rw [he]
  have e2 : r.2.2.1 = b := by rw [he]
  have e3 : r.2.2.2 = c := by rw [he]
  rw [e1] at h1
  exact ⟨by rw [row_st h1, e2], by rw [row_en h1, e3]⟩
theorem wk_posts {ps : List (List Nat)} {rs : List Row} (RO : RowsOk ps rs) {a b : List Nat} {ls : List (List Nat)} (w : Wk (LaneB (bare rs)) a b ls) :
    (∀ l ∈ ls, l ∈ names (bare rs)) ∧ (∀ (i : Nat) l, ls[i]? = some l → some (stE (bare rs) l) = (a :: ls.map (enE (bare rs)))[i]?) ∧ (a :: ls.map (enE (bare rs)))[ls.length]? = some b := by
  induction w with
  | nil => exact ⟨(fun _ h => nomatch h), (fun i l h => by cases h), rfl⟩
  | @snoc b c l ls _ e ih =>
    obtain ⟨h1, h2, h3⟩ := ih
    obtain ⟨hn, hs, he⟩ := st_of_row RO e
    have hV : (a :: (ls ++ [l]).map (enE (bare rs))) = (a :: ls.map (enE (bare rs))) ++ [c] := by
      rw [List.map_append, ← he]
      rfl
    have hVl : (a :: ls.map (enE (bare rs))).length = ls.length + 1 := by rw [List.length_cons, List.length_map]
    refine ⟨fun x hx => ?_, fun i x hx => ?_, ?_⟩
    · rcases List.mem_append.mp hx with hx | hx
      · exact h1 x hx
      · rw [List.mem_singleton.mp hx]
        exact hn
    · rw [hV]
      have hil := (List.getElem?_eq_some_iff.mp hx).1
      rw [List.length_append, List.length_singleton] at hil
      rw [List.getElem?_append_left (by omega)]
      by_cases hi : i < ls.length
      · rw [List.getElem?_append_left hi] at hx
        exact h2 i x hx
      · have hie : i = ls.length := by omega
        rw [hie, List.getElem?_append_right (Nat.le_refl _), Nat.sub_self] at hx
        have hxl : l = x := Option.some.inj hx
        rw [← hxl, hs, hie, h3]
    · rw [hV, List.length_append, List.length_singleton, List.getElem?_append_right (by omega), hVl, Nat.sub_self]
      rfl
abbrev sIw : Stmt := top 39
abbrev nIw : List Str := ["_law_net_here", "_law_parts", "_law_first", "_law_second", "_law_found", "_law_ways_here", "_law_due_here"]
def spIw (C : Addr) : Sp := fun vs H Q _ => ∃ (o dx dp de q pa pb : Addr) (ps : List (List Nat)) (es rs : List Row) (a b : List Nat), vs = [.ref o, .ref q, .str (tx a), .str (tx b)] ∧ NetAt C H o dx dp de ps es ∧ bare es = bare rs ∧ Told H q pa pb ps rs ∧ Names ps ∧ RowsOk ps rs ∧ ps.length ≤ 30 ∧ rs.length ≤ 30 ∧ a ∈ ps ∧ b ∈ ps ∧
  ∀ H', Ex H H' → Q (.bl true) H'
abbrev sSt : Stmt := top 40
abbrev nSt : List Str := ["_law_net_here", "_law_first", "_law_second", "e"]
def spSt (C : Addr) : Sp := fun vs H Q _ => ∃ (o dx dp de : Addr) (ps : List (List Nat)) (es : List Row) (a b x : List Nat), vs = [.ref o, .str (tx a), .str (tx b)] ∧ NetAt C H o dx dp de ps es ∧ RowsOk ps es ∧ ps.length ≤ 30 ∧ es.length ≤ 30 ∧ FirstOut [a, b] ps x ∧
  ∀ H', Ex H H' → Q (.str (tx x)) H'
section
variable {P : Program} {w : World} {K : PySem.W.Frag} {mg : Str → Option Value} {base : Heap} {C BN NT NP NL : Addr}
theorem scIw : FnScope nIw ["_law_net_here", "_law_parts", "_law_first", "_law_second"] (defScope sIw) := ⟨rfl, rfl, rfl, by decide +kernel, rfl, by decide +kernel, by decide +kernel⟩
theorem scSe : FnScope nSt ["_law_net_here", "_law_first", "_law_second"] (defScope sSt) := ⟨rfl, rfl, rfl, by decide +kernel, rfl, by decide +kernel, by decide +kernel⟩
theorem ok_st {f : Addr} {fd : FuncData} (F : FnP K "_law_strange" sSt f fd) (TWa : Fu P w K mg base (L2.CX P w) 6 "way_from" (spWa C NP)) (NPe : Err1 P w K mg base "NoPost" "name" NP) (xm : PySem.W.exmOne K (.ref NP) (.ref NP) = some true) :
    FnOk P w K mg base L2.CX0 7 f fd ["_law_net_here", "_law_first", "_law_second"] (spSt C) := by
  refine F.ok (CX := L2.CX0) scSe (fun vs H Q E h => ?_) (fun cdv A outer s H vs Q E hr h => ?_)
  · obtain ⟨o, dx, dp, de, ps, es, a, b, x, rfl, _⟩ := h
    rfl
  · refine ⟨_, (pss_one (Vtr.ps_try_cl rfl rfl scSe.nd Vtr.takes_no (tb := fun W => (tRet (tLst (tCons (tFu (spWa C NP) (WE W) (tCons (tVar 0) (tCons (tVar 1) (tCons (tVar 2) tNil)))) tNil)))) (fun W pn xe tk _ => (pss_one (ps_ret (pe_lst (pa_cons (pe_fuX (E := WE W) TWa hr (by rfl) (fun st => passAt tk st) (pa_cons (pv 0) (pa_cons (pv 1) (pa_cons (pv 2) pa_nil)))) pa_nil))))) (Vtr.ClsOk.named (i := 3) rfl rfl ⟨by rfl, by decide, .inl NPe.g⟩ (fun a oe cls d pn hz hf => (pss_one (ps_ret (pe_xf NPe.X NPe.no hz hf (pv 3))))) Vtr.ClsOk.nil))), ?_⟩
    obtain ⟨o, dx, dp, de, ps, es, a, b, x, rfl, N1, RO, hp30, he30, hf, k⟩ := h
    refine ⟨_, rfl, _, rfl, _, rfl, o, dx, dp, de, ps, es, a, b, rfl, N1, RO, hp30, he30, .inl ⟨x, hf, fun d H2 e hd => ⟨true, xm, fun _ a2 na => ?_, (fun z => nomatch z)⟩⟩⟩
    exact ⟨_, rfl, rfl, rfl, d, [("name", _)], _, rfl, hd, rfl, k _ e⟩
theorem ok_iw {f : Addr} {fd : FuncData} (F : FnP K "_law_is_way" sIw f fd) (TWa : Fu P w K mg base (L2.CX P w) 6 "way_from" (spWa C NP)) (TWy : Fu P w K mg base L2.CX0 1 "_law_ways" spWy) (TDu : Fu P w K mg base L2.CX0 2 "_law_due" (spDu K)) (mIs : mg "isinstance" = none) (mList : mg "list" = none) (mTuple : mg "tuple" = none) (mLen : mg "len" = none) :
    FnOk P w K mg base L2.CX0 7 f fd ["_law_net_here", "_law_parts", "_law_first", "_law_second"] (spIw C) := by
  refine F.ok (CX := L2.CX0) scIw (fun vs H Q E h => ?_) (fun cdv A outer s H vs Q E hr h => ?_)
  · obtain ⟨o, dx, dp, de, q, pa, pb, ps, es, rs, a, b, rfl, _⟩ := h
    rfl
  · refine ⟨_, (pss_cons (ps_set (i := 4) scIw.nd rfl (by first | exact Or.inl rfl | exact Or.inr rfl) (pe_fuN TWa hr (by rfl) (pa_cons (pv 0) (pa_cons (pv 2) (pa_cons (pv 3) pa_nil)))))
      (pss_cons (ps_set (i := 5) scIw.nd rfl (by first | exact Or.inl rfl | exact Or.inr rfl) (pe_fu TWy hr (by rfl) (pa_cons (pv 1) (pa_cons (pv 2) pa_nil))))
      (pss_cons (ps_if (PW.pt (pw_or (pt_cmp (pc_dnotin (Nat.lt_of_le_of_lt (Nat.add_le_add_left (show 1 ≤ 64 by decide) _) hr.units) (pv 3) (pv 5))) (pw_or1 (pt_cmpR op_eq (pv 2) (pv 3) (nomark _))))) (pss_one (ps_ret (pe_cmpR (op_eqD hr.units) (pv 4) (pe_dget1 (Nat.lt_of_le_of_lt (Nat.add_le_add_left (show 1 ≤ 64 by decide) _) hr.units) (pv 5) (pv 3) (by constructor <;> rfl)) (nomark _)))) pss_nil)
      (pss_cons (ps_if (PW.pt (pw_or (pt_not (pt_val (pe_callB call_isi (by rfl) mIs boot_isinstance (pa_cons (pv 4) (pa_cons (pe_bltn (v := V.ty "list") (by rfl) mList boot_list rfl) pa_nil))))) (pw_or1 (pt_cmpR op_ne (pe_callB call_len (by rfl) mLen boot_len (pa_cons (pv 4) pa_nil)) (pe_callB call_len (by rfl) mLen boot_len (pa_cons (pe_dget (Nat.lt_of_le_of_lt (Nat.add_le_add_left (show 1 ≤ 64 by decide) _) hr.units) (pv 5) (pv 3) (fun _ _ => rfl)) pa_nil)) (nomark _))))) (pss_one (ps_ret pe_bl)) pss_nil)
      (pss_cons (ps_set (i := 6) scIw.nd rfl (by first | exact Or.inl rfl | exact Or.inr rfl) (pe_fu TDu hr (by rfl) (pa_cons (pv 1) (pa_cons (pv 4) pa_nil))))
      (pss_one (ps_ret (pe_and (pe_callB call_isi (by rfl) mIs boot_isinstance (pa_cons (pv 6) (pa_cons (pe_bltn (v := V.ty "tuple") (by rfl) mTuple boot_tuple rfl) pa_nil))) (pe_one (pe_cmpR (op_eqD hr.units) (pe_tup (pa_cons (pe_ix ix_tup (pv 6) pe_int fun _ _ => rfl) (pa_cons (pe_ix ix_tup (pv 6) (pe_un un_neg pe_int) fun _ _ => rfl) pa_nil))) (pe_tup (pa_cons (pv 2) (pa_cons (pv 3) pa_nil))) (nomark _))))))))))), ?_⟩
    obtain ⟨o, dx, dp, de, q, pa, pb, ps, es, rs, a, b, rfl, N1, hbe, T, NA, RO, hp30, hr30, ha, hb, k⟩ := h
    have hel : es.length ≤ 30 := by rw [bare_len hbe]; exact hr30
    have nd : (laneNames rs).Nodup := RO.1.2
    refine s_seq ?_
    refine ⟨_, rfl, _, rfl, _, rfl, o, dx, dp, de, ps, es, a, b, rfl, N1, rows_bare hbe RO, hp30, hel, .inr ⟨ha, hb, fun hnr H1 e1 => ?_, fun hre l ls H1 e1 hl hbest hl30 => ?_⟩⟩
    · dsimp only
      refine s_seq ?_
      refine ⟨_, rfl, _, rfl, q, pa, pb, ps, rs, a, rfl, T.mono e1, RO, hp30, hr30, ha, fun d xs H2 e2 nd2 W => ?_⟩
      rw [hbe] at hnr
      have hno : (valV (dWays xs) (Sum.inr (tx b) : Key)) = none := ways_none fun z => hnr ((W.re b).mp z)
      dsimp only
      refine s_seq ?_
      refine s_if (et_or (et_notin (o := valV (dWays xs) (Sum.inr (tx b) : Key)) (ev_var rfl) (ev_var rfl) (DGet.k (k := (Sum.inr (tx b) : Key)) W.dct)) (fun _ => et_test (ev_op (ev_var rfl) (ev_var rfl) (rv_eq rfl)))) (fun hc H3 e3 => ?_) (fun hc H3 e3 => ?_)
      · refine s_ret (ev_same (K := K) (d := .none) (ed_ev (ev_var (v := V.non) rfl) .non) (fun H4 e4 Q4 q4 => ⟨_, rfl, d, rfl, .inl ⟨_, .inl (e4 _ _ (e3 _ _ W.dct))⟩, _, rfl, _, DGet.k (k := (Sum.inr (tx b) : Key)) (e4 _ _ (e3 _ _ W.dct)), q4 _ H4 (Ex.refl _) (by rw [hno]; exact .non)⟩) rfl) fun H4 e4 => k H4 (e1.trans (e2.trans (e3.trans e4)))
      · rw [hno] at hc
        cases hc
    · dsimp only
      refine s_seq ?_
      refine ⟨_, rfl, _, rfl, q, pa, pb, ps, rs, a, rfl, T.mono e1, RO, hp30, hr30, ha, fun d xs H2 e2 nd2 W => ?_⟩
      rw [hbe] at hre hbest
      obtain ⟨y, hy, hyb, hyv⟩ := ways_get ((W.re b).mpr hre)
      have hyw := W.way y hy
      have hybest := W.best y hy
      rw [hyb] at hybest
      have hlen : ls.length = y.2.2.length := hbest.len hybest
      have hl2 := e2 _ _ hl
      obtain ⟨wn, ww, wl⟩ := wk_posts RO hbest.wk
      have oksL : Oks ls := oks_nam fun x hx => by
        have := wn x hx
        rw [names_rows] at this
        exact RO.1.1 x this
      dsimp only
      refine s_seq ?_
      refine s_if (et_or (et_notin (o := valV (dWays xs) (Sum.inr (tx b) : Key)) (ev_var rfl) (ev_var rfl) (DGet.k (k := (Sum.inr (tx b) : Key)) W.dct)) (fun _ => et_test (ev_op (ev_var rfl) (ev_var rfl) (rv_eq rfl)))) (fun hc H3 e3 => ?_) (fun hc H3 e3 => ?_)
      · rw [hyv] at hc
        have hab : a = b := tx_inj (by have := of_decide_eq_true (show decide (V.str (tx a) = V.str (tx b)) = true from hc); injection this)
        have h0 : ls = [] := by
          have := hbest.le [] (by rw [← hab]; exact .nil)
          exact List.length_eq_zero_iff.mp (by simpa using this)
        have hy0 : y.2.2 = [] := List.length_eq_zero_iff.mp (by rw [← hlen, h0]; rfl)
        refine s_ret (ev_same (K := K) (d := wls []) (ed_ev (ev_var rfl) (dp_l (sq_of (by rw [← h0]; exact e3 _ _ hl2)))) (fun H4 e4 Q4 q4 => ⟨_, rfl, d, rfl, .inl ⟨_, .inl (e4 _ _ (e3 _ _ W.dct))⟩, _, rfl, _, DGet.k (k := (Sum.inr (tx b) : Key)) (e4 _ _ (e3 _ _ W.dct)), q4 _ H4 (Ex.refl _) (by rw [hyv]; exact dp_l (sq_of (by rw [← hy0]; exact e4 _ _ (e3 _ _ hyw))))⟩) (sh_l oks_nil)) fun H4 e4 => k H4 (e1.trans (e2.trans (e3.trans e4)))
      · rw [hyv] at hc
        have hab : a ≠ b := fun z => by
          rw [z] at hc
          have : (false || decide (V.str (tx b) = V.str (tx b))) = false := hc
          rw [decide_eq_true rfl] at this
          cases this
        have hne : ls ≠ [] := fun z => by
          rw [z] at wl
          exact hab (Option.some.inj wl)
        have W3 := W.mono e3
        have hl3 := e3 _ _ hl2
        have hyw3 := e3 _ _ hyw
        dsimp only
        refine s_seq ?_
        refine s_if (b := false) (et_is (et_or (et_not (et_test (ev_isi (v := V.ref l) (n := "list") (t := .type "list") (b := true) (ev_var rfl) (fun H4 e4 => .base (.lst (e4 _ _ hl3))) (by rfl)))) (fun _ => et_test (ev_op (ev_lenA (ev_var rfl) (sq_of hl3)) (ev_lenA (ev_dget (ev_var rfl) (ev_var rfl) (by rw [← hyv]; exact DGet.k (k := (Sum.inr (tx b) : Key)) W3.dct)) (sq_of hyw3)) (rv_ne rfl)))) (by
          rw [vtx_len, vtx_len, hlen, decide_eq_true rfl]
          rfl)) (fun hc2 => nomatch hc2) (fun _ H4 e4 => ?_)
        have e24 := e3.trans e4
        have e14 := e1.trans (e2.trans e24)
        obtain ⟨l0, tl0, hls⟩ := List.exists_cons_of_ne_nil hne
        have hst0 : stE (bare rs) l0 = a := by
          have := ww 0 l0 (by rw [hls]; rfl)
          exact Option.some.inj this
        have hwp : wposts (bare rs) ls = a :: ls.map (enE (bare rs)) := by
          unfold wposts
          rw [hls]
          show stE (bare rs) l0 :: _ = _
          rw [hst0]
        dsimp only
        refine s_seq ?_
        refine ⟨_, rfl, _, rfl, q, pa, pb, l, ps, rs, ls, wd (wposts (bare rs) ls), rfl, T.mono e14, nd, by omega, e4 _ _ hl3, oksL, by omega, .ok hne wn (fun i x hx => by rw [hwp]; exact ww i x hx), fun v H5 e5 hv hvt => ?_⟩
        obtain ⟨pt, rfl, hpt⟩ := hvt rfl
        dsimp only
        have hw0 : (wposts (bare rs) ls)[0]? = some a := by rw [hwp]; rfl
        have hlast : atI (vtx (wposts (bare rs) ls)) (-1) = some (V.str (tx b)) := by
          have h1 : wposts (bare rs) ls = (wposts (bare rs) ls).take ls.length ++ [b] := by
            have h2 : (wposts (bare rs) ls).take (ls.length + 1) = wposts (bare rs) ls := List.take_of_length_le (by rw [wposts_len]; exact Nat.le_refl _)
            conv => lhs; rw [← h2]
            rw [List.take_succ, hwp, wl]
            rfl
          rw [h1, vtx_app]
          exact atI_last _ _
        have shab : SeqAt.shaped (wd [a, b]) = true := sh_w (oks_nam fun x hx => by
          rcases List.mem_cons.mp hx with rfl | hx
          · exact NA.1 _ ha
          · rw [List.mem_singleton.mp hx]
            exact NA.1 _ hb)
        refine s_ret (v := .bl true) ?_ fun H6 e6 => k H6 (e14.trans (e5.trans e6))
        refine ev_is (ev_andV (ev_isi (v := V.ref pt) (n := "tuple") (t := .type "tuple") (b := true) (ev_var rfl) (fun H6 e6 => .base (.tup (e6 _ _ hpt))) (by rfl)) (fun _ => ev_same (d := wd [a, b]) (ed_tup (eda_cons (ed_str (s := a) (ev_op (ev_var rfl) ev_c (rv_ixT (st_of hpt) (at_of (j := 0) rfl (vtx_at hw0))))) (eda_cons (ed_str (s := b) (ev_op (ev_var rfl) (ev_un ev_c ru_neg) (rv_ixT (st_of hpt) hlast))) eda_nil)) (by show 2 ≤ 100000; decide)) (ed_tup (eda_cons (ed_str (ev_var rfl)) (eda_cons (ed_str (ev_var rfl)) eda_nil)) (by show 2 ≤ 100000; decide)) shab)) rfl
end
end K05

set_option Elab.async false
set_option linter.all false
set_option maxRecDepth 100000
set_option maxHeartbeats 4000000
/-! The law. -/
namespace K05
open PySem PySem.Spec PyProof.Rows L2 Vl Evl Vp Vr Vx2 Vlk Vda Vc Ve Vrc Ven Vwy
theorem ints_tx {xs : List (List Nat)} {a b c : Int} : HO.lst (vtx xs) ≠ HO.lst [.int a, .int b, .int c] := fun z => by
  injection z with z
  cases xs with
  | nil => cases z
  | cons x r =>
    unfold vtx at z
    rw [List.map_cons] at z
    injection z with z1 _
    cases z1
theorem ints_refs {xs : List Row} {a b c : Int} : HO.lst (refs xs) ≠ HO.lst [.int a, .int b, .int c] := fun z => by
  injection z with z
  cases xs with
  | nil => cases z
  | cons x r =>
    unfold refs at z
    rw [List.map_cons] at z
    injection z with z1 _
    cases z1
theorem sh_s {l : List Nat} (h : ∀ c ∈ l, c < 1114112) : SeqAt.shaped (.str (tx l)) = true := shaped_of (by
  have h1 : (PyData.canLay0 (.str (tx l)) && PyData.canLayAll0 []) = true := lay_ok [l] (oks_cons h oks_nil)
  exact (Bool.and_eq_true_iff.mp h1).1) (by show 0 ≤ 64; omega)
theorem oks_posts {ps : List (List Nat)} {rs : List Row} (NA : Names ps) (RO : RowsOk ps rs) (ls : List (List Nat)) : Oks (wposts (bare rs) ls) := by
  have key : ∀ l, (∀ c ∈ stE (bare rs) l, c < 1114112) ∧ (∀ c ∈ enE (bare rs) l, c < 1114112) := fun l => by
    unfold stE enE
    cases hf : (bare rs).find? (fun t => decide (t.1 = l)) with
    | none => exact ⟨(fun _ h => nomatch h), (fun _ h => nomatch h)⟩
    | some t =>
      have hm := List.mem_of_find?_eq_some hf
      unfold bare at hm
      obtain ⟨r, hr, rfl⟩ := List.mem_map.mp hm
      exact ⟨ok_nam (NA.1 _ (RO.2 r hr).1), ok_nam (NA.1 _ (RO.2 r hr).2)⟩
  intro l hl
  unfold wposts at hl
  rcases List.mem_cons.mp hl with rfl | hl
  · exact (key _).1
  · obtain ⟨x, _, rfl⟩ := List.mem_map.mp hl
    exact (key x).2
theorem res_sh {ps : List (List Nat)} {rs : List Row} {ls : List (List Nat)} {d : PyData} (NA : Names ps) (RO : RowsOk ps rs) (ok : Oks ls) (h : ResD (bare rs) ls d) : SeqAt.shaped d = true := by
  cases h with
  | empty _ => decide +kernel
  | lane l _ hf =>
    obtain ⟨i, hi, _⟩ := hf
    have h1 : (PyData.canLay0 (.str (tx l)) && PyData.canLayAll0 []) = true := lay_ok [l] (oks_cons (ok l (List.mem_of_getElem? hi)) oks_nil)
    refine shaped_of ?_ (by show 1 ≤ 64; omega)
    show (PyData.canLay0 (.str (Str.ofString "lane")) && (PyData.canLay0 (.str (tx l)) && PyData.canLayAll0 [])) = true
    rw [h1]
    decide +kernel
  | walk k _ _ _ => exact shaped_of (by show (PyData.canLay0 (.str (Str.ofString "walk")) && true) = true; decide +kernel) (by show 1 ≤ 64; omega)
  | ok _ _ _ => exact sh_w (oks_posts NA RO ls)
abbrev sLw : Stmt := top 41
abbrev nLw : List Str := ["_law_script", "_law_pool_here", "_law_parts", "_law_net_here", "_law_k", "_law_line_here", "_law_due_here", "_law_first", "_law_second", "_law_new", "_law_far", "_law_post", "_law_row"]
def spLaw (K : PySem.W.Frag) : Sp := fun vs H Q _ => ∃ (l : Addr) (ns : List Int), vs = [.ref l] ∧ SqL K H l (ns.map V.int) ∧ ∀ H', Q (.bl true) H'
section
variable {P : Program} {w : World} {K : PySem.W.Frag} {mg : Str → Option Value} {base : Heap} {C BN NT NP NL : Addr}
theorem scLw : FnScope nLw ["_law_script"] (defScope sLw) := ⟨rfl, rfl, rfl, by decide +kernel, rfl, by decide +kernel, by decide +kernel⟩
theorem ok_law {f : Addr} {fd : FuncData} (F : FnP K "law" sLw f fd) (N : ND P w K mg base C BN NT NP NL) (TCe : Fu P w K mg base L2.CX0 1 "_law_cell" (spCell K)) (TPo : Fu P w K mg base L2.CX0 1 "_law_pool" spPool) (TNt : Fu P w K mg base L2.CX0 3 "_law_net" spNet) (TBu : Fu P w K mg base L2.CX0 5 "_law_built" (spBu C)) (TLi : Fu P w K mg base L2.CX0 3 "_law_line" spLi) (TDu : Fu P w K mg base L2.CX0 2 "_law_due" (spDu K)) (TTo : Fu P w K mg base L2.CX0 6 "_law_told" (spTo K C)) (TIw : Fu P w K mg base L2.CX0 7 "_law_is_way" (spIw C)) (TSg : Fu P w K mg base L2.CX0 2 "_law_stranger" spStrg) (TSt : Fu P w K mg base L2.CX0 7 "_law_strange" (spSt C)) (mTuple : mg "tuple" = none) (mLen : mg "len" = none) (mRange : mg "range" = none) :
    FnOk P w K mg base L2.CX0 8 f fd ["_law_script"] (spLaw K) := by
  refine F.ok (CX := L2.CX0) scLw (fun vs H Q E h => ?_) (fun cdv A outer s H vs Q E hr h => ?_)
  · obtain ⟨l, ns, rfl, _⟩ := h
    rfl
  · refine ⟨_, (pss_cons (ps_set (i := 1) scLw.nd rfl (by first | exact Or.inl rfl | exact Or.inr rfl) (pe_fu TPo hr (by rfl) (pa_cons (pe_fu TCe hr (by rfl) (pa_cons (pv 0) (pa_cons pe_int pa_nil))) pa_nil)))
      (pss_cons (ps_set (i := 2) scLw.nd rfl (by first | exact Or.inl rfl | exact Or.inr rfl) (pe_fu TNt hr (by rfl) (pa_cons (pv 1) (pa_cons pe_int (pa_cons pe_int pa_nil)))))
      (pss_cons (ps_set (i := 3) scLw.nd rfl (by first | exact Or.inl rfl | exact Or.inr rfl) (pe_fu TBu hr (by rfl) (pa_cons (pv 2) pa_nil)))
      (pss_cons (ps_for (passes_of rfl) rfl (pi_range1 (by rfl) mRange (pa_cons pe_int pa_nil)) (pg_name (i := 4) scLw.nd rfl (by first | exact Or.inl rfl | exact Or.inr rfl)) (pss_cons (ps_set (i := 1) scLw.nd rfl (by first | exact Or.inl rfl | exact Or.inr rfl) (pe_fu TPo hr (by rfl) (pa_cons (pe_op op_add (pe_fu TCe hr (by rfl) (pa_cons (pv 0) (pa_cons (pe_op op_add pe_int (pv 4)) pa_nil))) (pv 4)) pa_nil)))
      (pss_cons (ps_set (i := 5) scLw.nd rfl (by first | exact Or.inl rfl | exact Or.inr rfl) (pe_fu TLi hr (by rfl) (pa_cons (pv 1) (pa_cons (pv 2) pa_nil))))
      (pss_cons (ps_set (i := 6) scLw.nd rfl (by first | exact Or.inl rfl | exact Or.inr rfl) (pe_fu TDu hr (by rfl) (pa_cons (pv 2) (pa_cons (pv 5) pa_nil))))
      (pss_one (ps_if (PW.pt (pw_or (pt_cmpR (op_neD hr.units) (pe_fu TTo hr (by rfl) (pa_cons (pv 3) (pa_cons (pv 5) pa_nil))) (pv 6) (nomark _)) (pw_or1 (pt_cmpR (op_neD hr.units) (pe_fu TTo hr (by rfl) (pa_cons (pv 3) (pa_cons (pe_callTy call_tuple_of (by rfl) mTuple boot_tuple (pa_cons (pv 5) pa_nil)) pa_nil))) (pv 6) (nomark _))))) (pss_one (ps_ret pe_bl)) pss_nil))))))
      (pss_cons (ps_for (passes_of rfl) rfl (pi_list (pe_ix ix_list (pv 2) pe_int fun _ _ => rfl)) (pg_name (i := 7) scLw.nd rfl (by first | exact Or.inl rfl | exact Or.inr rfl)) (pss_one (ps_for (passes_of rfl) rfl (pi_list (pe_ix ix_list (pv 2) pe_int fun _ _ => rfl)) (pg_name (i := 8) scLw.nd rfl (by first | exact Or.inl rfl | exact Or.inr rfl)) (pss_one (ps_if (pt_not (pt_val (pe_fu TIw hr (by rfl) (pa_cons (pv 3) (pa_cons (pv 2) (pa_cons (pv 7) (pa_cons (pv 8) pa_nil))))))) (pss_one (ps_ret pe_bl)) pss_nil)))))
      (pss_cons (ps_set (i := 9) scLw.nd rfl (by first | exact Or.inl rfl | exact Or.inr rfl) (pe_fu TSg hr (by rfl) (pa_cons (pv 1) (pa_cons (pe_ix ix_list (pv 2) pe_int fun _ _ => rfl) pa_nil))))
      (pss_cons (ps_set (i := 10) scLw.nd rfl (by first | exact Or.inl rfl | exact Or.inr rfl) (pe_fu TSg hr (by rfl) (pa_cons (pv 1) (pa_cons (pe_op op_cat (pe_ix ix_list (pv 2) pe_int fun _ _ => rfl) (pe_lst (pa_cons (pv 9) pa_nil))) pa_nil))))
      (pss_cons (ps_for (passes_of rfl) rfl (pi_list (pe_op op_cat (pe_slice sl_list (pe_ix ix_list (pv 2) pe_int fun _ _ => rfl) po_none (po_some pe_int)) (pe_lst (pa_cons (pv 10) (pa_cons (pv 9) pa_nil))))) (pg_name (i := 11) scLw.nd rfl (by first | exact Or.inl rfl | exact Or.inr rfl)) (pss_one (ps_if (PW.pt (pw_or (pt_cmpR (op_neD hr.units) (pe_fu TSt hr (by rfl) (pa_cons (pv 3) (pa_cons (pv 9) (pa_cons (pv 11) pa_nil)))) (pv 9) (nomark _)) (pw_or1 (PW.pt (pw_and (pt_cmpR op_ne (pv 11) (pv 10) (nomark _)) (pw_and1 (pt_cmpR (op_neD hr.units) (pe_fu TSt hr (by rfl) (pa_cons (pv 3) (pa_cons (pv 11) (pa_cons (pv 9) pa_nil)))) (pv 9) (nomark _)))))))) (pss_one (ps_ret pe_bl)) pss_nil)))
      (pss_one (ps_ret (pe_cmpR (op_eqD hr.units) (pe_pr (pv 3) N.cls N.lanes hr) (pe_callTy call_tuple_of (by rfl) mTuple boot_tuple (pa_cons (pe_lc (own := [("_law_row", 12)]) (g := (gName 12)) (tt := tYes) (te := (tOp (rIxT K) (tVar 12) (tC (.int 0)))) rfl scLw.nd (pi_list (pe_ix ix_list (pv 2) pe_int fun _ _ => rfl)) (blkOk_by (own := [("_law_row", 12)]) (N := nLw) (sc := defScope sLw) (by decide +kernel)) (fun _ _ _ _ _ => (pg_name (i := 12) scLw.nd rfl (by first | exact Or.inl rfl | exact Or.inr rfl))) (fun _ _ _ _ _ => pts_nil) (fun _ _ _ _ _ => (pe_ix ix_tup (pv 12) pe_int fun _ _ => rfl))) pa_nil)) (nomark _)))))))))))), ?_⟩
    obtain ⟨l, ns, rfl, hS, k⟩ := h
    refine s_seq ?_
    refine ⟨_, rfl, l, ns, 0, rfl, hS, cellOf ns 0, rfl, fun p1 H1 np1 e1 hp1 => ?_⟩
    have P1 : Pl H p1 0 H1 := ⟨np1, e1, hp1⟩
    refine s_seq ?_
    refine ⟨_, rfl, p1, 6, 10, H, 0, rfl, by omega, by omega, P1, by omega, fun d a b ps rs Hb nd P2 hd ha hb hab NA lp lr RO hr0 => ?_⟩
    have T : Told Hb d a b ps rs := ⟨hd, ha, hb, hr0⟩
    refine s_seq ?_
    refine ⟨_, rfl, d, a, b, ps, rs, rfl, T, NA, RO, by omega, by omega, fun o dx dp de es H3 e3 N3 hbe => ?_⟩
    have hlen : es.length = rs.length := bare_len hbe
    have ROe := rows_bare hbe RO
    have nde : (laneNames es).Nodup := ROe.1.2
    have P3 := P2.grow e3
    have T3 := T.mono e3
    obtain ⟨pc1, pc2, pc3, hpc, _⟩ := P3.at_
    have start : ∃ (p : Addr) (m : Nat) (Bk : Hp), Pl Bk p m H3 ∧ m ≤ 400 ∧ Told Bk d a b ps rs ∧ NetAt C Bk o dx dp de ps es ∧ SqL K Bk l (ns.map V.int) ∧ p = p1 := by
      refine ⟨p1, 400, Wo H3 p1, P3.re.cnt (by omega), Nat.le_refl _, ⟨wo_at T3.at_ (ne_kind T3.at_ hpc (by intro z; injection z with z; cases z)), wo_at T3.posts (ne_kind T3.posts hpc ints_tx), wo_at T3.rows (ne_kind T3.rows hpc ints_refs), fun r hr => wo_at (T3.row r hr) (ne_kind (T3.row r hr) hpc (by intro z; cases z))⟩,
        ⟨wo_at N3.at_ (ne_kind N3.at_ hpc (by intro z; cases z)), wo_at N3.posts (ne_kind N3.posts hpc (by intro z; cases z)), wo_at N3.ends (ne_kind N3.ends hpc (by intro z; cases z)), fun e he => wo_at (N3.rows e he) (ne_kind (N3.rows e he) hpc (by intro z; cases z))⟩, ex_l P3.wo hS, rfl⟩
    dsimp only
    refine s_seq ?_
    refine s_forR1 (n := 6) (ea_cons ev_c ea_nil) (by decide) (fun i st H' => ∃ (p : Addr) (m : Nat) (Bk : Hp), ∃ t4 t5 t6, st = [some (.ref l), some (.ref p), some (.ref d), some (.ref o), t4, t5, t6, none, none, none, none, none, none] ∧ Pl Bk p m H' ∧ m ≤ 400 ∧ Told Bk d a b ps rs ∧ NetAt C Bk o dx dp de ps es ∧ SqL K Bk l (ns.map V.int))
      (fun H4 e4 => by
        obtain ⟨p, m, Bk, h1, h2, h3, h4, h5, rfl⟩ := start
        exact ⟨p, m, Bk, none, none, none, rfl, h1.grow e4, h2, h3, h4, h5⟩) ?_ ?_
    · rintro i st H4 hi ⟨p0, m0, B0, t4, t5, t6, rfl, P4, hm4, T4, N4, S4⟩
      have T4' := T4.mono P4.ex
      have N4' := N4.mono P4.ex
      have S4' := ex_l P4.ex S4
      refine s_seq ?_
      refine ⟨_, rfl, _, rfl, 1, (i : Int), rfl, rfl, l, ns, 1 + i, rfl, S4', ?_⟩
      refine ⟨_, rfl, cellOf ns (1 + i), (i : Int), rfl, rfl, _, rfl, fun p H5 np e5 hp => ?_⟩
      have P5 : Pl H4 p 0 H5 := ⟨np, e5, hp⟩
      dsimp only
      refine s_seq ?_
      refine ⟨_, rfl, _, rfl, p, d, a, b, ps, rs, H4, rfl, P5, T4', NA, RO, by omega, fun ln ls m H6 P6 hm6 hln nmL hl50 => ?_⟩
      have oksL : Oks ls := oks_nam nmL
      obtain ⟨dd, hres⟩ := res_all (bare rs) ls
      have hsh := res_sh NA RO oksL hres
      dsimp only
      refine s_seq ?_
      refine ⟨_, rfl, _, rfl, d, a, b, ln, ps, rs, ls, dd, rfl, T4'.mono P6.ex, RO.1.2, by omega, hln, oksL, by omega, hres, fun v H7 e7 hv _ => ?_⟩
      have P7 := P6.grow e7
      have N7 := N4'.mono P7.ex
      have hln7 := e7 _ _ hln
      rw [← hbe] at hres
      dsimp only
      refine s_if (b := false) (et_is (et_or (et_test (ev_unlike (d := dd) (ed_fu (ea_cons (ev_var rfl) (ea_cons (ev_var rfl) ea_nil)) fun H8 e8 Q8 q8 E8 => ⟨o, dx, dp, de, ln, ps, es, ls, dd, rfl, N7.mono e8, nde, .inl (sq_of (e8 _ _ hln7)), by omega, hres, fun v8 H9 e9 hv9 => q8 v8 H9 e9 hv9⟩) (ed_ev (ev_var rfl) hv) hsh))
        (fun _ => et_test (ev_unlike (d := dd) (fun H8 e8 Q8 q8 => ⟨_, rfl, _, rfl, ln, _, rfl, .inl ⟨sq_of (e8 _ _ hln7), fun tt ntt => ⟨o, dx, dp, de, tt, ps, es, ls, dd, rfl, N7.mono (e8.trans (Ex.new ntt)), nde, .inr (st_of upd_same), by omega, hres, fun v8 H9 e9 hv9 => q8 v8 H9 ((Ex.new ntt).trans e9) hv9⟩⟩⟩) (ed_ev (ev_var rfl) hv) hsh))) rfl) (fun hc => nomatch hc) (fun _ H8 e8 => ?_)
      exact ⟨p, m, H4, _, _, _, rfl, P7.grow e8, by omega, T4', N4', S4'⟩
    rintro st H4 ⟨p, m, Bk, t4, t5, t6, rfl, P4, hm4, TB, NB, _⟩
    have T4 := TB.mono P4.ex
    dsimp only
    refine s_seq ?_
    refine s_forL (a := a) (ev_ixA (i := 0) (ev_var rfl) (sq_of T4.at_) rfl) (sq_of T4.posts) (fun i st H' => ∃ t7 t8, st = [some (.ref l), some (.ref p), some (.ref d), some (.ref o), t4, t5, t6, t7, t8, none, none, none, none] ∧ Pl Bk p m H') (fun H5 e5 => ⟨none, none, rfl, P4.grow e5⟩) (fun i st H' _ ⟨_, _, _, P⟩ => sq_of (P.ex _ _ TB.posts)) ?_ ?_
    · rintro i x st H5 hx ⟨t7, t8, rfl, P5⟩
      unfold vtx at hx
      rw [List.getElem?_map] at hx
      obtain ⟨u, hu, rfl⟩ := Option.map_eq_some_iff.mp hx
      have hum := List.mem_of_getElem? hu
      have T5 := TB.mono P5.ex
      show tFor _ _ _ _ [some (.ref l), some (.ref p), some (.ref d), some (.ref o), t4, t5, t6, some (.str (tx u)), t8, none, none, none, none] H5
      refine s_forL (a := a) (ev_ixA (i := 0) (ev_var rfl) (sq_of T5.at_) rfl) (sq_of T5.posts) (fun i st H' => ∃ t8, st = [some (.ref l), some (.ref p), some (.ref d), some (.ref o), t4, t5, t6, some (.str (tx u)), t8, none, none, none, none] ∧ Pl Bk p m H') (fun H6 e6 => ⟨_, rfl, P5.grow e6⟩) (fun i st H' _ ⟨_, _, P⟩ => sq_of (P.ex _ _ TB.posts)) ?_ ?_
      · rintro i2 x st H6 hx ⟨t8, rfl, P6⟩
        unfold vtx at hx
        rw [List.getElem?_map] at hx
        obtain ⟨v, hv, rfl⟩ := Option.map_eq_some_iff.mp hx
        refine ⟨_, rfl, _, rfl, _, rfl, _, rfl, o, dx, dp, de, d, a, b, ps, es, rs, u, v, rfl, NB.mono P6.ex, hbe, TB.mono P6.ex, NA, RO, by omega, by omega, hum, List.mem_of_getElem? hv, fun H7 e7 => ⟨true, rfl, ?_⟩⟩
        refine if_f (by decide) ?_
        exact ⟨_, rfl, P6.grow e7⟩
      · rintro st H6 ⟨t8, rfl, P6⟩
        exact ⟨_, _, rfl, P6⟩
    rintro st H5 ⟨t7, t8, rfl, P5⟩
    have T5 := TB.mono P5.ex
    dsimp only
    refine s_seq ?_
    refine ⟨_, rfl, ⟨_, rfl, d, _, 0, .ref a, rfl, rfl, sq_of T5.at_, rfl, p, a, ps, Bk, m, rfl, P5, by omega, TB.posts, NA.1, by omega, fun nw H6 P6 nmn hnn => ?_⟩⟩
    have T6 := TB.mono P6.ex
    dsimp only
    refine s_seq ?_
    refine ⟨_, rfl, ⟨_, rfl, d, _, 0, .ref a, rfl, rfl, sq_of T6.at_, rfl, _, rfl, by show 1 ≤ sizeLine; decide, fun n1 nn1 => ⟨a, n1, vtx ps, [.str (tx nw)], rfl, rfl, (Ex.new nn1) _ _ T6.posts, upd_same, ?_, fun n2 nn2 => ?_⟩⟩⟩
    · rw [vtx_len]
      exact sz_of (by show _ + 1 ≤ _; omega)
    have P8 := (P6.new nn1).new (o := HO.lst (vtx ps ++ [.str (tx nw)])) nn2
    have n2p : n2 ≠ p := (P6.new nn1).ne nn2
    have hn2 := upd_same (H := upd H6 n1 (HO.lst [V.str (tx nw)])) (a := n2) (o := HO.lst (vtx ps ++ [V.str (tx nw)]))
    generalize upd (upd H6 n1 (HO.lst [V.str (tx nw)])) n2 (HO.lst (vtx ps ++ [V.str (tx nw)])) = H8 at P8 hn2 ⊢
    refine ⟨p, n2, ps ++ [nw], Wo H8 p, _, rfl, P8.re, by omega, wo_at (by rw [vtx_app]; exact hn2) n2p, fun x hx => ?_, by rw [List.length_append]; show _ + 1 ≤ _; omega, fun far H9 P9' nmf hnf => ?_⟩
    · rcases List.mem_append.mp hx with hx | hx
      · exact NA.1 x hx
      · rw [List.mem_singleton.mp hx]
        exact nmn
    have P9 := P8.back P9'
    have T9 := TB.mono P9.ex
    dsimp only
    refine s_seq ?_
    have key := el_cat2 (σ := [some (.ref l), some (.ref p), some (.ref d), some (.ref o), t4, t5, t6, t7, t8, some (.str (tx nw)), some (.str (tx far)), none, none]) (el_sl (lo := none) (hi := some ((2 : Nat) : Int)) (K := K) (ev_ixA (K := K) (te := tVar 2) (i := 0) (ev_var (i := 2) rfl) (sq_of T9.at_) rfl) eo_none (eo_some (te := tC (.int ((2 : Nat) : Int))) ev_c) (sq_of T9.posts)) (el_lst (ea_cons (ev_var (i := 10) (v := V.str (tx far)) rfl) (ea_cons (ev_var (i := 9) (v := V.str (tx nw)) rfl) ea_nil)) (by show 2 ≤ 100000; decide)) (by
      have h3 := cutV_length (vtx ps) none (some ((2 : Nat) : Int))
      rw [vtx_len] at h3
      show _ + 2 ≤ _
      omega)
    rw [cutV0] at key
    have hxm : ∀ x ∈ (vtx ps).take 2 ++ [V.str (tx far), V.str (tx nw)], ∃ u, x = V.str (tx u) ∧ (u ∈ ps ∨ u = far ∨ u = nw) := fun x hx => by
      rcases List.mem_append.mp hx with hx | hx
      · have h1 := List.mem_of_mem_take hx
        unfold vtx at h1
        obtain ⟨u, hu, rfl⟩ := List.mem_map.mp h1
        exact ⟨u, rfl, .inl hu⟩
      · rcases List.mem_cons.mp hx with h | h
        · exact ⟨far, h, .inr (.inl rfl)⟩
        · exact ⟨nw, List.mem_singleton.mp h, .inr (.inr rfl)⟩
    have f0 : ∀ u, FirstOut [nw, u] ps nw := fun u => ⟨0, rfl, hnn, fun j y hj => absurd hj (Nat.not_lt_zero j)⟩
    have f1 : ∀ u, u ∈ ps ∨ u = nw → FirstOut [u, nw] ps nw := fun u hu => by
      rcases hu with hu | rfl
      · refine ⟨1, rfl, hnn, fun j y hj hy => ?_⟩
        have : j = 0 := by omega
        rw [this] at hy
        rw [← Option.some.inj hy]
        exact hu
      · exact f0 _
    have shn : SeqAt.shaped (.str (tx nw)) = true := sh_s (ok_nam nmn)
    refine s_forNL key (fun ad i st H' => ∃ t11, st = [some (.ref l), some (.ref p), some (.ref d), some (.ref o), t4, t5, t6, t7, t8, some (.str (tx nw)), some (.str (tx far)), t11, none] ∧ Ex H9 H' ∧ H' ad = some (.lst ((vtx ps).take 2 ++ [V.str (tx far), V.str (tx nw)])))
      (fun ad H10 na e10 had => ⟨none, rfl, e10, had⟩) (fun ad i st H' _ ⟨_, _, _, h⟩ => sq_of h) ?_ ?_
    · rintro ad i x st H10 hx ⟨t11, rfl, e10, had⟩
      obtain ⟨u, rfl, hu⟩ := hxm x (List.mem_of_getElem? hx)
      have N10 := NB.mono (P9.ex.trans e10)
      show tIfS _ _ _ _ [some (.ref l), some (.ref p), some (.ref d), some (.ref o), t4, t5, t6, t7, t8, some (.str (tx nw)), some (.str (tx far)), some (.str (tx u)), none] H10
      refine s_if (b := false) (et_is (b := false) (et_or (et_test (ev_unlike (d := .str (tx nw)) (ed_str (ev_fu (ea_cons (ev_var rfl) (ea_cons (ev_var rfl) (ea_cons (ev_var rfl) ea_nil))) fun H11 e11 Q11 q11 E11 => ⟨o, dx, dp, de, ps, es, nw, u, nw, rfl, N10.mono e11, ROe, by omega, by omega, f0 u, fun H12 e12 => q11 H12 e12⟩)) (ed_str (ev_var rfl)) shn))
        (fun _ => et_and (et_test (ev_op (ev_var rfl) (ev_var rfl) (rv_ne rfl))) (fun hne => et_test (ev_unlike (d := .str (tx nw)) (ed_str (ev_fu (ea_cons (ev_var rfl) (ea_cons (ev_var rfl) (ea_cons (ev_var rfl) ea_nil))) fun H11 e11 Q11 q11 E11 => ⟨o, dx, dp, de, ps, es, u, nw, nw, rfl, N10.mono e11, ROe, by omega, by omega, f1 u ?_, fun H12 e12 => q11 H12 e12⟩)) (ed_str (ev_var rfl)) shn)))) (by rw [Bool.and_false]; rfl)) (fun hc => nomatch hc) (fun _ H11 e11 => ⟨_, rfl, e10.trans e11, e11 _ _ had⟩)
      rcases hu with hu | rfl | hu
      · exact .inl hu
      · rw [decide_eq_true rfl] at hne
        cases hne
      · exact .inr hu
    · rintro ad st H10 ⟨t11, rfl, e10, had⟩
      have P10 := P9.grow e10
      have N10 := NB.mono P10.ex
      have T10 := TB.mono P10.ex
      dsimp only
      refine s_ret (v := .bl true) ?_ fun H11 _ => k H11
      refine ev_same (d := wd (laneNames rs)) (ed_Un (by rw [← bare_names hbe]; exact eu_pr (ev_var rfl) N10.at_ (sv_lanes N10))) (ed_Un (eu_tupleL ?_)) (sh_w (oks_nam RO.1.1))
      have := el_lcM (K := K) (σ := [some (.ref l), some (.ref p), some (.ref d), some (.ref o), t4, t5, t6, t7, t8, some (.str (tx nw)), some (.str (tx far)), t11, none]) (ys := rs) (g := fun r : Row => V.ref r.1) (j := 12) (vs := [12]) (tl := tOp (rIxL K) (tVar 2) (tC (.int 1))) (te := tOp (rIxT K) (tVar 12) (tC (.int 0))) (fun r => V.str (tx r.2.1)) (ev_ixA (i := 1) (ev_var rfl) (sq_of T10.at_) rfl) (sq_of T10.rows) (by omega) (fun x => rfl) (fun r H1 e1 hr1 => ev_op (ev_var rfl) ev_c (rv_ixT (st_of (K := K) (e1 _ _ (T10.row r hr1))) (at_of (j := 0) rfl rfl)))
      have hv : vtx (laneNames rs) = rs.map fun r => V.str (tx r.2.1) := by
        unfold vtx laneNames
        rw [List.map_map]
        rfl
      rw [hv]
      exact this
end
end K05

set_option Elab.async false
set_option linter.all false
set_option maxRecDepth 100000
set_option maxHeartbeats 0
namespace K05
open PySem PySem.Spec PyProof.Rows L2 Vh
abbrev iniBadName : Stmt := (clB (top 3)).getD 0 (.Pass ⟨0, 0, 0, 0⟩)
abbrev iniNameTaken : Stmt := (clB (top 4)).getD 0 (.Pass ⟨0, 0, 0, 0⟩)
abbrev iniNoPost : Stmt := (clB (top 5)).getD 0 (.Pass ⟨0, 0, 0, 0⟩)
abbrev iniNoLane : Stmt := (clB (top 6)).getD 0 (.Pass ⟨0, 0, 0, 0⟩)
abbrev iniBadWalk : Stmt := (clB (top 9)).getD 0 (.Pass ⟨0, 0, 0, 0⟩)
def fn : List He.DefD := [gD (top 14) "is_name", gD (top 15) "check_name", gD (top 19) "check_posts", gD (top 20) "check_lanes", gD (top 21) "walked", gD (top 22) "ways_from", gD (top 23) "way_from", gD (top 25) "_law_cell", gD (top 26) "_law_pool", gD (top 27) "_law_take", gD (top 28) "_law_names", gD (top 29) "_law_many", gD (top 30) "_law_mixed", gD (top 31) "_law_net", gD (top 32) "_law_built", gD (top 33) "_law_ends", gD (top 34) "_law_ways", gD (top 35) "_law_stranger", gD (top 36) "_law_line", gD (top 37) "_law_due", gD (top 38) "_law_told", gD (top 39) "_law_is_way", gD (top 40) "_law_strange", gD (top 41) "law", mD (mem 0) "Net" "__init__" "Net.__init__", mD (mem 1) "Net" "post" "Net.post", mD (mem 2) "Net" "lane" "Net.lane", mD (mem 6) "Net" "start_of" "Net.start_of", mD (mem 7) "Net" "end_of" "Net.end_of", mD (mem 8) "Net" "out_of" "Net.out_of", mD (mem 11) "Net" "__contains__" "Net.__contains__", mD (mem 13) "Net" "__len__" "Net.__len__", mD iniBadName "BadName" "__init__" "BadName.__init__", mD iniNameTaken "NameTaken" "__init__" "NameTaken.__init__", mD iniNoPost "NoPost" "__init__" "NoPost.__init__", mD iniNoLane "NoLane" "__init__" "NoLane.__init__", mD iniBadWalk "BadWalk" "__init__" "BadWalk.__init__"]
def pr : List PrD := [(("Net", "posts"), mD (mem 4) "Net" "posts" "Net.posts"), (("Net", "lanes"), mD (mem 5) "Net" "lanes" "Net.lanes")]
def globals : List Str := ((["Net", "EmptyWalk", "BadName", "NameTaken", "NoPost", "NoLane", "BadWalk", "is_name", "check_name", "check_posts", "check_lanes", "walked", "ways_from", "way_from", "_law_cell", "_law_pool", "_law_take", "_law_names", "_law_many", "_law_mixed", "_law_net", "_law_built", "_law_ends", "_law_ways", "_law_stranger"] : List Str) ++ (["_law_line", "_law_due", "_law_told", "_law_is_way", "_law_strange", "law"] : List Str))
def frees : List Str := ["len", "int", "str", "isinstance", "range", "tuple", "list", "all", "min", "enumerate"]
def meths : List Str := ["post", "lane", "start_of", "end_of", "out_of", "__contains__", "__len__"]
def errs : List Str := ["BadName", "NameTaken", "NoPost", "NoLane", "BadWalk"]
def xErrs : List Str := ["BadName", "NameTaken", "NoPost", "NoLane", "BadWalk", "EmptyWalk"]
def emF : Fact := fun K => PySem.W.excIn K (He.ga K "EmptyWalk") He.veBase "ValueError.__new__" && (decide (PySem.W.subIn K (.ref (He.ga K "EmptyWalk")) (.type "BaseException") = some true) && (decide (PySem.W.typeIn K (.ref (He.ga K "EmptyWalk")) = some (.type "type")) && PySem.W.keepIn K (.ref (He.ga K "EmptyWalk"))))
def fs : List Fact := [glosF globals, freesF frees, strF "LETTERS" (Vp.tx Vp.letters), strF "DIGITS" (Vp.tx Vp.digits), intF "LONGEST" 8, clsF "Net" ["_posts", "_ends"] meths, mkF "Net", prpF "Net" "posts", prpF "Net" "lanes", takB, errF "BadName" ["name"], errF "NameTaken" ["name"], errF "NoPost" ["name"], errF "NoLane" ["name"], errF "BadWalk" ["place"], exmF xErrs, emF]
abbrev Rw : PySem.W.OpenRow := PySem.W.OpenLaw.row PySem.Challenge.rw_alsoshown_k05_walks_and_ways
abbrev hk : PySem.W.Hook := hookP 5 (allF fs) fn pr
def ob (s : PySem.W.SharedT) : He.AlD := obsPG 5 (allF fs) fn pr (HandSHeadRun.getT s)
theorem ob_eq (s : PySem.W.SharedT) : ob s = hk.obs s.abs := obsPG_eq (HandSHeadRun.getT_eq s)
def loose : List Str := (((["_wall", "__name__", "ShowError", "BadName", "NameTaken", "NoPost", "NoLane", "Clash", "EmptyWalk", "BadWalk", "LETTERS", "DIGITS", "LONGEST", "is_name", "check_name", "Net", "_net_of", "check_posts", "check_lanes", "walked", "ways_from", "way_from", "_law_cell", "_law_pool", "_law_take"] : List Str) ++ (["_law_names", "_law_many", "_law_mixed", "_law_net", "_law_built", "_law_ends", "_law_ways", "_law_stranger", "_law_line", "_law_due", "_law_told", "_law_is_way", "_law_strange"] : List Str)) : List Str)
theorem run (w : World) : HandSHeadRun.RunEq Rw (PySem.W.view Rw.prog [41]) hk ob 20000 loose w := by
  intro os
  kernel_rfl
end K05

set_option Elab.async false
set_option linter.all false
set_option maxRecDepth 100000
set_option maxHeartbeats 4000000
namespace K05
open PySem PySem.Spec PyProof.Rows L2 Vl Evl Vh Vc Vx2
theorem facts_ok {P : Program} {w : World} {K : PySem.W.Frag} {h : Heap} {mg : Str → Option Value} {f : Addr} (X : K.In h) (G : h.Ns mainGlobals mg) (hfa : mg ("law" : Str) = some (.ref f)) (c : SaysP (allF fs) fn pr K) :
    ∃ fd : FuncData, (∀ (s : Shared) (v : Value), BindsTo s fd ⟨[v], []⟩ [("_law_script", v)]) ∧ ∀ base : Heap, K.In base → base.Ns mainGlobals mg → FnOk P w K mg base L2.CX0 9 f fd ["_law_script"] (spLaw K) := by
  have a := c.one.1
  have gg := glos_ok X G (fact_at a 0)
  have fr := frees_ok X G (fact_at a 1)
  have gL := He.str_ok X G (fact_at a 2)
  have gDg := He.str_ok X G (fact_at a 3)
  have gO := He.int_ok X G (fact_at a 4)
  have net := clsF_ok (fact_at a 5)
  have M := He.mkr_ok (fact_at a 6)
  have pP := prpF_ok (fact_at a 7)
  have pL := prpF_ok (fact_at a 8)
  have tak := fact_at a 9
  have eBadName := fact_at a 10
  have eNameTaken := fact_at a 11
  have eNoPost := fact_at a 12
  have eNoLane := fact_at a 13
  have eBadWalk := fact_at a 14
  have exm := fact_at a 15
  have emf := fact_at a 16
  obtain ⟨fd_is_name, D_is_name⟩ := c.def_ 0 (d := gD (top 14) "is_name") rfl
  obtain ⟨fd_check_name, D_check_name⟩ := c.def_ 1 (d := gD (top 15) "check_name") rfl
  obtain ⟨fd_check_posts, D_check_posts⟩ := c.def_ 2 (d := gD (top 19) "check_posts") rfl
  obtain ⟨fd_check_lanes, D_check_lanes⟩ := c.def_ 3 (d := gD (top 20) "check_lanes") rfl
  obtain ⟨fd_walked, D_walked⟩ := c.def_ 4 (d := gD (top 21) "walked") rfl
  obtain ⟨fd_ways_from, D_ways_from⟩ := c.def_ 5 (d := gD (top 22) "ways_from") rfl
  obtain ⟨fd_way_from, D_way_from⟩ := c.def_ 6 (d := gD (top 23) "way_from") rfl
  obtain ⟨fd__law_cell, D__law_cell⟩ := c.def_ 7 (d := gD (top 25) "_law_cell") rfl
  obtain ⟨fd__law_pool, D__law_pool⟩ := c.def_ 8 (d := gD (top 26) "_law_pool") rfl
  obtain ⟨fd__law_take, D__law_take⟩ := c.def_ 9 (d := gD (top 27) "_law_take") rfl
  obtain ⟨fd__law_names, D__law_names⟩ := c.def_ 10 (d := gD (top 28) "_law_names") rfl
  obtain ⟨fd__law_many, D__law_many⟩ := c.def_ 11 (d := gD (top 29) "_law_many") rfl
  obtain ⟨fd__law_mixed, D__law_mixed⟩ := c.def_ 12 (d := gD (top 30) "_law_mixed") rfl
  obtain ⟨fd__law_net, D__law_net⟩ := c.def_ 13 (d := gD (top 31) "_law_net") rfl
  obtain ⟨fd__law_built, D__law_built⟩ := c.def_ 14 (d := gD (top 32) "_law_built") rfl
  obtain ⟨fd__law_ends, D__law_ends⟩ := c.def_ 15 (d := gD (top 33) "_law_ends") rfl
  obtain ⟨fd__law_ways, D__law_ways⟩ := c.def_ 16 (d := gD (top 34) "_law_ways") rfl
  obtain ⟨fd__law_stranger, D__law_stranger⟩ := c.def_ 17 (d := gD (top 35) "_law_stranger") rfl
  obtain ⟨fd__law_line, D__law_line⟩ := c.def_ 18 (d := gD (top 36) "_law_line") rfl
  obtain ⟨fd__law_due, D__law_due⟩ := c.def_ 19 (d := gD (top 37) "_law_due") rfl
  obtain ⟨fd__law_told, D__law_told⟩ := c.def_ 20 (d := gD (top 38) "_law_told") rfl
  obtain ⟨fd__law_is_way, D__law_is_way⟩ := c.def_ 21 (d := gD (top 39) "_law_is_way") rfl
  obtain ⟨fd__law_strange, D__law_strange⟩ := c.def_ 22 (d := gD (top 40) "_law_strange") rfl
  obtain ⟨fd_law, D_law⟩ := c.def_ 23 (d := gD (top 41) "law") rfl
  obtain ⟨fd_m__init__, D_m__init__⟩ := c.def_ 24 (d := mD (mem 0) "Net" "__init__" "Net.__init__") rfl
  obtain ⟨fd_mpost, D_mpost⟩ := c.def_ 25 (d := mD (mem 1) "Net" "post" "Net.post") rfl
  obtain ⟨fd_mlane, D_mlane⟩ := c.def_ 26 (d := mD (mem 2) "Net" "lane" "Net.lane") rfl
  obtain ⟨fd_mstart_of, D_mstart_of⟩ := c.def_ 27 (d := mD (mem 6) "Net" "start_of" "Net.start_of") rfl
  obtain ⟨fd_mend_of, D_mend_of⟩ := c.def_ 28 (d := mD (mem 7) "Net" "end_of" "Net.end_of") rfl
  obtain ⟨fd_mout_of, D_mout_of⟩ := c.def_ 29 (d := mD (mem 8) "Net" "out_of" "Net.out_of") rfl
  obtain ⟨fd_m__contains__, D_m__contains__⟩ := c.def_ 30 (d := mD (mem 11) "Net" "__contains__" "Net.__contains__") rfl
  obtain ⟨fd_m__len__, D_m__len__⟩ := c.def_ 31 (d := mD (mem 13) "Net" "__len__" "Net.__len__") rfl
  obtain ⟨fd_iBadName, D_iBadName⟩ := c.def_ 32 (d := mD iniBadName "BadName" "__init__" "BadName.__init__") rfl
  obtain ⟨fd_iNameTaken, D_iNameTaken⟩ := c.def_ 33 (d := mD iniNameTaken "NameTaken" "__init__" "NameTaken.__init__") rfl
  obtain ⟨fd_iNoPost, D_iNoPost⟩ := c.def_ 34 (d := mD iniNoPost "NoPost" "__init__" "NoPost.__init__") rfl
  obtain ⟨fd_iNoLane, D_iNoLane⟩ := c.def_ 35 (d := mD iniNoLane "NoLane" "__init__" "NoLane.__init__") rfl
  obtain ⟨fd_iBadWalk, D_iBadWalk⟩ := c.def_ 36 (d := mD iniBadWalk "BadWalk" "__init__" "BadWalk.__init__") rfl
  obtain ⟨fd_pposts, D_pposts⟩ := c.prp 0 (q := (("Net", "posts"), mD (mem 4) "Net" "posts" "Net.posts")) rfl
  obtain ⟨fd_planes, D_planes⟩ := c.prp 1 (q := (("Net", "lanes"), mD (mem 5) "Net" "lanes" "Net.lanes")) rfl
  have e := hfa.symm.trans (gg "law" (by decide))
  cases e
  have b := FunD.bindsA (ps := ["_law_script"]) D_law fun _ _ _ _ _ _ us hl => match us, hl with | [_], _ => rfl
  have b_is_name : L2.Binds K fd_is_name ["value"] [] := FunD.bindsN D_is_name fun _ _ _ _ _ _ us hl => match us, hl with | [_], _ => rfl
  have b_check_name : L2.Binds K fd_check_name ["value"] [] := FunD.bindsN D_check_name fun _ _ _ _ _ _ us hl => match us, hl with | [_], _ => rfl
  have b_check_posts : L2.Binds K fd_check_posts ["net", "names"] [] := FunD.bindsN D_check_posts fun _ _ _ _ _ _ us hl => match us, hl with | [_, _], _ => rfl
  have b_check_lanes : L2.Binds K fd_check_lanes ["net", "names"] [] := FunD.bindsN D_check_lanes fun _ _ _ _ _ _ us hl => match us, hl with | [_, _], _ => rfl
  have b_walked : L2.Binds K fd_walked ["net", "lanes"] [] := FunD.bindsN D_walked fun _ _ _ _ _ _ us hl => match us, hl with | [_, _], _ => rfl
  have b_ways_from : L2.Binds K fd_ways_from ["net", "post"] [] := FunD.bindsN D_ways_from fun _ _ _ _ _ _ us hl => match us, hl with | [_, _], _ => rfl
  have b_way_from : L2.Binds K fd_way_from ["net", "a", "b"] [] := FunD.bindsN D_way_from fun _ _ _ _ _ _ us hl => match us, hl with | [_, _, _], _ => rfl
  have b__law_cell : L2.Binds K fd__law_cell ["_law_script", "_law_k"] [] := FunD.bindsN D__law_cell fun _ _ _ _ _ _ us hl => match us, hl with | [_, _], _ => rfl
  have b__law_pool : L2.Binds K fd__law_pool ["_law_cell_here"] [] := FunD.bindsN D__law_pool fun _ _ _ _ _ _ us hl => match us, hl with | [_], _ => rfl
  have b__law_take : L2.Binds K fd__law_take ["_law_pool_here", "_law_many_here"] [] := FunD.bindsN D__law_take fun _ _ _ _ _ _ us hl => match us, hl with | [_, _], _ => rfl
  have b__law_names : L2.Binds K fd__law_names ["_law_pool_here", "_law_many_here"] [] := FunD.bindsN D__law_names fun _ _ _ _ _ _ us hl => match us, hl with | [_, _], _ => rfl
  have b__law_many : L2.Binds K fd__law_many ["_law_pool_here", "_law_many_here"] [] := FunD.bindsN D__law_many fun _ _ _ _ _ _ us hl => match us, hl with | [_, _], _ => rfl
  have b__law_mixed : L2.Binds K fd__law_mixed ["_law_pool_here", "_law_things"] [] := FunD.bindsN D__law_mixed fun _ _ _ _ _ _ us hl => match us, hl with | [_, _], _ => rfl
  have b__law_net : L2.Binds K fd__law_net ["_law_pool_here", "_law_most", "_law_lanes"] [] := FunD.bindsN D__law_net fun _ _ _ _ _ _ us hl => match us, hl with | [_, _, _], _ => rfl
  have b__law_built : L2.Binds K fd__law_built ["_law_parts"] [] := FunD.bindsN D__law_built fun _ _ _ _ _ _ us hl => match us, hl with | [_], _ => rfl
  have b__law_ends : L2.Binds K fd__law_ends ["_law_parts"] [] := FunD.bindsN D__law_ends fun _ _ _ _ _ _ us hl => match us, hl with | [_], _ => rfl
  have b__law_ways : L2.Binds K fd__law_ways ["_law_parts", "_law_start"] [] := FunD.bindsN D__law_ways fun _ _ _ _ _ _ us hl => match us, hl with | [_, _], _ => rfl
  have b__law_stranger : L2.Binds K fd__law_stranger ["_law_pool_here", "_law_names_here"] [] := FunD.bindsN D__law_stranger fun _ _ _ _ _ _ us hl => match us, hl with | [_, _], _ => rfl
  have b__law_line : L2.Binds K fd__law_line ["_law_pool_here", "_law_parts"] [] := FunD.bindsN D__law_line fun _ _ _ _ _ _ us hl => match us, hl with | [_, _], _ => rfl
  have b__law_due : L2.Binds K fd__law_due ["_law_parts", "_law_line_here"] [] := FunD.bindsN D__law_due fun _ _ _ _ _ _ us hl => match us, hl with | [_, _], _ => rfl
  have b__law_told : L2.Binds K fd__law_told ["_law_net_here", "_law_line_here"] [] := FunD.bindsN D__law_told fun _ _ _ _ _ _ us hl => match us, hl with | [_, _], _ => rfl
  have b__law_is_way : L2.Binds K fd__law_is_way ["_law_net_here", "_law_parts", "_law_first", "_law_second"] [] := FunD.bindsN D__law_is_way fun _ _ _ _ _ _ us hl => match us, hl with | [_, _, _, _], _ => rfl
  have b__law_strange : L2.Binds K fd__law_strange ["_law_net_here", "_law_first", "_law_second"] [] := FunD.bindsN D__law_strange fun _ _ _ _ _ _ us hl => match us, hl with | [_, _, _], _ => rfl
  have b_m__init__ : L2.Binds K fd_m__init__ ["self"] [] := FunD.bindsN D_m__init__ fun _ _ _ _ _ _ us hl => match us, hl with | [_], _ => rfl
  have b_mpost : L2.Binds K fd_mpost ["self", "name"] [] := FunD.bindsN D_mpost fun _ _ _ _ _ _ us hl => match us, hl with | [_, _], _ => rfl
  have b_mlane : L2.Binds K fd_mlane ["self", "name", "start", "end"] [] := FunD.bindsN D_mlane fun _ _ _ _ _ _ us hl => match us, hl with | [_, _, _, _], _ => rfl
  have b_mstart_of : L2.Binds K fd_mstart_of ["self", "lane"] [] := FunD.bindsN D_mstart_of fun _ _ _ _ _ _ us hl => match us, hl with | [_, _], _ => rfl
  have b_mend_of : L2.Binds K fd_mend_of ["self", "lane"] [] := FunD.bindsN D_mend_of fun _ _ _ _ _ _ us hl => match us, hl with | [_, _], _ => rfl
  have b_mout_of : L2.Binds K fd_mout_of ["self", "post"] [] := FunD.bindsN D_mout_of fun _ _ _ _ _ _ us hl => match us, hl with | [_, _], _ => rfl
  have b_m__contains__ : L2.Binds K fd_m__contains__ ["self", "x"] [] := FunD.bindsN D_m__contains__ fun _ _ _ _ _ _ us hl => match us, hl with | [_, _], _ => rfl
  have b_m__len__ : L2.Binds K fd_m__len__ ["self"] [] := FunD.bindsN D_m__len__ fun _ _ _ _ _ _ us hl => match us, hl with | [_], _ => rfl
  have b_iBadName : L2.Binds K fd_iBadName ["self", "name"] [] := FunD.bindsN D_iBadName fun _ _ _ _ _ _ us hl => match us, hl with | [_, _], _ => rfl
  have b_iNameTaken : L2.Binds K fd_iNameTaken ["self", "name"] [] := FunD.bindsN D_iNameTaken fun _ _ _ _ _ _ us hl => match us, hl with | [_, _], _ => rfl
  have b_iNoPost : L2.Binds K fd_iNoPost ["self", "name"] [] := FunD.bindsN D_iNoPost fun _ _ _ _ _ _ us hl => match us, hl with | [_, _], _ => rfl
  have b_iNoLane : L2.Binds K fd_iNoLane ["self", "name"] [] := FunD.bindsN D_iNoLane fun _ _ _ _ _ _ us hl => match us, hl with | [_, _], _ => rfl
  have b_iBadWalk : L2.Binds K fd_iBadWalk ["self", "place"] [] := FunD.bindsN D_iBadWalk fun _ _ _ _ _ _ us hl => match us, hl with | [_, _], _ => rfl
  have b_pposts : L2.Binds K fd_pposts ["self"] [] := FunD.bindsN D_pposts fun _ _ _ _ _ _ us hl => match us, hl with | [_], _ => rfl
  have b_planes : L2.Binds K fd_planes ["self"] [] := FunD.bindsN D_planes fun _ _ _ _ _ _ us hl => match us, hl with | [_], _ => rfl
  refine ⟨fd_law, fun s v => b s [v] rfl, fun base _ _ => ?_⟩
  have E_BadName : Err1 P w K mg base "BadName" "name" (He.ga K "BadName") := err1_of eBadName tak (gg "BadName" (by decide)) (ok_ini1 (f := "name") D_iBadName ⟨rfl, rfl, rfl, by decide +kernel, rfl, by decide +kernel, by decide +kernel⟩ rfl (errB_ok (He.ba eBadName).1 tak).1 ((iniB_ok (He.ba eBadName).2).no "name" (by decide)) (by decide) (by decide)) b_iBadName
  have E_NameTaken : Err1 P w K mg base "NameTaken" "name" (He.ga K "NameTaken") := err1_of eNameTaken tak (gg "NameTaken" (by decide)) (ok_ini1 (f := "name") D_iNameTaken ⟨rfl, rfl, rfl, by decide +kernel, rfl, by decide +kernel, by decide +kernel⟩ rfl (errB_ok (He.ba eNameTaken).1 tak).1 ((iniB_ok (He.ba eNameTaken).2).no "name" (by decide)) (by decide) (by decide)) b_iNameTaken
  have E_NoPost : Err1 P w K mg base "NoPost" "name" (He.ga K "NoPost") := err1_of eNoPost tak (gg "NoPost" (by decide)) (ok_ini1 (f := "name") D_iNoPost ⟨rfl, rfl, rfl, by decide +kernel, rfl, by decide +kernel, by decide +kernel⟩ rfl (errB_ok (He.ba eNoPost).1 tak).1 ((iniB_ok (He.ba eNoPost).2).no "name" (by decide)) (by decide) (by decide)) b_iNoPost
  have E_NoLane : Err1 P w K mg base "NoLane" "name" (He.ga K "NoLane") := err1_of eNoLane tak (gg "NoLane" (by decide)) (ok_ini1 (f := "name") D_iNoLane ⟨rfl, rfl, rfl, by decide +kernel, rfl, by decide +kernel, by decide +kernel⟩ rfl (errB_ok (He.ba eNoLane).1 tak).1 ((iniB_ok (He.ba eNoLane).2).no "name" (by decide)) (by decide) (by decide)) b_iNoLane
  have E_BadWalk : Err1 P w K mg base "BadWalk" "place" (He.ga K "BadWalk") := err1_of eBadWalk tak (gg "BadWalk" (by decide)) (ok_ini1 (f := "place") D_iBadWalk ⟨rfl, rfl, rfl, by decide +kernel, rfl, by decide +kernel, by decide +kernel⟩ rfl (errB_ok (He.ba eBadWalk).1 tak).1 ((iniB_ok (He.ba eBadWalk).2).no "place" (by decide)) (by decide) (by decide)) b_iBadWalk
  have G_isname := ok_isname (P := P) (w := w) (base := base) D_is_name (fr "isinstance" (by decide)) (fr "str" (by decide)) (fr "len" (by decide)) (fr "all" (by decide)) gL gDg gO
  have G_chkn := ok_chkn D_check_name D_is_name (gg "is_name" (by decide)) G_isname E_BadName
  have G_posts := ok_posts (P := P) (w := w) (base := base) D_pposts net.cls (net.no "_posts" (by decide)) (fr "tuple" (by decide))
  have G_lanes := ok_lanes (P := P) (w := w) (base := base) D_planes net.cls (net.no "_ends" (by decide)) (fr "tuple" (by decide))
  have G_len := ok_nlen (P := P) (w := w) (base := base) D_m__len__ net.cls (net.no "_ends" (by decide)) (fr "len" (by decide))
  have G_has := ok_has (P := P) (w := w) (base := base) D_m__contains__ net.cls (net.no "_ends" (by decide)) (fr "isinstance" (by decide)) (fr "str" (by decide))
  have G_chkp := ok_chkp D_check_posts net.cls pP b_pposts G_posts E_NoPost
  have G_chkl := ok_chkl D_check_lanes net.cls (net.me "__contains__" (by decide)) b_m__contains__ G_has E_NoLane
  have G_post := ok_post D_mpost net.cls (net.no "_posts" (by decide)) D_check_name (gg "check_name" (by decide)) G_chkn E_NameTaken
  have G_lane := ok_lane D_mlane net.cls (net.no "_ends" (by decide)) D_check_name (gg "check_name" (by decide)) G_chkn E_NameTaken D_check_posts (gg "check_posts" (by decide)) G_chkp
  have G_start := ok_start D_mstart_of net.cls (net.no "_ends" (by decide)) D_check_lanes (gg "check_lanes" (by decide)) G_chkl
  have G_end := ok_end D_mend_of net.cls (net.no "_ends" (by decide)) D_check_lanes (gg "check_lanes" (by decide)) G_chkl
  have G_out := ok_out D_mout_of net.cls (net.no "_ends" (by decide)) D_check_posts (gg "check_posts" (by decide)) G_chkp (fr "tuple" (by decide))
  have G_init := ok_nini (P := P) (w := w) (mg := mg) (base := base) D_m__init__ net.cls (net.no "_posts" (by decide)) (net.no "_ends" (by decide))
  have N : ND P w K mg base (He.ga K "Net") (He.ga K "BadName") (He.ga K "NameTaken") (He.ga K "NoPost") (He.ga K "NoLane") :=
    { cls := net.cls
      post := ⟨_, _, _, G_post, net.me "post" (by decide), b_mpost⟩
      lane := ⟨_, _, _, G_lane, net.me "lane" (by decide), b_mlane⟩
      posts := ⟨_, _, _, _, G_posts, pP, b_pposts⟩
      lanes := ⟨_, _, _, _, G_lanes, pL, b_planes⟩
      len := ⟨_, _, _, G_len, net.me "__len__" (by decide), b_m__len__⟩
      start := ⟨_, _, _, G_start, net.me "start_of" (by decide), b_mstart_of⟩
      end_ := ⟨_, _, _, G_end, net.me "end_of" (by decide), b_mend_of⟩
      out := ⟨_, _, _, G_out, net.me "out_of" (by decide), b_mout_of⟩
      has := ⟨_, _, _, G_has, net.me "__contains__" (by decide), b_m__contains__⟩
      new := ⟨_, _, _, G_init, M, b_m__init__, (gg "Net" (by decide))⟩ }
  have TCe : Fu P w K mg base L2.CX0 1 "_law_cell" (spCell K) := .of (ok_cell D__law_cell (fr "len" (by decide))) (gg "_law_cell" (by decide)) D__law_cell.kp b__law_cell
  have TPo : Fu P w K mg base L2.CX0 1 "_law_pool" Vp.spPool := .of (ok_pool D__law_pool (fr "int" (by decide))) (gg "_law_pool" (by decide)) D__law_pool.kp b__law_pool
  have TT : Fu P w K mg base L2.CX0 1 "_law_take" Vp.spTake := .of (ok_take D__law_take (fr "int" (by decide))) (gg "_law_take" (by decide)) D__law_take.kp b__law_take
  have TNt : Fu P w K mg base L2.CX0 3 "_law_net" spNet := .of (ok_net D__law_net D__law_take D__law_names D__law_many D__law_mixed (gg "_law_take" (by decide)) (gg "_law_names" (by decide)) (gg "_law_many" (by decide)) (gg "_law_mixed" (by decide)) (fr "int" (by decide)) (fr "len" (by decide)) (fr "range" (by decide)) (fr "list" (by decide)) (fr "min" (by decide))) (gg "_law_net" (by decide)) D__law_net.kp b__law_net
  have TEn : Fu P w K mg base L2.CX0 1 "_law_ends" spEn := .of (ok_en D__law_ends) (gg "_law_ends" (by decide)) D__law_ends.kp b__law_ends
  have TWf : Fu P w K mg base L2.CX0 5 "ways_from" (spWf (He.ga K "Net")) := .of (ok_wf D_ways_from N) (gg "ways_from" (by decide)) D_ways_from.kp b_ways_from
  have TBu : Fu P w K mg base L2.CX0 5 "_law_built" (spBu (He.ga K "Net")) := .of (ok_bu D__law_built N) (gg "_law_built" (by decide)) D__law_built.kp b__law_built
  have TWy : Fu P w K mg base L2.CX0 1 "_law_ways" spWy := .of (ok_wy D__law_ways (fr "len" (by decide))) (gg "_law_ways" (by decide)) D__law_ways.kp b__law_ways
  have XE : ∀ (x y : Str) (b : Bool), x ∈ xErrs → y ∈ xErrs → decide (x = y) = b → PySem.W.exmOne K (.ref (He.ga K x)) (.ref (He.ga K y)) = some b := fun x y b hx hy hb => by
    rw [exmF_ok exm hx hy, hb]
  have E_EmptyWalk : Err0 K mg "EmptyWalk" (He.ga K "EmptyWalk") := by
    obtain ⟨h1, h2⟩ := He.ba emf
    obtain ⟨h2, h3⟩ := He.ba h2
    obtain ⟨h3, h4⟩ := He.ba h3
    exact ⟨h1, of_decide_eq_true h2, of_decide_eq_true h3, h4, (gg "EmptyWalk" (by decide))⟩
  have b3 : ∀ x y : Nat, x < 3 → y < 3 → PySem.W.exmOne K (.ref ([He.ga K "EmptyWalk", He.ga K "NoLane", He.ga K "BadWalk"].getD x 0)) (.ref ([He.ga K "EmptyWalk", He.ga K "NoLane", He.ga K "BadWalk"].getD y 0)) = some (decide (x = y)) := fun x y hx hy => by
    match x, y, hx, hy with
    | 0, 0, _, _ => exact XE "EmptyWalk" "EmptyWalk" _ (by decide) (by decide) (by decide)
    | 0, 1, _, _ => exact XE "EmptyWalk" "NoLane" _ (by decide) (by decide) (by decide)
    | 0, 2, _, _ => exact XE "EmptyWalk" "BadWalk" _ (by decide) (by decide) (by decide)
    | 1, 0, _, _ => exact XE "NoLane" "EmptyWalk" _ (by decide) (by decide) (by decide)
    | 1, 1, _, _ => exact XE "NoLane" "NoLane" _ (by decide) (by decide) (by decide)
    | 1, 2, _, _ => exact XE "NoLane" "BadWalk" _ (by decide) (by decide) (by decide)
    | 2, 0, _, _ => exact XE "BadWalk" "EmptyWalk" _ (by decide) (by decide) (by decide)
    | 2, 1, _, _ => exact XE "BadWalk" "NoLane" _ (by decide) (by decide) (by decide)
    | 2, 2, _, _ => exact XE "BadWalk" "BadWalk" _ (by decide) (by decide) (by decide)
  have TCp : Fu P w K mg base (L2.CX P w) 3 "check_posts" (spChkP K (He.ga K "Net") (He.ga K "NoPost")) := .of G_chkp (gg "check_posts" (by decide)) D_check_posts.kp b_check_posts
  have TCl : Fu P w K mg base (L2.CX P w) 3 "check_lanes" (spChkL K (He.ga K "Net") (He.ga K "NoLane")) := .of G_chkl (gg "check_lanes" (by decide)) D_check_lanes.kp b_check_lanes
  have TWk : Fu P w K mg base (L2.CX P w) 5 "walked" (spWk K (He.ga K "Net") (He.ga K "NoLane") (He.ga K "EmptyWalk") (He.ga K "BadWalk")) := .of (ok_wk D_walked N TCl E_EmptyWalk E_BadWalk (fr "tuple" (by decide)) (fr "len" (by decide)) (fr "enumerate" (by decide))) (gg "walked" (by decide)) D_walked.kp b_walked
  have TWa : Fu P w K mg base (L2.CX P w) 6 "way_from" (spWa (He.ga K "Net") (He.ga K "NoPost")) := .of (ok_wa D_way_from TCp TWf) (gg "way_from" (by decide)) D_way_from.kp b_way_from
  have TSg : Fu P w K mg base L2.CX0 2 "_law_stranger" spStrg := .of (ok_strg D__law_stranger D__law_take (gg "_law_take" (by decide)) (fr "int" (by decide)) (fr "len" (by decide)) (fr "range" (by decide))) (gg "_law_stranger" (by decide)) D__law_stranger.kp b__law_stranger
  have TLi : Fu P w K mg base L2.CX0 3 "_law_line" spLi := .of (ok_li D__law_line TEn TT TSg (fr "len" (by decide)) (fr "range" (by decide))) (gg "_law_line" (by decide)) D__law_line.kp b__law_line
  have TDu : Fu P w K mg base L2.CX0 2 "_law_due" (spDu K) := .of (ok_du D__law_due TEn (fr "tuple" (by decide)) (fr "enumerate" (by decide))) (gg "_law_due" (by decide)) D__law_due.kp b__law_due
  have TTo : Fu P w K mg base L2.CX0 6 "_law_told" (spTo K (He.ga K "Net")) := .of (ok_to D__law_told TWk E_EmptyWalk E_NoLane E_BadWalk b3) (gg "_law_told" (by decide)) D__law_told.kp b__law_told
  have TIw : Fu P w K mg base L2.CX0 7 "_law_is_way" (spIw (He.ga K "Net")) := .of (ok_iw D__law_is_way TWa TWy TDu (fr "isinstance" (by decide)) (fr "list" (by decide)) (fr "tuple" (by decide)) (fr "len" (by decide))) (gg "_law_is_way" (by decide)) D__law_is_way.kp b__law_is_way
  have TSt : Fu P w K mg base L2.CX0 7 "_law_strange" (spSt (He.ga K "Net")) := .of (ok_st D__law_strange TWa E_NoPost (XE "NoPost" "NoPost" _ (by decide) (by decide) (by decide))) (gg "_law_strange" (by decide)) D__law_strange.kp b__law_strange
  exact (ok_law D_law N TCe TPo TNt TBu TLi TDu TTo TIw TSg TSt (fr "tuple" (by decide)) (fr "len" (by decide)) (fr "range" (by decide))).mono (by decide)
end K05
open PySem PySem.W PySem.Calls PyProof.Rows
theorem PySem.Challenge.cw_alsoshown_k05_walks_and_ways_holds : PySem.Challenge.rw_alsoshown_k05_walks_and_ways.Holds := by
  w_on; o_law
  refine HandSHeadRun.head_any (r := OpenLaw.row PySem.Challenge.rw_alsoshown_k05_walks_and_ways) (q := view (OpenLaw.row PySem.Challenge.rw_alsoshown_k05_walks_and_ways).prog [41]) (H := K05.hk) (ob := K05.ob) (M := 20000) (loose := K05.loose)
    (d := HandSHeadRun.topDef (OpenLaw.row PySem.Challenge.rw_alsoshown_k05_walks_and_ways).prog 41) (kwd := []) K05.ob_eq
    (by kernel_rfl) (fun s => by kernel_rfl) K05.run (by kernel_rfl) (by kernel_rfl) (by kernel_rfl) (by rfl) (by first | assumption | decide +kernel) (by decide +kernel) ⟨rfl, rfl, rfl, rfl, rfl, by decide +kernel⟩ ?hw ?hc
  case hw => w_witness2
  case hc =>
    refine L2.walk_ofE (l := PySem.Challenge.rw_alsoshown_k05_walks_and_ways) (n := 63) (k := 9) (x := "_law_script") (CX := L2.CX0) rfl (by decide) (by kernel_rfl) ⟨rfl, by decide, by decide⟩ ?F (fun _ _ _ _ z => z)
    intro w mg fa h Y G hmg0
    obtain ⟨K, KX, c⟩ := Y
    have hmg : mg ("law" : PySem.Str) = some (.ref fa) := by
      have e : (HandSHeadRun.topDef (OpenLaw.row PySem.Challenge.rw_alsoshown_k05_walks_and_ways).prog 41).name = ("law" : PySem.Str) := by kernel_rfl
      rw [← e]
      exact hmg0
    obtain ⟨fd, hb, hF⟩ := K05.facts_ok (P := (PySem.Challenge.rw_alsoshown_k05_walks_and_ways).prog) (w := w) KX G hmg c
    exact ⟨K, fd, K05.spLaw K, KX, hb, fun H a ns hl _ hS => ⟨a, ns, rfl, hS, fun _ => rfl⟩, hF⟩
#print axioms PySem.Challenge.cw_alsoshown_k05_walks_and_ways_holds
