import PyProof.Rows.All
import Wide.All
import OpenK.AllK
import Wide.FinOn
import HandS.ForMost
import HandS.ForExc
import HandS.ExcInit
import HandS.IsInst
import HandS.ExcField
import HandS.HeadHook1
import KE.KExcIs
import KE.KStateDown
import KE.KIsAll
import Lean
import HandS.Defaults
import HandS.Head0
import HandS.Head1
import HandS.Head2
import HandS.HeadEnd
import HandS.HeadHook2
import HandS.EndBits
import HandS.Wide
import HandS.Evl
import PyProof.Rows.ReprOcc
import HandS.LawCells
import HandS.Property
import HandS.CallSlots
import HandS.TupAny
import KE.KOpsOwn
import PyProof.InstNe
import KE.LtData
import KE.DataCmp
import PyProof.EqAt
import PyProof.EqKinds
import PyProof.TupleCall
import HandS.Base
import HandS.Call
import HandS.Exc
import HandS.ExcOwn
import HandS.Walk
import HandS.More
import HandS.Codes
import HandS.RevTup
import KE.KDictList
import PyProof.TupleOps
import HandS.Style
import HandS.Steps
import HandS.Dict
import HandS.Small
import HandS.WordsDict
import KE.GoesEnum
import HandS.Iter
import HandS.DictComp
import KE.KEqNest
import HandS.SlotsOwn
import PyProof.Conv_bool
import HandS.Text
import PySem.Challenge.RW_alsoshown_k17_rounds_told
set_option Elab.async false
set_option linter.all false
set_option maxRecDepth 100000
set_option maxHeartbeats 2000000
/-! Exceptions of the program as values: made by a call, kept, read, asked for their class. -/
namespace Vx
open PySem PySem.Spec PyProof.Rows L2
section
variable {X : Cx} {C fI : Addr} {k : Nat} {fd : FuncData} {ps : List Str}
variable {sp : Sp} {e : Expr} {es : List Expr} {ta : TA} {te : TE} {x f : Str}
variable {p pos : Pos}
/-- C(e, ..) for a value: the exception stays tracked -/
def tMkV (C : Addr) (sp : Sp) (ta : TA) : TE := fun st H Q =>
  ta st H fun vs H1 => vs.length ≤ 1000 ∧ ∀ a, H1 a = none →
    sp (.ref a :: vs) (upd H1 a (exo a C none))
      (fun v H2 => v = .non ∧ Q (.ref a) H2) (fun _ _ _ => False)
theorem pe_mkV (T : OexC X.K C)
    (iC : PySem.W.findIn X.K (.ref C) "__init__" = some (some (.ref fI)))
    (tI : PySem.W.typeIn X.K (.ref fI) = some (.type "function"))
    (F1 : FnOk X.prog X.w X.K X.mg X.base CX0 k fI fd ps sp)
    (hr : Room (k + 1) X.A) (hb : Binds X.K fd ps []) (hg : Gl X x)
    (hm : X.mg x = some (.ref C)) (ha : PA X (e :: es) ta)
    (hdb : (x == ("__debug__" : Str)) = false := by decide)
    (he : starEach (e :: es) X.env = (false, eval e X.env) :: starEach es X.env := by rfl)
    (hpl : (backTo pos (starEach es X.env)).any (·.1) = false := by rfl) :
    PE X (.Call (.Name x p) (e :: es) [] pos) (tMkV C sp ta) := by
  refine ⟨fun pins s σ H Q I h => ?_⟩
  obtain ⟨nm, q, N, bs, bm, sn, sub, ab, col, dd, k0, k1, k2, k3, k5, hC, hbm⟩ := T.cls
  refine wpAny_Call_Name_kw (ld_glob I hg hm ?_ hdb)
  refine PySem.W.callWith_K (h₀ := X.base) I.ok.mod.kin T.kC ?_ he hpl
  refine thn (ha.run pos pins s σ H _ I h) ?_
  rintro us s1 ⟨vs, H1, I1, r1, hz, q1⟩
  refine ⟨I1.kIn, ?_⟩
  show wpAny _ _ (call (.ref C) us) _ _ _
  obtain ⟨hp, g, dr, tk, os⟩ := s1
  let h2 : Heap := (hp.push (PySem.W.kdv_tup us)).push (PySem.HandSPX.excO C hp.objs.size)
  have hsz : hp.objs.size ≤ hp.objs.size + 1 := Nat.le_succ _
  have hn : H1 (hp.objs.size + 1) = none := I1.hok.fresh hsz
  have hq := q1 (hp.objs.size + 1) hn
  have kk : ∀ b o, hp.get? b = some o → h2.get? b = some o := by
    intro b o eb
    exact Heap.get?_push_of_some _ (Heap.get?_push_of_some _ eb)
  have hget : h2.get? (hp.objs.size + 1) = some (PySem.HandSPX.excO C hp.objs.size) := by
    show ((hp.push _).push _).get? _ = _
    heap_get
  have I2 : Inv X pins σ (upd H1 (hp.objs.size + 1) (exo (hp.objs.size + 1) C none)) ⟨h2, g, dr, tk, os⟩ :=
    Inv.laid (s := ⟨hp, g, dr, tk, os⟩) (t' := tk) I1 kk hsz (exo_ok hget)
  have r2 : Vals (V.ref (hp.objs.size + 1) :: vs) (Value.ref (hp.objs.size + 1) :: us) := .cons rfl r1
  have hl : (Value.ref (hp.objs.size + 1) :: us ++ []).length = ps.length := by
    have e1 := r2.length
    rw [F1.len _ _ _ _ hq] at e1
    rw [List.append_nil]
    exact e1.symm
  have hus : us.length ≤ sizeLine := by
    have e1 := Paired.length r1
    rw [sizeLine_eq]
    omega
  have hbb := hb ⟨h2, g, dr, tk, os⟩ (Value.ref (hp.objs.size + 1) :: us) I2.kIn hl
  rw [List.append_nil] at hbb
  have run := F1.run (X.A.under (.builtin "type.__call__" ⟨.ref C :: us, []⟩)) X.stack
    ⟨h2, g, dr, tk, os⟩ _ ⟨Value.ref (hp.objs.size + 1) :: us, []⟩
    (Value.ref (hp.objs.size + 1) :: us) _ _ (fun _ _ _ => False)
    (hr.make C us []) (I2.env0.make C us []) hbb r2 hq
  refine wpAny_call ?_
  refine PySem.HandSPX.call_own F.excBase_ValueError
    (fun Y => PySem.HandSPX.refsVE_contains Y bm hbm) (I1.kIn _ _ hC)
    (PySem.W.looks_findIn I1.kIn iC) (fun self => PySem.W.bind_fn I1.kIn self tI) hus ?_
  refine codeAny_mono run ?_
  intro r s' hq'
  cases r with
  | error er => exact (hq' : False).elim
  | ok fl =>
    cases fl with
    | ret u =>
      obtain ⟨v, H2, os2, bare2, un2, hok2, rv, ev, q2⟩ := hq'
      subst ev
      have J := I2.call' (ch := []) os2 un2 hok2 bare2 (fun b z => absurd z (by simp))
      exact ⟨rv, .ref (hp.objs.size + 1), H2, J, rfl, q2⟩
    | next => exact False.elim hq'
    | brk => exact False.elim hq'
    | cont => exact False.elim hq'
/-- C() for a value, C without an own __init__ -/
def tMkP (C : Addr) : TE := fun _ H Q => ∀ a, H a = none → Q (.ref a) (upd H a (exo a C none))
theorem pe_mkP (q : PySem.W.excIn X.K C He.veBase "ValueError.__new__" = true)
    (gC : X.mg x = some (.ref C)) (kC : PySem.W.keepIn X.K (.ref C) = true) (hg : Gl X x)
    (hdb : (x == ("__debug__" : Str)) = false := by decide) :
    PE X (.Call (.Name x p) [] [] pos) (tMkP C) := by
  refine ⟨fun pins s σ H Q I h => ?_⟩
  refine wpAny_Call_Name_kw (ld_glob I hg gC ?_ hdb)
  refine PySem.W.callWith_K0 I.kIn kC ?_
  obtain ⟨bm, N, nm, qn, bs, hdct, sn, sub, ab, col, dd, k0, k1, k2, k3, k5, mN, hC, hN, hni, T⟩ := exc_obj I.kIn q
  obtain ⟨hp, g, dr, tk, os⟩ := s
  refine wpAny_call_exc_subT PySem.F.excBase_ValueError T hC hN hni (fun h' a hm => ?_) (by show 0 ≤ sizeLine; omega)
  have hn : H a = none := I.hok.gone hm.new
  obtain ⟨t, ht, _, _⟩ := hm.there
  refine ⟨.ref a, upd H a (exo a C none), ?_, rfl, h a hn⟩
  have un : Un X.fs [] H (upd H a (exo a C none)) hp h' := {
    keep := fun b u y _ _ _ => hm.keeps b u y
    slot := fun b u y _ _ _ => ⟨u.slots, hm.keeps b u y⟩
    free := fun b u y n _ => by
      rw [upd_ne (fun z => by rw [z, hm.new] at y; cases y)]
      exact n
    there := fun b u y _ => ⟨u, hm.keeps b u y⟩
    tups := fun b xs y => by rw [upd_ne (ne_of_none y hn)]; exact y
    frzs := fun b u xs y => by rw [upd_ne (ne_of_none y hn)]; exact y
    tbls := fun b ps y => ⟨#[], by rw [upd_ne (ne_of_none y hn), y]; simp⟩ }
  refine I.un (t' := tk) un ?_
  intro b u e
  by_cases hb : b = a
  · subst hb
    rw [upd_same] at e
    cases e
    exact exo_ok ht
  · rw [upd_ne hb] at e
    refine (I.hok b u e).stay (fun c v _ y => hm.keeps c v y) (fun c y => ?_) (fun c xs y => ?_)
    · rw [upd_ne (ne_of_none y hn)]; exact y
    · rw [upd_ne (ne_of_none y hn)]; exact y
/-- e.f, e an exception that is kept -/
def tXv (K : PySem.W.Frag) (f : Str) (te : TE) : TE := fun st H Q => te st H fun x H1 =>
  ∃ (a C d : Addr) (fs : List (Str × V)) (v : V), x = .ref a ∧ XfC K C ∧
    PySem.W.findIn K (.ref C) f = some none ∧ H1 a = some (exo a C (some d)) ∧
    H1 d = some (exd d fs) ∧ fs.lookup f = some v ∧ Q v H1
theorem inst_of {P : Program} {w : World} {H : Hp} {h : Heap} {a C : Addr}
    (hok : HOk P w H h) (e : H a = some (exo a C none)) :
    ∃ ob, PySem.W.InstAt h a ob C none := by
  obtain ⟨t1, ho⟩ := exo_at hok e
  exact ⟨_, ho, rfl, rfl, trivial⟩
theorem inst_of2 {P : Program} {w : World} {H : Hp} {h : Heap} {a C d : Addr} {fs : List (Str × V)}
    (hok : HOk P w H h) (e : H a = some (exo a C (some d))) (ed : H d = some (exd d fs)) :
    ∃ ob od, PySem.W.InstAt h a ob C (some od) ∧ h.get? d = some od := by
  obtain ⟨t1, ho⟩ := exo_at hok e
  obtain ⟨mA, hns, rel⟩ := exd_at hok ed
  obtain ⟨od, es, ep, hd, hr⟩ := hns
  exact ⟨_, od, ⟨ho, rfl, rfl, hd⟩, hd⟩
theorem pe_xv (he : PE X e te)
    (hb : attributeBase e f X.env (eval e X.env) = eval e X.env := by rfl) :
    PE X (.Attribute e f pos) (tXv X.K f te) := by
  refine ⟨fun pins s σ H Q I h => ?_⟩
  refine attr_of hb (thn (he.run pins s σ H _ I h) fun u s1 hh => ?_)
  obtain ⟨y, H1, I1, rx, a, C, d, fs, v, ex, T, hno, ea, ed, l, q⟩ := hh
  subst ex
  obtain rfl : u = Value.ref a := rx
  obtain ⟨t1, ho⟩ := exo_at I1.hok ea
  obtain ⟨mA, hns, rel⟩ := exd_at I1.hok ed
  obtain ⟨od, hd, hl⟩ := lookIn_ns hns
  have e1 : RelO (some v) (mA f) := by
    rw [← l]
    exact rel f
  obtain ⟨u2, hu, ru⟩ := RelO.some_of e1
  have J : PySem.W.InstAt s1.heap a _ C (some od) := ⟨ho, rfl, rfl, hd⟩
  exact HandSPX.exc_get I1.kIn J T.ga T.gg T.exC (PySem.W.findObj_own T.hdC hno rfl (by rw [hl, hu])) (handed_of ru) ⟨v, H1, I1.tok _, ru, q⟩
/-- what a class of errors must say so that isinstance is answered -/
structure IsC (K : PySem.W.Frag) (C : Addr) : Prop where
  hc : (PySem.W.clsIn K C).isSome = true
  hg : PySem.W.findIn K (.ref C) "__getattribute__" = some (some (.builtin "BaseException.__getattribute__"))
  hk : PySem.W.findIn K (.ref C) "__getattr__" = some none
  hs : PySem.W.subIn K (.ref C) (.type "BaseException") = some true
  ha : PySem.W.findIn K (.ref C) "__class__" = some (some (.builtin "object.__class__"))
  hn : PySem.W.specialIn K (.builtin "object.__class__") "__get__" = some (some (.builtin "getset_descriptor.__get__"))
  ht : PySem.W.takesIn K (.builtin "object.__class__") = some true
  hm : PySem.W.mroIn K C (.type "object") = some true
/-- at a stands an exception of the class at C -/
def ExAt (H : Hp) (a C : Addr) : Prop :=
  H a = some (exo a C none) ∨ ∃ d fs, H a = some (exo a C (some d)) ∧ H d = some (exd d fs)
def rIsV (K : PySem.W.Frag) : List V → Hp → VK → Prop := fun xs H Q =>
  ∃ (a C : Addr) (c : V) (cv : Value) (b : Bool), xs = [.ref a, c] ∧ (∀ u, RelV c u → u = cv) ∧
    ExAt H a C ∧ IsC K C ∧ PySem.W.kitOne K (.ref C) cv = some b ∧ Q (.bl b) H
theorem call_isV : CallR X (.builtin "isinstance") (rIsV X.K) := by
  intro pins s σ H xs us Q I r h
  obtain ⟨a, C, c, cv, b, rfl, hcv, ex, T, e1, q⟩ := h
  obtain ⟨u1, u2, rfl, r1, r2⟩ := vals2 r
  obtain rfl := hcv _ r2
  obtain rfl : u1 = Value.ref a := r1
  have done : ∀ tk, EP X pins σ Q (.bool b) { s with toks := tk } := fun tk => ⟨.bl b, H, I.tok tk, rfl, q⟩
  rcases ex with ex | ⟨d, fs, ex, ed⟩
  · obtain ⟨ob, J⟩ := inst_of I.hok ex
    exact PySem.W.kia_one (PySem.W.kitx_exc T.hc T.hg T.hk T.hs T.ha T.hn T.ht T.hm) I.kIn J e1 (fun z => nomatch z) done
  · obtain ⟨ob, od, J, _⟩ := inst_of2 I.hok ex ed
    exact PySem.W.kia_one (PySem.W.kitx_exc T.hc T.hg T.hk T.hs T.ha T.hn T.ht T.hm) I.kIn J e1 (fun z => nomatch z) done
end
end Vx

set_option Elab.async false
set_option linter.all false
set_option maxRecDepth 100000
set_option maxHeartbeats 2000000
/-! The head: facts by one Bool of the written part, defs by data. -/
namespace Vh
open PySem PySem.Spec PyProof.Rows L2
abbrev Fg := PySem.W.Frag
def obsB (f : Fg → Bool) (fn : List He.DefD) (K : Fg) : He.AlD :=
  (f K && fn.all fun d => d.ok K, fn.map fun d => He.fnW K d.at_)
def SaysB (f : Fg → Bool) (fn : List He.DefD) (K : Fg) : Prop := obsB f fn K = He.valD fn
def obsBG (n : Nat) (f : Fg → Bool) (fn : List He.DefD) (g : Addr → Option Obj) : He.AlD :=
  obsB f fn (He.frG g (He.asD g n))
def hookB (n : Nat) (f : Fg → Bool) (fn : List He.DefD) : PySem.W.Hook where
  α := He.AlD
  obs := fun s => obsBG n f fn s.heap.get?
  val := fun _ => He.valD fn
  says := fun _ h => ∃ K : Fg, K.In h ∧ SaysB f fn K
  of := fun _ _ e => ⟨_, He.frG_in, e⟩
  keeps := fun _ _ _ ⟨K, hK, c⟩ k => ⟨K, PySem.W.Frag.In.keeps hK k, c⟩
theorem obsBG_eq {n : Nat} {f : Fg → Bool} {fn : List He.DefD} {g : Addr → Option Obj} {s : Shared}
    (h : ∀ a, g a = s.heap.get? a) : obsBG n f fn g = (hookB n f fn).obs s := by
  have e : g = s.heap.get? := funext h
  rw [e] <;> rfl
section
variable {f : Fg → Bool} {fn : List He.DefD} {K : Fg}
theorem SaysB.fact (c : SaysB f fn K) : f K = true :=
  (He.ba (show (f K && fn.all fun d => d.ok K) = true from congrArg (fun z : He.AlD => z.1) c)).1
theorem SaysB.def_ (c : SaysB f fn K) (i : Nat) {d : He.DefD} (h : fn[i]? = some d := by rfl) :
    ∃ fd, FunD K d.name d.qual d.params d.body d.scope (d.dvs K) (d.kws K) (He.fAd K d.at_) fd := by
  have c2 := (He.ba (show (f K && fn.all fun d => d.ok K) = true from congrArg (fun z : He.AlD => z.1) c)).2
  have e : fn.map (fun d => He.fnW K d.at_) = fn.map He.DefD.val := congrArg (fun z : He.AlD => z.2) c
  have e2 : (fn.map fun d => He.fnW K d.at_)[i]? = (fn.map He.DefD.val)[i]? := by rw [e]
  rw [List.getElem?_map, List.getElem?_map, h] at e2
  exact He.DefD.funD (Option.some.inj e2) (List.all_eq_true.mp c2 d (List.mem_of_getElem? h))
end
/-- a def of the top, a method of a class of the top -/
def gD (st : Stmt) (x : Str) : He.DefD := ⟨(x, none), x, x, defArgs st, defBody st, defScope st, [], []⟩
def mD (st : Stmt) (c m q : Str) : He.DefD := ⟨(c, some m), m, q, defArgs st, defBody st, defScope st, [], []⟩
/-! the errors' classes -/
def headB (K : Fg) (C : Addr) (bm : List Value) (sl : List (Option Value)) (cd : ClassData) : Bool :=
  match sl with
  | [_, _, _, _, some (.builtin n), _] =>
    n == "ValueError.__new__" && (!cd.hasDel && (cd.hasDict && PySem.HandSPX.refsVE bm))
  | _ => false
def oexB (K : Fg) (C : Addr) : Bool :=
  match K.lookup C with
  | some ⟨.type "type", _, .cls cd, sl⟩ => (match cd.mro with
    | .ref D :: bm => D == C && headB K C bm sl.toList cd
    | _ => false)
  | _ => false
theorem oexB_ok {K : Fg} {C : Addr} (h : oexB K C = true) :
    ∃ nm q N bs bm sn sub ab col dd k0 k1 k2 k3 k5,
      K.lookup C = some (excClassObj nm q C N bs bm true sn sub ab col dd k0 k1 k2 k3 k5 "ValueError.__new__") ∧
        PySem.HandSPX.refsVE bm = true := by
  unfold oexB at h
  split at h
  · rename_i dd cd sl ho
    split at h
    · rename_i D bm hm
      obtain ⟨h1, h2⟩ := He.ba h
      unfold headB at h2
      split at h2
      · rename_i k0 k1 k2 k3 n k5 hs
        simp only [Bool.and_eq_true, beq_iff_eq, Bool.not_eq_true'] at h1 h2
        obtain ⟨h3, h4, h5, h6⟩ := h2
        subst h1 h3
        obtain ⟨nm, bs, mro, ns, qn, hd, sn, sub, ab, col, del⟩ := cd
        dsimp only at hm h4 h5
        subst hm h4 h5
        obtain ⟨l⟩ := sl
        dsimp only at hs
        subst hs
        exact ⟨nm, qn, ns, bs, bm, sn, sub, ab, col, dd, k0, k1, k2, k3, k5, ho, h6⟩
      · cases h2
    · cases h
  · cases h
/-- all that is asked of a class of errors -/
def errB (K : Fg) (C : Addr) : Bool :=
  oexB K C && (He.eqO (PySem.W.findIn K (.ref C) "__setattr__") (some (some (.builtin "object.__setattr__"))) &&
   (decide (PySem.W.subIn K (.ref C) (.type "BaseException") = some true) &&
   (decide (PySem.W.typeIn K (.ref C) = some (.type "type")) && (PySem.W.keepIn K (.ref C) && (xfB K C &&
   (He.eqO (PySem.W.findIn K (.ref C) "__class__") (some (some (.builtin "object.__class__"))) &&
    decide (PySem.W.mroIn K C (.type "object") = some true)))))))
def takB (K : Fg) : Bool :=
  He.eqO (PySem.W.specialIn K (.builtin "object.__class__") "__get__") (some (some (.builtin "getset_descriptor.__get__"))) &&
    decide (PySem.W.takesIn K (.builtin "object.__class__") = some true)
theorem errB_ok {K : Fg} {C : Addr} (h : errB K C = true) (hk : takB K = true) : OexC K C ∧ XfC K C ∧ Vx.IsC K C := by
  obtain ⟨h1, h⟩ := He.ba h
  obtain ⟨h2, h⟩ := He.ba h
  obtain ⟨h3, h⟩ := He.ba h
  obtain ⟨h4, h⟩ := He.ba h
  obtain ⟨h5, h⟩ := He.ba h
  obtain ⟨h6, h⟩ := He.ba h
  obtain ⟨h7, h8⟩ := He.ba h
  obtain ⟨k1, k2⟩ := He.ba hk
  have X := xfB_ok h6
  have c := oexB_ok h1
  refine ⟨⟨c, He.eqO_ok h2, of_decide_eq_true h3, of_decide_eq_true h4, h5⟩, X, ?_⟩
  refine ⟨?_, X.ga, X.gg, X.exC, He.eqO_ok h7, He.eqO_ok k1, of_decide_eq_true k2, of_decide_eq_true h8⟩
  obtain ⟨nm, q, N, bs, bm, sn, sub, ab, col, dd, k0, k1, k2, k3, k5, hC, hbm⟩ := c
  unfold PySem.W.clsIn
  rw [hC]
  rfl
/-- its own __init__ at f1, no field named f in the class -/
def iniB (K : Fg) (C : Addr) (fs : List Str) : Bool :=
  He.eqO (PySem.W.findIn K (.ref C) "__init__") (some (some (.ref (He.ma K C "__init__")))) &&
  (decide (PySem.W.typeIn K (.ref (He.ma K C "__init__")) = some (.type "function")) &&
   fs.all fun f => He.eqO (PySem.W.findIn K (.ref C) f) (some none))
structure Ini (K : Fg) (C : Addr) (fs : List Str) : Prop where
  iC : PySem.W.findIn K (.ref C) "__init__" = some (some (.ref (He.ma K C "__init__")))
  tI : PySem.W.typeIn K (.ref (He.ma K C "__init__")) = some (.type "function")
  no : ∀ f ∈ fs, PySem.W.findIn K (.ref C) f = some none
theorem iniB_ok {K : Fg} {C : Addr} {fs : List Str} (h : iniB K C fs = true) : Ini K C fs := by
  obtain ⟨h1, h⟩ := He.ba h
  obtain ⟨h2, h3⟩ := He.ba h
  exact ⟨He.eqO_ok h1, of_decide_eq_true h2, fun f hf => He.eqO_ok (List.all_eq_true.mp h3 f hf)⟩
end Vh

set_option Elab.async false
set_option linter.all false
set_option maxRecDepth 100000
set_option maxHeartbeats 2000000
/-! The head, with the getters of properties. -/
namespace Vh
open PySem PySem.Spec PyProof.Rows L2
/-- the getter of the property f of the class named c -/
def pgA (K : Fg) (c f : Str) : Addr := match PySem.W.recIn K (He.ma K (He.ga K c) f) "property" with
  | some (.ref g :: _) => g
  | _ => 0
def fnX (K : Fg) (a : Addr) : He.FnW := match K.lookup a with
  | some ⟨_, _, .func x, _⟩ => some (x.name, x.qualname, x.params, x.body, x.scope, x.globals, x.closure, x.builtins)
  | _ => none
def okX (K : Fg) (a : Addr) (q : Str) : Bool := PySem.W.keepIn K (.ref a) && (match K.lookup a with
  | some ⟨_, _, .func x, _⟩ => PySem.W.codeIn K x.code q && (He.dflB K x.defaults [] && He.kwdB K x.kwdefaults [])
  | _ => false)
theorem funX {K : Fg} {a : Addr} {d : He.DefD} (e : fnX K a = d.val) (c : okX K a d.qual = true) : ∃ fd, FunD K d.name d.qual d.params d.body d.scope [] [] a fd := by
  obtain ⟨kp, c2⟩ := He.ba c
  unfold fnX at e
  cases q : K.lookup a with
  | none =>
    rw [q] at c2
    cases c2
  | some o =>
    obtain ⟨w1, w2, w3, w4⟩ := o
    rw [q] at c2 e
    cases w3 with
    | func x =>
      obtain ⟨n1, n2, n3, n4, n5, n6, n7, n8, n9, n10, n11, n12, n13, n14, n15⟩ := x
      have e3 : (some (n1, n2, n3, n4, n5, n6, n7, n15) : He.FnW) = some (d.name, d.qual, d.params, .stmts d.body, d.scope, mainGlobals, [], builtinsNs) := e
      injection e3 with e3
      injection e3 with h1 e3
      injection e3 with h2 e3
      injection e3 with h3 e3
      injection e3 with h4 e3
      injection e3 with h5 e3
      injection e3 with h6 e3
      injection e3 with h7 h8
      subst h1 h2 h3 h4 h5 h6 h7 h8
      have c4 : (PySem.W.codeIn K n13 d.qual && (He.dflB K n8 [] && He.kwdB K n9 [])) = true := c2
      obtain ⟨g1, g2⟩ := He.ba c4
      obtain ⟨g3, g4⟩ := He.ba g2
      exact ⟨_, ⟨w1, w2, n8, n9, n10, n11, n12, n13, n14, w4, rfl, q, g1, He.dflB_ok g3, He.kwdB_ok g4⟩, kp⟩
    | _ => cases c2
abbrev PrD : Type := (Str × Str) × He.DefD
def obsP (f : Fg → Bool) (fn : List He.DefD) (pr : List PrD) (K : Fg) : He.AlD :=
  (f K && (fn.all (fun d => d.ok K) && pr.all fun q => okX K (pgA K q.1.1 q.1.2) q.2.qual), fn.map (fun d => He.fnW K d.at_) ++ pr.map fun q => fnX K (pgA K q.1.1 q.1.2))
def valP (fn : List He.DefD) (pr : List PrD) : He.AlD := (true, fn.map He.DefD.val ++ pr.map fun q => q.2.val)
def SaysP (f : Fg → Bool) (fn : List He.DefD) (pr : List PrD) (K : Fg) : Prop := obsP f fn pr K = valP fn pr
def obsPG (n : Nat) (f : Fg → Bool) (fn : List He.DefD) (pr : List PrD) (g : Addr → Option Obj) : He.AlD :=
  obsP f fn pr (He.frG g (He.asD g n))
def hookP (n : Nat) (f : Fg → Bool) (fn : List He.DefD) (pr : List PrD) : PySem.W.Hook where
  α := He.AlD
  obs := fun t => obsPG n f fn pr t.heap.get?
  val := fun _ => valP fn pr
  says := fun _ h => ∃ K : Fg, K.In h ∧ SaysP f fn pr K
  of := fun _ _ e => ⟨_, He.frG_in, e⟩
  keeps := fun _ _ _ ⟨K, hK, c⟩ k => ⟨K, PySem.W.Frag.In.keeps hK k, c⟩
theorem obsPG_eq {n : Nat} {f : Fg → Bool} {fn : List He.DefD} {pr : List PrD} {g : Addr → Option Obj} {t : Shared}
    (h : ∀ a, g a = t.heap.get? a) : obsPG n f fn pr g = (hookP n f fn pr).obs t := by
  have e : g = t.heap.get? := funext h
  rw [e] <;> rfl
section
variable {f : Fg → Bool} {fn : List He.DefD} {pr : List PrD} {K : Fg}
theorem SaysP.one (c : SaysP f fn pr K) : f K = true ∧ (∀ d ∈ fn, d.ok K = true) ∧ ∀ q ∈ pr, okX K (pgA K q.1.1 q.1.2) q.2.qual = true := by
  obtain ⟨h1, h2⟩ := He.ba (show (f K && (fn.all (fun d => d.ok K) && pr.all fun q => okX K (pgA K q.1.1 q.1.2) q.2.qual)) = true from congrArg (fun z : He.AlD => z.1) c)
  obtain ⟨h3, h4⟩ := He.ba h2
  exact ⟨h1, List.all_eq_true.mp h3, List.all_eq_true.mp h4⟩
theorem SaysP.two (c : SaysP f fn pr K) : fn.map (fun d => He.fnW K d.at_) = fn.map He.DefD.val ∧ pr.map (fun q => fnX K (pgA K q.1.1 q.1.2)) = pr.map fun q => q.2.val := by
  have e : fn.map (fun d => He.fnW K d.at_) ++ pr.map (fun q => fnX K (pgA K q.1.1 q.1.2)) = fn.map He.DefD.val ++ pr.map fun q => q.2.val := congrArg (fun z : He.AlD => z.2) c
  exact List.append_inj e (by rw [List.length_map, List.length_map])
theorem SaysP.def_ (c : SaysP f fn pr K) (i : Nat) {d : He.DefD} (h : fn[i]? = some d := by rfl) :
    ∃ fd, FunD K d.name d.qual d.params d.body d.scope (d.dvs K) (d.kws K) (He.fAd K d.at_) fd := by
  have e2 : (fn.map fun d => He.fnW K d.at_)[i]? = (fn.map He.DefD.val)[i]? := by rw [c.two.1]
  rw [List.getElem?_map, List.getElem?_map, h] at e2
  exact He.DefD.funD (Option.some.inj e2) (c.one.2.1 d (List.mem_of_getElem? h))
theorem SaysP.prp (c : SaysP f fn pr K) (i : Nat) {q : PrD} (h : pr[i]? = some q := by rfl) :
    ∃ fd, FunD K q.2.name q.2.qual q.2.params q.2.body q.2.scope [] [] (pgA K q.1.1 q.1.2) fd := by
  have e2 : (pr.map fun q => fnX K (pgA K q.1.1 q.1.2))[i]? = (pr.map fun q => q.2.val)[i]? := by rw [c.two.2]
  rw [List.getElem?_map, List.getElem?_map, h] at e2
  exact funX (Option.some.inj e2) (c.one.2.2 q (List.mem_of_getElem? h))
end
end Vh

set_option Elab.async false
set_option linter.all false
set_option maxRecDepth 100000
set_option maxHeartbeats 2000000
namespace Vl
open PySem PySem.Spec PyProof.Rows L2
theorem pe_weak {X : Cx} {e : Expr} {t t' : TE} (h : PE X e t) (w : ∀ s H Q, t' s H Q → t s H Q) : PE X e t' :=
  ⟨fun pins s σ H Q I q => h.run pins s σ H Q I (w σ H Q q)⟩
theorem pa_weak {X : Cx} {es : List Expr} {t t' : TA} (h : PA X es t) (w : ∀ s H Q, t' s H Q → t s H Q) : PA X es t' :=
  ⟨fun pos pins s σ H Q I q => h.run pos pins s σ H Q I (w σ H Q q)⟩
theorem s_seq {t u : TS} {D : Ends} {st : L2.St} {H : Hp} (h : t { D with nx := u D } st H) : tSeq t u D st H := h
def tMono (te : TE) : TE := fun s H Q => ∃ R : VK, te s H R ∧ ∀ v H1, R v H1 → Q v H1
theorem pe_mono {X : Cx} {e : Expr} {t : TE} (h : PE X e t) : PE X e (tMono t) :=
  ⟨fun pins s σ H Q I ⟨R, q, w⟩ => thn (h.run pins s σ H R I q) fun _ _ ⟨v, H1, I1, r, k⟩ => ⟨v, H1, I1, r, w v H1 k⟩⟩
theorem same_upd {H : Hp} {p : Addr} {o : HO} (h : H p = none) : Same H (upd H p o) := by
  intro b x e
  rw [upd_ne (ne_of_none e h)]
  exact e
theorem same_sqt {K : PySem.W.Frag} {H H' : Hp} {a : Addr} {xs : List V} (e : Same H H') (h : SqT K H a xs) : SqT K H' a xs := by
  rcases h with (h | ⟨o, h⟩) | h
  · exact .inl (.inl (e _ _ h))
  · exact .inl (.inr ⟨o, e _ _ h⟩)
  · exact .inr h
mutual
theorem dp_same {K : PySem.W.Frag} {H H' : Hp} (e : Same H H') : ∀ {v : V} {d : PyData}, Dp K H v d → Dp K H' v d
  | _, _, .non => .non
  | _, _, .bl b => .bl b
  | _, _, .int i => .int i
  | _, _, .str x => .str x
  | _, _, .lst h hs => .lst (e.seq h) (dpa_same e hs)
  | _, _, .tup h hs => .tup (same_sqt e h) (dpa_same e hs)
theorem dpa_same {K : PySem.W.Frag} {H H' : Hp} (e : Same H H') : ∀ {v : List V} {d : List PyData}, DpAll K H v d → DpAll K H' v d
  | _, _, .nil => .nil
  | _, _, .cons h hs => .cons (dp_same e h) (dpa_same e hs)
end
theorem dpa_rep {K : PySem.W.Frag} {H : Hp} {v : V} {d : PyData} (h : Dp K H v d) : ∀ n, DpAll K H (List.replicate n v) (List.replicate n d)
  | 0 => .nil
  | n + 1 => .cons h (dpa_rep h n)
theorem dpa_bl {K : PySem.W.Frag} {H : Hp} : ∀ bs : List Bool, DpAll K H (bs.map V.bl) (bs.map PyData.bool)
  | [] => .nil
  | b :: r => .cons (.bl b) (dpa_bl r)
/-- data that may be compared -/
def Low (d : PyData) : Prop := d.canLay0 = true ∧ d.depth ≤ 10
theorem low_rep {d : PyData} (h : Low d) : ∀ n, PyData.canLayAll0 (List.replicate n d) = true ∧ PyData.depthAll (List.replicate n d) ≤ 10
  | 0 => ⟨rfl, by show 0 ≤ 10; omega⟩
  | n + 1 => by
    obtain ⟨h1, h2⟩ := low_rep h n
    rw [List.replicate_succ]
    refine ⟨?_, ?_⟩
    · show (d.canLay0 && PyData.canLayAll0 (List.replicate n d)) = true
      rw [h.1, h1]
      rfl
    · show max d.depth (PyData.depthAll (List.replicate n d)) ≤ 10
      exact Nat.max_le.mpr ⟨h.2, h2⟩
theorem shaped_of {d : PyData} (h1 : d.canLay0 = true) (h2 : d.depth ≤ 64) : SeqAt.shaped d = true := by
  unfold SeqAt.shaped
  rw [h1, decide_eq_true h2]
  rfl
theorem low_bl : ∀ bs : List Bool, PyData.canLayAll0 (bs.map PyData.bool) = true ∧ PyData.depthAll (bs.map PyData.bool) = 0
  | [] => ⟨rfl, rfl⟩
  | b :: r => by
    obtain ⟨h1, h2⟩ := low_bl r
    refine ⟨?_, ?_⟩
    · show (true && PyData.canLayAll0 (r.map PyData.bool)) = true
      rw [h1]
      rfl
    · show max 0 (PyData.depthAll (r.map PyData.bool)) = 0
      rw [h2]
      rfl
theorem eqv_same {d : PyData} (h : d.canLay0 = true) : PyData.eqv d d = true := SeqAt.eqv_refl d h
theorem strOk_of (s : String) : PyData.strOk (Str.ofString s) = true := by
  unfold PyData.strOk
  rw [← Array.all_toList, PyProof.Rows.signs_ofString, List.all_eq_true]
  intro c hc
  obtain ⟨x, _, rfl⟩ := List.mem_map.mp hc
  refine decide_eq_true ?_
  have h := x.valid
  have : x.toNat = x.val.toNat := rfl
  rcases h with h | ⟨_, h⟩
  · rw [this]; exact Nat.lt_trans h (by decide)
  · rw [this]; exact h
theorem strOk_app {a b : Str} (ha : PyData.strOk a = true) (hb : PyData.strOk b = true) : PyData.strOk (a ++ b) = true := by
  unfold PyData.strOk at *
  show ((a.cps ++ b.cps).all _) = true
  rw [Array.all_append, ha, hb]
  rfl
def EvP (te : TE) (st : L2.St) (H : Hp) (P : V → Hp → Prop) : Prop :=
  ∀ H1, Evl.Ex H H1 → ∀ Q : VK, (∀ x H2, Evl.Ex H1 H2 → P x H2 → Q x H2) → te st H1 Q
def EvAP (ta : TA) (st : L2.St) (H : Hp) (P : List V → Hp → Prop) : Prop :=
  ∀ H1, Evl.Ex H H1 → ∀ Q : List V → Hp → Prop, (∀ x H2, Evl.Ex H1 H2 → P x H2 → Q x H2) → ta st H1 Q
theorem eap_nil {st : L2.St} {H : Hp} : EvAP tNil st H (fun xs _ => xs = []) :=
  fun H1 _ Q q => q [] H1 (Evl.Ex.refl H1) rfl
theorem eap_cons {te : TE} {tr : TA} {st : L2.St} {H : Hp} {P : V → Hp → Prop} {R : List V → Hp → Prop}
    (h : EvP te st H P) (hr : EvAP tr st H R) (mono : ∀ x H1 H2, Evl.Ex H1 H2 → P x H1 → P x H2) :
    EvAP (tCons te tr) st H (fun vs H1 => ∃ x xs, vs = x :: xs ∧ P x H1 ∧ R xs H1) := by
  intro H1 e Q q
  refine h H1 e _ fun x H2 e2 p => ?_
  refine hr H2 (e.trans e2) _ fun xs H3 e3 r => ?_
  exact q _ H3 (e2.trans e3) ⟨x, xs, rfl, mono x H2 H3 e3 p, r⟩
/-- an error: its class at C, its only field f holding v -/
def ErrV (H : Hp) (a C : Addr) (f : Str) (v : V) : Prop :=
  ∃ d, H a = some (exo a C (some d)) ∧ H d = some (exd d [(f, v)])
theorem ErrV.mono {H H' : Hp} {a C : Addr} {f : Str} {v : V} (e : Evl.Ex H H') (h : ErrV H a C f v) : ErrV H' a C f v := by
  obtain ⟨d, h1, h2⟩ := h
  exact ⟨d, e _ _ h1, e _ _ h2⟩
theorem ErrV.at_ {H : Hp} {a C : Addr} {f : Str} {v : V} (h : ErrV H a C f v) : Vx.ExAt H a C := by
  obtain ⟨d, h1, h2⟩ := h
  exact .inr ⟨d, _, h1, h2⟩
theorem exAt_mono {H H' : Hp} {a C : Addr} (e : Evl.Ex H H') (h : Vx.ExAt H a C) : Vx.ExAt H' a C := by
  rcases h with h | ⟨d, fs, h1, h2⟩
  · exact .inl (e _ _ h)
  · exact .inr ⟨d, fs, e _ _ h1, e _ _ h2⟩
def Errs (v : V) : List (Addr × Str) → List V → Hp → Prop
  | [], xs, _ => xs = []
  | (C, f) :: r, xs, H => ∃ a ys, xs = .ref a :: ys ∧ ErrV H a C f v ∧ Errs v r ys H
theorem Errs.mono {v : V} {H H' : Hp} (e : Evl.Ex H H') : ∀ {l : List (Addr × Str)} {xs : List V}, Errs v l xs H → Errs v l xs H'
  | [], _, h => h
  | (C, f) :: r, _, h => by
    obtain ⟨a, ys, h1, h2, h3⟩ := h
    exact ⟨a, ys, h1, h2.mono e, Errs.mono e h3⟩
theorem Errs.len {v : V} {H : Hp} : ∀ {l : List (Addr × Str)} {xs : List V}, Errs v l xs H → xs.length = l.length
  | [], _, h => by
    rw [show _ = [] from h]
    rfl
  | (C, f) :: r, _, h => by
    obtain ⟨a, ys, h1, h2, h3⟩ := h
    rw [h1, List.length_cons, List.length_cons, Errs.len h3]
theorem Errs.app {v : V} {H : Hp} : ∀ {l m : List (Addr × Str)} {xs ys : List V}, Errs v l xs H → Errs v m ys H → Errs v (l ++ m) (xs ++ ys) H
  | [], m, xs, ys, h, h' => by
    rw [show xs = [] from h]
    exact h'
  | (C, f) :: r, m, xs, ys, h, h' => by
    obtain ⟨a, zs, h1, h2, h3⟩ := h
    rw [h1]
    exact ⟨a, zs ++ ys, rfl, h2, Errs.app h3 h'⟩
theorem Errs.get {v : V} {H : Hp} : ∀ {l : List (Addr × Str)} {xs : List V} {i : Nat} {x : V}, Errs v l xs H → xs[i]? = some x →
    ∃ C f a, l[i]? = some (C, f) ∧ x = .ref a ∧ ErrV H a C f v
  | [], xs, i, x, h, hi => by
    rw [show xs = [] from h] at hi
    cases hi
  | (C, f) :: r, xs, 0, x, h, hi => by
    obtain ⟨a, ys, h1, h2, h3⟩ := h
    rw [h1] at hi
    have e : V.ref a = x := Option.some.inj hi
    exact ⟨C, f, a, rfl, e.symm, h2⟩
  | (C, f) :: r, xs, i + 1, x, h, hi => by
    obtain ⟨a, ys, h1, h2, h3⟩ := h
    rw [h1] at hi
    exact Errs.get (i := i) h3 hi
theorem given_rep (v : V) : ∀ n, Evl.given n (fun _ => true) (fun _ => v) = List.replicate n v := by
  intro n
  induction n with
  | zero => rfl
  | succ n ih =>
    rw [Evl.given_yes rfl, ih, ← List.replicate_succ']
/-- __init__(self, f): self.f = f -/
def spIni (C : Addr) (f : Str) : Sp := fun vs H Q _ => ∃ (a : Addr) (v : V), vs = [.ref a, v] ∧ H a = some (exo a C none) ∧
  ∀ dx, H dx = none → dx ≠ a → Q .non (upd (upd H dx (exd dx [(f, v)])) a (exo a C (some dx)))
section
variable {P : Program} {w : World} {K : PySem.W.Frag} {mg : Str → Option Value} {base : Heap}
theorem ok_ini1 {f qual : Str} {pa : Arguments} {bd : List Stmt} {sc : Scope} {fI C : Addr} {fd : FuncData} {p1 p2 p3 p4 : Pos}
    (F : FunD K "__init__" qual pa bd sc [] [] fI fd) (S : FnScope ["self", f] ["self", f] sc)
    (hb : bd = [.Assign [.Attribute (.Name "self" p1) f p2] (.Name f p3) p4]) (T : OexC K C)
    (no : PySem.W.findIn K (.ref C) f = some none) (hd : (f == ("__debug__" : Str)) = false)
    (hc : (f == ("__classdict__" : Str)) = false) : FnOk P w K mg base CX0 1 fI fd ["self", f] (spIni C f) := by
  refine F.ok (CX := CX0) S (fun vs H Q E h => ?_) (fun cdv A outer s H vs Q E hr h => ?_)
  · obtain ⟨a, v, rfl, _⟩ := h
    rfl
  · rw [hb]
    have v0 := vis_par S (x := "self") List.mem_cons_self
    have v1 := vis_par S (x := f) (List.mem_cons_of_mem _ List.mem_cons_self)
    refine ⟨_, (pss_one (ps_ost (pe_var (i := 0) rfl v0) (pe_var (i := 1) rfl v1 hd hc))), ?_⟩
    obtain ⟨a, v, rfl, ha, q⟩ := h
    exact ⟨v, rfl, .ref a, rfl, a, C, rfl, T, no, .inl ⟨ha, fun dx h1 h2 => q dx h1 h2⟩⟩
end
section
variable {X : Cx} {C fI : Addr} {k : Nat} {fd : FuncData} {e : Expr} {te : TE} {x f : Str} {p pos : Pos}
def tErr (C : Addr) (f : Str) (te : TE) : TE := fun st H Q => te st H fun v H1 =>
  ∀ a H2, H1 a = none → Same H1 H2 → ErrV H2 a C f v → Q (.ref a) H2
theorem pe_err (T : OexC X.K C)
    (iC : PySem.W.findIn X.K (.ref C) "__init__" = some (some (.ref fI)))
    (tI : PySem.W.typeIn X.K (.ref fI) = some (.type "function"))
    (F1 : FnOk X.prog X.w X.K X.mg X.base CX0 k fI fd ["self", f] (spIni C f))
    (hr : Room (k + 1) X.A) (hb : Binds X.K fd ["self", f] []) (hg : Gl X x)
    (hm : X.mg x = some (.ref C)) (ha : PE X e te)
    (hdb : (x == ("__debug__" : Str)) = false := by decide)
    (hs : starEach [e] X.env = (false, eval e X.env) :: starEach [] X.env := by rfl) :
    PE X (.Call (.Name x p) [e] [] pos) (tErr C f te) := by
  have ha2 : PE X e (tMono te) := pe_mono ha
  refine pe_weak (Vx.pe_mkV T iC tI F1 hr hb hg hm (pa_cons ha2 pa_nil hs) hdb hs (by rfl)) ?_
  intro st H Q h
  refine ⟨_, h, fun v H1 q => ⟨by show 1 ≤ 1000; omega, fun a na => ?_⟩⟩
  refine ⟨a, v, rfl, upd_same, fun dx n1 n2 => ⟨rfl, ?_⟩⟩
  have nd : H1 dx = none := by rw [upd_ne n2] at n1; exact n1
  refine q a _ na (fun b o hb => ?_) ⟨dx, upd_same, ?_⟩
  · rw [upd_ne (ne_of_none hb na), upd_ne (ne_of_none hb nd), upd_ne (ne_of_none hb na)]
    exact hb
  · rw [upd_ne n2, upd_same]
end
end Vl

set_option Elab.async false
set_option linter.all false
set_option maxRecDepth 100000
set_option maxHeartbeats 2000000
/-! Operators that a class of the program defines: by its methods' promises. -/
namespace Vo
open PySem PySem.Spec PyProof.Rows L2
section
variable {X : Cx} {CX : CXT} {k : Nat} {f C : Addr} {fd : FuncData} {ps : List Str} {sp : Sp}
variable {pins : List (Addr × Obj)} {σ : L2.St} {H : Hp} {s : Shared} {Q : VK} {us : List Value} {vs : List V} {E : XK}
/-- a method called one level further in -/
theorem run_in1 (F : FnOk X.prog X.w X.K X.mg X.base CX k f fd ps sp) (hr : Room (k + 1) X.A) (hb : Binds X.K fd ps [])
    (hx : PassesAt CX X σ E) (I : Inv X pins σ H s) (r : Vals vs us) (h : sp vs H Q E) :
    wpAny (model X.prog X.w) X.A.in1 (call (.ref f) us) (EP X pins σ Q) X.xe s := by
  have hl : us.length = ps.length := by
    rw [← r.length]
    exact F.len _ _ _ _ h
  have b := hb s us I.kIn (by rw [List.append_nil]; exact hl)
  rw [List.append_nil] at b
  have run := F.run X.A.in1 X.stack s H ⟨us, []⟩ us vs Q E hr.in1 I.env0.in1 b r h
  refine wpAny_call (codeAny_mono run ?_)
  intro z s' hq
  cases z with
  | error e => exact hx pins H s e s' I hq
  | ok fl =>
    cases fl with
    | ret u => exact I.after hq
    | next => exact False.elim hq
    | brk => exact False.elim hq
    | cont => exact False.elim hq
/-- the same where it stands -/
theorem run_here (F : FnOk X.prog X.w X.K X.mg X.base CX k f fd ps sp) (hr : Room k X.A) (hb : Binds X.K fd ps [])
    (hx : PassesAt CX X σ E) (I : Inv X pins σ H s) (r : Vals vs us) (h : sp vs H Q E) :
    wpAny (model X.prog X.w) X.A (call (.ref f) us) (EP X pins σ Q) X.xe s :=
  run_fnS (E := fun _ => E) F hr hb hx I r h
end
section
variable {X : Cx} {CX : CXT} {k : Nat} {f C : Addr} {fd : FuncData} {ps : List Str} {sp : Sp} {E : L2.St → XK}
variable {a b : Expr} {ta tb : TE} {pos : Pos}
/-- one operand an instance of the class at C -/
def tOwn1 (C : Addr) (sp : Sp) (E : L2.St → XK) (ta : TE) : TE := fun st H Q => ta st H fun x H1 =>
  ∃ o dx fs, x = .ref o ∧ H1 o = some (.ins C dx fs) ∧ sp [x] H1 Q (E st)
/-- the left one of two -/
def tOwn2 (C : Addr) (R : V → Prop) (sp : Sp) (E : L2.St → XK) (ta tb : TE) : TE := fun st H Q => ta st H fun x H1 => tb st H1 fun y H2 =>
  ∃ o dx fs, x = .ref o ∧ H2 o = some (.ins C dx fs) ∧ R y ∧ sp [x, y] H2 Q (E st)
theorem inst_at {pins : List (Addr × Obj)} {σ : L2.St} {H : Hp} {s : Shared} {o dx : Addr} {fs : List (Str × V)} (I : Inv X pins σ H s) (ea : H o = some (.ins C dx fs)) :
    ∃ ob od, PySem.W.InstAt s.heap o ob C (some od) := by
  obtain ⟨mA, O, _, _, _, _⟩ := ins_get I.hok ea
  obtain ⟨od, J, _⟩ := O.look
  exact ⟨_, od, J⟩
/-- o[i] -/
theorem pe_ixO (M : Meth X.K C "__getitem__" f) (hf : PySem.W.fnIn X.K f = true) (F : FnOk X.prog X.w X.K X.mg X.base CX k f fd ps sp) (hr : Room (k + 1) X.A) (hb : Binds X.K fd ps [])
    (hx : ∀ st, PassesAt CX X st (E st)) (ha : PE X a ta) (hi : PE X b tb)
    (hs : ∀ o i, subscripted b true (.ref o) i = runValue (.builtin "lifetime.subscript" ⟨[.ref o, i], []⟩)) :
    PE X (.Subscript a b pos) (tOwn2 C (fun _ => True) sp E ta tb) := by
  refine ⟨fun pins s σ H Q I h => ?_⟩
  refine Subscript_ (binT ha hi I h fun v u s2 x y H2 I2 rx ry q => ?_)
  obtain ⟨o, dx, fs, rfl, eo, _, q⟩ := q
  obtain rfl : v = Value.ref o := rx
  obtain ⟨ob, od, J⟩ := inst_at I2 eo
  obtain ⟨m, fr⟩ := I2.fr
  exact PySem.W.sub_K fr I2.ok.mod.kin J M.at_ hf M.fn (run_in1 F hr hb (hx σ) I2 (Paired.cons (show RelV (V.ref o) (Value.ref o) from rfl) (.cons ry .nil)) q) (hs o u)
/-- -o -/
theorem pe_negO (M : Meth X.K C "__neg__" f) (F : FnOk X.prog X.w X.K X.mg X.base CX k f fd ps sp) (hr : Room k X.A) (hb : Binds X.K fd ps [])
    (hx : ∀ st, PassesAt CX X st (E st)) (ha : PE X a ta) : PE X (.UnaryOp .USub a pos) (tOwn1 C sp E ta) := by
  refine ⟨fun pins s σ H Q I h => ?_⟩
  refine UnaryOp_ (thn (ha.run pins s σ H _ I h) fun v s1 ⟨x, H1, I1, r1, q1⟩ => ?_)
  obtain ⟨o, dx, fs, rfl, eo, q⟩ := q1
  obtain rfl : v = Value.ref o := r1
  obtain ⟨ob, od, J⟩ := inst_at I1 eo
  obtain ⟨m, fr⟩ := I1.fr
  exact PySem.W.ksp_neg fr I1.ok.mod.kin J M.at_ M.fn (run_here F hr hb (hx σ) I1 (Paired.cons (show RelV (V.ref o) (Value.ref o) from rfl) .nil) q)
end
section
variable {X : Cx} {CX : CXT} {k : Nat} {f C : Addr} {fd : FuncData} {ps : List Str} {sp : Sp} {E : L2.St → XK}
variable {a b : Expr} {ta tb : TE} {pos : Pos}
/-- what comes back is no NotImplemented: any V's value -/
theorem cmp_back {pins : List (Addr × Obj)} {σ : L2.St} {Q : VK} {u : Value} {s' : Shared} (h : EP X pins σ Q u s') : PySem.W.CmpBack (EP X pins σ Q) u s' := by
  obtain ⟨v, H', I, r, q⟩ := h
  have hn : u ≠ .notImplemented := by
    intro z
    subst z
    cases v with
    | non => cases r
    | bl b => cases r
    | int i => obtain ⟨t, z⟩ := r; cases z
    | str x => obtain ⟨t, z⟩ := r; cases z
    | byt x => obtain ⟨t, z⟩ := r; cases z
    | flt x => obtain ⟨t, z⟩ := r; cases z
    | ref a => cases r
    | ty n => cases r
  have k : EP X pins σ Q u s' := ⟨v, H', I, r, q⟩
  unfold PySem.W.CmpBack
  cases u with
  | notImplemented => exact absurd rfl hn
  | _ => exact k
/-- the class's own operators: what the written part must say -/
structure OwnOp (K : PySem.W.Frag) (C : Addr) (nm : String) (f : Addr) : Prop where
  fst : PySem.W.selfFirst K C = true
  at_ : PySem.W.findIn K (.ref C) (PySem.dunder nm) = some (some (.ref f))
  fn : PySem.W.isFn K (.ref f) = true
  r : PySem.W.findIn K (.ref C) (dunderR nm) = some none
/-- the right operand is of the built-in type T, which knows nothing of C -/
structure Far (K : PySem.W.Frag) (C : Addr) (nm T : String) : Prop where
  h1 : ∃ fo, PySem.W.findIn K (.type T) (PySem.dunder nm) = some fo
  h2 : ∃ ro, PySem.W.findIn K (.type T) (dunderR nm) = some ro
  sub : PySem.W.subIn K (.type T) (.ref C) = some false
theorem own_bin {prog : Program} {w : World} {A : Around} {Er : Value → Shared → Prop} {s : Shared} {K : PySem.W.Frag} {x C L f : Addr} {h0 : Heap} {m : Str → Option Value} {ox : Obj} {od : Option Obj} {T : String}
    {op : Operator} {b : Value} {Q : Value → Shared → Prop} (F : Fr h0 L s.heap m) (X0 : K.In h0) (I : PySem.W.InstAt s.heap x ox C od)
    (hb : PySem.W.Looks (model prog w) s.heap (typeOf b) (.type T)) (W : OwnOp K C op.info.2 f) (Z : Far K C op.info.2 T)
    (h : wpAny (model prog w) A (call (.ref f) [.ref x, b]) (PySem.W.CmpBack Q) Er s) : wpAny (model prog w) A (binaryOp op (.ref x) b) Q Er s := by
  have X := X0.keeps F.keep
  obtain ⟨cd, rest, hcd, hm⟩ := PySem.W.ksp_first W.fst
  obtain ⟨fo, h1⟩ := Z.h1
  obtain ⟨ro, h2⟩ := Z.h2
  have one := PySem.W.ksp_try X I W.at_ W.fn h
  rcases hi : op.info with ⟨sym, nm⟩
  have wa := W.at_
  have wr := W.r
  rw [hi] at wa wr h1 h2
  rw [hi] at one
  dsimp only at wa wr h1 h2 one
  obtain ⟨hh, g, d, tt, os⟩ := s
  have a1 : PySem.W.Looks (model prog w) hh (typeOf (.ref x)) (.ref C) := I.type
  have a2 : PySem.W.Looks (model prog w) hh (typeOf b) (.type T) := hb
  have a3 := PySem.W.fills_K (M := model prog w) X hcd hm wa
  have a4 := PySem.W.ksp_fillsT (M := model prog w) X h1 h2
  have a5 := PySem.W.looks_subIn (M := model prog w) X Z.sub
  have a6 := PySem.W.ksp_inPy (M := model prog w) X wa wr (.inl rfl)
  have a7 : PySem.W.Looks (model prog w) hh (numberSlotInPython (.type T) nm) false := PySem.W.Looks.of_pure rfl
  have a8 := PySem.W.looks_findIn (M := model prog w) X h2
  revert a4
  generalize ((fo.isSome && !isSeqSlot fo) || (ro.isSome && !isSeqSlot ro)) = rt
  intro a4
  have ne : (Value.ref C == Value.type T) = false := by
    refine Bool.eq_false_iff.mpr fun q => ?_
    cases beq_iff_eq.mp q
  simp only [binaryOp, hi]
  refine wpAny_holding (wpAny_bind ?_)
  unfold binaryOp1
  refine wpAny_bind (a1.at (wpAny_bind (a2.at (wpAny_bind (a3.at ?_)))))
  simp only [ne, Bool.false_eq_true, if_false]
  cases rt
  all_goals
    ksp_lk
    refine wpAny_mono one (fun r s' hr => ?_) fun _ _ z => z
    obtain ⟨v, rfl, hq⟩ := hr
    ksp_lk
    exact hq
/-- o op y, y of a built-in type -/
theorem pe_binO {op : Operator} {T : V → Hp → String → Prop} (W : OwnOp X.K C op.info.2 f)
    (Z : ∀ y H t, T y H t → Far X.K C op.info.2 t)
    (hT : ∀ (pins : List (Addr × Obj)) (st : L2.St) (H : Hp) (s : Shared) (y : V) (u : Value) (t : String), Inv X pins st H s → RelV y u → T y H t → PySem.W.Looks (model X.prog X.w) s.heap (typeOf u) (.type t))
    (F : FnOk X.prog X.w X.K X.mg X.base CX k f fd ps sp) (hr : Room k X.A) (hb : Binds X.K fd ps [])
    (hx : ∀ st, PassesAt CX X st (E st)) (ha : PE X a ta) (hi : PE X b tb) :
    PE X (.BinOp a op b pos) (fun st H Q => ta st H fun x H1 => tb st H1 fun y H2 => ∃ o dx fs t, x = .ref o ∧ H2 o = some (.ins C dx fs) ∧ T y H2 t ∧ sp [x, y] H2 Q (E st)) := by
  refine ⟨fun pins s σ H Q I h => ?_⟩
  refine wpAny_BinOp (binT ha hi I h fun v u s2 x y H2 I2 rx ry q => ?_)
  obtain ⟨o, dx, fs, t, rfl, eo, ht, q⟩ := q
  obtain rfl : v = Value.ref o := rx
  obtain ⟨ob, od, J⟩ := inst_at I2 eo
  obtain ⟨m, fr⟩ := I2.fr
  refine own_bin fr I2.ok.mod.kin J (hT _ _ _ _ _ _ _ I2 ry ht) W (Z _ _ _ ht) ?_
  exact wpAny_mono (run_here F hr hb (hx σ) I2 (Paired.cons (show RelV (V.ref o) (Value.ref o) from rfl) (.cons ry .nil)) q) (fun u s' z => cmp_back z) fun _ _ z => z
/-- Passes, at some slots -/
theorem passes_at {E1 : XK} (h : Passes CX X E1) (st : L2.St) : PassesAt CX X st E1 := fun pins H s e s' I c => h pins st H s e s' I c
def rOwn (C : Addr) (T : V → Hp → Value → Prop) (sp : Sp) (E1 : XK) : R2 := fun x y H Q =>
  ∃ o dx fs t, x = .ref o ∧ H o = some (.ins C dx fs) ∧ T y H t ∧ sp [x, y] H Q E1
/-- o == y -/
theorem op_eqO {E1 : XK} {T : V → Hp → Value → Prop} (M : Meth X.K C "__eq__" f) (Z : ∀ y H t, T y H t → PySem.W.notFirst X.K C t = true)
    (hT : ∀ (pins : List (Addr × Obj)) (st : L2.St) (H : Hp) (s : Shared) (y : V) (u t : Value), Inv X pins st H s → RelV y u → T y H t → PySem.W.Looks (model X.prog X.w) s.heap (typeOf u) t)
    (F : FnOk X.prog X.w X.K X.mg X.base CX k f fd ps sp) (hr : Room k X.A) (hb : Binds X.K fd ps []) (hx : Passes CX X E1) :
    OpR X (compareOp .Eq) (rOwn C T sp E1) := by
  intro pins s σ H x y v u Q I rx ry q
  obtain ⟨o, dx, fs, t, rfl, eo, ht, q⟩ := q
  obtain rfl : v = Value.ref o := rx
  obtain ⟨ob, od, J⟩ := inst_at I eo
  obtain ⟨m, fr⟩ := I.fr
  unfold compareOp
  refine PySem.W.cmp_K (hu_lt hr) fr I.ok.mod.kin J (hT _ _ _ _ _ _ _ I ry ht) (Z _ _ _ ht) M.at_ M.fn ?_
  exact wpAny_mono (run_here F hr hb (passes_at hx σ) I (Paired.cons (show RelV (V.ref o) (Value.ref o) from rfl) (.cons ry .nil)) q) (fun u s' z => cmp_back z) fun _ _ z => z
where
  hu_lt {k : Nat} {A : Around} (hr : Room k A) : A.units < cLine := by have := hr.un; omega
/-- the class has an own __eq__ and no own __ne__, no base but object -/
def neB (K : PySem.W.Frag) (C f : Addr) : Bool :=
  match K.lookup C with
  | some ⟨.type "type", _, .cls cd, sl⟩ =>
    (match cd.mro with
      | [.ref D, .type "object"] => D == C
      | _ => false) && ((match sl.toList with
      | [_, _, _, _, some (.builtin _), _] => true
      | _ => false) && (!cd.hasDel && (PySem.W.nsOkIn K cd.ns && (decide (PySem.W.nsIn K cd.ns "__eq__" = some (some (.ref f))) &&
        (decide (PySem.W.nsIn K cd.ns "__ne__" = some none) && PySem.W.isFn K (.ref f))))))
  | _ => false
theorem ns_val {K : PySem.W.Frag} {h : Heap} {N : Addr} {mg : Str → Option Value} {n : Str} {v : Value} (X : K.In h) (G : h.Ns N mg) (e : PySem.W.nsIn K N n = some (some v)) : mg n = some v := by
  obtain ⟨o, es, ep, ho, hd, _, hf⟩ := G
  unfold PySem.W.nsIn at e
  split at e
  · rename_i c d es2 n2 sl q
    obtain rfl := Option.some.inj (ho.symm.trans (X _ _ q))
    cases hd
    split at e
    · next en he =>
        obtain rfl := Option.some.inj (Option.some.inj e)
        rw [← hf]
        unfold nsFind findBy
        rw [← Array.find?_toList, he]
        rfl
    · split at e <;> cases e
  · cases e
theorem ne_at {K : PySem.W.Frag} {C f x : Addr} {h : Heap} {ob : Obj} {od : Option Obj} (X : K.In h) (I : PySem.W.InstAt h x ob C od) (q : neB K C f = true) : h.OwnEqNoNe x C f "object" [.type "object"] := by
  unfold neB at q
  split at q
  · rename_i dd cd sl ho
    obtain ⟨q1, q⟩ := Bool.and_eq_true_iff.mp q
    obtain ⟨q2, q⟩ := Bool.and_eq_true_iff.mp q
    obtain ⟨q3, q⟩ := Bool.and_eq_true_iff.mp q
    obtain ⟨q4, q⟩ := Bool.and_eq_true_iff.mp q
    obtain ⟨q5, q⟩ := Bool.and_eq_true_iff.mp q
    obtain ⟨q6, q7⟩ := Bool.and_eq_true_iff.mp q
    split at q1
    · rename_i D hm
      split at q2
      · rename_i k0 k1 k2 k3 n k5 hs
        obtain rfl : D = C := beq_iff_eq.mp q1
        obtain ⟨nm, bs, mro, ns, qn, hd, sn, sub, ab, col, del⟩ := cd
        dsimp only at hm q3 q4 q5 q6
        have e3 : del = false := by
          cases del with
          | false => rfl
          | true => cases q3
        subst hm e3
        obtain ⟨l⟩ := sl
        dsimp only at hs
        subst hs
        have G : h.Ns ns (h.nsMap ns) := .of_isNs (PySem.W.isNs_of_in X q4)
        have g1 : h.nsMap ns "__eq__" = some (.ref f) := ns_val X G (of_decide_eq_true q5)
        have g2 : h.nsMap ns "__ne__" = none := PySem.W.ns_none_of X G (of_decide_eq_true q6)
        have tf : PySem.W.typeIn K (.ref f) = some (.type "function") := beq_iff_eq.mp q7
        obtain ⟨fo, hfo, hfc⟩ := Option.map_eq_some_iff.mp (show (K.lookup f).map (·.cls) = some (.type "function") from tf)
        refine ⟨ob, fo, nm, qn, ns, bs, hd, sn, sub, ab, col, dd, k0, k1, k2, k3, k5, n, h.nsMap ns, some (.builtin "object.__eq__"), I.at_, I.cls, X _ _ ho, G, g1, X _ _ hfo, hfc, (by kernel_rfl), ?_, g2⟩
        rw [typeLookup_type, builtinLookup_eq_fast]
        kernel_rfl
      · cases q2
    · cases q1
  · cases q
def rNe (C : Addr) (sp : Sp) (E1 : XK) : R2 := fun x y H Q =>
  ∃ o dx fs o2 dx2 fs2, x = .ref o ∧ y = .ref o2 ∧ H o = some (.ins C dx fs) ∧ H o2 = some (.ins C dx2 fs2) ∧ sp [x, y] H (fun v H1 => ∃ b, v = .bl b ∧ Q (.bl (!b)) H1) E1
/-- o != y, both of the class, which has __eq__ and no __ne__ -/
theorem op_neO {E1 : XK} (q : neB X.K C f = true) (F : FnOk X.prog X.w X.K X.mg X.base CX k f fd ps sp) (hr : Room (k + 1) X.A) (hb : Binds X.K fd ps []) (hx : Passes CX X E1) :
    OpR X (compareOp .NotEq) (rNe C sp E1) := by
  intro pins s σ H x y v u Q I rx ry q1
  obtain ⟨o, dx, fs, o2, dx2, fs2, rfl, rfl, eo, eo2, qs⟩ := q1
  obtain rfl : v = Value.ref o := rx
  obtain rfl : u = Value.ref o2 := ry
  obtain ⟨ob, od, J⟩ := inst_at I eo
  obtain ⟨ob2, od2, J2⟩ := inst_at I eo2
  obtain ⟨m, fr⟩ := I.fr
  have hu : X.A.units + 1 < cLine := by have := hr.un; omega
  have X0 := I.ok.mod.kin.keeps fr.keep
  have run := run_in1 F hr hb (passes_at hx σ) I (Paired.cons (show RelV (V.ref o) (Value.ref o) from rfl) (.cons (show RelV (V.ref o2) (Value.ref o2) from rfl) .nil)) qs
  obtain ⟨hh, g, d, t, os⟩ := s
  refine compareOp_ne_ownEq PySem.F.cmp_object (ne_at X0 J q) J2.at_ J2.cls hu (wpAny_mono run (fun z s' hz => ?_) fun _ _ z => z)
  obtain ⟨v1, H1, I1, r1, b, rfl, q2⟩ := hz
  exact ⟨b, r1, .bl (!b), H1, I1, rfl, q2⟩
/-- len(o) by the class's __len__ -/
theorem call_lenO {E1 : XK} (M : Meth X.K C "__len__" f) (hf : PySem.W.isFn X.K (.ref f) = true) (F : FnOk X.prog X.w X.K X.mg X.base CX k f fd ps sp) (hr : Room (k + 1) X.A) (hb : Binds X.K fd ps []) (hx : Passes CX X E1) :
    CallR X (.builtin "len") (fun xs H Q => ∃ o dx fs, xs = [.ref o] ∧ H o = some (.ins C dx fs) ∧ sp [.ref o] H (fun v H1 => ∃ n : Nat, v = .int n ∧ n < 2 ^ 62 ∧ Q (.int n) H1) E1) := by
  intro pins s σ H xs us Q I r h
  obtain ⟨o, dx, fs, rfl, eo, qs⟩ := h
  obtain ⟨u, rfl, rx⟩ := vals1 r
  obtain rfl : u = Value.ref o := rx
  obtain ⟨ob, od, J⟩ := inst_at I eo
  obtain ⟨m, fr⟩ := I.fr
  refine PySem.W.len_K fr I.ok.mod.kin J M.at_ hf (wpAny_mono (run_in1 F hr hb (passes_at hx σ) I (Paired.cons (show RelV (V.ref o) (Value.ref o) from rfl) .nil) qs) (fun z s' hz => ?_) fun _ _ z => z)
  obtain ⟨v1, H1, I1, r1, n, rfl, hn, q2⟩ := hz
  obtain ⟨t1, rfl⟩ := r1
  exact ⟨⟨by omega, by omega⟩, .int n, H1, I1.tok _, ⟨_, rfl⟩, q2⟩
/-- a < b, of data -/
def rLtD (K : PySem.W.Frag) : R2 := fun x y H Q => ∃ d e, Dp K H x d ∧ Dp K H y e ∧ PySem.W.alike d e = true ∧ d ≠ .none ∧ min d.depth e.depth ≤ 64 ∧ Q (.bl (PySem.W.dataLt d e)) H
theorem op_ltD (hu : X.A.units + 64 < cLine) : OpR X (compareOp .Lt) (rLtD X.K) := by
  intro pins s σ H x y v u Q I rx ry q
  obtain ⟨d, e, hd, he, ha, hn, hm, q⟩ := q
  obtain ⟨as, r1⟩ := Dp.reads I d x v hd rx
  obtain ⟨bs, r2⟩ := Dp.reads I e y u he ry
  exact PySem.W.lt_data r1 r2 ha hn (by omega) ⟨.bl _, H, I, rfl, q⟩
end
end Vo

set_option Elab.async false
set_option linter.all false
set_option maxRecDepth 100000
set_option maxHeartbeats 2000000
/-! y in o, y not in o: the class's own __contains__. -/
namespace Vo
open PySem PySem.Spec PyProof.Rows L2
section
variable {X : Cx} {CX : CXT} {k : Nat} {f C : Addr} {fd : FuncData} {ps : List Str} {sp : Sp} {E1 : XK}
/-- its promise gives a bool, which neg turns about -/
def rHas (C : Addr) (neg : Bool) (sp : Sp) (E1 : XK) : R2 := fun y x H Q =>
  ∃ o dx fs, x = .ref o ∧ H o = some (.ins C dx fs) ∧ sp [x, y] H (fun v H1 => ∃ b, v = .bl b ∧ Q (.bl (if neg = true then !b else b)) H1) E1
theorem op_inO (M : Meth X.K C "__contains__" f) (F : FnOk X.prog X.w X.K X.mg X.base CX k f fd ps sp) (hr : Room k X.A) (hb : Binds X.K fd ps []) (hx : Passes CX X E1) : OpR X (compareOp .In) (rHas C false sp E1) := by
  intro pins s σ H y x u v Q I ry rx q
  obtain ⟨o, dx, fs, rfl, eo, qs⟩ := q
  obtain rfl : v = Value.ref o := rx
  obtain ⟨ob, od, J⟩ := inst_at I eo
  obtain ⟨m, fr⟩ := I.fr
  refine PySem.W.in_K fr I.ok.mod.kin J M.at_ M.fn (wpAny_mono (run_here F hr hb (passes_at hx σ) I (Paired.cons (show RelV (V.ref o) (Value.ref o) from rfl) (.cons ry .nil)) qs) (fun z s' hz => ?_) fun _ _ z => z)
  obtain ⟨v1, H1, I1, r1, b, rfl, q2⟩ := hz
  cases r1
  exact wpAny_truthy_bool ⟨.bl b, H1, I1, rfl, q2⟩
theorem op_notInO (M : Meth X.K C "__contains__" f) (F : FnOk X.prog X.w X.K X.mg X.base CX k f fd ps sp) (hr : Room k X.A) (hb : Binds X.K fd ps []) (hx : Passes CX X E1) : OpR X (compareOp .NotIn) (rHas C true sp E1) := by
  intro pins s σ H y x u v Q I ry rx q
  obtain ⟨o, dx, fs, rfl, eo, qs⟩ := q
  obtain rfl : v = Value.ref o := rx
  obtain ⟨ob, od, J⟩ := inst_at I eo
  obtain ⟨m, fr⟩ := I.fr
  refine PySem.W.notIn_K fr I.ok.mod.kin J M.at_ M.fn (wpAny_mono (run_here F hr hb (passes_at hx σ) I (Paired.cons (show RelV (V.ref o) (Value.ref o) from rfl) (.cons ry .nil)) qs) (fun z s' hz => ?_) fun _ _ z => z)
  obtain ⟨v1, H1, I1, r1, b, rfl, q2⟩ := hz
  cases r1
  exact wpAny_truthy_bool ⟨.bl (!b), H1, I1, rfl, q2⟩
end
end Vo

set_option Elab.async false
set_option linter.all false
set_option maxRecDepth 100000
/-! try with several except clauses, each with a name or without. Methods of an own class called where the wish depends on the slots. -/
namespace Vtr
open PySem PySem.Spec PyProof.Rows L2
/-- a clause: its class, the slot of its name, its suite -/
abbrev Clause : Type := Value × Option Nat × (Addr → Value → Option Addr → TS)
/-- the slots behind a suite whose name is gone -/
def goneE (D : Ends) (i : Nat) : Ends := { nx := fun σ' H' => D.nx (σ'.set i none) H', rt := D.rt, bk := fun σ' H' => D.bk (σ'.set i none) H', ct := fun σ' H' => D.ct (σ'.set i none) H' }
/-- what the clauses wish, one behind the other -/
def wCl (K : PySem.W.Frag) (Wout : WX) (D : Ends) : List Clause → WX
  | [] => Wout
  | (c, none, ts) :: r => fun cls d σ H => ∃ b, PySem.W.exmOne K cls c = some b ∧ (b = true → ∀ a, H a = none → ts a cls d D σ H) ∧ (b = false → wCl K Wout D r cls d σ H)
  | (c, some i, ts) :: r => fun cls d σ H => ∃ b, PySem.W.exmOne K cls c = some b ∧ (b = true → ∀ a, H a = none → ts a cls d (goneE D i) (σ.set i (some (.ref a))) H) ∧ (b = false → wCl K Wout D r cls d σ H)
inductive ClsOk (X : Cx) : List ExceptHandler → List Clause → Prop
  | nil : ClsOk X [] []
  | plain {x : Str} {c : Value} {ts : Addr → Value → Option Addr → TS} {b₀ : Stmt} {suite : List Stmt} {np pos' : Pos} {hds : List ExceptHandler} {l : List Clause} (hc : Names X x c)
      (hsu : ∀ (a : Addr) (oe : Obj) (cls : Value) (d : Option Addr) (pn : List (Addr × Obj)), Zc cls d oe → (∃ vs, oe.data = .fields vs) → PSs (X.suite a ((a, oe) :: pn)) (b₀ :: suite) (ts a cls d)) (r : ClsOk X hds l) :
      ClsOk X (.ExceptHandler (some (.Name x np)) none (b₀ :: suite) pos' :: hds) ((c, none, ts) :: l)
  | named {x n : Str} {i : Nat} {c : Value} {ts : Addr → Value → Option Addr → TS} {b₀ : Stmt} {suite : List Stmt} {np pos' : Pos} {hds : List ExceptHandler} {l : List Clause} (hi : X.N[i]? = some n) (hln : X.env.kindOf n = some .local) (hc : Names X x c)
      (hsu : ∀ (a : Addr) (oe : Obj) (cls : Value) (d : Option Addr) (pn : List (Addr × Obj)), Zc cls d oe → (∃ vs, oe.data = .fields vs) → PSs (X.suite a ((a, oe) :: pn)) (b₀ :: suite) (ts a cls d)) (r : ClsOk X hds l) :
      ClsOk X (.ExceptHandler (some (.Name x np)) (some n) (b₀ :: suite) pos' :: hds) ((c, some i, ts) :: l)
section
variable {X : Cx} {body : List Stmt} {h₀ : ExceptHandler} {hds : List ExceptHandler} {l : List Clause} {pos : Pos} {tb : WX → TS} {Wout : WX}
theorem ps_try_cl (hs : X.stack = X.env :: X.outer) (hf : X.env.frame = some X.env.locals) (hN : X.N.Nodup) (tk : Takes X Wout)
    (hb : ∀ (W : WX) (pn : List (Addr × Obj)) (xe : Value → Shared → Prop), Takes (X.tr pn xe) W → PassesOwn (model X.prog X.w) X.A X.env xe → PSs (X.tr pn xe) body (tb W))
    (hh : ClsOk X (h₀ :: hds) l) : PS X (.Try body (h₀ :: hds) [] [] pos) (fun D σ H => tb (wCl X.K Wout D l) D σ H) := by
  refine ⟨fun pins s σ H D I h => ?_⟩
  have ok := I.ok
  have hfr : X.A.frames = some (X.env :: X.outer) := by rw [ok.frames, hs]
  refine wpAny_Try_except ?_
  refine wpAny_mono ((hb (wCl X.K Wout D l) (X.pn ++ pins) (fun e s₁ => wpAny (model X.prog X.w) X.A (noteFrame e X.env) (fun _ s₂ => wpAny (model X.prog X.w) X.A (setFlight e none) (fun _ s₃ =>
    wpAny (model X.prog X.w) X.A (handleBy e X.env (h₀ :: hds)) (SP X pins D) X.xe s₃) X.xe s₂) X.xe s₁) (fun u s' xx => ?_) PassesOwn.looking).run [] s σ H D (I.toTry _) h) (fun f s1 hsp => ?_) (fun e s1 he => he)
  · obtain ⟨a, B, sI, pins', σ', H', cls, d, rfl, J', nb, up, sky, na, os, ag, w⟩ := xx
    have J : Inv X pins σ' H' sI := J'.ofTry ok
    have sky' : Sky B (X.env :: X.outer) a (Zc cls d) X.env.locals s'.heap := by rw [← hs]; exact sky
    show wpAny (model X.prog X.w) X.A (noteFrame (.ref a) X.env) _ _ _
    refine Sky.land Zc.steady hfr hf sky' fun h3 fl3 up3 => ?_
    have J3 : Inv X pins σ' H' { s' with heap := h3 } := J.landed nb fl3.1 (up.trans up3) os ag
    obtain ⟨oe3, vs3, he3, hz3, hd3⟩ := fl3.there
    have notFr : ∀ {h : Heap} {o : Obj} {vs : Array Value}, h.FunFrames B (X.env :: X.outer) → h.get? a = some o → o.data = .fields vs → a ∉ frs (X.env :: X.outer) := fun {h o vs} ff e dd hm => by
      obtain ⟨_, o', e', hnf⟩ := ff.mem hm
      rw [e] at e'; cases e'
      exact hnf _ dd
    have nfr := notFr fl3.2.2.1 he3 hd3
    have nL : a ≠ X.env.locals := fun z => nfr (List.mem_filterMap.mpr ⟨X.env, List.mem_cons_self, by rw [hf, z]⟩)
    have nF : a ∉ X.fs := fun hm => by
      obtain ⟨e, he, q⟩ := List.mem_filterMap.mp hm
      exact nfr (List.mem_filterMap.mpr ⟨e, List.mem_cons_of_mem _ he, q⟩)
    have S3 := J3.suite he3 hd3 na nL nF
    have LT : PySem.W.Looks (model X.prog X.w) h3 (typeOf (.ref a)) cls := fun A Q E s k q => wpAny_typeOf_ref (k _ _ he3) (by rw [hz3.1]; exact q)
    have test : ∀ {x : Str} {c : Value} {np : Pos}, Names X x c → ∀ {Q : Value → Shared → Prop} {E : Value → Shared → Prop}, Q c { s' with heap := h3 } → wpAny (model X.prog X.w) (X.A.mark (some (.ref a))) (eval (.Name x np) X.env) Q E { s' with heap := h3 } := fun {x c np} hc {Q E} q => by
      obtain ⟨hg, hdbg, hm | ⟨hm, hv, hnn⟩⟩ := hc
      · exact ld_glob (X := X.suite a ((a, oe3) :: (X.pn ++ pins))) S3 hg hm q hdbg
      · exact ld_blt (X := X.suite a ((a, oe3) :: (X.pn ++ pins))) S3 hg hm hv q hnn hdbg
    have go : ∀ {hds' : List ExceptHandler} {l' : List Clause}, ClsOk X hds' l' → wCl X.K Wout D l' cls d σ' H' →
        wpAny (model X.prog X.w) X.A (handleBy (.ref a) X.env hds') (SP X pins D) X.xe { s' with heap := h3 } := by
      intro hds' l' hk
      induction hk with
      | nil =>
        intro w
        refine wpAny_handleBy_nil ?_
        obtain ⟨k1, k2, k3, oe, vs, T, oT, ts', he, hz, hd, h1, hr⟩ := id fl3
        unfold PySem.passOn
        refine wpAny_bind (wpAny_field he hd h1 ?_)
        rw [if_neg (show ¬ ((Value.ref T == Value.none) = true) from by simp)]
        have fin : wpAny (model X.prog X.w) X.A (setFlight (.ref a) X.env.frame) (fun _ s4 => wpAny (model X.prog X.w) X.A (throw (.ref a) : Sem Flow) (SP X pins D) X.xe s4) X.xe { s' with heap := h3 } := by
          rw [hf]
          refine HandSPX.setFlight_upZ fl3 fun h4 hh4 up4 => wpAny_throw (tk _ _ ?_)
          exact ⟨a, B, sI, pins, σ', H', cls, d, rfl, J, nb, (up.trans up3).trans up4, .inr (.inr (by rw [hs]; exact hh4)), na, os, ag, w⟩
        first
          | exact wpAny_bind (wpAny_pure (wpAny_bind fin))
          | exact wpAny_bind fin
      | @plain x c ts b₀ suite np pos' hds2 l2 hc hsu r ih =>
        intro w
        obtain ⟨b, hb1, hyes, hno⟩ := w
        refine wpAny_handleBy_cons (codeAny_handlers_test ?_) (by intro q; cases q)
        have LM := PySem.W.exm_one (M := model X.prog X.w) (J3.kIn) LT hb1
        refine test hc (LM.here ?_)
        cases b with
        | true =>
          refine codeAny_handlers_suite ?_
          refine HandSPX.lands_againZ fl3 fun h4 fl4 up4 => ?_
          have J4 : Inv X pins σ' H' { s' with heap := h4 } := J.landed nb fl4.1 ((up.trans up3).trans up4) os ag
          obtain ⟨oe4, vs4, he4, hz4, hd4⟩ := fl4.there
          have S4 := J4.suite he4 hd4 na nL nF
          refine wpAny_mono ((hsu a oe4 cls d (X.pn ++ pins) hz4 ⟨_, hd4⟩).run [] _ _ H' _ S4 (hyes rfl a na)) (fun f s6 hsp => ?_) (fun _ _ z => False.elim z)
          cases f with
          | next =>
            obtain ⟨σ6, H6, S6, q6⟩ := hsp
            exact ⟨_, _, S6.unsuite ok, q6⟩
          | brk =>
            obtain ⟨σ6, H6, S6, q6⟩ := hsp
            exact ⟨_, _, S6.unsuite ok, q6⟩
          | cont =>
            obtain ⟨σ6, H6, S6, q6⟩ := hsp
            exact ⟨_, _, S6.unsuite ok, q6⟩
          | ret u =>
            obtain ⟨v6, σ6, H6, S6, r6, q6⟩ := hsp
            exact ⟨_, _, _, S6.unsuite ok, r6, q6⟩
        | false =>
          show wpAny _ X.A (handleBy (.ref a) X.env hds2) _ _ _
          exact ih (hno rfl)
      | @named x n i c ts b₀ suite np pos' hds2 l2 hi hln hc hsu r ih =>
        intro w
        have hloc : Loc X.env.scope n := .inl hln
        obtain ⟨b, hb1, hyes, hno⟩ := w
        refine wpAny_handleBy_cons (codeAny_handlers_test ?_) (by intro q; cases q)
        have LM := PySem.W.exm_one (M := model X.prog X.w) (J3.kIn) LT hb1
        refine test hc (LM.here ?_)
        cases b with
        | true =>
          refine codeAny_handlers_suite_as ?_
          refine HandSPX.lands_againZ fl3 fun h4 fl4 up4 => ?_
          have J4 : Inv X pins σ' H' { s' with heap := h4 } := J.landed nb fl4.1 ((up.trans up3).trans up4) os ag
          obtain ⟨oe4, vs4, he4, hz4, hd4⟩ := fl4.there
          have S4 := J4.suite he4 hd4 na nL nF
          refine store_ok (X := X.suite a ((a, oe4) :: (X.pn ++ pins))) (v := .ref a) S4 hN hi hloc rfl (fun s5 S5 => ?_) (.inr hln)
          refine wpAny_mono ((hsu a oe4 cls d (X.pn ++ pins) hz4 ⟨_, hd4⟩).run [] s5 _ H' _ S5 (hyes rfl a na)) (fun f s6 hsp => ?_) (fun _ _ z => False.elim z)
          have end_ : ∀ {σ6 : L2.St} {H6 : Hp} {Q : Shared → Prop}, Inv (X.suite a ((a, oe4) :: (X.pn ++ pins))) [] σ6 H6 s6 → (∀ s7, Inv X pins (σ6.set i none) H6 s7 → Q s7) →
              wpAny (model X.prog X.w) X.A (do bindName X.env n .none; unbindBehindTheSuite X.env n pos') (fun _ s7 => Q s7) X.xe s6 := fun {σ6 H6 Q} S6 hq => gone_ok (S6.unsuite ok) hN hi hln hq
          cases f with
          | next =>
            obtain ⟨σ6, H6, S6, q6⟩ := hsp
            exact end_ S6 fun s7 J7 => ⟨_, _, J7, q6⟩
          | brk =>
            obtain ⟨σ6, H6, S6, q6⟩ := hsp
            exact end_ S6 fun s7 J7 => ⟨_, _, J7, q6⟩
          | cont =>
            obtain ⟨σ6, H6, S6, q6⟩ := hsp
            exact end_ S6 fun s7 J7 => ⟨_, _, J7, q6⟩
          | ret u =>
            obtain ⟨v6, σ6, H6, S6, r6, q6⟩ := hsp
            exact end_ S6 fun s7 J7 => ⟨_, _, _, J7, r6, q6⟩
        | false =>
          show wpAny _ X.A (handleBy (.ref a) X.env hds2) _ _ _
          exact ih (hno rfl)
    exact go hh w
  · cases f with
    | next =>
      obtain ⟨σ', H', J', q⟩ := hsp
      exact wpAny_execs_nil ⟨σ', H', J'.ofTry ok, q⟩
    | brk =>
      obtain ⟨σ', H', J', q⟩ := hsp
      exact ⟨σ', H', J'.ofTry ok, q⟩
    | cont =>
      obtain ⟨σ', H', J', q⟩ := hsp
      exact ⟨σ', H', J'.ofTry ok, q⟩
    | ret u =>
      obtain ⟨v, σ', H', J', r, q⟩ := hsp
      exact ⟨v, σ', H', J'.ofTry ok, r, q⟩
end
theorem takes_no {X : Cx} : Takes X fun _ _ _ _ => False := fun u s' ⟨a, B, sI, pins, σ, H, cls, d, e, I, nb, up, sky, na, os, ag, h⟩ => h.elim
/-- nothing is raised where nothing may be -/
theorem passN {X : Cx} : Passes (L2.CX X.prog X.w) X fun _ _ _ => False := fun _ _ _ _ _ _ _ ⟨_, _, _, _, _, _, _, _, _, _, _, _, h⟩ => h.elim
theorem passNo {X : Cx} (σ : L2.St) : PassesAt (L2.CX X.prog X.w) X σ fun _ _ _ => False := fun _ _ _ _ _ _ ⟨_, _, _, _, _, _, _, _, _, _, _, _, h⟩ => h.elim
section
variable {X : Cx} {CX : CXT} {k : Nat} {f C : Addr} {fd : FuncData} {ps : List Str} {sp : Sp} {E : L2.St → XK} {x m : Str} {p pos apos : Pos} {e o : Expr} {es : List Expr} {ta : TE} {t : TA}
/-- o.m(..), the wish of what is raised by the slots -/
def tMethS (C : Addr) (m : Str) (sp : Sp) (E : L2.St → XK) (ta : TE) (t : TA) : TE := fun σ H Q => ta σ H fun x H1 => ∃ a dx fs, x = .ref a ∧ H1 a = some (.ins C dx fs) ∧ fs.lookup m = none ∧ t σ H1 fun vs H2 => sp (x :: vs) H2 Q (E σ)
theorem pe_methAt {pl : Sem Bool} (he : PE X o ta) (c : Cls X.K C) (hm : Meth X.K C m f) (F : FnOk X.prog X.w X.K X.mg X.base CX k f fd ps sp) (hr : Room k X.A) (hb : Binds X.K fd ps []) (hx : ∀ σ, PassesAt CX X σ (E σ)) (ha : PA X (e :: es) t)
    (hst : starEach (e :: es) X.env = (false, eval e X.env) :: starEach es X.env := by rfl) (hpl : (backTo pos (starEach es X.env)).any (·.1) = false := by rfl)
    (ht : eval (.Call (.Attribute o m apos) (e :: es) [] pos) X.env = (do
      let ov ← eval o X.env
      standAt apos.atName
      let (f, first) ← holding [ov] (getMethod ov m pl)
      callWith pos f first (backTo pos (starEach (e :: es) X.env)) (backToKw pos (keywordEach [] X.env))) := by rfl) :
    PE X (.Call (.Attribute o m apos) (e :: es) [] pos) (tMethS C m sp E ta t) := by
  refine ⟨fun pins s σ H Q I h => ?_⟩
  refine PySem.W.methodCall_KW (pl := pl) (thn (he.run pins s σ H _ I h) fun u s1 ⟨x, H1, I1, rx, a, dx, fs, ex, ea, l, q⟩ => ?_) ht
  subst ex
  obtain rfl : u = Value.ref a := rx
  refine getmeth_ok I1 ea c hm l ?_
  refine PySem.W.callWith_K (first := [.ref a]) (h₀ := X.base) I.ok.mod.kin hm.kp (thn (ha.run pos pins s1 σ H1 _ I1 q) fun us s2 ⟨vs, H2, I2, r, q2⟩ => ⟨I2.kIn, ?_⟩) hst hpl
  exact run_fnS (us := .ref a :: us) (vs := .ref a :: vs) F hr hb (hx σ) I2 (.cons rfl r) q2
theorem pe_methAt0 {pl : Sem Bool} (he : PE X o ta) (c : Cls X.K C) (hm : Meth X.K C m f) (F : FnOk X.prog X.w X.K X.mg X.base CX k f fd ps sp) (hr : Room k X.A) (hb : Binds X.K fd ps []) (hx : ∀ σ, PassesAt CX X σ (E σ))
    (ht : eval (.Call (.Attribute o m apos) [] [] pos) X.env = (do
      let ov ← eval o X.env
      standAt apos.atName
      let (f, first) ← holding [ov] (getMethod ov m pl)
      callWith pos f first (backTo pos (starEach [] X.env)) (backToKw pos (keywordEach [] X.env))) := by rfl) :
    PE X (.Call (.Attribute o m apos) [] [] pos) (tMethS C m sp E ta tNil) := by
  refine ⟨fun pins s σ H Q I h => ?_⟩
  refine PySem.W.methodCall_KW (pl := pl) (thn (he.run pins s σ H _ I h) fun u s1 ⟨x, H1, I1, rx, a, dx, fs, ex, ea, l, q⟩ => ?_) ht
  subst ex
  obtain rfl : u = Value.ref a := rx
  refine getmeth_ok I1 ea c hm l ?_
  exact PySem.W.callWith_K0 (first := [.ref a]) I1.kIn hm.kp (run_fnS (us := [.ref a]) (vs := [.ref a]) F hr hb (hx σ) I1 (.cons rfl .nil) q)
end
end Vtr

set_option Elab.async false
set_option linter.all false
set_option maxRecDepth 100000
set_option maxHeartbeats 2000000
/-! Who is called, in one word: a def of the module (Fu), a method (Mo), a property (Pr), an own class made (Nw). -/
namespace Vc
open PySem PySem.Spec PyProof.Rows L2 Evl Vtr Vo
abbrev nil0 : XK := fun _ _ _ => False
structure Fu (P : Program) (w : World) (K : PySem.W.Frag) (mg : Str → Option Value) (base : Heap) (CX : CXT) (k : Nat) (x : Str) (sp : Sp) : Prop where
  ex : ∃ (f : Addr) (fd : FuncData) (ps : List Str), FnOk P w K mg base CX k f fd ps sp ∧ mg x = some (.ref f) ∧ PySem.W.keepIn K (.ref f) = true ∧ L2.Binds K fd ps []
structure Mo (P : Program) (w : World) (K : PySem.W.Frag) (mg : Str → Option Value) (base : Heap) (C : Addr) (CX : CXT) (k : Nat) (m : Str) (sp : Sp) : Prop where
  ex : ∃ (f : Addr) (fd : FuncData) (ps : List Str), FnOk P w K mg base CX k f fd ps sp ∧ Meth K C m f ∧ L2.Binds K fd ps []
structure Pr (P : Program) (w : World) (K : PySem.W.Frag) (mg : Str → Option Value) (base : Heap) (C : Addr) (k : Nat) (m : Str) (sp : Sp) : Prop where
  ex : ∃ (p f : Addr) (fd : FuncData) (ps : List Str), FnOk P w K mg base L2.CX0 k f fd ps sp ∧ PropOf K C m p f ∧ L2.Binds K fd ps []
structure Nw (P : Program) (w : World) (K : PySem.W.Frag) (mg : Str → Option Value) (base : Heap) (C : Addr) (CX : CXT) (k : Nat) (x : Str) (sp : Sp) : Prop where
  ex : ∃ (f : Addr) (fd : FuncData) (ps : List Str), FnOk P w K mg base CX k f fd ps sp ∧ Mk K C f ∧ L2.Binds K fd ps [] ∧ mg x = some (.ref C)
theorem app_nil (vs : List V) : vs ++ [] = vs := List.append_nil vs
section
variable {X : Cx} {C : Addr} {j k : Nat} {x m : Str} {sp : Sp} {E : L2.St → XK} {p pos apos : Pos} {e o : Expr} {es : List Expr} {ta : TE} {t : TA}
/-- the promise, asked of the arguments -/
def tFu (sp : Sp) (E : L2.St → XK) (t : TA) : TE := fun σ H Q => t σ H fun vs H1 => sp vs H1 Q (E σ)
theorem pe_fu (T : Fu X.prog X.w X.K X.mg X.base L2.CX0 k x sp) (hr : Room j X.A) (hg : Gl X x) (ha : PA X (e :: es) t) (hk : k ≤ j := by decide) (hdb : (x == ("__debug__" : Str)) = false := by decide)
    (he : starEach (e :: es) X.env = (false, eval e X.env) :: starEach es X.env := by rfl) (hpl : (backTo pos (starEach es X.env)).any (·.1) = false := by rfl) : PE X (.Call (.Name x p) (e :: es) [] pos) (tFu sp (fun _ => nil0) t) := by
  obtain ⟨f, fd, ps, F, hm, kp, b⟩ := T.ex
  exact pe_callS (E := fun _ => nil0) F (hr.mono hk) hg hm kp b (fun _ _ _ _ _ _ _ h => h.elim) ha hdb he hpl
theorem pe_fuX (T : Fu X.prog X.w X.K X.mg X.base (L2.CX X.prog X.w) k x sp) (hr : Room j X.A) (hg : Gl X x) (hx : ∀ σ, PassesAt (L2.CX X.prog X.w) X σ (E σ)) (ha : PA X (e :: es) t) (hk : k ≤ j := by decide) (hdb : (x == ("__debug__" : Str)) = false := by decide)
    (he : starEach (e :: es) X.env = (false, eval e X.env) :: starEach es X.env := by rfl) (hpl : (backTo pos (starEach es X.env)).any (·.1) = false := by rfl) : PE X (.Call (.Name x p) (e :: es) [] pos) (tFu sp E t) := by
  obtain ⟨f, fd, ps, F, hm, kp, b⟩ := T.ex
  exact pe_callS F (hr.mono hk) hg hm kp b hx ha hdb he hpl
/-- one that may raise, where it raises nothing -/
theorem pe_fuN (T : Fu X.prog X.w X.K X.mg X.base (L2.CX X.prog X.w) k x sp) (hr : Room j X.A) (hg : Gl X x) (ha : PA X (e :: es) t) (hk : k ≤ j := by decide) (hdb : (x == ("__debug__" : Str)) = false := by decide)
    (he : starEach (e :: es) X.env = (false, eval e X.env) :: starEach es X.env := by rfl) (hpl : (backTo pos (starEach es X.env)).any (·.1) = false := by rfl) : PE X (.Call (.Name x p) (e :: es) [] pos) (tFu sp (fun _ => nil0) t) := by
  exact pe_fuX (E := fun _ => nil0) T hr hg (fun σ => passNo σ) ha hk hdb he hpl
theorem pe_mo {pl : Sem Bool} (he : PE X o ta) (c : Cls X.K C) (T : Mo X.prog X.w X.K X.mg X.base C L2.CX0 k m sp) (hr : Room j X.A) (ha : PA X (e :: es) t) (hk : k ≤ j := by decide)
    (hst : starEach (e :: es) X.env = (false, eval e X.env) :: starEach es X.env := by rfl) (hpl : (backTo pos (starEach es X.env)).any (·.1) = false := by rfl)
    (ht : eval (.Call (.Attribute o m apos) (e :: es) [] pos) X.env = (do
      let ov ← eval o X.env
      standAt apos.atName
      let (f, first) ← holding [ov] (getMethod ov m pl)
      callWith pos f first (backTo pos (starEach (e :: es) X.env)) (backToKw pos (keywordEach [] X.env))) := by rfl) :
    PE X (.Call (.Attribute o m apos) (e :: es) [] pos) (tMethS C m sp (fun _ => nil0) ta t) := by
  obtain ⟨f, fd, ps, F, hm, b⟩ := T.ex
  exact pe_methAt (pl := pl) he c hm F (hr.mono hk) b (fun _ _ _ _ _ _ _ h => h.elim) ha hst hpl ht
theorem pe_moX {pl : Sem Bool} (he : PE X o ta) (c : Cls X.K C) (T : Mo X.prog X.w X.K X.mg X.base C (L2.CX X.prog X.w) k m sp) (hr : Room j X.A) (hx : ∀ σ, PassesAt (L2.CX X.prog X.w) X σ (E σ)) (ha : PA X (e :: es) t) (hk : k ≤ j := by decide)
    (hst : starEach (e :: es) X.env = (false, eval e X.env) :: starEach es X.env := by rfl) (hpl : (backTo pos (starEach es X.env)).any (·.1) = false := by rfl)
    (ht : eval (.Call (.Attribute o m apos) (e :: es) [] pos) X.env = (do
      let ov ← eval o X.env
      standAt apos.atName
      let (f, first) ← holding [ov] (getMethod ov m pl)
      callWith pos f first (backTo pos (starEach (e :: es) X.env)) (backToKw pos (keywordEach [] X.env))) := by rfl) :
    PE X (.Call (.Attribute o m apos) (e :: es) [] pos) (tMethS C m sp E ta t) := by
  obtain ⟨f, fd, ps, F, hm, b⟩ := T.ex
  exact pe_methAt (pl := pl) he c hm F (hr.mono hk) b hx ha hst hpl ht
theorem pe_moN {pl : Sem Bool} (he : PE X o ta) (c : Cls X.K C) (T : Mo X.prog X.w X.K X.mg X.base C (L2.CX X.prog X.w) k m sp) (hr : Room j X.A) (ha : PA X (e :: es) t) (hk : k ≤ j := by decide)
    (hst : starEach (e :: es) X.env = (false, eval e X.env) :: starEach es X.env := by rfl) (hpl : (backTo pos (starEach es X.env)).any (·.1) = false := by rfl)
    (ht : eval (.Call (.Attribute o m apos) (e :: es) [] pos) X.env = (do
      let ov ← eval o X.env
      standAt apos.atName
      let (f, first) ← holding [ov] (getMethod ov m pl)
      callWith pos f first (backTo pos (starEach (e :: es) X.env)) (backToKw pos (keywordEach [] X.env))) := by rfl) :
    PE X (.Call (.Attribute o m apos) (e :: es) [] pos) (tMethS C m sp (fun _ => nil0) ta t) := pe_moX (pl := pl) (E := fun _ => nil0) he c T hr (fun σ => passNo σ) ha hk hst hpl ht
theorem pe_mo0 {pl : Sem Bool} (he : PE X o ta) (c : Cls X.K C) (T : Mo X.prog X.w X.K X.mg X.base C L2.CX0 k m sp) (hr : Room j X.A) (hk : k ≤ j := by decide)
    (ht : eval (.Call (.Attribute o m apos) [] [] pos) X.env = (do
      let ov ← eval o X.env
      standAt apos.atName
      let (f, first) ← holding [ov] (getMethod ov m pl)
      callWith pos f first (backTo pos (starEach [] X.env)) (backToKw pos (keywordEach [] X.env))) := by rfl) :
    PE X (.Call (.Attribute o m apos) [] [] pos) (tMethS C m sp (fun _ => nil0) ta tNil) := by
  obtain ⟨f, fd, ps, F, hm, b⟩ := T.ex
  exact pe_methAt0 (pl := pl) he c hm F (hr.mono hk) b (fun _ _ _ _ _ _ _ h => h.elim) ht
theorem pe_mo0X {pl : Sem Bool} (he : PE X o ta) (c : Cls X.K C) (T : Mo X.prog X.w X.K X.mg X.base C (L2.CX X.prog X.w) k m sp) (hr : Room j X.A) (hx : ∀ σ, PassesAt (L2.CX X.prog X.w) X σ (E σ)) (hk : k ≤ j := by decide)
    (ht : eval (.Call (.Attribute o m apos) [] [] pos) X.env = (do
      let ov ← eval o X.env
      standAt apos.atName
      let (f, first) ← holding [ov] (getMethod ov m pl)
      callWith pos f first (backTo pos (starEach [] X.env)) (backToKw pos (keywordEach [] X.env))) := by rfl) :
    PE X (.Call (.Attribute o m apos) [] [] pos) (tMethS C m sp E ta tNil) := by
  obtain ⟨f, fd, ps, F, hm, b⟩ := T.ex
  exact pe_methAt0 (pl := pl) he c hm F (hr.mono hk) b hx ht
/-- o.m, a property -/
def tPr (C : Addr) (sp : Sp) (ta : TE) : TE := fun σ H Q => ta σ H fun x H1 => ∃ a dx fs, x = .ref a ∧ H1 a = some (.ins C dx fs) ∧ sp [.ref a] H1 Q nil0
theorem pe_pr (he : PE X e ta) (c : Cls X.K C) (T : Pr X.prog X.w X.K X.mg X.base C k m sp) (hr : Room j X.A) (hk : k + 1 ≤ j := by decide) (hab : attributeBase e m X.env (eval e X.env) = eval e X.env := by rfl) :
    PE X (.Attribute e m pos) (tPr C sp ta) := by
  obtain ⟨p, f, fd, ps, F, hp, b⟩ := T.ex
  refine ⟨(pe_prop (E := nil0) he c hp F (hr.mono hk) b .nil (fun _ _ _ _ _ _ _ h => h.elim) hab).run⟩
/-- C(..) of an own class -/
def tNw (C : Addr) (sp : Sp) (E : L2.St → XK) (t : TA) : TE := fun σ H Q => t σ H fun vs H1 => ∀ x dx, H1 x = none → H1 dx = none → dx ≠ x → sp (.ref x :: vs) (upd (upd H1 dx (.own x)) x (.ins C dx [])) (fun v H2 => v = .non ∧ Q (.ref x) H2) (E σ)
theorem pe_nw0 (T : Nw X.prog X.w X.K X.mg X.base C L2.CX0 k x sp) (hr : Room j X.A) (hg : Gl X x) (hk : k + 1 ≤ j := by decide) (hdb : (x == ("__debug__" : Str)) = false := by decide) :
    PE X (.Call (.Name x p) [] [] pos) (tNw C sp (fun _ => nil0) tNil) := by
  obtain ⟨f, fd, ps, F, M, b, hm⟩ := T.ex
  exact ⟨(pe_make0 (E := nil0) M F (hr.mono hk) hg hm b .nil (fun _ _ _ _ _ _ _ h => h.elim) hdb).run⟩
theorem pe_nw (T : Nw X.prog X.w X.K X.mg X.base C L2.CX0 k x sp) (hr : Room j X.A) (hg : Gl X x) (ha : PA X (e :: es) t) (hk : k + 1 ≤ j := by decide) (hdb : (x == ("__debug__" : Str)) = false := by decide)
    (hs : starEach (e :: es) X.env = (false, eval e X.env) :: starEach es X.env := by rfl) (hpl : (backTo pos (starEach es X.env)).any (·.1) = false := by rfl) : PE X (.Call (.Name x p) (e :: es) [] pos) (tNw C sp (fun _ => nil0) t) := by
  obtain ⟨f, fd, ps, F, M, b, hm⟩ := T.ex
  refine Vl.pe_weak (pe_make (E := nil0) M F (hr.mono hk) hg hm b .nil (fun _ _ _ _ _ _ _ h => h.elim) ha hdb hs hpl) fun σ H Q h => ?_
  unfold tMake
  simp only [app_nil]
  exact h
/-- y in o, y not in o -/
theorem op_inM (T : Mo X.prog X.w X.K X.mg X.base C L2.CX0 k "__contains__" sp) (hr : Room j X.A) (hk : k ≤ j := by decide) : OpR X (compareOp .In) (rHas C false sp nil0) := by
  obtain ⟨f, fd, ps, F, hm, b⟩ := T.ex
  exact op_inO hm F (hr.mono hk) b (fun _ _ _ _ _ _ _ h => h.elim)
theorem op_notInM (T : Mo X.prog X.w X.K X.mg X.base C L2.CX0 k "__contains__" sp) (hr : Room j X.A) (hk : k ≤ j := by decide) : OpR X (compareOp .NotIn) (rHas C true sp nil0) := by
  obtain ⟨f, fd, ps, F, hm, b⟩ := T.ex
  exact op_notInO hm F (hr.mono hk) b (fun _ _ _ _ _ _ _ h => h.elim)
end
/-- o[i] of an own class -/
structure Gt (P : Program) (w : World) (K : PySem.W.Frag) (mg : Str → Option Value) (base : Heap) (C : Addr) (CX : CXT) (k : Nat) (sp : Sp) : Prop where
  ex : ∃ (f : Addr) (fd : FuncData) (ps : List Str), FnOk P w K mg base CX k f fd ps sp ∧ Meth K C "__getitem__" f ∧ L2.Binds K fd ps [] ∧ PySem.W.fnIn K f = true
abbrev tIxM (C : Addr) (sp : Sp) (E : L2.St → XK) (ta tb : TE) : TE := tOwn2 C (fun _ => True) sp E ta tb
section
variable {X : Cx} {C : Addr} {j k : Nat} {sp : Sp} {E : L2.St → XK} {pos : Pos} {a b : Expr} {ta tb : TE}
theorem pe_ixX (T : Gt X.prog X.w X.K X.mg X.base C (L2.CX X.prog X.w) k sp) (hr : Room j X.A) (hx : ∀ st, PassesAt (L2.CX X.prog X.w) X st (E st)) (ha : PE X a ta) (hi : PE X b tb) (hk : k + 1 ≤ j := by decide)
    (hs : ∀ o i, subscripted b true (.ref o) i = runValue (.builtin "lifetime.subscript" ⟨[.ref o, i], []⟩) := by intro _ _; rfl) : PE X (.Subscript a b pos) (tIxM C sp E ta tb) := by
  obtain ⟨f, fd, ps, F, hm, b', hf⟩ := T.ex
  exact pe_ixO hm hf F (hr.mono hk) b' hx ha hi hs
theorem pe_ixN (T : Gt X.prog X.w X.K X.mg X.base C (L2.CX X.prog X.w) k sp) (hr : Room j X.A) (ha : PE X a ta) (hi : PE X b tb) (hk : k + 1 ≤ j := by decide)
    (hs : ∀ o i, subscripted b true (.ref o) i = runValue (.builtin "lifetime.subscript" ⟨[.ref o, i], []⟩) := by intro _ _; rfl) : PE X (.Subscript a b pos) (tIxM C sp (fun _ => nil0) ta tb) := pe_ixX (E := fun _ => nil0) T hr (fun σ => passNo σ) ha hi hk hs
/-- len(o) -/
def rLenM (C : Addr) (sp : Sp) : List V → Hp → VK → Prop := fun xs H Q => ∃ o dx fs, xs = [.ref o] ∧ H o = some (.ins C dx fs) ∧ sp [.ref o] H (fun v H1 => ∃ n : Nat, v = .int n ∧ n < 2 ^ 62 ∧ Q (.int n) H1) nil0
theorem call_lenM (T : Mo X.prog X.w X.K X.mg X.base C L2.CX0 k "__len__" sp) (hr : Room j X.A) (hk : k + 1 ≤ j := by decide) : CallR X (.builtin "len") (rLenM C sp) := by
  obtain ⟨f, fd, ps, F, hm, b⟩ := T.ex
  exact call_lenO (E1 := nil0) hm hm.fn F (hr.mono hk) b (fun _ _ _ _ _ _ _ h => h.elim)
theorem pe_negM (T : Mo X.prog X.w X.K X.mg X.base C L2.CX0 k "__neg__" sp) (hr : Room j X.A) (ha : PE X a ta) (hk : k ≤ j := by decide) : PE X (.UnaryOp .USub a pos) (tOwn1 C sp (fun _ => nil0) ta) := by
  obtain ⟨f, fd, ps, F, hm, b⟩ := T.ex
  exact pe_negO (E := fun _ => nil0) hm F (hr.mono hk) b (fun _ _ _ _ _ _ _ h => h.elim) ha
end
/-! ### what they are made of -/
section
variable {P : Program} {w : World} {K : PySem.W.Frag} {mg : Str → Option Value} {base : Heap} {CX : CXT} {k : Nat} {f C : Addr} {fd : FuncData} {ps : List Str} {sp : Sp} {x m : Str}
theorem Fu.of (F : FnOk P w K mg base CX k f fd ps sp) (hm : mg x = some (.ref f)) (kp : PySem.W.keepIn K (.ref f) = true) (b : L2.Binds K fd ps []) : Fu P w K mg base CX k x sp := ⟨f, fd, ps, F, hm, kp, b⟩
theorem Mo.of (F : FnOk P w K mg base CX k f fd ps sp) (hm : Meth K C m f) (b : L2.Binds K fd ps []) : Mo P w K mg base C CX k m sp := ⟨f, fd, ps, F, hm, b⟩
theorem Fu.mono {j : Nat} (T : Fu P w K mg base CX k x sp) (h : k ≤ j) : Fu P w K mg base CX j x sp := by
  obtain ⟨f, fd, ps, F, r⟩ := T.ex
  exact ⟨f, fd, ps, F.mono h, r⟩
end
/-! ### what they come to -/
section
variable {K : PySem.W.Frag} {σ : L2.St} {H : Hp} {z : V}
theorem ev_fu {sp : Sp} {E : L2.St → XK} {vs : List V} {ta : TA} (h : EvA ta σ H vs) (hs : SpV sp vs H z) : Ev (tFu sp E ta) σ H z := fun H1 e Q q =>
  h H1 e _ fun H2 e2 => hs H2 (e.trans e2) Q (fun H3 e3 => q H3 (e2.trans e3)) (E σ)
theorem el_fu {sp : Sp} {E : L2.St → XK} {vs xs : List V} {ta : TA} (h : EvA ta σ H vs) (hs : SpL sp vs H xs) : EvL (tFu sp E ta) σ H xs := fun H1 e Q q =>
  h H1 e _ fun H2 e2 => hs H2 (e.trans e2) Q (fun p H3 hp e3 h3 => q p H3 (fresh_back e2 hp) (e2.trans e3) h3) (E σ)
def SpU (sp : Sp) (vs : List V) (H : Hp) (xs : List V) : Prop := ∀ H1, Ex H H1 → ∀ Q : VK, (∀ p H2, H1 p = none → Ex H1 H2 → H2 p = some (.tup xs) → Q (.ref p) H2) → ∀ E : XK, sp vs H1 Q E
/-- a method on an object -/
theorem ev_me {C : Addr} {m : Str} {sp : Sp} {E : L2.St → XK} {te : TE} {ta : TA} {o dx : Addr} {fs : List (Str × V)} {vs : List V} (h : Ev te σ H (.ref o)) (ho : H o = some (.ins C dx fs)) (hl : fs.lookup m = none) (ha : EvA ta σ H vs) (hs : SpV sp (.ref o :: vs) H z) :
    Ev (tMethS C m sp E te ta) σ H z := fun H1 e Q q => h H1 e _ fun H2 e2 => ⟨o, dx, fs, rfl, (e.trans e2) _ _ ho, hl, ha H2 (e.trans e2) _ fun H3 e3 => hs H3 ((e.trans e2).trans e3) Q (fun H4 e4 => q H4 ((e2.trans e3).trans e4)) (E σ)⟩
theorem eu_me {C : Addr} {m : Str} {sp : Sp} {E : L2.St → XK} {te : TE} {ta : TA} {o dx : Addr} {fs : List (Str × V)} {vs xs : List V} (h : Ev te σ H (.ref o)) (ho : H o = some (.ins C dx fs)) (hl : fs.lookup m = none) (ha : EvA ta σ H vs) (hs : SpU sp (.ref o :: vs) H xs) :
    EvU (tMethS C m sp E te ta) σ H xs := fun H1 e Q q => h H1 e _ fun H2 e2 => ⟨o, dx, fs, rfl, (e.trans e2) _ _ ho, hl, ha H2 (e.trans e2) _ fun H3 e3 => hs H3 ((e.trans e2).trans e3) Q (fun p H4 hp e4 h4 => q p H4 (fresh_back (e2.trans e3) hp) ((e2.trans e3).trans e4) h4) (E σ)⟩
theorem eu_pr {C : Addr} {sp : Sp} {te : TE} {o dx : Addr} {fs : List (Str × V)} {xs : List V} (h : Ev te σ H (.ref o)) (ho : H o = some (.ins C dx fs)) (hs : SpU sp [.ref o] H xs) : EvU (tPr C sp te) σ H xs := fun H1 e Q q =>
  h H1 e _ fun H2 e2 => ⟨o, dx, fs, rfl, (e.trans e2) _ _ ho, hs H2 (e.trans e2) Q (fun p H4 hp e4 h4 => q p H4 (fresh_back e2 hp) (e2.trans e4) h4) nil0⟩
theorem ev_has {C : Addr} {neg : Bool} {sp : Sp} {ta tb : TE} {y : V} {o dx : Addr} {fs : List (Str × V)} {b : Bool} (hy : Ev ta σ H y) (h : Ev tb σ H (.ref o)) (ho : H o = some (.ins C dx fs)) (hs : SpV sp [.ref o, y] H (.bl b)) :
    Ev (tOp (rHas C neg sp nil0) ta tb) σ H (.bl (if neg = true then !b else b)) := ev_op hy h fun H1 e Q q => ⟨o, dx, fs, rfl, e _ _ ho, hs H1 e _ (fun H2 e2 => ⟨b, rfl, q H2 e2⟩) nil0⟩
/-- o[i], i a new tuple -/
theorem eu_ixM {C : Addr} {sp : Sp} {E : L2.St → XK} {ta tb : TE} {o dx : Addr} {fs : List (Str × V)} {is xs : List V} (h : Ev ta σ H (.ref o)) (ho : H o = some (.ins C dx fs)) (hi : EvU tb σ H is) (hs : ∀ t H1, Ex H H1 → H1 t = some (.tup is) → SpU sp [.ref o, .ref t] H1 xs) :
    EvU (tIxM C sp E ta tb) σ H xs := fun H1 e Q q => h H1 e _ fun H2 e2 => hi H2 (e.trans e2) _ fun t H3 ht e3 h3 => ⟨o, dx, fs, rfl, ((e.trans e2).trans e3) _ _ ho, trivial, hs t H3 ((e.trans e2).trans e3) h3 H3 (Ex.refl _) Q (fun p H4 hp e4 h4 => q p H4 (fresh_back (e2.trans e3) hp) ((e2.trans e3).trans e4) h4) (E σ)⟩
theorem ev_lenM {C : Addr} {sp : Sp} {ta : TE} {o dx : Addr} {fs : List (Str × V)} {n : Nat} (h : Ev ta σ H (.ref o)) (ho : H o = some (.ins C dx fs)) (hn : n < 2 ^ 62) (hs : SpV sp [.ref o] H (.int n)) : Ev (tCB (rLenM C sp) (tCons ta tNil)) σ H (.int n) :=
  fun H1 e Q q => h H1 e _ fun H2 e2 => ⟨o, dx, fs, rfl, (e.trans e2) _ _ ho, hs H2 (e.trans e2) _ (fun H3 e3 => ⟨n, rfl, hn, q H3 (e2.trans e3)⟩) nil0⟩
/-- a comparison of two new tuples, of two values at addresses -/
theorem ev_opT {r : R2} {ta tb : TE} {xs ys : List V} {K : PySem.W.Frag} (h : EvU ta σ H xs) (h2 : EvU tb σ H ys) (hr : ∀ p q H1, SqT K H1 p xs → SqT K H1 q ys → Ex H H1 → RV r (.ref p) (.ref q) H1 z) : Ev (tOp r ta tb) σ H z :=
  ev_opUU h h2 fun p q H1 hp hq e => hr p q H1 (.inl (.inl hp)) (.inl (.inl hq)) e
end
end Vc

set_option Elab.async false
set_option linter.all false
set_option maxRecDepth 100000
set_option maxHeartbeats 2000000
/-! An error of the program, with one field, raised about a variable's value. -/
namespace Vx2
open PySem PySem.Spec PyProof.Rows L2 Vl Evl
/-- the error of the class at CN about y, its field called f -/
def RaisedF (CN : Addr) (f : Str) (H : Hp) (y : V) (E : XK) : Prop := ∀ d H', Ex H H' → H' d = some (.xd [(f, y)]) → E (.ref CN) (some d) H'
theorem raised_f {CN : Addr} {f : Str} {te : TE} {st : L2.St} {H : Hp} {y : V} {W : WX} (i : Nat) (h : te = tVar i) (hy : st[i]? = some (some y)) (q : RaisedF CN f H y fun cls d H' => W cls d st H') :
    tMkO CN (spIni CN f) [] (tCons te tNil) st H (fun cls d H' => W cls d st H') := by
  subst h
  refine ⟨y, hy, by show 1 ≤ 1000; omega, fun a na => ?_⟩
  refine ⟨a, y, rfl, upd_same, fun dx n1 n2 => ?_⟩
  have nd : H dx = none := by rw [upd_ne n2] at n1; exact n1
  refine ⟨rfl, dx, [(f, y)], upd_same, by rw [upd_ne n2, upd_same], nd, ?_⟩
  refine q dx _ (fun b o hb => ?_) upd_same
  rw [upd_ne (ne_of_none hb nd), del_ne (ne_of_none hb na), upd_ne (ne_of_none hb na), upd_ne (ne_of_none hb nd), upd_ne (ne_of_none hb na)]
  exact hb
/-- what is asked of such a class to be raised, and its __init__ -/
structure Err1 (P : Program) (w : World) (K : PySem.W.Frag) (mg : Str → Option Value) (base : Heap) (x f : Str) (C : Addr) : Prop where
  T : OexC K C
  X : XfC K C
  no : PySem.W.findIn K (.ref C) f = some none
  g : mg x = some (.ref C)
  ini : ∃ fI fd, PySem.W.findIn K (.ref C) "__init__" = some (some (.ref fI)) ∧ PySem.W.typeIn K (.ref fI) = some (.type "function") ∧ Binds K fd ["self", f] [] ∧ FnOk P w K mg base CX0 1 fI fd ["self", f] (spIni C f)
end Vx2

set_option Elab.async false
set_option linter.all false
set_option maxRecDepth 100000
set_option maxHeartbeats 2000000
/-! The head's facts as a list; what they say of classes, errors, properties. -/
namespace Vh
open PySem PySem.Spec PyProof.Rows L2 Vx2 Vc
abbrev Fact : Type := Fg → Bool
def allF (fs : List Fact) (K : Fg) : Bool := fs.all fun g => g K
theorem fact_at {fs : List Fact} {K : Fg} (h : allF fs K = true) (i : Nat) {g : Fact} (e : fs[i]? = some g := by rfl) : g K = true := List.all_eq_true.mp h g (List.mem_of_getElem? e)
def glosF (xs : List Str) : Fact := fun K => xs.all fun x => (He.Fa.glo x).ok K
def freesF (xs : List Str) : Fact := fun K => xs.all fun x => (He.Fa.free x).ok K
theorem glos_ok {xs : List Str} {K : Fg} {h : Heap} {mg : Str → Option Value} (X : K.In h) (G : h.Ns mainGlobals mg) (c : glosF xs K = true) : ∀ x ∈ xs, mg x = some (.ref (He.ga K x)) := fun x hx => He.glo_ok X G (List.all_eq_true.mp c x hx)
theorem frees_ok {xs : List Str} {K : Fg} {h : Heap} {mg : Str → Option Value} (X : K.In h) (G : h.Ns mainGlobals mg) (c : freesF xs K = true) : ∀ x ∈ xs, mg x = none := fun x hx => He.free_ok X G (List.all_eq_true.mp c x hx)
/-- a class of the program: its methods, its fields' names free -/
def clsF (x : Str) (fs ms : List Str) : Fact := fun K => (He.Fa.cls x).ok K && ((fs.all fun f => (He.Fa.noat x f).ok K) && ms.all fun m => (He.Fa.meth x m).ok K)
structure ClsK (K : Fg) (C : Addr) (fs ms : List Str) : Prop where
  cls : Cls K C
  no : ∀ f ∈ fs, NoAttr K C f
  me : ∀ m ∈ ms, Meth K C m (He.ma K C m)
theorem clsF_ok {x : Str} {fs ms : List Str} {K : Fg} (c : clsF x fs ms K = true) : ClsK K (He.ga K x) fs ms := by
  obtain ⟨c1, c2⟩ := He.ba c
  obtain ⟨c2, c3⟩ := He.ba c2
  exact ⟨He.cls_ok c1, fun f hf => He.noat_ok (List.all_eq_true.mp c2 f hf), fun m hm => He.meth_ok (List.all_eq_true.mp c3 m hm)⟩
/-- a property -/
def prpF (x f : Str) : Fact := fun K =>
  He.eqO (PySem.W.findIn K (.ref (He.ga K x)) f) (some (some (.ref (He.ma K (He.ga K x) f)))) && (He.eqO (PySem.W.specialIn K (.ref (He.ma K (He.ga K x) f)) "__get__") (some (some (.builtin "property.__get__"))) && (decide (PySem.W.takesIn K (.ref (He.ma K (He.ga K x) f)) = some true) &&
  (match PySem.W.recIn K (He.ma K (He.ga K x) f) "property" with
    | some (.ref _ :: _) => true
    | _ => false)))
theorem prpF_ok {x f : Str} {K : Fg} (h : prpF x f K = true) : PropOf K (He.ga K x) f (He.ma K (He.ga K x) f) (pgA K x f) := by
  obtain ⟨h1, h⟩ := He.ba h
  obtain ⟨h2, h⟩ := He.ba h
  obtain ⟨h3, h4⟩ := He.ba h
  refine ⟨He.eqO_ok h1, He.eqO_ok h2, of_decide_eq_true h3, ?_⟩
  unfold pgA
  split at h4
  · next g rest e => exact ⟨rest, by rw [e]⟩
  · cases h4
/-- a class of errors with fields -/
def errF (x : Str) (fs : List Str) : Fact := fun K => errB K (He.ga K x) && iniB K (He.ga K x) fs
/-- a class of errors without an own __init__ -/
def err0F (x : Str) : Fact := fun K => errB K (He.ga K x)
def exmF (xs : List Str) : Fact := fun K => xs.all fun x => xs.all fun y => (He.Fa.exm x y (decide (x = y))).ok K
theorem exmF_ok {xs : List Str} {K : Fg} (h : exmF xs K = true) {x y : Str} (hx : x ∈ xs) (hy : y ∈ xs) : PySem.W.exmOne K (.ref (He.ga K x)) (.ref (He.ga K y)) = some (decide (x = y)) :=
  of_decide_eq_true (List.all_eq_true.mp (List.all_eq_true.mp h x hx) y hy)
def fnF (x m : Str) : Fact := fun K => PySem.W.fnIn K (He.ma K (He.ga K x) m)
def mkF (x : Str) : Fact := fun K => (He.Fa.mkr x).ok K
def strF (x z : Str) : Fact := fun K => (He.Fa.str x z).ok K
def intF (x : Str) (i : Int) : Fact := fun K => (He.Fa.int x i).ok K
theorem err1_of {P : Program} {w : World} {K : Fg} {mg : Str → Option Value} {base : Heap} {x f : Str} {fd : FuncData} (h : errF x [f] K = true) (hk : takB K = true) (g : mg x = some (.ref (He.ga K x)))
    (G : FnOk P w K mg base L2.CX0 1 (He.ma K (He.ga K x) "__init__") fd ["self", f] (Vl.spIni (He.ga K x) f)) (b : L2.Binds K fd ["self", f] []) : Err1 P w K mg base x f (He.ga K x) := by
  obtain ⟨h1, h2⟩ := He.ba h
  obtain ⟨O, XF, IS⟩ := errB_ok h1 hk
  have I := iniB_ok h2
  exact ⟨O, XF, I.no f List.mem_cons_self, g, _, fd, I.iC, I.tI, b, G⟩
end Vh

set_option Elab.async false
set_option linter.all false
set_option maxRecDepth 100000
set_option maxHeartbeats 2000000
/-! The laws' own draws: a pool of three ints, names out of it. -/
namespace Vp
open PySem PySem.Spec PyProof.Rows L2 Vl Evl
/-- a text by its signs -/
def tx (l : List Nat) : Str := ⟨l.toArray⟩
theorem tx_list (l : List Nat) : (tx l).cps.toList = l := rfl
theorem tx_len (l : List Nat) : (tx l).length = l.length := rfl
theorem tx_app (a b : List Nat) : tx a ++ tx b = tx (a ++ b) := by
  show Str.mk (a.toArray ++ b.toArray) = Str.mk (a ++ b).toArray
  rw [List.append_toArray]
theorem tx_one (c : Nat) : (⟨#[c]⟩ : Str) = tx [c] := rfl
theorem tx_inj {a b : List Nat} (h : tx a = tx b) : a = b := by
  have := congrArg (fun z : Str => z.cps.toList) h
  exact this
theorem tx_of (z : Str) : z = tx z.cps.toList := by
  obtain ⟨a⟩ := z
  rfl
theorem tx_cut0 (l : List Nat) (k : Nat) : cutS (tx l) none (some (k : Int)) = tx (l.take k) := by
  show Str.mk _ = Str.mk _
  rw [HT.sIx_nat, HT.sIx_none, tx_len, tx_list, List.drop_zero, Nat.sub_zero, ← List.take_take, List.take_length]
theorem tx_cut1 (l : List Nat) (k : Nat) : cutS (tx l) (some (k : Int)) none = tx (l.drop k) := by
  show Str.mk _ = Str.mk _
  rw [HT.sIx_nat, HT.sIx_none, tx_len, tx_list]
  congr 2
  by_cases h : k ≤ l.length
  · rw [Nat.min_eq_left h, ← List.length_drop, List.take_length]
  · rw [List.drop_of_length_le (by omega), List.drop_of_length_le (by omega), List.take_nil]
def letters : List Nat := [97, 98, 99, 100, 101, 102, 103, 104, 105, 106, 107, 108, 109, 110, 111, 112, 113, 114, 115, 116, 117, 118, 119, 120, 121, 122]
def digits : List Nat := [48, 49, 50, 51, 52, 53, 54, 55, 56, 57]
def signs : List Nat := letters ++ digits
/-- the signs of a name: a small letter, then up to seven small letters and figures -/
def nam (l : List Nat) : Prop := ∃ c r, l = c :: r ∧ c ∈ letters ∧ (∀ x ∈ r, x ∈ signs) ∧ r.length ≤ 7
theorem nam_len {l : List Nat} (h : nam l) : 1 ≤ l.length ∧ l.length ≤ 8 := by
  obtain ⟨c, r, rfl, _, _, h4⟩ := h
  rw [List.length_cons]
  omega
theorem letters_signs {c : Nat} (h : c ∈ letters) : c ∈ signs := List.mem_append_left _ h
theorem nam_signs {l : List Nat} (h : nam l) : ∀ x ∈ l, x ∈ signs := by
  obtain ⟨c, r, rfl, h2, h3, _⟩ := h
  intro x hx
  rcases List.mem_cons.mp hx with rfl | hx
  · exact letters_signs h2
  · exact h3 x hx
theorem nam_take {l : List Nat} (h : nam l) (k : Nat) : nam (l.take (k + 1)) := by
  obtain ⟨c, r, rfl, h2, h3, h4⟩ := h
  refine ⟨c, r.take k, List.take_succ_cons, h2, fun x hx => h3 x (List.mem_of_mem_take hx), ?_⟩
  rw [List.length_take]
  omega
/-- a pool stands at p, its counter at most n -/
def PoolAt (H : Hp) (p : Addr) (n : Nat) : Prop := ∃ a b c : Int, H p = some (.lst [.int a, .int b, .int c]) ∧ 0 ≤ b ∧ b < 1000000007 ∧ 0 ≤ c ∧ c ≤ n
theorem PoolAt.mono {H : Hp} {p : Addr} {n m : Nat} (h : PoolAt H p n) (hm : n ≤ m) : PoolAt H p m := by
  obtain ⟨a, b, c, h1, h2, h3, h4, h5⟩ := h
  exact ⟨a, b, c, h1, h2, h3, h4, by omega⟩
/-- all but what stands at p -/
def Wo (H : Hp) (p : Addr) : Hp := fun b => if b = p then none else H b
theorem wo_self (H : Hp) (p : Addr) : Wo H p p = none := if_pos rfl
theorem wo_ne {H : Hp} {p b : Addr} (h : b ≠ p) : Wo H p b = H b := if_neg h
theorem wo_ex (H : Hp) (p : Addr) : Ex (Wo H p) H := fun b o e => by
  by_cases h : b = p
  · rw [h, wo_self] at e
    cases e
  · rw [wo_ne h] at e
    exact e
theorem wo_of {Hk H : Hp} {p : Addr} (h : Hk p = none) (e : Ex Hk H) : Ex Hk (Wo H p) := fun b o hb => by
  rw [wo_ne (ne_of_none hb h)]
  exact e b o hb
theorem wo_at {H : Hp} {p b : Addr} {o : HO} (h : H b = some o) (hb : b ≠ p) : Wo H p b = some o := by
  rw [wo_ne hb]
  exact h
/-- what is known is Hk, all but the pool at p; the pool stands there -/
structure Pl (Hk : Hp) (p : Addr) (n : Nat) (H : Hp) : Prop where
  no : Hk p = none
  ex : Ex Hk H
  at_ : PoolAt H p n
theorem Pl.re {Hk H : Hp} {p : Addr} {n : Nat} (h : Pl Hk p n H) : Pl (Wo H p) p n H := ⟨wo_self _ _, wo_ex _ _, h.at_⟩
theorem Pl.wo {Hk H : Hp} {p : Addr} {n : Nat} (h : Pl Hk p n H) : Ex Hk (Wo H p) := wo_of h.no h.ex
theorem Pl.grow {Hk H H' : Hp} {p : Addr} {n : Nat} (h : Pl Hk p n H) (e : Ex H H') : Pl Hk p n H' := by
  obtain ⟨a, b, c, h1, h2⟩ := h.at_
  exact ⟨h.no, h.ex.trans e, a, b, c, e _ _ h1, h2⟩
theorem Pl.cnt {Hk H : Hp} {p : Addr} {n m : Nat} (h : Pl Hk p n H) (hm : n ≤ m) : Pl Hk p m H := ⟨h.no, h.ex, h.at_.mono hm⟩
theorem Pl.sub {Hk Hj H : Hp} {p : Addr} {n : Nat} (h : Pl Hk p n H) (e : Ex Hj Hk) (hn : Hj p = none) : Pl Hj p n H := ⟨hn, e.trans h.ex, h.at_⟩
/-- a new object beside the pool -/
theorem Pl.new {Hk H : Hp} {p q : Addr} {n : Nat} {o : HO} (h : Pl Hk p n H) (hq : H q = none) : Pl Hk p n (upd H q o) := h.grow (Ex.new hq)
theorem Pl.ne {Hk H : Hp} {p q : Addr} {n : Nat} (h : Pl Hk p n H) (hq : H q = none) : q ≠ p := fun z => by
  obtain ⟨a, b, c, h1, _⟩ := h.at_
  rw [z, h1] at hq
  cases hq
/-! promises -/
def spPool : Sp := fun vs H Q _ => ∃ c : Int, vs = [.int c] ∧ ∀ p H', H p = none → Ex H H' → PoolAt H' p 0 → Q (.ref p) H'
def spTake : Sp := fun vs H Q _ => ∃ (p : Addr) (m : Int) (Hk : Hp) (n : Nat), vs = [.ref p, .int m] ∧ 1 ≤ m ∧ m ≤ 100000 ∧ Pl Hk p n H ∧ n ≤ 100000 ∧
  ∀ (r : Int) H', 0 ≤ r → r < m → Pl Hk p (n + 1) H' → Q (.int r) H'
/-- names, none of them twice -/
def Names (xs : List (List Nat)) : Prop := (∀ l ∈ xs, nam l) ∧ xs.Nodup
def vtx (xs : List (List Nat)) : List V := xs.map fun l => V.str (tx l)
theorem vtx_len (xs : List (List Nat)) : (vtx xs).length = xs.length := List.length_map _
theorem vtx_app (xs ys : List (List Nat)) : vtx (xs ++ ys) = vtx xs ++ vtx ys := List.map_append
theorem vtx_at {xs : List (List Nat)} {i : Nat} {l : List Nat} (h : xs[i]? = some l) : (vtx xs)[i]? = some (V.str (tx l)) := by
  unfold vtx
  rw [List.getElem?_map, h]
  rfl
def spNames : Sp := fun vs H Q _ => ∃ (p : Addr) (m : Nat) (Hk : Hp) (n : Nat), vs = [.ref p, .int (m : Int)] ∧ m ≤ 8 ∧ Pl Hk p n H ∧ n ≤ 90000 ∧
  ∀ q xs H', H q = none → Pl Hk p (n + 50) H' → H' q = some (.lst (vtx xs)) → xs.length = m → Names xs → Q (.ref q) H'
/-- words out of names -/
def spWord : Sp := fun vs H Q _ => ∃ (p q : Addr) (xs : List (List Nat)) (m : Nat) (Hk : Hp) (n : Nat), vs = [.ref p, .ref q, .int (m : Int)] ∧ 1 ≤ m ∧ m ≤ 30 ∧ Pl Hk p n H ∧ n ≤ 90000 ∧ Hk q = some (.lst (vtx xs)) ∧ 1 ≤ xs.length ∧ xs.length ≤ 1000 ∧
  ∀ d ys H', H d = none → Pl Hk p (n + 50) H' → H' d = some (.lst (vtx ys)) → 1 ≤ ys.length → ys.length ≤ max m 12 → (∀ y ∈ ys, y ∈ xs) → Q (.ref d) H'
theorem mod7 {s i j n : Nat} (hn : n = 26 ∨ n = 36) (hi : i < 26) (hj : j < 26) (h : (s + 7 * i) % n = (s + 7 * j) % n) : i = j := by
  rcases hn with rfl | rfl <;> omega
theorem mod3 {s i j : Nat} (hi : i < 8) (hj : j < 8) (h : (s + 3 * i) % 26 = (s + 3 * j) % 26) : i = j := by omega
theorem nodup_letters : letters.Nodup := by decide
theorem nodup_signs : signs.Nodup := by decide +kernel
theorem len_letters : letters.length = 26 := rfl
theorem len_signs : signs.length = 36 := rfl
theorem nodup_key {α : Type} {l : List α} (h : ∀ (i j : Nat) (y : α), l[i]? = some y → l[j]? = some y → i = j) : l.Nodup := by
  refine List.pairwise_iff_getElem.mpr fun i j hi hj hij e => ?_
  have := h i j l[i] (List.getElem?_eq_getElem hi) (by rw [e]; exact List.getElem?_eq_getElem hj)
  omega
theorem nodup_range {α : Type} {m : Nat} {f : Nat → α} (h : ∀ i j, i < m → j < m → f i = f j → i = j) : ((List.range m).map f).Nodup := by
  refine nodup_key fun i j y hi hj => ?_
  rw [List.getElem?_map] at hi hj
  by_cases a : i < m
  · by_cases b : j < m
    · rw [List.getElem?_range a] at hi
      rw [List.getElem?_range b] at hj
      exact h i j a b ((Option.some.inj hi).trans (Option.some.inj hj).symm)
    · rw [List.getElem?_eq_none (by rw [List.length_range]; omega)] at hj
      cases hj
  · rw [List.getElem?_eq_none (by rw [List.length_range]; omega)] at hi
    cases hi
theorem getD_at {l : List Nat} {i : Nat} (h : i < l.length) : l[i]? = some (l.getD i 0) := by
  rw [List.getElem?_eq_getElem h, List.getD_eq_getElem?_getD, List.getElem?_eq_getElem h]
  rfl
theorem getD_mem {l : List Nat} {i : Nat} (h : i < l.length) : l.getD i 0 ∈ l := List.mem_of_getElem? (getD_at h)
theorem getD_inj {l : List Nat} (hn : l.Nodup) {i j : Nat} (hi : i < l.length) (hj : j < l.length) (h : l.getD i 0 = l.getD j 0) : i = j :=
  nd_ix hn (getD_at hi) (by rw [h]; exact getD_at hj)
theorem nam_one {c : Nat} (h : c ∈ letters) : nam [c] := ⟨c, [], rfl, h, (fun _ z => nomatch z), by show 0 ≤ 7; omega⟩
theorem nam_snoc {l : List Nat} {c : Nat} (h : nam l) (hc : c ∈ signs) (hl : l.length ≤ 7) : nam (l ++ [c]) := by
  obtain ⟨a, r, rfl, h2, h3, h4⟩ := h
  refine ⟨a, r ++ [c], rfl, h2, fun x hx => ?_, ?_⟩
  · rcases List.mem_append.mp hx with hx | hx
    · exact h3 x hx
    · rw [List.mem_singleton.mp hx]
      exact hc
  · rw [List.length_append, List.length_singleton]
    rw [List.length_cons] at hl
    omega
theorem nam_cons {l : List Nat} {c : Nat} (hc : c ∈ letters) (hl : ∀ x ∈ l, x ∈ signs) (h7 : l.length ≤ 7) : nam (c :: l) := ⟨c, l, rfl, hc, hl, h7⟩
/-- a sign put into a stem -/
theorem nam_put {w : List Nat} {c t p : Nat} (hw : nam w) (ht : t ≤ 7) (hp : p ≤ (w.take t).length) (h : p = 0 → c ∈ letters) (h2 : c ∈ signs) :
    nam ((w.take t).take p ++ [c] ++ (w.take t).drop p) := by
  have hm : ∀ x ∈ w.take t, x ∈ signs := fun x hx => nam_signs hw x (List.mem_of_mem_take hx)
  have hl : (w.take t).length ≤ 7 := by rw [List.length_take]; omega
  cases p with
  | zero =>
    rw [List.take_zero, List.nil_append, List.drop_zero]
    exact nam_cons (h rfl) hm hl
  | succ p =>
    obtain ⟨a, r, hw1, ha, hr, h7⟩ := hw
    cases t with
    | zero =>
      rw [List.take_zero] at hp
      exact absurd hp (by show ¬ p + 1 ≤ 0; omega)
    | succ t =>
      rw [hw1, List.take_succ_cons] at hm hl hp ⊢
      rw [List.take_succ_cons, List.drop_succ_cons, List.append_assoc]
      rw [List.length_cons] at hl hp
      refine ⟨a, (r.take t).take p ++ ([c] ++ (r.take t).drop p), rfl, ha, fun x hx => ?_, ?_⟩
      · rcases List.mem_append.mp hx with hx | hx
        · exact hm x (List.mem_cons_of_mem _ (List.mem_of_mem_take hx))
        · rcases List.mem_append.mp hx with hx | hx
          · rw [List.mem_singleton.mp hx]
            exact h2
          · exact hm x (List.mem_cons_of_mem _ (List.mem_of_mem_drop hx))
      · rw [List.length_append, List.length_append, List.length_take, List.length_drop, List.length_singleton]
        omega
theorem put_at {w : List Nat} {c p : Nat} (hp : p ≤ w.length) : (w.take p ++ [c] ++ w.drop p)[p]? = some c := by
  rw [List.append_assoc, List.getElem?_append_right (by rw [List.length_take]; omega), List.length_take, Nat.min_eq_left hp, Nat.sub_self]
  rfl
theorem str_letters : Str.ofString "abcdefghijklmnopqrstuvwxyz" = tx letters := by decide +kernel
theorem str_digits : Str.ofString "0123456789" = tx digits := by decide +kernel
theorem rv_cats {a b : List Nat} {H : Hp} (h : a.length + b.length ≤ 100000) : RV rCatS (.str (tx a)) (.str (tx b)) H (.str (tx (a ++ b))) := by
  intro H1 _ Q q
  refine ⟨tx a, tx b, rfl, rfl, sz_of h, ?_⟩
  rw [tx_app]
  exact q H1 (Ex.refl H1)
theorem fresh_wo {H H' : Hp} {p d : Addr} {n m : Nat} {Hk : Hp} (h0 : Pl Hk p n H) (h : Pl (Wo H p) p m H') (hd : H' d = none) : H d = none := by
  cases e : H d with
  | none => rfl
  | some o =>
    have hp : d ≠ p := h.ne hd
    have := h.ex d o (wo_at e hp)
    rw [hd] at this
    cases this
theorem Pl.back {Hk H H' : Hp} {p : Addr} {n m : Nat} (h0 : Pl Hk p n H) (h : Pl (Wo H p) p m H') : Pl Hk p m H' := h.sub h0.wo h0.no
theorem cutV0 (xs : List V) (k : Nat) : cutV xs none (some (k : Int)) = xs.take k := by
  unfold cutV
  rw [HT.sIx_nat, HT.sIx_none, List.drop_zero, Nat.sub_zero, ← List.take_take, List.take_length]
theorem cutV1 (xs : List V) (k : Nat) : cutV xs (some (k : Int)) none = xs.drop k := by
  unfold cutV
  rw [HT.sIx_nat, HT.sIx_none]
  by_cases h : k ≤ xs.length
  · rw [Nat.min_eq_left h, ← List.length_drop, List.take_length]
  · rw [List.drop_of_length_le (by omega), List.drop_of_length_le (by omega), List.take_nil]
theorem vtx_take (xs : List (List Nat)) (k : Nat) : (vtx xs).take k = vtx (xs.take k) := List.map_take.symm
theorem vtx_drop (xs : List (List Nat)) (k : Nat) : (vtx xs).drop k = vtx (xs.drop k) := List.map_drop.symm
theorem vtx_rep (xs : List (List Nat)) : ∀ k, (List.replicate k (vtx xs)).flatten = vtx (List.replicate k xs).flatten
  | 0 => rfl
  | k + 1 => by
    rw [List.replicate_succ, List.flatten_cons, List.replicate_succ, List.flatten_cons, vtx_rep xs k, vtx_app]
theorem rep_len {α : Type} (xs : List α) : ∀ k, (List.replicate k xs).flatten.length = k * xs.length
  | 0 => by rw [Nat.zero_mul]; rfl
  | k + 1 => by
    rw [List.replicate_succ, List.flatten_cons, List.length_append, rep_len xs k, Nat.succ_mul]
    omega
theorem rep_mem {α : Type} {xs : List α} {y : α} {k : Nat} (h : y ∈ (List.replicate k xs).flatten) : y ∈ xs := by
  obtain ⟨l, hl, hy⟩ := List.mem_flatten.mp h
  rw [(List.mem_replicate.mp hl).2] at hy
  exact hy
end Vp

set_option Elab.async false
set_option linter.all false
set_option maxRecDepth 100000
set_option maxHeartbeats 4000000
/-! o op y by an own operator, y of a built-in type; what the head says of it. -/
namespace Vw
open PySem PySem.Spec PyProof.Rows L2 Vl Evl Vp Vo Vc Vh
/-- values of built-in types, with the type's name -/
def Wr (y : V) (H : Hp) (t : String) : Prop := (∃ b, y = .bl b ∧ t = "bool") ∨ (∃ i, y = .int i ∧ t = "int") ∨ (∃ z, y = .str z ∧ t = "str") ∨ (y = .non ∧ t = "NoneType") ∨
  (∃ a xs, y = .ref a ∧ H a = some (.tup xs) ∧ t = "tuple") ∨ (∃ a xs, y = .ref a ∧ H a = some (.lst xs) ∧ t = "list")
theorem Wr.tyx {K : PySem.W.Frag} {y : V} {H : Hp} {t : String} (h : Wr y H t) : TyX K H y (.type t) := by
  rcases h with ⟨b, rfl, rfl⟩ | ⟨b, rfl, rfl⟩ | ⟨b, rfl, rfl⟩ | ⟨rfl, rfl⟩ | ⟨a, xs, rfl, ha, rfl⟩ | ⟨a, xs, rfl, ha, rfl⟩
  · exact .base (.bl b)
  · exact .base (.int b)
  · exact .base (.str b)
  · exact .base .non
  · exact .base (.tup ha)
  · exact .base (.lst ha)
theorem Wr.mem {y : V} {H : Hp} {t : String} (h : Wr y H t) : t ∈ ["bool", "int", "str", "NoneType", "tuple", "list"] := by
  rcases h with ⟨b, rfl, rfl⟩ | ⟨b, rfl, rfl⟩ | ⟨b, rfl, rfl⟩ | ⟨rfl, rfl⟩ | ⟨a, xs, rfl, ha, rfl⟩ | ⟨a, xs, rfl, ha, rfl⟩ <;> decide
theorem looks_ty {M : Model} {s : Shared} {v : Value} {t : String} (h : s.TypeIs v t) : PySem.W.Looks M s.heap (typeOf v) (.type t) := fun A Q E s' k q => by
  refine wpAny_typeOf ?_ q
  cases v with
  | ref a =>
    obtain ⟨o, h1, h2⟩ := (show ∃ o, s.heap.get? a = some o ∧ o.cls = .type t from h)
    exact ⟨o, k _ _ h1, h2⟩
  | _ => exact h
theorem Wr.looks {X : Cx} {pins : List (Addr × Obj)} {st : L2.St} {H : Hp} {s : Shared} {y : V} {u : Value} {t : String} (I : Inv X pins st H s) (r : RelV y u) (h : Wr y H t) : PySem.W.Looks (model X.prog X.w) s.heap (typeOf u) (.type t) := by
  rcases h with ⟨b, rfl, rfl⟩ | ⟨b, rfl, rfl⟩ | ⟨b, rfl, rfl⟩ | ⟨rfl, rfl⟩ | ⟨a, xs, rfl, ha, rfl⟩ | ⟨a, xs, rfl, ha, rfl⟩
  · cases r
    exact .of_pure rfl
  · obtain ⟨t, rfl⟩ := r
    exact .of_pure rfl
  · obtain ⟨t, rfl⟩ := r
    exact .of_pure rfl
  · cases r
    exact .of_pure rfl
  · cases r
    obtain ⟨its, r', ht, hz⟩ := I.tuple (xs := xs) (.inl (.inl ha))
    exact looks_ty (IsTup.typeIs ht)
  · cases r
    obtain ⟨its, r', ht, hz⟩ := I.list (xs := xs) (sq_of ha)
    exact looks_ty ht.isList.typeIs
abbrev tyNames : List String := ["bool", "int", "str", "NoneType", "tuple", "list"]
structure Ow (P : Program) (w : World) (K : PySem.W.Frag) (mg : Str → Option Value) (base : Heap) (C : Addr) (CX : CXT) (k : Nat) (nm : String) (sp : Sp) : Prop where
  ex : ∃ (f : Addr) (fd : FuncData) (ps : List Str), FnOk P w K mg base CX k f fd ps sp ∧ OwnOp K C nm f ∧ L2.Binds K fd ps []
  far : ∀ t ∈ tyNames, Far K C nm t
def tOw (C : Addr) (sp : Sp) (E : L2.St → XK) (ta tb : TE) : TE := fun st H Q => ta st H fun x H1 => tb st H1 fun y H2 => ∃ o dx fs t, x = .ref o ∧ H2 o = some (.ins C dx fs) ∧ Wr y H2 t ∧ sp [x, y] H2 Q (E st)
section
variable {X : Cx} {C : Addr} {j k : Nat} {sp : Sp} {E : L2.St → XK} {pos : Pos} {a b : Expr} {ta tb : TE} {op : Operator}
theorem pe_owX (T : Ow X.prog X.w X.K X.mg X.base C (L2.CX X.prog X.w) k op.info.2 sp) (hr : Room j X.A) (hx : ∀ st, PassesAt (L2.CX X.prog X.w) X st (E st)) (ha : PE X a ta) (hi : PE X b tb) (hk : k ≤ j := by decide) : PE X (.BinOp a op b pos) (tOw C sp E ta tb) := by
  obtain ⟨f, fd, ps, F, W, B⟩ := T.ex
  exact pe_binO W (fun y H t h => T.far t h.mem) (fun pins st H s y u t I r h => Wr.looks I r h) F (hr.mono hk) B hx ha hi
theorem pe_owN (T : Ow X.prog X.w X.K X.mg X.base C (L2.CX X.prog X.w) k op.info.2 sp) (hr : Room j X.A) (ha : PE X a ta) (hi : PE X b tb) (hk : k ≤ j := by decide) : PE X (.BinOp a op b pos) (tOw C sp (fun _ => nil0) ta tb) :=
  pe_owX (E := fun _ => nil0) T hr (fun σ => Vtr.passNo σ) ha hi hk
end
/-! the head -/
def opB (K : Fg) (C : Addr) (nm : String) : Bool := PySem.W.selfFirst K C && (He.eqO (PySem.W.findIn K (.ref C) (PySem.dunder nm)) (some (some (.ref (He.ma K C (PySem.dunder nm))))) && (PySem.W.isFn K (.ref (He.ma K C (PySem.dunder nm))) && He.eqO (PySem.W.findIn K (.ref C) (dunderR nm)) (some none)))
def farB (K : Fg) (C : Addr) (nm t : String) : Bool := (PySem.W.findIn K (.type t) (PySem.dunder nm)).isSome && ((PySem.W.findIn K (.type t) (dunderR nm)).isSome && decide (PySem.W.subIn K (.type t) (.ref C) = some false))
def owF (x : Str) (nm : String) : Fact := fun K => opB K (He.ga K x) nm && tyNames.all fun t => farB K (He.ga K x) nm t
theorem owF_ok {x : Str} {nm : String} {K : Fg} (h : owF x nm K = true) : OwnOp K (He.ga K x) nm (He.ma K (He.ga K x) (PySem.dunder nm)) ∧ ∀ t ∈ tyNames, Far K (He.ga K x) nm t := by
  obtain ⟨h, g⟩ := He.ba h
  obtain ⟨h1, h⟩ := He.ba h
  obtain ⟨h2, h⟩ := He.ba h
  obtain ⟨h3, h4⟩ := He.ba h
  refine ⟨⟨h1, He.eqO_ok h2, h3, He.eqO_ok h4⟩, fun t ht => ?_⟩
  obtain ⟨g1, g⟩ := He.ba (List.all_eq_true.mp g t ht)
  obtain ⟨g2, g3⟩ := He.ba g
  exact ⟨Option.isSome_iff_exists.mp g1, Option.isSome_iff_exists.mp g2, of_decide_eq_true g3⟩
/-- what the class is not -/
def tyF (x : Str) : Fact := fun K => tyNames.all fun t => PySem.W.notFirst K (He.ga K x) (.type t) && decide (PySem.W.kitOne K (.type t) (.ref (He.ga K x)) = some false)
theorem tyF_ok {x : Str} {K : Fg} (h : tyF x K = true) : (∀ t ∈ tyNames, PySem.W.notFirst K (He.ga K x) (.type t) = true) ∧ ∀ t ∈ tyNames, PySem.W.kitOne K (.type t) (.ref (He.ga K x)) = some false := by
  refine ⟨fun t ht => (He.ba (List.all_eq_true.mp h t ht)).1, fun t ht => of_decide_eq_true (He.ba (List.all_eq_true.mp h t ht)).2⟩
/-- isinstance(o, C) -/
def insF (x : Str) : Fact := fun K => He.eqO (PySem.W.findIn K (.ref (He.ga K x)) "__class__") (some (some (.builtin "object.__class__"))) && (decide (PySem.W.mroIn K (He.ga K x) (.type "object") = some true) && decide (PySem.W.kitOne K (.ref (He.ga K x)) (.ref (He.ga K x)) = some true))
theorem insF_ok {x : Str} {K : Fg} (c : L2.Cls K (He.ga K x)) (h : insF x K = true) (hk : takB K = true) : C8.InsC K (He.ga K x) := by
  obtain ⟨h1, h⟩ := He.ba h
  obtain ⟨h2, h3⟩ := He.ba h
  obtain ⟨k1, k2⟩ := He.ba hk
  exact ⟨c, He.eqO_ok h1, He.eqO_ok k1, of_decide_eq_true k2, of_decide_eq_true h2, of_decide_eq_true h3⟩
def neF (x : Str) : Fact := fun K => Vo.neB K (He.ga K x) (He.ma K (He.ga K x) "__eq__")
end Vw

set_option Elab.async false
set_option linter.all false
set_option maxRecDepth 100000
set_option maxHeartbeats 2000000
/-! tuple(d) of a dict: its keys. -/
namespace Vd
open PySem PySem.Spec PyProof.Rows PySem.W
section
variable {prog : Program} {w : World} {A : Around} {E : Value → Shared → Prop} {s : Shared} {T : String} {r d : Addr} {n : Nat} {P : Nat → Value → Prop} {OK : Heap → Prop}
theorem collect_kdl {Q : List Value → Shared → Prop} (K : KdlSrc prog w T r d n P OK) (hh : A.handled = none) (hok : OK s.heap) (hn : n ≤ sizeLine)
    (hQ : ∀ (h' : Heap) (tk : Nat) (acc : Array Value), (∀ b o, s.heap.get? b = some o → h'.get? b = some o) → ItemsOf P acc n → Q acc.toList { s with heap := h', toks := tk }) :
    wpAny (model prog w) A (collect (.ref r)) Q E s := by
  have lt := K.there _ hok
  have hSr : s.heap.objs.size ≠ r := Nat.ne_of_gt lt.1
  have hSd : s.heap.objs.size ≠ d := Nat.ne_of_gt lt.2
  unfold collect
  refine wpAny_bind (wpAny_runValue (codeAny_builtin F.entry_proto_collect ?_))
  rw [Around.under_plainId F.plain_proto_collect _]
  show wpAny _ A.in1 (newList [] >>= fun l' => again (.builtin "list.__iadd__" ⟨[l', .ref r], []⟩)) _ _ s
  refine wpAny_bind (wpAny_newObj_type ?_)
  refine wpAny_pure ⟨plainId_quiet F.plain_list_iadd _, codeAny_builtin F.entry_list_iadd ?_⟩
  rw [Around.under_plainId F.plain_list_iadd _]
  have hS₁ : (s.heap.push { cls := .type "list", data := .seq ([] : List Value).toArray }).get? s.heap.objs.size = some { cls := .type "list", data := .seq ([] : List Value).toArray } := Heap.get?_push_size _ rfl
  show wpAny _ A.in1 (Builtin.List.listExtendWith (.ref s.heap.objs.size) (.ref r) (.ref s.heap.objs.size)) _ _ _
  refine kdl_extend (R := wants _ E) (A := A) (s := { s with heap := s.heap.push { cls := .type "list", data := .seq ([] : List Value).toArray } }) K hh (K.keep _ _ hok fun b _ o e => Heap.get?_push_of_some _ e) s.heap.objs.size hSr hSd (.ref s.heap.objs.size) 0 hS₁ (fun h' tk acc' c' hk hS' hacc => ?_) hn
  show wpAny _ A (load s.heap.objs.size >>= _) _ _ _
  refine wpAny_bind (wpAny_load hS' ?_)
  refine wpAny_pure ?_
  exact hQ h' tk acc' (fun b o e => hk b o (Nat.ne_of_lt (Heap.lt_size e)) (Heap.get?_push_of_some _ e)) hacc
theorem code_tuple_kdl {Q₁ : Value → Shared → Prop} (K : KdlSrc prog w T r d n P OK) (hh : A.handled = none) (hok : OK s.heap) (hn : n ≤ sizeLine)
    (h : ∀ (h' : Heap) (tk : Nat) (acc : Array Value), (∀ b o, s.heap.get? b = some o → h'.get? b = some o) → ItemsOf P acc n → Q₁ (.ref h'.objs.size) { s with heap := h'.push { cls := .type "tuple", data := .seq acc }, toks := tk }) :
    codeAny (model prog w) A (.call (.builtin "tuple.__new__") ⟨[.type "tuple", .ref r], []⟩) (wants Q₁ E) s := by
  refine codeAny_of_tree ?_
  show wpAny _ A.in1 (do checkBuiltinCall "tuple.__new__" ⟨[.type "tuple", .ref r], []⟩; again (.builtin "tuple.__new__" ⟨[.type "tuple", .ref r], []⟩)) _ _ s
  refine wpAny_bind (wpAny_of_eq (F.newCall_tuple_1 _) (wpAny_pure ⟨plainId_quiet F.plain_tuple_new _, codeAny_builtin F.entry_tuple_new ?_⟩))
  rw [Around.under_plainId F.plain_tuple_new _]
  have hsub := sub_tuple_self
  have hinit := init_tuple_lookup
  have hmh := madeHere_tuple
  have hTI : s.TypeIs (.ref r) T := K.type s hok
  have hnt := K.notTuple
  have hh1 : A.in1.handled = none := hh
  wp_walk using wpAny_typeOf hTI, collect_kdl (A := A.in1) K hh1 hok hn
  intro h' tk acc hk hacc
  show wpAny _ _ (Builtin.Tuple.tupleExact acc.toList.toArray >>= fun v => ret v) _ _ _
  unfold Builtin.Tuple.tupleExact
  refine wpAny_bind (wpAny_newObj_type ?_ (by show acc.toList.toArray.size ≤ sizeLine; simp only [Array.toArray_toList]; rw [hacc.1]; exact hn))
  refine wpAny_pure ?_
  have e : acc.toList.toArray = acc := by simp
  rw [e]
  exact h h' tk acc hk hacc
theorem call_tuple_kdl {Q : Value → Shared → Prop} (K : KdlSrc prog w T r d n P OK) (hh : A.handled = none) (hok : OK s.heap) (hn : n ≤ sizeLine)
    (hQ : ∀ (h' : Heap) (tk : Nat) (acc : Array Value), (∀ b o, s.heap.get? b = some o → h'.get? b = some o) → ItemsOf P acc n → Q (.ref h'.objs.size) { s with heap := h'.push { cls := .type "tuple", data := .seq acc }, toks := tk }) :
    wpAny (model prog w) A (call (.type "tuple") [.ref r]) Q E s := by
  refine callType_codes (Q₁ := fun obj s₁ => s₁.TypeIs obj "tuple" ∧ Q obj s₁) F.called_tuple (F.typeCall_tuple_1 _) F.entry_object_init
    (code_tuple_kdl (A := A.in1) K hh hok hn fun h' tk acc hk hacc => ⟨⟨_, Heap.get?_push_size _ rfl, rfl⟩, hQ h' tk acc hk hacc⟩) fun obj s₁ h₁ => ?_
  exact ⟨h₁.1, F.args_object_init_2 obj _, object_init_meets F.called_tuple.init.lookup F.called_tuple.made (by decide) prog w A.in1 _ s₁ ⟨h₁.1, rfl, h₁.2⟩⟩
end
section
open L2
variable {X : Cx}
/-- tuple(d): its keys -/
theorem call_tupleD (hcalm : X.calm = true) : CallR X (.type "tuple") (fun xs H Q => ∃ (a : Addr) (kvs : List (L2.Key × V)), xs = [.ref a] ∧ Rd H a (.dK kvs) ∧ ∀ p, H p = none → Q (.ref p) (upd H p (.tup (kvs.map fun kv => kV kv.1)))) := by
  intro pins s σ H xs us Q I r q
  obtain ⟨a, kvs, ex, hd, q⟩ := q
  subst ex
  obtain ⟨u, eu, rx⟩ := vals1 r
  subst eu
  cases rx
  obtain ⟨z, lo, vs, rel, dd⟩ := dk_rd I.hok hd
  obtain ⟨ep, hat⟩ := dd.dictAt
  have ek : (kvs.map fun kv => kV kv.1) = vs.map fun p => kV p.1 := by
    have e := congrArg (List.map kV) rel.keys
    rw [List.map_map, List.map_map] at e
    exact e
  refine call_tuple_kdl (PySem.W.kdl_dict (knd := mixKind X.prog X.w) (kvs := vs) (ep := ep) lo) (I.ok.hd hcalm) hat (by rw [← rel.length]; exact z) fun h' tk acc hk hacc => ?_
  have hv : Vals (vs.map fun p => kV p.1) acc.toList := keys_at (by rw [Array.length_toList]; exact hacc.1) fun j v e => hacc.2 j v (by rw [← Array.getElem?_toList]; exact e)
  have I1 : Inv X pins σ H { s with heap := h', toks := tk } := I.kept (t' := tk) hk
  refine ⟨.ref h'.objs.size, upd H h'.objs.size (.tup (kvs.map fun kv => kV kv.1)), I1.laid (t' := tk) (fun b o e => Heap.get?_push_of_some _ e) (Nat.le_refl _)
    (show ObjOk X.prog X.w _ _ _ (.tup (kvs.map fun kv => kV kv.1)) from ⟨by rw [List.length_map]; exact z, acc.toList, by rw [ek]; exact hv, by rw [Array.toArray_toList]; exact IsTup.new _ _⟩), rfl, q _ (I1.hok.fresh (Nat.le_refl _))⟩
end
end Vd

set_option maxRecDepth 100000
namespace K17
open PySem
def top (i : Nat) : Stmt := PySem.Challenge.pw_alsoshown_k17_rounds_told.main.body.getD i (.Pass ⟨0, 0, 0, 0⟩)
end K17

set_option Elab.async false
set_option linter.all false
set_option maxRecDepth 100000
set_option maxHeartbeats 4000000
namespace K17
open PySem PySem.Spec PyProof.Rows L2 Vl Evl Vp
abbrev sCell : Stmt := top 90
abbrev sPool : Stmt := top 91
abbrev sTake : Stmt := top 92
abbrev FnP (K : PySem.W.Frag) (x : Str) (st : Stmt) (f : Addr) (fd : FuncData) : Prop := FunD K x x (defArgs st) (defBody st) (defScope st) [] [] f fd
section
variable {P : Program} {w : World} {K : PySem.W.Frag} {mg : Str → Option Value} {base : Heap}
theorem scC : FnScope ["_law_script", "_law_k"] ["_law_script", "_law_k"] (defScope sCell) := ⟨rfl, rfl, rfl, by decide +kernel, rfl, by decide +kernel, by decide +kernel⟩
theorem ok_cell {f : Addr} {fd : FuncData} (F : FnP K "_law_cell" sCell f fd) (mL : mg "len" = none) :
    FnOk P w K mg base CX0 1 f fd ["_law_script", "_law_k"] (spCell K) := by
  refine F.ok (CX := CX0) scC (fun vs H Q E h => ?_) (fun cdv A outer s H vs Q E hr h => ?_)
  · obtain ⟨l, ns, j, rfl, _⟩ := h
    rfl
  · refine ⟨_, pss_cons (ps_if (pt_cmpR op_lt (pv 1) (pe_callB call_len (by rfl) mL boot_len (pa_cons (pv 0) pa_nil)) (nomark _))
        (pss_one (ps_ret (pe_ix ix_seq (pv 0) (pv 1) fun _ _ => rfl))) pss_nil)
      (pss_one (ps_ret pe_int)), ?_⟩
    obtain ⟨l, ns, j, rfl, hs, q⟩ := h
    refine ⟨_, rfl, _, rfl, V.ref l, (ns.map V.int).length, rfl, .inl ⟨_, hs, rfl⟩, (j : Nat), ((ns.map V.int).length : Nat), rfl, rfl, _, rfl, ?_⟩
    by_cases hj : j < ns.length
    · rw [decide_eq_true (show ((j : Nat) : Int) < (((ns.map V.int).length : Nat) : Int) by rw [List.length_map]; omega)]
      refine iteT ?_
      exact ⟨_, rfl, _, rfl, .inl ⟨l, _, _, _, rfl, rfl, hs, atI_cell hj, q⟩⟩
    · rw [decide_eq_false (show ¬ ((j : Nat) : Int) < (((ns.map V.int).length : Nat) : Int) by rw [List.length_map]; omega)]
      refine iteF ?_
      rw [cell_out hj] at q
      exact q
theorem scP : FnScope ["_law_cell_here", "_law_folded"] ["_law_cell_here"] (defScope sPool) := ⟨rfl, rfl, rfl, by decide +kernel, rfl, by decide +kernel, by decide +kernel⟩
theorem ok_pool {f : Addr} {fd : FuncData} (F : FnP K "_law_pool" sPool f fd) (mI : mg "int" = none) :
    FnOk P w K mg base CX0 1 f fd ["_law_cell_here"] spPool := by
  refine F.ok (CX := CX0) scP (fun vs H Q E h => ?_) (fun cdv A outer s H vs Q E hr h => ?_)
  · obtain ⟨c, rfl, _⟩ := h
    rfl
  · refine ⟨_, pss_cons (ps_set (i := 1) scP.nd rfl (by first | exact Or.inl rfl | exact Or.inr rfl) (pe_op op_mul pe_int (pv 0)))
      (pss_cut (ps_if (pt_cmpR op_lt (pv 0) pe_int (nomark _)) (pss_one (ps_set (i := 1) scP.nd rfl (by first | exact Or.inl rfl | exact Or.inr rfl) (pe_op op_sub (pe_op op_sub pe_int (pe_op op_mul pe_int (pv 0))) pe_int))) pss_nil)
      (pss_cons (ps_if (pt_cmpR op_ge (pv 1) (pe_op op_pow pe_int pe_int) (nomark _)) (pss_one (ps_ret (pe_lst (pa_cons (pv 1) (pa_cons (pe_op op_mod (pe_callTy call_int1 (by rfl) mI (by decide +kernel) (pa_cons (pv 1) pa_nil)) pe_int) (pa_cons pe_int pa_nil)))))) pss_nil)
      (pss_one (ps_ret (pe_lst (pa_cons pe_int (pa_cons (pe_op op_mod (pe_callTy call_int1 (by rfl) mI (by decide +kernel) (pa_cons (pv 1) pa_nil)) pe_int) (pa_cons pe_int pa_nil)))))))), ?_⟩
    obtain ⟨c, rfl, q⟩ := h
    refine s_asg (v := .int (2 * c)) (ev_op ev_c (ev_var rfl) (rv_I (.inl ⟨by decide, by decide⟩))) fun H1 e1 => ?_
    refine ⟨fun st H2 => Ex H H2 ∧ ∃ g : Int, st = [some (.int c), some (.int g)], ?_, ?_⟩
    · refine s_if (b := decide (c < 0)) (et_test (ev_op (ev_var rfl) ev_c rv_I0)) (fun _ H2 e2 => ?_) (fun _ H2 e2 => ?_)
      · refine s_asg (v := .int (0 - 2 * c - 1)) (ev_op (ev_op ev_c (ev_op ev_c (ev_var rfl) (rv_I (.inl ⟨by decide, by decide⟩))) rv_I0) ev_c rv_I0) fun H3 e3 => ?_
        exact ⟨e1.trans (e2.trans e3), _, rfl⟩
      · exact ⟨e1.trans e2, _, rfl⟩
    rintro _ H2 ⟨e2, g, rfl⟩
    have fin : ∀ (a : Int) (H3 : Hp), Ex H H3 → ∀ p, H3 p = none → Q (.ref p) (upd H3 p (.lst [.int a, .int (g % 1000000007), .int 0])) := fun a H3 e3 p np =>
      q p _ (fresh_back e3 np) (e3.trans (Ex.new np)) ⟨a, _, 0, upd_same, Int.emod_nonneg _ (by decide), Int.emod_lt_of_pos _ (by decide), Int.le_refl 0, Int.le_refl 0⟩
    have ei : Ev (tOp (rI (fun _ j => 0 < j) fun i j => .int (i % j)) (tCB (fun xs H Q => (∃ i, xs = [.int i] ∧ Q (.int i) H) ∨ ∃ k, xs = [.bl k] ∧ Q (.int (if k then 1 else 0)) H) (tCons (tVar 1) tNil)) (tC (.int 1000000007)))
        [some (.int c), some (.int g)] H2 (.int (g % 1000000007)) :=
      ev_op (ev_cb (ea_cons (ev_var rfl) ea_nil) (fun H1 _ Q q => .inl ⟨_, rfl, q H1 (Ex.refl H1)⟩)) ev_c (rv_I (by show (0 : Int) < 1000000007; decide))
    refine s_seq ?_
    refine s_if (b := decide ((10 : Int) ^ (18 : Int).toNat ≤ g)) (et_test (ev_op (ev_var rfl) (ev_op ev_c ev_c (rv_I ⟨by decide, by decide, by decide⟩)) rv_I0)) (fun _ H3 e3 => ?_) (fun _ H3 e3 => ?_)
    · exact ⟨_, rfl, ei.mono e3 H3 (Ex.refl H3) _ fun H4 e4 => ⟨by show 3 ≤ sizeLine; decide, fun p np => fin g H4 (e2.trans (e3.trans e4)) p np⟩⟩
    · exact ei.mono e3 H3 (Ex.refl H3) _ fun H4 e4 => ⟨by show 3 ≤ sizeLine; decide, fun p np => fin 0 H4 (e2.trans (e3.trans e4)) p np⟩
theorem scT : FnScope ["_law_pool_here", "_law_many_here", "_law_draw", "_law_mixed_here"] ["_law_pool_here", "_law_many_here"] (defScope sTake) := ⟨rfl, rfl, rfl, by decide +kernel, rfl, by decide +kernel, by decide +kernel⟩
theorem ok_take {f : Addr} {fd : FuncData} (F : FnP K "_law_take" sTake f fd) (mI : mg "int" = none) :
    FnOk P w K mg base CX0 1 f fd ["_law_pool_here", "_law_many_here"] spTake := by
  refine F.ok (CX := CX0) scT (fun vs H Q E h => ?_) (fun cdv A outer s H vs Q E hr h => ?_)
  · obtain ⟨p, m, Hk, n, rfl, _⟩ := h
    rfl
  · refine ⟨_, pss_cons (ps_if (pt_cmpR op_gt (pe_ix ix_list (pv 0) pe_int fun _ _ => rfl) pe_int (nomark _))
        (pss_cons (ps_set (i := 2) scT.nd rfl (by first | exact Or.inl rfl | exact Or.inr rfl) (pe_op op_mod (pe_callTy call_int1 (by rfl) mI (by decide +kernel) (pa_cons (pe_ix ix_list (pv 0) pe_int fun _ _ => rfl) pa_nil)) (pv 1)))
        (pss_cons (ps_asg (pe_op op_fdivN (pe_ix ix_list (pv 0) pe_int fun _ _ => rfl) (pv 1)) (pg_sub (pv 0) pe_int set_list))
        (pss_one (ps_ret (pv 2))))) pss_nil)
      (pss_cons (ps_asg (pe_op op_add (pe_ix ix_list (pv 0) pe_int fun _ _ => rfl) pe_int) (pg_sub (pv 0) pe_int set_list))
      (pss_cons (ps_set (i := 3) scT.nd rfl (by first | exact Or.inl rfl | exact Or.inr rfl) (pe_op op_mod (pe_callTy call_int1 (by rfl) mI (by decide +kernel) (pa_cons (pe_op op_pow (pe_op op_add (pe_op op_add (pe_ix ix_list (pv 0) pe_int fun _ _ => rfl) (pe_op op_mul pe_int (pe_ix ix_list (pv 0) pe_int fun _ _ => rfl))) pe_int) pe_int) pa_nil)) pe_int))
      (pss_one (ps_ret (pe_op op_mod (pe_op op_mod (pe_callTy call_int1 (by rfl) mI (by decide +kernel) (pa_cons (pe_op op_mul (pe_op op_add (pv 3) (pe_ix ix_list (pv 0) pe_int fun _ _ => rfl)) pe_int) pa_nil)) pe_int) (pv 1)))))), ?_⟩
    obtain ⟨p, m, Hk, n, rfl, hm, hm2, hp, hn, q⟩ := h
    obtain ⟨a, b, c, ha, hb0, hb1, hc0, hc1⟩ := hp.at_
    have it : ∀ (j : Nat) (x : Int) (us : List V) (H1 : Hp), H1 p = some (.lst us) → us[j]? = some (.int x) → ∀ {t2 t3 : Option V}, Ev (tOp (rIxL K) (tVar 0) (tC (.int (j : Int)))) [some (.ref p), some (.int m), t2, t3] H1 (.int x) := fun j x us H1 h1 h2 t2 t3 =>
      ev_op (ev_var rfl) ev_c (rv_ixL (sq_of h1) (at_of rfl h2))
    have ti : ∀ {te : TE} {st : L2.St} {H1 : Hp} {i : Int}, Ev te st H1 (.int i) → Ev (tCB (fun xs H Q => (∃ i, xs = [.int i] ∧ Q (.int i) H) ∨ ∃ k, xs = [.bl k] ∧ Q (.int (if k then 1 else 0)) H) (tCons te tNil)) st H1 (.int i) :=
      fun h => ev_cb (ea_cons h ea_nil) (fun H1 _ Q q => .inl ⟨_, rfl, q H1 (Ex.refl H1)⟩)
    refine s_seq ?_
    refine s_if (b := decide (0 < a)) (et_test (ev_op (it 0 a _ H ha rfl) ev_c rv_I0)) (fun _ H1 e1 => ?_) (fun _ H1 e1 => ?_)
    · have h1 := e1 _ _ ha
      refine s_seq ?_
      refine s_asg (v := .int (a % m)) (ev_op (ti (it 0 a _ H1 h1 rfl)) (ev_var rfl) (rv_I (show 0 < m by omega))) fun H2 e2 => ?_
      dsimp only
      refine s_seq ?_
      refine s_setL (j := 0) (v := .int (a.fdiv m)) (e2 _ _ h1) (ev_op (it 0 a _ H2 (e2 _ _ h1) rfl) (ev_var rfl) (rv_I ⟨show m ≠ 0 by omega, show m.natAbs < 1073741824 by omega⟩)) (ev_var rfl) ev_c (by show 0 < 3; omega) fun H3 e3 => ?_
      dsimp only
      refine s_ret (v := .int (a % m)) (ev_var rfl) fun H4 e4 => ?_
      refine q _ _ (Int.emod_nonneg _ (by omega)) (Int.emod_lt_of_pos _ (by omega)) ?_
      refine ⟨hp.no, (Ex.mut (hp.ex.trans (e1.trans (e2.trans e3))) hp.no).trans e4, a.fdiv m, b, c, e4 _ _ upd_same, hb0, hb1, hc0, by omega⟩
    · have h1 := e1 _ _ ha
      dsimp only
      refine s_seq ?_
      refine s_setL (j := 2) (v := .int (c + 1)) h1 (ev_op (it 2 c _ H1 h1 rfl) ev_c rv_I0) (ev_var rfl) ev_c (by show 2 < 3; omega) fun H2 e2 => ?_
      have h2 : (upd H2 p (.lst [.int a, .int b, .int (c + 1)])) p = some (.lst [.int a, .int b, .int (c + 1)]) := upd_same
      have x2 : Ex Hk (upd H2 p (.lst [.int a, .int b, .int (c + 1)])) := Ex.mut (hp.ex.trans (e1.trans e2)) hp.no
      show tSeq _ _ _ _ (upd H2 p (.lst [.int a, .int b, .int (c + 1)]))
      generalize upd H2 p (.lst [.int a, .int b, .int (c + 1)]) = H3 at h2 x2
      refine s_seq ?_
      refine s_asg (v := .int ((b + 7919 * (c + 1) + 104729) ^ (5 : Int).toNat % 2147483647)) (ev_op (ti (ev_op (ev_op (ev_op (it 1 b _ H3 h2 rfl) (ev_op ev_c (it 2 (c + 1) _ H3 h2 rfl) (rv_I (.inl ⟨by decide, by decide⟩))) rv_I0) ev_c rv_I0) ev_c (rv_I ⟨by decide, by decide, by show (b + 7919 * (c + 1) + 104729).natAbs < 2 ^ 64; omega⟩))) ev_c (rv_I (by show (0 : Int) < 2147483647; decide))) fun H4 e4 => ?_
      dsimp only
      have hz0 : 0 ≤ (b + 7919 * (c + 1) + 104729) ^ (5 : Int).toNat % 2147483647 := Int.emod_nonneg _ (by decide)
      have hz1 : (b + 7919 * (c + 1) + 104729) ^ (5 : Int).toNat % 2147483647 < 2147483647 := Int.emod_lt_of_pos _ (by decide)
      generalize (b + 7919 * (c + 1) + 104729) ^ (5 : Int).toNat % 2147483647 = z at hz0 hz1
      have h4 := e4 _ _ h2
      refine s_ret (v := .int ((z + (c + 1)) * 40692 % 2147483629 % m)) (ev_op (ev_op (ti (ev_op (ev_op (ev_var rfl) (it 2 (c + 1) _ H4 h4 rfl) rv_I0) ev_c (rv_I (.inr ⟨by decide, by decide⟩)))) ev_c (rv_I (by show (0 : Int) < 2147483629; decide))) (ev_var rfl) (rv_I (show 0 < m by omega))) fun H5 e5 => ?_
      refine q _ _ (Int.emod_nonneg _ (by omega)) (Int.emod_lt_of_pos _ (by omega)) ?_
      exact ⟨hp.no, x2.trans (e4.trans e5), a, b, c + 1, e5 _ _ h4, hb0, hb1, by omega, by omega⟩
end
end K17

set_option Elab.async false
set_option linter.all false
set_option maxRecDepth 100000
set_option maxHeartbeats 4000000
namespace K17
open PySem PySem.Spec PyProof.Rows L2 Vl Evl Vp
abbrev sNames : Stmt := top 93
abbrev nN : List Str := ["_law_pool_here", "_law_many_here", "_law_letters", "_law_signs", "_law_word", "_law_k", "_law_kind", "_law_start", "_law_stem", "_law_place", "_law_told", "_law_names_here", "_law_sign"]
section
variable {P : Program} {w : World} {K : PySem.W.Frag} {mg : Str → Option Value} {base : Heap}
theorem scN : FnScope nN ["_law_pool_here", "_law_many_here"] (defScope sNames) := ⟨rfl, rfl, rfl, by decide +kernel, rfl, by decide +kernel, by decide +kernel⟩
theorem ok_names {f fT : Addr} {fd fdT : FuncData} (F : FnP K "_law_names" sNames f fd) (FT : FnP K "_law_take" sTake fT fdT) (gT : mg "_law_take" = some (.ref fT)) (mI : mg "int" = none) (mL : mg "len" = none) (mR : mg "range" = none) :
    FnOk P w K mg base CX0 2 f fd ["_law_pool_here", "_law_many_here"] spNames := by
  have GT : FnOk P w K mg base CX0 1 fT fdT ["_law_pool_here", "_law_many_here"] spTake := ok_take FT mI
  have bT : Binds K fdT ["_law_pool_here", "_law_many_here"] [] := FT.bindsN fun _ _ _ _ _ _ us hl => match us, hl with | [_, _], _ => rfl
  have kT := FT.kp
  refine F.ok (CX := CX0) scN (fun vs H Q E h => ?_) (fun cdv A outer s H vs Q E hr h => ?_)
  · obtain ⟨p, m, Hk, n, rfl, _⟩ := h
    rfl
  · have hr1 : Room 1 _ := hr
    refine ⟨_, (pss_cons (ps_set (i := 2) scN.nd rfl (by first | exact Or.inl rfl | exact Or.inr rfl) pe_str)
      (pss_cons (ps_set (i := 3) scN.nd rfl (by first | exact Or.inl rfl | exact Or.inr rfl) (pe_op op_add_str (pv 2) pe_str))
      (pss_cons (ps_set (i := 4) scN.nd rfl (by first | exact Or.inl rfl | exact Or.inr rfl) (pe_ix ix_str (pv 2) (pe_call GT hr1 (by rfl) gT kT bT .nil pass0 (pa_cons (pv 0) (pa_cons pe_int pa_nil))) fun _ _ => rfl))
      (pss_cons (ps_for (passes_of rfl) rfl (pi_range1 (by rfl) mR (pa_cons pe_int pa_nil)) (pg_name (i := 5) scN.nd rfl (by first | exact Or.inl rfl | exact Or.inr rfl)) (pss_one (ps_set (i := 4) scN.nd rfl (by first | exact Or.inl rfl | exact Or.inr rfl) (pe_op op_add_str (pv 4) (pe_ix ix_str (pv 3) (pe_call GT hr1 (by rfl) gT kT bT .nil pass0 (pa_cons (pv 0) (pa_cons pe_int pa_nil))) fun _ _ => rfl)))))
      (pss_cons (ps_set (i := 6) scN.nd rfl (by first | exact Or.inl rfl | exact Or.inr rfl) (pe_call GT hr1 (by rfl) gT kT bT .nil pass0 (pa_cons (pv 0) (pa_cons pe_int pa_nil))))
      (pss_cons (ps_set (i := 7) scN.nd rfl (by first | exact Or.inl rfl | exact Or.inr rfl) (pe_call GT hr1 (by rfl) gT kT bT .nil pass0 (pa_cons (pv 0) (pa_cons pe_int pa_nil))))
      (pss_cons (ps_if (pt_cmpR op_eq (pv 6) pe_int (nomark _)) (pss_one (ps_ret (pe_lc (own := [("_law_k", 5)]) (g := gName 5) (tt := tYes) (te := (tSl rSlS (tVar 4) tNoPart (tPart (tOp (rI0 fun i j => .int (i + j)) (tVar 5) (tC (.int 1)))))) rfl scN.nd (pi_range1 (by rfl) mR (pa_cons (pv 1) pa_nil)) (blkOk_by (own := [("_law_k", 5)]) (N := nN) (sc := defScope sNames) (by decide +kernel)) (fun _ _ _ _ _ => (pg_name (i := 5) scN.nd rfl (by first | exact Or.inl rfl | exact Or.inr rfl))) (fun _ _ _ _ _ => pts_nil) (fun _ _ _ _ _ => (pe_slice sl_str (pv 4) po_none (po_some (pe_op op_add (pv 5) pe_int))))))) pss_nil)
      (pss_cons (ps_if (pt_cmpR op_eq (pv 6) pe_int (nomark _)) (pss_one (ps_ret (pe_lc (own := [("_law_k", 5)]) (g := gName 5) (tt := tYes) (te := (tOp rCatS (tOp rIxS (tVar 2) (tOp (rI (fun _ j => 0 < j) fun i j => .int (i % j)) (tOp (rI0 fun i j => .int (i + j)) (tVar 7) (tOp (rI CMul fun i j => .int (i * j)) (tC (.int 3)) (tVar 5))) (tC (.int 26)))) (tSl rSlS (tVar 4) tNoPart (tPart (tCall spTake [] E0 (tCons (tVar 0) (tCons (tC (.int 8)) tNil))))))) rfl scN.nd (pi_range1 (by rfl) mR (pa_cons (pv 1) pa_nil)) (blkOk_by (own := [("_law_k", 5)]) (N := nN) (sc := defScope sNames) (by decide +kernel)) (fun _ _ _ _ _ => (pg_name (i := 5) scN.nd rfl (by first | exact Or.inl rfl | exact Or.inr rfl))) (fun _ _ _ _ _ => pts_nil) (fun _ _ _ _ _ => (pe_op op_add_str (pe_ix ix_str (pv 2) (pe_op op_mod (pe_op op_add (pv 7) (pe_op op_mul pe_int (pv 5))) pe_int) fun _ _ => rfl) (pe_slice sl_str (pv 4) po_none (po_some (pe_call GT hr1 (by rfl) gT kT bT .nil pass0 (pa_cons (pv 0) (pa_cons pe_int pa_nil)))))))))) pss_nil)
      (pss_cons (ps_set (i := 8) scN.nd rfl (by first | exact Or.inl rfl | exact Or.inr rfl) (pe_slice sl_str (pv 4) po_none (po_some (pe_call GT hr1 (by rfl) gT kT bT .nil pass0 (pa_cons (pv 0) (pa_cons pe_int pa_nil))))))
      (pss_cons (ps_set (i := 9) scN.nd rfl (by first | exact Or.inl rfl | exact Or.inr rfl) (pe_call GT hr1 (by rfl) gT kT bT .nil pass0 (pa_cons (pv 0) (pa_cons (pe_op op_add (pe_callB call_len_str (by rfl) mL boot_len (pa_cons (pv 8) pa_nil)) pe_int) pa_nil))))
      (pss_cons (ps_set (i := 10) scN.nd rfl (by first | exact Or.inl rfl | exact Or.inr rfl) (pe_ifExp (pt_cmpR op_eq (pv 9) pe_int (nomark _)) (pv 2) (pv 3)))
      (pss_cons (ps_set (i := 11) scN.nd rfl (by first | exact Or.inl rfl | exact Or.inr rfl) (pe_lst pa_nil))
      (pss_cons (ps_for (passes_of rfl) rfl (pi_range1 (by rfl) mR (pa_cons (pv 1) pa_nil)) (pg_name (i := 5) scN.nd rfl (by first | exact Or.inl rfl | exact Or.inr rfl)) (pss_cons (ps_set (i := 12) scN.nd rfl (by first | exact Or.inl rfl | exact Or.inr rfl) (pe_ix ix_str (pv 10) (pe_op op_mod (pe_op op_add (pv 7) (pe_op op_mul pe_int (pv 5))) (pe_callB call_len_str (by rfl) mL boot_len (pa_cons (pv 10) pa_nil))) fun _ _ => rfl)) (pss_one (ps_expr (pe_bm PySem.F.plainAttrs_list PySem.F.slot_list_append PySem.F.type_list_append mt_append (pv 11) (pa_cons (pe_op op_add_str (pe_op op_add_str (pe_slice sl_str (pv 8) po_none (po_some (pv 9))) (pv 12)) (pe_slice sl_str (pv 8) (po_some (pv 9)) po_none)) pa_nil))))))
      (pss_one (ps_ret (pv 11)))))))))))))))), ?_⟩
    obtain ⟨p, m, Hk, n, rfl, hm, hp0, hn, q⟩ := h
    have hp := hp0.re
    have wk : (Wo H p) p = none := wo_self _ _
    -- letters, signs
    refine s_asg (v := .str (tx letters)) (ev_is ev_c (by rw [str_letters])) fun H1 e1 => ?_
    refine s_asg (v := .str (tx signs)) (ev_is (ev_op (y := .str (tx digits)) (ev_var rfl) (ev_is ev_c (by rw [str_digits])) (rv_cats (by decide))) rfl) fun H2 e2 => ?_
    have hp2 := hp.grow (e1.trans e2)
    -- word
    refine ⟨_, rfl, _, rfl, p, 26, Wo H p, n, rfl, by omega, by omega, hp2, by omega, ?_⟩
    intro r H3 r0 r1 hp3
    obtain ⟨j, rfl⟩ := Int.eq_ofNat_of_zero_le r0
    have hj : j < letters.length := by show j < 26; omega
    refine ⟨tx letters, _, _, rfl, rfl, (by show 26 ≤ sizeLine; decide), text_at (zs := letters) hj, ?_⟩
    dsimp only
    refine s_seq ?_
    refine s_forR1 (n := 7) (ea_cons ev_c ea_nil) (by omega) (fun i st H' => ∃ l t5, st = [some (.ref p), some (.int (m : Int)), some (.str (tx letters)), some (.str (tx signs)), some (.str (tx l)), t5, none, none, none, none, none, none, none] ∧ nam l ∧ l.length = i + 1 ∧ Pl (Wo H p) p (n + 1 + i) H') ?_ ?_ ?_
    · exact fun H4 e4 => ⟨[letters.getD j 0], none, rfl, nam_one (getD_mem hj), rfl, hp3.grow e4⟩
    · rintro i _ H4 hi ⟨l, t5, rfl, hl, hlen, hpl⟩
      refine ⟨_, rfl, _, rfl, _, rfl, p, 36, Wo H p, _, rfl, by omega, by omega, hpl, by omega, ?_⟩
      intro r H5 r0 r1 hp5
      obtain ⟨k, rfl⟩ := Int.eq_ofNat_of_zero_le r0
      have hk : k < signs.length := by show k < 36; omega
      refine ⟨tx signs, _, _, rfl, rfl, (by show 36 ≤ sizeLine; decide), text_at (zs := signs) hk, ?_⟩
      refine ⟨tx l, tx [signs.getD k 0], rfl, rfl, sz_of (by rw [tx_len, tx_len, List.length_singleton]; omega), ?_⟩
      refine ⟨l ++ [signs.getD k 0], some (.int (i : Int)), ?_, nam_snoc hl (getD_mem hk) (by omega), by rw [List.length_append, List.length_singleton, hlen], by rw [show n + 1 + (i + 1) = n + 1 + i + 1 by omega]; exact hp5⟩
      rw [tx_app]
      rfl
    rintro _ H4 ⟨l, t5, rfl, hl, hlen, hp4⟩
    have hlen8 : l.length = 8 := hlen
    -- kind, start
    refine ⟨_, rfl, p, 4, Wo H p, _, rfl, by omega, by omega, hp4, by show n + 1 + 7 ≤ 100000; omega, ?_⟩
    intro kd H5 kd0 kd1 hp5
    refine ⟨_, rfl, p, 36, Wo H p, _, rfl, by omega, by omega, hp5, by show n + 1 + 7 + 1 ≤ 100000; omega, ?_⟩
    intro sr H6 sr0 sr1 hp6
    obtain ⟨s0, rfl⟩ := Int.eq_ofNat_of_zero_le sr0
    dsimp only
    refine s_seq ?_
    refine s_if (b := decide (V.int kd = V.int 0)) (et_test (ev_op (ev_var rfl) ev_c (rv_eq rfl))) (fun _ H7 e7 => ?_) (fun _ H7 e7 => ?_)
    · -- kind 0
      have hp7 := hp6.grow e7
      refine s_retL (xs := vtx ((List.range m).map fun k => l.take (k + 1))) ?_ fun d H8 nd e8 h8 => ?_
      · have key := el_lcR1 (σ := [some (.ref p), some (.int (m : Int)), some (.str (tx letters)), some (.str (tx signs)), some (.str (tx l)), t5, some (.int kd), some (.int (s0 : Int)), none, none, none, none, none]) (H := H7) (t := tYes)
          (te := (tSl rSlS (tVar 4) tNoPart (tPart (tOp (rI0 fun i j => .int (i + j)) (tVar 5) (tC (.int 1)))))) (ta := tCons (tVar 1) tNil) (j := 5) (vs := [5]) (n := (m : Int)) (fun _ => true) (fun k => .str (tx (l.take (k + 1)))) (ea_cons (ev_var rfl) ea_nil) (by omega) (fun _ => rfl)
          (fun j H2 e hj H3 e3 Q q => q H3 (Ex.refl H3)) (fun j H2 e hj _ => ?_)
        · rw [show ((m : Int)).toNat = m from rfl] at key
          have e0 : given m (fun _ => true) (fun k => V.str (tx (l.take (k + 1)))) = vtx ((List.range m).map fun k => l.take (k + 1)) := by
            unfold given vtx
            rw [List.filter_eq_self.mpr (fun _ _ => rfl), List.map_map]
            rfl
          rw [e0] at key
          exact key
        · intro H3 e3 Q q
          refine ⟨_, rfl, _, rfl, _, _, rfl, rfl, _, rfl, tx l, rfl, sz_of (by rw [tx_len]; omega), ?_⟩
          rw [show ((j : Int) + 1) = ((j + 1 : Nat) : Int) by omega, tx_cut0]
          exact q H3 (Ex.refl H3)
      · refine q d _ H8 (fresh_wo hp0 hp7 nd) (hp0.back ((hp7.grow e8).cnt (by omega))) h8 (by rw [List.length_map, List.length_range]) ⟨fun y hy => ?_, nodup_range fun i j hi hj e => ?_⟩
        · obtain ⟨k, _, rfl⟩ := List.mem_map.mp hy
          exact nam_take hl k
        · have := congrArg List.length e
          rw [List.length_take, List.length_take] at this
          omega
    dsimp only
    refine s_seq ?_
    refine s_if (b := decide (V.int kd = V.int 1)) (et_test (ev_op (ev_var rfl) ev_c (rv_eq rfl))) (fun _ H8 e8 => ?_) (fun _ H8 e8 => ?_)
    · -- kind 1
      have hp8 := hp6.grow (e7.trans e8)
      refine ⟨_, rfl, (m : Int), rfl, by omega, by omega, fun Dl hD => lc_range (lo := 0) (n := m) (fun i H' => ∃ ys, H' Dl = some (.lst (vtx ys)) ∧ ys.length = i ∧ (∀ (j : Nat) (y : List Nat), ys[j]? = some y → nam y ∧ y.head? = some (letters.getD ((s0 + 3 * j) % 26) 0)) ∧ Pl (Wo H p) p (n + 10 + i) H')
        ⟨[], upd_same, rfl, (fun j y h => by simp at h), (hp8.new hD).cnt (by show n + 1 + 7 + 1 + 1 ≤ n + 10 + 0; omega)⟩ ?_ ?_⟩
      · rintro i H9 hi ⟨ys, h1, h2, h3, h4⟩
        refine ⟨rfl, ?_⟩
        unfold tYes
        dsimp only
        rw [if_pos rfl]
        have em : Ev (tOp (rI (fun _ j => 0 < j) fun i j => .int (i % j)) (tOp (rI0 fun i j => .int (i + j)) (tVar 7) (tOp (rI CMul fun i j => .int (i * j)) (tC (.int 3)) (tVar 5))) (tC (.int 26))) [some (.ref p), some (.int (m : Int)), some (.str (tx letters)), some (.str (tx signs)), some (.str (tx l)), some (.int (0 + (i : Int))), some (.int kd), some (.int (s0 : Int)), none, none, none, none, none] H9 (.int (((s0 + 3 * i) % 26 : Nat) : Int)) :=
          ev_is (ev_op (ev_op (ev_var rfl) (ev_op ev_c (ev_var rfl) (rv_I (.inl ⟨by decide, by decide⟩))) rv_I0) ev_c (rv_I (by show (0 : Int) < 26; decide))) (congrArg V.int (show ((s0 : Int) + 3 * (0 + (i : Int))) % 26 = (((s0 + 3 * i) % 26 : Nat) : Int) by omega))
        have hx : (s0 + 3 * i) % 26 < letters.length := Nat.mod_lt _ (by decide)
        refine ⟨_, rfl, em H9 (Ex.refl H9) _ fun H10 e10 => ?_⟩
        refine ⟨tx letters, _, _, rfl, rfl, (by show 26 ≤ sizeLine; decide), text_at (zs := letters) hx, ?_⟩
        have h10 := h4.grow e10
        have hDp : Dl ≠ p := hp8.ne hD
        refine ⟨_, rfl, _, rfl, p, 8, Wo H10 p, _, rfl, by omega, by omega, h10.re, by omega, ?_⟩
        intro r H11 r0 r1 hp11
        obtain ⟨t, rfl⟩ := Int.eq_ofNat_of_zero_le r0
        refine ⟨_, rfl, tx l, rfl, sz_of (by rw [tx_len]; omega), ?_⟩
        rw [tx_cut0]
        refine ⟨tx [letters.getD ((s0 + 3 * i) % 26) 0], tx (l.take t), rfl, rfl, sz_of (by rw [tx_len, tx_len, List.length_singleton, List.length_take]; omega), ?_⟩
        rw [tx_app]
        have hDl : H11 Dl = some (.lst (vtx ys)) := hp11.ex _ _ (wo_at (e10 _ _ h1) hDp)
        refine ⟨vtx ys, hDl, sz_lt (by rw [vtx_len]; omega), ys ++ [letters.getD ((s0 + 3 * i) % 26) 0 :: l.take t], ?_, by rw [List.length_append, List.length_singleton, h2], ?_, ?_⟩
        · rw [upd_same, vtx_app]
          rfl
        · intro j y hy
          by_cases hj : j < ys.length
          · rw [List.getElem?_append_left hj] at hy
            exact h3 j y hy
          · have hj2 := (List.getElem?_eq_some_iff.mp hy).1
            rw [List.length_append, List.length_singleton] at hj2
            obtain rfl : j = ys.length := by omega
            rw [List.getElem?_append_right (Nat.le_refl _), Nat.sub_self] at hy
            obtain rfl := Option.some.inj hy
            rw [h2]
            exact ⟨nam_cons (getD_mem hx) (fun x hx => nam_signs hl x (List.mem_of_mem_take hx)) (by rw [List.length_take]; omega), rfl⟩
        · have hb : Pl (Wo H p) p (n + 10 + (i + 1)) H11 := (hp11.sub h10.wo h10.no).cnt (by omega)
          refine ⟨hb.no, Ex.mut hb.ex ?_, ?_⟩
          · cases e : (Wo H p) Dl with
            | none => rfl
            | some o =>
              have := hp8.ex _ _ e
              rw [hD] at this
              cases this
          · obtain ⟨a, b, c, k1, k2⟩ := hb.at_
            exact ⟨a, b, c, by rw [upd_ne hDp.symm]; exact k1, k2⟩
      · rintro H9 ⟨ys, h1, h2, h3, h4⟩
        refine q Dl ys H9 (fresh_wo hp0 hp8 hD) (hp0.back (h4.cnt (by omega))) h1 h2 ⟨fun y hy => ?_, nodup_key fun i j y hi hj => ?_⟩
        · obtain ⟨j, hj⟩ := List.getElem?_of_mem hy
          exact (h3 j y hj).1
        · have a1 := (h3 i y hi).2
          have a2 := (h3 j y hj).2
          have li := (List.getElem?_eq_some_iff.mp hi).1
          have lj := (List.getElem?_eq_some_iff.mp hj).1
          rw [a1] at a2
          exact mod3 (by omega) (by omega) (getD_inj nodup_letters (Nat.mod_lt _ (by decide)) (Nat.mod_lt _ (by decide)) (Option.some.inj a2))
    -- kind 2, 3
    have hp8 := hp6.grow (e7.trans e8)
    refine ⟨_, rfl, _, rfl, p, 8, Wo H p, _, rfl, by omega, by omega, hp8, by show n + 1 + 7 + 1 + 1 ≤ 100000; omega, ?_⟩
    intro r H9 r0 r1 hp9
    obtain ⟨t, rfl⟩ := Int.eq_ofNat_of_zero_le r0
    refine ⟨_, rfl, tx l, rfl, sz_of (by rw [tx_len]; omega), ?_⟩
    rw [tx_cut0]
    have hst : (l.take t).length ≤ 7 := by rw [List.length_take]; omega
    -- place
    refine ⟨_, rfl, _, rfl, tx (l.take t), rfl, sz_of (by rw [tx_len]; omega), ((l.take t).length : Int), 1, rfl, rfl, ?_⟩
    refine ⟨p, ((l.take t).length : Int) + 1, Wo H p, _, rfl, by omega, by omega, hp9, by show n + 1 + 7 + 1 + 1 + 1 ≤ 100000; omega, ?_⟩
    intro r H10 r0 r1 hp10
    obtain ⟨g, rfl⟩ := Int.eq_ofNat_of_zero_le r0
    have hg : g ≤ (l.take t).length := by omega
    -- told
    obtain ⟨told, htold, hn2, hts, htl, hlen2⟩ : ∃ told : List Nat, told = (if V.int (g : Int) = V.int 0 then letters else Vp.signs) ∧ told.Nodup ∧ (∀ c ∈ told, c ∈ Vp.signs) ∧ (g = 0 → ∀ c ∈ told, c ∈ letters) ∧ (told.length = 26 ∨ told.length = 36) := by
      by_cases h0 : g = 0
      · refine ⟨letters, by rw [if_pos (by rw [h0]; rfl)], nodup_letters, fun c hc => letters_signs hc, fun _ c hc => hc, .inl rfl⟩
      · refine ⟨Vp.signs, by rw [if_neg (fun z => h0 (by have := V.int.inj z; omega))], nodup_signs, fun c hc => hc, fun z => absurd z h0, .inr rfl⟩
    refine s_asg (v := .str (tx told)) (ev_if (b := decide (V.int (g : Int) = V.int 0)) (et_test (ev_op (ev_var rfl) ev_c (rv_eq rfl))) (fun h => ev_is (ev_var rfl) (by rw [htold, if_pos (of_decide_eq_true h)])) (fun h => ev_is (ev_var rfl) (by rw [htold, if_neg (of_decide_eq_false h)]))) fun H11 e11 => ?_
    -- names = []
    refine ⟨by show 0 ≤ sizeLine; omega, fun d nd => ?_⟩
    have hp11 := hp10.grow e11
    have hdp : d ≠ p := hp11.ne nd
    have wd : (Wo H p) d = none := by
      cases e : (Wo H p) d with
      | none => rfl
      | some o =>
        have := hp11.ex _ _ e
        rw [nd] at this
        cases this
    let f : Nat → List Nat := fun k => (l.take t).take g ++ [told.getD ((s0 + 7 * k) % told.length) 0] ++ (l.take t).drop g
    have hmod : ∀ k, (s0 + 7 * k) % told.length < told.length := fun k => Nat.mod_lt _ (by omega)
    dsimp only
    refine s_seq ?_
    refine s_forR1 (n := (m : Int)) (ea_cons (ev_var rfl) ea_nil) (by omega) (fun i st H' => ∃ t5 t12, st = [some (.ref p), some (.int (m : Int)), some (.str (tx letters)), some (.str (tx signs)), some (.str (tx l)), t5, some (.int kd), some (.int (s0 : Int)), some (.str (tx (l.take t))), some (.int (g : Int)), some (.str (tx told)), some (.ref d), t12] ∧ H' d = some (.lst (vtx ((List.range i).map f))) ∧ Pl (Wo H p) p (n + 20) H') ?_ ?_ ?_
    · exact fun H12 e12 => ⟨t5, none, rfl, e12 _ _ upd_same, ((hp11.new nd).grow e12).cnt (by omega)⟩
    · rintro i _ H12 hi ⟨t5', t12, rfl, hd12, hp12⟩
      refine s_seq ?_
      refine s_asg (v := .str (tx [told.getD ((s0 + 7 * i) % told.length) 0])) (ev_op (ev_var rfl) (y := .int (((s0 + 7 * i) % told.length : Nat) : Int)) (ev_is (ev_op (ev_op (ev_var rfl) (ev_op ev_c (ev_var rfl) (rv_I (.inl ⟨by decide, by decide⟩))) rv_I0) (ev_cb (z := .int (told.length : Int)) (ea_cons (ev_var rfl) ea_nil) (fun H1 _ Q q => ⟨tx told, rfl, sz_of (by rw [tx_len]; omega), q H1 (Ex.refl H1)⟩)) (rv_I (show (0 : Int) < (told.length : Int) by omega))) ?_) ?_) fun H13 e13 => ?_
      · refine congrArg V.int ?_
        rw [Int.natCast_emod, Int.natCast_add, Int.natCast_mul]
        rfl
      · intro H1 _ Q q
        exact ⟨tx told, _, _, rfl, rfl, sz_of (by rw [tx_len]; omega), text_at (zs := told) (hmod i), q H1 (Ex.refl H1)⟩
      dsimp only
      refine s_app (xs := vtx ((List.range i).map f)) (v := .str (tx (f i))) (e13 _ _ hd12) (ev_var rfl) ?_ (by rw [vtx_len, List.length_map, List.length_range]; omega) fun H14 e14 => ?_
      · intro H1 _ Q q
        have c0 := tx_cut0 (l.take t) g
        have c1 := tx_cut1 (l.take t) g
        refine ⟨_, rfl, _, rfl, _, rfl, tx (l.take t), rfl, sz_of (by rw [tx_len]; omega), ?_⟩
        rw [c0]
        refine ⟨_, rfl, tx ((l.take t).take g), tx [told.getD ((s0 + 7 * i) % told.length) 0], rfl, rfl, sz_of (by rw [tx_len, tx_len, List.length_take, List.length_singleton]; omega), ?_⟩
        rw [tx_app]
        refine ⟨_, rfl, _, rfl, _, rfl, tx (l.take t), rfl, sz_of (by rw [tx_len]; omega), ?_⟩
        rw [c1]
        refine ⟨tx ((l.take t).take g ++ [told.getD ((s0 + 7 * i) % told.length) 0]), tx ((l.take t).drop g), rfl, rfl, sz_of (by rw [tx_len, tx_len, List.length_append, List.length_take, List.length_singleton, List.length_drop]; omega), ?_⟩
        rw [tx_app]
        exact q H1 (Ex.refl H1)
      · refine ⟨some (.int (i : Int)), _, rfl, ?_, ?_⟩
        · rw [upd_same, List.range_succ, List.map_append, vtx_app]
          rfl
        · have hb := hp12.grow (e13.trans e14)
          refine ⟨hb.no, Ex.mut hb.ex wd, ?_⟩
          obtain ⟨a, b, c, k1, k2⟩ := hb.at_
          exact ⟨a, b, c, by rw [upd_ne hdp.symm]; exact k1, k2⟩
    rintro _ H12 ⟨t5', t12, rfl, hd12, hp12⟩
    refine ⟨_, rfl, ?_⟩
    refine q d _ H12 (fresh_wo hp0 hp11 nd) (hp0.back (hp12.cnt (by omega))) hd12 (by rw [List.length_map, List.length_range]; rfl) ⟨fun y hy => ?_, nodup_range fun i j hi hj e => ?_⟩
    · obtain ⟨k, _, rfl⟩ := List.mem_map.mp hy
      exact nam_put hl (by omega) hg (fun h0 => htl h0 _ (getD_mem (hmod k))) (hts _ (getD_mem (hmod k)))
    · have a1 := put_at (c := told.getD ((s0 + 7 * i) % told.length) 0) hg
      have a2 := put_at (c := told.getD ((s0 + 7 * j) % told.length) 0) hg
      have e2 : (l.take t).take g ++ [told.getD ((s0 + 7 * i) % told.length) 0] ++ (l.take t).drop g = (l.take t).take g ++ [told.getD ((s0 + 7 * j) % told.length) 0] ++ (l.take t).drop g := e
      rw [e2, a2] at a1
      have hi' : i < m := hi
      have hj' : j < m := hj
      exact mod7 hlen2 (by omega) (by omega) (getD_inj hn2 (hmod i) (hmod j) (Option.some.inj a1).symm)
end
end K17

set_option Elab.async false
set_option linter.all false
set_option maxRecDepth 100000
set_option maxHeartbeats 4000000
namespace K17
open PySem PySem.Spec PyProof.Rows L2 Vl Evl Vp
abbrev sMany : Stmt := top 94
abbrev nMy : List Str := ["_law_pool_here", "_law_many_here", "_law_letters", "_law_signs", "_law_stem", "_law_k", "_law_place", "_law_told", "_law_start", "_law_names_here", "_law_sign"]
theorem mod3w {s i j : Nat} (hi : i < 26) (hj : j < 26) (h : (s + 3 * i) % 26 = (s + 3 * j) % 26) : i = j := by omega
/-- up to 26 names -/
def spMany : Sp := fun vs H Q _ => ∃ (p : Addr) (m : Nat) (Hk : Hp) (n : Nat), vs = [.ref p, .int (m : Int)] ∧ m ≤ 26 ∧ Pl Hk p n H ∧ n ≤ 90000 ∧
  ∀ q xs H', H q = none → Pl Hk p (n + 50) H' → H' q = some (.lst (vtx xs)) → xs.length = m → Names xs → Q (.ref q) H'
section
variable {P : Program} {w : World} {K : PySem.W.Frag} {mg : Str → Option Value} {base : Heap}
theorem scMy : FnScope nMy ["_law_pool_here", "_law_many_here"] (defScope sMany) := ⟨rfl, rfl, rfl, by decide +kernel, rfl, by decide +kernel, by decide +kernel⟩
theorem ok_many {f fT : Addr} {fd fdT : FuncData} (F : FnP K "_law_many" sMany f fd) (FT : FnP K "_law_take" sTake fT fdT) (gT : mg "_law_take" = some (.ref fT)) (mI : mg "int" = none) (mL : mg "len" = none) (mR : mg "range" = none) :
    FnOk P w K mg base CX0 2 f fd ["_law_pool_here", "_law_many_here"] spMany := by
  have GT : FnOk P w K mg base CX0 1 fT fdT ["_law_pool_here", "_law_many_here"] spTake := ok_take FT mI
  have bT : Binds K fdT ["_law_pool_here", "_law_many_here"] [] := FT.bindsN fun _ _ _ _ _ _ us hl => match us, hl with | [_, _], _ => rfl
  have kT := FT.kp
  refine F.ok (CX := CX0) scMy (fun vs H Q E h => ?_) (fun cdv A outer s H vs Q E hr h => ?_)
  · obtain ⟨p, m, Hk, n, rfl, _⟩ := h
    rfl
  · have hr1 : Room 1 _ := hr
    refine ⟨_, (pss_cons (ps_set (i := 2) scMy.nd rfl (by first | exact Or.inl rfl | exact Or.inr rfl) pe_str)
      (pss_cons (ps_set (i := 3) scMy.nd rfl (by first | exact Or.inl rfl | exact Or.inr rfl) (pe_op op_add_str (pv 2) pe_str))
      (pss_cons (ps_set (i := 4) scMy.nd rfl (by first | exact Or.inl rfl | exact Or.inr rfl) (pe_ix ix_str (pv 2) (pe_call GT hr1 (by rfl) gT kT bT .nil pass0 (pa_cons (pv 0) (pa_cons pe_int pa_nil))) fun _ _ => rfl))
      (pss_cons (ps_for (passes_of rfl) rfl (pi_range1 (by rfl) mR (pa_cons (pe_call GT hr1 (by rfl) gT kT bT .nil pass0 (pa_cons (pv 0) (pa_cons pe_int pa_nil))) pa_nil)) (pg_name (i := 5) scMy.nd rfl (by first | exact Or.inl rfl | exact Or.inr rfl)) (pss_one (ps_set (i := 4) scMy.nd rfl (by first | exact Or.inl rfl | exact Or.inr rfl) (pe_op op_add_str (pv 4) (pe_ix ix_str (pv 3) (pe_call GT hr1 (by rfl) gT kT bT .nil pass0 (pa_cons (pv 0) (pa_cons pe_int pa_nil))) fun _ _ => rfl)))))
      (pss_cons (ps_set (i := 6) scMy.nd rfl (by first | exact Or.inl rfl | exact Or.inr rfl) (pe_call GT hr1 (by rfl) gT kT bT .nil pass0 (pa_cons (pv 0) (pa_cons (pe_op op_add (pe_callB call_len_str (by rfl) mL boot_len (pa_cons (pv 4) pa_nil)) pe_int) pa_nil))))
      (pss_cons (ps_set (i := 7) scMy.nd rfl (by first | exact Or.inl rfl | exact Or.inr rfl) (pe_ifExp (pt_cmpR op_eq (pv 6) pe_int (nomark _)) (pv 2) (pv 3)))
      (pss_cons (ps_set (i := 8) scMy.nd rfl (by first | exact Or.inl rfl | exact Or.inr rfl) (pe_call GT hr1 (by rfl) gT kT bT .nil pass0 (pa_cons (pv 0) (pa_cons pe_int pa_nil))))
      (pss_cons (ps_if (pt_cmpR op_eq (pe_call GT hr1 (by rfl) gT kT bT .nil pass0 (pa_cons (pv 0) (pa_cons pe_int pa_nil))) pe_int (nomark _)) (pss_one (ps_ret (pe_lc (own := [("_law_k", 5)]) (g := gName 5) (tt := tYes) (te := (tOp rCatS (tOp rIxS (tVar 2) (tOp (rI (fun _ j => 0 < j) fun i j => .int (i % j)) (tOp (rI0 fun i j => .int (i + j)) (tVar 8) (tOp (rI CMul fun i j => .int (i * j)) (tC (.int 3)) (tVar 5))) (tC (.int 26)))) (tSl rSlS (tVar 4) tNoPart (tPart (tCall spTake [] E0 (tCons (tVar 0) (tCons (tC (.int 8)) tNil))))))) rfl scMy.nd (pi_range1 (by rfl) mR (pa_cons (pv 1) pa_nil)) (blkOk_by (own := [("_law_k", 5)]) (N := nMy) (sc := defScope sMany) (by decide +kernel)) (fun _ _ _ _ _ => (pg_name (i := 5) scMy.nd rfl (by first | exact Or.inl rfl | exact Or.inr rfl))) (fun _ _ _ _ _ => pts_nil) (fun _ _ _ _ _ => (pe_op op_add_str (pe_ix ix_str (pv 2) (pe_op op_mod (pe_op op_add (pv 8) (pe_op op_mul pe_int (pv 5))) pe_int) fun _ _ => rfl) (pe_slice sl_str (pv 4) po_none (po_some (pe_call GT hr1 (by rfl) gT kT bT .nil pass0 (pa_cons (pv 0) (pa_cons pe_int pa_nil)))))))))) pss_nil)
      (pss_cons (ps_set (i := 9) scMy.nd rfl (by first | exact Or.inl rfl | exact Or.inr rfl) (pe_lst pa_nil))
      (pss_cons (ps_for (passes_of rfl) rfl (pi_range1 (by rfl) mR (pa_cons (pv 1) pa_nil)) (pg_name (i := 5) scMy.nd rfl (by first | exact Or.inl rfl | exact Or.inr rfl)) (pss_cons (ps_set (i := 10) scMy.nd rfl (by first | exact Or.inl rfl | exact Or.inr rfl) (pe_ix ix_str (pv 7) (pe_op op_mod (pe_op op_add (pv 8) (pe_op op_mul pe_int (pv 5))) (pe_callB call_len_str (by rfl) mL boot_len (pa_cons (pv 7) pa_nil))) fun _ _ => rfl)) (pss_one (ps_expr (pe_bm PySem.F.plainAttrs_list PySem.F.slot_list_append PySem.F.type_list_append mt_append (pv 9) (pa_cons (pe_op op_add_str (pe_op op_add_str (pe_slice sl_str (pv 4) po_none (po_some (pv 6))) (pv 10)) (pe_slice sl_str (pv 4) (po_some (pv 6)) po_none)) pa_nil))))))
      (pss_one (ps_ret (pv 9))))))))))))), ?_⟩
    obtain ⟨p, m, Hk, n, rfl, hm, hp0, hn, q⟩ := h
    have hp := hp0.re
    refine s_asg (v := .str (tx letters)) (ev_is ev_c (by rw [str_letters])) fun H1 e1 => ?_
    refine s_asg (v := .str (tx signs)) (ev_is (ev_op (y := .str (tx digits)) (ev_var rfl) (ev_is ev_c (by rw [str_digits])) (rv_cats (by decide))) rfl) fun H2 e2 => ?_
    have hp2 := hp.grow (e1.trans e2)
    refine ⟨_, rfl, _, rfl, p, 26, Wo H p, n, rfl, by omega, by omega, hp2, by omega, ?_⟩
    intro r H3 r0 r1 hp3
    obtain ⟨j, rfl⟩ := Int.eq_ofNat_of_zero_le r0
    have hj : j < letters.length := by show j < 26; omega
    refine ⟨tx letters, _, _, rfl, rfl, (by show 26 ≤ sizeLine; decide), text_at (zs := letters) hj, ?_⟩
    dsimp only
    refine s_seq ?_
    -- how many signs more
    refine ⟨_, rfl, p, 7, Wo H p, _, rfl, by omega, by omega, hp3, by omega, ?_⟩
    intro r H4 r0 r1 hp4
    obtain ⟨z, rfl⟩ := Int.eq_ofNat_of_zero_le r0
    have hz : z < 7 := by omega
    refine ⟨(z : Int), rfl, by omega, by omega, for_range (lo := 0) (n := ((z : Int)).toNat) (fun i st H' => ∃ l t5, st = [some (.ref p), some (.int (m : Int)), some (.str (tx letters)), some (.str (tx Vp.signs)), some (.str (tx l)), t5, none, none, none, none, none] ∧ nam l ∧ l.length = i + 1 ∧ Pl (Wo H p) p (n + 1 + 1 + i) H') ⟨[letters.getD j 0], none, rfl, nam_one (getD_mem hj), rfl, hp4⟩ ?_ ?_⟩
    · rintro i _ H4 hi ⟨l, t5, rfl, hl, hlen, hpl⟩
      have hi7 : i < 7 := by omega
      refine ⟨_, rfl, _, rfl, _, rfl, p, 36, Wo H p, _, rfl, by omega, by omega, hpl, by omega, ?_⟩
      intro r H5 r0 r1 hp5
      obtain ⟨k, rfl⟩ := Int.eq_ofNat_of_zero_le r0
      have hk : k < Vp.signs.length := by show k < 36; omega
      refine ⟨tx Vp.signs, _, _, rfl, rfl, (by show 36 ≤ sizeLine; decide), text_at (zs := Vp.signs) hk, ?_⟩
      refine ⟨tx l, tx [Vp.signs.getD k 0], rfl, rfl, sz_of (by rw [tx_len, tx_len, List.length_singleton]; omega), ?_⟩
      refine ⟨l ++ [Vp.signs.getD k 0], some (.int (0 + (i : Int))), ?_, nam_snoc hl (getD_mem hk) (by omega), by rw [List.length_append, List.length_singleton, hlen], by rw [show n + 1 + 1 + (i + 1) = n + 1 + 1 + i + 1 by omega]; exact hp5⟩
      rw [tx_app]
      rfl
    rintro _ H5 ⟨l, t5, rfl, hl, hlen, hp5⟩
    have hl7 : l.length ≤ 7 := by omega
    have hl1 : 1 ≤ l.length := by omega
    have hp5 : Pl (Wo H p) p (n + 10) H5 := hp5.cnt (by omega)
    -- place
    refine ⟨_, rfl, _, rfl, tx l, rfl, sz_of (by rw [tx_len]; omega), (l.length : Int), 1, rfl, rfl, ?_⟩
    refine ⟨p, (l.length : Int) + 1, Wo H p, _, rfl, by omega, by omega, hp5, by omega, ?_⟩
    intro r H6 r0 r1 hp6
    obtain ⟨g, rfl⟩ := Int.eq_ofNat_of_zero_le r0
    have hg : g ≤ l.length := by omega
    -- told
    obtain ⟨told, htold, hn2, hts, htl, hlen2⟩ : ∃ told : List Nat, told = (if V.int (g : Int) = V.int 0 then letters else Vp.signs) ∧ told.Nodup ∧ (∀ c ∈ told, c ∈ Vp.signs) ∧ (g = 0 → ∀ c ∈ told, c ∈ letters) ∧ (told.length = 26 ∨ told.length = 36) := by
      by_cases h0 : g = 0
      · refine ⟨letters, by rw [if_pos (by rw [h0]; rfl)], nodup_letters, fun c hc => letters_signs hc, fun _ c hc => hc, .inl rfl⟩
      · refine ⟨Vp.signs, by rw [if_neg (fun z => h0 (by have := V.int.inj z; omega))], nodup_signs, fun c hc => hc, fun z => absurd z h0, .inr rfl⟩
    refine s_asg (v := .str (tx told)) (ev_if (b := decide (V.int (g : Int) = V.int 0)) (et_test (ev_op (ev_var rfl) ev_c (rv_eq rfl))) (fun h => ev_is (ev_var rfl) (by rw [htold, if_pos (of_decide_eq_true h)])) (fun h => ev_is (ev_var rfl) (by rw [htold, if_neg (of_decide_eq_false h)]))) fun H7 e7 => ?_
    have hp7 := hp6.grow e7
    -- start
    refine ⟨_, rfl, p, 36, Wo H p, _, rfl, by omega, by omega, hp7, by omega, ?_⟩
    intro sr H8 sr0 sr1 hp8
    obtain ⟨s0, rfl⟩ := Int.eq_ofNat_of_zero_le sr0
    -- if take(3) == 0
    dsimp only
    refine s_seq ?_
    refine ⟨_, rfl, p, 3, Wo H p, _, rfl, by omega, by omega, hp8, by omega, ?_⟩
    intro r3 H9 r30 r31 hp9
    refine ⟨rfl, _, rfl, ?_⟩
    refine ite2 (fun _ => ?_) (fun _ => ?_)
    · refine ⟨_, rfl, (m : Int), rfl, by omega, by omega, fun Dl hD => lc_range (lo := 0) (n := m) (fun i H' => ∃ ys, H' Dl = some (.lst (vtx ys)) ∧ ys.length = i ∧ (∀ (j : Nat) (y : List Nat), ys[j]? = some y → nam y ∧ y.head? = some (letters.getD ((s0 + 3 * j) % 26) 0)) ∧ Pl (Wo H p) p (n + 14 + i) H')
        ⟨[], upd_same, rfl, (fun j y h => by simp at h), (hp9.new hD).cnt (by omega)⟩ ?_ ?_⟩
      · rintro i H9' hi ⟨ys, h1, h2, h3, h4⟩
        refine ⟨rfl, ?_⟩
        unfold tYes
        dsimp only
        rw [if_pos rfl]
        have em : Ev (tOp (rI (fun _ j => 0 < j) fun i j => .int (i % j)) (tOp (rI0 fun i j => .int (i + j)) (tVar 8) (tOp (rI CMul fun i j => .int (i * j)) (tC (.int 3)) (tVar 5))) (tC (.int 26))) [some (.ref p), some (.int (m : Int)), some (.str (tx letters)), some (.str (tx Vp.signs)), some (.str (tx l)), some (.int (0 + (i : Int))), some (.int (g : Int)), some (.str (tx told)), some (.int (s0 : Int)), none, none] H9' (.int (((s0 + 3 * i) % 26 : Nat) : Int)) :=
          ev_is (ev_op (ev_op (ev_var rfl) (ev_op ev_c (ev_var rfl) (rv_I (.inl ⟨by decide, by decide⟩))) rv_I0) ev_c (rv_I (by show (0 : Int) < 26; decide))) (congrArg V.int (show ((s0 : Int) + 3 * (0 + (i : Int))) % 26 = (((s0 + 3 * i) % 26 : Nat) : Int) by omega))
        have hx : (s0 + 3 * i) % 26 < letters.length := Nat.mod_lt _ (by decide)
        refine ⟨_, rfl, em H9' (Ex.refl H9') _ fun H10 e10 => ?_⟩
        refine ⟨tx letters, _, _, rfl, rfl, (by show 26 ≤ sizeLine; decide), text_at (zs := letters) hx, ?_⟩
        have h10 := h4.grow e10
        have hDp : Dl ≠ p := hp9.ne hD
        refine ⟨_, rfl, _, rfl, p, 8, Wo H10 p, _, rfl, by omega, by omega, h10.re, by omega, ?_⟩
        intro r H11 r0 r1 hp11
        obtain ⟨t, rfl⟩ := Int.eq_ofNat_of_zero_le r0
        refine ⟨_, rfl, tx l, rfl, sz_of (by rw [tx_len]; omega), ?_⟩
        rw [tx_cut0]
        refine ⟨tx [letters.getD ((s0 + 3 * i) % 26) 0], tx (l.take t), rfl, rfl, sz_of (by rw [tx_len, tx_len, List.length_singleton, List.length_take]; omega), ?_⟩
        rw [tx_app]
        have hDl : H11 Dl = some (.lst (vtx ys)) := hp11.ex _ _ (wo_at (e10 _ _ h1) hDp)
        refine ⟨vtx ys, hDl, sz_lt (by rw [vtx_len]; omega), ys ++ [letters.getD ((s0 + 3 * i) % 26) 0 :: l.take t], ?_, by rw [List.length_append, List.length_singleton, h2], ?_, ?_⟩
        · rw [upd_same, vtx_app]
          rfl
        · intro j y hy
          by_cases hj : j < ys.length
          · rw [List.getElem?_append_left hj] at hy
            exact h3 j y hy
          · have hj2 := (List.getElem?_eq_some_iff.mp hy).1
            rw [List.length_append, List.length_singleton] at hj2
            obtain rfl : j = ys.length := by omega
            rw [List.getElem?_append_right (Nat.le_refl _), Nat.sub_self] at hy
            obtain rfl := Option.some.inj hy
            rw [h2]
            exact ⟨nam_cons (getD_mem hx) (fun x hx => nam_signs hl x (List.mem_of_mem_take hx)) (by rw [List.length_take]; omega), rfl⟩
        · have hb : Pl (Wo H p) p (n + 14 + (i + 1)) H11 := (hp11.sub h10.wo h10.no).cnt (by omega)
          refine ⟨hb.no, Ex.mut hb.ex ?_, ?_⟩
          · cases e : (Wo H p) Dl with
            | none => rfl
            | some o =>
              have := hp9.ex _ _ e
              rw [hD] at this
              cases this
          · obtain ⟨a, b, c, k1, k2⟩ := hb.at_
            exact ⟨a, b, c, by rw [upd_ne hDp.symm]; exact k1, k2⟩
      · rintro H9' ⟨ys, h1, h2, h3, h4⟩
        refine q Dl ys H9' (fresh_wo hp0 hp9 hD) (hp0.back (h4.cnt (by omega))) h1 h2 ⟨fun y hy => ?_, nodup_key fun i j y hi hj => ?_⟩
        · obtain ⟨j, hj⟩ := List.getElem?_of_mem hy
          exact (h3 j y hj).1
        · have a1 := (h3 i y hi).2
          have a2 := (h3 j y hj).2
          have li := (List.getElem?_eq_some_iff.mp hi).1
          have lj := (List.getElem?_eq_some_iff.mp hj).1
          rw [a1] at a2
          exact mod3w (by omega) (by omega) (getD_inj nodup_letters (Nat.mod_lt _ (by decide)) (Nat.mod_lt _ (by decide)) (Option.some.inj a2))
    -- names = []
    refine ⟨by show 0 ≤ sizeLine; omega, fun d nd => ?_⟩
    have hdp : d ≠ p := hp9.ne nd
    have wd : (Wo H p) d = none := by
      cases e : (Wo H p) d with
      | none => rfl
      | some o =>
        have := hp9.ex _ _ e
        rw [nd] at this
        cases this
    let f : Nat → List Nat := fun k => l.take g ++ [told.getD ((s0 + 7 * k) % told.length) 0] ++ l.drop g
    have hmod : ∀ k, (s0 + 7 * k) % told.length < told.length := fun k => Nat.mod_lt _ (by omega)
    dsimp only
    refine s_seq ?_
    refine s_forR1 (n := (m : Int)) (ea_cons (ev_var rfl) ea_nil) (by omega) (fun i st H' => ∃ t5 t12, st = [some (.ref p), some (.int (m : Int)), some (.str (tx letters)), some (.str (tx Vp.signs)), some (.str (tx l)), t5, some (.int (g : Int)), some (.str (tx told)), some (.int (s0 : Int)), some (.ref d), t12] ∧ H' d = some (.lst (vtx ((List.range i).map f))) ∧ Pl (Wo H p) p (n + 20) H') ?_ ?_ ?_
    · exact fun H12 e12 => ⟨t5, none, rfl, e12 _ _ upd_same, ((hp9.new nd).grow e12).cnt (by omega)⟩
    · rintro i _ H12 hi ⟨t5', t12, rfl, hd12, hp12⟩
      refine s_seq ?_
      refine s_asg (v := .str (tx [told.getD ((s0 + 7 * i) % told.length) 0])) (ev_op (ev_var rfl) (y := .int (((s0 + 7 * i) % told.length : Nat) : Int)) (ev_is (ev_op (ev_op (ev_var rfl) (ev_op ev_c (ev_var rfl) (rv_I (.inl ⟨by decide, by decide⟩))) rv_I0) (ev_cb (z := .int (told.length : Int)) (ea_cons (ev_var rfl) ea_nil) (fun H1 _ Q q => ⟨tx told, rfl, sz_of (by rw [tx_len]; omega), q H1 (Ex.refl H1)⟩)) (rv_I (show (0 : Int) < (told.length : Int) by omega))) ?_) ?_) fun H13 e13 => ?_
      · refine congrArg V.int ?_
        rw [Int.natCast_emod, Int.natCast_add, Int.natCast_mul]
        rfl
      · intro H1 _ Q q
        exact ⟨tx told, _, _, rfl, rfl, sz_of (by rw [tx_len]; omega), text_at (zs := told) (hmod i), q H1 (Ex.refl H1)⟩
      dsimp only
      refine s_app (xs := vtx ((List.range i).map f)) (v := .str (tx (f i))) (e13 _ _ hd12) (ev_var rfl) ?_ (by rw [vtx_len, List.length_map, List.length_range]; omega) fun H14 e14 => ?_
      · intro H1 _ Q q
        have c0 := tx_cut0 l g
        have c1 := tx_cut1 l g
        refine ⟨_, rfl, _, rfl, _, rfl, tx l, rfl, sz_of (by rw [tx_len]; omega), ?_⟩
        rw [c0]
        refine ⟨_, rfl, tx (l.take g), tx [told.getD ((s0 + 7 * i) % told.length) 0], rfl, rfl, sz_of (by rw [tx_len, tx_len, List.length_take, List.length_singleton]; omega), ?_⟩
        rw [tx_app]
        refine ⟨_, rfl, _, rfl, _, rfl, tx l, rfl, sz_of (by rw [tx_len]; omega), ?_⟩
        rw [c1]
        refine ⟨tx (l.take g ++ [told.getD ((s0 + 7 * i) % told.length) 0]), tx (l.drop g), rfl, rfl, sz_of (by rw [tx_len, tx_len, List.length_append, List.length_take, List.length_singleton, List.length_drop]; omega), ?_⟩
        rw [tx_app]
        exact q H1 (Ex.refl H1)
      · refine ⟨some (.int (i : Int)), _, rfl, ?_, ?_⟩
        · rw [upd_same, List.range_succ, List.map_append, vtx_app]
          rfl
        · have hb := hp12.grow (e13.trans e14)
          refine ⟨hb.no, Ex.mut hb.ex wd, ?_⟩
          obtain ⟨a, b, c, k1, k2⟩ := hb.at_
          exact ⟨a, b, c, by rw [upd_ne hdp.symm]; exact k1, k2⟩
    rintro _ H12 ⟨t5', t12, rfl, hd12, hp12⟩
    refine ⟨_, rfl, ?_⟩
    have l7 : l.take 7 = l := List.take_of_length_le hl7
    refine q d _ H12 (fresh_wo hp0 hp9 nd) (hp0.back (hp12.cnt (by omega))) hd12 (by rw [List.length_map, List.length_range]; rfl) ⟨fun y hy => ?_, nodup_range fun i j hi hj e => ?_⟩
    · obtain ⟨k, _, rfl⟩ := List.mem_map.mp hy
      have := nam_put (t := 7) (p := g) (c := told.getD ((s0 + 7 * k) % told.length) 0) hl (by omega) (by rw [l7]; exact hg) (fun h0 => htl h0 _ (getD_mem (hmod k))) (hts _ (getD_mem (hmod k)))
      rw [l7] at this
      exact this
    · have a1 := put_at (c := told.getD ((s0 + 7 * i) % told.length) 0) hg
      have a2 := put_at (c := told.getD ((s0 + 7 * j) % told.length) 0) hg
      have e2 : l.take g ++ [told.getD ((s0 + 7 * i) % told.length) 0] ++ l.drop g = l.take g ++ [told.getD ((s0 + 7 * j) % told.length) 0] ++ l.drop g := e
      rw [e2, a2] at a1
      exact mod7 hlen2 (by omega) (by omega) (getD_inj hn2 (hmod i) (hmod j) (Option.some.inj a1).symm)
end
end K17

set_option Elab.async false
set_option linter.all false
set_option maxRecDepth 100000
set_option maxHeartbeats 4000000
namespace K17
open PySem PySem.Spec PyProof.Rows L2 Vl Evl Vp
theorem el_cat2 {ta tb : TE} {σ : L2.St} {H : Hp} {xs ys : List V} (h : EvL ta σ H xs) (h2 : EvL tb σ H ys) (hl : xs.length + ys.length ≤ 100000) : EvL (tOp rCat ta tb) σ H (xs ++ ys) := fun H1 e Q q =>
  h H1 e _ fun p H2 np e2 hp => h2 H2 (e.trans e2) _ fun p2 H3 np2 e3 hp2 => ⟨p, p2, xs, ys, rfl, rfl, e3 _ _ hp, hp2, sz_of hl, fun p4 n4 => q p4 _ (fresh_back (e2.trans e3) n4) ((e2.trans e3).trans (Ex.new n4)) upd_same⟩
theorem perm_out {α : Type} {ms ls : List α} {k : Nat} (h : k < ls.length) : (ms ++ [ls[k]] ++ (ls.take k ++ ls.drop (k + 1))).Perm (ms ++ ls) := by
  rw [List.append_assoc]
  refine List.Perm.append_left ms ?_
  have e : ls = ls.take k ++ ls[k] :: ls.drop (k + 1) := by
    conv => lhs; rw [← List.take_append_drop k ls, List.drop_eq_getElem_cons h]
  have p := List.perm_middle (a := ls[k]) (l₁ := ls.take k) (l₂ := ls.drop (k + 1))
  rw [← e] at p
  exact p.symm
abbrev sMixed : Stmt := top 95
abbrev nMx : List Str := ["_law_pool_here", "_law_things", "_law_left", "_law_mixed_here", "_law_k", "_law_at"]
/-- the things in a drawn order -/
def spMixed : Sp := fun vs H Q _ => ∃ (p t : Addr) (xs : List V) (Hk : Hp) (n : Nat), vs = [.ref p, .ref t] ∧ Pl Hk p n H ∧ n ≤ 90000 ∧ Hk t = some (.lst xs) ∧ xs.length ≤ 40 ∧
  ∀ d ys H', H d = none → Pl Hk p (n + 50) H' → H' d = some (.lst ys) → ys.Perm xs → Q (.ref d) H'
section
variable {P : Program} {w : World} {K : PySem.W.Frag} {mg : Str → Option Value} {base : Heap}
theorem scMx : FnScope nMx ["_law_pool_here", "_law_things"] (defScope sMixed) := ⟨rfl, rfl, rfl, by decide +kernel, rfl, by decide +kernel, by decide +kernel⟩
theorem ok_mixed {f fT : Addr} {fd fdT : FuncData} (F : FnP K "_law_mixed" sMixed f fd) (FT : FnP K "_law_take" sTake fT fdT) (gT : mg "_law_take" = some (.ref fT)) (mI : mg "int" = none) (mL : mg "len" = none) (mR : mg "range" = none) (mLi : mg "list" = none) :
    FnOk P w K mg base CX0 2 f fd ["_law_pool_here", "_law_things"] spMixed := by
  have GT : FnOk P w K mg base CX0 1 fT fdT ["_law_pool_here", "_law_many_here"] spTake := ok_take FT mI
  have bT : Binds K fdT ["_law_pool_here", "_law_many_here"] [] := FT.bindsN fun _ _ _ _ _ _ us hl => match us, hl with | [_, _], _ => rfl
  have kT := FT.kp
  refine F.ok (CX := CX0) scMx (fun vs H Q E h => ?_) (fun cdv A outer s H vs Q E hr h => ?_)
  · obtain ⟨p, t, xs, Hk, n, rfl, _⟩ := h
    rfl
  · have hr1 : Room 1 _ := hr
    refine ⟨_, (pss_cons (ps_set (i := 2) scMx.nd rfl (by first | exact Or.inl rfl | exact Or.inr rfl) (pe_callTy call_list_of (by rfl) mLi boot_list (pa_cons (pv 1) pa_nil)))
      (pss_cons (ps_set (i := 3) scMx.nd rfl (by first | exact Or.inl rfl | exact Or.inr rfl) (pe_lst pa_nil))
      (pss_cons (ps_for (passes_of rfl) rfl (pi_range1 (by rfl) mR (pa_cons (pe_callB call_len (by rfl) mL boot_len (pa_cons (pv 1) pa_nil)) pa_nil)) (pg_name (i := 4) scMx.nd rfl (by first | exact Or.inl rfl | exact Or.inr rfl))
        (pss_cons (ps_set (i := 5) scMx.nd rfl (by first | exact Or.inl rfl | exact Or.inr rfl) (pe_call GT hr1 (by rfl) gT kT bT .nil pass0 (pa_cons (pv 0) (pa_cons (pe_callB call_len (by rfl) mL boot_len (pa_cons (pv 2) pa_nil)) pa_nil))))
        (pss_cons (ps_expr (pe_bm PySem.F.plainAttrs_list PySem.F.slot_list_append PySem.F.type_list_append mt_append (pv 3) (pa_cons (pe_ix ix_list (pv 2) (pv 5) fun _ _ => rfl) pa_nil)))
        (pss_one (ps_set (i := 2) scMx.nd rfl (by first | exact Or.inl rfl | exact Or.inr rfl) (pe_op op_cat (pe_slice sl_list (pv 2) po_none (po_some (pv 5))) (pe_slice sl_list (pv 2) (po_some (pe_op op_add (pv 5) pe_int)) po_none)))))))
      (pss_one (ps_ret (pv 3)))))), ?_⟩
    obtain ⟨p, t, xs, Hk, n, rfl, hp0, hn, ht, hx, q⟩ := h
    have hp := hp0.re
    have tp : t ≠ p := fun z => by rw [z, hp0.no] at ht; cases ht
    have htk : (Wo H p) t = some (.lst xs) := wo_at (hp0.ex _ _ ht) tp
    refine s_seq ?_
    refine ⟨_, rfl, t, xs, rfl, .inl (sq_of (hp0.ex _ _ ht)), fun a na => ?_⟩
    dsimp only
    refine s_seq ?_
    refine ⟨by show 0 ≤ sizeLine; omega, fun d nd => ?_⟩
    have ha1 := (upd_same (H := H) (a := a) (o := HO.lst xs))
    have hp1 : Pl (Wo H p) p n (upd H a (.lst xs)) := hp.new na
    have hp2 : Pl (Wo H p) p n (upd (upd H a (.lst xs)) d (.lst [])) := hp1.new nd
    have ad : a ≠ d := fun z => by rw [← z, ha1] at nd; cases nd
    have ap : a ≠ p := hp.ne na
    have dp : d ≠ p := hp1.ne nd
    have dk : (Wo H p) d = none := by
      cases e : (Wo H p) d with
      | none => rfl
      | some o =>
        have := hp1.ex _ _ e
        rw [nd] at this
        cases this
    dsimp only
    refine s_seq ?_
    refine s_forR1 (n := (xs.length : Int)) (ea_cons (ev_cb (ea_cons (ev_var rfl) ea_nil) (fun H3 e3 Q q => ⟨_, xs.length, rfl, .inl ⟨xs, sq_of (e3 _ _ (hp2.ex _ _ htk)), rfl⟩, q H3 (Ex.refl H3)⟩)) ea_nil) (by omega)
      (fun i st H' => ∃ b ls ms t4 t5, st = [some (.ref p), some (.ref t), some (.ref b), some (.ref d), t4, t5] ∧ H' b = some (.lst ls) ∧ H' d = some (.lst ms) ∧ b ≠ d ∧ b ≠ p ∧ ls.length + i = xs.length ∧ (ms ++ ls).Perm xs ∧ ms.length = i ∧ Pl (Wo H p) p (n + i) H')
      (fun H3 e3 => ⟨a, xs, [], none, none, rfl, e3 _ _ ((upd_ne ad).trans ha1), e3 _ _ upd_same, ad, ap, rfl, List.Perm.refl _, rfl, hp2.grow e3⟩) ?_ ?_
    · rintro i _ H3 hi ⟨b, ls, ms, t4, t5, rfl, hb, hd, bd, bp, hlen, hperm, hml, hpl⟩
      dsimp only
      refine s_seq ?_
      refine ⟨_, rfl, _, rfl, _, ls.length, rfl, .inl ⟨ls, sq_of hb, rfl⟩, p, (ls.length : Int), Wo H3 p, _, rfl, by omega, by omega, hpl.re, by omega, fun r H4 r0 r1 hp4 => ?_⟩
      obtain ⟨k, rfl⟩ := Int.eq_ofNat_of_zero_le r0
      have hk : k < ls.length := by omega
      have hp4b := hpl.back hp4
      have hb4 : H4 b = some (.lst ls) := hp4.ex _ _ (wo_at hb bp)
      have hd4 : H4 d = some (.lst ms) := hp4.ex _ _ (wo_at hd dp)
      dsimp only
      refine s_seq ?_
      refine s_app (xs := ms) (v := ls[k]) hd4 (ev_var rfl) (ev_op (ev_var rfl) (ev_var rfl) (rv_ixL (sq_of hb4) (at_of rfl (List.getElem?_eq_getElem hk)))) (by omega) fun H5 e5 => ?_
      dsimp only
      have hb5 : (upd H5 d (.lst (ms ++ [ls[k]]))) b = some (.lst ls) := (upd_ne bd).trans (e5 _ _ hb4)
      have hp5 : Pl (Wo H p) p (n + i + 1) (upd H5 d (.lst (ms ++ [ls[k]]))) := by
        have hz := hp4b.grow e5
        refine ⟨hz.no, Ex.mut hz.ex dk, ?_⟩
        obtain ⟨a', b', c', w1, w2⟩ := hz.at_
        exact ⟨a', b', c', by rw [upd_ne dp.symm]; exact w1, w2⟩
      have key := el_cat2 (σ := [some (.ref p), some (.ref t), some (.ref b), some (.ref d), some (.int (i : Int)), some (.int (k : Int))]) (el_sl (lo := none) (hi := some (k : Int)) (K := K) (ev_var (i := 2) rfl) eo_none (eo_some (ev_var (i := 5) rfl)) (sq_of hb5))
        (el_sl (lo := some ((k + 1 : Nat) : Int)) (hi := none) (K := K) (ev_var (i := 2) rfl) (eo_some (show Ev (tOp (rI0 fun i j => .int (i + j)) (tVar 5) (tC (.int 1))) _ _ (.int ((k + 1 : Nat) : Int)) from ev_is (ev_op (ev_var rfl) ev_c rv_I0) rfl)) eo_none (sq_of hb5)) (by
          have h3 := cutV_length ls (some ((k + 1 : Nat) : Int)) none
          have h4 := cutV_length ls none (some (k : Int))
          omega)
      rw [cutV0, cutV1] at key
      refine key _ (Ex.refl _) _ fun b2 H6 nb2 e6 hb6 => ?_
      have hd6 : H6 d = some (.lst (ms ++ [ls[k]])) := e6 _ _ upd_same
      have hp6 := hp5.grow e6
      have b2d : b2 ≠ d := fun z => by
        rw [z, upd_same] at nb2
        cases nb2
      refine ⟨b2, ls.take k ++ ls.drop (k + 1), ms ++ [ls[k]], _, _, rfl, hb6, hd6, b2d, hp5.ne nb2, ?_, (perm_out hk).trans hperm, ?_, by rw [show n + (i + 1) = n + i + 1 by omega]; exact hp6⟩
      · rw [List.length_append, List.length_take, List.length_drop]
        omega
      · rw [List.length_append, List.length_singleton, hml]
    · rintro _ H3 ⟨b, ls, ms, t4, t5, rfl, hb, hd, bd, bp, hlen, hperm, hml, hpl⟩
      have hl0 : ls = [] := List.length_eq_zero_iff.mp (by have e1 : ((xs.length : Int)).toNat = xs.length := by omega
                                                           omega)
      rw [hl0, List.append_nil] at hperm
      have fd : H d = none := by
        rw [upd_ne (fun z => ad z.symm)] at nd
        exact nd
      exact ⟨_, rfl, q d ms H3 fd (hp0.back (hpl.cnt (by omega))) hd hperm⟩
end
end K17

set_option Elab.async false
set_option linter.all false
set_option maxRecDepth 100000
set_option maxHeartbeats 2000000
/-! Sequences that go round: the least of all turns tells them apart. -/
namespace Vr
open PySem PySem.Spec PyProof.Rows L2 Vl Vp
def dtx (a : List (List Nat)) : List PyData := a.map fun l => PyData.str (tx l)
def wd (a : List (List Nat)) : PyData := .tuple (dtx a)
def ltW (a b : List (List Nat)) : Bool := PySem.W.dataLt (wd a) (wd b)
theorem key_inj : ∀ {a b : List (List Nat)}, PySem.W.keyToksAll (dtx a) = PySem.W.keyToksAll (dtx b) → a = b
  | [], [], _ => rfl
  | [], x :: r, h => by
    unfold dtx at h
    simp only [List.map_nil, List.map_cons, PySem.W.keyToksAll] at h
    cases List.cons.inj h |>.1
  | x :: r, [], h => by
    unfold dtx at h
    simp only [List.map_nil, List.map_cons, PySem.W.keyToksAll] at h
    cases List.cons.inj h |>.1
  | x :: r, y :: t, h => by
    unfold dtx at h
    simp only [List.map_cons, PySem.W.keyToksAll, PySem.W.keyToks, List.cons_append, List.nil_append] at h
    obtain ⟨_, h⟩ := List.cons.inj h
    obtain ⟨h1, h2⟩ := List.cons.inj h
    have e1 : x = y := Sum.inr.inj h1
    have e2 : r = t := key_inj h2
    rw [e1, e2]
theorem lt_irr (a : List (List Nat)) : ltW a a = false := PyProof.Rows.lex_irrefl (O := itemOrd) _
theorem lt_trans {a b c : List (List Nat)} (h1 : ltW a b = true) (h2 : ltW b c = true) : ltW a c = true := PyProof.Rows.lex_trans (O := itemOrd) _ _ _ h1 h2
theorem lt_total {a b : List (List Nat)} (h1 : ltW a b = false) (h2 : ltW b a = false) : a = b := by
  have := PyProof.Rows.lex_total (O := itemOrd) _ _ h1 h2
  unfold wd at this
  rw [PySem.W.keyToks, PySem.W.keyToks] at this
  exact key_inj this
theorem le_trans {a b c : List (List Nat)} (h1 : ltW b a = false) (h2 : ltW c b = false) : ltW c a = false := by
  cases e : ltW c a with
  | false => rfl
  | true =>
    rcases PyProof.Rows.lex_negTrans (O := itemOrd) (PySem.W.keyToks (wd c)) (PySem.W.keyToks (wd b)) (PySem.W.keyToks (wd a)) e with h | h
    · exact absurd h2 (by rw [show ltW c b = true from h]; decide)
    · exact absurd h1 (by rw [show ltW b a = true from h]; decide)
/-- begun elsewhere -/
def rot {α : Type} (a : List α) (k : Nat) : List α := a.drop k ++ a.take k
theorem rot_zero {α : Type} (a : List α) : rot a 0 = a := by
  unfold rot
  rw [List.take_zero, List.append_nil, List.drop_zero]
theorem rot_len {α : Type} (a : List α) (k : Nat) : (rot a k).length = a.length := by
  unfold rot
  rw [List.length_append, List.length_drop, List.length_take]
  omega
theorem rot_at {α : Type} {a : List α} {k i : Nat} (hk : k ≤ a.length) (hi : i < a.length) : (rot a k)[i]? = a[(i + k) % a.length]? := by
  unfold rot
  by_cases h : i < a.length - k
  · rw [List.getElem?_append_left (by rw [List.length_drop]; exact h), List.getElem?_drop, Nat.mod_eq_of_lt (by omega), Nat.add_comm]
  · rw [List.getElem?_append_right (by rw [List.length_drop]; omega), List.length_drop, List.getElem?_take_of_lt (by omega), Nat.mod_eq_sub_mod (by omega), Nat.mod_eq_of_lt (by omega)]
    congr 1
    omega
theorem rot_rot {α : Type} {a : List α} {k j : Nat} (hk : k < a.length) (hj : j < a.length) : rot (rot a k) j = rot a ((k + j) % a.length) := by
  refine List.ext_getElem? fun i => ?_
  have hn : (k + j) % a.length < a.length := Nat.mod_lt _ (by omega)
  by_cases hi : i < a.length
  · rw [rot_at (by rw [rot_len]; omega) (by rw [rot_len]; exact hi), rot_len, rot_at (by omega) (Nat.mod_lt _ (by omega)), rot_at (by omega) hi, Nat.mod_add_mod, Nat.add_mod_mod]
    congr 2
    omega
  · rw [List.getElem?_eq_none (by rw [rot_len, rot_len]; omega), List.getElem?_eq_none (by rw [rot_len]; omega)]
theorem rot_back {α : Type} {a : List α} {k : Nat} (hk : k < a.length) : rot (rot a k) ((a.length - k) % a.length) = a := by
  rw [rot_rot hk (Nat.mod_lt _ (by omega)), Nat.add_mod_mod, show k + (a.length - k) = a.length by omega, Nat.mod_self, rot_zero]
/-- the least of the turns 0 .. k -/
def lt1 (a : List (List Nat)) : Nat → List (List Nat)
  | 0 => a
  | k + 1 => if ltW (rot a (k + 1)) (lt1 a k) = true then rot a (k + 1) else lt1 a k
theorem lt1_turn (a : List (List Nat)) : ∀ k, ∃ j, j ≤ k ∧ lt1 a k = rot a j
  | 0 => ⟨0, by omega, (rot_zero a).symm⟩
  | k + 1 => by
    obtain ⟨j, h1, h2⟩ := lt1_turn a k
    unfold lt1
    by_cases h : ltW (rot a (k + 1)) (lt1 a k) = true
    · rw [if_pos h]
      exact ⟨k + 1, by omega, rfl⟩
    · rw [if_neg h]
      exact ⟨j, by omega, h2⟩
theorem lt1_least (a : List (List Nat)) : ∀ k j, j ≤ k → ltW (rot a j) (lt1 a k) = false
  | 0, j, h => by
    obtain rfl : j = 0 := by omega
    rw [rot_zero]
    exact lt_irr a
  | k + 1, j, h => by
    unfold lt1
    by_cases g : ltW (rot a (k + 1)) (lt1 a k) = true
    · rw [if_pos g]
      by_cases e : j = k + 1
      · rw [e]
        exact lt_irr _
      · refine le_trans (b := lt1 a k) ?_ (lt1_least a k j (by omega))
        cases z : ltW (lt1 a k) (rot a (k + 1)) with
        | false => rfl
        | true =>
          have := lt_trans z g
          rw [lt_irr] at this
          cases this
    · rw [if_neg g]
      by_cases e : j = k + 1
      · rw [e]
        exact Bool.eq_false_iff.mpr g
      · exact lt1_least a k j (by omega)
def least (a : List (List Nat)) : List (List Nat) := lt1 a (a.length - 1)
theorem lt1_len (a : List (List Nat)) (k : Nat) : (lt1 a k).length = a.length := by
  obtain ⟨j, _, h⟩ := lt1_turn a k
  rw [h, rot_len]
theorem least_len (a : List (List Nat)) : (least a).length = a.length := lt1_len _ _
def Turn (a b : List (List Nat)) : Prop := ∃ k, k < a.length ∧ rot a k = b
theorem Turn.sub {a b : List (List Nat)} (h : Turn a b) : ltW (least b) (least a) = false := by
  obtain ⟨k, hk, rfl⟩ := h
  obtain ⟨j, hj, e⟩ := lt1_turn (rot a k) ((rot a k).length - 1)
  rw [rot_len] at hj
  have e2 : least (rot a k) = rot a ((k + j) % a.length) := e.trans (rot_rot hk (by omega))
  rw [e2]
  have := Nat.mod_lt (k + j) (show 0 < a.length by omega)
  exact lt1_least a _ _ (by omega)
theorem Turn.symm {a b : List (List Nat)} (h : Turn a b) : Turn b a := by
  obtain ⟨k, hk, rfl⟩ := h
  exact ⟨(a.length - k) % a.length, by rw [rot_len]; exact Nat.mod_lt _ (by omega), rot_back hk⟩
theorem least_iff {a b : List (List Nat)} (ha : 1 ≤ a.length) (hb : 1 ≤ b.length) : least a = least b ↔ Turn a b := by
  constructor
  · intro h
    obtain ⟨i, hi, e1⟩ := lt1_turn a (a.length - 1)
    obtain ⟨j, hj, e2⟩ := lt1_turn b (b.length - 1)
    have e : rot a i = rot b j := e1.symm.trans (h.trans e2)
    have hl : a.length = b.length := by
      have := congrArg List.length e
      rw [rot_len, rot_len] at this
      exact this
    have hb2 := rot_back (a := b) (k := j) (by omega)
    rw [← e, rot_rot (a := a) (by omega) (by rw [hl]; exact Nat.mod_lt _ (by omega))] at hb2
    exact ⟨_, Nat.mod_lt _ (by omega), hb2⟩
  · intro h
    exact lt_total h.symm.sub h.sub
/-- compared as data -/
theorem alike_dtx : ∀ a b : List (List Nat), PySem.W.alikeAll (dtx a) (dtx b) = true
  | [], _ => by
    unfold dtx
    rw [List.map_nil, PySem.W.alikeAll]
  | x :: r, [] => by
    unfold dtx
    rw [List.map_nil, List.map_cons, PySem.W.alikeAll]
  | x :: r, y :: t => by
    have := alike_dtx r t
    unfold dtx at *
    rw [List.map_cons, List.map_cons, PySem.W.alikeAll, this, PySem.W.alike]
    rfl
theorem alike_wd (a b : List (List Nat)) : PySem.W.alike (wd a) (wd b) = true := by
  unfold wd
  rw [PySem.W.alike]
  exact alike_dtx a b
theorem dep_dtx : ∀ a : List (List Nat), PyData.depthAll (dtx a) = 0
  | [] => rfl
  | x :: r => by
    show max 0 (PyData.depthAll (dtx r)) = 0
    rw [dep_dtx r]
    rfl
theorem dep_wd (a : List (List Nat)) : (wd a).depth ≤ 1 := by
  show PyData.depthAll (dtx a) + 1 ≤ 1
  rw [dep_dtx]
  omega
theorem dpa_vtx {K : PySem.W.Frag} {H : Hp} : ∀ a : List (List Nat), DpAll K H (vtx a) (dtx a)
  | [] => .nil
  | x :: r => .cons (.str _) (dpa_vtx r)
theorem dp_wd {K : PySem.W.Frag} {H : Hp} {p : Addr} {a : List (List Nat)} (h : SqT K H p (vtx a)) : Dp K H (.ref p) (wd a) := .tup h (dpa_vtx a)
theorem vtx_inj {a b : List (List Nat)} (h : vtx a = vtx b) : a = b := by
  have : ∀ x y : List Nat, V.str (tx x) = V.str (tx y) → x = y := fun x y e => tx_inj (V.str.inj e)
  exact List.map_inj_right this |>.mp h
theorem vtx_rot (a : List (List Nat)) (k : Nat) : vtx (rot a k) = (vtx a).drop k ++ (vtx a).take k := by
  unfold rot
  rw [vtx_app, vtx_drop, vtx_take]
theorem vtx_rev (a : List (List Nat)) : (vtx a).reverse = vtx a.reverse := List.map_reverse.symm
end Vr

set_option Elab.async false
set_option linter.all false
set_option maxRecDepth 100000
set_option maxHeartbeats 4000000
namespace K17
open PySem PySem.Spec PyProof.Rows L2 Vl Evl Vp
abbrev sNet : Stmt := top 96
abbrev nNt : List Str := ["_law_pool_here", "_law_most", "_law_lanes", "_law_names_here", "_law_posts", "_law_told", "_law_name", "_law_found", "_law_k", "_law_start"]
/-- a lane's row: name, start, end -/
abbrev Row : Type := Addr × (List Nat × List Nat × List Nat)
def RowAt (H : Hp) (r : Row) : Prop := H r.1 = some (.tup [.str (tx r.2.1), .str (tx r.2.2.1), .str (tx r.2.2.2)])
/-- rows between posts, no name twice -/
def RowsOk (ps : List (List Nat)) (rs : List Row) : Prop := Names (rs.map fun r => r.2.1) ∧ ∀ r ∈ rs, r.2.2.1 ∈ ps ∧ r.2.2.2 ∈ ps
def spNet : Sp := fun vs H Q _ => ∃ (p : Addr) (most lanes : Nat) (Hk : Hp) (n : Nat), vs = [.ref p, .int (most : Int), .int (lanes : Int)] ∧ most ≤ 8 ∧ lanes ≤ 26 ∧ Pl Hk p n H ∧ n ≤ 80000 ∧
  ∀ d a b ps rs H', H d = none → Pl Hk p (n + 400) H' → H' d = some (.lst [.ref a, .ref b]) → H' a = some (.lst (vtx ps)) → H' b = some (.lst (rs.map fun r => V.ref r.1)) →
    a ≠ b → Names ps → ps.length ≤ most → rs.length ≤ lanes → RowsOk ps rs → (∀ r ∈ rs, RowAt H' r) → Q (.ref d) H'
theorem perm_map {f : Row → V} : ∀ {ys : List V} {rs : List Row}, ys.Perm (rs.map f) → ∃ rs' : List Row, ys = rs'.map f ∧ rs'.Perm rs
  | [], rs, h => by
    have e := h.symm.eq_nil
    rw [List.map_eq_nil_iff] at e
    exact ⟨[], rfl, by rw [e]⟩
  | y :: t, rs, h => by
    obtain ⟨x, hx, rfl⟩ := List.mem_map.mp (h.subset List.mem_cons_self)
    have p := List.perm_cons_erase hx
    have h2 : (f x :: t).Perm (f x :: (rs.erase x).map f) := h.trans (p.map f)
    obtain ⟨r', e, h3⟩ := perm_map h2.cons_inv
    exact ⟨x :: r', by rw [e]; rfl, (h3.cons x).trans p.symm⟩
theorem names_take {xs : List (List Nat)} (h : Names xs) (k : Nat) : Names (xs.take k) := ⟨fun l hl => h.1 l (List.mem_of_mem_take hl), h.2.sublist (List.take_sublist k xs)⟩
theorem names_sub {xs ys : List (List Nat)} (h : Names xs) (s : ys.Sublist xs) : Names ys := ⟨fun l hl => h.1 l (s.subset hl), h.2.sublist s⟩
theorem inV_vtx {l : List Nat} {xs : List (List Nat)} : inV (V.str (tx l)) (vtx xs) = decide (l ∈ xs) := by
  unfold inV vtx
  rw [List.any_map]
  cases e : decide (l ∈ xs) with
  | true =>
    have hm := of_decide_eq_true e
    rw [List.any_eq_true]
    exact ⟨l, hm, by show eqV (V.str (tx l)) (V.str (tx l)) = true; unfold eqV; simp⟩
  | false =>
    have hm := of_decide_eq_false e
    rw [List.any_eq_false]
    intro y hy z
    have z : eqV (V.str (tx y)) (V.str (tx l)) = true := z
    unfold eqV at z
    have : tx y = tx l := by simpa using z
    exact hm (by rw [← tx_inj this]; exact hy)
theorem flat_vtx (xs : List (List Nat)) : (vtx xs).all flatV = true := by
  rw [List.all_eq_true]
  intro v hv
  obtain ⟨l, _, rfl⟩ := List.mem_map.mp hv
  rfl
/-- the names of ts that are none of xs, behind xs turned about -/
theorem names_mix {xs ts : List (List Nat)} (hx : Names xs) (ht : Names ts) : Names (xs.reverse ++ ts.filter fun l => !decide (l ∈ xs)) := by
  refine ⟨fun l hl => ?_, ?_⟩
  · rcases List.mem_append.mp hl with h | h
    · exact hx.1 l (List.mem_reverse.mp h)
    · exact ht.1 l (List.mem_filter.mp h).1
  · rw [List.nodup_append]
    refine ⟨(List.reverse_perm xs).nodup_iff.mpr hx.2, ht.2.sublist List.filter_sublist, fun a ha b hb e => ?_⟩
    have h1 := List.mem_reverse.mp ha
    have h2 := (List.mem_filter.mp hb).2
    rw [← e, decide_eq_true h1] at h2
    cases h2
theorem given_filter (ts : List (List Nat)) (c : List Nat → Bool) : ∀ n, n ≤ ts.length → given n (fun i => c (ts.getD i [])) (fun i => V.str (tx (ts.getD i []))) = vtx ((ts.take n).filter c)
  | 0, _ => by rw [List.take_zero]; rfl
  | n + 1, h => by
    have hn : n < ts.length := by omega
    have e : ts.getD n [] = ts[n] := by rw [List.getD_eq_getElem?_getD, List.getElem?_eq_getElem hn]; rfl
    have t : ts.take (n + 1) = ts.take n ++ [ts[n]] := by rw [List.take_succ, List.getElem?_eq_getElem hn]; rfl
    have ih := given_filter ts c n (by omega)
    rw [t, List.filter_append, vtx_app]
    cases hc : c ts[n] with
    | true =>
      rw [given_yes (f := fun i => c (ts.getD i [])) (by show c (ts.getD n []) = true; rw [e]; exact hc), ih, List.filter_cons_of_pos hc, List.filter_nil, e]
      rfl
    | false =>
      rw [given_no (f := fun i => c (ts.getD i [])) (by show c (ts.getD n []) = false; rw [e]; exact hc), ih, List.filter_cons_of_neg (by rw [hc]; decide), List.filter_nil]
      show _ = _ ++ []
      rw [List.append_nil]
theorem lay_dtx : ∀ a : List (List Nat), (∀ l ∈ a, nam l) → PyData.canLayAll0 (Vr.dtx a) = true
  | [], _ => rfl
  | x :: r, h => by
    have hr := lay_dtx r fun l hl => h l (List.mem_cons_of_mem _ hl)
    have hx : PyData.canLay0 (PyData.str (tx x)) = true := by
      show PyData.strOk (tx x) = true
      unfold PyData.strOk
      rw [← Array.all_toList, tx_list, List.all_eq_true]
      intro c hc
      have hs : c ∈ Vp.signs := nam_signs (h x List.mem_cons_self) c hc
      have all : ∀ c ∈ Vp.signs, c < 128 := by decide +kernel
      have := all c hs
      refine decide_eq_true ?_
      omega
    show (PyData.canLay0 (PyData.str (tx x)) && PyData.canLayAll0 (Vr.dtx r)) = true
    rw [hx, hr]
    rfl
theorem sh_wl {a : List (List Nat)} (h : ∀ l ∈ a, nam l) : SeqAt.shaped (.list (Vr.dtx a)) = true := shaped_of (lay_dtx a h) (by
  show PyData.depthAll (Vr.dtx a) + 1 ≤ 64
  rw [Vr.dep_dtx]
  omega)
theorem ne_nil (a : List (List Nat)) : (!PyData.eqv (.list (Vr.dtx a)) (.list [])) = !a.isEmpty := by cases a <;> rfl
theorem if_t {c A B : Prop} [Decidable c] (h : c) (a : A) : if c then A else B := by
  rw [if_pos h]
  exact a
theorem if_f {c A B : Prop} [Decidable c] (h : ¬ c) (b : B) : if c then A else B := by
  rw [if_neg h]
  exact b
theorem rows_mono {H H' : Hp} {rs : List Row} (e : Ex H H') (h : ∀ r ∈ rs, RowAt H r) : ∀ r ∈ rs, RowAt H' r := fun r hr => e _ _ (h r hr)
theorem rows_upd {H : Hp} {rs : List Row} {f : Addr} {xs : List V} {o : HO} (h : ∀ r ∈ rs, RowAt H r) (hf : H f = some (.lst xs)) : ∀ r ∈ rs, RowAt (upd H f o) r := fun r hr => by
  show upd H f o r.1 = _
  rw [upd_ne (fun z => by have := h r hr; unfold RowAt at this; rw [z, hf] at this; cases this)]
  exact h r hr
theorem rows_wo {B H : Hp} {p : Addr} {n : Nat} {rs : List Row} (P : Pl B p n H) (h : ∀ r ∈ rs, RowAt H r) : ∀ r ∈ rs, RowAt (Wo H p) r := fun r hr => wo_at (h r hr) (fun z => by
  obtain ⟨a, b, c, w1, _⟩ := P.at_
  have := h r hr
  unfold RowAt at this
  rw [z, w1] at this
  cases this)
section
variable {P : Program} {w : World} {K : PySem.W.Frag} {mg : Str → Option Value} {base : Heap}
theorem scNt : FnScope nNt ["_law_pool_here", "_law_most", "_law_lanes"] (defScope sNet) := ⟨rfl, rfl, rfl, by decide +kernel, rfl, by decide +kernel, by decide +kernel⟩
theorem ok_net {f fT fNm fMy fMx : Addr} {fd fdT fdNm fdMy fdMx : FuncData} (F : FnP K "_law_net" sNet f fd) (FT : FnP K "_law_take" sTake fT fdT) (FNm : FnP K "_law_names" sNames fNm fdNm) (FMy : FnP K "_law_many" sMany fMy fdMy) (FMx : FnP K "_law_mixed" sMixed fMx fdMx)
    (gT : mg "_law_take" = some (.ref fT)) (gNm : mg "_law_names" = some (.ref fNm)) (gMy : mg "_law_many" = some (.ref fMy)) (gMx : mg "_law_mixed" = some (.ref fMx)) (mI : mg "int" = none) (mL : mg "len" = none) (mR : mg "range" = none) (mLi : mg "list" = none) (mM : mg "min" = none) :
    FnOk P w K mg base CX0 3 f fd ["_law_pool_here", "_law_most", "_law_lanes"] spNet := by
  have GT : FnOk P w K mg base CX0 1 fT fdT ["_law_pool_here", "_law_many_here"] spTake := ok_take FT mI
  have GNm : FnOk P w K mg base CX0 2 fNm fdNm ["_law_pool_here", "_law_many_here"] spNames := ok_names FNm FT gT mI mL mR
  have GMy : FnOk P w K mg base CX0 2 fMy fdMy ["_law_pool_here", "_law_many_here"] spMany := ok_many FMy FT gT mI mL mR
  have GMx : FnOk P w K mg base CX0 2 fMx fdMx ["_law_pool_here", "_law_things"] spMixed := ok_mixed FMx FT gT mI mL mR mLi
  have bT : Binds K fdT ["_law_pool_here", "_law_many_here"] [] := FT.bindsN fun _ _ _ _ _ _ us hl => match us, hl with | [_, _], _ => rfl
  have bNm : Binds K fdNm ["_law_pool_here", "_law_many_here"] [] := FNm.bindsN fun _ _ _ _ _ _ us hl => match us, hl with | [_, _], _ => rfl
  have bMy : Binds K fdMy ["_law_pool_here", "_law_many_here"] [] := FMy.bindsN fun _ _ _ _ _ _ us hl => match us, hl with | [_, _], _ => rfl
  have bMx : Binds K fdMx ["_law_pool_here", "_law_things"] [] := FMx.bindsN fun _ _ _ _ _ _ us hl => match us, hl with | [_, _], _ => rfl
  have kT := FT.kp
  have kNm := FNm.kp
  have kMy := FMy.kp
  have kMx := FMx.kp
  refine F.ok (CX := CX0) scNt (fun vs H Q E h => ?_) (fun cdv A outer s H vs Q E hr h => ?_)
  · obtain ⟨p, a, b, Hk, n, rfl, _⟩ := h
    rfl
  · have hr2 : Room 2 _ := hr
    have hr1 : Room 1 _ := hr.mono (by omega)
    refine ⟨_, (pss_cons (ps_set (i := 3) scNt.nd rfl (by first | exact Or.inl rfl | exact Or.inr rfl) (pe_call GNm hr2 (by rfl) gNm kNm bNm .nil pass0 (pa_cons (pv 0) (pa_cons pe_int pa_nil))))
      (pss_cons (ps_set (i := 4) scNt.nd rfl (by first | exact Or.inl rfl | exact Or.inr rfl) (pe_slice sl_list (pv 3) po_none (po_some (pe_call GT hr1 (by rfl) gT kT bT .nil pass0 (pa_cons (pv 0) (pa_cons (pe_op op_add (pv 1) pe_int) pa_nil))))))
      (pss_cons (ps_set (i := 5) scNt.nd rfl (by first | exact Or.inl rfl | exact Or.inr rfl) (pe_call GMy hr2 (by rfl) gMy kMy bMy .nil pass0 (pa_cons (pv 0) (pa_cons (pv 2) pa_nil))))
      (pss_cut (ps_if (pt_cmpR op_eq (pe_call GT hr1 (by rfl) gT kT bT .nil pass0 (pa_cons (pv 0) (pa_cons pe_int pa_nil))) pe_int (nomark _)) (pss_one (ps_set (i := 5) scNt.nd rfl (by first | exact Or.inl rfl | exact Or.inr rfl) (pe_slice sl_list (pe_op op_cat (pe_revL (pv 3)) (pe_lc (own := [("_law_name", 6)]) (g := gName 6) (tt := tTest (tOp (rIn K true) (tVar 6) (tVar 3))) (te := tVar 6) rfl scNt.nd (pi_list (pv 5)) (blkOk_by (own := [("_law_name", 6)]) (N := nNt) (sc := defScope sNet) (by decide +kernel)) (fun _ _ _ _ _ => (pg_name (i := 6) scNt.nd rfl (by first | exact Or.inl rfl | exact Or.inr rfl))) (fun _ _ _ _ _ => pts_one (pt_cmpR op_notIn_seq (pv 6) (pv 3) rfl)) (fun _ _ _ _ _ => pv 6))) po_none (po_some (pv 2))))) pss_nil)
      (pss_cons (ps_set (i := 7) scNt.nd rfl (by first | exact Or.inl rfl | exact Or.inr rfl) (pe_lst pa_nil))
      (pss_cut (ps_if (PW.pt (pw_and (pt_cmpR (op_neD hr.units) (pv 4) (pe_lst pa_nil) (nomark _)) (pw_and1 (pt_cmpR op_eq (pe_call GT hr1 (by rfl) gT kT bT .nil pass0 (pa_cons (pv 0) (pa_cons pe_int pa_nil))) pe_int (nomark _))))) (pss_one (ps_for (passes_of rfl) rfl (pi_range1 (by rfl) mR (pa_cons (pe_callB (call_min2 rfl) (by rfl) mM boot_min (pa_cons (pv 2) (pa_cons (pe_callB call_len (by rfl) mL boot_len (pa_cons (pv 4) pa_nil)) pa_nil))) pa_nil)) (pg_name (i := 8) scNt.nd rfl (by first | exact Or.inl rfl | exact Or.inr rfl)) (pss_one (ps_expr (pe_bm PySem.F.plainAttrs_list PySem.F.slot_list_append PySem.F.type_list_append mt_append (pv 7) (pa_cons (pe_tup (pa_cons (pe_ix ix_list (pv 5) (pv 8) fun _ _ => rfl) (pa_cons (pe_ix ix_list (pv 4) (pv 8) fun _ _ => rfl) (pa_cons (pe_ix ix_list (pv 4) (pe_op op_mod (pe_op op_add (pv 8) pe_int) (pe_callB call_len (by rfl) mL boot_len (pa_cons (pv 4) pa_nil))) fun _ _ => rfl) pa_nil)))) pa_nil)))))) pss_nil)
      (pss_cut (ps_for (passes_of rfl) rfl (pi_list (pe_slice sl_list (pv 5) (po_some (pe_callB call_len (by rfl) mL boot_len (pa_cons (pv 7) pa_nil))) po_none)) (pg_name (i := 6) scNt.nd rfl (by first | exact Or.inl rfl | exact Or.inr rfl)) (pss_one (ps_if (PW.pt (pw_and (pt_cmpR (op_neD hr.units) (pv 4) (pe_lst pa_nil) (nomark _)) (pw_and1 (pt_cmpR op_gt (pe_call GT hr1 (by rfl) gT kT bT .nil pass0 (pa_cons (pv 0) (pa_cons pe_int pa_nil))) pe_int (nomark _))))) (pss_cons (ps_set (i := 9) scNt.nd rfl (by first | exact Or.inl rfl | exact Or.inr rfl) (pe_ix ix_list (pv 4) (pe_call GT hr1 (by rfl) gT kT bT .nil pass0 (pa_cons (pv 0) (pa_cons (pe_callB call_len (by rfl) mL boot_len (pa_cons (pv 4) pa_nil)) pa_nil))) fun _ _ => rfl)) (pss_one (ps_expr (pe_bm PySem.F.plainAttrs_list PySem.F.slot_list_append PySem.F.type_list_append mt_append (pv 7) (pa_cons (pe_tup (pa_cons (pv 6) (pa_cons (pv 9) (pa_cons (pe_ix ix_list (pv 4) (pe_call GT hr1 (by rfl) gT kT bT .nil pass0 (pa_cons (pv 0) (pa_cons (pe_callB call_len (by rfl) mL boot_len (pa_cons (pv 4) pa_nil)) pa_nil))) fun _ _ => rfl) pa_nil)))) pa_nil))))) pss_nil)))
      (pss_one (ps_ret (pe_lst (pa_cons (pv 4) (pa_cons (pe_call GMx hr2 (by rfl) gMx kMx bMx .nil pass0 (pa_cons (pv 0) (pa_cons (pv 7) pa_nil))) pa_nil)))))))))))), ?_⟩
    obtain ⟨p, most, lanes, Hk, n, rfl, hm, hla, hp0, hn, q⟩ := h
    have hp := hp0.re
    refine s_seq ?_
    refine ⟨_, rfl, p, 8, Wo H p, n, rfl, by omega, hp, by omega, fun nq xs H1 nn hP1 hq1 hx1 hN => ?_⟩
    have nqp : nq ≠ p := hp.ne nn
    dsimp only
    refine s_seq ?_
    refine ⟨_, rfl, _, rfl, _, rfl, (most : Int), 1, rfl, rfl, p, (most : Int) + 1, Wo H1 p, _, rfl, by omega, by omega, hP1.re, by omega, fun r H2 r0 r1 hP2 => ?_⟩
    obtain ⟨z, rfl⟩ := Int.eq_ofNat_of_zero_le r0
    have hq2 : H2 nq = some (.lst (vtx xs)) := hP2.ex _ _ (wo_at hq1 nqp)
    refine ⟨(z : Int), rfl, nq, vtx xs, rfl, sq_of hq2, fun a na => ?_⟩
    rw [cutV0, vtx_take]
    have ap : a ≠ p := hP2.ne na
    have hP3 : Pl (Wo H1 p) p (n + 51) (upd H2 a (.lst (vtx (xs.take z)))) := hP2.new na
    have ha3 : (upd H2 a (.lst (vtx (xs.take z)))) a = some (.lst (vtx (xs.take z))) := upd_same
    have hq3 : (upd H2 a (.lst (vtx (xs.take z)))) nq = some (.lst (vtx xs)) := (Ex.new na) _ _ hq2
    have hps : Names (xs.take z) := names_take hN z
    have hpl : (xs.take z).length ≤ most := by rw [List.length_take]; omega
    have hp8 : (xs.take z).length ≤ 8 := by omega
    have Bk : Ex (Wo H p) (Wo (upd H2 a (.lst (vtx (xs.take z)))) p) := hP1.wo.trans hP3.wo
    have P3 := hP3.re
    have hBa : (Wo (upd H2 a (.lst (vtx (xs.take z)))) p) a = some (.lst (vtx (xs.take z))) := wo_at ha3 ap
    have hBq : (Wo (upd H2 a (.lst (vtx (xs.take z)))) p) nq = some (.lst (vtx xs)) := wo_at hq3 nqp
    generalize Wo (upd H2 a (.lst (vtx (xs.take z)))) p = B at Bk P3 hBa hBq
    generalize upd H2 a (.lst (vtx (xs.take z))) = H3 at P3
    clear hP3 ha3 hq3 hP1 hP2 hq2
    have fin : ∀ {m : Nat} {HE : Hp}, Pl B p m HE → Pl (Wo H p) p m HE := fun P => P.sub Bk (wo_self _ _)
    generalize xs.take z = ps at hBa hps hpl hp8
    dsimp only
    refine s_seq ?_
    refine ⟨_, rfl, _, rfl, p, lanes, B, _, rfl, by omega, P3, by omega, fun t ts H4 nt hP4 ht4 hlt hNt => ?_⟩
    have tp : t ≠ p := P3.ne nt
    dsimp only
    refine ⟨fun st' H' => ∃ t ts n6, st' = [some (.ref p), some (.int (most : Int)), some (.int (lanes : Int)), some (.ref nq), some (.ref a), some (.ref t), n6, none, none, none] ∧ H' t = some (.lst (vtx ts)) ∧ t ≠ p ∧ Names ts ∧ ts.length ≤ lanes ∧ min lanes 8 ≤ ts.length ∧ Pl B p (n + 102) H', ?_, ?_⟩
    · refine ⟨_, rfl, p, 3, Wo H4 p, _, rfl, by omega, by omega, hP4.re, by omega, fun r H5 r0 r1 hP5 => ?_⟩
      have P5 := hP4.back hP5
      have ht5 : H5 t = some (.lst (vtx ts)) := hP5.ex _ _ (wo_at ht4 tp)
      refine ⟨rfl, _, rfl, ?_⟩
      refine ite2 (fun _ => ?_) (fun _ => ?_)
      · refine ⟨_, rfl, nq, vtx xs, rfl, sq_of (P5.ex _ _ hBq), fun r6 n6 => ?_⟩
        have P6 := P5.new n6 (o := .lst (vtx xs).reverse)
        have e6 : Ex H5 (upd H5 r6 (.lst (vtx xs).reverse)) := Ex.new n6
        have key := el_lcL (K := K) (σ := [some (.ref p), some (.int (most : Int)), some (.int (lanes : Int)), some (.ref nq), some (.ref a), some (.ref t), none, none, none, none]) (H := upd H5 r6 (.lst (vtx xs).reverse)) (a := t) (xs := vtx ts) (tl := tVar 5) (j := 6) (vs := [6]) (t := tTest (tOp (rIn K true) (tVar 6) (tVar 3))) (te := tVar 6)
          (fun i => !decide (ts.getD i [] ∈ xs)) (fun i => V.str (tx (ts.getD i []))) (ev_var rfl) (sq_of (e6 _ _ ht5)) (by rw [vtx_len]; omega) (fun _ => rfl) (fun i x H7 e7 hx => ?_) (fun i x H7 e7 hx _ => ?_)
        · rw [vtx_len, given_filter ts (fun l => !decide (l ∈ xs)) ts.length (Nat.le_refl _), List.take_length] at key
          refine key _ (Ex.refl _) _ fun r8 H8 n8 e8 h8 => ?_
          refine ⟨r6, r8, (vtx xs).reverse, _, rfl, rfl, e8 _ _ upd_same, h8, sz_of (by
            have := List.length_filter_le (fun l => !decide (l ∈ xs)) ts
            rw [List.length_reverse, vtx_len, vtx_len]
            omega), fun r9 n9 => ?_⟩
          refine ⟨_, rfl, (lanes : Int), rfl, r9, _, rfl, sq_of upd_same, fun r10 n10 => ?_⟩
          rw [cutV0]
          have e10 : ((vtx xs).reverse ++ vtx (ts.filter fun l => !decide (l ∈ xs))).take lanes = vtx ((xs.reverse ++ ts.filter fun l => !decide (l ∈ xs)).take lanes) := by
            rw [show (vtx xs).reverse = vtx xs.reverse from List.map_reverse.symm, ← vtx_app, vtx_take]
          rw [e10]
          have P9 := ((P6.grow e8).new n9 (o := .lst ((vtx xs).reverse ++ vtx (ts.filter fun l => !decide (l ∈ xs)))))
          refine ⟨r10, _, none, rfl, upd_same, P9.ne n10, names_take (names_mix hN hNt) lanes, by rw [List.length_take]; omega, ?_, (P9.new n10).cnt (by omega)⟩
          rw [List.length_take, List.length_append, List.length_reverse]
          omega
        · unfold vtx at hx
          rw [List.getElem?_map] at hx
          obtain ⟨l, hl, rfl⟩ := Option.map_eq_some_iff.mp hx
          have el : ts.getD i [] = l := by rw [List.getD_eq_getElem?_getD, hl]; rfl
          have := et_test (ev_op (σ := (wipe [some (.ref p), some (.int (most : Int)), some (.int (lanes : Int)), some (.ref nq), some (.ref a), some (.ref t), none, none, none, none] [6]).set 6 (some (.str (tx l)))) (H := H7) (ta := tVar 6) (tb := tVar 3) (ev_var rfl) (ev_var rfl) (rv_inL (K := K) (neg := true) (sq_of (e7 _ _ (P6.ex _ _ hBq))) rfl (flat_vtx xs)))
          rw [if_pos rfl, inV_vtx] at this
          show EvT _ _ _ (!decide (ts.getD i [] ∈ xs))
          rw [el]
          exact this
        · unfold vtx at hx
          rw [List.getElem?_map] at hx
          obtain ⟨l, hl, rfl⟩ := Option.map_eq_some_iff.mp hx
          have el : ts.getD i [] = l := by rw [List.getD_eq_getElem?_getD, hl]; rfl
          show Ev _ _ _ (V.str (tx (ts.getD i [])))
          rw [el]
          exact ev_var rfl
      · exact ⟨t, ts, none, rfl, ht5, tp, hNt, by omega, by omega, P5.cnt (by omega)⟩
    rintro _ H6 ⟨t, ts, n6, rfl, ht6, tp, hNt, hlt, hmin, P6⟩
    -- found = []
    refine s_seq ?_
    refine ⟨by show 0 ≤ sizeLine; omega, fun fd nfd => ?_⟩
    have fdB : B fd = none := fresh_back P6.ex nfd
    have fdp : fd ≠ p := P6.ne nfd
    have tfd : t ≠ fd := fun z => by rw [← z, ht6] at nfd; cases nfd
    have P7 := P6.new nfd (o := .lst [])
    have ht7 : (upd H6 fd (.lst [])) t = some (.lst (vtx ts)) := (upd_ne tfd).trans ht6
    have hf7 : (upd H6 fd (.lst [])) fd = some (.lst (([] : List Row).map fun r => V.ref r.1)) := upd_same
    generalize upd H6 fd (.lst []) = H7 at P7 ht7 hf7
    dsimp only
    refine ⟨fun st' H' => ∃ (rs : List Row) (n6 n8 : Option V), st' = [some (.ref p), some (.int (most : Int)), some (.int (lanes : Int)), some (.ref nq), some (.ref a), some (.ref t), n6, some (.ref fd), n8, none] ∧ H' t = some (.lst (vtx ts)) ∧ H' fd = some (.lst (rs.map fun r => V.ref r.1)) ∧ (∀ r ∈ rs, RowAt H' r) ∧ rs.map (fun r => r.2.1) = ts.take rs.length ∧ (∀ r ∈ rs, r.2.2.1 ∈ ps ∧ r.2.2.2 ∈ ps) ∧ rs.length ≤ ts.length ∧ Pl B p (n + 103) H', ?_, ?_⟩
    · refine ⟨_, rfl, by show 0 ≤ sizeLine; omega, fun e0 ne0 => ?_⟩
      have P8 := P7.new ne0 (o := .lst [])
      have e8 : Ex H7 (upd H7 e0 (.lst [])) := Ex.new ne0
      refine ⟨.list (Vr.dtx ps), .list [], .lst (sq_of (P8.ex _ _ hBa)) (Vr.dpa_vtx ps), .lst (sq_of upd_same) .nil, sh_wl hps.1, by decide +kernel, _, rfl, ?_⟩
      rw [ne_nil]
      cases hem : ps.isEmpty with
      | true =>
        refine if_f (by decide) ?_
        refine if_f Bool.false_ne_true ?_
        exact ⟨[], n6, none, rfl, e8 _ _ ht7, e8 _ _ hf7, (fun r h => nomatch h), rfl, (fun r h => nomatch h), Nat.zero_le _, P8.cnt (by omega)⟩
      | false =>
        have hp1 : 1 ≤ ps.length := by
          cases ps with
          | nil => cases hem
          | cons x r => rw [List.length_cons]; omega
        refine if_t rfl ?_
        have fde : fd ≠ e0 := fun z => by rw [← z, hf7] at ne0; cases ne0
        have te : t ≠ e0 := fun z => by rw [← z, ht7] at ne0; cases ne0
        refine ⟨_, rfl, p, 2, Wo _ p, _, rfl, by omega, by omega, P8.re, by omega, fun r H9 r0 r1 hP9 => ?_⟩
        have P9 := P8.back hP9
        have ht9 : H9 t = some (.lst (vtx ts)) := hP9.ex _ _ (wo_at (e8 _ _ ht7) tp)
        have hf9 := hP9.ex _ _ (wo_at (e8 _ _ hf7) fdp)
        refine ⟨rfl, _, rfl, ?_⟩
        refine ite2 (fun _ => ?_) (fun _ => ?_)
        · refine s_forR1 (n := ((min lanes ps.length : Nat) : Int)) (ea_cons (ev_is (ev_cb (z := .int (if (ps.length : Int) < (lanes : Int) then (ps.length : Int) else (lanes : Int))) (ea_cons (ev_var rfl) (ea_cons (ev_cb (z := .int (ps.length : Nat)) (ea_cons (ev_var rfl) ea_nil) (fun H1 e1 Q q => ⟨_, ps.length, rfl, .inl ⟨vtx ps, sq_of (e1 _ _ (P9.ex _ _ hBa)), (vtx_len ps).symm⟩, q H1 (Ex.refl H1)⟩)) ea_nil)) (fun H1 e1 Q q => ⟨_, _, rfl, q H1 (Ex.refl H1)⟩)) (congrArg V.int (by split <;> omega))) ea_nil) (by omega)
            (fun i st' H' => ∃ (rs : List Row) (n8 : Option V), st' = [some (.ref p), some (.int (most : Int)), some (.int (lanes : Int)), some (.ref nq), some (.ref a), some (.ref t), n6, some (.ref fd), n8, none] ∧ H' t = some (.lst (vtx ts)) ∧ H' fd = some (.lst (rs.map fun r => V.ref r.1)) ∧ (∀ r ∈ rs, RowAt H' r) ∧ rs.map (fun r => r.2.1) = ts.take i ∧ (∀ r ∈ rs, r.2.2.1 ∈ ps ∧ r.2.2.2 ∈ ps) ∧ rs.length = i ∧ Pl B p (n + 103) H')
            (fun H1 e1 => ⟨[], none, rfl, e1 _ _ ht9, e1 _ _ hf9, (fun r h => nomatch h), rfl, (fun r h => nomatch h), rfl, (P9.grow e1).cnt (by omega)⟩) ?_ ?_
          · rintro i _ HA hi ⟨rs, n8, rfl, htA, hfA, hrA, hnm, hin, hlen, PA⟩
            have hi1 : i < ts.length := by omega
            have hi2 : i < ps.length := by omega
            have hi3 : (i + 1) % ps.length < ps.length := Nat.mod_lt _ (by omega)
            refine ⟨_, rfl, Or.inl ⟨rfl, _, sq_of hfA⟩, ?_⟩
            refine ⟨_, rfl, _, rfl, t, vtx ts, _, _, rfl, rfl, sq_of htA, at_of rfl (vtx_at (List.getElem?_eq_getElem hi1)), ?_⟩
            refine ⟨_, rfl, _, rfl, a, vtx ps, _, _, rfl, rfl, sq_of (PA.ex _ _ hBa), at_of rfl (vtx_at (List.getElem?_eq_getElem hi2)), ?_⟩
            refine ⟨_, rfl, _, rfl, (i : Int), 1, rfl, rfl, _, rfl, .ref a, ps.length, rfl, .inl ⟨vtx ps, sq_of (PA.ex _ _ hBa), (vtx_len ps).symm⟩, _, (ps.length : Int), rfl, rfl, by omega, a, vtx ps, _, _, rfl, rfl, sq_of (PA.ex _ _ hBa), at_of (j := (i + 1) % ps.length) (by rw [Int.natCast_emod, Int.natCast_add]; rfl) (vtx_at (List.getElem?_eq_getElem hi3)), ?_⟩
            refine ⟨by show 3 ≤ sizeLine; decide, fun tt ntt => ?_⟩
            have eT := Ex.new (H := HA) (o := .tup [.str (tx ts[i]), .str (tx ps[i]), .str (tx ps[(i + 1) % ps.length])]) ntt
            have PT := PA.new ntt (o := .tup [.str (tx ts[i]), .str (tx ps[i]), .str (tx ps[(i + 1) % ps.length])])
            have htt := (upd_same (H := HA) (a := tt) (o := .tup [.str (tx ts[i]), .str (tx ps[i]), .str (tx ps[(i + 1) % ps.length])]))
            refine ⟨fd, _, _, rfl, rfl, eT _ _ hfA, sz_lt (by rw [List.length_map]; omega), ?_⟩
            have ftt : tt ≠ fd := fun z => by rw [z, hfA] at ntt; cases ntt
            refine ⟨rs ++ [(tt, (ts[i], ps[i], ps[(i + 1) % ps.length]))], some (.int (i : Int)), rfl, (upd_ne tfd).trans (eT _ _ htA), ?_, ?_, ?_, ?_, ?_, ?_⟩
            · rw [upd_same, List.map_append]
              rfl
            · intro r hr
              rcases List.mem_append.mp hr with hr | hr
              · exact rows_upd (rows_mono eT hrA) (eT _ _ hfA) r hr
              · rw [List.mem_singleton.mp hr]
                exact (upd_ne ftt).trans htt
            · rw [List.map_append, hnm, List.take_succ, List.getElem?_eq_getElem hi1]
              rfl
            · intro r hr
              rcases List.mem_append.mp hr with hr | hr
              · exact hin r hr
              · rw [List.mem_singleton.mp hr]
                exact ⟨List.getElem_mem hi2, List.getElem_mem hi3⟩
            · rw [List.length_append, List.length_singleton, hlen]
            · refine ⟨PT.no, Ex.mut PT.ex fdB, ?_⟩
              obtain ⟨a', b', c', w1, w2⟩ := PT.at_
              exact ⟨a', b', c', by rw [upd_ne fdp.symm]; exact w1, w2⟩
          · rintro _ HA ⟨rs, n8, rfl, htA, hfA, hrA, hnm, hin, hlen, PA⟩
            have e1 : (((min lanes ps.length : Nat) : Int)).toNat = min lanes ps.length := by omega
            rw [e1] at hlen hnm
            exact ⟨rs, n6, n8, rfl, htA, hfA, hrA, by rw [hnm, hlen], hin, by omega, PA⟩
        · exact ⟨[], n6, none, rfl, ht9, hf9, (fun r h => nomatch h), rfl, (fun r h => nomatch h), Nat.zero_le _, P9.cnt (by omega)⟩
    rintro _ H8 ⟨rs, n6', n8, rfl, ht8, hf8, hr8, hnm8, hin8, hlen8, P8⟩
    have k0 : rs.length ≤ ts.length := hlen8
    generalize hk0 : rs.length = k at k0
    refine ⟨fun st' H' => ∃ (rs : List Row) (n6 n8 n9 : Option V), st' = [some (.ref p), some (.int (most : Int)), some (.int (lanes : Int)), some (.ref nq), some (.ref a), some (.ref t), n6, some (.ref fd), n8, n9] ∧ H' fd = some (.lst (rs.map fun r => V.ref r.1)) ∧ (∀ r ∈ rs, RowAt H' r) ∧ (rs.map fun r => r.2.1).Sublist ts ∧ (∀ r ∈ rs, r.2.2.1 ∈ ps ∧ r.2.2.2 ∈ ps) ∧ Pl B p (n + 300) H', ?_, ?_⟩
    · refine ⟨_, rfl, _, rfl, .ref fd, rs.length, rfl, .inl ⟨_, sq_of hf8, (List.length_map _).symm⟩, (rs.length : Int), rfl, t, vtx ts, rfl, sq_of ht8, fun r nr => ?_⟩
      rw [cutV1, vtx_drop, hk0]
      have rp : r ≠ p := P8.ne nr
      have rf : r ≠ fd := fun z => by rw [z, hf8] at nr; cases nr
      have e9 := Ex.new (o := .lst (vtx (ts.drop k))) nr
      have keep : ∀ {m m' : Nat} {HX HY : Hp} {R F : HO} {rs : List Row}, Pl B p m HX → Pl (Wo HX p) p m' HY → HX r = some R → HX fd = some F → (∀ r ∈ rs, RowAt HX r) → Pl B p m' HY ∧ HY r = some R ∧ HY fd = some F ∧ ∀ r ∈ rs, RowAt HY r :=
        fun P P' h1 h2 h3 => ⟨P.back P', P'.ex _ _ (wo_at h1 rp), P'.ex _ _ (wo_at h2 fdp), rows_mono P'.ex (rows_wo P h3)⟩
      refine ⟨r, rfl, ⟨_, sq_of upd_same⟩, for_list (xs := vtx (ts.drop k)) (fun i st' H' => ∃ (rs : List Row) (n6 n8 n9 : Option V), st' = [some (.ref p), some (.int (most : Int)), some (.int (lanes : Int)), some (.ref nq), some (.ref a), some (.ref t), n6, some (.ref fd), n8, n9] ∧ H' r = some (.lst (vtx (ts.drop k))) ∧ H' fd = some (.lst (rs.map fun r => V.ref r.1)) ∧ (∀ r ∈ rs, RowAt H' r) ∧ (rs.map fun r => r.2.1).Sublist (ts.take (k + i)) ∧ (∀ r ∈ rs, r.2.2.1 ∈ ps ∧ r.2.2.2 ∈ ps) ∧ Pl B p (n + 103 + 3 * i) H')
        ⟨rs, n6', n8, none, rfl, upd_same, e9 _ _ hf8, rows_mono e9 hr8, by rw [hnm8, hk0]; exact List.Sublist.refl _, hin8, P8.new nr⟩ (fun i st' H' _ ⟨_, _, _, _, _, z, _⟩ => sq_of z) ?_ ?_⟩
      · rintro i x _ HA hx ⟨rs, n6, n8, n9, rfl, hrA, hfA, hwA, hsub, hin, PA⟩
        have hx2 : ∃ l, ts[k + i]? = some l ∧ x = V.str (tx l) := by
          unfold vtx at hx
          rw [List.getElem?_map, List.getElem?_drop] at hx
          obtain ⟨l, hl, e⟩ := Option.map_eq_some_iff.mp hx
          exact ⟨l, hl, e.symm⟩
        obtain ⟨l, hl, rfl⟩ := hx2
        have hki := (List.getElem?_eq_some_iff.mp hl).1
        have tk : ts.take (k + (i + 1)) = ts.take (k + i) ++ [l] := by
          rw [show k + (i + 1) = k + i + 1 by omega, List.take_succ, hl]
          rfl
        have sub1 : (rs.map fun r => r.2.1).Sublist (ts.take (k + (i + 1))) := by
          rw [tk]
          exact hsub.trans (List.sublist_append_left _ _)
        refine ⟨_, rfl, by show 0 ≤ sizeLine; omega, fun e0 ne0 => ?_⟩
        have eB := Ex.new (o := .lst []) ne0
        have PB := PA.new ne0 (o := .lst [])
        refine ⟨.list (Vr.dtx ps), .list [], .lst (sq_of (PB.ex _ _ hBa)) (Vr.dpa_vtx ps), .lst (sq_of upd_same) .nil, sh_wl hps.1, by decide +kernel, _, rfl, ?_⟩
        rw [ne_nil]
        cases hem : ps.isEmpty with
        | true =>
          refine if_f (by decide) ?_
          refine if_f Bool.false_ne_true ?_
          exact ⟨rs, _, n8, n9, rfl, eB _ _ hrA, eB _ _ hfA, rows_mono eB hwA, sub1, hin, PB.cnt (by omega)⟩
        | false =>
          have hp1 : 1 ≤ ps.length := by
            cases ps with
            | nil => cases hem
            | cons x r => rw [List.length_cons]; omega
          refine if_t rfl ?_
          have hrB := eB _ _ hrA
          have hfB := eB _ _ hfA
          have hwB := rows_mono eB hwA
          generalize upd HA e0 (.lst []) = HB at eB PB hrB hfB hwB
          refine ⟨_, rfl, p, 4, Wo HB p, _, rfl, by omega, by omega, PB.re, by omega, fun r1 HC r10 r11 hPC => ?_⟩
          obtain ⟨PC, hrC, hfC, hwC⟩ := keep PB hPC hrB hfB hwB
          refine ⟨r1, 0, rfl, rfl, _, rfl, ?_⟩
          refine ite2 (fun _ => ?_) (fun _ => ?_)
          · refine ⟨_, rfl, _, rfl, _, rfl, .ref a, ps.length, rfl, .inl ⟨vtx ps, sq_of (PC.ex _ _ hBa), (vtx_len ps).symm⟩, p, (ps.length : Int), Wo HC p, _, rfl, by omega, by omega, PC.re, by omega, fun r2 HD r20 r21 hPD => ?_⟩
            obtain ⟨PD, hrD, hfD, hwD⟩ := keep PC hPD hrC hfC hwC
            obtain ⟨k2, rfl⟩ := Int.eq_ofNat_of_zero_le r20
            have h2 : k2 < ps.length := by omega
            refine ⟨a, vtx ps, _, _, rfl, rfl, sq_of (PD.ex _ _ hBa), at_of rfl (vtx_at (List.getElem?_eq_getElem h2)), ?_⟩
            dsimp only
            refine ⟨_, rfl, Or.inl ⟨rfl, _, sq_of hfD⟩, ?_⟩
            refine ⟨_, rfl, _, rfl, _, rfl, _, rfl, _, rfl, .ref a, ps.length, rfl, .inl ⟨vtx ps, sq_of (PD.ex _ _ hBa), (vtx_len ps).symm⟩, p, (ps.length : Int), Wo HD p, _, rfl, by omega, by omega, PD.re, by omega, fun r3 HE r30 r31 hPE => ?_⟩
            obtain ⟨PE, hrE, hfE, hwE⟩ := keep PD hPE hrD hfD hwD
            obtain ⟨k3, rfl⟩ := Int.eq_ofNat_of_zero_le r30
            have h3 : k3 < ps.length := by omega
            refine ⟨a, vtx ps, _, _, rfl, rfl, sq_of (PE.ex _ _ hBa), at_of rfl (vtx_at (List.getElem?_eq_getElem h3)), ?_⟩
            refine ⟨by show 3 ≤ sizeLine; decide, fun tt ntt => ?_⟩
            have eT := Ex.new (H := HE) (o := .tup [.str (tx l), .str (tx ps[k2]), .str (tx ps[k3])]) ntt
            have PT := PE.new ntt (o := .tup [.str (tx l), .str (tx ps[k2]), .str (tx ps[k3])])
            have htt := (upd_same (H := HE) (a := tt) (o := .tup [.str (tx l), .str (tx ps[k2]), .str (tx ps[k3])]))
            have hlen : rs.length ≤ 26 := by
              have := hsub.length_le
              rw [List.length_map, List.length_take] at this
              omega
            refine ⟨fd, _, _, rfl, rfl, eT _ _ hfE, sz_lt (by rw [List.length_map]; omega), ?_⟩
            have ftt : tt ≠ fd := fun z => by rw [z, hfE] at ntt; cases ntt
            refine ⟨rs ++ [(tt, (l, ps[k2], ps[k3]))], some (.str (tx l)), n8, _, rfl, (upd_ne rf).trans (eT _ _ hrE), ?_, ?_, ?_, ?_, ?_⟩
            · rw [upd_same, List.map_append]
              rfl
            · intro r hr
              rcases List.mem_append.mp hr with hr | hr
              · exact rows_upd (rows_mono eT hwE) (eT _ _ hfE) r hr
              · rw [List.mem_singleton.mp hr]
                exact (upd_ne ftt).trans htt
            · rw [List.map_append, tk]
              exact List.Sublist.append hsub (List.Sublist.refl _)
            · intro r hr
              rcases List.mem_append.mp hr with hr | hr
              · exact hin r hr
              · rw [List.mem_singleton.mp hr]
                exact ⟨List.getElem_mem h2, List.getElem_mem h3⟩
            · have PT2 := PT.cnt (show n + 103 + 3 * i + 1 + 1 + 1 ≤ n + 103 + 3 * (i + 1) by omega)
              refine ⟨PT2.no, Ex.mut PT2.ex fdB, ?_⟩
              obtain ⟨a', b', c', w1, w2⟩ := PT2.at_
              exact ⟨a', b', c', by rw [upd_ne fdp.symm]; exact w1, w2⟩
          · exact ⟨rs, _, n8, n9, rfl, hrC, hfC, hwC, sub1, hin, PC.cnt (by omega)⟩
      · rintro _ HA ⟨rs, n6, n8, n9, rfl, hrA, hfA, hwA, hsub, hin, PA⟩
        have hd : (vtx (ts.drop k)).length ≤ 26 := by
          rw [vtx_len, List.length_drop]
          omega
        exact ⟨rs, n6, n8, n9, rfl, hfA, hwA, hsub.trans (List.take_sublist _ _), hin, PA.cnt (by omega)⟩
    rintro _ H9 ⟨rs, n6, n8, n9, rfl, hf9, hr9, hsub, hin9, P9⟩
    have hlen : rs.length ≤ lanes := by
      have := hsub.length_le
      rw [List.length_map] at this
      omega
    have hrow : ∀ (rs' : List Row), rs'.Perm rs → RowsOk ps rs' := fun rs' hp => by
      have hn := names_sub hNt hsub
      refine ⟨⟨fun l hl => hn.1 l ((hp.map _).subset hl), (hp.map _).nodup_iff.mpr hn.2⟩, fun r hr => hin9 r (hp.subset hr)⟩
    refine ⟨_, rfl, _, rfl, _, rfl, p, fd, rs.map (fun r => V.ref r.1), Wo H9 p, _, rfl, P9.re, by omega, wo_at hf9 fdp, by rw [List.length_map]; omega, fun b ys HE nb hPE hb hperm => ?_⟩
    obtain ⟨rs', e, hp'⟩ := perm_map hperm
    have PE := P9.back hPE
    have hr' : ∀ r ∈ rs', RowAt HE r := fun r hr => rows_mono hPE.ex (rows_wo P9 hr9) r (hp'.subset hr)
    refine ⟨by show 2 ≤ sizeLine; decide, fun d nd => ?_⟩
    have eF := Ex.new (o := .lst [.ref a, .ref b]) nd
    have ab : a ≠ b := fun z => by
      have := P9.ex _ _ hBa
      rw [z, nb] at this
      cases this
    have PF := fin (PE.new nd (o := .lst [.ref a, .ref b]))
    refine q d a b ps rs' _ (fresh_wo hp0 (fin PE) nd) (hp0.back (PF.cnt (by omega))) upd_same (eF _ _ (PE.ex _ _ hBa)) (by rw [eF _ _ hb, e]) ab hps hpl (by rw [hp'.length_eq]; exact hlen) (hrow rs' hp') (rows_mono eF hr')
end
end K17

set_option Elab.async false
set_option linter.all false
set_option maxRecDepth 100000
set_option maxHeartbeats 4000000
namespace K17
open PySem PySem.Spec PyProof.Rows L2 Vl Evl Vp Vx2
abbrev sIsName : Stmt := top 17
abbrev sChkN : Stmt := top 19
/-- is_name, of a name -/
def spIsName : Sp := fun vs H Q _ => ∃ l, vs = [.str (tx l)] ∧ ((nam l ∧ ∀ H', Ex H H' → Q (.bl true) H') ∨ (l = [65] ∧ Q (.bl false) H))
theorem ifT {c A B : Prop} [Decidable c] (h : c) (a : A) : if c then A else B := by
  rw [if_pos h]
  exact a
theorem ifF {c A B : Prop} [Decidable c] (h : ¬ c) (b : B) : if c then A else B := by
  rw [if_neg h]
  exact b
section
variable {P : Program} {w : World} {K : PySem.W.Frag} {mg : Str → Option Value} {base : Heap}
abbrev nIN : List Str := ["value", "sign"]
theorem scIN : FnScope nIN ["value"] (defScope sIsName) := ⟨rfl, rfl, rfl, by decide +kernel, rfl, by decide +kernel, by decide +kernel⟩
theorem ok_isname {f : Addr} {fd : FuncData} (F : FnP K "is_name" sIsName f fd) (mI : mg "isinstance" = none) (mS : mg "str" = none) (mL : mg "len" = none) (mA : mg "all" = none)
    (gL : ∃ t, mg "LETTERS" = some (.str (tx letters) t)) (gD : ∃ t, mg "DIGITS" = some (.str (tx digits) t)) (gO : ∃ t, mg "LONGEST" = some (.int 8 t)) :
    FnOk P w K mg base CX0 1 f fd ["value"] spIsName := by
  obtain ⟨tL, gL⟩ := gL
  obtain ⟨tD, gD⟩ := gD
  obtain ⟨tO, gO⟩ := gO
  refine F.ok (CX := CX0) scIN (fun vs H Q E h => ?_) (fun cdv A outer s H vs Q E hr h => ?_)
  · obtain ⟨l, rfl, _⟩ := h
    rfl
  · refine ⟨_, (pss_cons (ps_if (PW.pt (pw_or (pt_not (pt_val (pe_callB call_isi (by rfl) mI boot_isinstance (pa_cons (pv 0) (pa_cons (pe_bltn (v := V.ty "str") (by rfl) mS boot_str rfl) pa_nil)))))
        (pw_or1 (pt_not (pt_chain op_le op_le pe_int (pe_callB call_len (by rfl) mL boot_len (pa_cons (pv 0) pa_nil)) (pe_glob (v := V.int 8) (by rfl) gO ⟨tO, rfl⟩)))))) (pss_one (ps_ret pe_bl)) pss_nil)
      (pss_one (ps_ret (pe_and (pe_cmpR op_inS (pe_ix ix_str (pv 0) pe_int fun _ _ => rfl) (pe_glob (v := V.str (tx letters)) (by rfl) gL ⟨tL, rfl⟩) rfl)
        (pe_one (pe_callB (cr_all rfl) (by rfl) mA boot_all (pa_cons (pe_lc (own := [("sign", 1)]) (g := gName 1) (tt := tYes) (te := tOp rInS (tVar 1) (tOp rCatS (tC (.str (tx letters))) (tC (.str (tx digits))))) rfl scIN.nd (pi_str (pv 0)) (blkOk_by (own := [("sign", 1)]) (N := nIN) (sc := defScope sIsName) (by decide +kernel)) (fun _ _ _ _ _ => (pg_name (i := 1) scIN.nd rfl (by first | exact Or.inl rfl | exact Or.inr rfl))) (fun _ _ _ _ _ => pts_nil)
          (fun _ _ _ _ _ => pe_cmpR op_inS (pv 1) (pe_op op_add_str (pe_glob (v := V.str (tx letters)) (by rfl) gL ⟨tL, rfl⟩) (pe_glob (v := V.str (tx digits)) (by rfl) gD ⟨tD, rfl⟩)) rfl)) pa_nil))))))), ?_⟩
    obtain ⟨l, rfl, h⟩ := h
    rcases h with ⟨hl, q⟩ | ⟨rfl, q⟩
    · skip
      have hll := nam_len hl
      have hs : (tx l).length = l.length := tx_len l
      refine s_seq ?_
      refine ⟨_, rfl, V.str (tx l), V.ty "str", .type "str", .type "str", true, rfl, .ty _, .base (.str _), kit_ty (by decide +kernel), true, rfl, ?_⟩
      refine ifF Bool.false_ne_true ?_
      refine ⟨_, rfl, _, (tx l).length, rfl, ⟨sz_of (by omega), rfl⟩, 1, _, rfl, rfl, _, rfl, ?_⟩
      refine ifT (decide_eq_true (by omega)) ?_
      refine ⟨_, _, rfl, rfl, _, rfl, ?_⟩
      refine ifF (by rw [decide_eq_true (show ((tx l).length : Int) ≤ 8 by omega)]; decide) ?_
      obtain ⟨c0, r0, rfl, hc, hr0, h7⟩ := id hl
      refine ⟨_, rfl, tx (c0 :: r0), 0, c0, rfl, rfl, sz_of (by omega), text_at (zs := c0 :: r0) (j := 0) (Nat.succ_pos _), _, _, rfl, rfl, _, rfl, ?_⟩
      refine ifT (decide_eq_true (by exact hc)) ?_
      refine ⟨_, rfl, tx (c0 :: r0), rfl, fun Dl hD => ?_⟩
      refine lc_it walk_str (fun i H' => H' = upd H Dl (.lst ((List.replicate i true).map V.bl))) rfl (fun _ _ _ _ => trivial) ?_ ?_
      · rintro i x H2 H3 hi rfl ⟨rfl, c, hcc, rfl⟩
        have hcm : c ∈ c0 :: r0 := by
          rw [← Array.getElem?_toList] at hcc
          exact List.mem_of_getElem? hcc
        refine ⟨rfl, ?_⟩
        unfold tYes
        dsimp only
        rw [if_pos rfl]
        refine ⟨_, rfl, tx letters, tx digits, rfl, rfl, by decide +kernel, c, _, rfl, rfl, (List.replicate i true).map V.bl, upd_same, ?_, ?_⟩
        · refine sz_lt ?_
          rw [List.length_map, List.length_replicate]
          have : (tx (c0 :: r0)).cps.size = (c0 :: r0).length := rfl
          omega
        · rw [tx_app, tx_list, decide_eq_true (show c ∈ letters ++ digits from nam_signs hl c hcm), upd_upd, List.replicate_succ', List.map_append]
          rfl
      · rintro H2 rfl
        refine ⟨Dl, List.replicate _ true, rfl, sq_of upd_same, ?_⟩
        rw [show (List.replicate ((tx (c0 :: r0)).cps.size) true).all id = true from List.all_eq_true.mpr fun b hb => (List.mem_replicate.mp hb).2]
        exact q _ (Ex.new hD)
    · refine s_seq ?_
      refine ⟨_, rfl, V.str (tx [65]), V.ty "str", .type "str", .type "str", true, rfl, .ty _, .base (.str _), kit_ty (by decide +kernel), true, rfl, ?_⟩
      refine ifF Bool.false_ne_true ?_
      refine ⟨_, rfl, _, 1, rfl, ⟨by show 1 ≤ sizeLine; decide, rfl⟩, 1, _, rfl, rfl, _, rfl, ?_⟩
      refine ifT (by decide) ?_
      refine ⟨_, _, rfl, rfl, _, rfl, ?_⟩
      refine ifF (by decide) ?_
      refine ⟨_, rfl, tx [65], 0, 65, rfl, rfl, by show 1 ≤ sizeLine; decide, text_at (zs := [65]) (j := 0) (by decide), _, _, rfl, rfl, _, rfl, ?_⟩
      exact ifF (by decide +kernel) q
end
end K17

set_option Elab.async false
set_option linter.all false
set_option maxRecDepth 100000
set_option maxHeartbeats 4000000
namespace K17
open PySem PySem.Spec PyProof.Rows L2 Vl Evl Vp Vx2
/-- check_name: nothing for a name, the error for "A" -/
def spChkN (CN : Addr) : Sp := fun vs H Q E => ∃ l, vs = [.str (tx l)] ∧ ((nam l ∧ ∀ H', Ex H H' → Q .non H') ∨ (l = [65] ∧ RaisedF CN "name" H (.str (tx l)) E))
section
variable {P : Program} {w : World} {K : PySem.W.Frag} {mg : Str → Option Value} {base : Heap} {CN : Addr}
theorem scCN : FnScope ["value"] ["value"] (defScope sChkN) := ⟨rfl, rfl, rfl, by decide +kernel, rfl, by decide +kernel, by decide +kernel⟩
theorem ok_chkn {f fN : Addr} {fd fdN : FuncData} (F : FnP K "check_name" sChkN f fd) (FN : FnP K "is_name" sIsName fN fdN) (gN : mg "is_name" = some (.ref fN))
    (GN : FnOk P w K mg base CX0 1 fN fdN ["value"] spIsName) (EB : Err1 P w K mg base "BadName" "name" CN) :
    FnOk P w K mg base (L2.CX P w) 3 f fd ["value"] (spChkN CN) := by
  have bN : Binds K fdN ["value"] [] := FN.bindsN fun _ _ _ _ _ _ us hl => match us, hl with | [_], _ => rfl
  have kN := FN.kp
  obtain ⟨fE, fdE, iC, tI, bE, GE⟩ := EB.ini
  refine F.ok (CX := L2.CX P w) scCN (fun vs H Q E h => ?_) (fun cdv A outer s H vs Q E hr h => ?_)
  · obtain ⟨l, rfl, _⟩ := h
    rfl
  · have hr2 : Room 2 _ := hr
    have hr1 : Room 1 _ := hr.mono (by omega)
    refine ⟨_, (pss_one (ps_if (pt_not (pt_val (pe_call GN hr1 (by rfl) gN kN bN .nil pass0 (pa_cons (pv 0) pa_nil)))) (pss_one (ps_raise rfl (takes_of rfl rfl rfl rfl) (pmk_oex EB.T iC tI GE hr2 bE .nil pass0 (by rfl) EB.g (pa_cons (pv 0) pa_nil)))) pss_nil)), ?_⟩
    obtain ⟨l, rfl, h⟩ := h
    rcases h with ⟨hl, q⟩ | ⟨rfl, q⟩
    · exact ⟨_, rfl, l, rfl, .inl ⟨hl, fun H' e => ⟨true, rfl, ifF Bool.false_ne_true (q H' e)⟩⟩⟩
    · exact ⟨_, rfl, [65], rfl, .inr ⟨rfl, false, rfl, ifT rfl (raised_f (W := fun cls d _ H' => E cls d H') 0 rfl rfl q)⟩⟩
end
end K17

set_option Elab.async false
set_option linter.all false
set_option maxRecDepth 100000
set_option maxHeartbeats 4000000
namespace K17
open PySem PySem.Spec PyProof.Rows L2 Vl Evl Vp Vx2
def clB : Stmt → List Stmt
  | .ClassDef (body := b) .. => b
  | _ => []
/-- the i-th member of the class Net -/
def mem (i : Nat) : Stmt := (clB (top 22)).getD i (.Pass ⟨0, 0, 0, 0⟩)
abbrev FnM (K : PySem.W.Frag) (m q : Str) (st : Stmt) (f : Addr) (fd : FuncData) : Prop := FunD K m q (defArgs st) (defBody st) (defScope st) [] [] f fd
abbrev sPost : Stmt := mem 1
/-- the posts' dict, the lanes' dict -/
def dPosts (ps : List (List Nat)) : List (Key × V) := ps.map fun l => ((Sum.inr (tx l) : Key), V.bl true)
def dEnds (es : List Row) : List (Key × V) := es.map fun e => ((Sum.inr (tx e.2.1) : Key), V.ref e.1)
/-- a lane's ends -/
def EndAt (H : Hp) (e : Row) : Prop := H e.1 = some (.tup [.str (tx e.2.2.1), .str (tx e.2.2.2)])
/-- a net at o -/
structure NetAt (C : Addr) (H : Hp) (o dx dp de : Addr) (ps : List (List Nat)) (es : List Row) : Prop where
  at_ : H o = some (.ins C dx [("_posts", .ref dp), ("_ends", .ref de)])
  posts : H dp = some (.dK (dPosts ps))
  ends : H de = some (.dK (dEnds es))
  rows : ∀ e ∈ es, EndAt H e
theorem NetAt.mono {C : Addr} {H H' : Hp} {o dx dp de : Addr} {ps : List (List Nat)} {es : List Row} (e : Ex H H') (n : NetAt C H o dx dp de ps es) : NetAt C H' o dx dp de ps es :=
  ⟨e _ _ n.at_, e _ _ n.posts, e _ _ n.ends, fun r hr => e _ _ (n.rows r hr)⟩
theorem posts_val (ps : List (List Nat)) (l : List Nat) : (valV (dPosts ps) (Sum.inr (tx l) : Key)).isSome = decide (l ∈ ps) := by
  induction ps with
  | nil => rfl
  | cons x r ih =>
    unfold dPosts at *
    rw [List.map_cons]
    by_cases h : x = l
    · rw [valV_pos (by rw [h]), decide_eq_true (by rw [h]; exact List.mem_cons_self)]
      rfl
    · have hn : ¬ (Sum.inr (tx x) : Key) = Sum.inr (tx l) := fun z => h (tx_inj (Sum.inr.inj z))
      rw [valV_neg hn, ih]
      by_cases hm : l ∈ r
      · rw [decide_eq_true hm, decide_eq_true (List.mem_cons_of_mem _ hm)]
      · rw [decide_eq_false hm, decide_eq_false (fun z => (List.mem_cons.mp z).elim (fun e => h e.symm) hm)]
/-- net.post(name) -/
def spPost (C BN NT : Addr) : Sp := fun vs H Q E => ∃ (o dx dp de : Addr) (ps : List (List Nat)) (es : List Row) (l : List Nat), vs = [.ref o, .str (tx l)] ∧ NetAt C H o dx dp de ps es ∧ ps.length ≤ 1000 ∧
  ((nam l ∧ l ∉ ps ∧ ∀ H', Ex H H' → Q .non (upd H' dp (.dK (dPosts (ps ++ [l]))))) ∨ (nam l ∧ l ∈ ps ∧ RaisedF NT "name" H (.str (tx l)) E) ∨ (l = [65] ∧ RaisedF BN "name" H (.str (tx l)) E))
theorem RaisedF.grow {CN : Addr} {f : Str} {H H' : Hp} {y : V} {E : XK} (h : RaisedF CN f H y E) (e : Ex H H') : RaisedF CN f H' y E := fun d H2 e2 hd => h d H2 (e.trans e2) hd
section
variable {P : Program} {w : World} {K : PySem.W.Frag} {mg : Str → Option Value} {base : Heap} {C BN NT : Addr}
theorem scPo : FnScope ["self", "name"] ["self", "name"] (defScope sPost) := ⟨rfl, rfl, rfl, by decide +kernel, rfl, by decide +kernel, by decide +kernel⟩
theorem ok_post {f fN : Addr} {fd fdN : FuncData} (F : FnM K "post" "Net.post" sPost f fd) (c : Cls K C) (n1 : NoAttr K C "_posts") (FN : FnP K "check_name" sChkN fN fdN) (gN : mg "check_name" = some (.ref fN))
    (GN : FnOk P w K mg base (L2.CX P w) 3 fN fdN ["value"] (spChkN BN)) (ET : Err1 P w K mg base "NameTaken" "name" NT) :
    FnOk P w K mg base (L2.CX P w) 4 f fd ["self", "name"] (spPost C BN NT) := by
  have bN : Binds K fdN ["value"] [] := FN.bindsN fun _ _ _ _ _ _ us hl => match us, hl with | [_], _ => rfl
  have kN := FN.kp
  obtain ⟨fE, fdE, iC, tI, bE, GE⟩ := ET.ini
  refine F.ok (CX := L2.CX P w) scPo (fun vs H Q E h => ?_) (fun cdv A outer s H vs Q E hr h => ?_)
  · obtain ⟨o, dx, dp, de, ps, es, l, rfl, _⟩ := h
    rfl
  · have hr3 : Room 3 _ := hr
    have hr2 : Room 2 _ := hr.mono (by omega)
    refine ⟨_, (pss_cons (ps_expr (pe_callS (E := WE fun cls d _ H => E cls d H) GN hr3 (by rfl) gN kN bN (fun st => passAt (takes_of rfl rfl rfl rfl) st) (pa_cons (pv 1) pa_nil)))
      (pss_cons (ps_if (pt_cmp (pc_din (Nat.lt_of_le_of_lt (Nat.add_le_add_left (show 1 ≤ 64 by decide) _) hr.units) (pv 1) (pe_fld (pv 0) rfl))) (pss_one (ps_raise rfl (takes_of rfl rfl rfl rfl) (pmk_oex ET.T iC tI GE hr2 bE .nil pass0 (by rfl) ET.g (pa_cons (pv 1) pa_nil)))) pss_nil)
      (pss_one (ps_asg pe_bl (pg_sub (pe_fld (pv 0) rfl) (pv 1) (set_dict (Nat.lt_of_le_of_lt (Nat.add_le_add_left (show 1 ≤ 64 by decide) _) hr.units))))))), ?_⟩
    obtain ⟨o, dx, dp, de, ps, es, l, rfl, N, h1, h⟩ := h
    refine s_seq ?_
    have body : nam l → ∀ H', Ex H H' → ((l ∉ ps ∧ ∀ H', Ex H H' → Q .non (upd H' dp (.dK (dPosts (ps ++ [l]))))) ∨ (l ∈ ps ∧ RaisedF NT "name" H (.str (tx l)) E)) →
        tSeq (tIfS (tB (tDIn (tVar 1) (tFld K (tVar 0) "_posts"))) (tSeq (fun _ σ H => tMkO NT (spIni NT "name") [] (tCons (tVar 1) tNil) σ H fun cls d H' => E cls d H') tNext) tNext)
          (tSeq (tAsg (tC (.bl true)) (gSub (tFld K (tVar 0) "_posts") (tVar 1) rSetD)) tNext) { nx := fun _ H' => Q .non H', rt := Q } [some (.ref o), some (.str (tx l))] H' := by
      intro hl H1 e1 h
      have N1 := N.mono e1
      refine s_seq ?_
      refine ⟨_, rfl, _, rfl, o, C, dx, _, .ref dp, rfl, N1.at_, c, n1, rfl, dp, _, rfl, DGet.k (k := (Sum.inr (tx l) : Key)) N1.posts, _, rfl, ?_⟩
      rw [posts_val]
      rcases h with ⟨hm, q⟩ | ⟨hm, q⟩
      · refine if_f (by rw [decide_eq_false hm]; decide) ?_
        refine ⟨_, rfl, o, C, dx, _, .ref dp, rfl, N1.at_, c, n1, rfl, _, rfl, dp, _, rfl, DPut.k (k := (Sum.inr (tx l) : Key)) N1.posts (sz_lt (by unfold dPosts; rw [List.length_map]; omega)), ?_⟩
        have hv : valV (dPosts ps) (Sum.inr (tx l) : Key) = none := by
          have := posts_val ps l
          rw [decide_eq_false hm] at this
          exact Option.not_isSome_iff_eq_none.mp (by rw [this]; decide)
        rw [putK_new _ hv]
        have := q H1 e1
        unfold dPosts at *
        rw [List.map_append] at this
        exact this
      · refine if_t (by rw [decide_eq_true hm]) ?_
        exact raised_f (W := fun cls d _ H' => E cls d H') 1 rfl rfl (RaisedF.grow q e1)
    refine ⟨_, rfl, ?_⟩
    rcases h with ⟨hl, hm, q⟩ | ⟨hl, hm, q⟩ | ⟨rfl, q⟩
    · exact ⟨l, rfl, .inl ⟨hl, fun H' e => body hl H' e (.inl ⟨hm, q⟩)⟩⟩
    · exact ⟨l, rfl, .inl ⟨hl, fun H' e => body hl H' e (.inr ⟨hm, q⟩)⟩⟩
    · exact ⟨[65], rfl, .inr ⟨rfl, q⟩⟩
end
end K17

set_option Elab.async false
set_option linter.all false
set_option maxRecDepth 100000
set_option maxHeartbeats 4000000
namespace K17
open PySem PySem.Spec PyProof.Rows L2 Vl Evl Vp Vx2
abbrev sPosts : Stmt := mem 4
abbrev sLanes : Stmt := mem 5
abbrev sHas : Stmt := mem 11
abbrev sNLen : Stmt := mem 13
theorem keys_posts (ps : List (List Nat)) : ((dPosts ps).map fun kv => kV kv.1) = vtx ps := by
  unfold dPosts vtx
  rw [List.map_map]
  rfl
theorem keys_ends (es : List Row) : ((dEnds es).map fun kv => kV kv.1) = vtx (es.map fun e => e.2.1) := by
  unfold dEnds vtx
  rw [List.map_map, List.map_map]
  rfl
/-- net.posts, net.lanes: new tuples -/
def spPosts (C : Addr) : Sp := fun vs H Q _ => ∃ (o dx dp de : Addr) (ps : List (List Nat)) (es : List Row), vs = [.ref o] ∧ NetAt C H o dx dp de ps es ∧ ∀ t, H t = none → Q (.ref t) (upd H t (.tup (vtx ps)))
def spLanes (C : Addr) : Sp := fun vs H Q _ => ∃ (o dx dp de : Addr) (ps : List (List Nat)) (es : List Row), vs = [.ref o] ∧ NetAt C H o dx dp de ps es ∧ ∀ t, H t = none → Q (.ref t) (upd H t (.tup (vtx (es.map fun e => e.2.1))))
def spNLen (C : Addr) : Sp := fun vs H Q _ => ∃ (o dx dp de : Addr) (ps : List (List Nat)) (es : List Row), vs = [.ref o] ∧ NetAt C H o dx dp de ps es ∧ Q (.int (es.length : Nat)) H
section
variable {P : Program} {w : World} {K : PySem.W.Frag} {mg : Str → Option Value} {base : Heap} {C : Addr}
theorem scPs : FnScope ["self"] ["self"] (defScope sPosts) := ⟨rfl, rfl, rfl, by decide +kernel, rfl, by decide +kernel, by decide +kernel⟩
theorem ok_posts {f : Addr} {fd : FuncData} (F : FnM K "posts" "Net.posts" sPosts f fd) (c : Cls K C) (n1 : NoAttr K C "_posts") (mT : mg "tuple" = none) : FnOk P w K mg base CX0 1 f fd ["self"] (spPosts C) := by
  refine F.ok (CX := CX0) scPs (fun vs H Q E h => ?_) (fun cdv A outer s H vs Q E hr h => ?_)
  · obtain ⟨o, dx, dp, de, ps, es, rfl, _⟩ := h
    rfl
  · refine ⟨_, pss_one (ps_ret (pe_callTy (Vd.call_tupleD rfl) (by rfl) mT boot_tuple (pa_cons (pe_fld (pv 0) rfl) pa_nil))), ?_⟩
    obtain ⟨o, dx, dp, de, ps, es, rfl, N, q⟩ := h
    refine ⟨_, rfl, o, C, dx, _, .ref dp, rfl, N.at_, c, n1, rfl, dp, dPosts ps, rfl, .inl N.posts, fun t nt => ?_⟩
    rw [keys_posts]
    exact q t nt
theorem scLs : FnScope ["self"] ["self"] (defScope sLanes) := ⟨rfl, rfl, rfl, by decide +kernel, rfl, by decide +kernel, by decide +kernel⟩
theorem ok_lanes {f : Addr} {fd : FuncData} (F : FnM K "lanes" "Net.lanes" sLanes f fd) (c : Cls K C) (n1 : NoAttr K C "_ends") (mT : mg "tuple" = none) : FnOk P w K mg base CX0 1 f fd ["self"] (spLanes C) := by
  refine F.ok (CX := CX0) scLs (fun vs H Q E h => ?_) (fun cdv A outer s H vs Q E hr h => ?_)
  · obtain ⟨o, dx, dp, de, ps, es, rfl, _⟩ := h
    rfl
  · refine ⟨_, pss_one (ps_ret (pe_callTy (Vd.call_tupleD rfl) (by rfl) mT boot_tuple (pa_cons (pe_fld (pv 0) rfl) pa_nil))), ?_⟩
    obtain ⟨o, dx, dp, de, ps, es, rfl, N, q⟩ := h
    refine ⟨_, rfl, o, C, dx, _, .ref de, rfl, N.at_, c, n1, rfl, de, dEnds es, rfl, .inl N.ends, fun t nt => ?_⟩
    rw [keys_ends]
    exact q t nt
theorem scNl : FnScope ["self"] ["self"] (defScope sNLen) := ⟨rfl, rfl, rfl, by decide +kernel, rfl, by decide +kernel, by decide +kernel⟩
theorem ok_nlen {f : Addr} {fd : FuncData} (F : FnM K "__len__" "Net.__len__" sNLen f fd) (c : Cls K C) (n1 : NoAttr K C "_ends") (mL : mg "len" = none) : FnOk P w K mg base CX0 1 f fd ["self"] (spNLen C) := by
  refine F.ok (CX := CX0) scNl (fun vs H Q E h => ?_) (fun cdv A outer s H vs Q E hr h => ?_)
  · obtain ⟨o, dx, dp, de, ps, es, rfl, _⟩ := h
    rfl
  · refine ⟨_, pss_one (ps_ret (pe_callB call_lenD (by rfl) mL boot_len (pa_cons (pe_fld (pv 0) rfl) pa_nil))), ?_⟩
    obtain ⟨o, dx, dp, de, ps, es, rfl, N, q⟩ := h
    refine ⟨_, rfl, o, C, dx, _, .ref de, rfl, N.at_, c, n1, rfl, de, dEnds es, rfl, N.ends, ?_⟩
    have : (dEnds es).length = es.length := List.length_map _
    rw [this]
    exact q
end
end K17

set_option Elab.async false
set_option linter.all false
set_option maxRecDepth 100000
set_option maxHeartbeats 2000000
/-! Tuples and lists of texts compared. -/
namespace Vda
open PySem PySem.Spec PyProof.Rows L2 Vl Evl Vp Vr
/-- texts of true signs -/
def Oks (a : List (List Nat)) : Prop := ∀ l ∈ a, ∀ c ∈ l, c < 1114112
theorem oks_nam {a : List (List Nat)} (h : ∀ l ∈ a, nam l) : Oks a := fun l hl c hc => by
  have hs : c ∈ Vp.signs := nam_signs (h l hl) c hc
  have all : ∀ c ∈ Vp.signs, c < 128 := by decide +kernel
  have := all c hs
  omega
theorem oks_cons {l : List Nat} {a : List (List Nat)} (h : ∀ c ∈ l, c < 1114112) (ha : Oks a) : Oks (l :: a) := fun x hx => by
  rcases List.mem_cons.mp hx with rfl | hx
  · exact h
  · exact ha x hx
theorem ok_nam {l : List Nat} (h : nam l) : ∀ c ∈ l, c < 1114112 := oks_nam (a := [l]) (fun x hx => by rw [List.mem_singleton.mp hx]; exact h) l List.mem_cons_self
theorem oks_nil : Oks [] := fun _ h => nomatch h
theorem lay_ok : ∀ a : List (List Nat), Oks a → PyData.canLayAll0 (dtx a) = true
  | [], _ => rfl
  | x :: r, h => by
    have hr := lay_ok r fun l hl => h l (List.mem_cons_of_mem _ hl)
    have hx : PyData.canLay0 (PyData.str (tx x)) = true := by
      show PyData.strOk (tx x) = true
      unfold PyData.strOk
      rw [← Array.all_toList, tx_list, List.all_eq_true]
      exact fun c hc => decide_eq_true (h x List.mem_cons_self c hc)
    show (PyData.canLay0 (PyData.str (tx x)) && PyData.canLayAll0 (dtx r)) = true
    rw [hx, hr]
    rfl
theorem sh_w {a : List (List Nat)} (h : Oks a) : SeqAt.shaped (wd a) = true := shaped_of (lay_ok a h) (by have := dep_wd a; omega)
def wls (a : List (List Nat)) : PyData := .list (dtx a)
theorem sh_l {a : List (List Nat)} (h : Oks a) : SeqAt.shaped (wls a) = true := shaped_of (lay_ok a h) (by
  show PyData.depthAll (dtx a) + 1 ≤ 64
  rw [dep_dtx]
  omega)
theorem eq_w (a b : List (List Nat)) : PyData.eqv (wd a) (wd b) = decide (a = b) := by
  by_cases h : a = b
  · rw [decide_eq_true h, h]
    exact PySem.W.eqv_refl_alike _ (alike_wd b b)
  · rw [decide_eq_false h]
    cases e : PyData.eqv (wd a) (wd b) with
    | false => rfl
    | true =>
      have k := (PySem.W.toks_eqv (wd a) (wd b) (alike_wd a b)).1 e
      unfold wd at k
      rw [PySem.W.keyToks, PySem.W.keyToks] at k
      exact absurd (key_inj k) h
theorem eq_l (a b : List (List Nat)) : PyData.eqv (wls a) (wls b) = decide (a = b) := by
  rw [← eq_w]
  unfold wls wd
  rw [PyData.eqv, PyData.eqv]
theorem dp_l {K : PySem.W.Frag} {H : Hp} {p : Addr} {a : List (List Nat)} (h : SqL K H p (vtx a)) : Dp K H (.ref p) (wls a) := .lst h (dpa_vtx a)
section
variable {K : PySem.W.Frag} {H : Hp} {p q : Addr} {a b : List (List Nat)}
theorem rv_eqT (h : SqT K H p (vtx a)) (h2 : SqT K H q (vtx b)) (oa : Oks a) (ob : Oks b) : RV (rEqD K) (.ref p) (.ref q) H (.bl (decide (a = b))) := fun H1 e1 Q q1 => by
  refine ⟨wd a, wd b, dp_wd (ex_t e1 h), dp_wd (ex_t e1 h2), sh_w oa, sh_w ob, ?_⟩
  rw [eq_w]
  exact q1 H1 (Ex.refl _)
theorem rv_neT (h : SqT K H p (vtx a)) (h2 : SqT K H q (vtx b)) (oa : Oks a) (ob : Oks b) : RV (rNeD K) (.ref p) (.ref q) H (.bl (!decide (a = b))) := fun H1 e1 Q q1 => by
  refine ⟨wd a, wd b, dp_wd (ex_t e1 h), dp_wd (ex_t e1 h2), sh_w oa, sh_w ob, ?_⟩
  rw [eq_w]
  exact q1 H1 (Ex.refl _)
theorem rv_eqL (h : SqL K H p (vtx a)) (h2 : SqL K H q (vtx b)) (oa : Oks a) (ob : Oks b) : RV (rEqD K) (.ref p) (.ref q) H (.bl (decide (a = b))) := fun H1 e1 Q q1 => by
  refine ⟨wls a, wls b, dp_l (ex_l e1 h), dp_l (ex_l e1 h2), sh_l oa, sh_l ob, ?_⟩
  rw [eq_l]
  exact q1 H1 (Ex.refl _)
theorem rv_neL (h : SqL K H p (vtx a)) (h2 : SqL K H q (vtx b)) (oa : Oks a) (ob : Oks b) : RV (rNeD K) (.ref p) (.ref q) H (.bl (!decide (a = b))) := fun H1 e1 Q q1 => by
  refine ⟨wls a, wls b, dp_l (ex_l e1 h), dp_l (ex_l e1 h2), sh_l oa, sh_l ob, ?_⟩
  rw [eq_l]
  exact q1 H1 (Ex.refl _)
end
end Vda

set_option Elab.async false
set_option linter.all false
set_option maxRecDepth 100000
set_option maxHeartbeats 2000000
/-! [k for k in d if ..], a dict locked meanwhile; tuple([..]). -/
namespace Vlk
open PySem PySem.Spec PyProof.Rows L2 Evl
/-- H, the dict at d locked -/
abbrev Lk (H : Hp) (d : Addr) (od : Obj) (kvs : List (Key × V)) : Hp := upd H d (.frz od (.dK kvs))
section
variable {K : PySem.W.Frag} {σ : L2.St} {H : Hp}
theorem lk_get {d b : Addr} {od : Obj} {kvs : List (Key × V)} {o : HO} (h : H b = some o) (hn : b ≠ d) : Lk H d od kvs b = some o := by
  show upd H d _ b = _
  rw [upd_ne hn]
  exact h
theorem dget_frz {d : Addr} {od : Obj} {kvs : List (Key × V)} {k : Key} (h : H d = some (.frz od (.dK kvs))) : DGet H d (kV k) (valV kvs k) := .inl ⟨kvs, k, .inr ⟨od, h⟩, rfl, rfl⟩
/-- the keys of d for which the test says yes -/
theorem el_keys {td : TE} {tt : TT} {j : Nat} {d : Addr} {kvs : List (Key × V)} (c : Key × V → Bool) (hd : H d = some (.dK kvs)) (hz : kvs.length ≤ 40000) (hw : ∀ x, wipe ((wipe σ [j]).set j (some x)) [j] = wipe σ [j])
    (hj : ∀ x, ((wipe σ [j]).set j (some x))[j]? = some (some x))
    (htd : ∀ H1 od, Ex H H1 → Ev td σ (Lk H1 d od kvs) (.ref d))
    (ht : ∀ (H1 : Hp) (od : Obj) (i : Nat) (kv : Key × V), Ex H H1 → kvs[i]? = some kv → EvT tt ((wipe σ [j]).set j (some (kV kv.1))) (Lk H1 d od kvs) (c kv)) :
    EvL (tLockE (tLc (iKeys td) (gName j) tt (tVar j) [j])) σ H ((kvs.filter c).map fun kv => kV kv.1) := by
  intro H1 e1 Q q
  refine ⟨d, .dK kvs, e1 _ _ hd, trivial, fun od => ?_⟩
  have hlk : (Lk H1 d od kvs) d = some (.frz od (.dK kvs)) := upd_same
  refine htd H1 od e1 _ (Ex.refl _) _ fun H2 e2 => ?_
  refine ⟨d, od, rfl, .inl ⟨kvs, e2 _ _ hlk, fun D nD => ?_⟩⟩
  have ndd : D ≠ d := fun z => by rw [z, e2 _ _ hlk] at nD; cases nD
  have hn2 : (Lk H1 d od kvs) D = none := fresh_back e2 nD
  have hn1 : H1 D = none := by
    have := hn2
    rw [show (Lk H1 d od kvs) D = H1 D from upd_ne ndd] at this
    exact this
  refine lc_it walk_keys (fun i H3 => Ex (Lk H1 d od kvs) H3 ∧ H3 D = some (.lst (((kvs.take i).filter c).map fun kv => kV kv.1))) ⟨Ex.mut e2 hn2, by rw [List.take_zero]; exact upd_same⟩ (fun i H3 _ h => h.1 _ _ hlk) ?_ ?_
  · rintro i x H3 H4 hi ⟨e3, hD⟩ ⟨rfl, k, v, hk, rfl⟩
    have htk : kvs.take (i + 1) = kvs.take i ++ [(k, v)] := by rw [List.take_succ, hk]; rfl
    refine ⟨hw _, ?_⟩
    have hc := ht H1 od i (k, v) e1 hk
    refine hc H4 e3 _ fun H5 e5 => ?_
    cases hcv : c (k, v) with
    | true =>
      rw [if_pos rfl]
      refine ⟨kV k, hj _, _, e5 _ _ hD, ?_, Ex.mut (e3.trans e5) hn2, ?_⟩
      · refine sz_lt ?_
        rw [List.length_map]
        have := List.length_filter_le c (kvs.take i)
        rw [List.length_take] at this
        omega
      · rw [upd_same, htk, List.filter_append, List.map_append, List.filter_cons_of_pos hcv]
        rfl
    | false =>
      rw [if_neg (by decide)]
      refine ⟨e3.trans e5, ?_⟩
      rw [e5 _ _ hD, htk, List.filter_append, List.filter_cons_of_neg (by rw [hcv]; decide), List.filter_nil, List.append_nil]
  · rintro H3 ⟨e3, hD⟩
    rw [List.take_length] at hD
    have ne : D ≠ d := ndd
    refine ⟨e3 _ _ hlk, q D _ hn1 (fun b o hb => ?_) (by rw [upd_ne ne]; exact hD)⟩
    by_cases hbd : b = d
    · rw [hbd, upd_same]
      rw [hbd, e1 _ _ hd] at hb
      exact hb
    · rw [upd_ne hbd]
      exact e3 _ _ (lk_get hb hbd)
/-- tuple(a new list) -/
theorem eu_tupleL {te : TE} {xs : List V} (h : EvL te σ H xs) : EvU (tCB (fun vs H Q => ∃ p ys, vs = [.ref p] ∧ ((SqL K H p ys ∧ ∀ l, H l = none → Q (.ref l) (upd H l (.tup ys))) ∨ (SqT K H p ys ∧ Q (.ref p) H))) (tCons te tNil)) σ H xs := by
  intro H1 e1 Q q
  refine h H1 e1 _ fun p H2 hp e2 h2 => ?_
  exact ⟨p, xs, rfl, .inl ⟨sq_of h2, fun l hl => q l _ (fresh_back e2 hl) (e2.trans (Ex.new hl)) upd_same⟩⟩
theorem ev_fld {te : TE} {o C dx : Addr} {fs : List (Str × V)} {f : Str} {v : V} (h : Ev te σ H (.ref o)) (ho : H o = some (.ins C dx fs)) (c : Cls K C) (n : NoAttr K C f) (hl : fs.lookup f = some v) : Ev (tFld K te f) σ H v :=
  fun H1 e Q q => h H1 e _ fun H2 e2 => ⟨o, C, dx, fs, v, rfl, (e.trans e2) _ _ ho, c, n, hl, q H2 e2⟩
theorem dget_ex {H' : Hp} {a : Addr} {y : V} {r : Option V} (e : Ex H H') (h : DGet H a y r) : DGet H' a y r := by
  rcases h with ⟨kvs, k, h1, h2, h3⟩ | ⟨kvs, k, b, h1, h2, h3, h4⟩
  · exact .inl ⟨kvs, k, ex_rd e h1, h2, h3⟩
  · exact .inr ⟨kvs, k, b, ex_rd e h1, h2, e _ _ h3, h4⟩
theorem ev_dget {td ty : TE} {d : Addr} {y v : V} (h : Ev td σ H (.ref d)) (h2 : Ev ty σ H y) (hg : DGet H d y (some v)) : Ev (tDGet td ty) σ H v :=
  fun H1 e Q q => h H1 e _ fun H2 e2 => h2 H2 (e.trans e2) _ fun H3 e3 => ⟨d, v, rfl, dget_ex ((e.trans e2).trans e3) hg, q H3 (e2.trans e3)⟩
end
end Vlk

set_option Elab.async false
set_option linter.all false
set_option maxRecDepth 100000
set_option maxHeartbeats 2000000
/-! What comes to data: whatever objects hold it. -/
namespace Ve
open PySem PySem.Spec PyProof.Rows L2 Vl Evl Vp Vr Vc Vlk Vda
mutual
theorem dp_ex {K : PySem.W.Frag} {H H' : Hp} (e : Ex H H') : ∀ {v : V} {d : PyData}, Dp K H v d → Dp K H' v d
  | _, _, .non => .non
  | _, _, .bl b => .bl b
  | _, _, .int i => .int i
  | _, _, .str x => .str x
  | _, _, .lst h hs => .lst (ex_l e h) (dpa_ex e hs)
  | _, _, .tup h hs => .tup (ex_t e h) (dpa_ex e hs)
theorem dpa_ex {K : PySem.W.Frag} {H H' : Hp} (e : Ex H H') : ∀ {v : List V} {d : List PyData}, DpAll K H v d → DpAll K H' v d
  | _, _, .nil => .nil
  | _, _, .cons h hs => .cons (dp_ex e h) (dpa_ex e hs)
end
def EvD (K : PySem.W.Frag) (te : TE) (σ : L2.St) (H : Hp) (d : PyData) : Prop := ∀ H1, Ex H H1 → ∀ Q : VK, (∀ v H2, Ex H1 H2 → Dp K H2 v d → Q v H2) → te σ H1 Q
def EvDA (K : PySem.W.Frag) (ta : TA) (σ : L2.St) (H : Hp) (ds : List PyData) : Prop := ∀ H1, Ex H H1 → ∀ Q : List V → Hp → Prop, (∀ vs H2, Ex H1 H2 → DpAll K H2 vs ds → Q vs H2) → ta σ H1 Q
def SpD (K : PySem.W.Frag) (sp : Sp) (vs : List V) (H : Hp) (d : PyData) : Prop := ∀ H1, Ex H H1 → ∀ Q : VK, (∀ v H2, Ex H1 H2 → Dp K H2 v d → Q v H2) → ∀ E : XK, sp vs H1 Q E
section
variable {K : PySem.W.Frag} {σ : L2.St} {H H' : Hp} {te ta tb : TE} {t : TA} {d e : PyData} {v : V}
theorem EvD.mono (x : Ex H H') (h : EvD K te σ H d) : EvD K te σ H' d := fun H1 a Q q => h H1 (x.trans a) Q q
theorem ed_ev (h : Ev te σ H v) (hd : Dp K H v d) : EvD K te σ H d := fun H1 e Q q => h H1 e Q fun H2 e2 => q v H2 e2 (dp_ex (e.trans e2) hd)
theorem ed_str {s : List Nat} (h : Ev te σ H (.str (tx s))) : EvD K te σ H (.str (tx s)) := ed_ev h (.str _)
theorem ed_U {xs : List V} {ds : List PyData} (h : EvU te σ H xs) (hd : DpAll K H xs ds) : EvD K te σ H (.tuple ds) := fun H1 e Q q => h H1 e Q fun p H2 _ e2 hp => q _ H2 e2 (.tup (.inl (.inl hp)) (dpa_ex (e.trans e2) hd))
theorem ed_L {xs : List V} {ds : List PyData} (h : EvL te σ H xs) (hd : DpAll K H xs ds) : EvD K te σ H (.list ds) := fun H1 e Q q => h H1 e Q fun p H2 _ e2 hp => q _ H2 e2 (.lst (sq_of hp) (dpa_ex (e.trans e2) hd))
theorem ed_Un {xs : List (List Nat)} (h : EvU te σ H (vtx xs)) : EvD K te σ H (wd xs) := ed_U h (dpa_vtx xs)
theorem ed_Ln {xs : List (List Nat)} (h : EvL te σ H (vtx xs)) : EvD K te σ H (wls xs) := ed_L h (dpa_vtx xs)
theorem eda_nil : EvDA K tNil σ H [] := fun H1 _ Q q => q [] H1 (Ex.refl _) .nil
theorem eda_cons {ds : List PyData} (h : EvD K te σ H d) (hr : EvDA K t σ H ds) : EvDA K (tCons te t) σ H (d :: ds) := fun H1 e Q q =>
  h H1 e _ fun v H2 e2 h2 => hr H2 (e.trans e2) _ fun vs H3 e3 h3 => q _ H3 (e2.trans e3) (.cons (dp_ex e3 h2) h3)
theorem dpa_len : ∀ {vs : List V} {ds : List PyData}, DpAll K H vs ds → vs.length = ds.length
  | _, _, .nil => rfl
  | _, _, .cons h hs => by
    rw [List.length_cons, List.length_cons, dpa_len hs]
theorem ed_tup {ds : List PyData} (h : EvDA K t σ H ds) (hl : ds.length ≤ 100000) : EvD K (tTup t) σ H (.tuple ds) := fun H1 e Q q =>
  h H1 e _ fun vs H2 e2 h2 => ⟨by rw [dpa_len h2]; exact sz_of hl, fun p hp => q _ _ (e2.trans (Ex.new hp)) (.tup (.inl (.inl upd_same)) (dpa_ex (Ex.new hp) h2))⟩
theorem ed_lst {ds : List PyData} (h : EvDA K t σ H ds) (hl : ds.length ≤ 100000) : EvD K (tLst t) σ H (.list ds) := fun H1 e Q q =>
  h H1 e _ fun vs H2 e2 h2 => ⟨by rw [dpa_len h2]; exact sz_of hl, fun p hp => q _ _ (e2.trans (Ex.new hp)) (.lst (sq_of upd_same) (dpa_ex (Ex.new hp) h2))⟩
theorem ev_eqD (h : EvD K ta σ H d) (h2 : EvD K tb σ H e) (s1 : SeqAt.shaped d = true) (s2 : SeqAt.shaped e = true) : Ev (tOp (rEqD K) ta tb) σ H (.bl (PyData.eqv d e)) := fun H1 x Q q =>
  h H1 x _ fun v H2 e2 hv => h2 H2 (x.trans e2) _ fun u H3 e3 hu => ⟨d, e, dp_ex e3 hv, hu, s1, s2, q H3 (e2.trans e3)⟩
theorem ev_neD (h : EvD K ta σ H d) (h2 : EvD K tb σ H e) (s1 : SeqAt.shaped d = true) (s2 : SeqAt.shaped e = true) : Ev (tOp (rNeD K) ta tb) σ H (.bl (!PyData.eqv d e)) := fun H1 x Q q =>
  h H1 x _ fun v H2 e2 hv => h2 H2 (x.trans e2) _ fun u H3 e3 hu => ⟨d, e, dp_ex e3 hv, hu, s1, s2, q H3 (e2.trans e3)⟩
theorem sh_lay (h : SeqAt.shaped d = true) : d.canLay0 = true := by
  unfold SeqAt.shaped at h
  exact (Bool.and_eq_true_iff.mp h).1
/-- the same data: equal -/
theorem ev_same (h : EvD K ta σ H d) (h2 : EvD K tb σ H d) (s : SeqAt.shaped d = true) : Ev (tOp (rEqD K) ta tb) σ H (.bl true) := by
  have := ev_eqD h h2 s s
  rw [SeqAt.eqv_refl d (sh_lay s)] at this
  exact this
theorem ev_unlike (h : EvD K ta σ H d) (h2 : EvD K tb σ H d) (s : SeqAt.shaped d = true) : Ev (tOp (rNeD K) ta tb) σ H (.bl false) := by
  have := ev_neD h h2 s s
  rw [SeqAt.eqv_refl d (sh_lay s)] at this
  exact this
theorem ed_fu {sp : Sp} {E : L2.St → XK} {vs : List V} (h : EvA t σ H vs) (hs : SpD K sp vs H d) : EvD K (tFu sp E t) σ H d := fun H1 e Q q =>
  h H1 e _ fun H2 e2 => hs H2 (e.trans e2) Q (fun v H3 e3 => q v H3 (e2.trans e3)) (E σ)
theorem et_yes : EvT tYes σ H true := fun H1 _ Q q => q H1 (Ex.refl _)
/-- tuple(a list that stands) -/
theorem eu_tupleA {p : Addr} {xs : List V} (h : Ev te σ H (.ref p)) (hx : SqL K H p xs) : EvU (tCB (fun vs H Q => ∃ p ys, vs = [.ref p] ∧ ((SqL K H p ys ∧ ∀ l, H l = none → Q (.ref l) (upd H l (.tup ys))) ∨ (SqT K H p ys ∧ Q (.ref p) H))) (tCons te tNil)) σ H xs := fun H1 e Q q =>
  h H1 e _ fun H2 e2 => ⟨p, xs, rfl, .inl ⟨ex_l (e.trans e2) hx, fun l hl => q l _ (fresh_back e2 hl) (e2.trans (Ex.new hl)) upd_same⟩⟩
theorem ev_lenA {p : Addr} {xs : List V} (h : Ev te σ H (.ref p)) (hx : SqL K H p xs) : Ev (tCB (fun vs H Q => ∃ x n, vs = [x] ∧ LenV K x H n ∧ Q (.int n) H) (tCons te tNil)) σ H (.int (xs.length : Nat)) := fun H1 e Q q =>
  h H1 e _ fun H2 e2 => ⟨.ref p, xs.length, rfl, .inl ⟨xs, ex_l (e.trans e2) hx, rfl⟩, q H2 e2⟩
theorem ev_ixA {p : Addr} {xs : List V} {i : Nat} (h : Ev te σ H (.ref p)) (hx : SqL K H p xs) (hi : xs[i]? = some v) : Ev (tOp (rIxL K) te (tC (.int (i : Nat)))) σ H v := ev_op h ev_c (rv_ixL hx (at_of rfl hi))
/-! comprehensions by their items -/
theorem given_map {α : Type} {ys : List α} (c : α → Bool) (w : α → V) (f : Nat → Bool) (v : Nat → V) (h : ∀ (i : Nat) (y : α), ys[i]? = some y → f i = c y ∧ v i = w y) : ∀ n, n ≤ ys.length → given n f v = ((ys.take n).filter c).map w
  | 0, _ => by rw [List.take_zero]; rfl
  | n + 1, hn => by
    have hlt : n < ys.length := by omega
    have hy : ys[n]? = some ys[n] := List.getElem?_eq_getElem hlt
    obtain ⟨h1, h2⟩ := h n _ hy
    have ih := given_map c w f v h n (by omega)
    have ht : ys.take (n + 1) = ys.take n ++ [ys[n]] := by rw [List.take_succ, hy]; rfl
    rw [ht, List.filter_append, List.map_append]
    cases hc : c ys[n] with
    | true =>
      rw [given_yes (by rw [h1]; exact hc), ih, List.filter_cons_of_pos hc, h2]
      rfl
    | false =>
      rw [given_no (by rw [h1]; exact hc), ih, List.filter_cons_of_neg (by rw [hc]; decide)]
      show _ = _ ++ []
      rw [List.append_nil]
theorem el_lcA {α : Type} {ys : List α} {g : α → V} {a : Addr} {tl : TE} {j : Nat} {vs : List Nat} {tt : TT} (c : α → Bool) (w : α → V) (h : Ev tl σ H (.ref a)) (hx : SqL K H a (ys.map g)) (hz : ys.length ≤ 40000) (hw : ∀ x, wipe ((wipe σ vs).set j (some x)) vs = wipe σ vs)
    (ht : ∀ (y : α) (H1 : Hp), Ex H H1 → y ∈ ys → EvT tt ((wipe σ vs).set j (some (g y))) H1 (c y)) (he : ∀ (y : α) (H1 : Hp), Ex H H1 → y ∈ ys → c y = true → Ev te ((wipe σ vs).set j (some (g y))) H1 (w y)) :
    EvL (tLc (iList K tl) (gName j) tt te vs) σ H ((ys.filter c).map w) := by
  have key := el_lcL (K := K) (σ := σ) (H := H) (te := te) (t := tt) (j := j) (vs := vs) (fun i => match ys[i]? with | some y => c y | none => false) (fun i => match ys[i]? with | some y => w y | none => .non) h hx (by rw [List.length_map]; exact hz) hw
    (fun i x H1 e hi => by
      rw [List.getElem?_map] at hi
      obtain ⟨y, hy, rfl⟩ := Option.map_eq_some_iff.mp hi
      rw [hy]
      exact ht y H1 e (List.mem_of_getElem? hy))
    (fun i x H1 e hi hf => by
      rw [List.getElem?_map] at hi
      obtain ⟨y, hy, rfl⟩ := Option.map_eq_some_iff.mp hi
      rw [hy] at hf ⊢
      exact he y H1 e (List.mem_of_getElem? hy) hf)
  rw [given_map c w _ _ (fun i y hy => by rw [hy]; exact ⟨rfl, rfl⟩) _ (by rw [List.length_map]; exact Nat.le_refl _), List.length_map, List.take_length] at key
  exact key
theorem el_lcM {α : Type} {ys : List α} {g : α → V} {a : Addr} {tl : TE} {j : Nat} {vs : List Nat} (w : α → V) (h : Ev tl σ H (.ref a)) (hx : SqL K H a (ys.map g)) (hz : ys.length ≤ 40000) (hw : ∀ x, wipe ((wipe σ vs).set j (some x)) vs = wipe σ vs)
    (he : ∀ (y : α) (H1 : Hp), Ex H H1 → y ∈ ys → Ev te ((wipe σ vs).set j (some (g y))) H1 (w y)) :
    EvL (tLc (iList K tl) (gName j) tYes te vs) σ H (ys.map w) := by
  have := el_lcA (K := K) (tt := tYes) (te := te) (fun _ => true) w h hx hz hw (fun y H1 _ _ => et_yes) (fun y H1 e hy _ => he y H1 e hy)
  rw [List.filter_eq_self.mpr (fun _ _ => rfl)] at this
  exact this
theorem s_forNUn {D : Ends} {tu : TS} {xs : List V} {tl : TE} {j : Nat} (h : EvU tl σ H xs) (Pv : Addr → Nat → L2.St → Hp → Prop) (h0 : ∀ p H1, H p = none → Ex H H1 → H1 p = some (.tup xs) → Pv p 0 σ H1) (hl : ∀ p i σ' H', i ≤ xs.length → Pv p i σ' H' → SqT K H' p xs)
    (hs : ∀ p i x σ' H', xs[i]? = some x → Pv p i σ' H' → tu { D with nx := Pv p (i + 1), ct := Pv p (i + 1), bk := D.nx } (σ'.set j (some x)) H') (hd : ∀ p σ' H', Pv p xs.length σ' H' → D.nx σ' H') : tFor (iTup K tl) (gName j) tu D σ H :=
  h H (Ex.refl H) _ fun p H1 hp e h1 => ⟨p, rfl, ⟨xs, .inl (.inl h1)⟩, for_tup (Pv p) (h0 p H1 hp e h1) (hl p) (hs p) (hd p)⟩
theorem et_notin {ty td : TE} {d : Addr} {y : V} {o : Option V} (h1 : Ev ty σ H y) (h2 : Ev td σ H (.ref d)) (hg : DGet H d y o) : EvT (tB (tDNotIn ty td)) σ H (!o.isSome) := fun H1 e Q q =>
  h1 H1 e _ fun H2 e2 => h2 H2 (e.trans e2) _ fun H3 e3 => ⟨d, o, rfl, dget_ex ((e.trans e2).trans e3) hg, _, rfl, q H3 (e2.trans e3)⟩
theorem et_in {ty td : TE} {d : Addr} {y : V} {o : Option V} (h1 : Ev ty σ H y) (h2 : Ev td σ H (.ref d)) (hg : DGet H d y o) : EvT (tB (tDIn ty td)) σ H o.isSome := fun H1 e Q q =>
  h1 H1 e _ fun H2 e2 => h2 H2 (e.trans e2) _ fun H3 e3 => ⟨d, o, rfl, dget_ex ((e.trans e2).trans e3) hg, _, rfl, q H3 (e2.trans e3)⟩
theorem et_truL {p : Addr} {xs : List V} (h : Ev te σ H (.ref p)) (hx : SqL K H p xs) : EvT (fun σ H Q => te σ H fun x H' => ∃ k, TruV K x H' k ∧ Q k H') σ H (!xs.isEmpty) := fun H1 e Q q =>
  h H1 e _ fun H2 e2 => ⟨_, .inl ⟨xs, ex_l (e.trans e2) hx, rfl⟩, q H2 e2⟩
theorem q_forNUn {D : Ends} {tu tz : TS} {xs : List V} {tl : TE} {j : Nat} (h : EvU tl σ H xs) (Pv : Addr → Nat → L2.St → Hp → Prop) (h0 : ∀ p H1, H p = none → Ex H H1 → H1 p = some (.tup xs) → Pv p 0 σ H1) (hl : ∀ p i σ' H', i ≤ xs.length → Pv p i σ' H' → SqT K H' p xs)
    (hs : ∀ p i x σ' H', xs[i]? = some x → Pv p i σ' H' → tu { D with nx := Pv p (i + 1), ct := Pv p (i + 1), bk := tz D } (σ'.set j (some x)) H') (hd : ∀ p σ' H', Pv p xs.length σ' H' → tz D σ' H') : tSeq (tFor (iTup K tl) (gName j) tu) tz D σ H :=
  h H (Ex.refl H) _ fun p H1 hp e h1 => ⟨p, rfl, ⟨xs, .inl (.inl h1)⟩, for_tup (Pv p) (h0 p H1 hp e h1) (hl p) (hs p) (hd p)⟩
end
end Ve

set_option Elab.async false
set_option linter.all false
set_option maxRecDepth 100000
set_option maxHeartbeats 2000000
/-! enumerate(x), for .. in x: x a list or a tuple. -/
namespace PySem
open Sem (wp)
theorem vmeets_enumerate {v : Value} {o : Obj} {H : Heap → Prop} (B : Begins v o H) :
    Meets (Builtin.«enumerate.__new__» ⟨[.type "enumerate", v], []⟩) (fun _ R s => H s.heap ∧
      R (.ok (.ret (.ref (s.heap.push o).objs.size))) { s with heap := (s.heap.push o).push { cls := .type "enumerate", data := .fields #[.none, .bool false, .ref s.heap.objs.size, rawInt 0, .none, .none] } }) :=
  .of_wp fun prog w A R s h => by
    obtain ⟨hp, g, d, tk, os⟩ := s; obtain ⟨h1, h⟩ := h
    have hsub := sub_enumerate
    have q1 : ∀ {A' : Around} {E : Value → Shared → Prop} {Q : Value → Shared → Prop}, Q (.ref hp.objs.size) ⟨hp.push o, g, d, tk, os⟩ → wpAny (model prog w) A' (pyIter v) Q E ⟨hp, g, d, tk, os⟩ :=
      fun q => B.iter prog w _ _ ⟨hp, g, d, tk, os⟩ _ h1 q
    wp_walk using q1
    refine wpAny_stack_any fun st => wpAny_pure ?_
    split
    · rename_i c _ _ _ _ _
      cases (c == Value.type "enumerate")
      · wp_walk using q1
        exact ⟨_, rfl, h⟩
      · wp_walk using q1
        exact ⟨_, rfl, h⟩
    · wp_walk using q1
      exact ⟨_, rfl, h⟩
section
variable {prog : Program} {w : World} {A : Around} {E : Value → Shared → Prop} {s : Shared}
theorem vcall_enumerate {v : Value} {o : Obj} {H : Heap → Prop} {Q : Value → Shared → Prop} (B : Begins v o H) (h1 : H s.heap)
    (h : ∀ h', IsEnum h' (s.heap.objs.size + 1) s.heap.objs.size 0 .none → h'.get? s.heap.objs.size = some o → h'.objs.size = s.heap.objs.size + 2 →
      (∀ b o, s.heap.get? b = some o → h'.get? b = some o) → Q (.ref (s.heap.objs.size + 1)) { s with heap := h' }) :
    wpAny (model prog w) A (call (.type "enumerate") [v]) Q E s := by
  refine callType_new F.called_enumerate (by decide) (F.typeCall_enumerate_1 _) (F.newCall_enumerate_1 _) (fun obj => F.args_object_init_2 obj _) F.entry_enumerate_new
    (vmeets_enumerate B) ⟨h1, ?_⟩
  have hz : (s.heap.push o).objs.size = s.heap.objs.size + 1 := Heap.size_push ..
  show _ ∧ _
  rw [hz]
  have he : IsEnum ((s.heap.push o).push { cls := .type "enumerate", data := .fields #[.none, .bool false, .ref s.heap.objs.size, rawInt 0, .none, .none] }) (s.heap.objs.size + 1) s.heap.objs.size 0 .none := by
    have := Heap.get?_push_size (s.heap.push o) (o := { cls := .type "enumerate", data := .fields #[.none, .bool false, .ref s.heap.objs.size, rawInt 0, .none, .none] }) rfl
    rw [hz] at this; exact this
  refine ⟨⟨_, he, rfl⟩, h _ he (Heap.get?_push_of_some _ (Heap.get?_push_size _ B.free)) (by rw [Heap.size_push, hz]) fun b o x => Heap.get?_push_of_some _ (Heap.get?_push_of_some _ x)⟩
end
end PySem
namespace Ven
open PySem PySem.Spec PyProof.Rows L2 Evl Ve
/-- the tuple at a, each item in a new pair -/
def IteT (K : PySem.W.Frag) (a : Addr) : It :=
  ⟨fun i H => ∃ (xs : List V) (x : V), SqT K H a xs ∧ xs[i]? = some x, fun i H v H' => ∃ T x, v = .ref T ∧ H T = none ∧ H' = upd H T (.tup [.int (i : Nat), x]) ∧ ∀ xs, SqT K H a xs → xs[i]? = some x, fun i H => ∃ xs : List V, SqT K H a xs ∧ xs.length ≤ i⟩
theorem turn_enumT {P : Program} {w : World} {K : PySem.W.Frag} {elts : List Expr} {kk : Nat} {tpos : Pos} (a e it : Addr) :
    Turn P w K (.Tuple elts kk tpos) (IteT K a) [e, it] e (fun i h => (∃ old, IsEnum h e it ((i : Nat) : Int) old) ∧ h.IsTupleIter it a i ∧ e ≠ it) where
  mem := by simp
  obj := fun i h st b hb => by
    obtain ⟨⟨old, he⟩, ⟨o, ho, hc, hd⟩, _⟩ := st
    have e' : b = e ∨ b = it := by simpa using hb
    rcases e' with z | z
    · rw [z]; exact ⟨_, he, fun v q => nomatch q⟩
    · rw [z]; exact ⟨o, ho, fun v q => by rw [hd] at q; cases q⟩
  keep := fun i h h' st k => let ⟨⟨old, he⟩, hi, hne⟩ := st; ⟨⟨old, k e (by simp) _ he⟩, hi.at fun o q => k it (by simp) o q, hne⟩
  item := by
    intro X hP hw hK hc i pins s σ H E I hf st hg
    subst hP hw hK
    obtain ⟨⟨old, he⟩, hit, hne⟩ := st
    obtain ⟨xs, x, hq, hx⟩ := hg
    obtain ⟨its, rv, p, hz⟩ := I.tuple hq
    obtain ⟨u, hu, ru⟩ := rv.get hx
    have hel : e < s.heap.objs.size := Heap.lt_size he
    have hil : it < s.heap.objs.size := by obtain ⟨_, q, _⟩ := hit; exact Heap.lt_size q
    have pt : s.heap.IsTuple a its.toArray := p
    have hta : a ≠ it := fun z => by
      obtain ⟨o1, h1, c1, d1⟩ := hit
      obtain ⟨o2, h2, c2, _⟩ := pt
      rw [z, h1] at h2
      cases h2
      rw [c1] at c2
      exact absurd c2 (by decide)
    have hea : e ≠ a := fun z => by
      obtain ⟨o2, h2, c2, _⟩ := pt
      rw [← z] at h2
      have h3 := he
      unfold IsEnum at h3
      rw [h3] at h2
      cases h2
      have c3 : Value.type "enumerate" = Value.type "tuple" := c2
      injection c3 with c4
      exact absurd c4 (by decide)
    have hh1 : X.A.in1.handled = none := I.ok.hd hc
    refine wpAny_pyNext_enum_itemD (i := i) (Draws.tuple hh1 it a hta its.toArray) he ⟨hit, pt⟩ (by
      have := (List.getElem?_eq_some_iff.mp hu).1
      simpa using this) hne (by simp [hne, hea]) fun y h' tk hy ho hs' hT hsz hk => ?_
    have hyu : y = u := by
      have : its.toArray[i]? = some u := by simpa using hu
      rw [this] at hy
      exact (Option.some.inj hy).symm
    subst hyu
    obtain ⟨hit', _⟩ := hs'
    refine ⟨_, rfl, wpAny_letOwnedTupleGo_enum (s := { s with heap := h', toks := tk + 1 }) ho fun h'' he' sb => ?_⟩
    have hT2 : h''.get? s.heap.objs.size = some { cls := .type "tuple", data := .seq #[.int i tk, y] } := (sb.2 _ (Nat.ne_of_gt hel)).trans hT
    have new : ObjOk X.prog X.w (upd H s.heap.objs.size (.tup [.int (i : Nat), x])) h'' s.heap.objs.size (.tup [.int (i : Nat), x]) :=
      ⟨by show 2 ≤ sizeLine; decide, [.int i tk, y], .cons ⟨_, rfl⟩ (.cons ru .nil), ⟨_, hT2, rfl, _, rfl⟩⟩
    have I1 : Inv X pins σ (upd H s.heap.objs.size (.tup [.int (i : Nat), x])) { s with heap := h'', toks := tk + 1 } :=
      I.turnedNew (ch := [e, it]) (fun b ob hb q => (sb.2 b (fun z => hb (by simp [z]))).trans (hk b ob (fun z => hb (by simp [z])) (fun z => hb (by simp [z])) q)) hf (Nat.le_refl _) new
    refine ⟨.ref s.heap.objs.size, _, I1, rfl, ⟨_, x, rfl, I.hok.fresh (Nat.le_refl _), rfl, fun ys hy => by rw [I.tuple_inj hy hq]; exact hx⟩, ⟨⟨y, ?_⟩, hit'.at fun o q => (sb.2 it (Ne.symm hne)).trans q, hne⟩, fun b hb => ?_⟩
    · have e1 : ((i + 1 : Nat) : Int) = (i : Int) + 1 := by omega
      rw [e1]; exact he'
    · have hb' : b < s.heap.objs.size := by
        have e' : b = e ∨ b = it := by simpa using hb
        rcases e' with z | z
        · rw [z]; exact hel
        · rw [z]; exact hil
      rw [upd_ne (Nat.ne_of_lt hb')]
      exact (hf b hb).1
  done := by
    intro X hP hw hK hc i pins s σ H E I hf st hg
    subst hP hw hK
    obtain ⟨⟨old, he⟩, hit, hne⟩ := st
    obtain ⟨xs, hq, hx⟩ := hg
    obtain ⟨its, rv, p, hz⟩ := I.tuple hq
    obtain ⟨f0, f1, f2, f3, f4, f5⟩ := hf it (by simp)
    have hl := rv.length
    have pt : s.heap.IsTuple a its.toArray := p
    have hh1 : X.A.in1.handled = none := I.ok.hd hc
    have hT : s.TypeIs (.ref e) "enumerate" := ⟨_, he, rfl⟩
    unfold pyNext
    refine wpAny_bind (wpAny_attempt (wpAny_callSpecial?_slot (name := Str.ofString "__next__") hT F.slot_enumerate_next
      (wpAny_call_entry F.slot_enumerate_next hT F.entry_enumerate_next ?_ (F.args_enumerate_next_1 _))))
    show wpAny _ _ (field (.ref e) 2 >>= _) _ _ _
    refine wpAny_bind (wpAny_field he rfl (x := .ref it) rfl ?_)
    refine wpAny_bind (wpAny_nextOf_tuple_end hh1 hit pt (by simp; omega) fun h' x he' hx' => ?_)
    obtain ⟨o, ho, hc⟩ := hx'
    refine wpAny_bind (wpAny_isInstance (T := "StopIteration") (b := true) ⟨o, ho, hc⟩ isSubtype_stop ?_)
    exact wpAny_pure ⟨rfl, I.turned (t' := s.toks) (fun b o hb q => he' b o hb q) f0 f1 f3 f4 f5⟩
  self := fun A i s Q E st h => let ⟨⟨_, he⟩, _⟩ := st; wpAny_pyIter_enum he h
/-- a list or a tuple -/
def SqA (K : PySem.W.Frag) (H : Hp) (a : Addr) (xs : List V) : Prop := SqL K H a xs ∨ SqT K H a xs
theorem ex_a {K : PySem.W.Frag} {H H' : Hp} {a : Addr} {xs : List V} (e : Ex H H') (h : SqA K H a xs) : SqA K H' a xs := h.imp (ex_l e) (ex_t e)
def iEnumA (K : PySem.W.Frag) (ta : TA) : TI := fun σ H R => ta σ H fun vs H1 => ∃ a xs, vs = [.ref a] ∧ ((SqL K H1 a xs ∧ R (Ite K a) H1) ∨ (SqT K H1 a xs ∧ R (IteT K a) H1))
theorem pi_enumA {X : Cx} {e : Expr} {ta : TA} {p pos tpos : Pos} {elts : List Expr} {kk : Nat} (hg : Gl X "enumerate") (hm : X.mg "enumerate" = none) (ha : PA X [e] ta) (hs : starEach [e] X.env = [(false, eval e X.env)] := by rfl) :
    PI X (.Tuple elts kk tpos) (.Call (.Name "enumerate" p) [e] [] pos) (iEnumA X.K ta) := by
  refine ⟨fun pins s σ H R I h => ?_⟩
  refine Call_ (ld_blt I hg hm boot_enumerate (PyProof.Rows.callWith_type1 (thn (ha.run pos pins s σ H _ I h) fun us s1 ⟨vs, H1, I1, r1, q1⟩ => ?_) hs rfl))
  obtain ⟨a, xs, ex, q⟩ := q1
  subst ex
  cases r1 with
  | cons r rr =>
    cases rr
    cases r
    have fin : ∀ {o : Obj} {Hh : Heap → Prop} {J : It} {St : Nat → Heap → Prop}, Begins (.ref a) o Hh → Hh s1.heap → Turn X.prog X.w X.K (.Tuple elts kk tpos) J [s1.heap.objs.size + 1, s1.heap.objs.size] (s1.heap.objs.size + 1) St →
        (∀ h', IsEnum h' (s1.heap.objs.size + 1) s1.heap.objs.size 0 .none → h'.get? s1.heap.objs.size = some o → St 0 h') → R J H1 →
        wpAny (model X.prog X.w) X.A (call (.type "enumerate") [.ref a]) (fun v => wpAny (model X.prog X.w) X.A (pyIter v) (PIE X pins σ (.Tuple elts kk tpos) R) X.xe) X.xe s1 := fun B hB T hst q => by
      refine vcall_enumerate B hB fun h' he hit hsz hk => wpAny_pyIter_enum he ?_
      have I2 : Inv X pins σ H1 { s1 with heap := h' } := I1.kept (t' := s1.toks) hk
      refine ⟨s1.heap.objs.size + 1, [s1.heap.objs.size + 1, s1.heap.objs.size], _, _, H1, rfl, I2, T, hst h' he hit, fun b hb => ?_, q⟩
      have e' : b = s1.heap.objs.size + 1 ∨ b = s1.heap.objs.size := by simpa using hb
      have hle : s1.heap.objs.size ≤ b := by
        rcases e' with z | z
        · rw [z]; exact Nat.le_add_right _ _
        · rw [z]; exact Nat.le_refl _
      exact I1.fpOk hle (I1.hok.fresh hle)
    rcases q with ⟨hq, q⟩ | ⟨hq, q⟩
    · obtain ⟨its, rv, p', hz⟩ := I1.list hq
      exact fin (begins_list a its.toArray) p'.isList (turn_enum a _ _) (fun h' he hit => ⟨⟨.none, he⟩, ⟨_, hit, rfl, rfl⟩, Nat.succ_ne_self _⟩) q
    · obtain ⟨its, rv, p', hz⟩ := I1.tuple hq
      exact fin (begins_tuple a its.toArray) (show s1.heap.IsTuple a its.toArray from p') (turn_enumT a _ _) (fun h' he hit => ⟨⟨.none, he⟩, ⟨_, hit, rfl, rfl⟩, Nat.succ_ne_self _⟩) q
def iSeqA (K : PySem.W.Frag) (tl : TE) : TI := fun σ H R => tl σ H fun x H1 => ∃ a, x = .ref a ∧ (((∃ xs, SqL K H1 a xs) ∧ R (Itl K a) H1) ∨ ((∃ xs, SqT K H1 a xs) ∧ R (Itt K a) H1))
theorem pi_seqA {X : Cx} {tg l : Expr} {tl : TE} (hl : PE X l tl) : PI X tg l (iSeqA X.K tl) := by
  refine ⟨fun pins s σ H R I h => ?_⟩
  refine thn (hl.run pins s σ H _ I h) fun v s1 ⟨x, H1, I1, r1, q1⟩ => ?_
  obtain ⟨a, e, ⟨⟨xs, hq⟩, q⟩ | ⟨⟨xs, hq⟩, q⟩⟩ := q1
  · subst e
    cases r1
    obtain ⟨its, rv, p, hz⟩ := I1.list hq
    refine wpAny_pyIter_list p.isList ?_
    refine ⟨s1.heap.objs.size, [s1.heap.objs.size], _, _, H1, rfl, I1.kept (t' := s1.toks) fun b o e => Heap.get?_push_of_some _ e, turn_list a _, ⟨_, Heap.get?_push_size _ rfl, rfl, rfl⟩, fun b hb => ?_, q⟩
    have e : b = s1.heap.objs.size := by simpa using hb
    subst e
    exact I1.fpOk (Nat.le_refl _) (I1.hok.fresh (Nat.le_refl _))
  · subst e
    cases r1
    obtain ⟨its, rv, p, hz⟩ := I1.tuple hq
    refine wpAny_pyIter_tuple (show s1.heap.IsTuple a its.toArray from p) ?_
    refine ⟨s1.heap.objs.size, [s1.heap.objs.size], _, _, H1, rfl, I1.kept (t' := s1.toks) fun b o e => Heap.get?_push_of_some _ e, turn_tuple a _, ⟨_, Heap.get?_push_size _ rfl, rfl, rfl⟩, fun b hb => ?_, q⟩
    have e : b = s1.heap.objs.size := by simpa using hb
    subst e
    exact I1.fpOk (Nat.le_refl _) (I1.hok.fresh (Nat.le_refl _))
/-! their readings -/
section
variable {K : PySem.W.Frag} {σ : L2.St} {H : Hp} {D : Ends} {tu : TS} {g : TG} {a : Addr} {xs : List V}
def YEn (xs : List V) : Nat → Hp → V → Hp → Prop := fun i H v H' => ∃ T x, v = .ref T ∧ H T = none ∧ H' = upd H T (.tup [.int (i : Nat), x]) ∧ xs[i]? = some x
theorem walk_en : Walk (Ite K a) xs.length (fun H => SqL K H a xs) (YEn xs) :=
  ⟨fun i _ hi q => ⟨xs, xs[i], q, by simp [hi]⟩, fun _ q => ⟨xs, q, Nat.le_refl _⟩, fun _ _ _ _ _ q y => let ⟨T, x, h1, h2, h3, h4⟩ := y; ⟨T, x, h1, h2, h3, h4 xs q⟩⟩
theorem walk_enT : Walk (IteT K a) xs.length (fun H => SqT K H a xs) (YEn xs) :=
  ⟨fun i _ hi q => ⟨xs, xs[i], q, by simp [hi]⟩, fun _ q => ⟨xs, q, Nat.le_refl _⟩, fun _ _ _ _ _ q y => let ⟨T, x, h1, h2, h3, h4⟩ := y; ⟨T, x, h1, h2, h3, h4 xs q⟩⟩
theorem s_forEn {ta : TA} (h : EvA ta σ H [.ref a]) (hx : SqA K H a xs) (Pv : Nat → L2.St → Hp → Prop) (h0 : ∀ H1, Ex H H1 → Pv 0 σ H1) (hl : ∀ i σ' H', Pv i σ' H' → Ex H H')
    (hs : ∀ i x T σ' H', xs[i]? = some x → Pv i σ' H' → H' T = none → g (.ref T) σ' (upd H' T (.tup [.int (i : Nat), x])) fun σ2 H2 => tu { D with nx := Pv (i + 1), ct := Pv (i + 1), bk := D.nx } σ2 H2) (hd : ∀ σ' H', Pv xs.length σ' H' → D.nx σ' H') : tFor (iEnumA K ta) g tu D σ H :=
  h H (Ex.refl H) _ fun H1 e => ⟨a, xs, rfl, by
    rcases hx with hx | hx
    · exact .inl ⟨ex_l e hx, for_it walk_en Pv (h0 H1 e) (fun i σ' H' _ p => ex_l (hl i σ' H' p) hx) (fun i v σ' H' H2 _ p ⟨T, x, e1, e2, e3, e4⟩ => by subst e1 e3; exact hs i x T σ' H' e4 p e2) hd⟩
    · exact .inr ⟨ex_t e hx, for_it walk_enT Pv (h0 H1 e) (fun i σ' H' _ p => ex_t (hl i σ' H' p) hx) (fun i v σ' H' H2 _ p ⟨T, x, e1, e2, e3, e4⟩ => by subst e1 e3; exact hs i x T σ' H' e4 p e2) hd⟩⟩
theorem s_forSq {tl : TE} (h : Ev tl σ H (.ref a)) (hx : SqA K H a xs) (Pv : Nat → L2.St → Hp → Prop) (h0 : ∀ H1, Ex H H1 → Pv 0 σ H1) (hl : ∀ i σ' H', Pv i σ' H' → Ex H H')
    (hs : ∀ i x σ' H', xs[i]? = some x → Pv i σ' H' → g x σ' H' fun σ2 H2 => tu { D with nx := Pv (i + 1), ct := Pv (i + 1), bk := D.nx } σ2 H2) (hd : ∀ σ' H', Pv xs.length σ' H' → D.nx σ' H') : tFor (iSeqA K tl) g tu D σ H :=
  h H (Ex.refl H) _ fun H1 e => ⟨a, rfl, by
    rcases hx with hx | hx
    · exact .inl ⟨⟨xs, ex_l e hx⟩, for_list Pv (h0 H1 e) (fun i σ' H' _ p => ex_l (hl i σ' H' p) hx) hs hd⟩
    · exact .inr ⟨⟨xs, ex_t e hx⟩, for_tup Pv (h0 H1 e) (fun i σ' H' _ p => ex_t (hl i σ' H' p) hx) hs hd⟩⟩
theorem ev_lenQ {te : TE} (h : Ev te σ H (.ref a)) (hx : SqA K H a xs) : Ev (tCB (fun vs H Q => ∃ x n, vs = [x] ∧ LenV K x H n ∧ Q (.int n) H) (tCons te tNil)) σ H (.int (xs.length : Nat)) := fun H1 e Q q =>
  h H1 e _ fun H2 e2 => ⟨.ref a, xs.length, rfl, (ex_a (e.trans e2) hx).imp (fun h => ⟨xs, h, rfl⟩) (fun h => ⟨xs, h, rfl⟩), q H2 e2⟩
end
end Ven

set_option Elab.async false
set_option linter.all false
set_option maxRecDepth 100000
set_option maxHeartbeats 4000000
namespace K17
open PySem PySem.Spec PyProof.Rows L2 Vl Evl Vp Vx2 Ven
abbrev sChkP : Stmt := top 24
/-- the first of ns that is not in ps is l -/
def FirstOut (ns ps : List (List Nat)) (l : List Nat) : Prop := ∃ i : Nat, ns[i]? = some l ∧ l ∉ ps ∧ ∀ (j : Nat) (y : List Nat), j < i → ns[j]? = some y → y ∈ ps
/-- check_posts(net, names) -/
def spChkP (K : PySem.W.Frag) (C NP : Addr) : Sp := fun vs H Q E => ∃ (o dx dp de t : Addr) (ps : List (List Nat)) (es : List Row) (ns : List (List Nat)), vs = [.ref o, .ref t] ∧ NetAt C H o dx dp de ps es ∧ SqA K H t (vtx ns) ∧
  (((∀ l ∈ ns, l ∈ ps) ∧ ∀ H', Ex H H' → Q .non H') ∨ ∃ l, FirstOut ns ps l ∧ RaisedF NP "name" H (.str (tx l)) E)
section
variable {P : Program} {w : World} {K : PySem.W.Frag} {mg : Str → Option Value} {base : Heap} {C NP pL fL : Addr}
theorem scCP : FnScope ["net", "names", "name"] ["net", "names"] (defScope sChkP) := ⟨rfl, rfl, rfl, by decide +kernel, rfl, by decide +kernel, by decide +kernel⟩
theorem ok_chkp {f : Addr} {fd fdL : FuncData} (F : FnP K "check_posts" sChkP f fd) (c : Cls K C) (hp : PropOf K C "posts" pL fL) (bL : Binds K fdL ["self"] []) (GL : FnOk P w K mg base CX0 1 fL fdL ["self"] (spPosts C)) (EP : Err1 P w K mg base "NoPost" "name" NP) :
    FnOk P w K mg base (L2.CX P w) 3 f fd ["net", "names"] (spChkP K C NP) := by
  obtain ⟨fE, fdE, iC, tI, bE, GE⟩ := EP.ini
  refine F.ok (CX := L2.CX P w) scCP (fun vs H Q E h => ?_) (fun cdv A outer s H vs Q E hr h => ?_)
  · obtain ⟨o, dx, dp, de, t, ps, es, ns, rfl, _⟩ := h
    rfl
  · have hr2 : Room 2 _ := hr
    refine ⟨_, (pss_one (ps_for (passes_of rfl) rfl (pi_seqA (pv 1)) (pg_name (i := 2) scCP.nd rfl (by first | exact Or.inl rfl | exact Or.inr rfl))
      (pss_one (ps_if (pt_cmpR op_notIn_seq (pv 2) (pe_prop (E := E0) (pv 0) c hp GL hr2 bL .nil pass0 (by rfl)) rfl) (pss_one (ps_raise rfl (takes_of rfl rfl rfl rfl) (pmk_oex EP.T iC tI GE hr2 bE .nil pass0 (by rfl) EP.g (pa_cons (pv 2) pa_nil)))) pss_nil)))), ?_⟩
    obtain ⟨o, dx, dp, de, t, ps, es, ns, rfl, N, ht, h⟩ := h
    refine s_forSq (a := t) (ev_var rfl) ht (fun i st H' => ∃ t2, st = [some (.ref o), some (.ref t), t2] ∧ Ex H H' ∧ ∀ (j : Nat) (y : List Nat), j < i → ns[j]? = some y → y ∈ ps)
      (fun H1 e => ⟨none, rfl, e, fun j y hj => absurd hj (Nat.not_lt_zero j)⟩) (fun i st H' ⟨_, _, e, _⟩ => e) ?_ ?_
    · rintro i x σ' H1 hx ⟨t2, rfl, e1, hall⟩
      unfold vtx at hx
      rw [List.getElem?_map] at hx
      obtain ⟨l, hl, rfl⟩ := Option.map_eq_some_iff.mp hx
      have N1 := N.mono e1
      refine ⟨_, rfl, _, rfl, o, dx, _, rfl, N1.at_, o, dx, dp, de, ps, es, rfl, N1, fun tt ntt => ?_⟩
      have e2 := e1.trans (Ex.new (o := .tup (vtx ps)) ntt)
      refine ⟨tt, vtx ps, rfl, .inr (.inl (.inl upd_same)), rfl, flat_vtx ps, _, rfl, ?_⟩
      rw [if_pos rfl, inV_vtx]
      by_cases hm : l ∈ ps
      · refine if_f (by rw [decide_eq_true hm]; decide) ?_
        refine ⟨_, rfl, e2, fun j y hj hy => ?_⟩
        by_cases hji : j < i
        · exact hall j y hji hy
        · obtain rfl : j = i := by omega
          rw [hl] at hy
          obtain rfl := Option.some.inj hy
          exact hm
      · refine if_t (by rw [decide_eq_false hm]; rfl) ?_
        rcases h with ⟨ha, _⟩ | ⟨l2, ⟨i2, g1, g2, g3⟩, q⟩
        · exact absurd (ha l (List.mem_of_getElem? hl)) hm
        · have ei : i = i2 := by
            rcases Nat.lt_trichotomy i i2 with h1 | h1 | h1
            · exact absurd (g3 i l h1 hl) hm
            · exact h1
            · exact absurd (hall i2 l2 h1 g1) g2
          rw [ei] at hl
          rw [hl] at g1
          obtain rfl := Option.some.inj g1
          exact raised_f (W := fun cls d _ H' => E cls d H') 2 rfl rfl (RaisedF.grow q e2)
    · rintro st H1 ⟨t2, rfl, e1, hall⟩
      rcases h with ⟨ha, q⟩ | ⟨l2, ⟨i2, g1, g2, g3⟩, q⟩
      · exact q H1 e1
      · exact absurd (hall i2 l2 (by rw [vtx_len]; exact (List.getElem?_eq_some_iff.mp g1).1) g1) g2
end
end K17

set_option Elab.async false
set_option linter.all false
set_option maxRecDepth 100000
set_option maxHeartbeats 4000000
namespace K17
open PySem PySem.Spec PyProof.Rows L2 Vl Evl Vp Vx2
def laneNames (es : List Row) : List (List Nat) := es.map fun e => e.2.1
theorem ends_val (es : List Row) (l : List Nat) : (valV (dEnds es) (Sum.inr (tx l) : Key)).isSome = decide (l ∈ laneNames es) := by
  induction es with
  | nil => rfl
  | cons x r ih =>
    unfold dEnds laneNames at *
    rw [List.map_cons, List.map_cons]
    by_cases h : x.2.1 = l
    · rw [valV_pos (by rw [h]), decide_eq_true (by rw [h]; exact List.mem_cons_self)]
      rfl
    · have hn : ¬ (Sum.inr (tx x.2.1) : Key) = Sum.inr (tx l) := fun z => h (tx_inj (Sum.inr.inj z))
      rw [valV_neg hn, ih]
      by_cases hm : l ∈ r.map fun e => e.2.1
      · rw [decide_eq_true hm, decide_eq_true (List.mem_cons_of_mem _ hm)]
      · rw [decide_eq_false hm, decide_eq_false (fun z => (List.mem_cons.mp z).elim (fun e => h e.symm) hm)]
/-- x in net -/
def spHas (K : PySem.W.Frag) (C : Addr) : Sp := fun vs H Q _ => ∃ (o dx dp de : Addr) (y : V) (ps : List (List Nat)) (es : List Row), vs = [.ref o, y] ∧ NetAt C H o dx dp de ps es ∧
  ((∃ l, y = .str (tx l) ∧ Q (.bl (decide (l ∈ laneNames es))) H) ∨ (∃ t : String, TyX K H y (.type t) ∧ kitB t "str" = some false ∧ Q (.bl false) H))
section
variable {P : Program} {w : World} {K : PySem.W.Frag} {mg : Str → Option Value} {base : Heap} {C : Addr}
theorem scHs : FnScope ["self", "x"] ["self", "x"] (defScope sHas) := ⟨rfl, rfl, rfl, by decide +kernel, rfl, by decide +kernel, by decide +kernel⟩
theorem ok_has {f : Addr} {fd : FuncData} (F : FnM K "__contains__" "Net.__contains__" sHas f fd) (c : Cls K C) (n1 : NoAttr K C "_ends") (mI : mg "isinstance" = none) (mS : mg "str" = none) : FnOk P w K mg base CX0 1 f fd ["self", "x"] (spHas K C) := by
  refine F.ok (CX := CX0) scHs (fun vs H Q E h => ?_) (fun cdv A outer s H vs Q E hr h => ?_)
  · obtain ⟨o, dx, dp, de, y, ps, es, rfl, _⟩ := h
    rfl
  · refine ⟨_, pss_one (ps_ret (pe_and (pe_callB call_isi (by rfl) mI boot_isinstance (pa_cons (pv 1) (pa_cons (pe_bltn (v := V.ty "str") (by rfl) mS boot_str rfl) pa_nil)))
      (pe_one (pe_cmp (pc_din (Nat.lt_of_le_of_lt (Nat.add_le_add_left (show 1 ≤ 64 by decide) _) hr.units) (pv 1) (pe_fld (pv 0) rfl)))))), ?_⟩
    obtain ⟨o, dx, dp, de, y, ps, es, rfl, N, h⟩ := h
    rcases h with ⟨l, rfl, q⟩ | ⟨t, ht, hk, q⟩
    · refine ⟨_, rfl, V.str (tx l), V.ty "str", .type "str", .type "str", true, rfl, .ty _, .base (.str _), kit_ty (by decide +kernel), true, rfl, ?_⟩
      refine if_t rfl ?_
      refine ⟨_, rfl, _, rfl, o, C, dx, _, .ref de, rfl, N.at_, c, n1, rfl, de, _, rfl, DGet.k (k := (Sum.inr (tx l) : Key)) N.ends, ?_⟩
      rw [ends_val]
      exact q
    · refine ⟨_, rfl, y, V.ty "str", .type t, .type "str", false, rfl, .ty _, ht, kit_ty hk, false, rfl, ?_⟩
      exact if_f Bool.false_ne_true q
end
end K17

set_option Elab.async false
set_option linter.all false
set_option maxRecDepth 100000
set_option maxHeartbeats 4000000
namespace K17
open PySem PySem.Spec PyProof.Rows L2 Vl Evl Vp Vx2 Ven
abbrev sChkL : Stmt := top 25
/-- check_lanes(net, names) -/
def spChkL (K : PySem.W.Frag) (C NL : Addr) : Sp := fun vs H Q E => ∃ (o dx dp de t : Addr) (ps : List (List Nat)) (es : List Row) (ns : List (List Nat)), vs = [.ref o, .ref t] ∧ NetAt C H o dx dp de ps es ∧ SqA K H t (vtx ns) ∧
  (((∀ l ∈ ns, l ∈ laneNames es) ∧ ∀ H', Ex H H' → Q .non H') ∨ ∃ l, FirstOut ns (laneNames es) l ∧ RaisedF NL "name" H (.str (tx l)) E)
section
variable {P : Program} {w : World} {K : PySem.W.Frag} {mg : Str → Option Value} {base : Heap} {C NL fH : Addr}
theorem scCL : FnScope ["net", "names", "name"] ["net", "names"] (defScope sChkL) := ⟨rfl, rfl, rfl, by decide +kernel, rfl, by decide +kernel, by decide +kernel⟩
theorem ok_chkl {f : Addr} {fd fdH : FuncData} (F : FnP K "check_lanes" sChkL f fd) (c : Cls K C) (MH : Meth K C "__contains__" fH) (bH : Binds K fdH ["self", "x"] []) (GH : FnOk P w K mg base CX0 1 fH fdH ["self", "x"] (spHas K C)) (EP : Err1 P w K mg base "NoLane" "name" NL) :
    FnOk P w K mg base (L2.CX P w) 3 f fd ["net", "names"] (spChkL K C NL) := by
  obtain ⟨fE, fdE, iC, tI, bE, GE⟩ := EP.ini
  refine F.ok (CX := L2.CX P w) scCL (fun vs H Q E h => ?_) (fun cdv A outer s H vs Q E hr h => ?_)
  · obtain ⟨o, dx, dp, de, t, ps, es, ns, rfl, _⟩ := h
    rfl
  · have hr2 : Room 2 _ := hr
    have hr1 : Room 1 _ := hr.mono (by omega)
    refine ⟨_, (pss_one (ps_for (passes_of rfl) rfl (pi_seqA (pv 1)) (pg_name (i := 2) scCL.nd rfl (by first | exact Or.inl rfl | exact Or.inr rfl))
      (pss_one (ps_if (pt_cmpR (Vo.op_notInO (E1 := E0) MH GH hr1 bH pass0) (pv 2) (pv 0) rfl) (pss_one (ps_raise rfl (takes_of rfl rfl rfl rfl) (pmk_oex EP.T iC tI GE hr2 bE .nil pass0 (by rfl) EP.g (pa_cons (pv 2) pa_nil)))) pss_nil)))), ?_⟩
    obtain ⟨o, dx, dp, de, t, ps, es, ns, rfl, N, ht, h⟩ := h
    refine s_forSq (a := t) (ev_var rfl) ht (fun i st H' => ∃ t2, st = [some (.ref o), some (.ref t), t2] ∧ Ex H H' ∧ ∀ (j : Nat) (y : List Nat), j < i → ns[j]? = some y → y ∈ laneNames es)
      (fun H1 e => ⟨none, rfl, e, fun j y hj => absurd hj (Nat.not_lt_zero j)⟩) (fun i st H' ⟨_, _, e, _⟩ => e) ?_ ?_
    · rintro i x σ' H1 hx ⟨t2, rfl, e1, hall⟩
      unfold vtx at hx
      rw [List.getElem?_map] at hx
      obtain ⟨l, hl, rfl⟩ := Option.map_eq_some_iff.mp hx
      have N1 := N.mono e1
      refine ⟨_, rfl, _, rfl, o, dx, _, rfl, N1.at_, o, dx, dp, de, _, ps, es, rfl, N1, .inl ⟨l, rfl, _, rfl, _, rfl, ?_⟩⟩
      rw [if_pos rfl]
      by_cases hm : l ∈ laneNames es
      · refine if_f (by rw [decide_eq_true hm]; decide) ?_
        refine ⟨_, rfl, e1, fun j y hj hy => ?_⟩
        by_cases hji : j < i
        · exact hall j y hji hy
        · obtain rfl : j = i := by omega
          rw [hl] at hy
          obtain rfl := Option.some.inj hy
          exact hm
      · refine if_t (by rw [decide_eq_false hm]; rfl) ?_
        rcases h with ⟨ha, _⟩ | ⟨l2, ⟨i2, g1, g2, g3⟩, q⟩
        · exact absurd (ha l (List.mem_of_getElem? hl)) hm
        · have ei : i = i2 := by
            rcases Nat.lt_trichotomy i i2 with h1 | h1 | h1
            · exact absurd (g3 i l h1 hl) hm
            · exact h1
            · exact absurd (hall i2 l2 h1 g1) g2
          rw [ei] at hl
          rw [hl] at g1
          obtain rfl := Option.some.inj g1
          exact raised_f (W := fun cls d _ H' => E cls d H') 2 rfl rfl (RaisedF.grow q e1)
    · rintro st H1 ⟨t2, rfl, e1, hall⟩
      rcases h with ⟨ha, q⟩ | ⟨l2, ⟨i2, g1, g2, g3⟩, q⟩
      · exact q H1 e1
      · exact absurd (hall i2 l2 (by rw [vtx_len]; exact (List.getElem?_eq_some_iff.mp g1).1) g1) g2
end
end K17

set_option Elab.async false
set_option linter.all false
set_option maxRecDepth 100000
set_option maxHeartbeats 4000000
namespace K17
open PySem PySem.Spec PyProof.Rows L2 Vl Evl Vp Vx2
abbrev sLane : Stmt := mem 2
/-- net.lane(name, start, end) -/
def spLane (C BN NT NP : Addr) : Sp := fun vs H Q E => ∃ (o dx dp de : Addr) (ps : List (List Nat)) (es : List Row) (l a b : List Nat), vs = [.ref o, .str (tx l), .str (tx a), .str (tx b)] ∧ NetAt C H o dx dp de ps es ∧ es.length ≤ 1000 ∧
  ((nam l ∧ l ∉ laneNames es ∧ a ∈ ps ∧ b ∈ ps ∧ ∀ t H', Ex H H' → H t = none → H' t = some (.tup [.str (tx a), .str (tx b)]) → Q .non (upd H' de (.dK (dEnds (es ++ [(t, (l, a, b))]))))) ∨
   (l = [65] ∧ RaisedF BN "name" H (.str (tx l)) E) ∨ (nam l ∧ l ∈ laneNames es ∧ RaisedF NT "name" H (.str (tx l)) E) ∨
   (nam l ∧ l ∉ laneNames es ∧ ∃ x, FirstOut [a, b] ps x ∧ RaisedF NP "name" H (.str (tx x)) E))
section
variable {P : Program} {w : World} {K : PySem.W.Frag} {mg : Str → Option Value} {base : Heap} {C BN NT NP : Addr}
theorem scLa : FnScope ["self", "name", "start", "end"] ["self", "name", "start", "end"] (defScope sLane) := ⟨rfl, rfl, rfl, by decide +kernel, rfl, by decide +kernel, by decide +kernel⟩
theorem ok_lane {f fN fP : Addr} {fd fdN fdP : FuncData} (F : FnM K "lane" "Net.lane" sLane f fd) (c : Cls K C) (n1 : NoAttr K C "_ends") (FN : FnP K "check_name" sChkN fN fdN) (gN : mg "check_name" = some (.ref fN))
    (GN : FnOk P w K mg base (L2.CX P w) 3 fN fdN ["value"] (spChkN BN)) (ET : Err1 P w K mg base "NameTaken" "name" NT) (FP : FnP K "check_posts" sChkP fP fdP) (gP : mg "check_posts" = some (.ref fP)) (GP : FnOk P w K mg base (L2.CX P w) 3 fP fdP ["net", "names"] (spChkP K C NP)) :
    FnOk P w K mg base (L2.CX P w) 4 f fd ["self", "name", "start", "end"] (spLane C BN NT NP) := by
  have bN : Binds K fdN ["value"] [] := FN.bindsN fun _ _ _ _ _ _ us hl => match us, hl with | [_], _ => rfl
  have kN := FN.kp
  have bP : Binds K fdP ["net", "names"] [] := FP.bindsN fun _ _ _ _ _ _ us hl => match us, hl with | [_, _], _ => rfl
  have kP := FP.kp
  obtain ⟨fE, fdE, iC, tI, bE, GE⟩ := ET.ini
  refine F.ok (CX := L2.CX P w) scLa (fun vs H Q E h => ?_) (fun cdv A outer s H vs Q E hr h => ?_)
  · obtain ⟨o, dx, dp, de, ps, es, l, a, b, rfl, _⟩ := h
    rfl
  · have hr3 : Room 3 _ := hr
    have hr2 : Room 2 _ := hr.mono (by omega)
    refine ⟨_, (pss_cut (ps_expr (pe_callS (E := WE fun cls d _ H => E cls d H) GN hr3 (by rfl) gN kN bN (fun st => passAt (takes_of rfl rfl rfl rfl) st) (pa_cons (pv 1) pa_nil)))
      (pss_cons (ps_if (pt_cmp (pc_din (Nat.lt_of_le_of_lt (Nat.add_le_add_left (show 1 ≤ 64 by decide) _) hr.units) (pv 1) (pe_fld (pv 0) rfl))) (pss_one (ps_raise rfl (takes_of rfl rfl rfl rfl) (pmk_oex ET.T iC tI GE hr2 bE .nil pass0 (by rfl) ET.g (pa_cons (pv 1) pa_nil)))) pss_nil)
      (pss_cons (ps_expr (pe_callS (E := WE fun cls d _ H => E cls d H) GP hr3 (by rfl) gP kP bP (fun st => passAt (takes_of rfl rfl rfl rfl) st) (pa_cons (pv 0) (pa_cons (pe_tup (pa_cons (pv 2) (pa_cons (pv 3) pa_nil))) pa_nil))))
      (pss_one (ps_asg (pe_tup (pa_cons (pv 2) (pa_cons (pv 3) pa_nil))) (pg_sub (pe_fld (pv 0) rfl) (pv 1) (set_dict (Nat.lt_of_le_of_lt (Nat.add_le_add_left (show 1 ≤ 64 by decide) _) hr.units)))))))), ?_⟩
    obtain ⟨o, dx, dp, de, ps, es, l, a, b, rfl, N, h1, h⟩ := h
    refine ⟨fun st' H' => st' = [some (.ref o), some (.str (tx l)), some (.str (tx a)), some (.str (tx b))] ∧ Ex H H' ∧ nam l, ?_, ?_⟩
    · refine ⟨_, rfl, ?_⟩
      rcases h with ⟨hl, _⟩ | ⟨rfl, q⟩ | ⟨hl, _⟩ | ⟨hl, _⟩
      · exact ⟨l, rfl, .inl ⟨hl, fun H' e => ⟨rfl, e, hl⟩⟩⟩
      · exact ⟨[65], rfl, .inr ⟨rfl, q⟩⟩
      · exact ⟨l, rfl, .inl ⟨hl, fun H' e => ⟨rfl, e, hl⟩⟩⟩
      · exact ⟨l, rfl, .inl ⟨hl, fun H' e => ⟨rfl, e, hl⟩⟩⟩
    rintro _ H1 ⟨rfl, e1, hl⟩
    have n65 : ¬ nam [65] := fun ⟨c, r, e, hc, _⟩ => by
      obtain rfl := (List.cons.inj e).1
      exact absurd hc (by decide)
    have N1 := N.mono e1
    refine s_seq ?_
    refine ⟨_, rfl, _, rfl, o, C, dx, _, .ref de, rfl, N1.at_, c, n1, rfl, de, _, rfl, DGet.k (k := (Sum.inr (tx l) : Key)) N1.ends, _, rfl, ?_⟩
    rw [ends_val]
    by_cases hm : l ∈ laneNames es
    · refine if_t (by rw [decide_eq_true hm]) ?_
      rcases h with ⟨_, hn, _⟩ | ⟨rfl, _⟩ | ⟨_, _, q⟩ | ⟨_, hn, _⟩
      · exact absurd hm hn
      · exact absurd hl n65
      · exact raised_f (W := fun cls d _ H' => E cls d H') 1 rfl rfl (RaisedF.grow q e1)
      · exact absurd hm hn
    · refine if_f (by rw [decide_eq_false hm]; decide) ?_
      dsimp only
      refine s_seq ?_
      refine ⟨_, rfl, _, rfl, _, rfl, by show 2 ≤ sizeLine; decide, fun t0 nt0 => ?_⟩
      have e2 := e1.trans (Ex.new (o := .tup [.str (tx a), .str (tx b)]) nt0)
      refine ⟨o, dx, dp, de, t0, ps, es, [a, b], rfl, N.mono e2, .inr (.inl (.inl upd_same)), ?_⟩
      rcases h with ⟨_, _, ha, hb, q⟩ | ⟨rfl, _⟩ | ⟨_, hn, _⟩ | ⟨_, _, x, fo, q⟩
      · refine .inl ⟨fun y hy => ?_, fun H3 e3 => ?_⟩
        · rcases List.mem_cons.mp hy with rfl | hy
          · exact ha
          · rw [List.mem_singleton.mp hy]
            exact hb
        · refine ⟨_, rfl, _, rfl, by show 2 ≤ sizeLine; decide, fun t nt => ?_⟩
          have e4 := (e2.trans e3).trans (Ex.new (o := .tup [.str (tx a), .str (tx b)]) nt)
          have N4 := N.mono e4
          refine ⟨_, rfl, o, C, dx, _, .ref de, rfl, N4.at_, c, n1, rfl, _, rfl, de, _, rfl, DPut.k (k := (Sum.inr (tx l) : Key)) N4.ends (sz_lt (by unfold dEnds; rw [List.length_map]; omega)), ?_⟩
          have hv : valV (dEnds es) (Sum.inr (tx l) : Key) = none := by
            have := ends_val es l
            rw [decide_eq_false hm] at this
            exact Option.not_isSome_iff_eq_none.mp (by rw [this]; decide)
          rw [putK_new _ hv]
          have := q t _ e4 (fresh_back (e2.trans e3) nt) upd_same
          unfold dEnds at *
          rw [List.map_append] at this
          exact this
      · exact absurd hl n65
      · exact absurd hn hm
      · exact .inr ⟨x, fo, RaisedF.grow q e2⟩
end
end K17

set_option Elab.async false
set_option linter.all false
set_option maxRecDepth 100000
set_option maxHeartbeats 4000000
namespace K17
open PySem PySem.Spec PyProof.Rows L2 Vl Evl Vp Vx2
abbrev sStart : Stmt := mem 6
abbrev sEnd : Stmt := mem 7
/-- the row of the lane l -/
def rowOf (es : List Row) (l : List Nat) : Option Row := es.find? fun e => decide (e.2.1 = l)
theorem ends_get (l : List Nat) : ∀ es : List Row, valV (dEnds es) (Sum.inr (tx l) : Key) = (rowOf es l).map fun e => V.ref e.1
  | [] => rfl
  | x :: r => by
    have ih := ends_get l r
    unfold dEnds rowOf at *
    rw [List.map_cons]
    by_cases h : x.2.1 = l
    · rw [valV_pos (by rw [h]), List.find?_cons, decide_eq_true h]
      rfl
    · have hn : ¬ (Sum.inr (tx x.2.1) : Key) = Sum.inr (tx l) := fun z => h (tx_inj (Sum.inr.inj z))
      rw [valV_neg hn, ih, List.find?_cons, decide_eq_false h]
theorem rowOf_mem {es : List Row} {l : List Nat} {r : Row} (h : rowOf es l = some r) : r ∈ es ∧ r.2.1 = l := ⟨List.mem_of_find?_eq_some h, of_decide_eq_true (List.find?_some (p := fun e : Row => decide (e.2.1 = l)) h)⟩
/-- net.start_of(l), net.end_of(l) -/
def spEndOf (C NL : Addr) (g : Row → List Nat) : Sp := fun vs H Q E => ∃ (o dx dp de : Addr) (ps : List (List Nat)) (es : List Row) (l : List Nat), vs = [.ref o, .str (tx l)] ∧ NetAt C H o dx dp de ps es ∧
  ((∃ r, rowOf es l = some r ∧ ∀ H', Ex H H' → Q (.str (tx (g r))) H') ∨ (l ∉ laneNames es ∧ RaisedF NL "name" H (.str (tx l)) E))
section
variable {P : Program} {w : World} {K : PySem.W.Frag} {mg : Str → Option Value} {base : Heap} {C NL : Addr}
theorem scSt : FnScope ["self", "lane"] ["self", "lane"] (defScope sStart) := ⟨rfl, rfl, rfl, by decide +kernel, rfl, by decide +kernel, by decide +kernel⟩
theorem scEd : FnScope ["self", "lane"] ["self", "lane"] (defScope sEnd) := ⟨rfl, rfl, rfl, by decide +kernel, rfl, by decide +kernel, by decide +kernel⟩
theorem ok_start {f fL : Addr} {fd fdL : FuncData} (F : FnM K "start_of" "Net.start_of" sStart f fd) (c : Cls K C) (n1 : NoAttr K C "_ends") (FL : FnP K "check_lanes" sChkL fL fdL) (gL : mg "check_lanes" = some (.ref fL)) (GL : FnOk P w K mg base (L2.CX P w) 3 fL fdL ["net", "names"] (spChkL K C NL)) :
    FnOk P w K mg base (L2.CX P w) 4 f fd ["self", "lane"] (spEndOf C NL fun r => r.2.2.1) := by
  have bL : Binds K fdL ["net", "names"] [] := FL.bindsN fun _ _ _ _ _ _ us hl => match us, hl with | [_, _], _ => rfl
  have kL := FL.kp
  refine F.ok (CX := L2.CX P w) scSt (fun vs H Q E h => ?_) (fun cdv A outer s H vs Q E hr h => ?_)
  · obtain ⟨o, dx, dp, de, ps, es, l, rfl, _⟩ := h
    rfl
  · have hr3 : Room 3 _ := hr
    refine ⟨_, (pss_cons (ps_expr (pe_callS (E := WE fun cls d _ H => E cls d H) GL hr3 (by rfl) gL kL bL (fun st => passAt (takes_of rfl rfl rfl rfl) st) (pa_cons (pv 0) (pa_cons (pe_tup (pa_cons (pv 1) pa_nil)) pa_nil))))
      (pss_one (ps_ret (pe_ix ix_tup (pe_dget (Nat.lt_of_le_of_lt (Nat.add_le_add_left (show 1 ≤ 64 by decide) _) hr.units) (pe_fld (pv 0) rfl) (pv 1) (fun _ _ => rfl)) pe_int fun _ _ => rfl)))), ?_⟩
    obtain ⟨o, dx, dp, de, ps, es, l, rfl, N, h⟩ := h
    refine s_seq ?_
    refine ⟨_, rfl, _, rfl, by show 1 ≤ sizeLine; decide, fun t0 nt0 => ?_⟩
    have e2 := Ex.new (H := H) (o := .tup [.str (tx l)]) nt0
    refine ⟨o, dx, dp, de, t0, ps, es, [l], rfl, N.mono e2, .inr (.inl (.inl upd_same)), ?_⟩
    rcases h with ⟨r, hr1, q⟩ | ⟨hn, q⟩
    · obtain ⟨hm, hname⟩ := rowOf_mem hr1
      refine .inl ⟨fun y hy => ?_, fun H3 e3 => ?_⟩
      · rw [List.mem_singleton.mp hy, ← hname]
        exact List.mem_map_of_mem hm
      · have e4 := e2.trans e3
        have N4 := N.mono e4
        have hv : valV (dEnds es) (Sum.inr (tx l) : Key) = some (V.ref r.1) := by rw [ends_get, hr1]; rfl
        refine ⟨_, rfl, o, C, dx, _, .ref de, rfl, N4.at_, c, n1, rfl, _, rfl, de, .ref r.1, rfl, hv ▸ DGet.k (k := (Sum.inr (tx l) : Key)) N4.ends, r.1, _, 0, _, rfl, rfl, .inl (.inl (N4.rows r hm)), at_of (j := 0) rfl rfl, q H3 e4⟩
    · exact .inr ⟨l, ⟨0, rfl, hn, fun j y hj => absurd hj (Nat.not_lt_zero j)⟩, RaisedF.grow q e2⟩
theorem ok_end {f fL : Addr} {fd fdL : FuncData} (F : FnM K "end_of" "Net.end_of" sEnd f fd) (c : Cls K C) (n1 : NoAttr K C "_ends") (FL : FnP K "check_lanes" sChkL fL fdL) (gL : mg "check_lanes" = some (.ref fL)) (GL : FnOk P w K mg base (L2.CX P w) 3 fL fdL ["net", "names"] (spChkL K C NL)) :
    FnOk P w K mg base (L2.CX P w) 4 f fd ["self", "lane"] (spEndOf C NL fun r => r.2.2.2) := by
  have bL : Binds K fdL ["net", "names"] [] := FL.bindsN fun _ _ _ _ _ _ us hl => match us, hl with | [_, _], _ => rfl
  have kL := FL.kp
  refine F.ok (CX := L2.CX P w) scEd (fun vs H Q E h => ?_) (fun cdv A outer s H vs Q E hr h => ?_)
  · obtain ⟨o, dx, dp, de, ps, es, l, rfl, _⟩ := h
    rfl
  · have hr3 : Room 3 _ := hr
    refine ⟨_, (pss_cons (ps_expr (pe_callS (E := WE fun cls d _ H => E cls d H) GL hr3 (by rfl) gL kL bL (fun st => passAt (takes_of rfl rfl rfl rfl) st) (pa_cons (pv 0) (pa_cons (pe_tup (pa_cons (pv 1) pa_nil)) pa_nil))))
      (pss_one (ps_ret (pe_ix ix_tup (pe_dget (Nat.lt_of_le_of_lt (Nat.add_le_add_left (show 1 ≤ 64 by decide) _) hr.units) (pe_fld (pv 0) rfl) (pv 1) (fun _ _ => rfl)) pe_int fun _ _ => rfl)))), ?_⟩
    obtain ⟨o, dx, dp, de, ps, es, l, rfl, N, h⟩ := h
    refine s_seq ?_
    refine ⟨_, rfl, _, rfl, by show 1 ≤ sizeLine; decide, fun t0 nt0 => ?_⟩
    have e2 := Ex.new (H := H) (o := .tup [.str (tx l)]) nt0
    refine ⟨o, dx, dp, de, t0, ps, es, [l], rfl, N.mono e2, .inr (.inl (.inl upd_same)), ?_⟩
    rcases h with ⟨r, hr1, q⟩ | ⟨hn, q⟩
    · obtain ⟨hm, hname⟩ := rowOf_mem hr1
      refine .inl ⟨fun y hy => ?_, fun H3 e3 => ?_⟩
      · rw [List.mem_singleton.mp hy, ← hname]
        exact List.mem_map_of_mem hm
      · have e4 := e2.trans e3
        have N4 := N.mono e4
        have hv : valV (dEnds es) (Sum.inr (tx l) : Key) = some (V.ref r.1) := by rw [ends_get, hr1]; rfl
        refine ⟨_, rfl, o, C, dx, _, .ref de, rfl, N4.at_, c, n1, rfl, _, rfl, de, .ref r.1, rfl, hv ▸ DGet.k (k := (Sum.inr (tx l) : Key)) N4.ends, r.1, _, 1, _, rfl, rfl, .inl (.inl (N4.rows r hm)), at_of (j := 1) rfl rfl, q H3 e4⟩
    · exact .inr ⟨l, ⟨0, rfl, hn, fun j y hj => absurd hj (Nat.not_lt_zero j)⟩, RaisedF.grow q e2⟩
end
end K17

set_option Elab.async false
set_option linter.all false
set_option maxRecDepth 100000
set_option maxHeartbeats 4000000
namespace K17
open PySem PySem.Spec PyProof.Rows L2 Vl Evl Vp Vx2
abbrev sNIni : Stmt := mem 0
/-- Net() -/
def spNIni (C : Addr) : Sp := fun vs H Q _ => ∃ (x dx : Addr) (H0 : Hp), vs = [.ref x] ∧ H = upd (upd H0 dx (.own x)) x (.ins C dx []) ∧ H0 x = none ∧ H0 dx = none ∧ dx ≠ x ∧
  ∀ dp de H', Ex H0 H' → H0 dp = none → H0 de = none → dp ≠ de → NetAt C H' x dx dp de [] [] → Q .non H'
section
variable {P : Program} {w : World} {K : PySem.W.Frag} {mg : Str → Option Value} {base : Heap} {C NL : Addr}
theorem scNi : FnScope ["self"] ["self"] (defScope sNIni) := ⟨rfl, rfl, rfl, by decide +kernel, rfl, by decide +kernel, by decide +kernel⟩
theorem ok_nini {f : Addr} {fd : FuncData} (F : FnM K "__init__" "Net.__init__" sNIni f fd) (c : Cls K C) (n1 : NoAttr K C "_posts") (n2 : NoAttr K C "_ends") : FnOk P w K mg base CX0 1 f fd ["self"] (spNIni C) := by
  refine F.ok (CX := CX0) scNi (fun vs H Q E h => ?_) (fun cdv A outer s H vs Q E hr h => ?_)
  · obtain ⟨x, dx, H0, rfl, _⟩ := h
    rfl
  · refine ⟨_, (pss_cons (ps_fld (pv 0) pe_dnewK (by rfl)) (pss_one (ps_fld (pv 0) pe_dnewK (by rfl)))), ?_⟩
    obtain ⟨x, dx, H0, rfl, rfl, hx, hdx, hne, q⟩ := h
    refine s_seq ?_
    refine fun dp ndp => ⟨_, rfl, x, C, dx, [], rfl, ?_, c, n1, by show 0 < 1000; omega, ?_⟩
    · have hx1 := upd_same (H := upd H0 dx (.own x)) (a := x) (o := HO.ins C dx [])
      exact (Ex.new ndp) _ _ hx1
    · have dpx : dp ≠ x := fun z => by rw [z, upd_same] at ndp; cases ndp
      have dpd : dp ≠ dx := fun z => by rw [z, upd_ne hne, upd_same] at ndp; cases ndp
      have h0p : H0 dp = none := by
        rw [upd_ne dpx, upd_ne dpd] at ndp
        exact ndp
      refine fun de nde => ⟨_, rfl, x, C, dx, [("_posts", .ref dp)], rfl, (upd_ne (fun z => by rw [← z, upd_same] at nde; cases nde)).trans upd_same, c, n2, by show 1 < 1000; omega, ?_⟩
      have dex : de ≠ x := fun z => by rw [z, upd_same] at nde; cases nde
      have dep : de ≠ dp := fun z => by rw [z, upd_ne dpx, upd_same] at nde; cases nde
      have ded : de ≠ dx := fun z => by rw [z, upd_ne hne, upd_ne dpd.symm, upd_ne hne, upd_same] at nde; cases nde
      have h0e : H0 de = none := by
        rw [upd_ne dex, upd_ne dep, upd_ne dex, upd_ne ded] at nde
        exact nde
      refine q dp de _ ?_ h0p h0e dep.symm ⟨upd_same, ?_, ?_, fun e he => nomatch he⟩
      · exact Ex.mut ((Ex.mut (((Ex.new hdx).trans (Ex.new (by rw [upd_ne hne.symm]; exact hx))).trans (Ex.new ndp)) hx).trans (Ex.new nde)) hx
      · exact (upd_ne dpx).trans ((upd_ne dep.symm).trans ((upd_ne dpx).trans upd_same))
      · exact (upd_ne dex).trans upd_same
end
end K17

set_option Elab.async false
set_option linter.all false
set_option maxRecDepth 100000
set_option maxHeartbeats 4000000
namespace K17
open PySem PySem.Spec PyProof.Rows L2 Vl Evl Vp Vx2 Vlk Vda
abbrev sCopy : Stmt := mem 9
abbrev sNetOf : Stmt := top 23
abbrev sOut : Stmt := mem 8
theorem NetAt.ne_ends {C : Addr} {H : Hp} {o dx dp de : Addr} {ps : List (List Nat)} {es : List Row} (n : NetAt C H o dx dp de ps es) : o ≠ de := fun z => by
  have h1 := n.at_
  rw [z, n.ends] at h1
  cases h1
theorem NetAt.row_ne {C : Addr} {H : Hp} {o dx dp de : Addr} {ps : List (List Nat)} {es : List Row} (n : NetAt C H o dx dp de ps es) {r : Row} (hm : r ∈ es) : r.1 ≠ de := fun z => by
  have h1 := n.rows r hm
  unfold EndAt at h1
  rw [z, n.ends] at h1
  cases h1
/-- net.out_of(a) -/
def spOut (C NP : Addr) : Sp := fun vs H Q E => ∃ (o dx dp de : Addr) (ps : List (List Nat)) (es : List Row) (a : List Nat), vs = [.ref o, .str (tx a)] ∧ NetAt C H o dx dp de ps es ∧ es.length ≤ 1000 ∧ (laneNames es).Nodup ∧
  ((a ∈ ps ∧ ∀ t H', Ex H H' → H t = none → H' t = some (.tup (vtx (laneNames (es.filter fun e => decide (e.2.2.1 = a))))) → Q (.ref t) H') ∨ (a ∉ ps ∧ RaisedF NP "name" H (.str (tx a)) E))
theorem rv_pair {K : PySem.W.Frag} {H : Hp} {p q : Addr} {a b x y : List Nat} (h : SqT K H p [.str (tx a), .str (tx b)]) (h2 : SqT K H q [.str (tx x), .str (tx y)]) (ha : nam a) (hb : nam b) (hx : nam x) (hy : nam y) :
    RV (rEqD K) (.ref p) (.ref q) H (.bl (decide (a = x ∧ b = y))) := by
  have e : decide ([a, b] = [x, y]) = decide (a = x ∧ b = y) := decide_eq_decide.mpr ⟨fun z => by
    injection z with z1 z2
    injection z2 with z2
    exact ⟨z1, z2⟩, fun ⟨z1, z2⟩ => by rw [z1, z2]⟩
  rw [← e]
  exact rv_eqT (a := [a, b]) (b := [x, y]) h h2 (oks_cons (ok_nam ha) (oks_cons (ok_nam hb) oks_nil)) (oks_cons (ok_nam hx) (oks_cons (ok_nam hy) oks_nil))
theorem row_own {es : List Row} (nd : (laneNames es).Nodup) {i : Nat} {r : Row} (h : es[i]? = some r) : rowOf es r.2.1 = some r := by
  induction es generalizing i with
  | nil => cases h
  | cons x t ih =>
    unfold rowOf
    rw [List.find?_cons]
    cases i with
    | zero =>
      have : x = r := Option.some.inj h
      rw [this, decide_eq_true rfl]
    | succ i =>
      have h : t[i]? = some r := h
      have hm : r ∈ t := List.mem_of_getElem? h
      have hne : ¬ x.2.1 = r.2.1 := fun z => (List.nodup_cons.mp nd).1 (by show x.2.1 ∈ laneNames t; rw [z]; exact List.mem_map_of_mem hm)
      rw [decide_eq_false hne]
      exact ih (List.nodup_cons.mp nd).2 h
theorem ends_at {es : List Row} {i : Nat} {kv : Key × V} (h : (dEnds es)[i]? = some kv) : ∃ r, es[i]? = some r ∧ kv = ((Sum.inr (tx r.2.1) : Key), V.ref r.1) := by
  unfold dEnds at h
  rw [List.getElem?_map] at h
  obtain ⟨r, hr, rfl⟩ := Option.map_eq_some_iff.mp h
  exact ⟨r, hr, rfl⟩
/-- the key filter by a row's property -/
def byName (es : List Row) (c : Row → Bool) (kv : Key × V) : Bool := match kv.1 with
  | .inr z => es.any fun e => decide (tx e.2.1 = z) && c e
  | _ => false
theorem byName_row {es : List Row} (nd : (laneNames es).Nodup) {c : Row → Bool} {r : Row} (hm : r ∈ es) (v : V) : byName es c ((Sum.inr (tx r.2.1) : Key), v) = c r := by
  show (es.any fun e => decide (tx e.2.1 = tx r.2.1) && c e) = c r
  have one : ∀ e ∈ es, e.2.1 = r.2.1 → e = r := by
    intro e he h
    obtain ⟨i, hi⟩ := List.getElem?_of_mem he
    obtain ⟨j, hj⟩ := List.getElem?_of_mem hm
    have h1 := row_own nd hi
    have h2 := row_own nd hj
    rw [h, h2] at h1
    exact (Option.some.inj h1).symm
  cases hc : c r with
  | true =>
    rw [List.any_eq_true]
    exact ⟨r, hm, by rw [hc, decide_eq_true rfl]; rfl⟩
  | false =>
    rw [List.any_eq_false]
    intro e he z
    rw [Bool.and_eq_true, decide_eq_true_eq] at z
    have := one e he (tx_inj z.1)
    rw [this, hc] at z
    cases z.2
theorem filter_names {es : List Row} (nd : (laneNames es).Nodup) (c : Row → Bool) : (((dEnds es).filter (byName es c)).map fun kv => kV kv.1) = vtx (laneNames (es.filter c)) := by
  unfold dEnds laneNames vtx
  rw [List.filter_map, List.map_map, List.map_map]
  have : (es.filter (byName es c ∘ fun e => ((Sum.inr (tx e.2.1) : Key), V.ref e.1))) = es.filter c := List.filter_congr fun e he => byName_row nd he _
  rw [this]
  rfl
section
variable {P : Program} {w : World} {K : PySem.W.Frag} {mg : Str → Option Value} {base : Heap} {C NP : Addr}
abbrev nOt : List Str := ["self", "post", "lane"]
theorem scOt : FnScope nOt ["self", "post"] (defScope sOut) := ⟨rfl, rfl, rfl, by decide +kernel, rfl, by decide +kernel, by decide +kernel⟩
theorem ok_out {f fP : Addr} {fd fdP : FuncData} (F : FnM K "out_of" "Net.out_of" sOut f fd) (c : Cls K C) (n1 : NoAttr K C "_ends") (FP : FnP K "check_posts" sChkP fP fdP) (gP : mg "check_posts" = some (.ref fP)) (GP : FnOk P w K mg base (L2.CX P w) 3 fP fdP ["net", "names"] (spChkP K C NP)) (mT : mg "tuple" = none) :
    FnOk P w K mg base (L2.CX P w) 4 f fd ["self", "post"] (spOut C NP) := by
  have bP : Binds K fdP ["net", "names"] [] := FP.bindsN fun _ _ _ _ _ _ us hl => match us, hl with | [_, _], _ => rfl
  have kP := FP.kp
  refine F.ok (CX := L2.CX P w) scOt (fun vs H Q E h => ?_) (fun cdv A outer s H vs Q E hr h => ?_)
  · obtain ⟨o, dx, dp, de, ps, es, a, rfl, _⟩ := h
    rfl
  · have hr3 : Room 3 _ := hr
    refine ⟨_, (pss_cons (ps_expr (pe_callS (E := WE fun cls d _ H => E cls d H) GP hr3 (by rfl) gP kP bP (fun st => passAt (takes_of rfl rfl rfl rfl) st) (pa_cons (pv 0) (pa_cons (pe_tup (pa_cons (pv 1) pa_nil)) pa_nil))))
      (pss_one (ps_ret (pe_callTy call_tuple_of (by rfl) mT boot_tuple (pa_cons (pe_lock (pe_lc (own := [("lane", 2)]) (g := gName 2) (tt := tTest (tOp rEq (tOp (rIxT K) (tDGet (tFld K (tVar 0) "_ends") (tVar 2)) (tC (.int 0))) (tVar 1))) (te := tVar 2) rfl scOt.nd (pi_keys (pe_fld (pv 0) rfl)) (blkOk_by (own := [("lane", 2)]) (N := nOt) (sc := defScope sOut) (by decide +kernel)) (fun _ _ _ _ _ => (pg_name (i := 2) scOt.nd rfl (by first | exact Or.inl rfl | exact Or.inr rfl)))
        (fun _ _ _ _ _ => pts_one (pt_cmpR op_eq (pe_ix ix_tup (pe_dget (Nat.lt_of_le_of_lt (Nat.add_le_add_left (show 1 ≤ 64 by decide) _) hr.units) (pe_fld (pv 0) rfl) (pv 2) (fun _ _ => rfl)) pe_int fun _ _ => rfl) (pv 1) (nomark _))) (fun _ _ _ _ _ => pv 2))) pa_nil))))), ?_⟩
    obtain ⟨o, dx, dp, de, ps, es, a, rfl, N, hz, nd, h⟩ := h
    refine s_seq ?_
    refine ⟨_, rfl, _, rfl, by show 1 ≤ sizeLine; decide, fun t0 nt0 => ?_⟩
    have e2 := Ex.new (H := H) (o := .tup [.str (tx a)]) nt0
    refine ⟨o, dx, dp, de, t0, ps, es, [a], rfl, N.mono e2, .inr (.inl (.inl upd_same)), ?_⟩
    rcases h with ⟨hm, q⟩ | ⟨hn, q⟩
    · refine .inl ⟨fun y hy => by rw [List.mem_singleton.mp hy]; exact hm, fun H3 e3 => ?_⟩
      have e4 := e2.trans e3
      have N4 := N.mono e4
      dsimp only
      refine s_retU (xs := vtx (laneNames (es.filter fun e => decide (e.2.2.1 = a)))) (eu_tupleL ?_) ?_
      rotate_left
      · exact fun t H5 nt e5 ht => q t H5 (e4.trans e5) (fresh_back e4 nt) ht
      rw [← filter_names nd]
      refine el_keys (byName es _) N4.ends (by unfold dEnds; rw [List.length_map]; omega) (fun _ => rfl) (fun _ => rfl) ?_ ?_
      · intro H6 od e6
        exact ev_fld (ev_var rfl) (lk_get (N4.mono e6).at_ (N4.ne_ends)) c n1 rfl
      · rintro H6 od i kv e6 hkv
        obtain ⟨r, hr, rfl⟩ := ends_at hkv
        have hmr := List.mem_of_getElem? hr
        have N6 := N4.mono e6
        rw [byName_row nd hmr]
        have hv : valV (dEnds es) (Sum.inr (tx r.2.1) : Key) = some (V.ref r.1) := by rw [ends_get, row_own nd hr]; rfl
        refine et_test (ev_is (ev_op (ev_op (ev_dget (ev_fld (ev_var rfl) (lk_get N6.at_ N6.ne_ends) c n1 rfl) (ev_var rfl) (hv ▸ dget_frz upd_same)) ev_c (rv_ixT (xs := [.str (tx r.2.2.1), .str (tx r.2.2.2)]) (.inl (.inl (lk_get (N6.rows r hmr) (N6.row_ne hmr)))) (at_of (j := 0) rfl rfl))) (ev_var rfl) (rv_eq rfl)) ?_)
        congr 1
        exact decide_eq_decide.mpr ⟨fun z => tx_inj (V.str.inj z), fun z => by rw [z]⟩
    · exact .inr ⟨a, ⟨0, rfl, hn, fun j y hj => absurd hj (Nat.not_lt_zero j)⟩, RaisedF.grow q e2⟩
end
end K17

set_option Elab.async false
set_option linter.all false
set_option maxRecDepth 100000
set_option maxHeartbeats 4000000
namespace K17
open PySem PySem.Spec PyProof.Rows L2 Vl Evl Vp Vx2 Vlk Vda
/-- _net_of(posts, ends) -/
def spNetOf (C : Addr) : Sp := fun vs H Q _ => ∃ (dp de : Addr) (ps : List (List Nat)) (es : List Row), vs = [.ref dp, .ref de] ∧ H dp = some (.dK (dPosts ps)) ∧ H de = some (.dK (dEnds es)) ∧ (∀ e ∈ es, EndAt H e) ∧
  ∀ o dx dp' de' H', Ex H H' → H o = none → H dp' = none → H de' = none → dp' ≠ de' → o ≠ dp' → o ≠ de' → NetAt C H' o dx dp' de' ps es → Q (.ref o) H'
/-- net.copy() -/
def spCopy (C : Addr) : Sp := fun vs H Q _ => ∃ (o dx dp de : Addr) (ps : List (List Nat)) (es : List Row), vs = [.ref o] ∧ NetAt C H o dx dp de ps es ∧
  ∀ o' dx' dp' de' H', Ex H H' → H o' = none → H dp' = none → H de' = none → dp' ≠ de' → o' ≠ dp' → o' ≠ de' → NetAt C H' o' dx' dp' de' ps es → Q (.ref o') H'
section
variable {P : Program} {w : World} {K : PySem.W.Frag} {mg : Str → Option Value} {base : Heap} {C : Addr}
abbrev nNo : List Str := ["posts", "ends", "made"]
theorem scNo : FnScope nNo ["posts", "ends"] (defScope sNetOf) := ⟨rfl, rfl, rfl, by decide +kernel, rfl, by decide +kernel, by decide +kernel⟩
theorem ok_netof {f fI : Addr} {fd fdI : FuncData} (F : FnP K "_net_of" sNetOf f fd) (c : Cls K C) (n1 : NoAttr K C "_posts") (n2 : NoAttr K C "_ends") (M : Mk K C fI) (bI : Binds K fdI ["self"] []) (GI : FnOk P w K mg base CX0 1 fI fdI ["self"] (spNIni C)) (gC : mg "Net" = some (.ref C)) (mD : mg "dict" = none) :
    FnOk P w K mg base CX0 3 f fd ["posts", "ends"] (spNetOf C) := by
  refine F.ok (CX := CX0) scNo (fun vs H Q E h => ?_) (fun cdv A outer s H vs Q E hr h => ?_)
  · obtain ⟨dp, de, ps, es, rfl, _⟩ := h
    rfl
  · have hr2 : Room 2 _ := hr
    refine ⟨_, (pss_cons (ps_set (i := 2) scNo.nd rfl (by first | exact Or.inl rfl | exact Or.inr rfl) (pe_make0 (E := E0) M GI hr2 (by rfl) gC bI .nil pass0))
      (pss_cons (ps_fld (pv 2) (pe_callTy call_dictD (by rfl) mD boot_dict (pa_cons (pv 0) pa_nil)) (by rfl))
      (pss_cons (ps_fld (pv 2) (pe_callTy call_dictD (by rfl) mD boot_dict (pa_cons (pv 1) pa_nil)) (by rfl))
      (pss_one (ps_ret (pv 2)))))), ?_⟩
    obtain ⟨dp, de, ps, es, rfl, hp, he, hrow, q⟩ := h
    refine s_seq ?_
    intro x dx nx ndx nex
    refine ⟨x, dx, H, rfl, rfl, nx, ndx, nex, fun p0 e0 H1 e1 np0 ne0 hne0 N0 => ⟨rfl, ?_⟩⟩
    refine s_seq ?_
    refine ⟨_, rfl, dp, dPosts ps, rfl, .inl (e1 _ _ hp), fun p1 np1 => ?_⟩
    have np1' : H p1 = none := fresh_back e1 np1
    have xp1 : x ≠ p1 := fun z => by rw [← z, N0.at_] at np1; cases np1
    refine ⟨_, rfl, x, C, dx, [("_posts", .ref p0), ("_ends", .ref e0)], rfl, (upd_ne xp1).trans N0.at_, c, n1, by show 2 < 1000; omega, ?_⟩
    refine s_seq ?_
    have e2 : Ex H (upd (upd H1 p1 (.dK (dPosts ps))) x (.ins C dx (putF "_posts" (.ref p1) [("_posts", .ref p0), ("_ends", .ref e0)]))) := Ex.mut (e1.trans (Ex.new np1)) nx
    refine ⟨_, rfl, de, dEnds es, rfl, .inl (e2 _ _ he), fun p2 np2 => ?_⟩
    have np2' : H p2 = none := fresh_back e2 np2
    have xp2 : x ≠ p2 := fun z => by rw [← z, upd_same] at np2; cases np2
    have p12 : p1 ≠ p2 := fun z => by rw [← z, upd_ne xp1.symm, upd_same] at np2; cases np2
    refine ⟨_, rfl, x, C, dx, _, rfl, (upd_ne xp2).trans upd_same, c, n2, by show 2 < 1000; omega, ?_⟩
    refine ⟨_, rfl, q x dx p1 p2 _ (Ex.mut (e2.trans (Ex.new np2)) nx) nx np1' np2' p12 xp1 xp2 ⟨upd_same, ?_, ?_, fun r hr => ?_⟩⟩
    · exact (upd_ne xp1.symm).trans ((upd_ne p12).trans ((upd_ne xp1.symm).trans upd_same))
    · exact (upd_ne xp2.symm).trans upd_same
    · exact Ex.mut (e2.trans (Ex.new np2)) nx _ _ (hrow r hr)
theorem scCy : FnScope ["self"] ["self"] (defScope sCopy) := ⟨rfl, rfl, rfl, by decide +kernel, rfl, by decide +kernel, by decide +kernel⟩
theorem ok_copy {f fN : Addr} {fd fdN : FuncData} (F : FnM K "copy" "Net.copy" sCopy f fd) (c : Cls K C) (n1 : NoAttr K C "_posts") (n2 : NoAttr K C "_ends") (FN : FnP K "_net_of" sNetOf fN fdN) (gN : mg "_net_of" = some (.ref fN)) (GN : FnOk P w K mg base CX0 3 fN fdN ["posts", "ends"] (spNetOf C)) :
    FnOk P w K mg base CX0 4 f fd ["self"] (spCopy C) := by
  have bN : Binds K fdN ["posts", "ends"] [] := FN.bindsN fun _ _ _ _ _ _ us hl => match us, hl with | [_, _], _ => rfl
  have kN := FN.kp
  refine F.ok (CX := CX0) scCy (fun vs H Q E h => ?_) (fun cdv A outer s H vs Q E hr h => ?_)
  · obtain ⟨o, dx, dp, de, ps, es, rfl, _⟩ := h
    rfl
  · have hr3 : Room 3 _ := hr
    refine ⟨_, pss_one (ps_ret (pe_call GN hr3 (by rfl) gN kN bN .nil pass0 (pa_cons (pe_fld (pv 0) rfl) (pa_cons (pe_fld (pv 0) rfl) pa_nil)))), ?_⟩
    obtain ⟨o, dx, dp, de, ps, es, rfl, N, q⟩ := h
    refine ⟨_, rfl, o, C, dx, _, .ref dp, rfl, N.at_, c, n1, rfl, _, rfl, o, C, dx, _, .ref de, rfl, N.at_, c, n2, rfl, ?_⟩
    exact ⟨dp, de, ps, es, rfl, N.posts, N.ends, N.rows, q⟩
end
end K17

set_option Elab.async false
set_option linter.all false
set_option maxRecDepth 100000
set_option maxHeartbeats 4000000
/-! The class Net in one word, and what its methods come to. -/
namespace K17
open PySem PySem.Spec PyProof.Rows L2 Vl Evl Vp Vx2 Vlk Vda Vc Ve
structure ND (P : Program) (w : World) (K : PySem.W.Frag) (mg : Str → Option Value) (base : Heap) (C BN NT NP NL : Addr) : Prop where
  cls : Cls K C
  post : Mo P w K mg base C (L2.CX P w) 4 "post" (spPost C BN NT)
  lane : Mo P w K mg base C (L2.CX P w) 4 "lane" (spLane C BN NT NP)
  out : Mo P w K mg base C (L2.CX P w) 4 "out_of" (spOut C NP)
  posts : Pr P w K mg base C 1 "posts" (spPosts C)
  lanes : Pr P w K mg base C 1 "lanes" (spLanes C)
  len : Mo P w K mg base C L2.CX0 1 "__len__" (spNLen C)
  start : Mo P w K mg base C (L2.CX P w) 4 "start_of" (spEndOf C NL fun r => r.2.2.1)
  end_ : Mo P w K mg base C (L2.CX P w) 4 "end_of" (spEndOf C NL fun r => r.2.2.2)
  has : Mo P w K mg base C L2.CX0 1 "__contains__" (spHas K C)
  copy : Mo P w K mg base C L2.CX0 4 "copy" (spCopy C)
  new : Nw P w K mg base C L2.CX0 1 "Net" (spNIni C)
section
variable {K : PySem.W.Frag} {C BN NT NP NL : Addr} {H : Hp} {o dx dp de : Addr} {ps : List (List Nat)} {es : List Row}
theorem sv_posts (N : NetAt C H o dx dp de ps es) : SpU (spPosts C) [.ref o] H (vtx ps) := fun H1 e Q q E => ⟨o, dx, dp, de, ps, es, rfl, N.mono e, fun t nt => q t _ nt (Ex.new nt) upd_same⟩
theorem sv_lanes (N : NetAt C H o dx dp de ps es) : SpU (spLanes C) [.ref o] H (vtx (laneNames es)) := fun H1 e Q q E => ⟨o, dx, dp, de, ps, es, rfl, N.mono e, fun t nt => q t _ nt (Ex.new nt) upd_same⟩
theorem sv_out {a : List Nat} (N : NetAt C H o dx dp de ps es) (hz : es.length ≤ 1000) (nd : (laneNames es).Nodup) (h : a ∈ ps) : SpU (spOut C NP) [.ref o, .str (tx a)] H (vtx (laneNames (es.filter fun e => decide (e.2.2.1 = a)))) := fun H1 e Q q E =>
  ⟨o, dx, dp, de, ps, es, a, rfl, N.mono e, hz, nd, .inl ⟨h, fun t H2 e2 nt ht => q t H2 nt e2 ht⟩⟩
theorem sv_len (N : NetAt C H o dx dp de ps es) : SpV (spNLen C) [.ref o] H (.int (es.length : Nat)) := fun H1 e Q q E => ⟨o, dx, dp, de, ps, es, rfl, N.mono e, q H1 (Ex.refl _)⟩
theorem sv_end {g : Row → List Nat} {l : List Nat} {r : Row} (N : NetAt C H o dx dp de ps es) (h : rowOf es l = some r) : SpV (spEndOf C NL g) [.ref o, .str (tx l)] H (.str (tx (g r))) := fun H1 e Q q E => ⟨o, dx, dp, de, ps, es, l, rfl, N.mono e, .inl ⟨r, h, fun H2 e2 => q H2 e2⟩⟩
theorem sv_has {l : List Nat} (N : NetAt C H o dx dp de ps es) : SpV (spHas K C) [.ref o, .str (tx l)] H (.bl (decide (l ∈ laneNames es))) := fun H1 e Q q E => ⟨o, dx, dp, de, _, ps, es, rfl, N.mono e, .inl ⟨l, rfl, q H1 (Ex.refl _)⟩⟩
theorem sv_hasN (N : NetAt C H o dx dp de ps es) : SpV (spHas K C) [.ref o, .non] H (.bl false) := fun H1 e Q q E => ⟨o, dx, dp, de, _, ps, es, rfl, N.mono e, .inr ⟨"NoneType", .base .non, by decide +kernel, q H1 (Ex.refl _)⟩⟩
theorem sv_hasL {t : Addr} {xs : List V} (N : NetAt C H o dx dp de ps es) (h : H t = some (.lst xs)) : SpV (spHas K C) [.ref o, .ref t] H (.bl false) := fun H1 e Q q E => ⟨o, dx, dp, de, _, ps, es, rfl, N.mono e, .inr ⟨"list", .base (.lst (e _ _ h)), by decide +kernel, q H1 (Ex.refl _)⟩⟩
end
/-! the law's own: parts told, the ends by lane -/
abbrev sEn : Stmt := top 98
abbrev nEn : List Str := ["_law_parts", "_law_ends_here", "_law_lane", "_law_start", "_law_end"]
def refs (rs : List Row) : List V := rs.map fun r => V.ref r.1
structure Told (H : Hp) (q a b : Addr) (ps : List (List Nat)) (rs : List Row) : Prop where
  at_ : H q = some (.lst [.ref a, .ref b])
  posts : H a = some (.lst (vtx ps))
  rows : H b = some (.lst (refs rs))
  row : ∀ r ∈ rs, RowAt H r
theorem Told.mono {H H' : Hp} {q a b : Addr} {ps : List (List Nat)} {rs : List Row} (e : Ex H H') (h : Told H q a b ps rs) : Told H' q a b ps rs := ⟨e _ _ h.at_, e _ _ h.posts, e _ _ h.rows, fun r hr => e _ _ (h.row r hr)⟩
def bare (rs : List Row) : List (List Nat × List Nat × List Nat) := rs.map fun r => r.2
def spEn : Sp := fun vs H Q _ => ∃ (q a b : Addr) (ps : List (List Nat)) (rs : List Row), vs = [.ref q] ∧ Told H q a b ps rs ∧ (laneNames rs).Nodup ∧ rs.length ≤ 1000 ∧
  ∀ d es H', Ex H H' → H d = none → H' d = some (.dK (dEnds es)) → bare es = bare rs → (∀ e ∈ es, EndAt H' e) → Q (.ref d) H'
theorem bare_names {es rs : List Row} (h : bare es = bare rs) : laneNames es = laneNames rs := by
  have : ∀ l : List Row, laneNames l = (bare l).map fun x => x.1 := fun l => by unfold laneNames bare; rw [List.map_map]; rfl
  rw [this, this, h]
theorem bare_take (rs : List Row) (i : Nat) : bare (rs.take i) = (bare rs).take i := by unfold bare; rw [List.map_take]
section
variable {P : Program} {w : World} {K : PySem.W.Frag} {mg : Str → Option Value} {base : Heap}
theorem scEn : FnScope nEn ["_law_parts"] (defScope sEn) := ⟨rfl, rfl, rfl, by decide +kernel, rfl, by decide +kernel, by decide +kernel⟩
theorem ok_en {f : Addr} {fd : FuncData} (F : FnP K "_law_ends" sEn f fd) : FnOk P w K mg base L2.CX0 1 f fd ["_law_parts"] spEn := by
  refine F.ok (CX := L2.CX0) scEn (fun vs H Q E h => ?_) (fun cdv A outer s H vs Q E hr h => ?_)
  · obtain ⟨q, a, b, ps, rs, rfl, _⟩ := h
    rfl
  · refine ⟨_, (pss_cons (ps_set (i := 1) scEn.nd rfl (by first | exact Or.inl rfl | exact Or.inr rfl) pe_dnewK)
      (pss_cons (ps_for (passes_of rfl) rfl (pi_list (pe_ix ix_list (pv 0) pe_int fun _ _ => rfl)) (pg_tup rfl (pgs_cons (pg_name (i := 2) scEn.nd rfl (by first | exact Or.inl rfl | exact Or.inr rfl)) (pgs_cons (pg_name (i := 3) scEn.nd rfl (by first | exact Or.inl rfl | exact Or.inr rfl)) (pgs_cons (pg_name (i := 4) scEn.nd rfl (by first | exact Or.inl rfl | exact Or.inr rfl)) pgs_nil)))) (pss_one (ps_dput (Nat.lt_of_le_of_lt (Nat.add_le_add_left (show 1 ≤ 64 by decide) _) hr.units) (pv 1) (pv 2) (pe_tup (pa_cons (pv 3) (pa_cons (pv 4) pa_nil))) rfl)))
      (pss_one (ps_ret (pv 1))))), ?_⟩
    obtain ⟨q, a, b, ps, rs, rfl, T, nd, hz, k⟩ := h
    refine s_seq ?_
    refine fun d nd0 => ?_
    have T1 := T.mono (Ex.new (o := HO.dK []) nd0)
    refine s_seq ?_
    refine s_forL (ev_ixA (i := 1) (ev_var rfl) (sq_of T1.at_) rfl) (sq_of T1.rows) (fun i st H' => ∃ t2 t3 t4 es, st = [some (.ref q), some (.ref d), t2, t3, t4] ∧ Ex H H' ∧ H' d = some (.dK (dEnds es)) ∧ bare es = bare (rs.take i) ∧ ∀ e ∈ es, EndAt H' e)
      (fun H1 e => ⟨none, none, none, [], rfl, (Ex.new nd0).trans e, e _ _ upd_same, by rw [List.take_zero], fun _ h => nomatch h⟩) (fun i st H' _ ⟨_, _, _, _, _, e, _⟩ => sq_of (e _ _ T.rows)) ?_ ?_
    · rintro i x σ' H1 hx ⟨t2, t3, t4, es, rfl, e1, hd, hb, hes⟩
      unfold refs at hx
      rw [List.getElem?_map] at hx
      obtain ⟨r, hr1, rfl⟩ := Option.map_eq_some_iff.mp hx
      have hm := List.mem_of_getElem? hr1
      have htk : rs.take (i + 1) = rs.take i ++ [r] := by rw [List.take_succ, hr1]; rfl
      refine ⟨r.1, _, rfl, .inl (.inl (e1 _ _ (T.row r hm))), rfl, ?_⟩
      refine ⟨_, _, rfl, _, _, rfl, _, _, rfl, rfl, ?_⟩
      refine ⟨_, rfl, _, rfl, by show 2 ≤ sizeLine; decide, fun t nt => ?_⟩
      have e2 := e1.trans (Ex.new (o := HO.tup [.str (tx r.2.2.1), .str (tx r.2.2.2)]) nt)
      have td : t ≠ d := fun z => by rw [z, hd] at nt; cases nt
      have hd2 : upd H1 t (.tup [.str (tx r.2.2.1), .str (tx r.2.2.2)]) d = some (.dK (dEnds es)) := (upd_ne td.symm).trans hd
      refine ⟨_, rfl, _, rfl, d, _, rfl, DPut.k (k := (Sum.inr (tx r.2.1) : Key)) hd2 (sz_lt ?_), ?_⟩
      · have h1 : (bare es).length = (bare (rs.take i)).length := by rw [hb]
        unfold bare at h1
        rw [List.length_map, List.length_map, List.length_take] at h1
        unfold dEnds
        rw [List.length_map]
        omega
      · have hnew : r.2.1 ∉ laneNames es := by
          rw [bare_names hb]
          intro z
          have nd2 : (laneNames (rs.take (i + 1))).Nodup := by
            unfold laneNames at nd ⊢
            rw [List.map_take]
            exact nd.sublist (List.take_sublist _ _)
          rw [htk] at nd2
          unfold laneNames at nd2 z
          rw [List.map_append, List.nodup_append] at nd2
          exact nd2.2.2 _ z _ (List.mem_singleton.mpr rfl) rfl
        have hv : valV (dEnds es) (Sum.inr (tx r.2.1) : Key) = none := by
          have := ends_val es r.2.1
          rw [decide_eq_false hnew] at this
          exact Option.not_isSome_iff_eq_none.mp (by rw [this]; decide)
        refine ⟨_, _, _, es ++ [(t, r.2)], rfl, Ex.mut e2 nd0, ?_, ?_, ?_⟩
        · rw [upd_same, putK_new _ hv]
          unfold dEnds
          rw [List.map_append]
          rfl
        · rw [htk]
          unfold bare at hb ⊢
          rw [List.map_append, List.map_append, hb]
          rfl
        · intro e he
          rcases List.mem_append.mp he with he | he
          · have h1 := hes e he
            unfold EndAt at h1 ⊢
            rw [upd_ne (fun z => by rw [z, hd] at h1; cases h1), upd_ne (fun z => by rw [z, nt] at h1; cases h1)]
            exact h1
          · rw [List.mem_singleton.mp he]
            show upd _ d _ t = _
            rw [upd_ne td, upd_same]
    · rintro st H1 ⟨t2, t3, t4, es, rfl, e1, hd, hb, hes⟩
      refine ⟨_, rfl, k d es H1 e1 nd0 hd ?_ hes⟩
      rw [hb]
      unfold refs
      rw [List.length_map, List.take_length]
end
end K17

set_option Elab.async false
set_option linter.all false
set_option maxRecDepth 100000
set_option maxHeartbeats 4000000
/-! {**a, **b}: two dicts put together. -/
namespace Vmg
open PySem PySem.Spec PyProof.Rows L2
section
variable {prog : Program} {w : World} {K : Type} [DecidableEq K] {knd : KeyKind prog w K} {A : Around} {E : Value → Shared → Prop}
theorem put_one {s : Shared} {d : Addr} {kvs : List (K × Value)} {k : K} {key v : Value} {Q : Unit → Shared → Prop} (hkey : knd.is k key = true) (hm : s.heap.DictOf knd d kvs) (hz : kvs.length ≤ sizeLine)
    (hQ : ∀ h', h'.DictOf knd d (stored kvs k v) → Heap.SameBut d s.heap h' → Q () { s with heap := h' }) : wpAny (model prog w) A (dictPut d (knd.hash k) key v) Q E s := by
  obtain ⟨o, es, ep, ho, hc, hd, hk, hp, hn⟩ := hm
  have sz : es.size ≤ sizeLine := by
    have h1 := hp.length
    rw [Array.length_toList] at h1
    omega
  have ix : (es.findIdx? fun e => knd.is k e.key) = kvs.findIdx? fun q => decide (q.1 = k) := by
    rw [← hp.findIdx k]
    cases es
    simp
  unfold dictPut
  refine wpAny_bind (wpAny_dictFind_of hkey ho hd hk ?_)
  rcases hi : es.findIdx? fun e => knd.is k e.key with _ | i
  · have away : k ∉ kvs.map (·.1) := not_mem_of_findIdx_none (ix ▸ hi)
    have none_ : ¬ (kvs.any fun q => decide (q.1 = k)) = true := fun z => by
      obtain ⟨q, hq, he⟩ := List.any_eq_true.mp z
      exact away (List.mem_map.mpr ⟨q, hq, of_decide_eq_true he⟩)
    rw [hi]
    show wpAny _ _ (updateDictKeys d fun es => es.push ⟨knd.hash k, key, v⟩) _ _ _
    refine wpAny_updateDictKeys (f := fun es => es.push ⟨knd.hash k, key, v⟩) (hz := sz) ho hd (hQ _ ⟨_, _, ep + 1, Heap.get?_update_self _ ho (Obj.isFreed_of_dict (Obj.data_mapDictKeys hd _)), hc.mapDictKeys _, Obj.data_mapDictKeys hd _, hk.push hkey _, ?_, ?_⟩ (Heap.SameBut.update ..))
    · unfold stored
      rw [if_neg none_]
      have := hp.append hkey (knd.hash k) v
      cases es
      simpa using this
    · unfold stored
      rw [if_neg none_, List.map_append]
      refine List.nodup_append.mpr ⟨hn, by simp, fun x hx y hy => ?_⟩
      rw [List.map_cons, List.map_nil] at hy
      rw [List.mem_singleton.mp hy]
      exact fun z => away (by rw [← show x = k from z]; exact hx)
  · have some_ : (kvs.any fun q => decide (q.1 = k)) = true := any_of_findIdx_some (ix ▸ hi)
    rw [hi]
    show wpAny _ _ (updateDict d fun es => es.modify i fun e => { e with val := v }) _ _ _
    refine wpAny_updateDict (f := fun es => es.modify i fun e => { e with val := v }) ho hd (hQ _ ⟨_, _, ep, Heap.get?_update_self _ ho (Obj.isFreed_of_dict (Obj.data_mapDict hd _)), hc.mapDict _, Obj.data_mapDict hd _, hk.modify _ _, ?_, ?_⟩ (Heap.SameBut.update ..))
    · unfold stored
      rw [if_pos some_]
      have hl : (es.toList.findIdx? fun e => knd.is k e.key) = some i := by
        rw [← hi]
        cases es
        simp
      have := hp.modify hn hl v
      cases es
      simpa using this
    · unfold stored
      rw [if_pos some_, keys_map_store]
      exact hn
theorem merge_map {s : Shared} {d o : Addr} {kvs more : List (K × Value)} {Q : Unit → Shared → Prop} (far : d ≠ o) (hS : (o == sysModules) = false) (hd : s.heap.DictOf knd d kvs) (ho : s.heap.DictOf knd o more) (hz : kvs.length + more.length ≤ sizeLine)
    (flat : ∀ k v, knd.is k v = true → ∀ a, v ≠ .ref a)
    (hQ : ∀ h', h'.DictOf knd d (merged kvs more) → Heap.SameBut d s.heap h' → Q () { s with heap := h' }) : wpAny (model prog w) A (mergeMapping d (.ref o) false) Q E s := by
  obtain ⟨ob, es, ep, go, hc, hdat, hk, hp, hn⟩ := id ho
  obtain ⟨od, esd, epd, gd, hcd, hdatd, _⟩ := id hd
  have len : more.length = es.size := by
    rw [← hp.length, Array.length_toList]
  unfold mergeMapping
  refine wpAny_bind (wpAny_isInstance ho.typeIs isSubtype_dict_dict ?_)
  simp only [if_true]
  refine wpAny_bind (wpAny_specialOf ho.typeIs PySem.F.slot_dict_iter.lookup (wpAny_bind (wpAny_pure ?_)))
  have loop : wpAny (model prog w) A (do
      let l ← dictEntries o
      let epoch ← dictEpoch o
      forIn (List.range l.size) PUnit.unit fun i (_ : PUnit) => (do
          let l' ← dictEntries o
          match l'[i]? with
          | some e => do
            holding [e.key, e.val] (dictPut d e.hash e.key e.val)
            let ep' ← dictEpoch o
            if (ep' != epoch) = true then do
                (unsupported "dict.changed-during-merge" : Sem PUnit)
                pure (ForInStep.yield PUnit.unit)
              else pure (ForInStep.yield PUnit.unit)
          | _ => do
            (unsupported "dict.changed-during-merge" : Sem PUnit)
            pure (ForInStep.yield PUnit.unit) : Sem (ForInStep PUnit))
      pure ()) Q E s := by
    refine wpAny_bind (wpAny_dictEntries go hdat (wpAny_bind (wpAny_dictEpoch go hdat (wpAny_bind ?_))))
    refine wpAny_forIn_list _ (fun rest _ s' => ∃ h' i, s' = { s with heap := h' } ∧ rest = (List.range es.size).drop i ∧ i ≤ es.size ∧ h'.DictOf knd d (merged kvs (more.take i)) ∧ h'.get? o = some ob ∧ Heap.SameBut d s.heap h') _ ?_ ?_ _ _
      ⟨s.heap, 0, rfl, rfl, Nat.zero_le _, by rw [List.take_zero]; exact hd, go, Heap.SameBut.refl _ _⟩
    · rintro x rest b s' ⟨h', i, rfl, hr, hi, hd', go', hs'⟩
      have lt : i < es.size := by
        rcases Nat.lt_or_ge i es.size with z | z
        · exact z
        · rw [List.drop_eq_nil_of_le (by rw [List.length_range]; exact z)] at hr
          cases hr
      have hdr : (List.range es.size).drop i = i :: (List.range es.size).drop (i + 1) := by
        rw [List.drop_eq_getElem_cons (by rw [List.length_range]; exact lt), List.getElem_range]
      rw [hdr] at hr
      injection hr with hx hrest
      subst hx
      refine wpAny_bind (wpAny_dictEntries go' hdat ?_)
      rw [Array.getElem?_eq_getElem lt]
      obtain ⟨⟨k, v⟩, hkv⟩ : ∃ q, more[x]? = some q := ⟨_, List.getElem?_eq_getElem (show x < more.length by rw [len]; exact lt)⟩
      obtain ⟨hkey, hval⟩ := hp.get? (e := es[x]) (by simp [lt]) hkv
      obtain ⟨k', hkey', hh⟩ := hk es[x] (Array.getElem_mem lt)
      obtain rfl : k' = k := knd.inj _ _ _ hkey' hkey
      show wpAny _ _ (holding [es[x].key, es[x].val] (dictPut d es[x].hash es[x].key es[x].val) >>= _) _ _ _
      rw [hh, hval]
      have z1 := merged_length_le kvs (more.take x)
      have z2 : (more.take x).length ≤ more.length := by rw [List.length_take]; exact Nat.min_le_right _ _
      refine wpAny_bind (wpAny_holding (put_one hkey hd' (by omega) fun h2 hd2 hs2 => ?_))
      have go2 : h2.get? o = some ob := (hs2.2 o (Ne.symm far)).trans go'
      refine wpAny_bind (wpAny_dictEpoch go2 hdat ?_)
      rw [if_neg (by simp)]
      exact wpAny_pure ⟨h2, x + 1, rfl, hrest, lt, by rw [merged_take_succ kvs more x (k', v) hkv]; exact hd2, go2, hs'.trans hs2⟩
    · rintro b s' ⟨h', i, rfl, hr, hi, hd', go', hs'⟩
      have all : i = es.size := by
        rcases Nat.lt_or_ge i es.size with z | z
        · have := congrArg List.length hr
          rw [List.length_drop, List.length_range] at this
          have : 0 = es.size - i := this
          omega
        · omega
      refine wpAny_pure (hQ h' ?_ hs')
      rw [all, ← len, List.take_length] at hd'
      exact hd'
  simp only [beq_self_eq_true, Bool.false_eq_true, if_false]
  rw [if_neg (by rw [hS]; exact Bool.false_ne_true)]
  refine wpAny_bind (wpAny_dictEntries gd hdatd ?_)
  split
  · refine wpAny_bind (wpAny_dictEntries go hdat (wpAny_bind ?_))
    rw [← Array.forIn_toList]
    refine wpAny_forIn_list _ (fun rest _ s' => s' = s ∧ ∀ x ∈ rest, x ∈ es) _ (fun x rest b s' hI => ?_) (fun b s' hI => ?_) _ _ ⟨rfl, fun x hx => Array.mem_toList_iff.mp hx⟩
    · obtain ⟨rfl, hall⟩ := hI
      obtain ⟨k, hkey, _⟩ := hk x (hall x List.mem_cons_self)
      split
      · rename_i a ha
        exact absurd ha (flat k _ hkey a)
      · exact wpAny_pure ⟨rfl, fun y hy => hall y (List.mem_cons_of_mem _ hy)⟩
    · obtain ⟨rfl, _⟩ := hI
      exact loop
  · exact loop
end
theorem mix_flat {P : Program} {w : World} (k : Key) (v : Value) (h : (mixKind P w).is k v = true) (a : Addr) : v ≠ .ref a := fun z => by
  subst z
  cases k <;> cases h
theorem inv_merge {X : Cx} {A : Around} {E : Value → Shared → Prop} {pins : List (Addr × Obj)} {σ : L2.St} {H : Hp} {s : Shared} {p a : Addr} {ks ls : List (Key × V)} {Q : Unit → Shared → Prop} (I : Inv X pins σ H s) (hp : H p = some (.dK ks)) (ha : H a = some (.dK ls)) (ne : a ≠ p)
    (hz : ks.length + ls.length ≤ sizeLine) (h : ∀ s', Inv X pins σ (upd H p (.dK (mergeK ks ls))) s' → Q () s') : wpAny (model X.prog X.w) A (mergeMapping p (.ref a) false) Q E s := by
  obtain ⟨z, hd, vs, rel, dd⟩ := dk_of I.hok hp
  obtain ⟨z2, hd2, ws, rel2, dd2⟩ := dk_of I.hok ha
  have l1 := rel.length
  have l2 := rel2.length
  refine merge_map (Ne.symm ne) hd2 dd dd2 (by omega) mix_flat fun h' dd' hs => h _ ?_
  have he : ∃ q, h'.get? p = some q := let ⟨q, _, _, hq, _⟩ := dd'; ⟨q, hq⟩
  exact d_write I (by rw [hp]; exact True.intro) hs he (dk_new (Nat.le_trans (length_mergeK ls ks) hz) hd (rel2.merge rel) dd')
/-- {**a, **b}: the new dict stands empty while a is read, then holds a -/
def tMrg (ta tb : TE) : TE := fun σ H Q => ∀ p, H p = none → ta σ (upd H p (.dK [])) fun x H1 => H1 p = some (.dK []) ∧ ∃ a ks, x = .ref a ∧ a ≠ p ∧ H1 a = some (.dK ks) ∧
  tb σ (upd H1 p (.dK (mergeK [] ks))) fun y H2 => H2 p = some (.dK (mergeK [] ks)) ∧ ∃ b ls, y = .ref b ∧ b ≠ p ∧ H2 b = some (.dK ls) ∧ (mergeK [] ks).length + ls.length ≤ sizeLine ∧ Q (.ref p) (upd H2 p (.dK (mergeK (mergeK [] ks) ls)))
section
variable {X : Cx} {a b : Expr} {ta tb : TE} {pos : Pos}
theorem pe_mrg (ha : PE X a ta) (hb : PE X b tb) : PE X (.Dict [none, none] [a, b] pos) (tMrg ta tb) := by
  refine ⟨fun pins s σ H Q I q => ?_⟩
  have hn := I.hok.fresh (Nat.le_refl s.heap.objs.size)
  have I1 := I.laid (a := s.heap.objs.size) (o := .dK []) (h' := s.heap.push { cls := .type "dict", data := .dict #[] }) (t' := s.toks) (fun _ _ q => Heap.get?_push_of_some _ q) (Nat.le_refl _) (dk_empty s.heap I.big)
  rw [arm_eval_Dict]
  refine wpAny_bind (wpAny_standAt ?_)
  show wpAny _ _ (dictDisplay [(none, do let x ← eval a X.env; standAt pos; pure x), (none, do let x ← eval b X.env; standAt pos; pure x)]) _ _ _
  unfold dictDisplay
  simp only [List.forIn_cons, List.forIn_nil, List.isEmpty_nil, if_true]
  refine wpAny_bind (wpAny_bind (wpAny_bind (wpAny_pure ?_)))
  refine wpAny_bind (wpAny_alloc ?_)
  refine wpAny_bind (wpAny_holding (wpAny_bind (thn (ha.run pins _ σ _ _ I1 (q _ hn)) fun u s1 ⟨x, H1, J1, r1, p1, a1, ks, ev, ne1, ha1, q1⟩ => wpAny_bind (wpAny_standAt (wpAny_pure ?_)))))
  subst ev
  obtain rfl : u = Value.ref a1 := r1
  have z1 := (dk_of J1.hok ha1).1
  refine wpAny_bind (wpAny_onRaise (wpAny_tryCatch (wpAny_onRaise (wpAny_holding (inv_merge J1 p1 ha1 ne1 (by show 0 + ks.length ≤ sizeLine; omega) fun s2 J2 => wpAny_pure ?_)))))
  simp only [List.isEmpty_nil, if_true]
  refine wpAny_bind (wpAny_bind (wpAny_pure ?_))
  refine wpAny_bind (wpAny_pure ?_)
  refine wpAny_bind (wpAny_holding (wpAny_bind (thn (hb.run pins _ σ _ _ J2 q1) fun u s3 ⟨y, H2, J3, r2, p2, b1, ls, ev, ne2, hb1, z3, q2⟩ => wpAny_bind (wpAny_standAt (wpAny_pure ?_)))))
  subst ev
  obtain rfl : u = Value.ref b1 := r2
  refine wpAny_bind (wpAny_onRaise (wpAny_tryCatch (wpAny_onRaise (wpAny_holding (inv_merge J3 p2 hb1 ne2 z3 fun s4 J4 => wpAny_pure ?_)))))
  simp only [List.isEmpty_nil, if_true]
  refine wpAny_pure (wpAny_bind ?_)
  simp only [List.isEmpty_nil, if_true]
  exact wpAny_pure (wpAny_pure ⟨.ref s.heap.objs.size, _, J4, rfl, q2⟩)
end
/-- nothing twice: the merged dict of an empty one is the other -/
theorem merge_new : ∀ (more kvs : List (Key × V)), ((kvs ++ more).map (·.1)).Nodup → mergeK kvs more = kvs ++ more
  | [], kvs, _ => (List.append_nil kvs).symm
  | q :: r, kvs, h => by
    have e : kvs ++ q :: r = (kvs ++ [q]) ++ r := by rw [List.append_assoc]; rfl
    have far : q.1 ∉ kvs.map (·.1) := fun z => by
      rw [List.map_append, List.map_cons] at h
      exact (List.nodup_append.mp h).2.2 _ z _ List.mem_cons_self rfl
    have h1 : putK kvs q.1 q.2 = kvs ++ [q] := by
      unfold putK
      rw [if_neg fun z => by
        obtain ⟨y, hy, he⟩ := List.any_eq_true.mp z
        exact far (List.mem_map.mpr ⟨y, hy, of_decide_eq_true he⟩)]
    show mergeK (putK kvs q.1 q.2) r = _
    rw [h1, e]
    exact merge_new r _ (by rw [← e]; exact h)
end Vmg

set_option Elab.async false
set_option linter.all false
set_option maxRecDepth 100000
set_option maxHeartbeats 4000000
/-! Two dicts compared, their values data: the verdict. -/
namespace Vde
open PySem PySem.Spec PyProof.Rows L2 Vl Evl Vda
/-- what the verdict is made of: for each key of ks that ls has, e says whether the values are alike -/
def ValsAre (K : PySem.W.Frag) (H : Hp) (ks ls : List (Key × V)) (e : Key → Bool) : Prop := ∀ k v z, (k, v) ∈ ks → valV ls k = some z → ∃ d1 d2, Dp K H v d1 ∧ Dp K H z d2 ∧ SeqAt.shaped d1 = true ∧ SeqAt.shaped d2 = true ∧ e k = PyData.eqv d1 d2
def dictV (ks ls : List (Key × V)) (e : Key → Bool) : Bool := ks.length == ls.length && ks.all fun p => (valV ls p.1).isSome && e p.1
def rEqDD (K : PySem.W.Frag) : R2 := fun x y H Q => ∃ a b ks ls e, x = .ref a ∧ y = .ref b ∧ H a = some (.dK ks) ∧ H b = some (.dK ls) ∧ ValsAre K H ks ls e ∧ Q (.bl (dictV ks ls e)) H
theorem kv_mem {ks : List (Key × V)} {va : List (Key × Value)} (r : KV ks va) : ∀ k u, (k, u) ∈ va → ∃ v, (k, v) ∈ ks ∧ RelV v u := by
  unfold KV at r
  induction r with
  | nil => exact fun k u h => nomatch h
  | @cons p q ps qs h t ih =>
    intro k u hm
    rcases List.mem_cons.mp hm with hm | hm
    · refine ⟨p.2, ?_, ?_⟩
      · have e : p = (k, p.2) := by
          have h1 := h.1
          rw [← hm] at h1
          exact Prod.ext h1 rfl
        rw [← e]
        exact List.mem_cons_self
      · have h2 := h.2
        rw [← hm] at h2
        exact h2
    · obtain ⟨v, h1, h2⟩ := ih k u hm
      exact ⟨v, List.mem_cons_of_mem _ h1, h2⟩
theorem all_kv {ls : List (Key × V)} {vb : List (Key × Value)} (rb : KV ls vb) (e : Key → Bool) {ks : List (Key × V)} {va : List (Key × Value)} (r : KV ks va) :
    (va.all fun p => (valueAt vb p.1).isSome && e p.1) = ks.all fun p => (valV ls p.1).isSome && e p.1 := by
  unfold KV at r
  induction r with
  | nil => rfl
  | @cons p q ps qs h t ih =>
    rw [List.all_cons, List.all_cons, ih, ← h.1, ← (rb.val p.1).isSome_eq]
section
variable {X : Cx}
theorem op_eqDD (hu : X.A.units + 65 < cLine) : OpR X (compareOp .Eq) (rEqDD X.K) := by
  intro pins s σ H x y v u Q I rx ry h
  obtain ⟨a, b, ks, ls, e, rfl, rfl, ea, eb, hv, q⟩ := h
  obtain rfl : v = Value.ref a := rx
  obtain rfl : u = Value.ref b := ry
  obtain ⟨_, ya, va, ra, da⟩ := (show ObjOk X.prog X.w H s.heap a (.dK ks) from I.hok a _ ea)
  obtain ⟨_, yb, vb, rb, db⟩ := (show ObjOk X.prog X.w H s.heap b (.dK ls) from I.hok b _ eb)
  have la := ra.length
  have lb := rb.length
  refine PySem.W.keq_eqIn (knd := mixKind X.prog X.w) (r := va.all fun p => (valueAt vb p.1).isSome && e p.1) ya yb da db (by omega) (fun _ => PySem.W.KeqHitsIn.of va fun k v1 y1 hm hy => ?_) ?_
  · obtain ⟨v2, h1, h2⟩ := kv_mem ra k v1 hm
    have h3 := rb.val k
    rw [hy] at h3
    rcases hz : valV ls k with _ | z
    · rw [hz] at h3
      exact h3.elim
    rw [hz] at h3
    obtain ⟨d1, d2, p1, p2, s1, s2, he⟩ := hv k v2 z h1 hz
    obtain ⟨as, w1⟩ := Dp.reads I d1 v2 v1 p1 h2
    obtain ⟨bs, w2⟩ := Dp.reads I d2 z y1 p2 h3
    rw [he]
    have hin : X.A.in1.units + 64 < cLine := by
      show X.A.units + 1 + 64 < cLine
      omega
    exact fun E Q hq => SeqAt.eqAt_reads d1 d2 _ _ _ _ _ _ w1 w2 (SeqAt.canLay_of_shaped s1) (SeqAt.canLay_of_shaped s2) (SeqAt.room_of_shaped s1 hin) X.prog X.w E Q hq
  · refine ⟨.bl (dictV ks ls e), H, I, ?_, q⟩
    show Value.bool _ = Value.bool _
    unfold dictV
    rw [all_kv rb e ra, ← la, ← lb]
end
end Vde

set_option Elab.async false
set_option linter.all false
set_option maxRecDepth 100000
set_option maxHeartbeats 4000000
/-! Own operators between two objects of one class; own operators in place; own comparisons. -/
namespace Vo2
open PySem PySem.Spec PyProof.Rows L2 Vl Evl Vp Vo Vc Vh Vw
theorem own_same {prog : Program} {w : World} {A : Around} {Er : Value → Shared → Prop} {s : Shared} {K : PySem.W.Frag} {x y C L f : Addr} {h0 : Heap} {m : Str → Option Value} {ox oy : Obj} {od od2 : Option Obj}
    {op : Operator} {Q : Value → Shared → Prop} (F : Fr h0 L s.heap m) (X0 : K.In h0) (I : PySem.W.InstAt s.heap x ox C od) (J : PySem.W.InstAt s.heap y oy C od2) (W : OwnOp K C op.info.2 f)
    (h : wpAny (model prog w) A (call (.ref f) [.ref x, .ref y]) (PySem.W.CmpBack Q) Er s) : wpAny (model prog w) A (binaryOp op (.ref x) (.ref y)) Q Er s := by
  have X := X0.keeps F.keep
  obtain ⟨cd, rest, hcd, hm⟩ := PySem.W.ksp_first W.fst
  have one := PySem.W.ksp_try X I W.at_ W.fn h
  rcases hi : op.info with ⟨sym, nm⟩
  have wa := W.at_
  rw [hi] at wa
  rw [hi] at one
  dsimp only at wa one
  obtain ⟨hh, g, d, tt, os⟩ := s
  have a1 : PySem.W.Looks (model prog w) hh (typeOf (.ref x)) (.ref C) := I.type
  have a2 : PySem.W.Looks (model prog w) hh (typeOf (.ref y)) (.ref C) := J.type
  have a3 := PySem.W.fills_K (M := model prog w) X hcd hm wa
  have e : (Value.ref C == Value.ref C) = true := beq_self_eq_true _
  simp only [binaryOp, hi]
  refine wpAny_holding (wpAny_bind ?_)
  unfold binaryOp1
  refine wpAny_bind (a1.at (wpAny_bind (a2.at (wpAny_bind (a3.at ?_)))))
  simp only [e, if_true]
  ksp_lk
  refine wpAny_mono one (fun r s' hr => ?_) fun _ _ z => z
  obtain ⟨v, rfl, hq⟩ := hr
  ksp_lk
  exact hq
/-- o op o2, both of the class -/
structure OwS (P : Program) (w : World) (K : PySem.W.Frag) (mg : Str → Option Value) (base : Heap) (C : Addr) (CX : CXT) (k : Nat) (nm : String) (sp : Sp) : Prop where
  ex : ∃ (f : Addr) (fd : FuncData) (ps : List Str), FnOk P w K mg base CX k f fd ps sp ∧ OwnOp K C nm f ∧ L2.Binds K fd ps []
def tOwS (C : Addr) (sp : Sp) (E : L2.St → XK) (ta tb : TE) : TE := fun st H Q => ta st H fun x H1 => tb st H1 fun y H2 => ∃ o dx fs o2 dx2 fs2, x = .ref o ∧ H2 o = some (.ins C dx fs) ∧ y = .ref o2 ∧ H2 o2 = some (.ins C dx2 fs2) ∧ sp [x, y] H2 Q (E st)
section
variable {X : Cx} {C : Addr} {j k : Nat} {sp : Sp} {E : L2.St → XK} {pos : Pos} {a b : Expr} {ta tb : TE} {op : Operator}
theorem pe_owSX (T : OwS X.prog X.w X.K X.mg X.base C (L2.CX X.prog X.w) k op.info.2 sp) (hr : Room j X.A) (hx : ∀ st, PassesAt (L2.CX X.prog X.w) X st (E st)) (ha : PE X a ta) (hi : PE X b tb) (hk : k ≤ j := by decide) : PE X (.BinOp a op b pos) (tOwS C sp E ta tb) := by
  obtain ⟨f, fd, ps, F, W, B⟩ := T.ex
  refine ⟨fun pins s σ H Q I h => ?_⟩
  refine wpAny_BinOp (binT ha hi I h fun v u s2 x y H2 I2 rx ry q => ?_)
  obtain ⟨o, dx, fs, o2, dx2, fs2, rfl, eo, rfl, eo2, q⟩ := q
  obtain rfl : v = Value.ref o := rx
  obtain rfl : u = Value.ref o2 := ry
  obtain ⟨ob, od, J⟩ := inst_at I2 eo
  obtain ⟨ob2, od2, J2⟩ := inst_at I2 eo2
  obtain ⟨m, fr⟩ := I2.fr
  refine own_same fr I2.ok.mod.kin J J2 W ?_
  exact wpAny_mono (run_here F (hr.mono hk) B (hx σ) I2 (Paired.cons (show RelV (V.ref o) (Value.ref o) from rfl) (.cons (show RelV (V.ref o2) (Value.ref o2) from rfl) .nil)) q) (fun u s' z => cmp_back z) fun _ _ z => z
theorem pe_owSN (T : OwS X.prog X.w X.K X.mg X.base C (L2.CX X.prog X.w) k op.info.2 sp) (hr : Room j X.A) (ha : PE X a ta) (hi : PE X b tb) (hk : k ≤ j := by decide) : PE X (.BinOp a op b pos) (tOwS C sp (fun _ => nil0) ta tb) :=
  pe_owSX (E := fun _ => nil0) T hr (fun σ => Vtr.passNo σ) ha hi hk
end
/-- name op= y, the class has an own operator in place -/
structure OwnI (K : PySem.W.Frag) (C : Addr) (nm : String) (f : Addr) : Prop where
  fst : PySem.W.selfFirst K C = true
  at_ : PySem.W.findIn K (.ref C) (dunderI nm) = some (some (.ref f))
  fn : PySem.W.isFn K (.ref f) = true
structure OwI (P : Program) (w : World) (K : PySem.W.Frag) (mg : Str → Option Value) (base : Heap) (C : Addr) (CX : CXT) (k : Nat) (nm : String) (sp : Sp) : Prop where
  ex : ∃ (f : Addr) (fd : FuncData) (ps : List Str), FnOk P w K mg base CX k f fd ps sp ∧ OwnI K C nm f ∧ L2.Binds K fd ps []
def tAugO (C : Addr) (sp : Sp) (E : L2.St → XK) (i : Nat) (te : TE) : TS := fun D σ H => ∃ x, σ[i]? = some (some x) ∧ te σ H fun y H1 => ∃ o dx fs, x = .ref o ∧ H1 o = some (.ins C dx fs) ∧ sp [x, y] H1 (fun z H2 => D.nx (σ.set i (some z)) H2) (E σ)
section
variable {X : Cx} {C : Addr} {j k : Nat} {sp : Sp} {E : L2.St → XK} {pos : Pos} {e : Expr} {te : TE} {op : Operator}
theorem ps_augO {i : Nat} {x : Str} {pos' : Pos} (T : OwI X.prog X.w X.K X.mg X.base C (L2.CX X.prog X.w) k op.info.2 sp) (hr : Room j X.A) (hx : ∀ st, PassesAt (L2.CX X.prog X.w) X st (E st)) (hN : X.N.Nodup) (hi : X.N[i]? = some x) (hl : Loc X.env.scope x) (he : PE X e te)
    (hf : X.fn x = true ∨ X.env.scope.names.lookup x = some .local := by first | exact .inl rfl | exact .inr rfl | assumption) (hk : k ≤ j := by decide) :
    PS X (.AugAssign (.Name x pos') op e pos) (tAugO C sp E i te) := by
  obtain ⟨f, fd, ps, F, W, B⟩ := T.ex
  refine ⟨fun pins s σ H D I h => ?_⟩
  obtain ⟨v, e1, h⟩ := h
  obtain ⟨m, hn, hlc⟩ := I.loc
  have vis : Vis X.env.scope x := by rcases hl with k | k; exact .inl k; exact .inr (.inl k)
  obtain ⟨u, r, l⟩ := hlc i x v hi e1 vis
  refine wpAny_AugAssign_Name ?_
  have go : wpAny (model X.prog X.w) X.A (eval e X.env) (fun w s₂ => wpAny (model X.prog X.w) X.A (inplaceOp op u w) (fun r s₃ => wpAny (model X.prog X.w) X.A (storeName X.env x r) (fun _ => SP X pins D .next) X.xe s₃) X.xe s₂) X.xe s := by
    refine thn (he.run pins s σ H _ I h) fun w s1 ⟨y, H1, I1, r1, o, dx, fs, ev, eo, q1⟩ => ?_
    subst ev
    obtain rfl : u = Value.ref o := r
    obtain ⟨ob, od, J⟩ := inst_at I1 eo
    obtain ⟨m, fr⟩ := I1.fr
    refine PySem.W.ksp_inplace fr I1.ok.mod.kin J W.fst W.at_ W.fn ?_
    refine wpAny_mono (run_here F (hr.mono hk) B (hx σ) I1 (Paired.cons (show RelV (V.ref o) (Value.ref o) from rfl) (.cons r1 .nil)) q1) (fun z s2 zz => ?_) fun _ _ z => z
    obtain ⟨zv, H2, I2, r2, q2⟩ := zz
    exact SlX.cmpback r2 (store_ok I2 hN hi hl r2 (fun s3 I3 => ⟨_, H2, I3, q2⟩) hf)
  rcases l with ⟨hk, hm⟩ | ⟨hk, c, hc, hcell⟩
  · exact wpAny_loadName_local I.ok.kind hk hn hm go
  · rcases hk with hk | hk
    · exact wpAny_loadName_cell I.ok.kind hk hc hcell go
    · rcases hl with k | k
      · have : X.env.scope.names.lookup x = some .free := hk
        rw [k] at this; cases this
      · have : X.env.scope.names.lookup x = some .free := hk
        rw [k] at this; cases this
end
/-- the right operand: of the class, or of a built-in type -/
def TyR (C : Addr) (y : V) (H : Hp) (t : Value) : Prop := (∃ o dx fs, y = .ref o ∧ H o = some (.ins C dx fs) ∧ t = .ref C) ∨ ∃ n, Wr y H n ∧ t = .type n
theorem TyR.looks {X : Cx} {C : Addr} {pins : List (Addr × Obj)} {st : L2.St} {H : Hp} {s : Shared} {y : V} {u t : Value} (I : Inv X pins st H s) (r : RelV y u) (h : TyR C y H t) : PySem.W.Looks (model X.prog X.w) s.heap (typeOf u) t := by
  rcases h with ⟨o, dx, fs, rfl, eo, rfl⟩ | ⟨n, hw, rfl⟩
  · obtain rfl : u = Value.ref o := r
    obtain ⟨ob, od, J⟩ := inst_at I eo
    exact J.type
  · exact hw.looks I r
structure Nf (K : PySem.W.Frag) (C : Addr) : Prop where
  own : PySem.W.notFirst K C (.ref C) = true
  ty : ∀ t ∈ tyNames, PySem.W.notFirst K C (.type t) = true
theorem Nf.at {K : PySem.W.Frag} {C : Addr} (h : Nf K C) {y : V} {H : Hp} {t : Value} (ht : TyR C y H t) : PySem.W.notFirst K C t = true := by
  rcases ht with ⟨o, dx, fs, rfl, eo, rfl⟩ | ⟨n, hw, rfl⟩
  · exact h.own
  · exact h.ty n hw.mem
section
variable {X : Cx} {C : Addr} {j k : Nat} {sp : Sp}
theorem op_cmpM {op : CmpOp} (hop : ∀ a b, compareOp op a b = richCompare op a b) (T : Mo X.prog X.w X.K X.mg X.base C L2.CX0 k (cmpInfo op).2.1 sp) (N : Nf X.K C) (hr : Room j X.A) (hk : k ≤ j := by decide) :
    OpR X (compareOp op) (rOwn C (TyR C) sp nil0) := by
  obtain ⟨f, fd, ps, F, M, B⟩ := T.ex
  intro pins s σ H x y v u Q I rx ry q
  obtain ⟨o, dx, fs, t, rfl, eo, ht, q⟩ := q
  obtain rfl : v = Value.ref o := rx
  obtain ⟨ob, od, J⟩ := inst_at I eo
  obtain ⟨m, fr⟩ := I.fr
  have hu : X.A.units < cLine := by have := hr.un; omega
  rw [hop]
  refine PySem.W.cmp_K hu fr I.ok.mod.kin J (ht.looks I ry) (N.at ht) M.at_ M.fn ?_
  exact wpAny_mono (run_here F (hr.mono hk) B (fun _ _ _ _ _ _ h => h.elim) I (Paired.cons (show RelV (V.ref o) (Value.ref o) from rfl) (.cons ry .nil)) q) (fun u s' z => cmp_back z) fun _ _ z => z
theorem op_leM (T : Mo X.prog X.w X.K X.mg X.base C L2.CX0 k "__le__" sp) (N : Nf X.K C) (hr : Room j X.A) (hk : k ≤ j := by decide) : OpR X (compareOp .LtE) (rOwn C (TyR C) sp nil0) := op_cmpM (op := .LtE) (fun _ _ => rfl) T N hr hk
theorem op_eqM (T : Mo X.prog X.w X.K X.mg X.base C L2.CX0 k "__eq__" sp) (N : Nf X.K C) (hr : Room j X.A) (hk : k ≤ j := by decide) : OpR X (compareOp .Eq) (rOwn C (TyR C) sp nil0) := op_cmpM (op := .Eq) (fun _ _ => rfl) T N hr hk
end
end Vo2

set_option Elab.async false
set_option linter.all false
set_option maxRecDepth 100000
set_option maxHeartbeats 4000000
/-! raise out of a loop over a dict: the dict is open again. -/
namespace Vul
open PySem PySem.Spec PyProof.Rows L2
def Open (H0 : Hp) (W : WX) : WX := fun cls x σ H => ∃ d od u, H d = some (.frz od u) ∧ (∀ o' u', H0 d ≠ some (.frz o' u')) ∧ W cls x σ (upd H d u)
theorem takes_open {X : Cx} {W : WX} (t : Takes X W) : Takes X (Open X.H_0 W) := fun u s' ⟨a, B, sI, pins, σ, H, cls, x, e, I, nb, up, sky, na, os, ag, d, od, uu, hf, hn, w⟩ =>
  t u s' ⟨a, B, sI, pins, σ, upd H d uu, cls, x, e, I.unlock hf hn, nb, up, sky, (upd_ne (fun z => by rw [z, hf] at na; cases na)).trans na, os, ag, w⟩
end Vul

set_option Elab.async false
set_option linter.all false
set_option maxRecDepth 100000
set_option maxHeartbeats 2000000
/-! Comprehensions over a tuple that stands, over a list or a tuple; all(..) of such. -/
namespace Vlt
open PySem PySem.Spec PyProof.Rows L2 Vl Evl Vp Ve Ven
section
variable {K : PySem.W.Frag} {te tl : TE} {tt : TT} {σ : L2.St} {H : Hp}
theorem el_lcTA {α : Type} {ys : List α} {g : α → V} {a : Addr} {j : Nat} {vs : List Nat} (c : α → Bool) (w : α → V) (h : Ev tl σ H (.ref a)) (hx : SqT K H a (ys.map g)) (hz : ys.length ≤ 40000) (hw : ∀ x, wipe ((wipe σ vs).set j (some x)) vs = wipe σ vs)
    (ht : ∀ (y : α) (H1 : Hp), Ex H H1 → y ∈ ys → EvT tt ((wipe σ vs).set j (some (g y))) H1 (c y)) (he : ∀ (y : α) (H1 : Hp), Ex H H1 → y ∈ ys → c y = true → Ev te ((wipe σ vs).set j (some (g y))) H1 (w y)) :
    EvL (tLc (iTup K tl) (gName j) tt te vs) σ H ((ys.filter c).map w) := fun H0 e Q q => h H0 e _ fun H1 e1 => ⟨a, rfl, ⟨ys.map g, ex_t (e.trans e1) hx⟩, fun Dl hD => by
  have hgm := given_map c w (fun i => match ys[i]? with | some y => c y | none => false) (fun i => match ys[i]? with | some y => w y | none => .non) (fun i y hy => by rw [hy]; exact ⟨rfl, rfl⟩) ys.length (Nat.le_refl _)
  rw [List.take_length] at hgm
  refine lc_tup (xs := ys.map g) (Cw H1 (fun i => match ys[i]? with | some y => c y | none => false) (fun i => match ys[i]? with | some y => w y | none => .non) Dl) ⟨hD, Ex.new hD, upd_same⟩ (fun i H' _ p => ex_t ((e.trans e1).trans p.2.1) hx) (fun i x H' hi p => ⟨hw x, ?_⟩)
    (fun H' p => q Dl H' (fresh_back e1 p.1) (e1.trans p.2.1) (by have h2 := p.2.2; rw [List.length_map, hgm] at h2; exact h2))
  rw [List.getElem?_map] at hi
  obtain ⟨y, hy, rfl⟩ := Option.map_eq_some_iff.mp hi
  have hm := List.mem_of_getElem? hy
  refine cw_turn p (by have := (List.getElem?_eq_some_iff.mp hy).1; omega) ?_ ?_
  · rw [hy]
    exact ht y H1 (e.trans e1) hm
  · rw [hy]
    exact fun hf => he y H1 (e.trans e1) hm hf⟩
theorem el_lcTM {α : Type} {ys : List α} {g : α → V} {a : Addr} {j : Nat} {vs : List Nat} (w : α → V) (h : Ev tl σ H (.ref a)) (hx : SqT K H a (ys.map g)) (hz : ys.length ≤ 40000) (hw : ∀ x, wipe ((wipe σ vs).set j (some x)) vs = wipe σ vs)
    (he : ∀ (y : α) (H1 : Hp), Ex H H1 → y ∈ ys → Ev te ((wipe σ vs).set j (some (g y))) H1 (w y)) : EvL (tLc (iTup K tl) (gName j) tYes te vs) σ H (ys.map w) := by
  have := el_lcTA (K := K) (tt := tYes) (te := te) (fun _ => true) w h hx hz hw (fun y H1 _ _ => et_yes) (fun y H1 e hy _ => he y H1 e hy)
  rw [List.filter_eq_self.mpr (fun _ _ => rfl)] at this
  exact this
theorem ev_all {bs : List Bool} (h : EvL te σ H (bs.map V.bl)) : Ev (tCB (rAll K) (tCons te tNil)) σ H (.bl (bs.all id)) := fun H1 e Q q => h H1 e _ fun p H2 np e2 hp => ⟨p, bs, rfl, sq_of hp, q H2 e2⟩
theorem given_all {n : Nat} (v : Nat → V) : given n (fun _ => true) v = (List.range n).map v := by
  unfold given
  rw [List.filter_eq_self.mpr (fun _ _ => rfl)]
theorem lc_seqL {i : Nat} {g : TG} {vs : List Nat} {Q : VK} (h : tLc (iList K (tVar i)) g tt te vs σ H Q) : tLc (iSeqA K (tVar i)) g tt te vs σ H Q := by
  obtain ⟨v, hv, a, e, hs, r⟩ := h
  exact ⟨v, hv, a, e, .inl ⟨hs, r⟩⟩
theorem lc_seqT {i : Nat} {g : TG} {vs : List Nat} {Q : VK} (h : tLc (iTup K (tVar i)) g tt te vs σ H Q) : tLc (iSeqA K (tVar i)) g tt te vs σ H Q := by
  obtain ⟨v, hv, a, e, hs, r⟩ := h
  exact ⟨v, hv, a, e, .inr ⟨hs, r⟩⟩
/-- over a list or a tuple that a variable holds -/
theorem el_lcSM {α : Type} {ys : List α} {g : α → V} {a : Addr} {i j : Nat} {vs : List Nat} (w : α → V) (h : σ[i]? = some (some (.ref a))) (hx : SqA K H a (ys.map g)) (hz : ys.length ≤ 40000) (hw : ∀ x, wipe ((wipe σ vs).set j (some x)) vs = wipe σ vs)
    (he : ∀ (y : α) (H1 : Hp), Ex H H1 → y ∈ ys → Ev te ((wipe σ vs).set j (some (g y))) H1 (w y)) : EvL (tLc (iSeqA K (tVar i)) (gName j) tYes te vs) σ H (ys.map w) := fun H1 e Q q => by
  rcases hx with hx | hx
  · exact lc_seqL (el_lcM w (ev_var h) hx hz hw he H1 e Q q)
  · exact lc_seqT (el_lcTM w (ev_var h) hx hz hw he H1 e Q q)
end
end Vlt

set_option Elab.async false
set_option linter.all false
set_option maxRecDepth 100000
set_option maxHeartbeats 2000000
/-! Tuples that come out, new or old. -/
namespace Vt
open PySem PySem.Spec PyProof.Rows L2 Vl Evl Vp Vr
section
variable {K : PySem.W.Frag} {te ta tb : TE} {tl th : TO} {σ : L2.St} {H : Hp} {xs ys : List V} {p : Addr} {lo hi : Option Int}
def EvT (K : PySem.W.Frag) (te : TE) (σ : L2.St) (H : Hp) (xs : List V) : Prop := ∀ H1, Ex H H1 → ∀ Q : VK, (∀ p H2, Ex H1 H2 → SqT K H2 p xs → Q (.ref p) H2) → te σ H1 Q
theorem sqt_new {q : Addr} : SqT K (upd H q (.tup xs)) q xs := .inl (.inl upd_same)
theorem et_ref (h : Ev te σ H (.ref p)) (hx : SqT K H p xs) : EvT K te σ H xs := fun H1 e Q q => h H1 e Q fun H2 e2 => q p H2 e2 (ex_t (e.trans e2) hx)
theorem et_cut (h : EvT K te σ H xs) (h1 : EvO tl σ H lo) (h2 : EvO th σ H hi) : EvT K (tSl (rSlA K) te tl th) σ H (cutV xs lo hi) := by
  intro H1 e Q q
  refine h H1 e _ fun p H2 e2 hp => h1 H2 (e.trans e2) _ fun H3 e3 => h2 H3 ((e.trans e2).trans e3) _ fun H4 e4 => ?_
  refine ⟨p, xs, rfl, ex_t (e3.trans e4) hp, fun hw => ?_, fun _ p2 n2 => q p2 _ (((e2.trans e3).trans e4).trans (Ex.new n2)) sqt_new⟩
  have ec : cutV xs lo hi = xs := by
    unfold cutV
    rw [hw.1, hw.2, List.drop_zero, Nat.sub_zero, List.take_length]
  refine q p H4 ((e2.trans e3).trans e4) ?_
  rw [ec]
  exact ex_t (e3.trans e4) hp
theorem et_cat (h : EvT K ta σ H xs) (h2 : EvT K tb σ H ys) (hl : xs.length + ys.length ≤ 100000) : EvT K (tOp (rCatA K) ta tb) σ H (xs ++ ys) := by
  intro H1 e Q q
  refine h H1 e _ fun p H2 e2 hp => h2 H2 (e.trans e2) _ fun p2 H3 e3 hp2 => ?_
  refine ⟨p, p2, xs, ys, rfl, rfl, ex_t e3 hp, hp2, sz_of hl, fun hx => ?_, fun _ hy => ?_, fun _ _ p4 n4 => q p4 _ ((e2.trans e3).trans (Ex.new n4)) sqt_new⟩
  · refine q p2 H3 (e2.trans e3) ?_
    rw [hx]
    exact hp2
  · refine q p H3 (e2.trans e3) ?_
    rw [hy, List.append_nil]
    exact ex_t e3 hp
/-- a[k:] + a[:k] -/
theorem et_rot {a : List (List Nat)} {k : Nat} {t1 t2 : TE} {u1 u2 : TE} (h1 : EvT K t1 σ H (vtx a)) (h2 : EvT K t2 σ H (vtx a)) (g1 : Ev u1 σ H (.int (k : Int))) (g2 : Ev u2 σ H (.int (k : Int))) (hl : a.length ≤ 1000) :
    EvT K (tOp (rCatA K) (tSl (rSlA K) t1 (tPart u1) tNoPart) (tSl (rSlA K) t2 tNoPart (tPart u2))) σ H (vtx (rot a k)) := by
  have := et_cat (et_cut h1 (eo_some g1) eo_none) (et_cut h2 eo_none (eo_some g2)) (by
    have h3 := cutV_length (vtx a) (some (k : Int)) none
    have h4 := cutV_length (vtx a) none (some (k : Int))
    rw [vtx_len] at h3 h4
    omega)
  rw [cutV1, cutV0, ← vtx_rot] at this
  exact this
end
end Vt

set_option Elab.async false
set_option linter.all false
set_option maxRecDepth 100000
set_option maxHeartbeats 2000000
/-! t[::-1] of a tuple. -/
namespace Vt
open PySem PySem.Spec PyProof.Rows L2 HT PySem.SeqAt PySem.MeetsSeq PySem.MeetsSeq2 PySem.MeetsSeq3
theorem rev_adjust (n : Nat) : Builtin.Slice.sliceAdjust none none (-1) (n : Int) = ((n : Int) - 1, -1) := rfl
theorem rev_places (n : Nat) : Builtin.Slice.slicePlaces ((n : Int) - 1) (-1) (-1) = n := by
  unfold Builtin.Slice.slicePlaces
  rw [if_neg (by omega)]
  by_cases h : (n : Int) - 1 > -1
  · rw [if_pos h, show -(-1 : Int) = 1 by omega, Int.ediv_one]
    omega
  · rw [if_neg h]
    omega
theorem fm_map {α β : Type} {f : α → Option β} {g : α → β} : ∀ l : List α, (∀ m ∈ l, f m = some (g m)) → l.filterMap f = l.map g
  | [], _ => rfl
  | x :: r, h => by
    rw [List.filterMap_cons_some (h x List.mem_cons_self), fm_map r fun m hm => h m (List.mem_cons_of_mem _ hm), List.map_cons]
theorem rev_pick (xs : Array Value) : ((List.range xs.size).filterMap fun (m : Nat) => xs[(((xs.size : Int) - 1) + (m : Int) * (-1)).toNat]?).toArray = xs.toList.reverse.toArray := by
  congr 1
  have e : ((List.range xs.size).filterMap fun (m : Nat) => xs[(((xs.size : Int) - 1) + (m : Int) * (-1)).toNat]?).map some = (xs.toList.reverse).map some := by
    refine List.ext_getElem? fun i => ?_
    have hf : ((List.range xs.size).filterMap fun (m : Nat) => xs[(((xs.size : Int) - 1) + (m : Int) * (-1)).toNat]?) = (List.range xs.size).map fun m => xs.toList.reverse.getD m .none := by
      refine fm_map _ fun m hm => ?_
      have hm := List.mem_range.mp hm
      rw [show (((xs.size : Int) - 1) + (m : Int) * (-1)).toNat = xs.size - 1 - m by omega, ← Array.getElem?_toList]
      rw [List.getD_eq_getElem?_getD, List.getElem?_reverse (by rw [Array.length_toList]; exact hm), Array.length_toList, List.getElem?_eq_getElem (by rw [Array.length_toList]; omega)]
      rfl
    rw [hf]
    by_cases hi : i < xs.size
    · rw [List.getElem?_map, List.getElem?_map, List.getElem?_map, List.getElem?_range hi]
      have hl : i < xs.toList.reverse.length := by rw [List.length_reverse, Array.length_toList]; exact hi
      rw [List.getElem?_eq_getElem hl]
      show some (some (xs.toList.reverse.getD i .none)) = some (some _)
      rw [List.getD_eq_getElem?_getD, List.getElem?_eq_getElem hl]
      rfl
    · rw [List.getElem?_eq_none (by rw [List.length_map, List.length_map, List.length_range]; omega), List.getElem?_eq_none (by rw [List.length_map, List.length_reverse, Array.length_toList]; omega)]
  exact (List.map_inj_right (fun _ _ h => Option.some.inj h)).mp e
section
variable {prog : Program} {w : World} {A : Around} {E : Value → Shared → Prop} {s : Shared}
theorem getItem_tuple_rev {t sl : Addr} {items : Array Value} {vs : Value} {Q : Value → Shared → Prop} (ht : IsTup s.heap t items) (hs : s.heap.IsSliceOf sl .none .none vs) (ps : IsPart vs (some (-1)))
    (h : Q (.ref s.heap.objs.size) { s with heap := s.heap.push { cls := .type "tuple", data := .seq items.toList.reverse.toArray } })
    (hsz : items.size ≤ sizeLine) : wpAny (model prog w) A (getItem (.ref t) (.ref sl)) Q E s := by
  have htake : sizeOk (.seq items.toList.reverse.toArray) := by
    show (items.toList.reverse.toArray).size ≤ sizeLine
    rw [List.size_toArray, List.length_reverse, Array.length_toList]
    exact hsz
  obtain ⟨os, hos, hcs, hds⟩ := id hs
  have hTs : s.TypeIs (.ref sl) "slice" := ⟨os, hos, hcs⟩
  unfold getItem
  try with_reducible refine wpAny_holding ?_
  first | refine wpAny_bind (wpAny_pure ?_) | skip
  refine wpAny_bind (wpAny_sequenceKey ht.typeIs (by decide) ?_)
  refine wpAny_bind (wpAny_callSpecial?_slot (name := Str.ofString "__getitem__") ht.typeIs PyProof.Rows.slot_tuple_getitem
    (wpAny_call_entry PyProof.Rows.slot_tuple_getitem ht.typeIs entry_tuple_getitem ?_ (args_tuple_getitem _ _)))
  show wpAny _ _ (Builtin.Tuple.tupleItemsOf (.ref t) >>= _) _ _ s
  refine wpAny_bind (tupleItemsOf_ ht ?_)
  refine wpAny_bind (wpAny_typeOf hTs ?_)
  rw [if_pos (by decide)]
  refine wpAny_bind ?_
  unfold Builtin.Slice.sliceApplied Builtin.Slice.sliceFields
  refine wpAny_bind (wpAny_bind (wpAny_field hos hds (x := .none) rfl (wpAny_bind (wpAny_field hos hds (x := .none) rfl (wpAny_bind (wpAny_field hos hds (x := vs) rfl (wpAny_pure ?_)))))))
  refine wpAny_bind (slicePart_ ps ?_)
  show wpAny _ _ (if ((-1 : Int) == 0) = true then _ else _) _ _ s
  rw [if_neg (by decide)]
  refine wpAny_bind (slicePart_ .none (wpAny_bind (slicePart_ .none (wpAny_bind (wpAny_pure ?_)))))
  show wpAny _ _ (pure (((items.size : Int) - 1), (-1 : Int), Builtin.Slice.slicePlaces ((items.size : Int) - 1) (-1) (-1))) _ _ s
  rw [rev_places]
  refine wpAny_pure ?_
  have hno : ¬ ((((items.size : Int) - 1) == 0 && (-1 : Int) == 1 && items.size == items.size) = true) := by
    intro q
    rw [Bool.and_eq_true, Bool.and_eq_true] at q
    exact absurd q.1.2 (by decide)
  show wpAny _ _ (if (((items.size : Int) - 1) == 0 && (-1 : Int) == 1 && items.size == items.size) = true then _ else _) _ _ s
  rw [if_neg hno, rev_pick]
  first
    | exact wpAny_bind (m := Builtin.Tuple.tupleExact _) (wpAny_newObj_type (wpAny_pure ⟨_, rfl, wpAny_pure h⟩) htake)
    | exact wpAny_bind (m := Builtin.Tuple.tupleExact _) (wpAny_newObj_type (wpAny_bind (wpAny_pure (wpAny_pure ⟨_, rfl, wpAny_pure h⟩))) htake)
end
/-- t[::-1] -/
def tRevT (K : PySem.W.Frag) (te : TE) : TE := fun σ H Q => te σ H fun x H1 => ∃ a xs, x = .ref a ∧ SqT K H1 a xs ∧ ∀ p, H1 p = none → Q (.ref p) (upd H1 p (.tup xs.reverse))
theorem pe_revT {X : Cx} {e : Expr} {te : TE} {k : Nat} {p1 p2 p3 pos : Pos} (he : PE X e te) : PE X (.Subscript e (.Slice none none (some (.UnaryOp .USub (.Constant (.int 1) k p1) p2)) p3) pos) (tRevT X.K te) := by
  refine ⟨fun pins s σ H Q I h => ?_⟩
  refine Subscript_ (thn (he.run pins s σ H _ I h) fun v s1 ⟨x, H1, I1, r1, q1⟩ => ?_)
  obtain ⟨a, xs, ex, hx, q⟩ := q1
  subst ex
  cases r1
  have hst : PO X (some (.UnaryOp .USub (.Constant (.int 1) k p1) p2)) (tPart (tUn (rU fun i => .int (-i)) (tC (.int 1)))) := po_some (pe_un un_neg pe_int)
  refine wpAny_Slice (thn (po_none.run pins s1 σ H1 (fun o H2 => o = none ∧ H2 = H1) I1 ⟨rfl, rfl⟩) fun vl s2 ⟨l, H2, I2, pl, el, e2⟩ => ?_)
  subst el e2
  refine thn (po_none.run pins s2 σ H2 (fun o H3 => o = none ∧ H3 = H2) I2 ⟨rfl, rfl⟩) fun vu s3 ⟨u, H3, I3, pu, eu, e3⟩ => ?_
  subst eu e3
  refine thn (hst.run pins s3 σ H3 (fun o H4 => o = some (-1) ∧ H4 = H3) I3 ⟨1, rfl, -1, rfl, rfl, rfl⟩) fun vs s4 ⟨o, H4, I4, ps, eo, e4⟩ => ?_
  subst eo e4
  cases pl
  cases pu
  have I5 : Inv X pins σ H4 { s4 with heap := s4.heap.push { cls := .type "slice", data := .fields #[.none, .none, vs] } } := I4.kept (t' := s4.toks) fun b ob q => Heap.get?_push_of_some _ q
  obtain ⟨its, r, ht, hz⟩ := I5.tuple hx
  have hlen := r.length
  show wpAny (model X.prog X.w) X.A (subscriptTail e (.Slice none none (some (.UnaryOp .USub (.Constant (.int 1) k p1) p2)) p3) (.ref a) (.ref s4.heap.objs.size)) (EP X pins σ Q) X.xe { s4 with heap := s4.heap.push { cls := .type "slice", data := .fields #[.none, .none, vs] } }
  refine tail_any (ops := [.ref a, .ref s4.heap.objs.size]) (IsTup.typeIs ht) (PyProof.Rows.slot_tuple_getitem.lookup) ?_ (by with_unfolding_all rfl)
  refine getItem_tuple_rev ht (Heap.IsSliceOf.new _ .none .none vs) ps ?_ (by rw [List.size_toArray]; omega)
  refine ⟨.ref _, _, I5.laid (t' := s4.toks) (o := .tup xs.reverse) (fun b ob q => Heap.get?_push_of_some _ q) (Nat.le_refl _) ?_, rfl, q _ (I5.hok.fresh (Nat.le_refl _))⟩
  exact ⟨by rw [List.length_reverse]; exact hz, _, r.reverse, IsTup.new _ _⟩
end Vt

set_option Elab.async false
set_option linter.all false
set_option maxRecDepth 100000
set_option maxHeartbeats 4000000
/-! Nets compared. -/
namespace K17
open PySem PySem.Spec PyProof.Rows L2 Vl Evl Vp Vr Vx2 Vlk Vda Vc Ve Ven Vt
abbrev Bare : Type := List (List Nat × List Nat × List Nat)
theorem ne_kind {H : Hp} {x y : Addr} {u v : HO} (hx : H x = some u) (hy : H y = some v) (h : u ≠ v) : x ≠ y := fun z => by
  rw [z, hy] at hx
  exact h (Option.some.inj hx).symm
def bareOf (bs : Bare) (l : List Nat) : Option (List Nat × List Nat) := (bs.find? fun t => decide (t.1 = l)).map fun t => t.2
theorem bareOf_row (es : List Row) (l : List Nat) : bareOf (bare es) l = (rowOf es l).map fun r => r.2.2 := by
  unfold bareOf bare rowOf
  rw [List.find?_map, Option.map_map]
  rfl
structure Two (C : Addr) (H : Hp) (o dx dp de o2 dx2 dp2 de2 : Addr) (ps ps2 : List (List Nat)) (es es2 : List Row) : Prop where
  a : NetAt C H o dx dp de ps es
  b : NetAt C H o2 dx2 dp2 de2 ps2 es2
  far : de ≠ de2
  p1 : ps.Nodup
  p2 : ps2.Nodup
  n1 : (laneNames es).Nodup
  n2 : (laneNames es2).Nodup
  z : ps.length ≤ 1000 ∧ ps2.length ≤ 1000 ∧ es.length ≤ 1000 ∧ es2.length ≤ 1000
  r1 : ∀ r ∈ es, nam r.2.2.1 ∧ nam r.2.2.2
  r2 : ∀ r ∈ es2, nam r.2.2.1 ∧ nam r.2.2.2
section
variable {P : Program} {w : World} {K : PySem.W.Frag} {mg : Str → Option Value} {base : Heap} {C : Addr}
abbrev sLe : Stmt := mem 18
abbrev sEqN : Stmt := mem 19
theorem room65 {k : Nat} {A : Around} (hr : Room (k + 1) A) : A.units + 65 < cLine := by have := hr.un; omega
def samePB (ps ps2 : List (List Nat)) : Bool := ps.length == ps2.length && ps.all fun l => decide (l ∈ ps2)
def hasT (bs2 : Bare) (t : List Nat × List Nat × List Nat) : Bool := decide (bareOf bs2 t.1 = some t.2)
def sameEB (bs bs2 : Bare) : Bool := bs.length == bs2.length && bs.all (hasT bs2)
def spEqN (K : PySem.W.Frag) (C : Addr) : Sp := fun vs H Q _ => ∃ (o dx dp de : Addr) (y : V) (ps : List (List Nat)) (es : List Row), vs = [.ref o, y] ∧ NetAt C H o dx dp de ps es ∧
  ((∃ (o2 dx2 dp2 de2 : Addr) (ps2 : List (List Nat)) (es2 : List Row), y = .ref o2 ∧ Two C H o dx dp de o2 dx2 dp2 de2 ps ps2 es es2 ∧ ∀ H', Ex H H' → Q (.bl (samePB ps ps2 && sameEB (bare es) (bare es2))) H') ∨
   (∃ t : String, TyX K H y (.type t) ∧ PySem.W.kitOne K (.type t) (.ref C) = some false ∧ Q (.bl false) H))
def leB (ps ps2 : List (List Nat)) (bs bs2 : Bare) : Bool := (ps.all fun l => decide (l ∈ ps2)) && bs.all (hasT bs2)
def spLe (C : Addr) : Sp := fun vs H Q _ => ∃ (o dx dp de o2 dx2 dp2 de2 : Addr) (ps ps2 : List (List Nat)) (es es2 : List Row), vs = [.ref o, .ref o2] ∧ Two C H o dx dp de o2 dx2 dp2 de2 ps ps2 es es2 ∧ dp ≠ dp2 ∧ ∀ H', Ex H H' → Q (.bl (leB ps ps2 (bare es) (bare es2))) H'
theorem hasT_row {es2 : List Row} {r : Row} : hasT (bare es2) r.2 = match rowOf es2 r.2.1 with | some r2 => decide (r2.2.2 = r.2.2) | none => false := by
  unfold hasT
  rw [bareOf_row]
  cases rowOf es2 r.2.1 with
  | some r2 => exact decide_eq_decide.mpr ⟨fun z => Option.some.inj z, fun z => congrArg some z⟩
  | none => exact decide_eq_false fun z => nomatch z
theorem pair_eq {a b : List Nat × List Nat} : decide ([a.1, a.2] = [b.1, b.2]) = decide (b = a) := decide_eq_decide.mpr ⟨fun z => by
  injection z with z1 z2
  injection z2 with z2
  exact (Prod.ext z1 z2).symm, fun z => by rw [z]⟩
theorem vals_ends {K : PySem.W.Frag} {C : Addr} {H H' : Hp} {o dx dp de o2 dx2 dp2 de2 : Addr} {ps ps2 : List (List Nat)} {es es2 : List Row} (T : Two C H o dx dp de o2 dx2 dp2 de2 ps ps2 es es2) (e : Ex H H') :
    Vde.ValsAre K H' (dEnds es) (dEnds es2) (fun k => byName es (fun r => hasT (bare es2) r.2) (k, .non)) := fun k v z hm hz => by
  unfold dEnds at hm
  obtain ⟨r, hr, hrk⟩ := List.mem_map.mp hm
  cases hrk
  rw [ends_get] at hz
  obtain ⟨r2, h2, rfl⟩ := Option.map_eq_some_iff.mp hz
  have hm2 := (rowOf_mem h2).1
  have k1 := T.r1 r hr
  have k2 := T.r2 r2 hm2
  refine ⟨wd [r.2.2.1, r.2.2.2], wd [r2.2.2.1, r2.2.2.2], dp_wd (st_of (e _ _ (T.a.rows r hr))), dp_wd (st_of (e _ _ (T.b.rows r2 hm2))), sh_w (oks_cons (ok_nam k1.1) (oks_cons (ok_nam k1.2) oks_nil)), sh_w (oks_cons (ok_nam k2.1) (oks_cons (ok_nam k2.2) oks_nil)), ?_⟩
  show byName es (fun r => hasT (bare es2) r.2) ((Sum.inr (tx r.2.1) : Key), .non) = _
  rw [byName_row T.n1 hr, hasT_row, h2, eq_w]
  exact pair_eq.symm
theorem dict_ends {es es2 : List Row} (nd : (laneNames es).Nodup) : Vde.dictV (dEnds es) (dEnds es2) (fun k => byName es (fun r => hasT (bare es2) r.2) (k, .non)) = sameEB (bare es) (bare es2) := by
  unfold Vde.dictV sameEB
  have l1 : (dEnds es).length = (bare es).length := by unfold dEnds bare; rw [List.length_map, List.length_map]
  have l2 : (dEnds es2).length = (bare es2).length := by unfold dEnds bare; rw [List.length_map, List.length_map]
  rw [l1, l2]
  refine congrArg (fun z => ((bare es).length == (bare es2).length) && z) ?_
  have h1 : ((dEnds es).all fun p => (valV (dEnds es2) p.1).isSome && byName es (fun r => hasT (bare es2) r.2) (p.1, .non)) = es.all fun r => hasT (bare es2) r.2 := by
    unfold dEnds
    rw [List.all_map]
    refine Bool.eq_iff_iff.mpr ?_
    rw [List.all_eq_true, List.all_eq_true]
    have each : ∀ r ∈ es, ((valV (dEnds es2) (Sum.inr (tx r.2.1) : Key)).isSome && byName es (fun r => hasT (bare es2) r.2) ((Sum.inr (tx r.2.1) : Key), .non)) = hasT (bare es2) r.2 := fun r hr => by
      rw [byName_row nd hr, ends_get, hasT_row]
      cases rowOf es2 r.2.1 <;> rfl
    exact ⟨fun h r hr => by rw [← each r hr]; exact h r hr, fun h r hr => (each r hr).trans (h r hr)⟩
  rw [h1]
  unfold bare
  rw [List.all_map]
  rfl
theorem valV_mem {kvs : List (Key × V)} {k : Key} {z : V} (h : valV kvs k = some z) : (k, z) ∈ kvs := by
  unfold valV at h
  obtain ⟨q, hq, rfl⟩ := Option.map_eq_some_iff.mp h
  have h1 := List.mem_of_find?_eq_some hq
  have h2 := of_decide_eq_true (List.find?_some (p := fun kv : Key × V => decide (kv.1 = k)) hq)
  rw [← h2]
  exact h1
theorem vals_posts {K : PySem.W.Frag} {H : Hp} {ps ps2 : List (List Nat)} : Vde.ValsAre K H (dPosts ps) (dPosts ps2) (fun _ => true) := fun k v z hm hz => by
  unfold dPosts at hm
  obtain ⟨l, _, hl⟩ := List.mem_map.mp hm
  cases hl
  have h2 : z = .bl true := by
    have := valV_mem hz
    unfold dPosts at this
    obtain ⟨l', _, hl'⟩ := List.mem_map.mp this
    exact (congrArg Prod.snd hl').symm
  rw [h2]
  exact ⟨_, _, .bl _, .bl _, by decide +kernel, by decide +kernel, by show true = PyData.eqv (.bool true) (.bool true); decide +kernel⟩
theorem dict_posts {ps ps2 : List (List Nat)} : Vde.dictV (dPosts ps) (dPosts ps2) (fun _ => true) = samePB ps ps2 := by
  unfold Vde.dictV samePB
  have l1 : ∀ ps : List (List Nat), (dPosts ps).length = ps.length := fun ps => by unfold dPosts; rw [List.length_map]
  rw [l1, l1]
  refine congrArg (fun z => (ps.length == ps2.length) && z) ?_
  have : (dPosts ps).all (fun p => (valV (dPosts ps2) p.1).isSome && true) = ps.all fun l => (valV (dPosts ps2) (Sum.inr (tx l) : Key)).isSome && true := by
    unfold dPosts
    rw [List.all_map]
    rfl
  rw [this]
  refine congrArg (fun z => ps.all z) (funext fun l => ?_)
  rw [posts_val, Bool.and_true]
section
variable {P : Program} {w : World} {K : PySem.W.Frag} {mg : Str → Option Value} {base : Heap} {C : Addr}
theorem scEq : FnScope ["self", "other"] ["self", "other"] (defScope sEqN) := ⟨rfl, rfl, rfl, by decide +kernel, rfl, by decide +kernel, by decide +kernel⟩
theorem ok_eqn {f : Addr} {fd : FuncData} (F : FnM K "__eq__" "Net.__eq__" sEqN f fd) (c : C8.InsC K C) (n0 : NoAttr K C "_posts") (n1 : NoAttr K C "_ends") (mI : mg "isinstance" = none) (gN : mg "Net" = some (.ref C)) :
    FnOk P w K mg base L2.CX0 2 f fd ["self", "other"] (spEqN K C) := by
  refine F.ok (CX := L2.CX0) scEq (fun vs H Q E h => ?_) (fun cdv A outer s H vs Q E hr h => ?_)
  · obtain ⟨o, dx, dp, de, y, ps, es, rfl, _⟩ := h
    rfl
  · refine ⟨_, (pss_one (ps_ret (pe_and (pe_callB call_isi (by rfl) mI boot_isinstance (pa_cons (pv 1) (pa_cons (pe_glob (v := V.ref C) (by rfl) gN rfl) pa_nil))) (pe_and (pe_cmpR (Vde.op_eqDD (room65 hr)) (pe_fld (pv 0) rfl) (pe_fld (pv 1) rfl) (nomark _)) (pe_one (pe_cmpR (Vde.op_eqDD (room65 hr)) (pe_fld (pv 0) rfl) (pe_fld (pv 1) rfl) (nomark _))))))), ?_⟩
    obtain ⟨o, dx, dp, de, y, ps, es, rfl, N, h⟩ := h
    rcases h with ⟨o2, dx2, dp2, de2, ps2, es2, rfl, T, q⟩ | ⟨t, ht, hk, q⟩
    · refine ⟨_, rfl, V.ref o2, V.ref C, .ref C, .ref C, true, rfl, .own C, .base (.ins T.b.at_ c.cl c.ha c.hn c.htk c.hm), c.me, true, rfl, ?_⟩
      refine ifT rfl ?_
      refine ⟨_, rfl, o, C, dx, _, _, rfl, T.a.at_, c.cl, n0, rfl, ?_⟩
      refine ⟨_, rfl, o2, C, dx2, _, _, rfl, T.b.at_, c.cl, n0, rfl, ?_⟩
      refine ⟨dp, dp2, dPosts ps, dPosts ps2, _, rfl, rfl, T.a.posts, T.b.posts, vals_posts, ?_⟩
      rw [dict_posts]
      refine ⟨_, rfl, ?_⟩
      cases hb : samePB ps ps2 with
      | false =>
        refine ifF Bool.false_ne_true ?_
        have := q H (Ex.refl _)
        rw [hb] at this
        exact this
      | true =>
        refine ifT rfl ?_
        refine ⟨_, rfl, o, C, dx, _, _, rfl, T.a.at_, c.cl, n1, rfl, ?_⟩
        refine ⟨_, rfl, o2, C, dx2, _, _, rfl, T.b.at_, c.cl, n1, rfl, ?_⟩
        refine ⟨de, de2, dEnds es, dEnds es2, _, rfl, rfl, T.a.ends, T.b.ends, vals_ends T (Ex.refl _), ?_⟩
        rw [dict_ends T.n1]
        have := q H (Ex.refl _)
        rw [hb] at this
        exact this
    · refine ⟨_, rfl, y, V.ref C, .type t, .ref C, false, rfl, .own C, ht, hk, false, rfl, ?_⟩
      exact ifF Bool.false_ne_true q
end
end
end K17

set_option Elab.async false
set_option linter.all false
set_option maxRecDepth 100000
set_option maxHeartbeats 4000000
/-! The net that the law builds. -/
namespace K17
open PySem PySem.Spec PyProof.Rows L2 Vl Evl Vp Vr Vx2 Vlk Vda Vc Ve
theorem ne_kindY : True := trivial
theorem NetAt.addP {C : Addr} {H : Hp} {o dx dp de : Addr} {ps : List (List Nat)} (n : NetAt C H o dx dp de ps []) (hdd : dp ≠ de) (l : List Nat) : NetAt C (upd H dp (.dK (dPosts (ps ++ [l])))) o dx dp de (ps ++ [l]) [] :=
  ⟨(upd_ne (ne_kind n.at_ n.posts (by intro z; cases z))).trans n.at_, upd_same, (upd_ne hdd.symm).trans n.ends, fun _ h => nomatch h⟩
theorem NetAt.addE {C : Addr} {H : Hp} {o dx dp de t : Addr} {ps : List (List Nat)} {es : List Row} (n : NetAt C H o dx dp de ps es) (hdd : dp ≠ de) (l a b : List Nat) (ht : H t = some (.tup [.str (tx a), .str (tx b)])) : NetAt C (upd H de (.dK (dEnds (es ++ [(t, (l, a, b))])))) o dx dp de ps (es ++ [(t, (l, a, b))]) :=
  ⟨(upd_ne (ne_kind n.at_ n.ends (by intro z; cases z))).trans n.at_, (upd_ne hdd).trans n.posts, upd_same, fun e he => by
    have keep : ∀ {x : Addr} {u : List V}, H x = some (.tup u) → upd H de (.dK (dEnds (es ++ [(t, (l, a, b))]))) x = some (.tup u) := fun hx => (upd_ne (ne_kind hx n.ends (by intro z; cases z))).trans hx
    rcases List.mem_append.mp he with he | he
    · exact keep (n.rows e he)
    · rw [List.mem_singleton.mp he]
      exact keep ht⟩
theorem bare_len {es rs : List Row} (h : bare es = bare rs) : es.length = rs.length := by
  have := congrArg List.length h
  unfold bare at this
  rwa [List.length_map, List.length_map] at this
theorem rows_bare {ps : List (List Nat)} {es rs : List Row} (h : bare es = bare rs) (RO : RowsOk ps rs) : RowsOk ps es := by
  refine ⟨?_, fun r hr => ?_⟩
  · have : (es.map fun r => r.2.1) = rs.map fun r => r.2.1 := bare_names h
    rw [this]
    exact RO.1
  · have h1 : r.2 ∈ bare rs := by
      rw [← h]
      exact List.mem_map.mpr ⟨r, hr, rfl⟩
    unfold bare at h1
    obtain ⟨r', hr', he⟩ := List.mem_map.mp h1
    rw [← he]
    exact RO.2 r' hr'
abbrev sBu : Stmt := top 97
abbrev nBu : List Str := ["_law_parts", "_law_net_here", "_law_post", "_law_lane", "_law_start", "_law_end"]
def spBu (C : Addr) : Sp := fun vs H Q _ => ∃ (q a b : Addr) (ps : List (List Nat)) (rs : List Row), vs = [.ref q] ∧ Told H q a b ps rs ∧ Names ps ∧ RowsOk ps rs ∧ ps.length ≤ 30 ∧ rs.length ≤ 30 ∧
  ∀ (o dx dp de : Addr) (es : List Row) (H' : Hp), Ex H H' → H o = none → H dp = none → H de = none → dp ≠ de → NetAt C H' o dx dp de ps es → bare es = bare rs → Q (.ref o) H'
section
variable {P : Program} {w : World} {K : PySem.W.Frag} {mg : Str → Option Value} {base : Heap} {C BN NT NP NL : Addr}
theorem scBu : FnScope nBu ["_law_parts"] (defScope sBu) := ⟨rfl, rfl, rfl, by decide +kernel, rfl, by decide +kernel, by decide +kernel⟩
theorem ok_bu {f : Addr} {fd : FuncData} (F : FnP K "_law_built" sBu f fd) (N : ND P w K mg base C BN NT NP NL) : FnOk P w K mg base L2.CX0 5 f fd ["_law_parts"] (spBu C) := by
  refine F.ok (CX := L2.CX0) scBu (fun vs H Q E h => ?_) (fun cdv A outer s H vs Q E hr h => ?_)
  · obtain ⟨q, a, b, ps, rs, rfl, _⟩ := h
    rfl
  · refine ⟨_, (pss_cons (ps_set (i := 1) scBu.nd rfl (by first | exact Or.inl rfl | exact Or.inr rfl) (pe_nw0 N.new hr (by rfl)))
      (pss_cons (ps_for (passes_of rfl) rfl (pi_list (pe_ix ix_list (pv 0) pe_int fun _ _ => rfl)) (pg_name (i := 2) scBu.nd rfl (by first | exact Or.inl rfl | exact Or.inr rfl)) (pss_one (ps_expr (pe_moN (pv 1) N.cls N.post hr (pa_cons (pv 2) pa_nil)))))
      (pss_cons (ps_for (passes_of rfl) rfl (pi_list (pe_ix ix_list (pv 0) pe_int fun _ _ => rfl)) (pg_tup rfl (pgs_cons (pg_name (i := 3) scBu.nd rfl (by first | exact Or.inl rfl | exact Or.inr rfl)) (pgs_cons (pg_name (i := 4) scBu.nd rfl (by first | exact Or.inl rfl | exact Or.inr rfl)) (pgs_cons (pg_name (i := 5) scBu.nd rfl (by first | exact Or.inl rfl | exact Or.inr rfl)) pgs_nil)))) (pss_one (ps_expr (pe_moN (pv 1) N.cls N.lane hr (pa_cons (pv 3) (pa_cons (pv 4) (pa_cons (pv 5) pa_nil)))))))
      (pss_one (ps_ret (pv 1)))))), ?_⟩
    obtain ⟨q, a, b, ps, rs, rfl, T, NA, RO, hp30, hr30, k⟩ := h
    refine s_seq ?_
    intro o dx no ndx nex
    refine ⟨o, dx, H, rfl, rfl, no, ndx, nex, fun dp de H3 e3 ndp nde hdd N3 => ⟨rfl, ?_⟩⟩
    refine s_seq ?_
    have T3 := T.mono e3
    refine s_forL (ev_ixA (i := 0) (ev_var rfl) (sq_of T3.at_) rfl) (sq_of T3.posts) (fun i st H' => ∃ t2, st = [some (.ref q), some (.ref o), t2, none, none, none] ∧ Ex H H' ∧ NetAt C H' o dx dp de (ps.take i) [])
      (fun H6 e6 => ⟨none, rfl, e3.trans e6, by rw [List.take_zero]; exact N3.mono e6⟩) (fun i st H' _ ⟨_, _, e, _⟩ => sq_of (e _ _ T.posts)) ?_ ?_
    · rintro i x st H6 hx ⟨t5, rfl, e6, N6⟩
      unfold vtx at hx
      rw [List.getElem?_map] at hx
      obtain ⟨l0, hl0, rfl⟩ := Option.map_eq_some_iff.mp hx
      have htk : ps.take (i + 1) = ps.take i ++ [l0] := by rw [List.take_succ, hl0]; rfl
      have nm := NA.1 _ (List.mem_of_getElem? hl0)
      have nin : l0 ∉ ps.take i := fun z => by
        have nd2 := NA.2.sublist (List.take_sublist (i + 1) ps)
        rw [htk, List.nodup_append] at nd2
        exact nd2.2.2 _ z _ (List.mem_singleton.mpr rfl) rfl
      have ltk : (ps.take i).length ≤ 30 := by rw [List.length_take]; omega
      refine ⟨_, rfl, o, dx, _, rfl, N6.at_, rfl, _, rfl, o, dx, dp, de, ps.take i, [], _, rfl, N6, by omega, .inl ⟨nm, nin, fun H7 e7 => ?_⟩⟩
      refine ⟨_, rfl, Ex.mut (e6.trans e7) ndp, ?_⟩
      rw [htk]
      exact (N6.mono e7).addP hdd l0
    rintro st H6 ⟨t5, rfl, e6, N6⟩
    rw [vtx_len, List.take_length] at N6
    refine s_seq ?_
    have T6 := T.mono e6
    dsimp only
    refine s_forL (ev_ixA (i := 1) (ev_var rfl) (sq_of T6.at_) rfl) (sq_of T6.rows) (fun i st H' => ∃ t2 t3 t4 t5 es, st = [some (.ref q), some (.ref o), t2, t3, t4, t5] ∧ Ex H H' ∧ NetAt C H' o dx dp de ps es ∧ bare es = bare (rs.take i))
      (fun H7 e7 => ⟨_, none, none, none, [], rfl, e6.trans e7, N6.mono e7, by rw [List.take_zero]⟩) (fun i st H' _ ⟨_, _, _, _, _, _, e, _⟩ => sq_of (e _ _ T.rows)) ?_ ?_
    · rintro i x st H7 hx ⟨t2, t3, t4, t5, es, rfl, e7, N7, hbe⟩
      unfold refs at hx
      rw [List.getElem?_map] at hx
      obtain ⟨r, hr1, rfl⟩ := Option.map_eq_some_iff.mp hx
      have hmr := List.mem_of_getElem? hr1
      have htk : rs.take (i + 1) = rs.take i ++ [r] := by rw [List.take_succ, hr1]; rfl
      have nm := RO.1.1 _ (List.mem_map_of_mem (f := fun r : Row => r.2.1) hmr)
      have nin : r.2.1 ∉ laneNames es := fun z => by
        rw [bare_names hbe] at z
        have nd2 : (laneNames (rs.take (i + 1))).Nodup := by
          unfold laneNames
          rw [List.map_take]
          exact RO.1.2.sublist (List.take_sublist _ _)
        rw [htk] at nd2
        unfold laneNames at nd2 z
        rw [List.map_append, List.nodup_append] at nd2
        exact nd2.2.2 _ z _ (List.mem_singleton.mpr rfl) rfl
      have ltk : es.length ≤ 30 := by
        have := bare_len hbe
        rw [List.length_take] at this
        omega
      refine ⟨r.1, _, rfl, .inl (.inl (e7 _ _ (T.row r hmr))), rfl, ?_⟩
      refine ⟨_, _, rfl, _, _, rfl, _, _, rfl, rfl, ?_⟩
      refine ⟨_, rfl, o, dx, _, rfl, N7.at_, rfl, _, rfl, _, rfl, _, rfl, o, dx, dp, de, ps, es, r.2.1, r.2.2.1, r.2.2.2, rfl, N7, by omega, .inl ⟨nm, nin, (RO.2 r hmr).1, (RO.2 r hmr).2, fun t H8 e8 nt ht => ?_⟩⟩
      refine ⟨_, _, _, _, es ++ [(t, (r.2.1, r.2.2.1, r.2.2.2))], rfl, Ex.mut (e7.trans e8) nde, (N7.mono e8).addE hdd _ _ _ ht, ?_⟩
      rw [htk]
      unfold bare at hbe ⊢
      rw [List.map_append, List.map_append, hbe]
      rfl
    · rintro st H7 ⟨t2, t3, t4, t5, es, rfl, e7, N7, hbe⟩
      rw [List.take_of_length_le (by unfold refs; rw [List.length_map]; exact Nat.le_refl _)] at hbe
      exact s_ret (ev_var rfl) fun H8 e8 => k o dx dp de es H8 (e7.trans e8) no ndp nde hdd (N7.mono e8) hbe
end
end K17

set_option Elab.async false
set_option linter.all false
set_option maxRecDepth 100000
set_option maxHeartbeats 2000000
/-! What is reached on a graph; a search that goes through its own list. -/
namespace Vrc
variable {α : Type}
inductive Reach (E : α → α → Prop) (a : α) : α → Prop
  | refl : Reach E a a
  | step {b c : α} : Reach E a b → E b c → Reach E a c
theorem Reach.trans {E : α → α → Prop} {a b c : α} (h : Reach E a b) (h2 : Reach E b c) : Reach E a c := by
  induction h2 with
  | refl => exact h
  | step _ e ih => exact .step ih e
theorem Reach.one {E : α → α → Prop} {a b : α} (e : E a b) : Reach E a b := .step .refl e
theorem Reach.mono {E F : α → α → Prop} (h : ∀ x y, E x y → F x y) {a b : α} (r : Reach E a b) : Reach F a b := by
  induction r with
  | refl => exact .refl
  | step _ e ih => exact .step ih (h _ _ e)
/-- ks is what has been found, the first j of it looked at -/
structure Bfs (E : α → α → Prop) (a : α) (ks : List α) (j : Nat) : Prop where
  nd : ks.Nodup
  src : a ∈ ks
  re : ∀ b ∈ ks, Reach E a b
  cl : ∀ (i : Nat) (b : α), i < j → ks[i]? = some b → ∀ c, E b c → c ∈ ks
theorem Bfs.start {E : α → α → Prop} (a : α) : Bfs E a [a] 0 := ⟨List.nodup_cons.mpr ⟨(fun h => nomatch h), List.nodup_nil⟩, List.mem_cons_self, fun b hb => by rw [List.mem_singleton.mp hb]; exact .refl, fun i b hi => absurd hi (Nat.not_lt_zero i)⟩
theorem Bfs.add {E : α → α → Prop} {a b c : α} {ks : List α} {j : Nat} (h : Bfs E a ks j) (hj : j ≤ ks.length) (hb : b ∈ ks) (e : E b c) (hc : c ∉ ks) : Bfs E a (ks ++ [c]) j := by
  refine ⟨?_, List.mem_append_left _ h.src, fun x hx => ?_, fun i x hi hx y hy => ?_⟩
  · rw [List.nodup_append]
    exact ⟨h.nd, List.nodup_cons.mpr ⟨(fun h => nomatch h), List.nodup_nil⟩, fun u hu v hv z => hc (by rw [← List.mem_singleton.mp hv, ← z]; exact hu)⟩
  · rcases List.mem_append.mp hx with hx | hx
    · exact h.re x hx
    · rw [List.mem_singleton.mp hx]
      exact .step (h.re b hb) e
  · rw [List.getElem?_append_left (by omega)] at hx
    exact List.mem_append_left _ (h.cl i x hi hx y hy)
theorem Bfs.next {E : α → α → Prop} {a b : α} {ks : List α} {j : Nat} (h : Bfs E a ks j) (hb : ks[j]? = some b) (hc : ∀ c, E b c → c ∈ ks) : Bfs E a ks (j + 1) :=
  ⟨h.nd, h.src, h.re, fun i x hi hx y hy => by
    by_cases hij : i < j
    · exact h.cl i x hij hx y hy
    · obtain rfl : i = j := by omega
      rw [hb] at hx
      rw [← Option.some.inj hx] at hy
      exact hc y hy⟩
theorem Bfs.done {E : α → α → Prop} {a : α} {ks : List α} {j : Nat} (h : Bfs E a ks j) (hj : ks.length ≤ j) (b : α) : b ∈ ks ↔ Reach E a b := by
  refine ⟨h.re b, fun r => ?_⟩
  induction r with
  | refl => exact h.src
  | step _ e ih =>
    obtain ⟨i, hi⟩ := List.getElem?_of_mem ih
    have := (List.getElem?_eq_some_iff.mp hi).1
    exact h.cl i _ (by omega) hi _ e
theorem few_of {ks ps : List α} (nd : ks.Nodup) (h : ∀ b ∈ ks, b ∈ ps) : ks.length ≤ ps.length := nd.length_le_of_subset h
end Vrc

set_option Elab.async false
set_option linter.all false
set_option maxRecDepth 100000
set_option maxHeartbeats 2000000
/-! Ways with their lanes: a search by width finds shortest ones. -/
namespace Vwy
variable {α β : Type}
inductive Wk (E : β → α → α → Prop) (a : α) : α → List β → Prop
  | nil : Wk E a a []
  | snoc {b c : α} {l : β} {ls : List β} : Wk E a b ls → E l b c → Wk E a c (ls ++ [l])
/-- a shortest way -/
structure Best (E : β → α → α → Prop) (a b : α) (ls : List β) : Prop where
  wk : Wk E a b ls
  le : ∀ ls', Wk E a b ls' → ls.length ≤ ls'.length
theorem Best.len {E : β → α → α → Prop} {a b : α} {ls ls' : List β} (h : Best E a b ls) (h' : Best E a b ls') : ls.length = ls'.length := Nat.le_antisymm (h.le _ h'.wk) (h'.le _ h.wk)
structure Lev (E : β → α → α → Prop) (a : α) (ws : List (α × List β)) (j : Nat) : Prop where
  mono : ∀ (i k : Nat) x y, i ≤ k → ws[i]? = some x → ws[k]? = some y → x.2.length ≤ y.2.length
  bound : ∀ x, ws[j]? = some x → ∀ y ∈ ws, y.2.length ≤ x.2.length + 1
  src : (a, ([] : List β)) ∈ ws
  wk : ∀ x ∈ ws, Wk E a x.1 x.2
  cl : ∀ (i : Nat) x, i < j → ws[i]? = some x → ∀ l c, E l x.1 c → ∃ y ∈ ws, y.1 = c ∧ y.2.length ≤ x.2.length + 1
theorem Lev.start {E : β → α → α → Prop} (a : α) : Lev E a [(a, [])] 0 :=
  ⟨fun i k x y hik hx hy => by
    have hi : i = 0 := by
      have := (List.getElem?_eq_some_iff.mp hx).1
      rw [List.length_singleton] at this
      omega
    have hk : k = 0 := by
      have := (List.getElem?_eq_some_iff.mp hy).1
      rw [List.length_singleton] at this
      omega
    rw [hi] at hx
    rw [hk, hx] at hy
    rw [Option.some.inj hy]
    exact Nat.le_refl _,
   fun x hx y hy => by rw [List.mem_singleton.mp hy]; exact Nat.zero_le _, List.mem_singleton.mpr rfl,
   fun x hx => by rw [List.mem_singleton.mp hx]; exact .nil, fun i x hi => absurd hi (Nat.not_lt_zero i)⟩
theorem Lev.add {E : β → α → α → Prop} {a b c : α} {l : β} {ls : List β} {ws : List (α × List β)} {j : Nat} (h : Lev E a ws j) (hj : ws[j]? = some (b, ls)) (e : E l b c) : Lev E a (ws ++ [(c, ls ++ [l])]) j := by
  have hjl := (List.getElem?_eq_some_iff.mp hj).1
  have hbd := h.bound _ hj
  have hlen : (ls ++ [l]).length = ls.length + 1 := by rw [List.length_append]; rfl
  refine ⟨fun i k x y hik hx hy => ?_, fun x hx y hy => ?_, List.mem_append_left _ h.src, fun x hx => ?_, fun i x hi hx l' c' he => ?_⟩
  · by_cases hk : k < ws.length
    · rw [List.getElem?_append_left (by omega)] at hx
      rw [List.getElem?_append_left hk] at hy
      exact h.mono i k x y hik hx hy
    · have hkl : k = ws.length := by
        have := (List.getElem?_eq_some_iff.mp hy).1
        rw [List.length_append, List.length_singleton] at this
        omega
      rw [hkl, List.getElem?_append_right (Nat.le_refl _), Nat.sub_self] at hy
      have hy2 : (c, ls ++ [l]) = y := Option.some.inj hy
      rw [← hy2]
      show x.2.length ≤ (ls ++ [l]).length
      rw [hlen]
      by_cases hi : i < ws.length
      · rw [List.getElem?_append_left hi] at hx
        exact hbd x (List.mem_of_getElem? hx)
      · have hil : i = ws.length := by omega
        rw [hil, List.getElem?_append_right (Nat.le_refl _), Nat.sub_self] at hx
        have hx2 : (c, ls ++ [l]) = x := Option.some.inj hx
        rw [← hx2]
        show (ls ++ [l]).length ≤ _
        omega
  · rw [List.getElem?_append_left hjl, hj] at hx
    rw [← Option.some.inj hx]
    rcases List.mem_append.mp hy with hy | hy
    · exact hbd y hy
    · rw [List.mem_singleton.mp hy]
      show (ls ++ [l]).length ≤ ls.length + 1
      omega
  · rcases List.mem_append.mp hx with hx | hx
    · exact h.wk x hx
    · rw [List.mem_singleton.mp hx]
      exact .snoc (h.wk _ (List.mem_of_getElem? hj)) e
  · rw [List.getElem?_append_left (by omega)] at hx
    obtain ⟨y, hy, h1, h2⟩ := h.cl i x hi hx l' c' he
    exact ⟨y, List.mem_append_left _ hy, h1, h2⟩
theorem Lev.next {E : β → α → α → Prop} {a b : α} {ls : List β} {ws : List (α × List β)} {j : Nat} (h : Lev E a ws j) (hj : ws[j]? = some (b, ls)) (hc : ∀ l c, E l b c → c ∈ ws.map fun w => w.1) : Lev E a ws (j + 1) := by
  refine ⟨h.mono, fun x hx y hy => ?_, h.src, h.wk, fun i x hi hx l c he => ?_⟩
  · have h1 := h.bound _ hj y hy
    have h2 := h.mono j (j + 1) _ x (Nat.le_succ j) hj hx
    omega
  · by_cases hij : i < j
    · exact h.cl i x hij hx l c he
    · obtain rfl : i = j := by omega
      rw [hj] at hx
      have hx2 : (b, ls) = x := Option.some.inj hx
      rw [← hx2] at he ⊢
      obtain ⟨y, hy, rfl⟩ := List.mem_map.mp (hc l c he)
      exact ⟨y, hy, rfl, h.bound _ hj y hy⟩
theorem Lev.done {E : β → α → α → Prop} {a : α} {ws : List (α × List β)} {j : Nat} (h : Lev E a ws j) (hj : ws.length ≤ j) (nd : (ws.map fun w => w.1).Nodup) : ∀ x ∈ ws, Best E a x.1 x.2 := by
  have own : ∀ x ∈ ws, ∀ y ∈ ws, x.1 = y.1 → x = y := fun x hx y hy e => by
    obtain ⟨i, hi⟩ := List.getElem?_of_mem hx
    obtain ⟨k, hk⟩ := List.getElem?_of_mem hy
    have h1 : (ws.map fun w => w.1)[i]? = some x.1 := by rw [List.getElem?_map, hi]; rfl
    have h2 : (ws.map fun w => w.1)[k]? = some x.1 := by rw [List.getElem?_map, hk, e]; rfl
    have l1 := (List.getElem?_eq_some_iff.mp h1)
    have l2 := (List.getElem?_eq_some_iff.mp h2)
    have : i = k := L2.nd_ix nd h1 h2
    rw [this, hk] at hi
    exact (Option.some.inj hi).symm
  have key : ∀ b ls', Wk E a b ls' → ∃ y ∈ ws, y.1 = b ∧ y.2.length ≤ ls'.length := fun b ls' w => by
    induction w with
    | nil => exact ⟨_, h.src, rfl, Nat.le_refl _⟩
    | snoc _ e ih =>
      obtain ⟨y, hy, h1, h2⟩ := ih
      obtain ⟨i, hi⟩ := List.getElem?_of_mem hy
      have hlt := (List.getElem?_eq_some_iff.mp hi).1
      obtain ⟨z, hz, h3, h4⟩ := h.cl i y (by omega) hi _ _ (by rw [h1]; exact e)
      refine ⟨z, hz, h3, ?_⟩
      rw [List.length_append, List.length_singleton]
      omega
  intro x hx
  refine ⟨h.wk x hx, fun ls' w => ?_⟩
  obtain ⟨y, hy, h1, h2⟩ := key _ _ w
  rw [own x hx y hy h1.symm]
  exact h2
end Vwy

set_option Elab.async false
set_option linter.all false
set_option maxRecDepth 100000
set_option maxHeartbeats 4000000
namespace K17
open PySem PySem.Spec PyProof.Rows L2 Vl Evl Vp Vr Vx2 Vlk Vda Vc Ve Vrc Vwy
abbrev sWf : Stmt := top 26
abbrev nWf : List Str := ["net", "post", "ways", "queue", "here", "lane", "end"]
/-- a lane leads from b to c -/
def Edge (bs : List (List Nat × List Nat × List Nat)) (b c : List Nat) : Prop := ∃ t ∈ bs, t.2.1 = b ∧ t.2.2 = c
def LaneB (bs : List (List Nat × List Nat × List Nat)) (l b c : List Nat) : Prop := (l, b, c) ∈ bs
/-- a way: its list's address, the post, its lanes -/
abbrev Way : Type := Addr × (List Nat × List (List Nat))
def dWays (xs : List Way) : List (Key × V) := xs.map fun x => ((Sum.inr (tx x.2.1) : Key), V.ref x.1)
def posts (xs : List Way) : List (List Nat) := xs.map fun x => x.2.1
def wp (xs : List Way) : List (List Nat × List (List Nat)) := xs.map fun x => x.2
theorem wp_posts (xs : List Way) : ((wp xs).map fun w => w.1) = posts xs := by
  unfold wp posts
  rw [List.map_map]
  rfl
theorem wp_at {xs : List Way} {j : Nat} {b0 : List Nat} (nd : (posts xs).Nodup) (hj : (posts xs)[j]? = some b0) {y : Way} (hy : y ∈ xs) (hb : y.2.1 = b0) : (wp xs)[j]? = some (b0, y.2.2) := by
  obtain ⟨k, hk⟩ := List.getElem?_of_mem hy
  have h1 : (posts xs)[k]? = some b0 := by
    unfold posts
    rw [List.getElem?_map, hk]
    exact congrArg some hb
  have hkj : k = j := nd_ix nd h1 hj
  unfold wp
  rw [← hkj, List.getElem?_map, hk, ← hb]
  rfl
theorem wp_some {xs : List Way} {j : Nat} {b0 : List Nat} (hj : (posts xs)[j]? = some b0) : ∃ ls, (wp xs)[j]? = some (b0, ls) := by
  unfold posts at hj
  rw [List.getElem?_map] at hj
  obtain ⟨z, hz, rfl⟩ := Option.map_eq_some_iff.mp hj
  exact ⟨z.2.2, by unfold wp; rw [List.getElem?_map, hz]; rfl⟩
theorem wp_app (xs : List Way) (z : Way) : wp (xs ++ [z]) = wp xs ++ [z.2] := List.map_append
theorem ways_val (xs : List Way) (l : List Nat) : (valV (dWays xs) (Sum.inr (tx l) : Key)).isSome = decide (l ∈ posts xs) := by
  induction xs with
  | nil => rfl
  | cons x r ih =>
    unfold dWays posts at *
    rw [List.map_cons, List.map_cons]
    by_cases h : x.2.1 = l
    · rw [valV_pos (by rw [h]), decide_eq_true (by rw [h]; exact List.mem_cons_self)]
      rfl
    · have hn : ¬ (Sum.inr (tx x.2.1) : Key) = Sum.inr (tx l) := fun z => h (tx_inj (Sum.inr.inj z))
      rw [valV_neg hn, ih]
      by_cases hm : l ∈ r.map fun e => e.2.1
      · rw [decide_eq_true hm, decide_eq_true (List.mem_cons_of_mem _ hm)]
      · rw [decide_eq_false hm, decide_eq_false (fun z => (List.mem_cons.mp z).elim (fun e => h e.symm) hm)]
theorem ways_get {xs : List Way} {l : List Nat} (h : l ∈ posts xs) : ∃ x ∈ xs, x.2.1 = l ∧ valV (dWays xs) (Sum.inr (tx l) : Key) = some (V.ref x.1) := by
  induction xs with
  | nil => cases h
  | cons x r ih =>
    by_cases hx : x.2.1 = l
    · refine ⟨x, List.mem_cons_self, hx, ?_⟩
      unfold dWays
      rw [List.map_cons, valV_pos (by rw [hx])]
    · have hn : ¬ (Sum.inr (tx x.2.1) : Key) = Sum.inr (tx l) := fun z => hx (tx_inj (Sum.inr.inj z))
      have hr : l ∈ posts r := by
        rcases List.mem_cons.mp h with h | h
        · exact absurd h.symm hx
        · exact h
      obtain ⟨y, hy, h1, h2⟩ := ih hr
      refine ⟨y, List.mem_cons_of_mem _ hy, h1, ?_⟩
      unfold dWays at h2 ⊢
      rw [List.map_cons, valV_neg hn]
      exact h2
theorem ways_none {xs : List Way} {l : List Nat} (h : l ∉ posts xs) : valV (dWays xs) (Sum.inr (tx l) : Key) = none := by
  have := ways_val xs l
  rw [decide_eq_false h] at this
  exact Option.not_isSome_iff_eq_none.mp (by rw [this]; decide)
/-- the search's objects: the dict, the queue from place j on -/
structure WS (H0 H : Hp) (d q : Addr) (xs : List Way) (j : Nat) : Prop where
  ex : Ex H0 H
  fd : H0 d = none
  fq : H0 q = none
  dct : H d = some (.dK (dWays xs))
  que : H q = some (.lst ((vtx (posts xs)).drop j))
  way : ∀ x ∈ xs, H x.1 = some (.lst (vtx x.2.2)) ∧ x.1 ≠ q
  short : ∀ x ∈ xs, x.2.2.length < xs.length
theorem WS.grow {H0 H H' : Hp} {d q : Addr} {xs : List Way} {j : Nat} (h : WS H0 H d q xs j) (e : Ex H H') : WS H0 H' d q xs j := ⟨h.ex.trans e, h.fd, h.fq, e _ _ h.dct, e _ _ h.que, fun x hx => ⟨e _ _ (h.way x hx).1, (h.way x hx).2⟩, h.short⟩
/-- what is told of the ways: their posts are those that are reached -/
structure WaysD (H : Hp) (d : Addr) (bs : List (List Nat × List Nat × List Nat)) (a : List Nat) (xs : List Way) : Prop where
  dct : H d = some (.dK (dWays xs))
  re : ∀ b, b ∈ posts xs ↔ Reach (Edge bs) a b
  way : ∀ x ∈ xs, H x.1 = some (.lst (vtx x.2.2))
  best : ∀ x ∈ xs, Best (LaneB bs) a x.2.1 x.2.2
  few : ∀ x ∈ xs, x.2.2.length ≤ 30
  many : xs.length ≤ 30
theorem WaysD.mono {H H' : Hp} {d : Addr} {bs : List (List Nat × List Nat × List Nat)} {a : List Nat} {xs : List Way} (e : Ex H H') (h : WaysD H d bs a xs) : WaysD H' d bs a xs := ⟨e _ _ h.dct, h.re, fun x hx => e _ _ (h.way x hx), h.best, h.few, h.many⟩
def rowsFrom (es : List Row) (b : List Nat) : List Row := es.filter fun e => decide (e.2.2.1 = b)
theorem way_of_get {H : Hp} {p : Addr} {xs : List V} {u : HO} {q : Addr} (h : H p = some u) (hn : H q = none) : p ≠ q := fun z => by
  rw [z, hn] at h
  cases h
def spWf (C : Addr) : Sp := fun vs H Q _ => ∃ (o dx dp de : Addr) (ps : List (List Nat)) (es : List Row) (a : List Nat), vs = [.ref o, .str (tx a)] ∧ NetAt C H o dx dp de ps es ∧ RowsOk ps es ∧ ps.length ≤ 30 ∧ es.length ≤ 30 ∧ a ∈ ps ∧
  ∀ d xs H', Ex H H' → H d = none → WaysD H' d (bare es) a xs → Q (.ref d) H'
section
variable {P : Program} {w : World} {K : PySem.W.Frag} {mg : Str → Option Value} {base : Heap} {C BN NT NP NL : Addr}
theorem scWf : FnScope nWf ["net", "post"] (defScope sWf) := ⟨rfl, rfl, rfl, by decide +kernel, rfl, by decide +kernel, by decide +kernel⟩
theorem ok_wf {f : Addr} {fd : FuncData} (F : FnP K "ways_from" sWf f fd) (N : ND P w K mg base C BN NT NP NL) :
    FnOk P w K mg base L2.CX0 5 f fd ["net", "post"] (spWf C) := by
  refine F.ok (CX := L2.CX0) scWf (fun vs H Q E h => ?_) (fun cdv A outer s H vs Q E hr h => ?_)
  · obtain ⟨o, dx, dp, de, ps, es, a, rfl, _⟩ := h
    rfl
  · refine ⟨_, (pss_cons (ps_set (i := 2) scWf.nd rfl (by first | exact Or.inl rfl | exact Or.inr rfl) (pe_disp (pps_cons (pv 1) (pe_lst pa_nil) pps_nil) (by rfl) (by rfl) (fun z => by cases z) (by decide)))
      (pss_cons (ps_set (i := 3) scWf.nd rfl (by first | exact Or.inl rfl | exact Or.inr rfl) (pe_lst (pa_cons (pv 1) pa_nil)))
      (pss_cons (ps_while (passes_of rfl) (pt_truth (pv 3) (by intro _; rfl)) (pss_cons (ps_set (i := 4) scWf.nd rfl (by first | exact Or.inl rfl | exact Or.inr rfl) (pe_bm PySem.F.plainAttrs_list PySem.F.slot_list_pop PySem.F.type_list_pop mt_popAt (pv 3) (pa_cons pe_int pa_nil)))
      (pss_one (ps_for (passes_of rfl) rfl (pi_tup (pe_moN (pv 0) N.cls N.out hr (pa_cons (pv 4) pa_nil))) (pg_name (i := 5) scWf.nd rfl (by first | exact Or.inl rfl | exact Or.inr rfl)) (pss_cons (ps_set (i := 6) scWf.nd rfl (by first | exact Or.inl rfl | exact Or.inr rfl) (pe_moN (pv 0) N.cls N.end_ hr (pa_cons (pv 5) pa_nil)))
      (pss_one (ps_if (pt_cmp (pc_dnotin (Nat.lt_of_le_of_lt (Nat.add_le_add_left (show 1 ≤ 64 by decide) _) hr.units) (pv 6) (pv 2))) (pss_cons (ps_dput (Nat.lt_of_le_of_lt (Nat.add_le_add_left (show 1 ≤ 64 by decide) _) hr.units) (pv 2) (pv 6) (pe_op op_cat (pe_dget (Nat.lt_of_le_of_lt (Nat.add_le_add_left (show 1 ≤ 64 by decide) _) hr.units) (pv 2) (pv 4) (fun _ _ => rfl)) (pe_lst (pa_cons (pv 5) pa_nil))) rfl)
      (pss_one (ps_expr (pe_bm PySem.F.plainAttrs_list PySem.F.slot_list_append PySem.F.type_list_append mt_append (pv 3) (pa_cons (pv 6) pa_nil))))) pss_nil)))))))
      (pss_one (ps_ret (pv 2)))))), ?_⟩
    obtain ⟨o, dx, dp, de, ps, es, a, rfl, N1, RO, hp30, he30, ha, k⟩ := h
    have nd : (laneNames es).Nodup := RO.1.2
    have lenE : es.length ≤ 1000 := by omega
    refine s_seq ?_
    refine fun d nd0 => ⟨_, rfl, Nat.zero_le _, fun l nl => ?_⟩
    have dl : d ≠ l := fun z => by rw [← z, upd_same] at nl; cases nl
    refine ⟨(upd_ne dl).trans upd_same, [((Sum.inr (tx a) : Key), V.ref l)], rfl, by show 1 ≤ 15; omega, ?_⟩
    refine s_seq ?_
    have hl0 : H l = none := fresh_back (Ex.new nd0) nl
    refine ⟨_, rfl, by show 1 ≤ sizeLine; decide, fun q nq => ?_⟩
    have qd : q ≠ d := fun z => by rw [z, upd_same] at nq; cases nq
    have ql : q ≠ l := fun z => by rw [z, upd_ne dl.symm, upd_same] at nq; cases nq
    have hq0 : H q = none := by
      rw [upd_ne qd, upd_ne ql, upd_ne qd] at nq
      exact nq
    have W0 : WS H (upd (upd (upd (upd H d (.dK [])) l (.lst [])) d (.dK (mergeK [] [((Sum.inr (tx a) : Key), V.ref l)]))) q (.lst [.str (tx a)])) d q [(l, a, [])] 0 :=
      { ex := (Ex.mut (Ex.mut (Ex.mut (Ex.mut (Ex.refl H) nd0) hl0) nd0) hq0)
        fd := nd0
        fq := hq0
        dct := (upd_ne qd.symm).trans upd_same
        que := upd_same
        way := fun x hx => by
          rw [List.mem_singleton.mp hx]
          exact ⟨(upd_ne ql.symm).trans ((upd_ne dl.symm).trans upd_same), ql.symm⟩
        short := fun x hx => by
          rw [List.mem_singleton.mp hx]
          exact Nat.zero_lt_one }
    dsimp only
    refine q_while (fun m st H' => ∃ t4 t5 t6 xs j, st = [some (.ref o), some (.str (tx a)), some (.ref d), some (.ref q), t4, t5, t6] ∧ WS H H' d q xs j ∧ Bfs (Edge (bare es)) a (posts xs) j ∧ Lev (LaneB (bare es)) a (wp xs) j ∧ j ≤ xs.length ∧ (∀ b ∈ posts xs, b ∈ ps) ∧ m = ps.length - j) ps.length
      ⟨none, none, none, [(l, a, [])], 0, rfl, W0, Bfs.start a, Lev.start a, Nat.zero_le _, fun b hb => by rw [List.mem_singleton.mp hb]; exact ha, by omega⟩ ?_
    rintro m st H1 ⟨t4, t5, t6, xs, j, rfl, W, B, Lv, hj, hin, hm⟩
    have hpl : (posts xs).length = xs.length := List.length_map _
    have hle : xs.length ≤ ps.length := by rw [← hpl]; exact few_of B.nd hin
    refine ⟨_, et_truL (ev_var rfl) (sq_of W.que), fun hb H2 e2 => ?_, fun hb H2 e2 => ?_⟩
    · have hlt : j < xs.length := by
        rw [Bool.not_eq_true', List.isEmpty_eq_false_iff] at hb
        have : 0 < ((vtx (posts xs)).drop j).length := List.length_pos_iff.mpr hb
        rw [List.length_drop, vtx_len, hpl] at this
        omega
      have W2 := W.grow e2
      have hjp : (posts xs)[j]? = some (posts xs)[j] := List.getElem?_eq_getElem (by rw [hpl]; exact hlt)
      generalize (posts xs)[j] = b0 at hjp
      have hdrop : (vtx (posts xs)).drop j = V.str (tx b0) :: (vtx (posts xs)).drop (j + 1) := by
        have h1 : j < (vtx (posts xs)).length := by rw [vtx_len, hpl]; exact hlt
        rw [List.drop_eq_getElem_cons h1]
        congr 1
        have := vtx_at hjp
        rw [List.getElem?_eq_getElem h1] at this
        exact Option.some.inj this
      have hb0 : b0 ∈ posts xs := List.mem_of_getElem? hjp
      have hb0p := hin _ hb0
      refine ⟨fun st H' => ∃ t4 t5 t6 xs, st = [some (.ref o), some (.str (tx a)), some (.ref d), some (.ref q), t4, t5, t6] ∧ WS H H' d q xs (j + 1) ∧ Bfs (Edge (bare es)) a (posts xs) (j + 1) ∧ Lev (LaneB (bare es)) a (wp xs) (j + 1) ∧ j + 1 ≤ xs.length ∧ (∀ b ∈ posts xs, b ∈ ps), ?_, ?_⟩
      · rintro st H3 ⟨t4, t5, t6, xs, rfl, W3, B3, Lv3, hj3, hin3⟩
        exact ⟨ps.length - (j + 1), by omega, t4, t5, t6, xs, j + 1, rfl, W3, B3, Lv3, hj3, hin3, rfl⟩
      · refine s_seq ?_
        refine ⟨_, rfl, .inl ⟨rfl, _, sq_of W2.que⟩, q, _, 0, 0, V.str (tx b0), rfl, rfl, W2.que, by decide, by decide, ?_, by rw [hdrop]; rfl, ?_⟩
        · rw [List.length_drop, vtx_len, hpl]
          have h1 : 0 < xs.length - j := by omega
          generalize xs.length - j = nn at h1
          unfold seqIndex?
          simp [h1]
        have W3 : WS H (upd H2 q (.lst (((vtx (posts xs)).drop j).eraseIdx 0))) d q xs (j + 1) :=
          { ex := Ex.mut W2.ex W2.fq
            fd := W2.fd
            fq := W2.fq
            dct := (upd_ne (ne_kind W2.dct W2.que (by intro z; cases z))).trans W2.dct
            que := by rw [upd_same, hdrop]; rfl
            way := fun x hx => ⟨(upd_ne (W2.way x hx).2).trans (W2.way x hx).1, (W2.way x hx).2⟩
            short := W2.short }
        dsimp only
        show tFor _ _ _ _ [some (.ref o), some (.str (tx a)), some (.ref d), some (.ref q), some (.str (tx b0)), t5, t6] _
        generalize hH3 : upd H2 q (.lst (((vtx (posts xs)).drop j).eraseIdx 0)) = H3 at W3
        clear hH3
        have rowsEq : ∀ r ∈ rowsFrom es b0, r ∈ es ∧ r.2.2.1 = b0 := fun r hr => ⟨(List.mem_filter.mp hr).1, of_decide_eq_true (List.mem_filter.mp hr).2⟩
        refine s_forNUn (eu_me (ev_var rfl) (N1.mono W3.ex).at_ rfl (ea_cons (ev_var rfl) ea_nil) (sv_out (N1.mono W3.ex) lenE nd hb0p))
          (fun t i st H' => ∃ t5 t6 xs', st = [some (.ref o), some (.str (tx a)), some (.ref d), some (.ref q), some (.str (tx b0)), t5, t6] ∧ H' t = some (.tup (vtx (laneNames (rowsFrom es b0)))) ∧ WS H H' d q xs' (j + 1) ∧ Bfs (Edge (bare es)) a (posts xs') j ∧ Lev (LaneB (bare es)) a (wp xs') j ∧ (posts xs')[j]? = some b0 ∧ (∀ b ∈ posts xs', b ∈ ps) ∧ ∀ r ∈ (rowsFrom es b0).take i, r.2.2.2 ∈ posts xs')
          (fun t H4 nt e4 ht => ⟨t5, t6, xs, rfl, ht, W3.grow e4, B, Lv, hjp, hin, fun r hr => by rw [List.take_zero] at hr; cases hr⟩)
          (fun t i st H' _ ⟨_, _, _, _, ht, _⟩ => st_of ht) ?_ ?_
        · rintro t i x st H4 hx ⟨t5, t6, xs', rfl, ht, W4, B4, Lv4, hj4, hin4, hr4⟩
          unfold vtx laneNames at hx
          rw [List.getElem?_map, List.getElem?_map, Option.map_map] at hx
          obtain ⟨r, hri, rfl⟩ := Option.map_eq_some_iff.mp hx
          have hri : (rowsFrom es b0)[i]? = some r := hri
          have hrm := List.mem_of_getElem? hri
          obtain ⟨hre, hrb⟩ := rowsEq r hrm
          obtain ⟨ie, hie⟩ := List.getElem?_of_mem hre
          have htk : (rowsFrom es b0).take (i + 1) = (rowsFrom es b0).take i ++ [r] := by rw [List.take_succ, hri]; rfl
          have hjx : j < xs'.length := by
            have := (List.getElem?_eq_some_iff.mp hj4).1
            unfold posts at this
            rwa [List.length_map] at this
          have hle4 : xs'.length ≤ ps.length := by
            have := few_of B4.nd hin4
            unfold posts at this
            rwa [List.length_map] at this
          have N4 := N1.mono W4.ex
          refine s_seq ?_
          refine s_asg (ev_me (ev_var rfl) N4.at_ rfl (ea_cons (ev_var rfl) ea_nil) (sv_end N4 (row_own nd hie))) fun H5 e5 => ?_
          have W5 := W4.grow e5
          have ht5 := e5 _ _ ht
          refine s_if (et_notin (ev_var rfl) (ev_var rfl) (DGet.k (k := (Sum.inr (tx r.2.2.2) : Key)) W5.dct)) (fun hb H6 e6 => ?_) (fun hb H6 e6 => ?_)
          · have hnew : r.2.2.2 ∉ posts xs' := fun z => by
              rw [ways_val, decide_eq_true z] at hb
              cases hb
            have W6 := W5.grow e6
            have hb4 : b0 ∈ posts xs' := List.mem_of_getElem? hj4
            obtain ⟨y, hy, hyb, hyv⟩ := ways_get hb4
            refine s_seq ?_
            refine (ev_dget (ev_var rfl) (ev_var rfl) (by rw [← hyv]; exact DGet.k (k := (Sum.inr (tx b0) : Key)) W6.dct) : Ev (tDGet (tVar 2) (tVar 4)) _ H6 (.ref y.1)) H6 (Ex.refl _) _ fun H7 e7 => ?_
            refine (el_lst (ea_cons (ev_var rfl) ea_nil) (by show 1 ≤ 100000; decide) : EvL (tLst (tCons (tVar 5) tNil)) _ H7 [.str (tx r.2.1)]) H7 (Ex.refl _) _ fun p H8 np e8 hp => ?_
            have W8 := W6.grow (e7.trans e8)
            have ht8 := (e6.trans (e7.trans e8)) _ _ ht5
            refine ⟨y.1, p, _, _, rfl, rfl, (W8.way y hy).1, hp, ?_, fun w nw => ?_⟩
            · have := W8.short y hy
              rw [vtx_len]
              exact sz_of (by show _ + 1 ≤ _; omega)
            have wd : w ≠ d := fun z => by rw [z, W8.dct] at nw; cases nw
            have wq : w ≠ q := fun z => by rw [z, W8.que] at nw; cases nw
            have hd9 : upd H8 w (.lst (vtx y.2.2 ++ [.str (tx r.2.1)])) d = some (.dK (dWays xs')) := (upd_ne wd.symm).trans W8.dct
            refine ⟨_, rfl, _, rfl, d, _, rfl, DPut.k (k := (Sum.inr (tx r.2.2.2) : Key)) hd9 (sz_lt ?_), ?_⟩
            · unfold dWays
              rw [List.length_map]
              omega
            dsimp only
            refine s_app (l := q) (xs := (vtx (posts xs')).drop (j + 1)) ?_ (ev_var rfl) (ev_var rfl) ?_ fun H9 e9 => ?_
            · rw [upd_ne (ne_kind W8.dct W8.que (by intro z; cases z)).symm, upd_ne wq.symm]
              exact W8.que
            · rw [List.length_drop, vtx_len]
              unfold posts
              rw [List.length_map]
              omega
            have qd8 : q ≠ d := (ne_kind W8.dct W8.que (by intro z; cases z)).symm
            have hw9 : H9 w = some (.lst (vtx (y.2.2 ++ [r.2.1]))) := by
              refine e9 _ _ ?_
              rw [upd_ne wd, upd_same]
              unfold vtx
              rw [List.map_append]
              rfl
            have old : ∀ (x : Addr) (u : HO), H8 x = some u → x ≠ d → x ≠ q → upd H9 q (.lst ((vtx (posts xs')).drop (j + 1) ++ [.str (tx r.2.2.2)])) x = some u := fun x u hx h1 h2 => by
              rw [upd_ne h2]
              refine e9 _ _ ?_
              rw [upd_ne h1, upd_ne (fun z => by rw [z, nw] at hx; cases hx)]
              exact hx
            refine ⟨_, _, xs' ++ [(w, r.2.2.2, y.2.2 ++ [r.2.1])], rfl, ?_, ⟨Ex.mut ((Ex.mut (W8.ex.trans (Ex.new nw)) W8.fd).trans e9) W8.fq, W8.fd, W8.fq, ?_, ?_, ?_, ?_⟩, ?_, ?_, ?_, ?_, ?_⟩
            · exact old _ _ ht8 (ne_kind ht8 W8.dct (by intro z; cases z)) (ne_kind ht8 W8.que (by intro z; cases z))
            · rw [upd_ne qd8.symm]
              refine e9 _ _ ?_
              rw [upd_same, putK_new _ (ways_none hnew)]
              unfold dWays
              rw [List.map_append]
              rfl
            · rw [upd_same]
              unfold posts vtx
              rw [List.map_append, List.map_append, List.drop_append_of_le_length (by rw [List.length_map, List.length_map]; omega)]
              rfl
            · intro x hx
              rcases List.mem_append.mp hx with hx | hx
              · have h1 := W8.way x hx
                exact ⟨old _ _ h1.1 (ne_kind h1.1 W8.dct (by intro z; cases z)) h1.2, h1.2⟩
              · rw [List.mem_singleton.mp hx]
                exact ⟨(upd_ne wq).trans hw9, wq⟩
            · intro x hx
              rw [List.length_append]
              rcases List.mem_append.mp hx with hx | hx
              · have := W8.short x hx
                omega
              · rw [List.mem_singleton.mp hx]
                have := W8.short y hy
                show (y.2.2 ++ [r.2.1]).length < _
                rw [List.length_append]
                show _ + 1 < _ + 1
                omega
            · unfold posts at B4 ⊢
              rw [List.map_append]
              refine B4.add (by rw [List.length_map]; omega) hb4 ?_ hnew
              exact ⟨r.2, List.mem_map.mpr ⟨r, hre, rfl⟩, hrb, rfl⟩
            · rw [wp_app]
              exact Lv4.add (wp_at B4.nd hj4 hy hyb) (List.mem_map.mpr ⟨r, hre, by rw [← hrb]⟩)
            · unfold posts at hj4 ⊢
              rw [List.map_append, List.getElem?_append_left (by rw [List.length_map]; exact hjx)]
              exact hj4
            · intro b hb'
              unfold posts at hb'
              rw [List.map_append] at hb'
              rcases List.mem_append.mp hb' with h | h
              · exact hin4 b h
              · rw [List.mem_singleton.mp h]
                exact (RO.2 r hre).2
            · intro r' hr'
              unfold posts
              rw [List.map_append]
              rw [htk] at hr'
              rcases List.mem_append.mp hr' with h | h
              · exact List.mem_append_left _ (hr4 r' h)
              · rw [List.mem_singleton.mp h]
                exact List.mem_append_right _ List.mem_cons_self
          · have hold : r.2.2.2 ∈ posts xs' := Decidable.byContradiction fun z => by
              rw [ways_val, decide_eq_false z] at hb
              cases hb
            refine ⟨_, _, xs', rfl, e6 _ _ ht5, W5.grow e6, B4, Lv4, hj4, hin4, fun r' hr' => ?_⟩
            rw [htk] at hr'
            rcases List.mem_append.mp hr' with h | h
            · exact hr4 r' h
            · rw [List.mem_singleton.mp h]
              exact hold
        · rintro t st H4 ⟨t5, t6, xs', rfl, ht, W4, B4, Lv4, hj4, hin4, hr4⟩
          have hjx : j < xs'.length := by
            have := (List.getElem?_eq_some_iff.mp hj4).1
            unfold posts at this
            rwa [List.length_map] at this
          refine ⟨_, _, _, xs', rfl, W4, B4.next hj4 (fun c hc => ?_), ?_, by omega, hin4⟩
          rotate_left
          · obtain ⟨ls, hls⟩ := wp_some hj4
            refine Lv4.next hls fun l c hl => ?_
            rw [wp_posts]
            unfold LaneB bare at hl
            obtain ⟨r, hr, hre⟩ := List.mem_map.mp hl
            have h1 : r.2.2.1 = b0 := by rw [hre]
            have h2 : r.2.2.2 = c := by rw [hre]
            rw [← h2]
            refine hr4 r ?_
            rw [List.take_of_length_le (by rw [vtx_len]; unfold laneNames; rw [List.length_map]; exact Nat.le_refl _)]
            exact List.mem_filter.mpr ⟨hr, decide_eq_true h1⟩
          obtain ⟨z, hz, hz1, hz2⟩ := hc
          unfold bare at hz
          obtain ⟨r, hr, rfl⟩ := List.mem_map.mp hz
          rw [← hz2]
          refine hr4 r ?_
          rw [List.take_of_length_le (by rw [vtx_len]; unfold laneNames; rw [List.length_map]; exact Nat.le_refl _)]
          exact List.mem_filter.mpr ⟨hr, decide_eq_true hz1⟩
    · have hge : ¬ j < xs.length := fun h => by
        rw [Bool.not_eq_false', List.isEmpty_iff] at hb
        have : ((vtx (posts xs)).drop j).length = 0 := by rw [hb]; rfl
        rw [List.length_drop, vtx_len, hpl] at this
        omega
      have W2 := W.grow e2
      refine s_ret (ev_var rfl) fun H3 e3 => k d xs H3 (W2.ex.trans e3) nd0 ⟨(W2.grow e3).dct, B.done (by rw [hpl]; omega), fun x hx => ((W2.grow e3).way x hx).1, fun x hx => Lv.done (by unfold wp; rw [List.length_map]; omega) (by rw [wp_posts]; exact B.nd) x.2 (List.mem_map.mpr ⟨x, hx, rfl⟩), fun x hx => by have := W2.short x hx; omega, by omega⟩
end
end K17

set_option Elab.async false
set_option linter.all false
set_option maxRecDepth 100000
set_option maxHeartbeats 4000000
/-! The law's own ways: the same search, its queue never shortened. -/
namespace K17
open PySem PySem.Spec PyProof.Rows L2 Vl Evl Vp Vr Vx2 Vlk Vda Vc Ve Vrc Vwy
theorem WS.put {H0 H8 H9 : Hp} {d q w : Addr} {xs : List Way} {j : Nat} {y : Way} {c l : List Nat} (W : WS H0 H8 d q xs j) (hj : j ≤ xs.length) (hy : y ∈ xs) (hn : c ∉ posts xs) (nw : H8 w = none)
    (e9 : Ex (upd (upd H8 w (.lst (vtx y.2.2 ++ [.str (tx l)]))) d (.dK (putK (dWays xs) (Sum.inr (tx c) : Key) (V.ref w)))) H9) :
    WS H0 (upd H9 q (.lst ((vtx (posts xs)).drop j ++ [.str (tx c)]))) d q (xs ++ [(w, c, y.2.2 ++ [l])]) j ∧ ∀ (x : Addr) (u : HO), H8 x = some u → x ≠ d → x ≠ q → upd H9 q (.lst ((vtx (posts xs)).drop j ++ [.str (tx c)])) x = some u := by
  have wd : w ≠ d := fun z => by rw [z, W.dct] at nw; cases nw
  have wq : w ≠ q := fun z => by rw [z, W.que] at nw; cases nw
  have qd : q ≠ d := (ne_kind W.dct W.que (by intro z; cases z)).symm
  have hw9 : H9 w = some (.lst (vtx (y.2.2 ++ [l]))) := by
    refine e9 _ _ ?_
    rw [upd_ne wd, upd_same]
    unfold vtx
    rw [List.map_append]
    rfl
  have old : ∀ (x : Addr) (u : HO), H8 x = some u → x ≠ d → x ≠ q → upd H9 q (.lst ((vtx (posts xs)).drop j ++ [.str (tx c)])) x = some u := fun x u hx h1 h2 => by
    rw [upd_ne h2]
    refine e9 _ _ ?_
    rw [upd_ne h1, upd_ne (fun z => by rw [z, nw] at hx; cases hx)]
    exact hx
  refine ⟨⟨Ex.mut ((Ex.mut (W.ex.trans (Ex.new nw)) W.fd).trans e9) W.fq, W.fd, W.fq, ?_, ?_, ?_, ?_⟩, old⟩
  · rw [upd_ne qd.symm]
    refine e9 _ _ ?_
    rw [upd_same, putK_new _ (ways_none hn)]
    unfold dWays
    rw [List.map_append]
    rfl
  · rw [upd_same]
    unfold posts vtx
    rw [List.map_append, List.map_append, List.drop_append_of_le_length (by rw [List.length_map, List.length_map]; omega)]
    rfl
  · intro x hx
    rcases List.mem_append.mp hx with hx | hx
    · have h1 := W.way x hx
      exact ⟨old _ _ h1.1 (ne_kind h1.1 W.dct (by intro z; cases z)) h1.2, h1.2⟩
    · rw [List.mem_singleton.mp hx]
      exact ⟨(upd_ne wq).trans hw9, wq⟩
  · intro x hx
    rw [List.length_append]
    rcases List.mem_append.mp hx with hx | hx
    · have := W.short x hx
      omega
    · rw [List.mem_singleton.mp hx]
      have := W.short y hy
      show (y.2.2 ++ [l]).length < _
      rw [List.length_append]
      show _ + 1 < _ + 1
      omega
theorem WS.len_eq (xs : List Way) : (posts xs).length = xs.length := List.length_map _
abbrev sWy : Stmt := top 99
abbrev nWy : List Str := ["_law_parts", "_law_start", "_law_ways_here", "_law_queue", "_law_at", "_law_lane", "_law_first", "_law_second"]
def spWy : Sp := fun vs H Q _ => ∃ (q pa pb : Addr) (ps : List (List Nat)) (rs : List Row) (a : List Nat), vs = [.ref q, .str (tx a)] ∧ Told H q pa pb ps rs ∧ RowsOk ps rs ∧ ps.length ≤ 30 ∧ rs.length ≤ 30 ∧ a ∈ ps ∧
  ∀ d xs H', Ex H H' → H d = none → WaysD H' d (bare rs) a xs → Q (.ref d) H'
section
variable {P : Program} {w : World} {K : PySem.W.Frag} {mg : Str → Option Value} {base : Heap}
theorem scWy : FnScope nWy ["_law_parts", "_law_start"] (defScope sWy) := ⟨rfl, rfl, rfl, by decide +kernel, rfl, by decide +kernel, by decide +kernel⟩
theorem ok_wy {f : Addr} {fd : FuncData} (F : FnP K "_law_ways" sWy f fd) (mLen : mg "len" = none) : FnOk P w K mg base L2.CX0 1 f fd ["_law_parts", "_law_start"] spWy := by
  refine F.ok (CX := L2.CX0) scWy (fun vs H Q E h => ?_) (fun cdv A outer s H vs Q E hr h => ?_)
  · obtain ⟨q, pa, pb, ps, rs, a, rfl, _⟩ := h
    rfl
  · refine ⟨_, (pss_cons (ps_set (i := 2) scWy.nd rfl (by first | exact Or.inl rfl | exact Or.inr rfl) (pe_disp (pps_cons (pv 1) (pe_lst pa_nil) pps_nil) (by rfl) (by rfl) (fun z => by cases z) (by decide)))
      (pss_cons (ps_set (i := 3) scWy.nd rfl (by first | exact Or.inl rfl | exact Or.inr rfl) (pe_lst (pa_cons (pv 1) pa_nil)))
      (pss_cons (ps_set (i := 4) scWy.nd rfl (by first | exact Or.inl rfl | exact Or.inr rfl) pe_int)
      (pss_cons (ps_while (passes_of rfl) (pt_cmpR op_lt (pv 4) (pe_callB call_len (by rfl) mLen boot_len (pa_cons (pv 3) pa_nil)) (nomark _)) (pss_cons (ps_for (passes_of rfl) rfl (pi_list (pe_ix ix_list (pv 0) pe_int fun _ _ => rfl)) (pg_tup rfl (pgs_cons (pg_name (i := 5) scWy.nd rfl (by first | exact Or.inl rfl | exact Or.inr rfl)) (pgs_cons (pg_name (i := 6) scWy.nd rfl (by first | exact Or.inl rfl | exact Or.inr rfl)) (pgs_cons (pg_name (i := 7) scWy.nd rfl (by first | exact Or.inl rfl | exact Or.inr rfl)) pgs_nil)))) (pss_one (ps_if (PW.pt (pw_and (pt_cmpR op_eq (pv 6) (pe_ix ix_list (pv 3) (pv 4) fun _ _ => rfl) (nomark _)) (pw_and1 (pt_cmp (pc_dnotin (Nat.lt_of_le_of_lt (Nat.add_le_add_left (show 1 ≤ 64 by decide) _) hr.units) (pv 7) (pv 2)))))) (pss_cons (ps_dput (Nat.lt_of_le_of_lt (Nat.add_le_add_left (show 1 ≤ 64 by decide) _) hr.units) (pv 2) (pv 7) (pe_op op_cat (pe_dget (Nat.lt_of_le_of_lt (Nat.add_le_add_left (show 1 ≤ 64 by decide) _) hr.units) (pv 2) (pv 6) (fun _ _ => rfl)) (pe_lst (pa_cons (pv 5) pa_nil))) rfl)
      (pss_one (ps_expr (pe_bm PySem.F.plainAttrs_list PySem.F.slot_list_append PySem.F.type_list_append mt_append (pv 3) (pa_cons (pv 7) pa_nil))))) pss_nil)))
      (pss_one (ps_set (i := 4) scWy.nd rfl (by first | exact Or.inl rfl | exact Or.inr rfl) (pe_op op_add (pv 4) pe_int)))))
      (pss_one (ps_ret (pv 2))))))), ?_⟩
    obtain ⟨g, pa, pb, ps, rs, a, rfl, T, RO, hp30, hr30, ha, k⟩ := h
    refine s_seq ?_
    refine fun d nd0 => ⟨_, rfl, Nat.zero_le _, fun l nl => ?_⟩
    have dl : d ≠ l := fun z => by rw [← z, upd_same] at nl; cases nl
    refine ⟨(upd_ne dl).trans upd_same, [((Sum.inr (tx a) : Key), V.ref l)], rfl, by show 1 ≤ 15; omega, ?_⟩
    refine s_seq ?_
    have hl0 : H l = none := fresh_back (Ex.new nd0) nl
    refine ⟨_, rfl, by show 1 ≤ sizeLine; decide, fun q nq => ?_⟩
    have qd : q ≠ d := fun z => by rw [z, upd_same] at nq; cases nq
    have ql : q ≠ l := fun z => by rw [z, upd_ne dl.symm, upd_same] at nq; cases nq
    have hq0 : H q = none := by
      rw [upd_ne qd, upd_ne ql, upd_ne qd] at nq
      exact nq
    have W0 : WS H (upd (upd (upd (upd H d (.dK [])) l (.lst [])) d (.dK (mergeK [] [((Sum.inr (tx a) : Key), V.ref l)]))) q (.lst [.str (tx a)])) d q [(l, a, [])] 0 :=
      { ex := (Ex.mut (Ex.mut (Ex.mut (Ex.mut (Ex.refl H) nd0) hl0) nd0) hq0)
        fd := nd0
        fq := hq0
        dct := (upd_ne qd.symm).trans upd_same
        que := upd_same
        way := fun x hx => by
          rw [List.mem_singleton.mp hx]
          exact ⟨(upd_ne ql.symm).trans ((upd_ne dl.symm).trans upd_same), ql.symm⟩
        short := fun x hx => by
          rw [List.mem_singleton.mp hx]
          exact Nat.zero_lt_one }
    refine s_seq ?_
    refine s_asg ev_c fun H0 e0 => ?_
    refine s_seq ?_
    refine s_while (fun m st H' => ∃ t5 t6 t7 xs, ∃ j : Nat, st = [some (.ref g), some (.str (tx a)), some (.ref d), some (.ref q), some (.int (j : Int)), t5, t6, t7] ∧ WS H H' d q xs 0 ∧ Bfs (Edge (bare rs)) a (posts xs) j ∧ Lev (LaneB (bare rs)) a (wp xs) j ∧ j ≤ xs.length ∧ (∀ b ∈ posts xs, b ∈ ps) ∧ m = ps.length - j) ps.length
      ⟨none, none, none, [(l, a, [])], 0, rfl, W0.grow e0, Bfs.start a, Lev.start a, Nat.zero_le _, fun b hb => by rw [List.mem_singleton.mp hb]; exact ha, by omega⟩ ?_
    rintro m st H1 ⟨t5, t6, t7, xs, j, rfl, W, B, Lv, hj, hin, hm⟩
    have hpl : (posts xs).length = xs.length := List.length_map _
    have hle : xs.length ≤ ps.length := by rw [← hpl]; exact few_of B.nd hin
    have hq1 : H1 q = some (.lst (vtx (posts xs))) := W.que
    refine ⟨_, et_test (ev_op (ev_var rfl) (ev_lenA (ev_var rfl) (sq_of hq1)) rv_I0), fun hb H2 e2 => ?_, fun hb H2 e2 => ?_⟩
    · have hlt : j < xs.length := by
        have := of_decide_eq_true hb
        rw [vtx_len, hpl] at this
        omega
      have W2 := W.grow e2
      have hjp : (posts xs)[j]? = some (posts xs)[j] := List.getElem?_eq_getElem (by rw [hpl]; exact hlt)
      generalize (posts xs)[j] = b0 at hjp
      refine ⟨fun st H' => ∃ t5 t6 t7 xs, st = [some (.ref g), some (.str (tx a)), some (.ref d), some (.ref q), some (.int ((j + 1 : Nat) : Int)), t5, t6, t7] ∧ WS H H' d q xs 0 ∧ Bfs (Edge (bare rs)) a (posts xs) (j + 1) ∧ Lev (LaneB (bare rs)) a (wp xs) (j + 1) ∧ j + 1 ≤ xs.length ∧ (∀ b ∈ posts xs, b ∈ ps), ?_, ?_⟩
      · rintro st H3 ⟨t5, t6, t7, xs, rfl, W3, B3, Lv3, hj3, hin3⟩
        exact ⟨ps.length - (j + 1), by omega, t5, t6, t7, xs, j + 1, rfl, W3, B3, Lv3, hj3, hin3, rfl⟩
      · have T2 := T.mono W2.ex
        refine s_seq ?_
        dsimp only
        refine s_forL (ev_ixA (i := 1) (ev_var rfl) (sq_of T2.at_) rfl) (sq_of T2.rows) (fun i st H' => ∃ t5 t6 t7 xs', st = [some (.ref g), some (.str (tx a)), some (.ref d), some (.ref q), some (.int (j : Int)), t5, t6, t7] ∧ WS H H' d q xs' 0 ∧ Bfs (Edge (bare rs)) a (posts xs') j ∧ Lev (LaneB (bare rs)) a (wp xs') j ∧ (posts xs')[j]? = some b0 ∧ (∀ b ∈ posts xs', b ∈ ps) ∧ ∀ r ∈ rs.take i, r.2.2.1 = b0 → r.2.2.2 ∈ posts xs')
          (fun H3 e3 => ⟨t5, t6, t7, xs, rfl, W2.grow e3, B, Lv, hjp, hin, fun r hr => by rw [List.take_zero] at hr; cases hr⟩) (fun i st H' _ ⟨_, _, _, _, _, W4, _⟩ => sq_of (W4.ex _ _ T.rows)) ?_ ?_
        · rintro i x st H4 hx ⟨t5, t6, t7, xs', rfl, W4, B4, Lv4, hj4, hin4, hr4⟩
          unfold refs at hx
          rw [List.getElem?_map] at hx
          obtain ⟨r, hri, rfl⟩ := Option.map_eq_some_iff.mp hx
          have hre := List.mem_of_getElem? hri
          have htk : rs.take (i + 1) = rs.take i ++ [r] := by rw [List.take_succ, hri]; rfl
          have hjx : j < xs'.length := by
            have := (List.getElem?_eq_some_iff.mp hj4).1
            rwa [WS.len_eq] at this
          have hle4 : xs'.length ≤ ps.length := by
            have := few_of B4.nd hin4
            rwa [WS.len_eq] at this
          have hq4 : H4 q = some (.lst (vtx (posts xs'))) := W4.que
          refine ⟨r.1, _, rfl, .inl (.inl (W4.ex _ _ (T.row r hre))), rfl, ?_⟩
          refine ⟨_, _, rfl, _, _, rfl, _, _, rfl, rfl, ?_⟩
          dsimp only
          show tIfS _ _ _ _ [some (.ref g), some (.str (tx a)), some (.ref d), some (.ref q), some (.int (j : Int)), some (.str (tx r.2.1)), some (.str (tx r.2.2.1)), some (.str (tx r.2.2.2))] H4
          refine s_if (et_and (et_test (ev_op (ev_var rfl) (ev_op (ev_var rfl) (ev_var rfl) (rv_ixL (sq_of hq4) (atI_nat (vtx_at hj4)))) (rv_eq rfl))) (fun _ => et_notin (ev_var rfl) (ev_var rfl) (DGet.k (k := (Sum.inr (tx r.2.2.2) : Key)) W4.dct))) (fun hb H6 e6 => ?_) (fun hb H6 e6 => ?_)
          · rw [Bool.and_eq_true] at hb
            have hst : r.2.2.1 = b0 := tx_inj (by have := of_decide_eq_true hb.1; injection this)
            have hnew : r.2.2.2 ∉ posts xs' := fun z => by
              have := hb.2
              rw [ways_val, decide_eq_true z] at this
              cases this
            have W6 := W4.grow e6
            have hb4 : b0 ∈ posts xs' := List.mem_of_getElem? hj4
            obtain ⟨y, hy, hyb, hyv⟩ := ways_get hb4
            refine s_seq ?_
            refine (ev_dget (ev_var rfl) (ev_var rfl) (by rw [← hyv, ← hst]; exact DGet.k (k := (Sum.inr (tx r.2.2.1) : Key)) W6.dct) : Ev (tDGet (tVar 2) (tVar 6)) _ H6 (.ref y.1)) H6 (Ex.refl _) _ fun H7 e7 => ?_
            refine (el_lst (ea_cons (ev_var rfl) ea_nil) (by show 1 ≤ 100000; decide) : EvL (tLst (tCons (tVar 5) tNil)) _ H7 [.str (tx r.2.1)]) H7 (Ex.refl _) _ fun p H8 np e8 hp => ?_
            have W8 := W6.grow (e7.trans e8)
            refine ⟨y.1, p, _, _, rfl, rfl, (W8.way y hy).1, hp, ?_, fun w nw => ?_⟩
            · have := W8.short y hy
              rw [vtx_len]
              exact sz_of (by show _ + 1 ≤ _; omega)
            have wd : w ≠ d := fun z => by rw [z, W8.dct] at nw; cases nw
            have wq : w ≠ q := fun z => by rw [z, W8.que] at nw; cases nw
            have hd9 : upd H8 w (.lst (vtx y.2.2 ++ [.str (tx r.2.1)])) d = some (.dK (dWays xs')) := (upd_ne wd.symm).trans W8.dct
            refine ⟨_, rfl, _, rfl, d, _, rfl, DPut.k (k := (Sum.inr (tx r.2.2.2) : Key)) hd9 (sz_lt ?_), ?_⟩
            · unfold dWays
              rw [List.length_map]
              omega
            dsimp only
            refine s_app (l := q) (xs := vtx (posts xs')) ?_ (ev_var rfl) (ev_var rfl) ?_ fun H9 e9 => ?_
            · rw [upd_ne (ne_kind W8.dct W8.que (by intro z; cases z)).symm, upd_ne wq.symm]
              exact W8.que
            · rw [vtx_len, WS.len_eq]
              omega
            obtain ⟨W9, old⟩ := W8.put (c := r.2.2.2) (l := r.2.1) (Nat.zero_le _) hy hnew nw e9
            refine ⟨_, _, _, xs' ++ [(w, r.2.2.2, y.2.2 ++ [r.2.1])], rfl, W9, ?_, ?_, ?_, ?_, ?_⟩
            · unfold posts at B4 ⊢
              rw [List.map_append]
              refine B4.add (by rw [List.length_map]; omega) hb4 ?_ hnew
              exact ⟨r.2, List.mem_map.mpr ⟨r, hre, rfl⟩, hst, rfl⟩
            · rw [wp_app]
              exact Lv4.add (wp_at B4.nd hj4 hy hyb) (List.mem_map.mpr ⟨r, hre, by rw [← hst]⟩)
            · unfold posts at hj4 ⊢
              rw [List.map_append, List.getElem?_append_left (by rw [List.length_map]; exact hjx)]
              exact hj4
            · intro b hb'
              unfold posts at hb'
              rw [List.map_append] at hb'
              rcases List.mem_append.mp hb' with h | h
              · exact hin4 b h
              · rw [List.mem_singleton.mp h]
                exact (RO.2 r hre).2
            · intro r' hr' hs'
              unfold posts
              rw [List.map_append]
              rw [htk] at hr'
              rcases List.mem_append.mp hr' with h | h
              · exact List.mem_append_left _ (hr4 r' h hs')
              · rw [List.mem_singleton.mp h]
                exact List.mem_append_right _ List.mem_cons_self
          · refine ⟨_, _, _, xs', rfl, W4.grow e6, B4, Lv4, hj4, hin4, fun r' hr' hs' => ?_⟩
            rw [htk] at hr'
            rcases List.mem_append.mp hr' with h | h
            · exact hr4 r' h hs'
            · have hrr := List.mem_singleton.mp h
              rw [hrr] at hs' ⊢
              refine Decidable.byContradiction fun z => ?_
              rw [ways_val, decide_eq_false z, decide_eq_true (by rw [hs'])] at hb
              cases hb
        · rintro st H4 ⟨t5, t6, t7, xs', rfl, W4, B4, Lv4, hj4, hin4, hr4⟩
          have hjx : j < xs'.length := by
            have := (List.getElem?_eq_some_iff.mp hj4).1
            rwa [WS.len_eq] at this
          refine s_asg (ev_op (ev_var rfl) ev_c rv_I0) fun H5 e5 => ⟨_, _, _, xs', rfl, W4.grow e5, B4.next hj4 (fun c hc => ?_), ?_, by omega, hin4⟩
          rotate_left
          · obtain ⟨ls, hls⟩ := wp_some hj4
            refine Lv4.next hls fun l c hl => ?_
            rw [wp_posts]
            unfold LaneB bare at hl
            obtain ⟨r, hr, hre⟩ := List.mem_map.mp hl
            have h1 : r.2.2.1 = b0 := by rw [hre]
            have h2 : r.2.2.2 = c := by rw [hre]
            rw [← h2]
            refine hr4 r ?_ h1
            rw [List.take_of_length_le (by unfold refs; rw [List.length_map]; exact Nat.le_refl _)]
            exact hr
          obtain ⟨z, hz, hz1, hz2⟩ := hc
          unfold bare at hz
          obtain ⟨r, hr, rfl⟩ := List.mem_map.mp hz
          rw [← hz2]
          refine hr4 r ?_ hz1
          rw [List.take_of_length_le (by unfold refs; rw [List.length_map]; exact Nat.le_refl _)]
          exact hr
    · have hge : ¬ j < xs.length := fun h => by
        have := of_decide_eq_false hb
        rw [vtx_len, hpl] at this
        omega
      have W2 := W.grow e2
      refine s_ret (ev_var rfl) fun H3 e3 => k d xs H3 (W2.ex.trans e3) nd0 ⟨(W2.grow e3).dct, B.done (by rw [hpl]; omega), fun x hx => ((W2.grow e3).way x hx).1, fun x hx => Lv.done (by unfold wp; rw [List.length_map]; omega) (by rw [wp_posts]; exact B.nd) x.2 (List.mem_map.mpr ⟨x, hx, rfl⟩), fun x hx => by have := W2.short x hx; omega, by omega⟩
end
end K17

set_option Elab.async false
set_option linter.all false
set_option maxRecDepth 100000
set_option maxHeartbeats 2000000
/-! Comprehensions over a new tuple; `in` of a dict that is made there. -/
namespace Ve
open PySem PySem.Spec PyProof.Rows L2 Vl Evl
section
variable {K : PySem.W.Frag} {σ : L2.St} {H : Hp} {te : TE}
theorem el_lcU {α : Type} {ys : List α} {g : α → V} {tl : TE} {j : Nat} {vs : List Nat} {tt : TT} (c : α → Bool) (w : α → V) (h : EvU tl σ H (ys.map g)) (hz : ys.length ≤ 40000) (hw : ∀ x, wipe ((wipe σ vs).set j (some x)) vs = wipe σ vs)
    (ht : ∀ (y : α) (H1 : Hp), Ex H H1 → y ∈ ys → EvT tt ((wipe σ vs).set j (some (g y))) H1 (c y)) (he : ∀ (y : α) (H1 : Hp), Ex H H1 → y ∈ ys → c y = true → Ev te ((wipe σ vs).set j (some (g y))) H1 (w y)) :
    EvL (tLc (iTup K tl) (gName j) tt te vs) σ H ((ys.filter c).map w) := fun H0 e Q q => h H0 e _ fun a H1 ha e1 hx => ⟨a, rfl, ⟨ys.map g, st_of hx⟩, fun Dl hD => by
  have hgm := given_map c w (fun i => match ys[i]? with | some y => c y | none => false) (fun i => match ys[i]? with | some y => w y | none => .non) (fun i y hy => by rw [hy]; exact ⟨rfl, rfl⟩) ys.length (Nat.le_refl _)
  rw [List.take_length] at hgm
  refine lc_tup (xs := ys.map g) (Cw H1 (fun i => match ys[i]? with | some y => c y | none => false) (fun i => match ys[i]? with | some y => w y | none => .non) Dl) ⟨hD, Ex.new hD, upd_same⟩ (fun i H' _ p => st_of (p.2.1 a _ hx)) (fun i x H' hi p => ⟨hw x, ?_⟩)
    (fun H' p => q Dl H' (fresh_back e1 p.1) (e1.trans p.2.1) (by have h2 := p.2.2; rw [List.length_map, hgm] at h2; exact h2))
  rw [List.getElem?_map] at hi
  obtain ⟨y, hy, rfl⟩ := Option.map_eq_some_iff.mp hi
  have hm := List.mem_of_getElem? hy
  refine cw_turn p (by have := (List.getElem?_eq_some_iff.mp hy).1; omega) ?_ ?_
  · rw [hy]
    exact ht y H1 (e.trans e1) hm
  · rw [hy]
    exact fun hf => he y H1 (e.trans e1) hm hf⟩
theorem ev_lenT {p : Addr} {xs : List V} (h : Ev te σ H (.ref p)) (hx : SqT K H p xs) : Ev (tCB (fun vs H Q => ∃ x n, vs = [x] ∧ LenV K x H n ∧ Q (.int n) H) (tCons te tNil)) σ H (.int (xs.length : Nat)) := fun H1 e Q q =>
  h H1 e _ fun H2 e2 => ⟨.ref p, xs.length, rfl, .inr ⟨xs, ex_t (e.trans e2) hx, rfl⟩, q H2 e2⟩
/-- x in d, d made there -/
theorem et_inN {ty td : TE} {y : V} {b : Bool} (h1 : Ev ty σ H y) (h2 : ∀ H1, Ex H H1 → ∀ Q : VK, (∀ d o H2, Ex H1 H2 → DGet H2 d y o → o.isSome = b → Q (.ref d) H2) → td σ H1 Q) : EvT (tB (tDIn ty td)) σ H b := fun H1 e Q q =>
  h1 H1 e _ fun H2 e2 => h2 H2 (e.trans e2) _ fun d o H3 e3 hg hb => ⟨d, o, rfl, hg, _, rfl, by rw [hb]; exact q H3 (e2.trans e3)⟩
end
end Ve

set_option Elab.async false
set_option linter.all false
set_option maxRecDepth 100000
set_option maxHeartbeats 4000000
/-! parts_of: the posts that are reached and reach back, the lanes within. -/
namespace K17
open PySem PySem.Spec PyProof.Rows L2 Vl Evl Vp Vr Vx2 Vlk Vda Vc Ve Vrc
def insideB (B : List (List Nat)) (t : List Nat × List Nat × List Nat) : Bool := decide (t.2.1 ∈ B) && decide (t.2.2 ∈ B)
def inner (bs : Bare) (B : List (List Nat)) : List (List Nat) := (bs.filter (insideB B)).map fun t => t.1
noncomputable def bothB (bs : Bare) (a b : List Nat) : Bool := @decide (Reach (Edge bs) a b) (Classical.propDecidable _) && @decide (Reach (Edge bs) b a) (Classical.propDecidable _)
theorem both_iff {bs : Bare} {a b : List Nat} : bothB bs a b = true ↔ Reach (Edge bs) a b ∧ Reach (Edge bs) b a := by
  unfold bothB
  rw [Bool.and_eq_true]
  exact ⟨fun h => ⟨@of_decide_eq_true _ (Classical.propDecidable _) h.1, @of_decide_eq_true _ (Classical.propDecidable _) h.2⟩, fun h => ⟨@decide_eq_true _ (Classical.propDecidable _) h.1, @decide_eq_true _ (Classical.propDecidable _) h.2⟩⟩
noncomputable def scc (bs : Bare) (ps : List (List Nat)) (a : List Nat) : List (List Nat) := ps.filter (bothB bs a)
abbrev Part : Type := List (List Nat) × List (List Nat)
noncomputable def pick (bs : Bare) (ps : List (List Nat)) (a : List Nat) : Option Part :=
  if (scc bs ps a).head? = some a ∧ inner bs (scc bs ps a) ≠ [] then some (scc bs ps a, inner bs (scc bs ps a)) else none
noncomputable def partsIn (bs : Bare) (ps qs : List (List Nat)) : List Part := qs.filterMap (pick bs ps)
theorem inner_rows (es : List Row) (B : List (List Nat)) : (es.filter fun r => insideB B r.2).map (fun r => V.str (tx r.2.1)) = vtx (inner (bare es) B) := by
  unfold inner bare vtx
  rw [List.filter_map, List.map_map, List.map_map]
  rfl
theorem inner_rows' (es : List Row) (B : List (List Nat)) : (es.filter fun r => insideB B r.2).map (fun r => r.2.1) = inner (bare es) B := by
  unfold inner bare
  rw [List.filter_map, List.map_map]
  rfl
theorem lanes_rows (es : List Row) : vtx (laneNames es) = es.map fun r => V.str (tx r.2.1) := by
  unfold vtx laneNames
  rw [List.map_map]
  rfl
theorem flat_tx (xs : List (List Nat)) : (vtx xs).all flatV = true := List.all_eq_true.mpr fun v hv => by
  unfold vtx at hv
  obtain ⟨l, _, rfl⟩ := List.mem_map.mp hv
  rfl
theorem eu_fu {σ : L2.St} {H : Hp} {sp : Sp} {E : L2.St → XK} {vs xs : List V} {ta : TA} (h : EvA ta σ H vs) (hs : SpU sp vs H xs) : EvU (tFu sp E ta) σ H xs := fun H1 e Q q =>
  h H1 e _ fun H2 e2 => hs H2 (e.trans e2) Q (fun p H3 hp e3 h3 => q p H3 (fresh_back e2 hp) (e2.trans e3) h3) (E σ)
abbrev sIn : Stmt := top 28
abbrev nIn : List Str := ["net", "posts", "lane"]
def spIn (K : PySem.W.Frag) (C : Addr) : Sp := fun vs H Q _ => ∃ (o t dx dp de : Addr) (ps : List (List Nat)) (es : List Row) (B : List (List Nat)), vs = [.ref o, .ref t] ∧ NetAt C H o dx dp de ps es ∧ (laneNames es).Nodup ∧ es.length ≤ 1000 ∧ SqT K H t (vtx B) ∧
  ∀ t' H', Ex H H' → H t' = none → H' t' = some (.tup (vtx (inner (bare es) B))) → Q (.ref t') H'
section
variable {P : Program} {w : World} {K : PySem.W.Frag} {mg : Str → Option Value} {base : Heap} {C BN NT NP NL : Addr}
theorem scIn : FnScope nIn ["net", "posts"] (defScope sIn) := ⟨rfl, rfl, rfl, by decide +kernel, rfl, by decide +kernel, by decide +kernel⟩
theorem ok_in {f : Addr} {fd : FuncData} (F : FnP K "_inner_lanes" sIn f fd) (N : ND P w K mg base C BN NT NP NL) (mTuple : mg "tuple" = none) :
    FnOk P w K mg base L2.CX0 5 f fd ["net", "posts"] (spIn K C) := by
  refine F.ok (CX := L2.CX0) scIn (fun vs H Q E h => ?_) (fun cdv A outer s H vs Q E hr h => ?_)
  · obtain ⟨o, t, dx, dp, de, ps, es, B, rfl, _⟩ := h
    rfl
  · refine ⟨_, (pss_one (ps_ret (pe_callTy call_tuple_of (by rfl) mTuple boot_tuple (pa_cons (pe_lc (own := [("lane", 2)]) (g := (gName 2)) (tt := (tAnd (tTest (tOp (rIn K false) (Vtr.tMethS C "start_of" (spEndOf C NL fun r => r.2.2.1) (fun _ => nil0) (tVar 0) (tCons (tVar 2) tNil)) (tVar 1))) (tTest (tOp (rIn K false) (Vtr.tMethS C "end_of" (spEndOf C NL fun r => r.2.2.2) (fun _ => nil0) (tVar 0) (tCons (tVar 2) tNil)) (tVar 1))))) (te := (tVar 2)) rfl scIn.nd (pi_tup (pe_pr (pv 0) N.cls N.lanes hr)) (blkOk_by (own := [("lane", 2)]) (N := nIn) (sc := defScope sIn) (by decide +kernel)) (fun _ _ _ _ _ => (pg_name (i := 2) scIn.nd rfl (by first | exact Or.inl rfl | exact Or.inr rfl))) (fun _ _ _ _ _ => (pts_one (PW.pt (pw_and (pt_cmpR op_in_seq (pe_moN (pv 0) N.cls N.start hr (pa_cons (pv 2) pa_nil)) (pv 1) rfl) (pw_and1 (pt_cmpR op_in_seq (pe_moN (pv 0) N.cls N.end_ hr (pa_cons (pv 2) pa_nil)) (pv 1) rfl)))))) (fun _ _ _ _ _ => (pv 2))) pa_nil)))), ?_⟩
    obtain ⟨o, t, dx, dp, de, ps, es, B, rfl, N1, nd, hz, ht, k⟩ := h
    refine s_retU (xs := vtx (inner (bare es) B)) (eu_tupleL ?_) (fun p H1 np e1 h1 => k p H1 e1 np h1)
    rw [← inner_rows]
    refine el_lcU (g := fun r : Row => V.str (tx r.2.1)) (fun r => insideB B r.2) (fun r => V.str (tx r.2.1)) (by rw [← lanes_rows]; exact eu_pr (ev_var rfl) N1.at_ (sv_lanes N1)) (by omega) (fun x => rfl) (fun r H1 e hr1 => ?_) (fun r H1 e _ _ => ev_var rfl)
    obtain ⟨ie, hie⟩ := List.getElem?_of_mem hr1
    have N2 := N1.mono e
    have ht2 := ex_t e ht
    refine et_is (et_and (et_test (ev_op (ev_me (ev_var rfl) N2.at_ rfl (ea_cons (ev_var rfl) ea_nil) (sv_end N2 (row_own nd hie))) (ev_var rfl) (rv_isT ht2 rfl (flat_tx B)))) (fun _ => et_test (ev_op (ev_me (ev_var rfl) N2.at_ rfl (ea_cons (ev_var rfl) ea_nil) (sv_end N2 (row_own nd hie))) (ev_var rfl) (rv_isT ht2 rfl (flat_tx B))))) ?_
    rw [inV_vtx, inV_vtx]
    rfl
end
end K17

set_option Elab.async false
set_option linter.all false
set_option maxRecDepth 100000
set_option maxHeartbeats 4000000
/-! parts_of itself. -/
namespace K17
open PySem PySem.Spec PyProof.Rows L2 Vl Evl Vp Vr Vx2 Vlk Vda Vc Ve Vrc
/-- a part told: its tuple, the posts, the lanes -/
def PartAt (H : Hp) (f : Addr × Part) : Prop := ∃ x y, H f.1 = some (.tup [.ref x, .ref y]) ∧ H x = some (.tup (vtx f.2.1)) ∧ H y = some (.tup (vtx f.2.2))
theorem PartAt.mono {H H' : Hp} {f : Addr × Part} (e : Ex H H') (h : PartAt H f) : PartAt H' f := by
  obtain ⟨x, y, h1, h2, h3⟩ := h
  exact ⟨x, y, e _ _ h1, e _ _ h2, e _ _ h3⟩
abbrev Mp : Type := Addr × List Nat
def dMap (zs : List Mp) : List (Key × V) := zs.map fun z => ((Sum.inr (tx z.2) : Key), V.ref z.1)
theorem map_none {zs : List Mp} {l : List Nat} (h : l ∉ zs.map fun z => z.2) : valV (dMap zs) (Sum.inr (tx l) : Key) = none := by
  induction zs with
  | nil => rfl
  | cons z r ih =>
    rw [List.map_cons] at h
    unfold dMap at ih ⊢
    rw [List.map_cons, valV_neg (fun e => h (by rw [tx_inj (Sum.inr.inj e)]; exact List.mem_cons_self))]
    exact ih fun z => h (List.mem_cons_of_mem _ z)
theorem map_get {zs : List Mp} {l : List Nat} (h : l ∈ zs.map fun z => z.2) : ∃ z ∈ zs, z.2 = l ∧ valV (dMap zs) (Sum.inr (tx l) : Key) = some (V.ref z.1) := by
  induction zs with
  | nil => cases h
  | cons z r ih =>
    by_cases hz : z.2 = l
    · exact ⟨z, List.mem_cons_self, hz, by unfold dMap; rw [List.map_cons, valV_pos (by rw [hz])]⟩
    · have hr : l ∈ r.map fun z => z.2 := by
        rcases List.mem_cons.mp h with h | h
        · exact absurd h.symm hz
        · exact h
      obtain ⟨y, hy, h1, h2⟩ := ih hr
      refine ⟨y, List.mem_cons_of_mem _ hy, h1, ?_⟩
      unfold dMap at h2 ⊢
      rw [List.map_cons, valV_neg (fun e => hz (tx_inj (Sum.inr.inj e)))]
      exact h2
abbrev sPa : Stmt := top 27
abbrev nPa : List Str := ["net", "ways", "start", "parts", "post", "posts", "other", "lanes"]
def spPa (C : Addr) : Sp := fun vs H Q _ => ∃ (o dx dp de : Addr) (ps : List (List Nat)) (es : List Row), vs = [.ref o] ∧ NetAt C H o dx dp de ps es ∧ RowsOk ps es ∧ ps.Nodup ∧ ps.length ≤ 30 ∧ es.length ≤ 30 ∧
  ∀ (l : Addr) (fs : List (Addr × Part)) (H' : Hp), Ex H H' → H l = none → H' l = some (.lst (fs.map fun f => V.ref f.1)) → fs.map (fun f => f.2) = partsIn (bare es) ps ps → (∀ f ∈ fs, PartAt H' f) → Q (.ref l) H'
section
variable {P : Program} {w : World} {K : PySem.W.Frag} {mg : Str → Option Value} {base : Heap} {C BN NT NP NL : Addr}
theorem scPa : FnScope nPa ["net"] (defScope sPa) := ⟨rfl, rfl, rfl, by decide +kernel, rfl, by decide +kernel, by decide +kernel⟩
theorem ok_pa {f : Addr} {fd : FuncData} (F : FnP K "parts_of" sPa f fd) (N : ND P w K mg base C BN NT NP NL) (TWf : Fu P w K mg base L2.CX0 5 "ways_from" (spWf C)) (TIn : Fu P w K mg base L2.CX0 5 "_inner_lanes" (spIn K C)) (mTuple : mg "tuple" = none) (mLen : mg "len" = none) :
    FnOk P w K mg base L2.CX0 6 f fd ["net"] (spPa C) := by
  refine F.ok (CX := L2.CX0) scPa (fun vs H Q E h => ?_) (fun cdv A outer s H vs Q E hr h => ?_)
  · obtain ⟨o, dx, dp, de, ps, es, rfl, _⟩ := h
    rfl
  · refine ⟨_, (pss_cons (ps_set (i := 1) scPa.nd rfl (by first | exact Or.inl rfl | exact Or.inr rfl) (pe_dc (own := [("start", 2)]) (g := (gName 2)) (tt := tYes) (tk := (tVar 2)) (tv := (tFu (spWf C) (fun _ => nil0) (tCons (tVar 0) (tCons (tVar 2) tNil)))) rfl scPa.nd (pi_tup (pe_pr (pv 0) N.cls N.posts hr)) (blkOk_by (own := [("start", 2)]) (N := nPa) (sc := defScope sPa) (by decide +kernel)) (fun _ _ _ _ _ => (pg_name (i := 2) scPa.nd rfl (by first | exact Or.inl rfl | exact Or.inr rfl))) (fun _ _ _ _ _ => pts_nil) (fun _ _ _ _ _ => (pv 2)) (fun _ _ _ _ _ => (pe_fu TWf hr (by rfl) (pa_cons (pv 0) (pa_cons (pv 2) pa_nil))))))
      (pss_cons (ps_set (i := 3) scPa.nd rfl (by first | exact Or.inl rfl | exact Or.inr rfl) (pe_lst pa_nil))
      (pss_cons (ps_for (passes_of rfl) rfl (pi_tup (pe_pr (pv 0) N.cls N.posts hr)) (pg_name (i := 4) scPa.nd rfl (by first | exact Or.inl rfl | exact Or.inr rfl)) (pss_cons (ps_set (i := 5) scPa.nd rfl (by first | exact Or.inl rfl | exact Or.inr rfl) (pe_callTy call_tuple_of (by rfl) mTuple boot_tuple (pa_cons (pe_lc (own := [("other", 6)]) (g := (gName 6)) (tt := (tAnd (tB (tDIn (tVar 6) (tDGet (tVar 1) (tVar 4)))) (tB (tDIn (tVar 4) (tDGet (tVar 1) (tVar 6)))))) (te := (tVar 6)) rfl scPa.nd (pi_tup (pe_pr (pv 0) N.cls N.posts hr)) (blkOk_by (own := [("other", 6)]) (N := nPa) (sc := defScope sPa) (by decide +kernel)) (fun _ _ _ _ _ => (pg_name (i := 6) scPa.nd rfl (by first | exact Or.inl rfl | exact Or.inr rfl))) (fun _ _ _ _ _ => (pts_one (PW.pt (pw_and (pt_cmp (pc_din (Nat.lt_of_le_of_lt (Nat.add_le_add_left (show 1 ≤ 64 by decide) _) hr.units) (pv 6) (pe_dget (Nat.lt_of_le_of_lt (Nat.add_le_add_left (show 1 ≤ 64 by decide) _) hr.units) (pv 1) (pv 4) (fun _ _ => rfl)))) (pw_and1 (pt_cmp (pc_din (Nat.lt_of_le_of_lt (Nat.add_le_add_left (show 1 ≤ 64 by decide) _) hr.units) (pv 4) (pe_dget (Nat.lt_of_le_of_lt (Nat.add_le_add_left (show 1 ≤ 64 by decide) _) hr.units) (pv 1) (pv 6) (fun _ _ => rfl))))))))) (fun _ _ _ _ _ => (pv 6))) pa_nil)))
      (pss_cons (ps_set (i := 7) scPa.nd rfl (by first | exact Or.inl rfl | exact Or.inr rfl) (pe_fu TIn hr (by rfl) (pa_cons (pv 0) (pa_cons (pv 5) pa_nil))))
      (pss_one (ps_if (PW.pt (pw_and (pt_cmpR op_eq (pe_ix ix_tup (pv 5) pe_int fun _ _ => rfl) (pv 4) (nomark _)) (pw_and1 (pt_cmpR op_gt (pe_callB call_len (by rfl) mLen boot_len (pa_cons (pv 7) pa_nil)) pe_int (nomark _))))) (pss_one (ps_expr (pe_bm PySem.F.plainAttrs_list PySem.F.slot_list_append PySem.F.type_list_append mt_append (pv 3) (pa_cons (pe_tup (pa_cons (pv 5) (pa_cons (pv 7) pa_nil))) pa_nil)))) pss_nil)))))
      (pss_one (ps_ret (pv 3)))))), ?_⟩
    obtain ⟨o, dx, dp, de, ps, es, rfl, N1, RO, ndp, hp30, he30, k⟩ := h
    have nd : (laneNames es).Nodup := RO.1.2
    refine s_seq ?_
    refine eu_pr (ev_var rfl) N1.at_ (sv_posts N1) H (Ex.refl _) _ fun t H1 nt e1 ht => ⟨t, rfl, ⟨_, st_of ht⟩, fun D nD => dc_tup (xs := vtx ps) (fun i H' => ∃ zs : List Mp, zs.map (fun z => z.2) = ps.take i ∧ Ex H1 H' ∧ H' D = some (.dK (dMap zs)) ∧ ∀ z ∈ zs, z.1 ≠ D ∧ ∃ xs, WaysD H' z.1 (bare es) z.2 xs)
      ⟨[], by rw [List.take_zero]; rfl, Ex.new nD, upd_same, fun _ h => nomatch h⟩ (fun i H' _ ⟨_, _, e, _⟩ => st_of (e _ _ ht)) (fun i x H2 hx => ?_) (fun H2 hp => ?_)⟩
    · rintro ⟨zs, hzs, e2, hD, hw⟩
      unfold vtx at hx
      rw [List.getElem?_map] at hx
      obtain ⟨b, hb, rfl⟩ := Option.map_eq_some_iff.mp hx
      have hbm := List.mem_of_getElem? hb
      have hlt := (List.getElem?_eq_some_iff.mp hb).1
      have htk : ps.take (i + 1) = ps.take i ++ [b] := by rw [List.take_succ, hb]; rfl
      have hzl : zs.length ≤ 30 := by
        have := congrArg List.length hzs
        rw [List.length_map, List.length_take] at this
        omega
      refine ⟨rfl, ?_⟩
      unfold tYes
      dsimp only
      rw [if_pos rfl]
      refine ⟨_, rfl, ?_⟩
      refine ⟨_, rfl, _, rfl, ?_⟩
      refine ⟨o, dx, dp, de, ps, es, b, rfl, N1.mono (e1.trans e2), RO, hp30, he30, hbm, fun d xs H3 e3 nd3 W => ⟨dMap zs, (Sum.inr (tx b) : Key), rfl, e3 _ _ hD, sz_lt ?_, zs ++ [(d, b)], ?_, Ex.mut (e2.trans e3) nD, ?_, fun z hz => ?_⟩⟩
      · unfold dMap
        rw [List.length_map]
        omega
      · rw [List.map_append, hzs, htk]
        rfl
      · have hnew : b ∉ zs.map fun z => z.2 := by
          rw [hzs]
          intro z
          have n2 := ndp.sublist (List.take_sublist (i + 1) ps)
          rw [htk, List.nodup_append] at n2
          exact n2.2.2 _ z _ (List.mem_singleton.mpr rfl) rfl
        rw [upd_same, putK_new _ (map_none hnew)]
        unfold dMap
        rw [List.map_append]
        rfl
      · have keep : ∀ (c : Addr) (a' : List Nat) (ys : List Way), c ≠ D → WaysD H3 c (bare es) a' ys → WaysD (upd H3 D (.dK (putK (dMap zs) (Sum.inr (tx b) : Key) (V.ref d)))) c (bare es) a' ys := fun c a' ys hc Wc =>
          ⟨(upd_ne hc).trans Wc.dct, Wc.re, fun y hy => by
            have h1 := Wc.way y hy
            rw [upd_ne (ne_kind h1 (e3 _ _ hD) (by intro z; cases z))]
            exact h1, Wc.best, Wc.few, Wc.many⟩
        rcases List.mem_append.mp hz with hz | hz
        · obtain ⟨h1, ys, Wy⟩ := hw z hz
          exact ⟨h1, ys, keep _ _ _ h1 (Wy.mono e3)⟩
        · rw [List.mem_singleton.mp hz]
          have dD : d ≠ D := fun z => by rw [z, hD] at nd3; cases nd3
          exact ⟨dD, xs, keep _ _ _ dD W⟩
    · obtain ⟨zs, hzs, e2, hD, hw⟩ := hp
      rw [List.take_of_length_le (by rw [vtx_len]; exact Nat.le_refl _)] at hzs
      have e02 := e1.trans e2
      have gets : ∀ (H3 : Hp), Ex H2 H3 → ∀ b ∈ ps, ∃ z, valV (dMap zs) (Sum.inr (tx b) : Key) = some (V.ref z) ∧ ∃ xs, WaysD H3 z (bare es) b xs := fun H3 e3 b hb => by
        obtain ⟨z, hz, hzb, hv⟩ := map_get (zs := zs) (l := b) (by rw [hzs]; exact hb)
        obtain ⟨_, xs, W⟩ := hw z hz
        exact ⟨z.1, hv, xs, hzb ▸ (W.mono e3)⟩
      dsimp only
      show tSeq _ _ _ [some (.ref o), some (.ref D), none, none, none, none, none, none] H2
      refine s_seq ?_
      refine s_asgL (el_lst ea_nil (by decide)) fun l H3 nl e3 hl => ?_
      have hl0 : H l = none := fresh_back e02 nl
      refine s_seq ?_
      refine s_forNUn (eu_pr (ev_var rfl) (N1.mono (e02.trans e3)).at_ (sv_posts (N1.mono (e02.trans e3))))
        (fun t i st H' => ∃ t4 t5 t7, ∃ fs : List (Addr × Part), st = [some (.ref o), some (.ref D), none, some (.ref l), t4, t5, none, t7] ∧ Ex H2 H' ∧ H' t = some (.tup (vtx ps)) ∧ H' l = some (.lst (fs.map fun f => V.ref f.1)) ∧ fs.length ≤ i ∧ fs.map (fun f => f.2) = partsIn (bare es) ps (ps.take i) ∧ ∀ f ∈ fs, PartAt H' f)
        (fun t H4 nt e4 ht4 => ⟨none, none, none, [], rfl, e3.trans e4, ht4, e4 _ _ hl, Nat.le_refl _, by rw [List.take_zero]; rfl, fun _ h => nomatch h⟩) (fun t i st H' _ ⟨_, _, _, _, _, _, h, _⟩ => st_of h) ?_ ?_
      · rintro t i x st H4 hx ⟨t4, t5, t7, fs, rfl, e4, ht4, hl4, hfl, hfm, hfs⟩
        unfold vtx at hx
        rw [List.getElem?_map] at hx
        obtain ⟨a, ha, rfl⟩ := Option.map_eq_some_iff.mp hx
        have ham := List.mem_of_getElem? ha
        have hlt := (List.getElem?_eq_some_iff.mp ha).1
        have htk : ps.take (i + 1) = ps.take i ++ [a] := by rw [List.take_succ, ha]; rfl
        have N4 := N1.mono (e02.trans e4)
        have lD4 := e4 _ _ hD
        refine s_seq ?_
        refine s_asgU (xs := vtx (scc (bare es) ps a)) (eu_tupleL (el_lcU (ys := ps) (g := fun b => V.str (tx b)) (bothB (bare es) a) (fun b => V.str (tx b)) (eu_pr (ev_var rfl) N4.at_ (sv_posts N4)) (by omega) (fun x => rfl) (fun b H5 e5 hb => ?_) (fun b H5 e5 _ _ => ev_var rfl))) fun pB H5 nB e5 hB => ?_
        · obtain ⟨za, hva, xa, Wa⟩ := gets H5 (e4.trans e5) a ham
          obtain ⟨zb, hvb, xb, Wb⟩ := gets H5 (e4.trans e5) b hb
          have D5 := (e4.trans e5) _ _ hD
          refine et_is (et_and (et_in (d := za) (o := valV (dWays xa) (Sum.inr (tx b) : Key)) (ev_var rfl) (ev_dget (ev_var rfl) (ev_var rfl) (by rw [← hva]; exact DGet.k (k := (Sum.inr (tx a) : Key)) D5)) (DGet.k (k := (Sum.inr (tx b) : Key)) Wa.dct)) (fun _ => et_in (d := zb) (o := valV (dWays xb) (Sum.inr (tx a) : Key)) (ev_var rfl) (ev_dget (ev_var rfl) (ev_var rfl) (by rw [← hvb]; exact DGet.k (k := (Sum.inr (tx b) : Key)) D5)) (DGet.k (k := (Sum.inr (tx a) : Key)) Wb.dct))) ?_
          rw [ways_val, ways_val]
          refine Bool.eq_iff_iff.mpr ?_
          rw [both_iff, Bool.and_eq_true, decide_eq_true_iff, decide_eq_true_iff, Wa.re, Wb.re]
        dsimp only
        have N5 := N4.mono e5
        refine s_seq ?_
        refine s_asgU (xs := vtx (inner (bare es) (scc (bare es) ps a))) (eu_fu (ea_cons (ev_var rfl) (ea_cons (ev_var rfl) ea_nil)) fun H6 e6 Q6 q6 E6 => ⟨o, pB, dx, dp, de, ps, es, scc (bare es) ps a, rfl, N5.mono e6, nd, by omega, st_of (e6 _ _ hB), fun t' H7 e7 nt7 ht7 => q6 t' H7 nt7 e7 ht7⟩) fun pL H6 nL e6 hL => ?_
        have hB6 := e6 _ _ hB
        have e46 := e5.trans e6
        have hne : (scc (bare es) ps a) ≠ [] := List.ne_nil_of_mem (List.mem_filter.mpr ⟨ham, both_iff.mpr ⟨.refl, .refl⟩⟩)
        obtain ⟨hd, tlB, hBe⟩ := List.exists_cons_of_ne_nil hne
        dsimp only
        refine s_if (et_and (et_test (ev_op (ev_op (ev_var rfl) ev_c (rv_ixT (v := V.str (tx hd)) (st_of hB6) (at_of (j := 0) rfl (by rw [hBe]; rfl)))) (ev_var rfl) (rv_eq rfl))) (fun _ => et_test (ev_op (ev_lenT (ev_var rfl) (st_of hL)) ev_c rv_I0))) (fun hc H7 e7 => ?_) (fun hc H7 e7 => ?_)
        · rw [Bool.and_eq_true, decide_eq_true_iff, decide_eq_true_iff] at hc
          have hda : hd = a := tx_inj (by injection hc.1)
          have hin : inner (bare es) (scc (bare es) ps a) ≠ [] := fun z => by
            have := hc.2
            rw [z] at this
            exact absurd this (by decide)
          have hpk : pick (bare es) ps a = some (scc (bare es) ps a, inner (bare es) (scc (bare es) ps a)) := if_pos ⟨by rw [hBe, hda]; rfl, hin⟩
          have e47 := e46.trans e7
          have hl7 := e47 _ _ hl4
          refine s_appU hl7 (ev_var rfl) (eu_tup (ea_cons (ev_var rfl) (ea_cons (ev_var rfl) ea_nil)) (by show 2 ≤ 100000; decide)) (by rw [List.length_map]; omega) fun p H8 np e8 hp => ?_
          have e48 := e47.trans e8
          have hl8 := e48 _ _ hl4
          have keep : ∀ (x : Addr) (u : List V), H8 x = some (.tup u) → upd H8 l (.lst ((fs.map fun f => V.ref f.1) ++ [V.ref p])) x = some (.tup u) := fun x u hx => (upd_ne (ne_kind hx hl8 (by intro z; cases z))).trans hx
          have hp8 := keep _ _ hp
          refine ⟨_, _, _, fs ++ [(p, scc (bare es) ps a, inner (bare es) (scc (bare es) ps a))], rfl, Ex.mut (e4.trans e48) nl, ?_, ?_, ?_, ?_, fun f hf => ?_⟩
          · exact keep _ _ (e48 _ _ ht4)
          · rw [upd_same, List.map_append]
            rfl
          · rw [List.length_append]
            show _ + 1 ≤ _
            omega
          · rw [List.map_append, hfm, htk]
            unfold partsIn
            rw [List.filterMap_append, List.filterMap_cons, hpk]
            rfl
          · rcases List.mem_append.mp hf with hf | hf
            · obtain ⟨x, y, h1, h2, h3⟩ := (hfs f hf).mono e48
              exact ⟨x, y, keep _ _ h1, keep _ _ h2, keep _ _ h3⟩
            · rw [List.mem_singleton.mp hf]
              exact ⟨pB, pL, hp8, keep _ _ (e8 _ _ (e7 _ _ hB6)), keep _ _ (e8 _ _ (e7 _ _ hL))⟩
        · have hpk : pick (bare es) ps a = none := if_neg fun ⟨h1, h2⟩ => by
            rw [hBe] at h1
            have h3 : hd = a := Option.some.inj h1
            have h4 : (0 : Int) < ((vtx (inner (bare es) (scc (bare es) ps a))).length : Nat) := by
              have := List.length_pos_iff.mpr h2
              rw [vtx_len]
              omega
            rw [decide_eq_true (by rw [h3]), decide_eq_true h4] at hc
            cases hc
          have e47 := e46.trans e7
          refine ⟨_, _, _, fs, rfl, e4.trans e47, e47 _ _ ht4, e47 _ _ hl4, by omega, ?_, fun f hf => (hfs f hf).mono e47⟩
          rw [hfm, htk]
          unfold partsIn
          rw [List.filterMap_append, List.filterMap_cons, hpk]
          exact (List.append_nil _).symm
      · rintro t st H4 ⟨t4, t5, t7, fs, rfl, e4, ht4, hl4, hfl, hfm, hfs⟩
        rw [vtx_len, List.take_length] at hfm
        exact s_ret (ev_var rfl) fun H5 e5 => k l fs H5 (e02.trans (e4.trans e5)) hl0 (e5 _ _ hl4) hfm fun f hf => (hfs f hf).mono e5
end
end K17

set_option Elab.async false
set_option linter.all false
set_option maxRecDepth 100000
set_option maxHeartbeats 4000000
/-! The part of a lane, by the law. -/
namespace K17
open PySem PySem.Spec PyProof.Rows L2 Vl Evl Vp Vr Vx2 Vlk Vda Vc Ve Vrc Vwy
noncomputable def reB (bs : Bare) (a b : List Nat) : Bool := @decide (Reach (Edge bs) a b) (Classical.propDecidable _)
theorem reB_iff {bs : Bare} {a b : List Nat} : reB bs a b = true ↔ Reach (Edge bs) a b := ⟨fun h => @of_decide_eq_true _ (Classical.propDecidable _) h, fun h => @decide_eq_true _ (Classical.propDecidable _) h⟩
theorem ways_re {H : Hp} {d : Addr} {bs : Bare} {a : List Nat} {xs : List Way} (W : WaysD H d bs a xs) (b : List Nat) : (valV (dWays xs) (Sum.inr (tx b) : Key)).isSome = reB bs a b := by
  rw [ways_val]
  refine Bool.eq_iff_iff.mpr ?_
  rw [reB_iff, decide_eq_true_iff, W.re]
theorem both_symm {bs : Bare} {a b : List Nat} : bothB bs a b = bothB bs b a := by
  unfold bothB
  rw [Bool.and_comm]
theorem both_refl {bs : Bare} {a : List Nat} : bothB bs a a = true := both_iff.mpr ⟨.refl, .refl⟩
theorem both_trans {bs : Bare} {a b c : List Nat} (h : bothB bs a b = true) (h2 : bothB bs b c = true) : bothB bs a c = true :=
  both_iff.mpr ⟨(both_iff.mp h).1.trans (both_iff.mp h2).1, (both_iff.mp h2).2.trans (both_iff.mp h).2⟩
def rowD (r : Row) : PyData := wd [r.2.1, r.2.2.1, r.2.2.2]
theorem dpa_rows {K : PySem.W.Frag} {H : Hp} : ∀ {rs : List Row}, (∀ r ∈ rs, RowAt H r) → DpAll K H (refs rs) (rs.map rowD)
  | [], _ => .nil
  | x :: r, h => .cons (dp_wd (a := [x.2.1, x.2.2.1, x.2.2.2]) (.inl (.inl (h x List.mem_cons_self)))) (dpa_rows fun y hy => h y (List.mem_cons_of_mem _ hy))
theorem lay_rows : ∀ {rs : List Row}, (∀ r ∈ rs, nam r.2.1 ∧ nam r.2.2.1 ∧ nam r.2.2.2) → PyData.canLayAll0 (rs.map rowD) = true ∧ PyData.depthAll (rs.map rowD) ≤ 1
  | [], _ => ⟨rfl, Nat.zero_le _⟩
  | x :: r, h => by
    obtain ⟨h1, h2⟩ := lay_rows fun y hy => h y (List.mem_cons_of_mem _ hy)
    obtain ⟨a1, a2, a3⟩ := h x List.mem_cons_self
    have hx : PyData.canLay0 (rowD x) = true := lay_ok [x.2.1, x.2.2.1, x.2.2.2] (oks_cons (ok_nam a1) (oks_cons (ok_nam a2) (oks_cons (ok_nam a3) oks_nil)))
    have hd : (rowD x).depth ≤ 1 := dep_wd _
    refine ⟨?_, ?_⟩
    · show (PyData.canLay0 (rowD x) && PyData.canLayAll0 (r.map rowD)) = true
      rw [hx, h1]
      rfl
    · show max (rowD x).depth (PyData.depthAll (r.map rowD)) ≤ 1
      omega
theorem sh_rows {rs : List Row} (h : ∀ r ∈ rs, nam r.2.1 ∧ nam r.2.2.1 ∧ nam r.2.2.2) : SeqAt.shaped (.list (rs.map rowD)) = true := shaped_of (lay_rows h).1 (by
  show PyData.depthAll (rs.map rowD) + 1 ≤ 64
  have := (lay_rows h).2
  omega)
theorem eq_rows (rs : List Row) : PyData.eqv (.list (rs.map rowD)) (.list []) = decide (rs = []) := by cases rs <;> rfl
theorem nam_rows {ps : List (List Nat)} {rs : List Row} (NA : Names ps) (RO : RowsOk ps rs) : ∀ r ∈ rs, nam r.2.1 ∧ nam r.2.2.1 ∧ nam r.2.2.2 := fun r hr =>
  ⟨RO.1.1 _ (List.mem_map_of_mem (f := fun r : Row => r.2.1) hr), NA.1 _ (RO.2 r hr).1, NA.1 _ (RO.2 r hr).2⟩
theorem ends_look {es : List Row} (nd : (laneNames es).Nodup) {t} (ht : t ∈ bare es) : ∃ e ∈ es, e.2 = t ∧ valV (dEnds es) (Sum.inr (tx t.1) : Key) = some (V.ref e.1) := by
  unfold bare at ht
  obtain ⟨e, he, rfl⟩ := List.mem_map.mp ht
  obtain ⟨i, hi⟩ := List.getElem?_of_mem he
  exact ⟨e, he, rfl, by rw [ends_get, row_own nd hi]; rfl⟩
theorem Pl.mut {Hk H : Hp} {p x : Addr} {n : Nat} {o : HO} (h : Pl Hk p n H) (hx : Hk x = none) (xp : x ≠ p) : Pl Hk p n (upd H x o) := by
  refine ⟨h.no, Ex.mut h.ex hx, ?_⟩
  obtain ⟨a', b', c', w1, w2⟩ := h.at_
  exact ⟨a', b', c', by rw [upd_ne xp.symm]; exact w1, w2⟩
variable {K : PySem.W.Frag}
theorem ev_ends {σ : L2.St} {H : Hp} {d : Addr} {es : List Row} {td ti : TE} {t : List Nat × List Nat × List Nat} {j : Nat} {l : List Nat} (nd : (laneNames es).Nodup) (hd : H d = some (.dK (dEnds es))) (he : ∀ e ∈ es, EndAt H e) (ht : t ∈ bare es) (h1 : Ev td σ H (.ref d)) (h2 : Ev ti σ H (.str (tx t.1))) (hj : ([V.str (tx t.2.1), V.str (tx t.2.2)])[j]? = some (.str (tx l))) :
    Ev (tOp (rIxT K) (tDGet td ti) (tC (.int (j : Nat)))) σ H (.str (tx l)) := by
  obtain ⟨e, hm, rfl, hv⟩ := ends_look nd ht
  exact ev_op (ev_dget h1 h2 (by rw [← hv]; exact DGet.k (k := (Sum.inr (tx e.2.1) : Key)) hd)) ev_c (rv_ixT (st_of (he e hm)) (at_of rfl hj))
theorem mem_inner {bs : Bare} {B : List (List Nat)} {l : List Nat} : l ∈ inner bs B ↔ ∃ t ∈ bs, t.1 = l ∧ t.2.1 ∈ B ∧ t.2.2 ∈ B := by
  unfold inner insideB
  constructor
  · intro h
    obtain ⟨t, ht, rfl⟩ := List.mem_map.mp h
    have h1 := List.mem_filter.mp ht
    rw [Bool.and_eq_true, decide_eq_true_iff, decide_eq_true_iff] at h1
    exact ⟨t, h1.1, rfl, h1.2.1, h1.2.2⟩
  · rintro ⟨t, ht, rfl, h1, h2⟩
    exact List.mem_map.mpr ⟨t, List.mem_filter.mpr ⟨ht, by rw [decide_eq_true h1, decide_eq_true h2]; rfl⟩, rfl⟩
theorem bare_row {ps : List (List Nat)} {rs : List Row} {t} (RO : RowsOk ps rs) (ht : t ∈ bare rs) : nam t.1 ∧ t.2.1 ∈ ps ∧ t.2.2 ∈ ps := by
  unfold bare at ht
  obtain ⟨r, hr, rfl⟩ := List.mem_map.mp ht
  exact ⟨RO.1.1 _ (List.mem_map_of_mem (f := fun r : Row => r.2.1) hr), RO.2 r hr⟩
theorem bare_own {ps : List (List Nat)} {rs : List Row} {t u} (RO : RowsOk ps rs) (ht : t ∈ bare rs) (hu : u ∈ bare rs) (h : t.1 = u.1) : t = u := by
  obtain ⟨i, hi⟩ := List.getElem?_of_mem ht
  obtain ⟨j, hj⟩ := List.getElem?_of_mem hu
  have hn : ((bare rs).map fun x => x.1).Nodup := by
    have := RO.1.2
    unfold bare
    rw [List.map_map]
    exact this
  have h1 : ((bare rs).map fun x => x.1)[i]? = some t.1 := by rw [List.getElem?_map, hi]; rfl
  have h2 : ((bare rs).map fun x => x.1)[j]? = some t.1 := by rw [List.getElem?_map, hj, h]; rfl
  have := nd_ix hn h1 h2
  rw [this, hj] at hi
  exact (Option.some.inj hi).symm
def names (bs : Bare) : List (List Nat) := bs.map fun t => t.1
theorem names_rows (es : List Row) : names (bare es) = laneNames es := by
  unfold names bare laneNames
  rw [List.map_map]
  rfl
theorem et_notinN {ty td : TE} {σ : L2.St} {H : Hp} {y : V} {b : Bool} (h1 : Ev ty σ H y) (h2 : ∀ H1, Ex H H1 → ∀ Q : VK, (∀ d o H2, Ex H1 H2 → DGet H2 d y o → o.isSome = b → Q (.ref d) H2) → td σ H1 Q) : EvT (tB (tDNotIn ty td)) σ H (!b) := fun H1 e Q q =>
  h1 H1 e _ fun H2 e2 => h2 H2 (e.trans e2) _ fun d o H3 e3 hg hb => ⟨d, o, rfl, hg, _, rfl, by rw [hb]; exact q H3 (e2.trans e3)⟩
abbrev sPt : Stmt := top 100
abbrev nPt : List Str := ["_law_parts", "_law_lane", "_law_ends_here", "_law_start", "_law_end", "_law_ways_here", "_law_posts", "_law_post", "_law_row"]
/-- a part told: its posts, its inner lanes -/
structure PartL (H : Hp) (f x y : Addr) (B L : List (List Nat)) : Prop where
  at_ : H f = some (.lst [.ref x, .ref y])
  posts : H x = some (.lst (vtx B))
  lanes : H y = some (.lst (vtx L))
theorem PartL.mono {H H' : Hp} {f x y : Addr} {B L : List (List Nat)} (e : Ex H H') (h : PartL H f x y B L) : PartL H' f x y B L := ⟨e _ _ h.at_, e _ _ h.posts, e _ _ h.lanes⟩
def spPt : Sp := fun vs H Q _ => ∃ (q a b : Addr) (ps : List (List Nat)) (rs : List Row) (t : List Nat × List Nat × List Nat), vs = [.ref q, .str (tx t.1)] ∧ Told H q a b ps rs ∧ Names ps ∧ RowsOk ps rs ∧ ps.length ≤ 30 ∧ rs.length ≤ 30 ∧ t ∈ bare rs ∧
  ((Reach (Edge (bare rs)) t.2.2 t.2.1 ∧ ∀ f x y H', Ex H H' → H f = none → H x = none → H y = none → PartL H' f x y (scc (bare rs) ps t.2.1) (inner (bare rs) (scc (bare rs) ps t.2.1)) → Q (.ref f) H') ∨
   (¬ Reach (Edge (bare rs)) t.2.2 t.2.1 ∧ ∀ H', Ex H H' → Q .non H'))
section
variable {P : Program} {w : World} {K : PySem.W.Frag} {mg : Str → Option Value} {base : Heap}
theorem scPt : FnScope nPt ["_law_parts", "_law_lane"] (defScope sPt) := ⟨rfl, rfl, rfl, by decide +kernel, rfl, by decide +kernel, by decide +kernel⟩
theorem ok_pt {f : Addr} {fd : FuncData} (F : FnP K "_law_part" sPt f fd) (TEn : Fu P w K mg base L2.CX0 1 "_law_ends" spEn) (TWy : Fu P w K mg base L2.CX0 1 "_law_ways" spWy) : FnOk P w K mg base L2.CX0 2 f fd ["_law_parts", "_law_lane"] spPt := by
  refine F.ok (CX := L2.CX0) scPt (fun vs H Q E h => ?_) (fun cdv A outer s H vs Q E hr h => ?_)
  · obtain ⟨q, a, b, ps, rs, t, rfl, _⟩ := h
    rfl
  · refine ⟨_, (pss_cons (ps_set (i := 2) scPt.nd rfl (by first | exact Or.inl rfl | exact Or.inr rfl) (pe_fu TEn hr (by rfl) (pa_cons (pv 0) pa_nil)))
      (pss_cons (ps_asg (pe_dget (Nat.lt_of_le_of_lt (Nat.add_le_add_left (show 1 ≤ 64 by decide) _) hr.units) (pv 2) (pv 1) (fun _ _ => rfl)) (pg_tup rfl (pgs_cons (pg_name (i := 3) scPt.nd rfl (by first | exact Or.inl rfl | exact Or.inr rfl)) (pgs_cons (pg_name (i := 4) scPt.nd rfl (by first | exact Or.inl rfl | exact Or.inr rfl)) pgs_nil))))
      (pss_cons (ps_set (i := 5) scPt.nd rfl (by first | exact Or.inl rfl | exact Or.inr rfl) (pe_fu TWy hr (by rfl) (pa_cons (pv 0) (pa_cons (pv 3) pa_nil))))
      (pss_cons (ps_set (i := 6) scPt.nd rfl (by first | exact Or.inl rfl | exact Or.inr rfl) (pe_lc (own := [("_law_post", 7)]) (g := (gName 7)) (tt := (tAnd (tB (tDIn (tVar 7) (tVar 5))) (tB (tDIn (tVar 3) (tFu spWy (fun _ => nil0) (tCons (tVar 0) (tCons (tVar 7) tNil))))))) (te := (tVar 7)) rfl scPt.nd (pi_list (pe_ix ix_list (pv 0) pe_int fun _ _ => rfl)) (blkOk_by (own := [("_law_post", 7)]) (N := nPt) (sc := defScope sPt) (by decide +kernel)) (fun _ _ _ _ _ => (pg_name (i := 7) scPt.nd rfl (by first | exact Or.inl rfl | exact Or.inr rfl))) (fun _ _ _ _ _ => (pts_one (PW.pt (pw_and (pt_cmp (pc_din (Nat.lt_of_le_of_lt (Nat.add_le_add_left (show 1 ≤ 64 by decide) _) hr.units) (pv 7) (pv 5))) (pw_and1 (pt_cmp (pc_din (Nat.lt_of_le_of_lt (Nat.add_le_add_left (show 1 ≤ 64 by decide) _) hr.units) (pv 3) (pe_fu TWy hr (by rfl) (pa_cons (pv 0) (pa_cons (pv 7) pa_nil)))))))))) (fun _ _ _ _ _ => (pv 7))))
      (pss_cons (ps_if (pt_cmp (pc_dnotin (Nat.lt_of_le_of_lt (Nat.add_le_add_left (show 1 ≤ 64 by decide) _) hr.units) (pv 3) (pe_fu TWy hr (by rfl) (pa_cons (pv 0) (pa_cons (pv 4) pa_nil))))) (pss_one (ps_ret pe_non)) pss_nil)
      (pss_one (ps_ret (pe_lst (pa_cons (pv 6) (pa_cons (pe_lc (own := [("_law_row", 8)]) (g := (gName 8)) (tt := (tAnd (tTest (tOp (rIn K false) (tOp (rIxT K) (tVar 8) (tC (.int 1))) (tVar 6))) (tTest (tOp (rIn K false) (tOp (rIxT K) (tVar 8) (tC (.int 2))) (tVar 6))))) (te := (tOp (rIxT K) (tVar 8) (tC (.int 0)))) rfl scPt.nd (pi_list (pe_ix ix_list (pv 0) pe_int fun _ _ => rfl)) (blkOk_by (own := [("_law_row", 8)]) (N := nPt) (sc := defScope sPt) (by decide +kernel)) (fun _ _ _ _ _ => (pg_name (i := 8) scPt.nd rfl (by first | exact Or.inl rfl | exact Or.inr rfl))) (fun _ _ _ _ _ => (pts_one (PW.pt (pw_and (pt_cmpR op_in_seq (pe_ix ix_tup (pv 8) pe_int fun _ _ => rfl) (pv 6) rfl) (pw_and1 (pt_cmpR op_in_seq (pe_ix ix_tup (pv 8) pe_int fun _ _ => rfl) (pv 6) rfl)))))) (fun _ _ _ _ _ => (pe_ix ix_tup (pv 8) pe_int fun _ _ => rfl))) pa_nil)))))))))), ?_⟩
    obtain ⟨q, pa, pb, ps, rs, t, rfl, T, NA, RO, hp30, hr30, ht, k⟩ := h
    refine s_seq ?_
    refine ⟨_, rfl, q, pa, pb, ps, rs, rfl, T, RO.1.2, by omega, fun d es H1 e1 nd0 hd hbe hes => ?_⟩
    have nde : (laneNames es).Nodup := by rw [bare_names hbe]; exact RO.1.2
    have T1 := T.mono e1
    obtain ⟨ee, hee, hee2, hval⟩ := ends_look nde (t := t) (by rw [hbe]; exact ht)
    dsimp only
    refine s_seq ?_
    refine (ev_dget (ev_var rfl) (ev_var rfl) (by rw [← hval]; exact DGet.k (k := (Sum.inr (tx t.1) : Key)) hd) : Ev (tDGet (tVar 2) (tVar 1)) _ H1 (.ref ee.1)) H1 (Ex.refl _) _ fun H2 e2 => ?_
    have hEnd := hes ee hee
    unfold EndAt at hEnd
    rw [hee2] at hEnd
    refine ⟨ee.1, _, rfl, st_of (e2 _ _ hEnd), rfl, _, _, rfl, _, _, rfl, rfl, ?_⟩
    have T2 := T1.mono e2
    obtain ⟨nt1, ts1, ts2⟩ := bare_row RO ht
    dsimp only
    refine s_seq ?_
    refine ⟨_, rfl, _, rfl, q, pa, pb, ps, rs, t.2.1, rfl, T2, RO, hp30, hr30, ts1, fun dw xa H3 e3 nd3 Wa => ?_⟩
    have T3 := T2.mono e3
    dsimp only
    refine s_seq ?_
    refine s_asgL (xs := vtx (scc (bare rs) ps t.2.1)) (el_lcA (ys := ps) (g := fun b => V.str (tx b)) (bothB (bare rs) t.2.1) (fun b => V.str (tx b)) (ev_ixA (i := 0) (ev_var rfl) (sq_of T3.at_) rfl) (sq_of T3.posts) (by omega) (fun x => rfl) (fun b H6 e6 hb => ?_) (fun b H6 e6 _ _ => ev_var rfl)) fun pB H4 nB e4 hB => ?_
    · refine et_is (et_and (et_in (d := dw) (o := valV (dWays xa) (Sum.inr (tx b) : Key)) (ev_var rfl) (ev_var rfl) (DGet.k (k := (Sum.inr (tx b) : Key)) (Wa.mono e6).dct)) (fun _ => et_inN (b := reB (bare rs) b t.2.1) (ev_var rfl) fun H7 e7 Q7 q7 => ?_)) ?_
      · exact ⟨_, rfl, _, rfl, q, pa, pb, ps, rs, b, rfl, T3.mono (e6.trans e7), RO, hp30, hr30, hb, fun d' xb H8 e8 _ Wb => q7 d' _ H8 e8 (DGet.k (k := (Sum.inr (tx t.2.1) : Key)) Wb.dct) (ways_re Wb t.2.1)⟩
      · rw [ways_re Wa]
        rfl
    have T4 := T3.mono e4
    dsimp only
    refine s_seq ?_
    refine s_if (et_notinN (b := reB (bare rs) t.2.2 t.2.1) (ev_var rfl) fun H7 e7 Q7 q7 => ?_) (fun hb H5 e5 => ?_) (fun hb H5 e5 => ?_)
    · exact ⟨_, rfl, _, rfl, q, pa, pb, ps, rs, t.2.2, rfl, T4.mono e7, RO, hp30, hr30, ts2, fun d' xb H8 e8 _ Wb => q7 d' _ H8 e8 (DGet.k (k := (Sum.inr (tx t.2.1) : Key)) Wb.dct) (ways_re Wb t.2.1)⟩
    · have hn : reB (bare rs) t.2.2 t.2.1 = false := by
        cases z : reB (bare rs) t.2.2 t.2.1 with
        | false => rfl
        | true => rw [z] at hb; cases hb
      refine s_ret (v := .non) ev_c fun H6 e6 => ?_
      rcases k with ⟨hr, _⟩ | ⟨_, k⟩
      · rw [reB_iff.mpr hr] at hn
        cases hn
      · exact k H6 ((e1.trans (e2.trans (e3.trans e4))).trans (e5.trans e6))
    · have hn : reB (bare rs) t.2.2 t.2.1 = true := by
        cases z : reB (bare rs) t.2.2 t.2.1 with
        | true => rfl
        | false => rw [z] at hb; cases hb
      have T5 := T4.mono e5
      have hB5 := e5 _ _ hB
      have hL : EvL (tLc (iList K (tOp (rIxL K) (tVar 0) (tC (.int 1)))) (gName 8) (tAnd (tTest (tOp (rIn K false) (tOp (rIxT K) (tVar 8) (tC (.int 1))) (tVar 6))) (tTest (tOp (rIn K false) (tOp (rIxT K) (tVar 8) (tC (.int 2))) (tVar 6)))) (tOp (rIxT K) (tVar 8) (tC (.int 0))) [8]) [some (.ref q), some (.str (tx t.1)), some (.ref d), some (.str (tx t.2.1)), some (.str (tx t.2.2)), some (.ref dw), some (.ref pB), none, none] H5 (vtx (inner (bare rs) (scc (bare rs) ps t.2.1))) := by
        rw [← inner_rows]
        refine el_lcA (ys := rs) (g := fun r : Row => V.ref r.1) (fun r => insideB (scc (bare rs) ps t.2.1) r.2) (fun r => V.str (tx r.2.1)) (ev_ixA (i := 1) (ev_var rfl) (sq_of T5.at_) rfl) (sq_of T5.rows) (by omega) (fun x => rfl) (fun r H9 e9 hr9 => ?_) (fun r H9 e9 hr9 _ => ?_)
        · have ht9 := st_of (K := K) (e9 _ _ (T5.row r hr9))
          refine et_is (et_and (et_test (ev_op (ev_op (ev_var rfl) ev_c (rv_ixT ht9 (at_of (j := 1) rfl rfl))) (ev_var rfl) (rv_isL (sq_of (e9 _ _ hB5)) rfl (flat_tx _)))) (fun _ => et_test (ev_op (ev_op (ev_var rfl) ev_c (rv_ixT ht9 (at_of (j := 2) rfl rfl))) (ev_var rfl) (rv_isL (sq_of (e9 _ _ hB5)) rfl (flat_tx _))))) ?_
          rw [inV_vtx, inV_vtx]
          rfl
        · exact ev_op (ev_var rfl) ev_c (rv_ixT (st_of (K := K) (e9 _ _ (T5.row r hr9))) (at_of (j := 0) rfl rfl))
      refine ⟨_, rfl, ?_⟩
      refine hL H5 (Ex.refl _) _ fun y H6 ny e6 hy => ⟨sz_of (by show 2 ≤ 100000; decide), fun f nf => ?_⟩
      have eA := e1.trans (e2.trans e3)
      rcases k with ⟨_, k⟩ | ⟨hr, _⟩
      · refine k f pB y _ ((eA.trans (e4.trans (e5.trans e6))).trans (Ex.new nf)) (fresh_back (eA.trans (e4.trans (e5.trans e6))) nf) (fresh_back eA nB) (fresh_back (eA.trans (e4.trans e5)) ny) ⟨upd_same, (Ex.new nf) _ _ (e6 _ _ hB5), (Ex.new nf) _ _ hy⟩
      · exact absurd (reB_iff.mp hn) hr
end
end K17

set_option Elab.async false
set_option linter.all false
set_option maxRecDepth 100000
set_option maxHeartbeats 4000000
/-! The part with all wanted lanes, as mathematics. -/
namespace K17
open PySem PySem.Spec PyProof.Rows L2 Vl Evl Vp Vr Vx2 Vlk Vda Vc Ve Vrc Vwy
theorem scc_eq {bs : Bare} {ps : List (List Nat)} {a b : List Nat} (h : bothB bs a b = true) : scc bs ps a = scc bs ps b := by
  unfold scc
  congr 1
  funext c
  refine Bool.eq_iff_iff.mpr ⟨fun x => both_trans (by rw [both_symm]; exact h) x, fun x => both_trans h x⟩
def holdsAll (ws : List (List Nat)) (p : Part) : Bool := ws.all fun l => decide (l ∈ p.2)
theorem holds_iff {ws : List (List Nat)} {p : Part} : holdsAll ws p = true ↔ ∀ l ∈ ws, l ∈ p.2 := by
  unfold holdsAll
  rw [List.all_eq_true]
  exact ⟨fun h l hl => of_decide_eq_true (h l hl), fun h l hl => decide_eq_true (h l hl)⟩
noncomputable def partW (bs : Bare) (ps ws : List (List Nat)) : Option Part := (partsIn bs ps ps).find? (holdsAll ws)
/-- the part of a post -/
noncomputable def partP (bs : Bare) (ps : List (List Nat)) (a : List Nat) : Part := (scc bs ps a, inner bs (scc bs ps a))
theorem mem_parts {bs : Bare} {ps qs : List (List Nat)} {p : Part} (h : p ∈ partsIn bs ps qs) : ∃ a ∈ qs, (scc bs ps a).head? = some a ∧ p = partP bs ps a := by
  unfold partsIn at h
  obtain ⟨a, ha, hp⟩ := List.mem_filterMap.mp h
  unfold pick at hp
  by_cases hc : (scc bs ps a).head? = some a ∧ inner bs (scc bs ps a) ≠ []
  · rw [if_pos hc] at hp
    exact ⟨a, ha, hc.1, (Option.some.inj hp).symm⟩
  · rw [if_neg hc] at hp
    cases hp
theorem part_own {ps : List (List Nat)} {rs : List Row} {t : List Nat × List Nat × List Nat} {p : Part} (RO : RowsOk ps rs) (ht : t ∈ bare rs) (hp : p ∈ partsIn (bare rs) ps ps) (hl : t.1 ∈ p.2) :
    p = partP (bare rs) ps t.2.1 ∧ Reach (Edge (bare rs)) t.2.2 t.2.1 := by
  obtain ⟨a, ha, _, rfl⟩ := mem_parts hp
  obtain ⟨u, hu, hut, h1, h2⟩ := mem_inner.mp hl
  obtain rfl : u = t := bare_own RO hu ht hut
  have b1 := (List.mem_filter.mp h1).2
  have b2 := (List.mem_filter.mp h2).2
  refine ⟨?_, ((both_iff.mp b2).2.trans (both_iff.mp b1).1)⟩
  unfold partP
  rw [scc_eq b1]
theorem part_has {ps : List (List Nat)} {rs : List Row} {t : List Nat × List Nat × List Nat} (RO : RowsOk ps rs) (ht : t ∈ bare rs) (hr : Reach (Edge (bare rs)) t.2.2 t.2.1) :
    partP (bare rs) ps t.2.1 ∈ partsIn (bare rs) ps ps ∧ t.1 ∈ (partP (bare rs) ps t.2.1).2 := by
  obtain ⟨_, hs, he⟩ := bare_row RO ht
  have e1 : Edge (bare rs) t.2.1 t.2.2 := ⟨t, ht, rfl, rfl⟩
  have hsm : t.2.1 ∈ scc (bare rs) ps t.2.1 := List.mem_filter.mpr ⟨hs, both_refl⟩
  have hem : t.2.2 ∈ scc (bare rs) ps t.2.1 := List.mem_filter.mpr ⟨he, both_iff.mpr ⟨.step .refl e1, hr⟩⟩
  have hin : t.1 ∈ inner (bare rs) (scc (bare rs) ps t.2.1) := mem_inner.mpr ⟨t, ht, rfl, hsm, hem⟩
  refine ⟨?_, hin⟩
  obtain ⟨h, r, hh⟩ := List.exists_cons_of_ne_nil (List.ne_nil_of_mem hsm)
  have hhm : h ∈ scc (bare rs) ps t.2.1 := by rw [hh]; exact List.mem_cons_self
  have hh2 := List.mem_filter.mp hhm
  have hse : scc (bare rs) ps h = scc (bare rs) ps t.2.1 := (scc_eq hh2.2).symm
  unfold partsIn
  refine List.mem_filterMap.mpr ⟨h, hh2.1, ?_⟩
  unfold pick
  rw [hse, if_pos ⟨by rw [hh]; rfl, List.ne_nil_of_mem hin⟩]
  rfl
theorem partW_none {ps ws : List (List Nat)} {rs : List Row} {t : List Nat × List Nat × List Nat} (RO : RowsOk ps rs) (ht : t ∈ bare rs) (hl : t.1 ∈ ws) (hr : ¬ Reach (Edge (bare rs)) t.2.2 t.2.1) : partW (bare rs) ps ws = none := by
  unfold partW
  refine List.find?_eq_none.mpr fun p hp z => hr (part_own RO ht hp (holds_iff.mp z _ hl)).2
theorem partW_out {ps ws : List (List Nat)} {rs : List Row} {t : List Nat × List Nat × List Nat} (RO : RowsOk ps rs) (ht : t ∈ bare rs) (hl : t.1 ∈ ws) (hh : holdsAll ws (partP (bare rs) ps t.2.1) = false) : partW (bare rs) ps ws = none := by
  unfold partW
  refine List.find?_eq_none.mpr fun p hp z => ?_
  rw [(part_own RO ht hp (holds_iff.mp z _ hl)).1, hh] at z
  cases z
theorem partW_some {ps ws : List (List Nat)} {rs : List Row} {t : List Nat × List Nat × List Nat} (RO : RowsOk ps rs) (ht : t ∈ bare rs) (hl : t.1 ∈ ws) (hr : Reach (Edge (bare rs)) t.2.2 t.2.1) (hh : holdsAll ws (partP (bare rs) ps t.2.1) = true) : partW (bare rs) ps ws = some (partP (bare rs) ps t.2.1) := by
  cases h : partW (bare rs) ps ws with
  | none =>
    unfold partW at h
    exact absurd hh (List.find?_eq_none.mp h _ (part_has RO ht hr).1)
  | some p =>
    unfold partW at h
    have h1 := List.find?_some h
    have h2 := List.mem_of_find?_eq_some h
    rw [(part_own RO ht h2 (holds_iff.mp h1 _ hl)).1]
theorem partW_same {bs : Bare} {ps ws ws' : List (List Nat)} (h : ∀ l, l ∈ ws ↔ l ∈ ws') : partW bs ps ws = partW bs ps ws' := by
  unfold partW
  congr 1
  funext p
  refine Bool.eq_iff_iff.mpr ?_
  rw [holds_iff, holds_iff]
  exact ⟨fun z l hl => z l ((h l).mpr hl), fun z l hl => z l ((h l).mp hl)⟩
/-- the wanted lanes in the order of the net -/
def inOrder (bs : Bare) (ws : List (List Nat)) : List (List Nat) := (names bs).filter fun l => decide (l ∈ ws)
theorem mem_inOrder {bs : Bare} {ws : List (List Nat)} (h : ∀ l ∈ ws, l ∈ names bs) (l : List Nat) : l ∈ inOrder bs ws ↔ l ∈ ws := by
  unfold inOrder
  rw [List.mem_filter, decide_eq_true_iff]
  exact ⟨fun z => z.2, fun z => ⟨h l z, z⟩⟩
end K17

set_option Elab.async false
set_option linter.all false
set_option maxRecDepth 100000
set_option maxHeartbeats 2000000
/-! C(..) of an own class whose __init__ may raise. -/
namespace Vnx
open PySem PySem.Spec PyProof.Rows L2 Vl Evl Vc
section
variable {X : Cx} {k j : Nat} {C : Addr} {sp : Sp} {E : L2.St → XK} {x : Str} {p pos : Pos} {e : Expr} {es : List Expr} {t : TA}
theorem make_at {pins : List (Addr × Obj)} {st : L2.St} {G : Hp} {sh : Shared} {R : VK} {vals : List Value} {ws : List V} {f : Addr} {fd : FuncData} {pars : List Str} (M : Mk X.K C f)
    (F : FnOk X.prog X.w X.K X.mg X.base (L2.CX X.prog X.w) k f fd pars sp) (room : Room (k + 1) X.A) (bd : L2.Binds X.K fd pars []) (px : PassesAt (L2.CX X.prog X.w) X st (E st)) (J : Inv X pins st G sh) (rv : Vals ws vals)
    (todo : ∀ o d, G o = none → G d = none → d ≠ o → sp (.ref o :: ws) (upd (upd G d (.own o)) o (.ins C d [])) (fun v G2 => v = .non ∧ R (.ref o) G2) (E st)) :
    wpAny (model X.prog X.w) X.A (call (.ref C) vals) (EP X pins st R) X.xe sh := by
  have size0 := J.hok.fresh (Nat.le_refl _)
  have size1 := J.hok.fresh (Nat.le_succ _)
  have now := todo (sh.heap.objs.size + 1) sh.heap.objs.size size1 size0 (Nat.ne_of_lt (Nat.lt_succ_self _))
  have J2 := Inv.made (C := C) J
  have all : Vals (V.ref (sh.heap.objs.size + 1) :: ws) (Value.ref (sh.heap.objs.size + 1) :: vals) := .cons rfl rv
  have len : (Value.ref (sh.heap.objs.size + 1) :: vals ++ []).length = pars.length := by
    rw [List.append_nil, ← all.length]
    exact F.len _ _ _ _ now
  have bnd := bd _ (Value.ref (sh.heap.objs.size + 1) :: vals) J2.kIn len
  rw [List.append_nil] at bnd
  have ran := F.run _ X.stack _ _ ⟨Value.ref (sh.heap.objs.size + 1) :: vals, []⟩ (Value.ref (sh.heap.objs.size + 1) :: vals) _ _ (E st) (room.make C vals []) (J2.env0.make C vals []) bnd all now
  refine wpAny_call (make_map (f := f) J.kIn M.makes M.init (beq_iff_eq.mp M.fn) (codeAny_mono ran fun r s' got => ?_))
  match r, got with
  | .error err, got => exact px pins _ _ err s' J2 got
  | .ok (.ret u), got =>
    obtain ⟨v, G', J3, rv', ev, q3⟩ := J2.after got
    subst ev
    exact ⟨rv', ⟨V.ref (sh.heap.objs.size + 1), G', J3, rfl, q3⟩⟩
  | .ok .next, got => exact got.elim
  | .ok .brk, got => exact got.elim
  | .ok .cont, got => exact got.elim
theorem pe_nwX (T : Nw X.prog X.w X.K X.mg X.base C (L2.CX X.prog X.w) k x sp) (room : Room j X.A) (gl : Gl X x) (px : ∀ st, PassesAt (L2.CX X.prog X.w) X st (E st)) (args : PA X (e :: es) t) (hk : k + 1 ≤ j := by decide) (dbg : (x == ("__debug__" : Str)) = false := by decide)
    (stars : starEach (e :: es) X.env = (false, eval e X.env) :: starEach es X.env := by rfl) (plain : (backTo pos (starEach es X.env)).any (·.1) = false := by rfl) : PE X (.Call (.Name x p) (e :: es) [] pos) (tNw C sp E t) := by
  obtain ⟨f, fd, pars, F, M, bd, gC⟩ := T.ex
  refine ⟨fun pins sh st G R J todo => ?_⟩
  refine wpAny_Call_Name_kw (ld_glob J gl gC ?_ dbg)
  have got := args.run pos pins sh st G _ J todo
  refine PySem.W.callWith_K (h₀ := X.base) J.ok.mod.kin M.kp (thn got fun vals s1 ⟨ws, G1, J1, rv, q⟩ => ⟨J1.kIn, make_at M F (room.mono hk) bd (px st) J1 rv q⟩) stars plain
end
end Vnx

set_option Elab.async false
set_option linter.all false
set_option maxRecDepth 100000
set_option maxHeartbeats 2000000
/-! bool(o) of an own class that has __bool__. -/
namespace Vbo
open PySem PySem.Spec PyProof.Rows
section
variable {prog : Program} {w : World} {A : Around} {E : Value → Shared → Prop} {s : Shared}
theorem plain_bool_new : plainId "bool.__new__" = true := by decide +kernel
theorem code_bool_own {o : Addr} {Q₁ : Value → Shared → Prop} (h : wpAny (model prog w) A.in1 (truthy (.ref o)) (fun b s' => Q₁ (.bool b) s') E s) :
    codeAny (model prog w) A (.call (.builtin "bool.__new__") ⟨[.type "bool", .ref o], []⟩) (wants Q₁ E) s := by
  refine codeAny_of_tree ?_
  show wpAny _ A.in1 (do checkBuiltinCall "bool.__new__" ⟨[.type "bool", .ref o], []⟩; again (.builtin "bool.__new__" ⟨[.type "bool", .ref o], []⟩)) _ _ s
  refine wpAny_bind (wpAny_of_eq (F.newCall_bool_1 _) (wpAny_pure ⟨plainId_quiet plain_bool_new _, codeAny_builtin F.entry_bool_new ?_⟩))
  rw [Around.under_plainId plain_bool_new _]
  have f1 := F.conv_sub_bool
  unfold Builtin.«bool.__new__»
  have ht : ∀ (Q : Bool → Shared → Prop) (E' : Value → Shared → Prop), (∀ b s', Q₁ (.bool b) s' → Q b s') → (∀ e s', E e s' → E' e s') → wpAny (model prog w) A.in1 (truthy (.ref o)) Q E' s := fun Q E' h1 h2 => wpAny_mono h h1 h2
  repeat (any_goals (first | assumption | (with_reducible refine ht _ _ ?_ ?_) | wp_step))
  · exact fun b s' h => wpAny_pure h
  · exact fun e s' h => h
theorem call_bool_own {o : Addr} {Q : Value → Shared → Prop} (h : wpAny (model prog w) A.in1.in1 (truthy (.ref o)) (fun b s' => Q (.bool b) s') E s) : wpAny (model prog w) A (call (.type "bool") [.ref o]) Q E s := by
  refine callType_codes (Q₁ := fun obj s₁ => (∃ b, obj = .bool b) ∧ Q obj s₁) F.called_bool (F.typeCall_bool_1 _) F.entry_object_init
    (code_bool_own (A := A.in1) (wpAny_mono h (fun b s' z => ⟨⟨b, rfl⟩, z⟩) fun _ _ z => z)) fun obj s₁ h₁ => ?_
  obtain ⟨⟨b, rfl⟩, hq⟩ := h₁
  have ht : s₁.TypeIs (.bool b) "bool" := by first | exact rfl | exact typeIs_bool _ _ | trivial
  exact ⟨ht, F.args_object_init_2 _ _, object_init_meets F.called_bool.init.lookup F.called_bool.made (by decide) prog w A.in1 _ s₁ ⟨ht, rfl, hq⟩⟩
end
section
open L2 Vo Vc
variable {X : Cx} {C : Addr} {j k : Nat} {sp : Sp}
/-- what bool(o) asks -/
def rBool (C : Addr) (sp : Sp) : List V → Hp → VK → Prop := fun xs H Q => ∃ o dx fs, xs = [.ref o] ∧ H o = some (.ins C dx fs) ∧ sp [.ref o] H (fun v H1 => ∃ b, v = .bl b ∧ Q (.bl b) H1) nil0
theorem call_boolM (T : Mo X.prog X.w X.K X.mg X.base C L2.CX0 k "__bool__" sp) (hr : Room j X.A) (hk : k + 2 ≤ j := by decide) : CallR X (.type "bool") (rBool C sp) := by
  obtain ⟨f, fd, ps, F, hm, hb⟩ := T.ex
  intro pins s σ H xs us Q I r h
  obtain ⟨o, dx, fs, rfl, eo, qs⟩ := h
  obtain ⟨u, rfl, rx⟩ := vals1 r
  obtain rfl : u = Value.ref o := rx
  obtain ⟨ob, od, J⟩ := inst_at I eo
  obtain ⟨m, fr⟩ := I.fr
  refine call_bool_own (PySem.W.truthy_K fr I.ok.mod.kin J hm.at_ hm.fn ?_)
  have hl : [Value.ref o].length = ps.length := (F.len _ _ _ _ qs)
  have b := hb s [Value.ref o] I.kIn (by rw [List.append_nil]; exact hl)
  rw [List.append_nil] at b
  have run := F.run X.A.in1.in1 X.stack s H ⟨[Value.ref o], []⟩ [Value.ref o] [V.ref o] _ nil0 ((hr.mono hk).in1).in1 I.env0.in1.in1 b (Paired.cons (show RelV (V.ref o) (Value.ref o) from rfl) .nil) qs
  refine wpAny_call (codeAny_mono run ?_)
  intro z s' hq
  cases z with
  | error e => exact hq.elim
  | ok fl =>
    cases fl with
    | ret u =>
      obtain ⟨v1, H1, I1, r1, b, rfl, q2⟩ := I.after hq
      cases r1
      exact ⟨.bl b, H1, I1, rfl, q2⟩
    | next => exact False.elim hq
    | brk => exact False.elim hq
    | cont => exact False.elim hq
end
end Vbo

set_option Elab.async false
set_option linter.all false
/-! What is never come to: any statement, any expression. -/
namespace Vnev
open PySem PySem.Spec PyProof.Rows L2
theorem ps_never {X : Cx} {s : Stmt} : PS X s (fun _ _ _ => False) := ⟨fun _ _ _ _ _ _ h => h.elim⟩
theorem pss_never {X : Cx} {s : List Stmt} : PSs X s (fun _ _ _ => False) := ⟨fun _ _ _ _ _ _ h => h.elim⟩
end Vnev

set_option Elab.async false
set_option linter.all false
set_option maxRecDepth 100000
set_option maxHeartbeats 2000000
/-! raise C(), C an own class without an own __init__. -/
namespace Vx2
open PySem PySem.Spec PyProof.Rows L2 Vl Evl
section
variable {X : Cx} {C : Addr} {bmB : List Value} {B newId initId : String} {x : Str} {p pos : Pos}
theorem pmk_own0 (F : ExcBaseFacts B newId initId bmB) (q : PySem.W.excIn X.K C bmB newId = true) (gC : X.mg x = some (.ref C)) (kC : PySem.W.keepIn X.K (.ref C) = true) (r : Raises X (.ref C)) (hg : Gl X x)
    (hdb : (x == ("__debug__" : Str)) = false := by decide) : PMk X (.Call (.Name x p) [] [] pos) (fun _ H Q => Q (.ref C) none H) := by
  intro pins s σ H Q I h
  refine wpAny_Call_Name_kw (ld_glob I hg gC ?_ hdb)
  refine PySem.W.callWith_K0 I.kIn kC ?_
  obtain ⟨bm, N, nm, qn, bs, hdct, sn, sub, ab, col, dd, k0, k1, k2, k3, k5, mN, hC, hN, hni, T⟩ := exc_obj I.kIn q
  refine wpAny_call_exc_subT F T hC hN hni (fun h' e hm => ?_) (by show 0 ≤ sizeLine; omega)
  exact mk_of I hm r h (I.hok.gone hm.new)
end
/-- what is asked of a class without an own __init__ to be raised -/
structure Err0 (K : PySem.W.Frag) (mg : Str → Option Value) (x : Str) (C : Addr) : Prop where
  q : PySem.W.excIn K C He.veBase "ValueError.__new__" = true
  exC : PySem.W.subIn K (.ref C) (.type "BaseException") = some true
  tyC : PySem.W.typeIn K (.ref C) = some (.type "type")
  kC : PySem.W.keepIn K (.ref C) = true
  g : mg x = some (.ref C)
theorem pmk_err0 {X : Cx} {C : Addr} {x : Str} {p pos : Pos} (h : Err0 X.K X.mg x C) (hg : Gl X x) (hdb : (x == ("__debug__" : Str)) = false := by decide) : PMk X (.Call (.Name x p) [] [] pos) (fun _ H Q => Q (.ref C) none H) :=
  pmk_own0 PySem.F.excBase_ValueError h.q h.g h.kC (raises_own h.exC h.tyC) hg hdb
end Vx2

set_option Elab.async false
set_option linter.all false
/-! The least piece of which a sequence is a multiple; it is the same for all multiples of the sequence. -/
namespace Vq
variable {α : Type}
/-- k times the sequence -/
def rp (k : Nat) (a : List α) : List α := (List.replicate k a).flatten
theorem rp_len (a : List α) : ∀ k, (rp k a).length = k * a.length
  | 0 => by rw [Nat.zero_mul]; rfl
  | k + 1 => by
    unfold rp
    rw [List.replicate_succ, List.flatten_cons, List.length_append, Nat.succ_mul]
    have := rp_len a k
    unfold rp at this
    omega
theorem rp_at (a : List α) : ∀ k i, i < k * a.length → (rp k a)[i]? = a[i % a.length]?
  | 0, i, h => by omega
  | k + 1, i, h => by
    have ih := rp_at a k
    unfold rp at ih ⊢
    rw [List.replicate_succ, List.flatten_cons]
    by_cases hi : i < a.length
    · rw [List.getElem?_append_left hi, Nat.mod_eq_of_lt hi]
    · rw [List.getElem?_append_right (by omega), ih (i - a.length) (by rw [Nat.succ_mul] at h; omega), ← Nat.mod_eq_sub_mod (by omega)]
/-- the sequence gone without end -/
def goes (a : List α) (i : Nat) : Option α := a[i % a.length]?
def Per (f : Nat → Option α) (s : Nat) : Prop := ∀ i, f (i + s) = f i
theorem Per.mul {f : Nat → Option α} {s : Nat} (h : Per f s) : ∀ k i, f (i + s * k) = f i
  | 0, i => by rw [Nat.mul_zero, Nat.add_zero]
  | k + 1, i => by
    rw [Nat.mul_succ, ← Nat.add_assoc, h, h.mul k]
theorem Per.mod {f : Nat → Option α} {s : Nat} (h : Per f s) (i : Nat) : f (i % s) = f i := by
  have := h.mul (i / s) (i % s)
  rw [← this]
  congr 1
  exact Nat.mod_add_div i s
theorem Per.rest {f : Nat → Option α} {a b : Nat} (ha : Per f a) (hb : Per f b) : Per f (b % a) := fun i => by
  rw [← ha.mul (b / a) (i + b % a), Nat.add_assoc, Nat.mod_add_div, hb]
theorem Per.gcd {f : Nat → Option α} (a b : Nat) : Per f a → Per f b → Per f (Nat.gcd a b) := by
  refine Nat.gcd.induction (P := fun a b => Per f a → Per f b → Per f (Nat.gcd a b)) a b (fun n _ hn => ?_) (fun m n hm ih h1 h2 => ?_)
  · rw [Nat.gcd_zero_left]
    exact hn
  · rw [Nat.gcd_rec]
    exact ih (h1.rest h2) h1
theorem per_len (a : List α) : Per (goes a) a.length := fun i => by
  unfold goes
  rw [Nat.add_mod_right]
/-- s lanes, gone again and again, are the sequence -/
def Siz (a : List α) (s : Nat) : Prop := 1 ≤ s ∧ rp (a.length / s) (a.take s) = a
theorem siz_iff {a : List α} {s : Nat} (ha : 1 ≤ a.length) (hs : 1 ≤ s) : Siz a s ↔ s ∣ a.length ∧ Per (goes a) s := by
  constructor
  · rintro ⟨_, h⟩
    have hl := congrArg List.length h
    rw [rp_len, List.length_take] at hl
    have hle : s ≤ a.length := by
      rcases Nat.lt_or_ge a.length s with q | q
      · rw [Nat.div_eq_of_lt q, Nat.zero_mul] at hl
        omega
      · exact q
    rw [Nat.min_eq_left hle] at hl
    have hd : s ∣ a.length := ⟨a.length / s, by rw [Nat.mul_comm]; exact hl.symm⟩
    have at_ : ∀ i, i < a.length → a[i]? = a[i % s]? := fun i hi => by
      have q := rp_at (a.take s) (a.length / s) i (by rw [List.length_take, Nat.min_eq_left hle, hl]; exact hi)
      rw [h, List.length_take, Nat.min_eq_left hle, List.getElem?_take, if_pos (Nat.mod_lt _ hs)] at q
      exact q
    refine ⟨hd, fun i => ?_⟩
    unfold goes
    rw [at_ _ (Nat.mod_lt _ ha), at_ _ (Nat.mod_lt i ha), Nat.mod_mod_of_dvd _ hd, Nat.mod_mod_of_dvd _ hd, Nat.add_mod_right]
  · rintro ⟨hd, hp⟩
    have hle : s ≤ a.length := Nat.le_of_dvd ha hd
    have hl : (a.take s).length = s := by rw [List.length_take, Nat.min_eq_left hle]
    have hm : a.length / s * s = a.length := Nat.div_mul_cancel hd
    refine ⟨hs, List.ext_getElem? fun i => ?_⟩
    by_cases hi : i < a.length
    · rw [rp_at _ _ _ (by rw [hl, hm]; exact hi), hl, List.getElem?_take, if_pos (Nat.mod_lt _ hs)]
      have q := hp.mod i
      unfold goes at q
      rw [Nat.mod_eq_of_lt hi, Nat.mod_eq_of_lt (Nat.lt_of_lt_of_le (Nat.mod_lt _ hs) hle)] at q
      exact q
    · rw [List.getElem?_eq_none (by rw [rp_len, hl, hm]; omega), List.getElem?_eq_none (by omega)]
/-- the least such number -/
def Rt (a : List α) (s : Nat) : Prop := Siz a s ∧ ∀ t, 1 ≤ t → t < s → ¬ Siz a t
theorem Rt.one {a : List α} {s t : Nat} (h : Rt a s) (g : Rt a t) : s = t := by
  rcases Nat.lt_trichotomy s t with q | q | q
  · exact absurd h.1 (g.2 s h.1.1 q)
  · exact q
  · exact absurd g.1 (h.2 t g.1.1 q)
theorem siz_self {a : List α} (ha : 1 ≤ a.length) : Siz a a.length := (siz_iff ha ha).mpr ⟨Nat.dvd_refl _, per_len a⟩
theorem Rt.le {a : List α} {s : Nat} (ha : 1 ≤ a.length) (h : Rt a s) : s ≤ a.length := Nat.le_of_dvd ha ((siz_iff ha h.1.1).mp h.1).1
theorem goes_rp (a : List α) (k : Nat) (hk : 1 ≤ k) (ha : 1 ≤ a.length) (i : Nat) : goes (rp k a) i = goes a i := by
  unfold goes
  have h0 : 0 < k * a.length := Nat.mul_pos hk ha
  rw [rp_at _ _ _ (by rw [rp_len]; exact Nat.mod_lt _ h0), rp_len, Nat.mod_mod_of_dvd _ ⟨k, Nat.mul_comm _ _⟩]
theorem Rt.rp {a : List α} {s k : Nat} (ha : 1 ≤ a.length) (hk : 1 ≤ k) (h : Rt a s) : Rt (rp k a) s := by
  have h0 : 1 ≤ (Vq.rp k a).length := by rw [rp_len]; exact Nat.mul_pos hk ha
  have e : goes (Vq.rp k a) = goes a := funext (goes_rp a k hk ha)
  obtain ⟨hd, hp⟩ := (siz_iff ha h.1.1).mp h.1
  refine ⟨(siz_iff h0 h.1.1).mpr ⟨by rw [rp_len]; exact Nat.dvd_trans hd ⟨k, Nat.mul_comm _ _⟩, by rw [e]; exact hp⟩, fun t ht hts hz => ?_⟩
  obtain ⟨_, hpt⟩ := (siz_iff h0 ht).mp hz
  rw [e] at hpt
  have hg := Per.gcd t a.length hpt (per_len a)
  have g1 : 1 ≤ Nat.gcd t a.length := Nat.gcd_pos_of_pos_left _ ht
  have g2 : Nat.gcd t a.length ≤ t := Nat.gcd_le_left _ ht
  exact h.2 _ g1 (by omega) ((siz_iff ha g1).mpr ⟨Nat.gcd_dvd_right _ _, hg⟩)
theorem rp_take {a : List α} {s k : Nat} (hk : 1 ≤ k) (hs : s ≤ a.length) : (Vq.rp k a).take s = a.take s := by
  obtain ⟨j, rfl⟩ := Nat.exists_eq_add_of_le hk
  rw [Nat.add_comm]
  unfold Vq.rp
  rw [List.replicate_succ, List.flatten_cons, List.take_append_of_le_length hs]
theorem rp_div {a : List α} {s k : Nat} (hd : s ∣ a.length) : (Vq.rp k a).length / s = a.length / s * k := by
  rw [rp_len, Nat.mul_div_assoc _ hd, Nat.mul_comm]
end Vq

set_option Elab.async false
set_option linter.all false
set_option maxRecDepth 100000
set_option maxHeartbeats 4000000
/-! Texts: repeated, cut, joined; the windows of a text that goes round. -/
namespace Vtx
open PySem PySem.Spec PyProof.Rows L2 Vl Evl Vp
theorem fold_rep (b : List Nat) : ∀ (k : Nat) (acc : Array Nat), (List.replicate k b.toArray).foldl (· ++ ·) acc = acc ++ (Vq.rp k b).toArray
  | 0, acc => by
    show acc = acc ++ ([] : List Nat).toArray
    simp
  | k + 1, acc => by
    rw [List.replicate_succ, List.foldl_cons, fold_rep b k]
    unfold Vq.rp
    rw [List.replicate_succ, List.flatten_cons, Array.append_assoc]
    congr 1
    rw [List.append_toArray]
theorem rp_one' {α : Type} (xs : List α) : Vq.rp 1 xs = xs := by
  unfold Vq.rp
  rw [List.replicate_succ, List.replicate_zero, List.flatten_cons, List.flatten_nil, List.append_nil]
theorem mul_tx (l : List Nat) (k : Nat) : Txt.mul (tx l) (k : Int) = tx (Vq.rp k l) := by
  unfold Txt.mul
  by_cases h : (k : Int) < 1
  · rw [if_pos h]
    have : k = 0 := by omega
    subst this
    rfl
  · rw [if_neg h]
    split
    · rename_i hc
      rw [Bool.or_eq_true, beq_iff_eq, beq_iff_eq] at hc
      rcases hc with hc | hc
      · have : k = 1 := by omega
        subst this
        rw [rp_one']
      · have : l = [] := List.eq_nil_of_length_eq_zero (by rw [tx_len] at hc; exact hc)
        subst this
        have : Vq.rp k ([] : List Nat) = [] := List.eq_nil_of_length_eq_zero (by rw [Vq.rp_len]; rfl)
        rw [this]
    · show Str.mk ((List.replicate k l.toArray).foldl (· ++ ·) #[]) = _
      rw [fold_rep]
      show Str.mk (#[] ++ (Vq.rp k l).toArray) = Str.mk (Vq.rp k l).toArray
      rw [Array.empty_append]
def rRepS : R2 := fun x y H Q => ∃ (l : List Nat) (k : Nat), x = .str (tx l) ∧ y = .int (k : Nat) ∧ l.length ≤ 1000 ∧ k ≤ 1000 ∧ Q (.str (tx (Vq.rp k l))) H
section
variable {X : Cx}
def rIxQ (K : PySem.W.Frag) : R2 := fun x y H Q => rIxL K x y H Q ∨ rIxT K x y H Q
theorem ix_seq : IxR X (rIxQ X.K) := by
  intro value slice pins s σ H x y v u Q I rx ry h hs
  exact h.elim (fun h => ix_list value slice pins s σ H x y v u Q I rx ry h hs) (fun h => ix_tup value slice pins s σ H x y v u Q I rx ry h hs)
theorem op_repS : OpR X (binaryOp .Mult) rRepS := by
  intro pins s σ H x y v u Q I rx ry h
  obtain ⟨l, k, rfl, rfl, hl, hk, q⟩ := h
  obtain ⟨t, rfl⟩ := rx
  obtain ⟨t', rfl⟩ := ry
  exact SB.mul (mulOk_of 1000 1000 (by rw [tx_len]; exact hl) (by omega) (by omega) (by omega) (by omega)) fun t2 tk => ⟨.str (tx (Vq.rp k l)), H, I.tok _, ⟨t2, by rw [mul_tx]⟩, q⟩
end
section
variable {K : PySem.W.Frag} {σ : L2.St} {H : Hp} {ta tb te : TE} {l : List Nat}
theorem rv_repS {k : Nat} (hl : l.length ≤ 1000) (hk : k ≤ 1000) : RV rRepS (.str (tx l)) (.int (k : Nat)) H (.str (tx (Vq.rp k l))) := rv_val fun H1 _ Q q => ⟨l, k, rfl, rfl, hl, hk, q⟩
theorem ev_slS {tl th : TO} {lo hi : Option Int} (h : Ev te σ H (.str (tx l))) (h1 : EvO tl σ H lo) (h2 : EvO th σ H hi) (hz : l.length ≤ 100000) : Ev (tSl rSlS te tl th) σ H (.str (cutS (tx l) lo hi)) := fun H1 e Q q =>
  h H1 e _ fun H2 e2 => h1 H2 (e.trans e2) _ fun H3 e3 => h2 H3 ((e.trans e2).trans e3) _ fun H4 e4 => ⟨tx l, rfl, sz_of (by rw [tx_len]; exact hz), q H4 ((e2.trans e3).trans e4)⟩
theorem cut_pq (l : List Nat) (p q : Nat) : cutS (tx l) (some (p : Int)) (some (q : Int)) = tx ((l.drop p).take (q - p)) := by
  unfold cutS
  rw [HT.sIx_nat, HT.sIx_nat]
  show Str.mk (((l.drop (min p l.length)).take (min q l.length - min p l.length)).toArray) = Str.mk _
  congr 2
  by_cases hp : p ≤ l.length
  · rw [Nat.min_eq_left hp]
    by_cases hq : q ≤ l.length
    · rw [Nat.min_eq_left hq]
    · rw [Nat.min_eq_right (by omega)]
      rw [List.take_of_length_le (by rw [List.length_drop]; omega), List.take_of_length_le (by rw [List.length_drop]; omega)]
  · rw [Nat.min_eq_right (show l.length ≤ p by omega), List.drop_eq_nil_of_le (Nat.le_refl _), List.drop_eq_nil_of_le (by omega)]
    simp
theorem cut_last (l : List Nat) (h : 1 ≤ l.length) : cutS (tx l) none (some (-1)) = tx (l.take (l.length - 1)) := by
  unfold cutS
  have e : HT.sIx (tx l).length (tx l).length (some (-1)) = l.length - 1 := by
    rw [tx_len]
    unfold HT.sIx
    simp only
    split <;> omega
  rw [e]
  rfl
theorem cut_one (l : List Nat) : cutS (tx l) (some 1) none = tx (l.drop 1) := tx_cut1 l 1
theorem join_ones (cs : List Nat) : Txt.join Str.empty (cs.map fun c => tx [c]) = tx cs := by
  have go : ∀ (r acc : List Nat), ((r.map fun c => tx [c]).foldl (fun acc p => acc ++ Str.empty.cps ++ p.cps) acc.toArray) = (acc ++ r).toArray := by
    intro r
    induction r with
    | nil => intro acc; rw [List.append_nil]; rfl
    | cons c r ih =>
      intro acc
      rw [List.map_cons, List.foldl_cons]
      have : acc.toArray ++ Str.empty.cps ++ (tx [c]).cps = (acc ++ [c]).toArray := by
        show acc.toArray ++ #[] ++ [c].toArray = _
        rw [Array.append_empty, List.append_toArray]
      rw [this, ih, List.append_assoc]
      rfl
  unfold Txt.join Builtin.Str.glued
  cases cs with
  | nil => rfl
  | cons c r =>
    show Str.mk ((r.map fun c => tx [c]).foldl (fun acc p => acc ++ Str.empty.cps ++ p.cps) [c].toArray) = _
    rw [go r [c]]
    rfl
end
section
variable {K : PySem.W.Frag} {te tl : TE} {tt : TT} {σ : L2.St} {H : Hp}
theorem ev_lenS {l : List Nat} (h : Ev te σ H (.str (tx l))) (hz : l.length ≤ 100000) : Ev (tCB (fun vs H Q => ∃ x n, vs = [x] ∧ LenV K x H n ∧ Q (.int n) H) (tCons te tNil)) σ H (.int (l.length : Nat)) := fun H1 e Q q =>
  h H1 e _ fun H2 e2 => ⟨.str (tx l), l.length, rfl, ⟨sz_of (by rw [tx_len]; exact hz), (tx_len l).symm⟩, q H2 e2⟩
theorem ev_chain {r r' : R2} {ta tb tc : TE} {x y z : V} {k b : Bool} (ha : Ev ta σ H x) (hb : Ev tb σ H y) (h1 : RV r x y H (.bl k)) (hc : k = true → Ev tc σ H z) (h2 : RV r' y z H (.bl b)) : Ev (tChain r r' ta tb tc) σ H (.bl (k && b)) := fun H1 e Q q =>
  ha H1 e _ fun H2 e2 => hb H2 (e.trans e2) _ fun H3 e3 => h1 H3 ((e.trans e2).trans e3) _ fun H4 e4 => ⟨k, rfl, by
    cases k with
    | true => exact hc rfl H4 (((e.trans e2).trans e3).trans e4) _ fun H5 e5 => h2 H5 ((((e.trans e2).trans e3).trans e4).trans e5) _ fun H6 e6 => q H6 ((((e2.trans e3).trans e4).trans e5).trans e6)
    | false => exact q H4 ((e2.trans e3).trans e4)⟩
theorem rv_inS {c : Nat} {z : List Nat} : RV rInS (.str (tx [c])) (.str (tx z)) H (.bl (decide (c ∈ z))) := rv_val fun H1 _ Q q => by
  show ∃ (d : Nat) (u : Str), V.str (tx [c]) = .str ⟨#[d]⟩ ∧ V.str (tx z) = .str u ∧ Q (.bl (decide (d ∈ u.cps.toList))) H1
  exact ⟨c, tx z, rfl, rfl, q⟩
theorem ev_isi {v : V} {n t : String} {b : Bool} (h : Ev te σ H v) (ty : TyX K H v (.type t)) (hm : ∀ H1, Ex H H1 → TyX K H1 v (.type t)) (hk : kitB t n = some b) : Ev (tCB (rIsi K) (tCons te (tCons (tC (V.ty n)) tNil))) σ H (.bl b) := fun H1 e Q q => h H1 e _ fun H2 e2 =>
  ⟨v, .ty n, .type t, .type n, b, rfl, .ty _, hm H2 (e.trans e2), kit_ty hk, q H2 e2⟩
theorem ev_ixQ {ta : TE} {a : Addr} {xs : List V} {v : V} {i : Nat} (h : Ev ta σ H (.ref a)) (hx : Ven.SqA K H a xs) (hi : xs[i]? = some v) : Ev (tOp (rIxQ K) ta (tC (.int (i : Nat)))) σ H v := fun H1 e Q q =>
  h H1 e _ fun H2 e2 => by
    have ha : atI xs (i : Int) = some v := at_of rfl hi
    rcases Ven.ex_a (e.trans e2) hx with hx | hx
    · exact .inl ⟨a, xs, _, v, rfl, rfl, hx, ha, q H2 e2⟩
    · exact .inr ⟨a, xs, _, v, rfl, rfl, hx, ha, q H2 e2⟩
theorem el_lcSt {ys : List Nat} {j : Nat} {vs : List Nat} (w : Nat → V) (h : Ev tl σ H (.str (tx ys))) (hz : ys.length ≤ 40000) (hw : ∀ x, wipe ((wipe σ vs).set j (some x)) vs = wipe σ vs)
    (he : ∀ (y : Nat) (H1 : Hp), Ex H H1 → y ∈ ys → Ev te ((wipe σ vs).set j (some (.str (tx [y])))) H1 (w y)) : EvL (tLc (iStr tl) (gName j) tYes te vs) σ H (ys.map w) := fun H0 e Q q => h H0 e _ fun H1 e1 => ⟨tx ys, rfl, fun Dl hD => by
  have hgm := Ve.given_map (ys := ys) (fun _ => true) w (fun i => match ys[i]? with | some y => true | none => false) (fun i => match ys[i]? with | some y => w y | none => .non) (fun i y hy => by rw [hy]; exact ⟨rfl, rfl⟩) ys.length (Nat.le_refl _)
  rw [List.take_length, List.filter_eq_self.mpr (fun _ _ => rfl)] at hgm
  refine lc_it walk_str (Cw H1 (fun i => match ys[i]? with | some y => true | none => false) (fun i => match ys[i]? with | some y => w y | none => .non) Dl) ⟨hD, Ex.new hD, upd_same⟩ (fun _ _ _ _ => trivial) ?_ ?_
  · rintro i x H2 H3 hi p ⟨rfl, c, hcc, rfl⟩
    have hi2 : ys[i]? = some c := by
      rw [← Array.getElem?_toList] at hcc
      exact hcc
    have hm := List.mem_of_getElem? hi2
    refine ⟨hw _, cw_turn (v := fun i => match ys[i]? with | some y => w y | none => .non) (f := fun i => match ys[i]? with | some y => true | none => false) p (by have := (List.getElem?_eq_some_iff.mp hi2).1; omega) ?_ ?_⟩
    · rw [hi2]
      exact Ve.et_yes
    · rw [hi2]
      exact fun _ => he c H1 (e.trans e1) hm
  · intro H' p
    refine q Dl H' (fresh_back e1 p.1) (e1.trans p.2.1) ?_
    have h2 := p.2.2
    have hs : (tx ys).cps.size = ys.length := rfl
    rw [hs, hgm] at h2
    exact h2⟩
end
/-! windows of a text that goes round -/
def wn (t : List Nat) (s k : Nat) : List Nat := (List.range s).map fun i => t.getD ((k + i) % t.length) 0
theorem wn_len (t : List Nat) (s k : Nat) : (wn t s k).length = s := by unfold wn; rw [List.length_map, List.length_range]
theorem wn_get {t : List Nat} {s k i : Nat} (h : i < s) : (wn t s k)[i]? = some (t.getD ((k + i) % t.length) 0) := by
  unfold wn
  rw [List.getElem?_map, List.getElem?_range h]
  rfl
theorem rp_get {t : List Nat} : ∀ (m i : Nat), i < m * t.length → (Vq.rp m t)[i]? = some (t.getD (i % t.length) 0)
  | 0, i, h => by omega
  | m + 1, i, h => by
    have e : Vq.rp (m + 1) t = t ++ Vq.rp m t := by unfold Vq.rp; rw [List.replicate_succ, List.flatten_cons]
    have ht : 0 < t.length := by
      rcases Nat.eq_zero_or_pos t.length with z | z
      · rw [z] at h; omega
      · exact z
    rw [e]
    by_cases hi : i < t.length
    · rw [List.getElem?_append_left hi, Nat.mod_eq_of_lt hi, List.getD_eq_getElem?_getD, List.getElem?_eq_getElem hi]
      rfl
    · rw [List.getElem?_append_right (by omega), rp_get m (i - t.length) (by rw [Nat.succ_mul] at h; omega)]
      congr 2
      have : i = i - t.length + t.length := by omega
      rw [this, Nat.add_mod_right, Nat.add_sub_cancel]
theorem rp_win {t : List Nat} {m s k : Nat} (h : k + s ≤ m * t.length) : ((Vq.rp m t).drop k).take s = wn t s k := by
  apply List.ext_getElem?
  intro i
  by_cases hi : i < s
  · rw [List.getElem?_take, if_pos hi, List.getElem?_drop, rp_get m (k + i) (by omega), wn_get hi]
  · rw [List.getElem?_take, if_neg hi, List.getElem?_eq_none (by rw [wn_len]; omega)]
/-- the windows in their order -/
def wns (t : List Nat) (s : Nat) : List (List Nat) := (List.range t.length).map (wn t s)
theorem wns_len (t : List Nat) (s : Nat) : (wns t s).length = t.length := by unfold wns; rw [List.length_map, List.length_range]
theorem wns_get {t : List Nat} {s k : Nat} (h : k < t.length) : (wns t s)[k]? = some (wn t s k) := by
  unfold wns
  rw [List.getElem?_map, List.getElem?_range h]
  rfl
/-- text begun elsewhere -/
def rt (t : List Nat) (k : Nat) : List Nat := t.drop k ++ t.take k
theorem rt_len {t : List Nat} {k : Nat} (h : k ≤ t.length) : (rt t k).length = t.length := by
  unfold rt
  rw [List.length_append, List.length_drop, List.length_take, Nat.min_eq_left h]
  omega
theorem rt_get {t : List Nat} {k i : Nat} (h : k ≤ t.length) (hi : i < t.length) : (rt t k).getD i 0 = t.getD ((i + k) % t.length) 0 := by
  unfold rt
  rw [List.getD_eq_getElem?_getD, List.getD_eq_getElem?_getD]
  by_cases h2 : i < t.length - k
  · rw [List.getElem?_append_left (by rw [List.length_drop]; exact h2), List.getElem?_drop, Nat.mod_eq_of_lt (by omega), Nat.add_comm]
  · rw [List.getElem?_append_right (by rw [List.length_drop]; omega), List.length_drop, List.getElem?_take, if_pos (by omega)]
    congr 2
    have : i + k = (i + k - t.length) + t.length := by omega
    rw [this, Nat.add_mod_right, Nat.mod_eq_of_lt (by omega)]
    omega
theorem wn_rt {t : List Nat} {s k j : Nat} (h : k ≤ t.length) (h1 : 1 ≤ t.length) : wn (rt t k) s j = wn t s ((j + k) % t.length) := by
  unfold wn
  rw [rt_len h]
  refine List.map_congr_left fun i _ => ?_
  rw [rt_get h (Nat.mod_lt _ h1), Nat.mod_add_mod, Nat.mod_add_mod]
  congr 2
  omega
theorem wns_mem {t : List Nat} {s : Nat} {w : List Nat} : w ∈ wns t s ↔ ∃ k, k < t.length ∧ w = wn t s k := by
  unfold wns
  rw [List.mem_map]
  constructor
  · rintro ⟨k, hk, rfl⟩
    exact ⟨k, List.mem_range.mp hk, rfl⟩
  · rintro ⟨k, hk, rfl⟩
    exact ⟨k, List.mem_range.mpr hk, rfl⟩
theorem rt_mem {t : List Nat} {s k : Nat} (h : k ≤ t.length) (h1 : 1 ≤ t.length) (w : List Nat) : w ∈ wns (rt t k) s ↔ w ∈ wns t s := by
  rw [wns_mem, wns_mem, rt_len h]
  constructor
  · rintro ⟨j, hj, rfl⟩
    exact ⟨(j + k) % t.length, Nat.mod_lt _ h1, wn_rt h h1⟩
  · rintro ⟨j, hj, rfl⟩
    refine ⟨(j + (t.length - k)) % t.length, Nat.mod_lt _ h1, ?_⟩
    rw [wn_rt h h1, Nat.mod_add_mod, show j + (t.length - k) + k = j + t.length by omega, Nat.add_mod_right, Nat.mod_eq_of_lt hj]
/-- first letters -/
theorem heads {t : List Nat} {s : Nat} (hs : 1 ≤ s) : (wns t s).map (fun w => w.getD 0 0) = t := by
  apply List.ext_getElem?
  intro i
  rw [List.getElem?_map]
  by_cases hi : i < t.length
  · rw [wns_get hi, Option.map_some, List.getD_eq_getElem?_getD, wn_get (show 0 < s by omega), Nat.add_zero, Nat.mod_eq_of_lt hi, List.getD_eq_getElem?_getD, List.getElem?_eq_getElem hi]
    rfl
  · rw [List.getElem?_eq_none (by rw [wns_len]; omega), List.getElem?_eq_none (by omega)]
    rfl
theorem wns_rt {t : List Nat} {s k : Nat} (h : k ≤ t.length) (h1 : 1 ≤ t.length) : wns (rt t k) s = (wns t s).drop k ++ (wns t s).take k := by
  apply List.ext_getElem?
  intro i
  by_cases hi : i < t.length
  · rw [wns_get (by rw [rt_len h]; exact hi), wn_rt h h1]
    by_cases h2 : i < t.length - k
    · rw [List.getElem?_append_left (by rw [List.length_drop, wns_len]; exact h2), List.getElem?_drop, wns_get (by omega), Nat.mod_eq_of_lt (by omega), Nat.add_comm]
    · rw [List.getElem?_append_right (by rw [List.length_drop, wns_len]; omega), List.length_drop, wns_len, List.getElem?_take, if_pos (by omega), wns_get (by omega)]
      congr 2
      have : i + k = (i + k - t.length) + t.length := by omega
      rw [this, Nat.add_mod_right, Nat.mod_eq_of_lt (by omega)]
      omega
  · rw [List.getElem?_eq_none (by rw [wns_len, rt_len h]; omega), List.getElem?_eq_none (by rw [List.length_append, List.length_drop, List.length_take, wns_len]; omega)]
/-- one window's end is the next one's start -/
theorem wn_next {t : List Nat} {s k : Nat} (hs : 1 ≤ s) : (wn t s k).drop 1 = (wn t s (k + 1)).take (s - 1) := by
  apply List.ext_getElem?
  intro i
  rw [List.getElem?_drop]
  by_cases hi : i < s - 1
  · rw [List.getElem?_take, if_pos hi, wn_get (by omega), wn_get (by omega)]
    congr 3
    omega
  · rw [List.getElem?_eq_none (by rw [wn_len]; omega), List.getElem?_take, if_neg hi]
theorem wn_mod {t : List Nat} {s k : Nat} : wn t s (k % t.length) = wn t s k := by
  unfold wn
  refine List.map_congr_left fun i _ => ?_
  rw [Nat.mod_add_mod]
theorem wn_mem {t : List Nat} {s k c : Nat} (h1 : 1 ≤ t.length) (h : c ∈ wn t s k) : c ∈ t := by
  unfold wn at h
  obtain ⟨i, _, rfl⟩ := List.mem_map.mp h
  exact getD_mem (Nat.mod_lt _ h1)
end Vtx

set_option Elab.async false
set_option linter.all false
set_option maxRecDepth 100000
set_option maxHeartbeats 4000000
/-! The class Asked, as far as wanted lanes and their part go. -/
namespace K17
open PySem PySem.Spec PyProof.Rows L2 Vl Evl Vp Vr Vx2 Vlk Vda Vc Ve Ven Vlt Vrc Vwy
/-- the i-th member of the class Asked -/
def memA (i : Nat) : Stmt := (clB (top 79)).getD i (.Pass ⟨0, 0, 0, 0⟩)
abbrev sPw : Stmt := top 80
abbrev nPw : List Str := ["net", "wanted", "posts", "lanes", "lane"]
abbrev sAi : Stmt := memA 0
abbrev sAn : Stmt := memA 1
abbrev sAw : Stmt := memA 2
abbrev sAp : Stmt := memA 3
abbrev sAb : Stmt := memA 5
abbrev nAi : List Str := ["self", "net", "wanted", "lane"]
abbrev nA1 : List Str := ["self"]
abbrev nAp : List Str := ["self", "first", "second", "side"]
def PartV (H : Hp) (v : V) : Option Part → Prop
  | none => v = .non
  | some p => ∃ f, v = .ref f ∧ PartAt H (f, p)
theorem PartV.mono {H H' : Hp} {v : V} {p : Option Part} (e : Ex H H') (h : PartV H v p) : PartV H' v p := by
  cases p with
  | none => exact h
  | some p =>
    obtain ⟨f, hv, hf⟩ := h
    exact ⟨f, hv, hf.mono e⟩
theorem PartV.updX {H : Hp} {v : V} {p : Option Part} {x : Addr} {u o : HO} (h : PartV H v p) (hx : H x = some u) (hu : ∀ xs, HO.tup xs ≠ u) : PartV (upd H x o) v p := by
  cases p with
  | none => exact h
  | some p =>
    obtain ⟨f, hv, a, b, h1, h2, h3⟩ := h
    exact ⟨f, hv, a, b, (upd_ne (ne_kind h1 hx (hu _))).trans h1, (upd_ne (ne_kind h2 hx (hu _))).trans h2, (upd_ne (ne_kind h3 hx (hu _))).trans h3⟩
structure AskAt (CA C : Addr) (H : Hp) (o n dn dpn den wt dxo : Addr) (pv : V) (ws ps : List (List Nat)) (es : List Row) (part : Option Part) : Prop where
  at_ : H o = some (.ins CA dxo [("_net", .ref n), ("_wanted", .ref wt), ("_part", pv)])
  net : NetAt C H n dn dpn den ps es
  wanted : H wt = some (.tup (vtx ws))
  part : PartV H pv part
theorem AskAt.mono {CA C : Addr} {H H' : Hp} {o n dn dpn den wt dxo : Addr} {pv : V} {ws ps : List (List Nat)} {es : List Row} {part : Option Part} (e : Ex H H') (h : AskAt CA C H o n dn dpn den wt dxo pv ws ps es part) : AskAt CA C H' o n dn dpn den wt dxo pv ws ps es part :=
  ⟨e _ _ h.at_, h.net.mono e, e _ _ h.wanted, h.part.mono e⟩
theorem NetAt.updX {C CC : Addr} {H : Hp} {n dn dpn den x dx : Addr} {ps : List (List Nat)} {es : List Row} {fs fs' : List (Str × V)} (h : NetAt C H n dn dpn den ps es) (hx : H x = some (.ins CC dx fs)) (hn : n ≠ x) : NetAt C (upd H x (.ins CC dx fs')) n dn dpn den ps es :=
  ⟨(upd_ne hn).trans h.at_, (upd_ne (ne_kind h.posts hx (by intro z; cases z))).trans h.posts, (upd_ne (ne_kind h.ends hx (by intro z; cases z))).trans h.ends, fun e he => (upd_ne (ne_kind (h.rows e he) hx (by intro z; cases z))).trans (h.rows e he)⟩
theorem s_call {sp : Sp} {E : L2.St → XK} {ta : TA} {vs : List V} {D : Ends} {σ : L2.St} {H : Hp} (h : EvA ta σ H vs) (k : ∀ H1, Ex H H1 → sp vs H1 (fun _ H2 => D.nx σ H2) (E σ)) : tDrop (Vc.tFu sp E ta) D σ H := h H (Ex.refl H) _ k
theorem ev_isNo {te : TE} {σ : L2.St} {H : Hp} {x : V} (h : Ev te σ H x) : Ev (tOp (fun x y H Q => y = .non ∧ Q (.bl (decide (x = .non))) H) te (tC .non)) σ H (.bl (decide (x = .non))) := ev_op h ev_c fun H1 _ Q q => ⟨rfl, q H1 (Ex.refl _)⟩
theorem ev_notNo {te : TE} {σ : L2.St} {H : Hp} {x : V} (h : Ev te σ H x) : Ev (tOp (fun x y H Q => y = .non ∧ Q (.bl (!decide (x = .non))) H) te (tC .non)) σ H (.bl (!decide (x = .non))) := ev_op h ev_c fun H1 _ Q q => ⟨rfl, q H1 (Ex.refl _)⟩
theorem find_at {α β : Type} {g : α → β} {c : β → Bool} {f : α} : ∀ {fs : List α} {i : Nat}, fs[i]? = some f → c (g f) = true → (∀ x ∈ fs.take i, c (g x) = false) → (fs.map g).find? c = some (g f)
  | [], i, h, _, _ => by cases h
  | a :: r, 0, h, hc, _ => by
    obtain rfl : a = f := Option.some.inj h
    rw [List.map_cons, List.find?_cons, hc]
  | a :: r, i + 1, h, hc, hn => by
    rw [List.map_cons, List.find?_cons, hn a (by rw [List.take_succ_cons]; exact List.mem_cons_self)]
    exact find_at (fs := r) (i := i) h hc fun x hx => hn x (by rw [List.take_succ_cons]; exact List.mem_cons_of_mem _ hx)
def spPw (C : Addr) : Sp := fun vs H Q _ => ∃ (o t dx dp de : Addr) (ps : List (List Nat)) (es : List Row) (ws : List (List Nat)), vs = [.ref o, .ref t] ∧ NetAt C H o dx dp de ps es ∧ RowsOk ps es ∧ ps.Nodup ∧ ps.length ≤ 30 ∧ es.length ≤ 30 ∧ H t = some (.tup (vtx ws)) ∧ ws.length ≤ 1000 ∧
  ∀ v H', Ex H H' → PartV H' v (partW (bare es) ps ws) → Q v H'
def spAi (K : PySem.W.Frag) (CA C NW NL : Addr) : Sp := fun vs H Q E => ∃ (x dx0 o dx dp de e : Addr) (H0 : Hp) (ps : List (List Nat)) (es : List Row) (ls : List (List Nat)), vs = [.ref x, .ref o, .ref e] ∧ H = upd (upd H0 dx0 (.own x)) x (.ins CA dx0 []) ∧ H0 x = none ∧ H0 dx0 = none ∧ dx0 ≠ x ∧
  NetAt C H0 o dx dp de ps es ∧ SqA K H0 e (vtx ls) ∧ ls.length ≤ 1000 ∧
  ((ls ≠ [] ∧ (∀ l ∈ ls, l ∈ laneNames es) ∧ RowsOk ps es ∧ ps.Nodup ∧ ps.length ≤ 30 ∧ es.length ≤ 30 ∧ ∀ n dn dpn den wt pv H', Ex H0 H' → H0 n = none → H0 dpn = none → H0 den = none → H0 wt = none → dpn ≠ den → AskAt CA C H' x n dn dpn den wt dx0 pv (inOrder (bare es) ls) ps es (partW (bare es) ps (inOrder (bare es) ls)) → Q .non H') ∨
   (ls = [] ∧ ∀ H', Ex H0 H' → E (.ref NW) none H') ∨ (ls ≠ [] ∧ ∃ l, FirstOut ls (laneNames es) l ∧ RaisedF NL "name" H0 (.str (tx l)) E))
section
variable {P : Program} {w : World} {K : PySem.W.Frag} {mg : Str → Option Value} {base : Heap} {CA C BN NT NP NL NW : Addr}
theorem scPw : FnScope nPw ["net", "wanted"] (defScope sPw) := ⟨rfl, rfl, rfl, by decide +kernel, rfl, by decide +kernel, by decide +kernel⟩
theorem ok_pw {f : Addr} {fd : FuncData} (F : FnP K "_part_with" sPw f fd) (TPa : Fu P w K mg base L2.CX0 6 "parts_of" (spPa C)) (mAll : mg "all" = none) : FnOk P w K mg base L2.CX0 7 f fd ["net", "wanted"] (spPw C) := by
  refine F.ok (CX := L2.CX0) scPw (fun vs H Q E h => ?_) (fun cdv A outer s H vs Q E hr h => ?_)
  · obtain ⟨o, t, dx, dp, de, ps, es, ws, rfl, _⟩ := h
    rfl
  · refine ⟨_, (pss_cons (ps_for (passes_of rfl) rfl (pi_list (pe_fu TPa hr (by rfl) (pa_cons (pv 0) pa_nil))) (pg_tup rfl (pgs_cons (pg_name (i := 2) scPw.nd rfl (by first | exact Or.inl rfl | exact Or.inr rfl)) (pgs_cons (pg_name (i := 3) scPw.nd rfl (by first | exact Or.inl rfl | exact Or.inr rfl)) pgs_nil))) (pss_one (ps_if (pt_val (pe_callB (cr_all rfl) (by rfl) mAll boot_all (pa_cons (pe_lc (own := [("lane", 4)]) (g := (gName 4)) (tt := tYes) (te := (tOp (rIn K false) (tVar 4) (tVar 3))) rfl scPw.nd (pi_tup (pv 1)) (blkOk_by (own := [("lane", 4)]) (N := nPw) (sc := defScope sPw) (by decide +kernel)) (fun _ _ _ _ _ => (pg_name (i := 4) scPw.nd rfl (by first | exact Or.inl rfl | exact Or.inr rfl))) (fun _ _ _ _ _ => pts_nil) (fun _ _ _ _ _ => (pe_cmpR op_in_seq (pv 4) (pv 3) rfl))) pa_nil))) (pss_one (ps_ret (pe_tup (pa_cons (pv 2) (pa_cons (pv 3) pa_nil))))) pss_nil)))
      (pss_one (ps_ret pe_non))), ?_⟩
    obtain ⟨o, t, dx, dp, de, ps, es, ws, rfl, N1, RO, ndp, hp30, he30, ht, hw, k⟩ := h
    refine s_seq ?_
    refine ⟨_, rfl, o, dx, dp, de, ps, es, rfl, N1, RO, ndp, hp30, he30, fun l fs H1 e1 nl hl hfm hfs => ?_⟩
    show tFor (iList K (tC (.ref l))) _ _ _ [some (.ref o), some (.ref t), none, none, none] H1
    refine s_forL (a := l) ev_c (sq_of hl) (fun i st H' => ∃ t2 t3, st = [some (.ref o), some (.ref t), t2, t3, none] ∧ Ex H1 H' ∧ ∀ x ∈ fs.take i, holdsAll ws x.2 = false) (fun H2 e2 => ⟨none, none, rfl, e2, fun x hx => by rw [List.take_zero] at hx; cases hx⟩) (fun i st H' _ ⟨_, _, _, e, _⟩ => sq_of (e _ _ hl)) ?_ ?_
    · rintro i x st H2 hx ⟨t2, t3, rfl, e2, hno⟩
      rw [List.getElem?_map] at hx
      obtain ⟨f, hf, rfl⟩ := Option.map_eq_some_iff.mp hx
      have hm := List.mem_of_getElem? hf
      obtain ⟨x, y, h1, h2, h3⟩ := (hfs f hm).mono e2
      refine ⟨f.1, _, rfl, .inl (.inl h1), rfl, ?_⟩
      refine ⟨_, _, rfl, _, _, rfl, rfl, ?_⟩
      have ht2 := (e1.trans e2) _ _ ht
      refine s_when (b := holdsAll ws f.2) (et_B (ev_is (ev_all (bs := ws.map fun l => decide (l ∈ f.2.2)) ?_) (by rw [List.all_map]; rfl))) (fun hb H3 e3 => ?_) (fun hb H3 e3 => ?_)
      · rw [List.map_map]
        refine el_lcTM (K := K) (ys := ws) (g := fun l => V.str (tx l)) (j := 4) (vs := [4]) (fun l => V.bl (decide (l ∈ f.2.2))) (ev_var rfl) (st_of ht2) (by omega) (fun _ => rfl) fun l H3 e3 hl => ?_
        exact ev_is (ev_op (ev_var rfl) (ev_var rfl) (rv_isT (st_of (e3 _ _ h3)) rfl (flat_vtx _))) (by rw [inV_vtx])
      · refine s_retU (eu_tup (ea_cons (ev_var rfl) (ea_cons (ev_var rfl) ea_nil)) (by show 2 ≤ 100000; decide)) fun p H4 np e4 hp => ?_
        refine k (.ref p) H4 (((e1.trans e2).trans e3).trans e4) ?_
        have : partW (bare es) ps ws = some f.2 := by
          unfold partW
          rw [← hfm]
          exact find_at hf hb hno
        rw [this]
        exact ⟨p, rfl, x, y, hp, (e3.trans e4) _ _ h2, (e3.trans e4) _ _ h3⟩
      · refine ⟨_, _, rfl, e2.trans e3, fun z hz => ?_⟩
        have htk : fs.take (i + 1) = fs.take i ++ [f] := by rw [List.take_succ, hf]; rfl
        rw [htk] at hz
        rcases List.mem_append.mp hz with hz | hz
        · exact hno z hz
        · rw [List.mem_singleton.mp hz]
          exact hb
    · rintro st H2 ⟨t2, t3, rfl, e2, hno⟩
      dsimp only
      refine s_ret (v := .non) ev_c fun H3 e3 => ?_
      refine k .non H3 ((e1.trans e2).trans e3) ?_
      have : partW (bare es) ps ws = none := by
        unfold partW
        rw [← hfm]
        refine List.find?_eq_none.mpr fun p hp z => ?_
        obtain ⟨f, hf, rfl⟩ := List.mem_map.mp hp
        rw [hno f (by rw [List.length_map, List.take_length]; exact hf)] at z
        cases z
      rw [this]
      rfl
theorem scAi : FnScope nAi ["self", "net", "wanted"] (defScope sAi) := ⟨rfl, rfl, rfl, by decide +kernel, rfl, by decide +kernel, by decide +kernel⟩
theorem ok_ai {f : Addr} {fd : FuncData} (F : FnM K "__init__" "Asked.__init__" sAi f fd) (c : Cls K CA) (n1 : NoAttr K CA "_net") (n2 : NoAttr K CA "_wanted") (n3 : NoAttr K CA "_part") (N : ND P w K mg base C BN NT NP NL) (TCl : Fu P w K mg base (L2.CX P w) 3 "check_lanes" (spChkL K C NL)) (TPw : Fu P w K mg base L2.CX0 7 "_part_with" (spPw C)) (EN : Err0 K mg "NothingWanted" NW) (mTuple : mg "tuple" = none) (mLen : mg "len" = none) :
    FnOk P w K mg base (L2.CX P w) 8 f fd ["self", "net", "wanted"] (spAi K CA C NW NL) := by
  refine F.ok (CX := L2.CX P w) scAi (fun vs H Q E h => ?_) (fun cdv A outer s H vs Q E hr h => ?_)
  · obtain ⟨x, dx0, o, dx, dp, de, e, H0, ps, es, ls, rfl, _⟩ := h
    rfl
  · refine ⟨_, (pss_cons (ps_if (pt_cmpR op_eq (pe_callB call_len (by rfl) mLen boot_len (pa_cons (pv 2) pa_nil)) pe_int (nomark _)) (pss_one (ps_raise rfl (takes_of rfl rfl rfl rfl) (pmk_err0 EN (by rfl)))) pss_nil)
      (pss_cons (ps_expr (pe_fuX (E := WE fun cls d _ H => E cls d H) TCl hr (by rfl) (fun st => passAt (takes_of rfl rfl rfl rfl) st) (pa_cons (pv 1) (pa_cons (pv 2) pa_nil))))
      (pss_cons (ps_fld (pv 0) (pe_mo0 (pv 1) N.cls N.copy hr) (by rfl))
      (pss_cons (ps_fld (pv 0) (pe_callTy call_tuple_of (by rfl) mTuple boot_tuple (pa_cons (pe_lc (own := [("lane", 3)]) (g := (gName 3)) (tt := (tTest (tOp (rIn K false) (tVar 3) (tVar 2)))) (te := (tVar 3)) rfl scAi.nd (pi_tup (pe_pr (pv 1) N.cls N.lanes hr)) (blkOk_by (own := [("lane", 3)]) (N := nAi) (sc := defScope sAi) (by decide +kernel)) (fun _ _ _ _ _ => (pg_name (i := 3) scAi.nd rfl (by first | exact Or.inl rfl | exact Or.inr rfl))) (fun _ _ _ _ _ => (pts_one (pt_cmpR op_in_seq (pv 3) (pv 2) rfl))) (fun _ _ _ _ _ => (pv 3))) pa_nil)) (by rfl))
      (pss_one (ps_fld (pv 0) (pe_fu TPw hr (by rfl) (pa_cons (pv 1) (pa_cons (pe_fld (pv 0) rfl) pa_nil))) (by rfl))))))), ?_⟩
    obtain ⟨x, dx0, o, dx, dp, de, e, H0, ps, es, ls, rfl, rfl, hx, hdx, hne, N0, he, hel, h⟩ := h
    have hx1 : (upd (upd H0 dx0 (.own x)) x (.ins CA dx0 [])) x = some (.ins CA dx0 []) := upd_same
    have e0 : Ex H0 (upd (upd H0 dx0 (.own x)) x (.ins CA dx0 [])) := (Ex.new hdx).trans (Ex.new (by rw [upd_ne hne.symm]; exact hx))
    generalize upd (upd H0 dx0 (.own x)) x (.ins CA dx0 []) = H at hx1 e0 ⊢
    refine s_seq ?_
    refine s_when (et_test (ev_op (ev_lenQ (ev_var rfl) (ex_a e0 he)) ev_c (rv_eq rfl))) (fun hb H1 e1 => ?_) (fun hb H1 e1 => ?_)
    · have h0 : ls = [] := by
        have h1 := of_decide_eq_true hb
        injection h1 with h2
        rw [vtx_len] at h2
        exact List.length_eq_zero_iff.mp (by omega)
      rcases h with ⟨hn, _⟩ | ⟨_, q⟩ | ⟨hn, _⟩
      · exact absurd h0 hn
      · exact q H1 (e0.trans e1)
      · exact absurd h0 hn
    have hne0 : ls ≠ [] := fun z => by
      rw [z] at hb
      exact absurd hb (by decide)
    have e01 := e0.trans e1
    refine s_seq ?_
    refine s_call (ea_cons (ev_var rfl) (ea_cons (ev_var rfl) ea_nil)) fun H2 e2 => ⟨o, dx, dp, de, e, ps, es, ls, rfl, N0.mono (e01.trans e2), ex_a (e01.trans e2) he, ?_⟩
    rcases h with ⟨_, hall, RO, ndp, hp30, he30, q⟩ | ⟨h0, _⟩ | ⟨_, l, hf, q⟩
    · refine .inl ⟨hall, fun H3 e3 => ?_⟩
      have e03 := (e01.trans e2).trans e3
      have hx3 := ((e1.trans e2).trans e3) _ _ hx1
      have N3 := N0.mono e03
      dsimp only
      refine s_seq ?_
      refine ⟨_, rfl, o, dx, _, rfl, N3.at_, rfl, o, dx, dp, de, ps, es, rfl, N3, fun n dn dpn den H6 e6 nn npn nen hpe hnp hnd N6 => ?_⟩
      have hx6 := e6 _ _ hx3
      have nx : n ≠ x := fun z => by rw [z, hx3] at nn; cases nn
      refine ⟨_, rfl, x, CA, dx0, [], rfl, hx6, c, n1, by show 0 < 1000; omega, ?_⟩
      have N7 : NetAt C (upd H6 x (.ins CA dx0 (putF "_net" (V.ref n) []))) n dn dpn den ps es := N6.updX hx6 nx
      have e7 : Ex H0 (upd H6 x (.ins CA dx0 (putF "_net" (V.ref n) []))) := Ex.mut (e03.trans e6) hx
      have hx7 : (upd H6 x (.ins CA dx0 (putF "_net" (V.ref n) []))) x = some (.ins CA dx0 [("_net", .ref n)]) := upd_same
      generalize upd H6 x (.ins CA dx0 (putF "_net" (V.ref n) [])) = H7 at N7 e7 hx7
      have N07 := N0.mono e7
      have he7 := ex_a e7 he
      have hez : es.length ≤ 40000 := by omega
      dsimp only
      refine s_seq ?_
      have key := eu_tupleL (K := K) (Ve.el_lcU (K := K) (σ := [some (.ref x), some (.ref o), some (.ref e), none]) (H := H7) (j := 3) (vs := [3]) (ys := laneNames es) (g := fun l => V.str (tx l)) (tl := tPr C (spLanes C) (tVar 1)) (te := tVar 3) (tt := tTest (tOp (rIn K false) (tVar 3) (tVar 2))) (fun l => decide (l ∈ ls)) (fun l => V.str (tx l)) (eu_pr (ev_var rfl) N07.at_ (sv_lanes N07)) (by unfold laneNames; rw [List.length_map]; exact hez) (fun _ => rfl) (fun l H9 e9 hl => et_test (by
        rcases ex_a e9 he7 with hz | hz
        · exact ev_is (ev_op (ev_var rfl) (ev_var rfl) (rv_isL hz rfl (flat_vtx ls))) (by rw [inV_vtx])
        · exact ev_is (ev_op (ev_var rfl) (ev_var rfl) (rv_isT hz rfl (flat_vtx ls))) (by rw [inV_vtx]))) (fun l H9 e9 hl _ => ev_var rfl))
      refine key H7 (Ex.refl _) _ fun wt H8 nwt e8 hwt => ?_
      have hx8 := e8 _ _ hx7
      have wx : wt ≠ x := fun z => by rw [z, hx7] at nwt; cases nwt
      refine ⟨_, rfl, x, CA, dx0, [("_net", .ref n)], rfl, hx8, c, n2, by show 1 < 1000; omega, ?_⟩
      have N9 : NetAt C (upd H8 x (.ins CA dx0 (putF "_wanted" (V.ref wt) [("_net", .ref n)]))) n dn dpn den ps es := (N7.mono e8).updX hx8 nx
      have e9 : Ex H0 (upd H8 x (.ins CA dx0 (putF "_wanted" (V.ref wt) [("_net", .ref n)]))) := Ex.mut (e7.trans e8) hx
      have hx9 : (upd H8 x (.ins CA dx0 (putF "_wanted" (V.ref wt) [("_net", .ref n)]))) x = some (.ins CA dx0 [("_net", .ref n), ("_wanted", .ref wt)]) := upd_same
      have hw9 : (upd H8 x (.ins CA dx0 (putF "_wanted" (V.ref wt) [("_net", .ref n)]))) wt = some (.tup (vtx (inOrder (bare es) ls))) := by
        rw [upd_ne wx, hwt]
        unfold inOrder
        rw [names_rows]
        rfl
      generalize upd H8 x (.ins CA dx0 (putF "_wanted" (V.ref wt) [("_net", .ref n)])) = H9 at N9 e9 hx9 hw9
      have hwl : (inOrder (bare es) ls).length ≤ 1000 := by
        unfold inOrder
        refine Nat.le_trans (List.length_filter_le _ _) ?_
        rw [names_rows]
        unfold laneNames
        rw [List.length_map]
        omega
      dsimp only
      refine ⟨_, rfl, _, rfl, x, CA, dx0, _, _, rfl, hx9, c, n2, rfl, o, wt, dx, dp, de, ps, es, inOrder (bare es) ls, rfl, N0.mono e9, RO, ndp, hp30, he30, hw9, hwl, fun pv H10 e10 hpv => ?_⟩
      have hx10 := e10 _ _ hx9
      refine ⟨_, rfl, x, CA, dx0, [("_net", .ref n), ("_wanted", .ref wt)], rfl, hx10, c, n3, by show 2 < 1000; omega, ?_⟩
      refine q n dn dpn den wt pv _ (Ex.mut (e9.trans e10) hx) (fresh_back e03 nn) (fresh_back e03 npn) (fresh_back e03 nen) (fresh_back e7 nwt) hpe ⟨upd_same, (N9.mono e10).updX hx10 nx, (upd_ne wx).trans (e10 _ _ hw9), hpv.updX hx10 (fun _ z => by cases z)⟩
    · exact absurd h0 hne0
    · exact .inr ⟨l, hf, RaisedF.grow q (e01.trans e2)⟩
end
def spAn (CA C : Addr) : Sp := fun vs H Q _ => ∃ (o n dn dpn den wt dxo : Addr) (pv : V) (ws ps : List (List Nat)) (es : List Row) (part : Option Part), vs = [.ref o] ∧ AskAt CA C H o n dn dpn den wt dxo pv ws ps es part ∧
  ∀ o' dx' dp' de' H', Ex H H' → H o' = none → H dp' = none → H de' = none → dp' ≠ de' → o' ≠ dp' → o' ≠ de' → NetAt C H' o' dx' dp' de' ps es → Q (.ref o') H'
def spAw (CA C : Addr) : Sp := fun vs H Q _ => ∃ (o n dn dpn den wt dxo : Addr) (pv : V) (ws ps : List (List Nat)) (es : List Row) (part : Option Part), vs = [.ref o] ∧ AskAt CA C H o n dn dpn den wt dxo pv ws ps es part ∧ ∀ H', Ex H H' → Q (.ref wt) H'
def spAp (CA C : Addr) : Sp := fun vs H Q _ => ∃ (o n dn dpn den wt dxo : Addr) (pv : V) (ws ps : List (List Nat)) (es : List Row) (part : Part), vs = [.ref o] ∧ AskAt CA C H o n dn dpn den wt dxo pv ws ps es (some part) ∧ ∀ f H', pv = .ref f → Ex H H' → PartAt H' (f, part) → Q (.ref f) H'
def spAb (CA C : Addr) : Sp := fun vs H Q _ => ∃ (o n dn dpn den wt dxo : Addr) (pv : V) (ws ps : List (List Nat)) (es : List Row) (part : Option Part), vs = [.ref o] ∧ AskAt CA C H o n dn dpn den wt dxo pv ws ps es part ∧ ∀ H', Ex H H' → Q (.bl part.isSome) H'
section
variable {P : Program} {w : World} {K : PySem.W.Frag} {mg : Str → Option Value} {base : Heap} {CA C BN NT NP NL NW : Addr}
theorem scAn : FnScope nA1 ["self"] (defScope sAn) := ⟨rfl, rfl, rfl, by decide +kernel, rfl, by decide +kernel, by decide +kernel⟩
theorem ok_an {f : Addr} {fd : FuncData} (F : FnM K "net" "Asked.net" sAn f fd) (c : Cls K CA) (n1 : NoAttr K CA "_net") (N : ND P w K mg base C BN NT NP NL) : FnOk P w K mg base L2.CX0 5 f fd ["self"] (spAn CA C) := by
  refine F.ok (CX := L2.CX0) scAn (fun vs H Q E h => ?_) (fun cdv A outer s H vs Q E hr h => ?_)
  · obtain ⟨o, n, dn, dpn, den, wt, dxo, pv, ws, ps, es, part, rfl, _⟩ := h
    rfl
  · refine ⟨_, (pss_one (ps_ret (pe_mo0 (pe_fld (pv 0) rfl) N.cls N.copy hr))), ?_⟩
    obtain ⟨o, n, dn, dpn, den, wt, dxo, pv, ws, ps, es, part, rfl, R, q⟩ := h
    exact ⟨_, rfl, o, CA, dxo, _, _, rfl, R.at_, c, n1, rfl, n, dn, _, rfl, R.net.at_, rfl, n, dn, dpn, den, ps, es, rfl, R.net, q⟩
theorem scAw : FnScope nA1 ["self"] (defScope sAw) := ⟨rfl, rfl, rfl, by decide +kernel, rfl, by decide +kernel, by decide +kernel⟩
theorem ok_aw {f : Addr} {fd : FuncData} (F : FnM K "wanted" "Asked.wanted" sAw f fd) (c : Cls K CA) (n2 : NoAttr K CA "_wanted") : FnOk P w K mg base L2.CX0 1 f fd ["self"] (spAw CA C) := by
  refine F.ok (CX := L2.CX0) scAw (fun vs H Q E h => ?_) (fun cdv A outer s H vs Q E hr h => ?_)
  · obtain ⟨o, n, dn, dpn, den, wt, dxo, pv, ws, ps, es, part, rfl, _⟩ := h
    rfl
  · refine ⟨_, (pss_one (ps_ret (pe_fld (pv 0) rfl))), ?_⟩
    obtain ⟨o, n, dn, dpn, den, wt, dxo, pv, ws, ps, es, part, rfl, R, q⟩ := h
    exact s_ret (ev_fld (ev_var rfl) R.at_ c n2 rfl) fun H1 e1 => q H1 e1
theorem scAp : FnScope nAp ["self"] (defScope sAp) := ⟨rfl, rfl, rfl, by decide +kernel, rfl, by decide +kernel, by decide +kernel⟩
theorem ok_ap {f : Addr} {fd : FuncData} (F : FnM K "part" "Asked.part" sAp f fd) (c : Cls K CA) (n3 : NoAttr K CA "_part") : FnOk P w K mg base L2.CX0 1 f fd ["self"] (spAp CA C) := by
  refine F.ok (CX := L2.CX0) scAp (fun vs H Q E h => ?_) (fun cdv A outer s H vs Q E hr h => ?_)
  · obtain ⟨o, n, dn, dpn, den, wt, dxo, pv, ws, ps, es, part, rfl, _⟩ := h
    rfl
  · refine ⟨_, (pss_cons (ps_if (pt_cmpR op_isN (pe_fld (pv 0) rfl) pe_non (nomark _)) Vnev.pss_never pss_nil) (pss_one (ps_ret (pe_fld (pv 0) rfl)))), ?_⟩
    obtain ⟨o, n, dn, dpn, den, wt, dxo, pv, ws, ps, es, part, rfl, R, q⟩ := h
    obtain ⟨f, rfl, hf⟩ := R.part
    refine s_seq ?_
    refine s_when (et_test (ev_isNo (ev_fld (ev_var rfl) R.at_ c n3 rfl))) (fun hb => by cases hb) (fun _ H1 e1 => ?_)
    exact s_ret (ev_fld (ev_var rfl) (e1 _ _ R.at_) c n3 rfl) fun H2 e2 => q f H2 rfl (e1.trans e2) (hf.mono (e1.trans e2))
theorem scAb : FnScope nA1 ["self"] (defScope sAb) := ⟨rfl, rfl, rfl, by decide +kernel, rfl, by decide +kernel, by decide +kernel⟩
theorem ok_ab {f : Addr} {fd : FuncData} (F : FnM K "__bool__" "Asked.__bool__" sAb f fd) (c : Cls K CA) (n3 : NoAttr K CA "_part") : FnOk P w K mg base L2.CX0 1 f fd ["self"] (spAb CA C) := by
  refine F.ok (CX := L2.CX0) scAb (fun vs H Q E h => ?_) (fun cdv A outer s H vs Q E hr h => ?_)
  · obtain ⟨o, n, dn, dpn, den, wt, dxo, pv, ws, ps, es, part, rfl, _⟩ := h
    rfl
  · refine ⟨_, (pss_one (ps_ret (pe_cmpR op_notN (pe_fld (pv 0) rfl) pe_non (nomark _)))), ?_⟩
    obtain ⟨o, n, dn, dpn, den, wt, dxo, pv, ws, ps, es, part, rfl, R, q⟩ := h
    refine s_ret (ev_is (ev_notNo (ev_fld (ev_var rfl) R.at_ c n3 rfl)) (w := .bl part.isSome) ?_) fun H1 e1 => q H1 e1
    have hp := R.part
    cases part with
    | none => rw [show pv = .non from hp]; rfl
    | some p =>
      obtain ⟨f, rfl, _⟩ := hp
      rfl
end
end K17

set_option Elab.async false
set_option linter.all false
set_option maxRecDepth 100000
set_option maxHeartbeats 4000000
/-! Draws out of a list that a variable holds: one, many, those for which a draw says so. -/
namespace Vdr
open PySem PySem.Spec PyProof.Rows L2 Vl Evl Vp Vc Ve
theorem plMut {Hk H : Hp} {p x : Addr} {n : Nat} {o : HO} (h : Pl Hk p n H) (hx : Hk x = none) (xp : x ≠ p) : Pl Hk p n (upd H x o) := by
  refine ⟨h.no, Ex.mut h.ex hx, ?_⟩
  obtain ⟨a', b', c', w1, w2⟩ := h.at_
  exact ⟨a', b', c', by rw [upd_ne xp.symm]; exact w1, w2⟩
section
variable {K : PySem.W.Frag} {σ : L2.St} {H : Hp} {D : Ends}
/-- xs[take(pool, len(xs))] -/
abbrev tPick (K : PySem.W.Frag) (pi ai : Nat) : TE := tOp (rIxL K) (tVar ai) (Vc.tFu spTake (fun _ => nil0) (tCons (tVar pi) (tCons (tCB (fun xs H Q => ∃ x n, xs = [x] ∧ LenV K x H n ∧ Q (.int n) H) (tCons (tVar ai) tNil)) tNil)))
theorem e_pick {p a : Addr} {Hk : Hp} {n pi ai : Nat} {xs : List V} (hp : σ[pi]? = some (some (.ref p))) (hA : σ[ai]? = some (some (.ref a))) (P : Pl Hk p n H) (hn : n ≤ 90000) (ha : Hk a = some (.lst xs)) (hx : 1 ≤ xs.length) (hx1 : xs.length ≤ 1000) {Q : VK}
    (k : ∀ (i : Nat) v H2, xs[i]? = some v → Ex (Wo H p) H2 → Pl Hk p (n + 1) H2 → Q v H2) : tPick K pi ai σ H Q := by
  refine ⟨_, hA, _, hp, _, hA, .ref a, xs.length, rfl, .inl ⟨xs, sq_of (P.ex _ _ ha), rfl⟩, p, (xs.length : Int), Wo H p, _, rfl, by omega, by omega, P.re, by omega, fun r H3 r0 r1 hP => ?_⟩
  obtain ⟨z, rfl⟩ := Int.eq_ofNat_of_zero_le r0
  have hz : z < xs.length := by omega
  have P3 := P.back hP
  exact ⟨a, xs, _, _, rfl, rfl, sq_of (P3.ex _ _ ha), at_of rfl (List.getElem?_eq_getElem hz), k z _ H3 (List.getElem?_eq_getElem hz) hP.ex P3⟩
theorem s_pickV {p a : Addr} {Hk : Hp} {n j pi ai : Nat} {xs : List V} (hp : σ[pi]? = some (some (.ref p))) (hA : σ[ai]? = some (some (.ref a))) (P : Pl Hk p n H) (hn : n ≤ 90000) (ha : Hk a = some (.lst xs)) (hx : 1 ≤ xs.length) (hx1 : xs.length ≤ 1000)
    (k : ∀ (i : Nat) v H2, xs[i]? = some v → Pl Hk p (n + 1) H2 → D.nx (σ.set j (some v)) H2) : tAsg (tPick K pi ai) (gName j) D σ H :=
  e_pick hp hA P hn ha hx hx1 fun i v H2 h _ P2 => k i v H2 h P2
/-- [xs[take(len(xs))] for _ in range(..)] -/
theorem lc_draws {p a : Addr} {Hk : Hp} {n lo M pi ai j : Nat} {ta : TA} {xs : List (List Nat)} {Q : VK} (hm : ∀ R : List V → Hp → Prop, (∀ (m : Nat) H1, lo ≤ m → m ≤ M → (m = 0 ∨ 1 ≤ xs.length) → Pl Hk p n H1 → R [.int (m : Nat)] H1) → ta σ H R) (hM : M ≤ 1000) (P0 : Hk p = none) (hn : n + M ≤ 90000) (ha : Hk a = some (.lst (vtx xs))) (hx1 : xs.length ≤ 1000)
    (hw : ∀ x, wipe ((wipe σ [j]).set j (some x)) [j] = wipe σ [j]) (hp : ∀ x, ((wipe σ [j]).set j (some x))[pi]? = some (some (.ref p))) (hA : ∀ x, ((wipe σ [j]).set j (some x))[ai]? = some (some (.ref a)))
    (k : ∀ d ys H1, Hk d = none → Pl Hk p (n + M) H1 → H1 d = some (.lst (vtx ys)) → ys.length ≤ M → (lo ≤ ys.length) → (∀ y ∈ ys, y ∈ xs) → d ≠ p → Q (.ref d) H1) :
    tLc (iRng1 ta) (gName j) tYes (tPick K pi ai) [j] σ H Q := by
  refine hm _ fun m H1 hlo hmM hx P1 => ⟨(m : Nat), rfl, by omega, by omega, fun Dl hD => ?_⟩
  have hDp : Dl ≠ p := P1.ne hD
  have hDk : Hk Dl = none := fresh_back P1.ex hD
  refine lc_range (lo := 0) (n := ((m : Nat) : Int).toNat) (fun i H' => ∃ ys, H' Dl = some (.lst (vtx ys)) ∧ ys.length = i ∧ (∀ y ∈ ys, y ∈ xs) ∧ Pl Hk p (n + i) H') ⟨[], upd_same, rfl, (fun _ h => nomatch h), P1.new hD⟩ ?_ ?_
  · rintro i H2 hi ⟨ys, h1, h2, h3, h4⟩
    rw [Int.toNat_natCast] at hi
    refine ⟨hw _, ?_⟩
    unfold tYes
    dsimp only
    rw [if_pos rfl]
    refine e_pick (xs := vtx xs) (hp _) (hA _) h4 (by omega) ha (by rw [vtx_len]; omega) (by rw [vtx_len]; omega) fun z v H3 hz eW P3 => ?_
    unfold vtx at hz
    rw [List.getElem?_map] at hz
    obtain ⟨y, hy, rfl⟩ := Option.map_eq_some_iff.mp hz
    refine ⟨vtx ys, eW _ _ (wo_at h1 hDp), sz_lt (by rw [vtx_len]; omega), ys ++ [y], by rw [upd_same, vtx_app]; rfl, by rw [List.length_append, List.length_singleton, h2], ?_, plMut P3 hDk hDp⟩
    intro x hx
    rcases List.mem_append.mp hx with hx | hx
    · exact h3 x hx
    · rw [List.mem_singleton.mp hx]
      exact List.mem_of_getElem? hy
  · rintro H2 ⟨ys, h1, h2, h3, h4⟩
    rw [Int.toNat_natCast] at h2 h4
    exact k Dl ys H2 hDk (h4.cnt (by omega)) h1 (by omega) (by omega) h3 hDp
/-- the things for which a draw says so -/
theorem lc_draw {α : Type} {ys : List α} {g : α → V} {tl : TE} {tt : TT} {j : Nat} {σ : L2.St} {B H : Hp} {p : Addr} {n : Nat} {C : α → Prop} (P : Pl B p n H) (h : ∀ R : VK, (∀ a H1, a ≠ p → Ex H H1 → H1 a = some (.lst (ys.map g)) → R (.ref a) H1) → tl σ H R) (hz : ys.length ≤ 1000) (hw : ∀ x, wipe ((wipe σ [j]).set j (some x)) [j] = wipe σ [j]) (hj : ∀ x, ((wipe σ [j]).set j (some x))[j]? = some (some x))
    (ht : ∀ y H1 m, y ∈ ys → Pl B p m H1 → m ≤ n + ys.length → ∀ Q : Bool → Hp → Prop, (∀ b H2 m2, Ex (Wo H1 p) H2 → Pl B p m2 H2 → m2 ≤ m + 1 → (b = true → C y) → Q b H2) → tt ((wipe σ [j]).set j (some (g y))) H1 Q)
    {Q : VK} (k : ∀ (l : Addr) (zs : List α) (H2 : Hp) (m : Nat), H l = none → l ≠ p → Pl B p m H2 → m ≤ n + ys.length → H2 l = some (.lst (zs.map g)) → zs.Sublist ys → (∀ z ∈ zs, C z) → Q (.ref l) H2) : tLc (iList K tl) (gName j) tt (tVar j) [j] σ H Q := by
  unfold tLc iList
  refine h _ fun a H1 ap e1 hx => ⟨a, rfl, ⟨_, sq_of hx⟩, fun D hD => ?_⟩
  have P1 := P.grow e1
  have dp : D ≠ p := P1.ne hD
  have da : D ≠ a := fun z => by rw [z, hx] at hD; cases hD
  have bD : B D = none := fresh_back P1.ex hD
  refine lc_list (xs := ys.map g) (fun i H' => ∃ (zs : List α) (m : Nat), Pl B p m H' ∧ m ≤ n + i ∧ H' a = some (.lst (ys.map g)) ∧ H' D = some (.lst (zs.map g)) ∧ zs.Sublist (ys.take i) ∧ ∀ z ∈ zs, C z)
    ⟨[], n, P1.new hD, Nat.le_refl _, (upd_ne da.symm).trans hx, upd_same, by rw [List.take_zero]; exact List.Sublist.refl _, fun z hz => nomatch hz⟩ (fun i H' _ ⟨_, _, _, _, h, _⟩ => sq_of h) ?_ ?_
  · rintro i x H' hxi ⟨zs, m, P', hm, ha', hD', hs, hc⟩
    rw [List.getElem?_map] at hxi
    obtain ⟨y, hy, rfl⟩ := Option.map_eq_some_iff.mp hxi
    have hi : i < ys.length := (List.getElem?_eq_some_iff.mp hy).1
    have htk : ys.take (i + 1) = ys.take i ++ [y] := by rw [List.take_succ, hy]; rfl
    have hlen : zs.length ≤ ys.length := Nat.le_trans hs.length_le (by rw [List.length_take]; omega)
    refine ⟨hw _, ht y H' m (List.mem_of_getElem? hy) P' (by omega) _ fun b H2 m2 e2 P2 hm2 hb => ?_⟩
    have ha2 := e2 _ _ (wo_at ha' ap)
    have hD2 := e2 _ _ (wo_at hD' dp)
    cases b with
    | true =>
      refine ⟨_, hj _, zs.map g, hD2, sz_lt (by rw [List.length_map]; omega), zs ++ [y], m2, plMut P2 bD dp, by omega, (upd_ne da.symm).trans ha2, ?_, ?_, fun z hz => ?_⟩
      · rw [upd_same, List.map_append]
        rfl
      · rw [htk]
        exact hs.append (List.Sublist.refl _)
      · rcases List.mem_append.mp hz with hz | hz
        · exact hc z hz
        · rw [List.mem_singleton.mp hz]
          exact hb rfl
    | false =>
      refine ⟨zs, m2, P2, by omega, ha2, hD2, ?_, hc⟩
      rw [htk]
      exact hs.trans (List.sublist_append_left _ _)
  · rintro H' ⟨zs, m, P', hm, ha', hD', hs, hc⟩
    rw [List.length_map] at hm hs
    rw [List.take_length] at hs
    exact k D zs H' m (fresh_back e1 hD) dp P' hm hD' hs hc
theorem el_catL {ta tb : TE} {xs zs : List V} (h : EvL ta σ H xs) (h2 : EvL tb σ H zs) (hz : xs.length + zs.length ≤ 100000) : EvL (tOp rCat ta tb) σ H (xs ++ zs) := fun H1 e Q q =>
  h H1 e _ fun a H2 na e2 ha => h2 H2 (e.trans e2) _ fun b H3 nb e3 hb => ⟨a, b, xs, zs, rfl, rfl, e3 _ _ ha, hb, sz_of hz, fun c nc => q c _ (fresh_back (e2.trans e3) nc) ((e2.trans e3).trans (Ex.new nc)) upd_same⟩
theorem el_catL' {ta tb : TE} {a : Addr} {xs zs : List V} (h : Ev ta σ H (.ref a)) (hx : H a = some (.lst xs)) (h2 : EvL tb σ H zs) (hz : xs.length + zs.length ≤ 100000) : EvL (tOp rCat ta tb) σ H (xs ++ zs) := fun H1 e Q q =>
  h H1 e _ fun H2 e2 => h2 H2 (e.trans e2) _ fun b H3 nb e3 hb => ⟨a, b, xs, zs, rfl, rfl, (e.trans (e2.trans e3)) _ _ hx, hb, sz_of hz, fun c nc => q c _ (fresh_back (e2.trans e3) nc) ((e2.trans e3).trans (Ex.new nc)) upd_same⟩
end
end Vdr

set_option Elab.async false
set_option linter.all false
set_option maxRecDepth 100000
set_option maxHeartbeats 4000000
/-! Wanted lanes, drawn; their part by the law. -/
namespace K17
open PySem PySem.Spec PyProof.Rows L2 Vl Evl Vp Vr Vx2 Vlk Vda Vc Ve Ven Vlt Vrc Vwy
abbrev sWa : Stmt := top 101
abbrev nWa : List Str := ["_law_pool_here", "_law_parts", "_law_lanes", "_law_row", "_law_lane", "_law_part_here", "_law_k", "_law_some", "_law_other"]
abbrev sIp : Stmt := top 102
abbrev nIp : List Str := ["_law_parts", "_law_wanted_here", "_law_part_here", "_law_lane"]
def spWa : Sp := fun vs H Q _ => ∃ (p q a b : Addr) (ps : List (List Nat)) (rs : List Row) (Hk : Hp) (n : Nat), vs = [.ref p, .ref q] ∧ Pl Hk p n H ∧ n ≤ 20000 ∧ Told Hk q a b ps rs ∧ Names ps ∧ RowsOk ps rs ∧ ps.length ≤ 30 ∧ rs.length ≤ 25 ∧ rs ≠ [] ∧
  ∀ d ws H', Pl Hk p (n + 200) H' → Hk d = none → d ≠ p → H' d = some (.lst (vtx ws)) → ws ≠ [] → (∀ l ∈ ws, l ∈ laneNames rs) → ws.length ≤ 40 → Q (.ref d) H'
theorem s_asgFu {sp : Sp} {E : L2.St → XK} {ta : TA} {vs : List V} {g : TG} {D : Ends} {σ : L2.St} {H : Hp} (h : EvA ta σ H vs) (k : ∀ H1, Ex H H1 → sp vs H1 (fun v H2 => g v σ H2 fun σ' H3 => D.nx σ' H3) (E σ)) : tAsg (Vc.tFu sp E ta) g D σ H := h H (Ex.refl H) _ k
theorem s_asgE {te : TE} {i : Nat} {D : Ends} {σ : L2.St} {H : Hp} (h : te σ H fun v H1 => D.nx (σ.set i (some v)) H1) : tAsg te (gName i) D σ H := h
theorem s_retE {te : TE} {D : Ends} {σ : L2.St} {H : Hp} (h : te σ H D.rt) : tRet te D σ H := h
theorem s_orT {t u : TT} {tu tw : TS} {D : Ends} {σ : L2.St} {H : Hp} (h1 : EvT t σ H true) (h2 : ∀ H1, Ex H H1 → tu D σ H1) : tIfS (tOr t u) tu tw D σ H := h1 H (Ex.refl H) _ fun H1 e => by
  show (if true = true then _ else _)
  rw [if_pos rfl]
  show if true = true then tu D σ H1 else tw D σ H1
  rw [if_pos rfl]
  exact h2 H1 e
theorem s_orF {t u : TT} {tu tw : TS} {D : Ends} {σ : L2.St} {H : Hp} (h1 : EvT t σ H false) (h2 : ∀ H1, Ex H H1 → u σ H1 fun b H2 => if b = true then tu D σ H2 else tw D σ H2) : tIfS (tOr t u) tu tw D σ H := h1 H (Ex.refl H) _ fun H1 e => by
  show (if false = true then _ else _)
  rw [if_neg (by decide)]
  exact h2 H1 e
theorem perm_mapG {α β : Type} {f : α → β} {ys zs : List β} (h : ys.Perm zs) : ∀ rs : List α, zs = rs.map f → ∃ rs' : List α, ys = rs'.map f ∧ rs'.Perm rs := by
  induction h with
  | nil => exact fun rs e => ⟨rs, e, .refl _⟩
  | cons x _ ih =>
    intro rs e
    cases rs with
    | nil => cases e
    | cons a r =>
      rw [List.map_cons] at e
      obtain ⟨e1, e2⟩ := List.cons.inj e
      obtain ⟨r', h1, h2⟩ := ih r e2
      exact ⟨a :: r', by rw [List.map_cons, h1, e1], h2.cons a⟩
  | swap x y l =>
    intro rs e
    match rs, e with
    | a :: b :: r, e =>
      rw [List.map_cons, List.map_cons] at e
      obtain ⟨e1, e2⟩ := List.cons.inj e
      obtain ⟨e2, e3⟩ := List.cons.inj e2
      exact ⟨b :: a :: r, by rw [List.map_cons, List.map_cons, e1, e2, e3], .swap a b r⟩
  | trans _ _ ih1 ih2 =>
    intro rs e
    obtain ⟨r2, h1, h2⟩ := ih2 rs e
    obtain ⟨r1, h3, h4⟩ := ih1 r2 h1
    exact ⟨r1, h3, h4.trans h2⟩
section
variable {P : Program} {w : World} {K : PySem.W.Frag} {mg : Str → Option Value} {base : Heap} {CA C BN NT NP NL NW : Addr}
theorem scWa : FnScope nWa ["_law_pool_here", "_law_parts"] (defScope sWa) := ⟨rfl, rfl, rfl, by decide +kernel, rfl, by decide +kernel, by decide +kernel⟩
/-- [row[0] for row in parts[1]] -/
theorem el_names {σ : L2.St} {H : Hp} {q a b : Addr} {ps : List (List Nat)} {rs : List Row} {i j : Nat} {vs : List Nat} (T : Told H q a b ps rs) (hz : rs.length ≤ 1000) (hq : σ[i]? = some (some (.ref q))) (hw : ∀ x, wipe ((wipe σ vs).set j (some x)) vs = wipe σ vs) (hj : ∀ x, ((wipe σ vs).set j (some x))[j]? = some (some x)) :
    EvL (tLc (iList K (tOp (rIxL K) (tVar i) (tC (.int 1)))) (gName j) tYes (tOp (rIxT K) (tVar j) (tC (.int 0))) vs) σ H (vtx (laneNames rs)) := by
  have key := el_lcM (K := K) (σ := σ) (H := H) (a := b) (ys := rs) (g := fun r => V.ref r.1) (tl := tOp (rIxL K) (tVar i) (tC (.int 1))) (j := j) (vs := vs) (te := tOp (rIxT K) (tVar j) (tC (.int 0))) (fun r => V.str (tx r.2.1)) (ev_ixA (i := 1) (ev_var hq) (sq_of T.at_) rfl) (sq_of T.rows) (by omega) hw
    (fun r H1 e1 hr => ev_op (ev_var (hj _)) ev_c (rv_ixT (st_of (e1 _ _ (T.row r hr))) (at_of (j := 0) rfl rfl)))
  unfold vtx laneNames
  rw [List.map_map]
  exact key
theorem ok_wa {f : Addr} {fd : FuncData} (F : FnP K "_law_wanted" sWa f fd) (TT : Fu P w K mg base L2.CX0 1 "_law_take" spTake) (TPt : Fu P w K mg base L2.CX0 2 "_law_part" spPt) (TMx : Fu P w K mg base L2.CX0 2 "_law_mixed" spMixed) (mLen : mg "len" = none) (mRange : mg "range" = none) :
    FnOk P w K mg base L2.CX0 3 f fd ["_law_pool_here", "_law_parts"] spWa := by
  refine F.ok (CX := L2.CX0) scWa (fun vs H Q E h => ?_) (fun cdv A outer s H vs Q E hr h => ?_)
  · obtain ⟨p, q, a, b, ps, rs, Hk, n, rfl, _⟩ := h
    rfl
  · refine ⟨_, (pss_cons (ps_set (i := 2) scWa.nd rfl (by first | exact Or.inl rfl | exact Or.inr rfl) (pe_lc (own := [("_law_row", 3)]) (g := (gName 3)) (tt := tYes) (te := (tOp (rIxT K) (tVar 3) (tC (.int 0)))) rfl scWa.nd (pi_list (pe_ix ix_list (pv 1) pe_int fun _ _ => rfl)) (blkOk_by (own := [("_law_row", 3)]) (N := nWa) (sc := defScope sWa) (by decide +kernel)) (fun _ _ _ _ _ => (pg_name (i := 3) scWa.nd rfl (by first | exact Or.inl rfl | exact Or.inr rfl))) (fun _ _ _ _ _ => pts_nil) (fun _ _ _ _ _ => (pe_ix ix_tup (pv 3) pe_int fun _ _ => rfl))))
      (pss_cons (ps_set (i := 4) scWa.nd rfl (by first | exact Or.inl rfl | exact Or.inr rfl) (pe_ix ix_list (pv 2) (pe_fu TT hr (by rfl) (pa_cons (pv 0) (pa_cons (pe_callB call_len (by rfl) mLen boot_len (pa_cons (pv 2) pa_nil)) pa_nil))) fun _ _ => rfl))
      (pss_cons (ps_set (i := 5) scWa.nd rfl (by first | exact Or.inl rfl | exact Or.inr rfl) (pe_fu TPt hr (by rfl) (pa_cons (pv 1) (pa_cons (pv 4) pa_nil))))
      (pss_cons (ps_if (PW.pt (pw_or (pt_cmpR op_isN (pv 5) pe_non (nomark _)) (pw_or1 (pt_cmpR op_eq (pe_fu TT hr (by rfl) (pa_cons (pv 0) (pa_cons pe_int pa_nil))) pe_int (nomark _))))) (pss_one (ps_ret (pe_lc (own := [("_law_k", 6)]) (g := (gName 6)) (tt := tYes) (te := (tOp (rIxL K) (tVar 2) (tFu _ (fun _ => nil0) (tCons (tVar 0) (tCons (tCB (fun xs H Q => ∃ x n, xs = [x] ∧ LenV K x H n ∧ Q (.int n) H) (tCons (tVar 2) tNil)) tNil))))) rfl scWa.nd (pi_range1 (by rfl) mRange (pa_cons (pe_op op_add pe_int (pe_fu TT hr (by rfl) (pa_cons (pv 0) (pa_cons pe_int pa_nil)))) pa_nil)) (blkOk_by (own := [("_law_k", 6)]) (N := nWa) (sc := defScope sWa) (by decide +kernel)) (fun _ _ _ _ _ => (pg_name (i := 6) scWa.nd rfl (by first | exact Or.inl rfl | exact Or.inr rfl))) (fun _ _ _ _ _ => pts_nil) (fun _ _ _ _ _ => (pe_ix ix_list (pv 2) (pe_fu TT hr (by rfl) (pa_cons (pv 0) (pa_cons (pe_callB call_len (by rfl) mLen boot_len (pa_cons (pv 2) pa_nil)) pa_nil))) fun _ _ => rfl))))) pss_nil)
      (pss_cons (ps_setLc (i := 7) (own := [("_law_other", 8)]) (g := (gName 8)) (tt := (tTest (tOp rEq (tFu _ (fun _ => nil0) (tCons (tVar 0) (tCons (tC (.int 4)) tNil))) (tC (.int 0))))) (te := (tVar 8)) rfl scWa.nd rfl rfl (sw_true rfl rfl rfl (by decide +kernel)) (pi_list (pe_ix ix_list (pv 5) pe_int fun _ _ => rfl)) (blkOk_by (own := [("_law_other", 8)]) (N := nWa) (sc := defScope sWa) (by decide +kernel)) (fun _ _ _ _ _ => (pg_name (i := 8) scWa.nd rfl (by first | exact Or.inl rfl | exact Or.inr rfl))) (fun _ _ _ _ _ => (pts_one (pt_cmpR op_eq (pe_fu TT hr (by rfl) (pa_cons (pv 0) (pa_cons pe_int pa_nil))) pe_int (nomark _)))) (fun _ _ _ _ _ => (pv 8)))
      (pss_one (ps_ret (pe_fu TMx hr (by rfl) (pa_cons (pv 0) (pa_cons (pe_op op_cat (pv 7) (pe_lst (pa_cons (pv 4) pa_nil))) pa_nil)))))))))), ?_⟩
    obtain ⟨p, q, a, b, ps, rs, Hk, n, rfl, P0, hn, T, NA, RO, hp30, hr25, hne, k⟩ := h
    have hlen1 : 1 ≤ (laneNames rs).length := by
      unfold laneNames
      rw [List.length_map]
      exact List.length_pos_iff.mpr hne
    have hlen2 : (laneNames rs).length ≤ 25 := by
      unfold laneNames
      rw [List.length_map]
      exact hr25
    refine s_seq ?_
    refine s_asgL (xs := vtx (laneNames rs)) (el_names (T.mono P0.ex) (by omega) rfl (fun _ => rfl) (fun _ => rfl)) fun ln H1 nln e1 hln => ?_
    have P1 := P0.grow e1
    have lnp : ln ≠ p := P0.ne nln
    have Bk := P1.wo
    have PB := P1.re
    have hlB := wo_at hln lnp
    generalize Wo H1 p = B at Bk PB hlB
    have TB := T.mono Bk
    have hBp := PB.no
    have fin : ∀ d ws H' m, Pl B p m H' → m ≤ n + 200 → B d = none → d ≠ p → H' d = some (.lst (vtx ws)) → ws ≠ [] → (∀ l ∈ ws, l ∈ laneNames rs) → ws.length ≤ 40 → Q (.ref d) H' := fun d ws H' m PH hm hd hdp hH h1 h2 h3 =>
      k d ws H' ((PH.sub Bk P0.no).cnt hm) (fresh_back Bk hd) hdp hH h1 h2 h3
    dsimp only
    refine s_seq ?_
    refine Vdr.s_pickV (p := p) (a := ln) (xs := vtx (laneNames rs)) rfl rfl PB (by omega) hlB (by rw [vtx_len]; exact hlen1) (by rw [vtx_len]; omega) fun i v H2 hv P2 => ?_
    unfold vtx laneNames at hv
    rw [List.getElem?_map, List.getElem?_map, Option.map_map] at hv
    obtain ⟨r, hri, rfl⟩ := Option.map_eq_some_iff.mp hv
    have hr0 : r ∈ rs := List.mem_of_getElem? hri
    have hrl : r.2.1 ∈ laneNames rs := List.mem_map_of_mem (f := fun r : Row => r.2.1) hr0
    have hb : r.2 ∈ bare rs := List.mem_map_of_mem (f := fun r : Row => r.2) hr0
    dsimp only [Function.comp]
    -- many draws
    have many : ∀ (v5 : V) (H5 : Hp) (m : Nat) (R : VK), Pl B p m H5 → m ≤ n + 20 → (∀ d ws H', B d = none → Pl B p (m + 4) H' → H' d = some (.lst (vtx ws)) → 1 ≤ ws.length → ws.length ≤ 3 → (∀ y ∈ ws, y ∈ laneNames rs) → d ≠ p → R (.ref d) H') →
        tLc (iRng1 (tCons (tOp (rI0 fun i j => .int (i + j)) (tC (.int 1)) (tFu spTake (fun _ => nil0) (tCons (tVar 0) (tCons (tC (.int 3)) tNil)))) tNil)) (gName 6) tYes (Vdr.tPick K 0 2) [6] [some (.ref p), some (.ref q), some (.ref ln), none, some (.str (tx r.2.1)), some v5, none, none, none] H5 R := fun v5 H5 m R PH hm kk => by
      refine Vdr.lc_draws (K := K) (p := p) (a := ln) (Hk := B) (n := m + 1) (lo := 1) (M := 3) (xs := laneNames rs) (fun R2 hR => ?_) (by omega) hBp (by omega) hlB (by omega) (fun _ => rfl) (fun _ => rfl) (fun _ => rfl) fun d ys H1 h1 h2 h3 h4 h5 h6 h7 => kk d ys H1 h1 (h2.cnt (by omega)) h3 h5 h4 h6 h7
      refine ⟨_, rfl, p, 3, Wo H5 p, _, rfl, by omega, by omega, PH.re, by omega, fun z H6 z0 z1 hP6 => ?_⟩
      obtain ⟨z, rfl⟩ := Int.eq_ofNat_of_zero_le z0
      refine ⟨1, (z : Int), rfl, rfl, ?_⟩
      have := hR (z + 1) H6 (by omega) (by omega) (.inr hlen1) (PH.back hP6)
      show R2 [V.int ((1 : Int) + (z : Int))] H6
      rw [show (1 : Int) + (z : Int) = ((z + 1 : Nat) : Int) by omega]
      exact this
    refine s_seq ?_
    refine s_asgFu (ea_cons (ev_var rfl) (ea_cons (ev_var rfl) ea_nil)) fun H3 e3 => ⟨q, a, b, ps, rs, r.2, rfl, TB.mono ((P2.grow e3).ex), NA, RO, hp30, by omega, hb, ?_⟩
    have P3 := P2.grow e3
    by_cases hre : Reach (Edge (bare rs)) r.2.2.2 r.2.2.1
    · refine .inl ⟨hre, fun pf px py H4 e4 nf nx ny hf => ?_⟩
      have P4 := P3.grow e4
      have pfp : pf ≠ p := P3.ne nf
      have pyp : py ≠ p := P3.ne ny
      have pxp : px ≠ p := P3.ne nx
      -- the base with the part in it
      have Bk2 := P4.wo
      have PC := P4.re
      have hf4 : PartL (Wo H4 p) pf px py (scc (bare rs) ps r.2.2.1) (inner (bare rs) (scc (bare rs) ps r.2.2.1)) := ⟨wo_at hf.at_ pfp, wo_at hf.posts pxp, wo_at hf.lanes pyp⟩
      generalize Wo H4 p = B2 at Bk2 PC hf4
      dsimp only
      refine s_seq ?_
      refine s_orF (et_test (ev_is (ev_isNo (ev_var (v := .ref pf) rfl)) rfl)) fun H5 e5 => ?_
      have P5 := PC.grow e5
      refine ⟨_, rfl, p, 7, Wo H5 p, _, rfl, by omega, by omega, P5.re, by omega, fun z H6 z0 z1 hP6 => ?_⟩
      obtain ⟨z, rfl⟩ := Int.eq_ofNat_of_zero_le z0
      have P6 := P5.back hP6
      refine ⟨rfl, _, rfl, ?_⟩
      by_cases hz : z = 0
      · refine if_t (by rw [hz]; decide) ?_
        refine s_retE ?_
        exact many _ H6 _ _ (P6.sub Bk2 hBp) (by omega) fun d ws H' h1 h2 h3 h4 h5 h6 h7 => fin d ws H' _ h2 (by omega) h1 h7 h3 (List.length_pos_iff.mp h4) h6 (by omega)
      · refine if_f (by rw [decide_eq_false (fun y => hz (by injection y with y; omega))]; decide) ?_
        refine s_seq ?_
        dsimp only
        refine s_asgE ?_
        have hin : ∀ l ∈ inner (bare rs) (scc (bare rs) ps r.2.2.1), l ∈ laneNames rs := fun l hl => by
          obtain ⟨t, ht, rfl, _⟩ := mem_inner.mp hl
          rw [← names_rows]
          exact List.mem_map_of_mem (f := fun t : List Nat × List Nat × List Nat => t.1) ht
        have hil : (inner (bare rs) (scc (bare rs) ps r.2.2.1)).length ≤ 25 := by
          unfold inner
          rw [List.length_map]
          refine Nat.le_trans (List.length_filter_le _ _) ?_
          unfold bare
          rw [List.length_map]
          exact hr25
        refine Vdr.lc_draw (K := K) (p := p) (B := B2) (n := n + 3) (ys := inner (bare rs) (scc (bare rs) ps r.2.2.1)) (g := fun l => V.str (tx l)) (C := fun _ => True) (P6.cnt (by omega)) (fun Ra ra => ?_) (by omega) (fun _ => rfl) (fun _ => rfl) (fun y H7 m hy P7 hm Q7 q7 => ?_) fun l zs H7 m nl lp P7 hm hl hsub _ => ?_
        · exact (ev_ixA (i := 1) (ev_var (i := 5) rfl) (sq_of (P6.ex _ _ hf4.at_)) rfl : Ev (tOp (rIxL K) (tVar 5) (tC (.int 1))) [some (.ref p), some (.ref q), some (.ref ln), none, some (.str (tx r.2.1)), some (.ref pf), none, none, none] H6 (.ref py)) H6 (Ex.refl _) _ fun Hx ex => ra py Hx pyp ex ((P6.grow ex).ex _ _ hf4.lanes)
        · refine ⟨_, rfl, p, 4, Wo H7 p, _, rfl, by omega, by omega, P7.re, by omega, fun u H8 u0 u1 hP8 => ?_⟩
          exact ⟨rfl, _, rfl, q7 _ _ _ hP8.ex (P7.back hP8) (Nat.le_refl _) (fun _ => trivial)⟩
        · have hB2l : B2 l = none := fresh_back P6.ex nl
          have hl' : H7 l = some (.lst (vtx zs)) := hl
          dsimp only
          refine s_retE ?_
          have key : EvL (tOp rCat (tVar 7) (tLst (tCons (tVar 4) tNil))) [some (.ref p), some (.ref q), some (.ref ln), none, some (.str (tx r.2.1)), some (.ref pf), none, some (.ref l), none] H7 (vtx zs ++ [.str (tx r.2.1)]) := Vdr.el_catL' (ev_var (i := 7) rfl) hl' (el_lst (ea_cons (ev_var (i := 4) rfl) ea_nil) (by show 1 ≤ 100000; decide)) (by rw [vtx_len]; show _ + 1 ≤ _; have := hsub.length_le; omega)
          refine ⟨_, rfl, ?_⟩
          refine key H7 (Ex.refl _) _ fun m1 H8 nm e8 hm1 => ?_
          have P8 := P7.grow e8
          have hzl := hsub.length_le
          refine ⟨p, m1, _, Wo H8 p, m, rfl, P8.re, by omega, wo_at hm1 (P7.ne nm), by rw [List.length_append, vtx_len]; show _ + 1 ≤ _; omega, fun d ys H9 nd P9 hd hperm => ?_⟩
          obtain ⟨ws, rfl, hws⟩ := perm_mapG (f := fun l => V.str (tx l)) hperm (zs ++ [r.2.1]) (by rw [List.map_append]; rfl)
          have P9' := P8.back P9
          refine fin d ws H9 _ (P9'.sub Bk2 hBp) (by omega) (fresh_back Bk2 (fresh_back P8.ex nd)) (P8.ne nd) hd ?_ ?_ ?_
          · intro z
            have := hws.length_eq
            rw [z, List.length_append] at this
            exact absurd this (by show ¬ 0 = _ + 1; omega)
          · intro x hx
            rcases List.mem_append.mp (hws.mem_iff.mp hx) with hx | hx
            · exact hin x (hsub.subset hx)
            · rw [List.mem_singleton.mp hx]
              exact hrl
          · rw [hws.length_eq, List.length_append]
            show _ + 1 ≤ 40
            omega
    · refine .inr ⟨hre, fun H4 e4 => ?_⟩
      have P4 := P3.grow e4
      dsimp only
      refine s_seq ?_
      refine s_orT (et_test (ev_is (ev_isNo (ev_var (v := .non) rfl)) rfl)) fun H5 e5 => ?_
      refine s_retE ?_
      exact many _ H5 _ _ (P4.grow e5) (by omega) fun d ws H' h1 h2 h3 h4 h5 h6 h7 => fin d ws H' _ h2 (by omega) h1 h7 h3 (List.length_pos_iff.mp h4) h6 (by omega)
end
def spIp : Sp := fun vs H Q _ => ∃ (q a b wl : Addr) (ps : List (List Nat)) (rs : List Row) (ws : List (List Nat)), vs = [.ref q, .ref wl] ∧ Told H q a b ps rs ∧ Names ps ∧ RowsOk ps rs ∧ ps.length ≤ 30 ∧ rs.length ≤ 30 ∧ H wl = some (.lst (vtx ws)) ∧ ws ≠ [] ∧ ws.length ≤ 1000 ∧ (∀ l ∈ ws, l ∈ laneNames rs) ∧
  (∀ part, partW (bare rs) ps ws = some part → ∀ f x y H', Ex H H' → PartL H' f x y part.1 part.2 → Q (.ref f) H') ∧ (partW (bare rs) ps ws = none → ∀ H', Ex H H' → Q .non H')
theorem filt_nil {α : Type} {c : α → Bool} {ys : List α} : (decide (ys.filter (fun y => !c y) = [])) = ys.all c := by
  refine Bool.eq_iff_iff.mpr ?_
  rw [decide_eq_true_iff, List.filter_eq_nil_iff, List.all_eq_true]
  exact ⟨fun h y hy => by
    have := h y hy
    cases e : c y with
    | true => rfl
    | false => rw [e] at this; exact absurd rfl this, fun h y hy => by rw [h y hy]; decide⟩
section
variable {P : Program} {w : World} {K : PySem.W.Frag} {mg : Str → Option Value} {base : Heap} {CA C BN NT NP NL NW : Addr}
theorem scIp : FnScope nIp ["_law_parts", "_law_wanted_here"] (defScope sIp) := ⟨rfl, rfl, rfl, by decide +kernel, rfl, by decide +kernel, by decide +kernel⟩
theorem ok_ip {f : Addr} {fd : FuncData} (F : FnP K "_law_in_part" sIp f fd) (TPt : Fu P w K mg base L2.CX0 2 "_law_part" spPt) : FnOk P w K mg base L2.CX0 3 f fd ["_law_parts", "_law_wanted_here"] spIp := by
  refine F.ok (CX := L2.CX0) scIp (fun vs H Q E h => ?_) (fun cdv A outer s H vs Q E hr h => ?_)
  · obtain ⟨q, a, b, wl, ps, rs, ws, rfl, _⟩ := h
    rfl
  · refine ⟨_, (pss_cons (ps_set (i := 2) scIp.nd rfl (by first | exact Or.inl rfl | exact Or.inr rfl) (pe_fu TPt hr (by rfl) (pa_cons (pv 0) (pa_cons (pe_ix ix_list (pv 1) pe_int fun _ _ => rfl) pa_nil))))
      (pss_cons (ps_if (PW.pt (pw_or (pt_cmpR op_isN (pv 2) pe_non (nomark _)) (pw_or1 (pt_cmpR (op_neD hr.units) (pe_lc (own := [("_law_lane", 3)]) (g := (gName 3)) (tt := (tTest (tOp (rIn K true) (tVar 3) (tOp (rIxL K) (tVar 2) (tC (.int 1)))))) (te := (tVar 3)) rfl scIp.nd (pi_list (pv 1)) (blkOk_by (own := [("_law_lane", 3)]) (N := nIp) (sc := defScope sIp) (by decide +kernel)) (fun _ _ _ _ _ => (pg_name (i := 3) scIp.nd rfl (by first | exact Or.inl rfl | exact Or.inr rfl))) (fun _ _ _ _ _ => (pts_one (pt_cmpR op_notIn_seq (pv 3) (pe_ix ix_list (pv 2) pe_int fun _ _ => rfl) rfl))) (fun _ _ _ _ _ => (pv 3))) (pe_lst pa_nil) (nomark _))))) (pss_one (ps_ret pe_non)) pss_nil)
      (pss_one (ps_ret (pv 2))))), ?_⟩
    obtain ⟨q, a, b, wl, ps, rs, ws, rfl, T, NA, RO, hp30, hr30, hwl, hne, hw, hin, k1, k2⟩ := h
    obtain ⟨l0, wr, hws⟩ := List.exists_cons_of_ne_nil hne
    have hl0 : l0 ∈ ws := by rw [hws]; exact List.mem_cons_self
    obtain ⟨r, hr0, hrl⟩ := List.mem_map.mp (show l0 ∈ rs.map fun r : Row => r.2.1 from hin l0 hl0)
    have hb : r.2 ∈ bare rs := List.mem_map_of_mem (f := fun r : Row => r.2) hr0
    have hl : r.2.1 ∈ ws := by rw [hrl]; exact hl0
    refine s_seq ?_
    refine s_asgFu (vs := [.ref q, .str (tx r.2.1)]) (ea_cons (ev_var rfl) (ea_cons (ev_op (ev_var rfl) ev_c (rv_ixL (sq_of hwl) (at_of (j := 0) rfl (by rw [hws, hrl]; rfl)))) ea_nil)) fun H1 e1 => ⟨q, a, b, ps, rs, r.2, rfl, T.mono e1, NA, RO, hp30, hr30, hb, ?_⟩
    by_cases hre : Reach (Edge (bare rs)) r.2.2.2 r.2.2.1
    · refine .inl ⟨hre, fun pf px py H2 e2 nf nx ny hf => ?_⟩
      have e12 := e1.trans e2
      have hw2 := e12 _ _ hwl
      have hoks : Oks (ws.filter fun y => !(decide (y ∈ inner (bare rs) (scc (bare rs) ps r.2.2.1)))) := oks_nam fun y hy => RO.1.1 y (hin y (List.mem_filter.mp hy).1)
      dsimp only
      refine s_seq ?_
      have hlc : ∀ H3, Ex H2 H3 → EvL (tLc (iList K (tVar 1)) (gName 3) (tTest (tOp (rIn K true) (tVar 3) (tOp (rIxL K) (tVar 2) (tC (.int 1))))) (tVar 3) [3]) [some (.ref q), some (.ref wl), some (.ref pf), none] H3 (vtx (ws.filter fun y => !(decide (y ∈ inner (bare rs) (scc (bare rs) ps r.2.2.1))))) := fun H3 e3 => el_lcA (K := K) (j := 3) (vs := [3]) (ys := ws) (g := fun l => V.str (tx l)) (fun y => !(decide (y ∈ inner (bare rs) (scc (bare rs) ps r.2.2.1)))) (fun l => V.str (tx l)) (ev_var (i := 1) rfl) (sq_of (e3 _ _ hw2)) (by omega) (fun x => rfl) (fun y H6 e6 hy => et_test (ev_is (ev_op (ev_var rfl) (ev_ixA (i := 1) (ev_var (i := 2) rfl) (sq_of ((e3.trans e6) _ _ hf.at_)) rfl) (rv_niL (sq_of ((e3.trans e6) _ _ hf.lanes)) rfl (flat_vtx _))) (by rw [inV_vtx]))) (fun y H6 e6 hy _ => ev_var rfl)
      refine s_when (b := !(holdsAll ws (partP (bare rs) ps r.2.2.1))) (et_is (et_or (a := false) (b := !decide ((ws.filter fun y => !(decide (y ∈ inner (bare rs) (scc (bare rs) ps r.2.2.1)))) = [])) (et_test (ev_is (ev_isNo (ev_var (v := .ref pf) rfl)) rfl)) (fun _ => et_test (ev_is (ev_neD (ed_Ln (hlc H2 (Ex.refl _))) (ed_Ln (xs := []) (el_lst ea_nil (by decide))) (sh_l hoks) (sh_l oks_nil)) (by rw [eq_l])))) (by rw [filt_nil]; rfl)) (fun hb2 H3 e3 => ?_) (fun hb2 H3 e3 => ?_)
      · refine s_ret (v := .non) ev_c fun H4 e4 => ?_
        refine k2 (partW_out RO hb hl ?_) H4 ((e12.trans e3).trans e4)
        cases z : holdsAll ws (partP (bare rs) ps r.2.2.1) with
        | false => rfl
        | true => rw [z] at hb2; cases hb2
      · refine s_ret (ev_var rfl) fun H4 e4 => ?_
        refine k1 _ (partW_some RO hb hl hre ?_) pf px py H4 ((e12.trans e3).trans e4) (hf.mono (e3.trans e4))
        cases z : holdsAll ws (partP (bare rs) ps r.2.2.1) with
        | true => rfl
        | false => rw [z] at hb2; cases hb2
    · refine .inr ⟨hre, fun H2 e2 => ?_⟩
      dsimp only
      refine s_seq ?_
      refine s_orT (et_test (ev_is (ev_isNo (ev_var (v := .non) rfl)) rfl)) fun H3 e3 => ?_
      refine s_ret (v := .non) ev_c fun H4 e4 => ?_
      exact k2 (partW_none RO hb hl hre) H4 (((e1.trans e2).trans e3).trans e4)
end
end K17

set_option Elab.async false
set_option linter.all false
set_option maxRecDepth 100000
set_option maxHeartbeats 2000000
/-! A def of the module called with its last parameters left to their defaults. -/
namespace Vdf
open PySem PySem.Spec PyProof.Rows L2 Evl Vtr Vo Vc
structure FuD (P : Program) (w : World) (K : PySem.W.Frag) (mg : Str → Option Value) (base : Heap) (CX : CXT) (k : Nat) (x : Str) (sp : Sp) (dvs : List V) : Prop where
  ex : ∃ (f : Addr) (fd : FuncData) (ps : List Str) (ds : List Value), FnOk P w K mg base CX k f fd ps sp ∧ mg x = some (.ref f) ∧ PySem.W.keepIn K (.ref f) = true ∧ L2.Binds K fd ps ds ∧ Vals dvs ds
section
variable {X : Cx} {j k : Nat} {x : Str} {sp : Sp} {dvs : List V} {p pos : Pos} {e : Expr} {es : List Expr} {t : TA}
theorem pe_fuD (T : FuD X.prog X.w X.K X.mg X.base L2.CX0 k x sp dvs) (hr : Room j X.A) (hg : Gl X x) (ha : PA X (e :: es) t) (hk : k ≤ j := by decide) (hdb : (x == ("__debug__" : Str)) = false := by decide)
    (he : starEach (e :: es) X.env = (false, eval e X.env) :: starEach es X.env := by rfl) (hpl : (backTo pos (starEach es X.env)).any (·.1) = false := by rfl) : PE X (.Call (.Name x p) (e :: es) [] pos) (tCall sp dvs nil0 t) := by
  obtain ⟨f, fd, ps, ds, F, hm, kp, b, d⟩ := T.ex
  exact pe_call F (hr.mono hk) hg hm kp b d pass0 ha hdb he hpl
end
end Vdf

set_option Elab.async false
set_option linter.all false
set_option maxRecDepth 100000
set_option maxHeartbeats 4000000
/-! The class Round, made and asked for its lanes. -/
namespace K17
open PySem PySem.Spec PyProof.Rows L2 Vl Evl Vp Vr Vx2 Vlk Vda Vc Ve Ven Vlt Vrc Vwy
abbrev sCs : Stmt := top 20
abbrev nCs : List Str := ["names", "name"]
def memR (i : Nat) : Stmt := (clB (top 73)).getD i (.Pass ⟨0, 0, 0, 0⟩)
abbrev sRi : Stmt := memR 0
abbrev sRl : Stmt := memR 1
abbrev nRi : List Str := ["self", "lanes"]
abbrev nRl : List Str := ["self"]
def spCs (K : PySem.W.Frag) : Sp := fun vs H Q _ => ∃ (p : Addr) (a : List (List Nat)), vs = [.ref p] ∧ SqA K H p (vtx a) ∧ (∀ l ∈ a, nam l) ∧ a ≠ [] ∧ ∀ H', Ex H H' → Q .non H'
/-- a round of lanes -/
structure RndAt (CR : Addr) (H : Hp) (o t dx : Addr) (a : List (List Nat)) : Prop where
  at_ : H o = some (.ins CR dx [("_lanes", .ref t)])
  lanes : H t = some (.tup (vtx a))
theorem RndAt.mono {CR : Addr} {H H' : Hp} {o t dx : Addr} {a : List (List Nat)} (e : Ex H H') (h : RndAt CR H o t dx a) : RndAt CR H' o t dx a := ⟨e _ _ h.at_, e _ _ h.lanes⟩
def spRi (CR : Addr) : Sp := fun vs H Q _ => ∃ (x dx p : Addr) (H0 : Hp) (a : List (List Nat)), vs = [.ref x, .ref p] ∧ H = upd (upd H0 dx (.own x)) x (.ins CR dx []) ∧ H0 x = none ∧ H0 dx = none ∧ dx ≠ x ∧ H0 p = some (.lst (vtx a)) ∧ (∀ l ∈ a, nam l) ∧ a ≠ [] ∧
  ∀ t H', Ex H0 H' → RndAt CR H' x t dx a → Q .non H'
def spRl (CR : Addr) : Sp := fun vs H Q _ => ∃ (o t dx : Addr) (a : List (List Nat)), vs = [.ref o] ∧ RndAt CR H o t dx a ∧ ∀ H', Ex H H' → Q (.ref t) H'
section
variable {P : Program} {w : World} {K : PySem.W.Frag} {mg : Str → Option Value} {base : Heap} {CR CN : Addr}
theorem scCs : FnScope nCs ["names"] (defScope sCs) := ⟨rfl, rfl, rfl, by decide +kernel, rfl, by decide +kernel, by decide +kernel⟩
theorem ok_cs {f : Addr} {fd : FuncData} (F : FnP K "check_sequence" sCs f fd) (TCn : Fu P w K mg base (L2.CX P w) 3 "check_name" (spChkN CN)) (mLen : mg "len" = none) : FnOk P w K mg base L2.CX0 4 f fd ["names"] (spCs K) := by
  refine F.ok (CX := L2.CX0) scCs (fun vs H Q E h => ?_) (fun cdv A outer s H vs Q E hr h => ?_)
  · obtain ⟨p, a, rfl, _⟩ := h
    rfl
  · refine ⟨_, (pss_cons (ps_if (pt_cmpR op_eq (pe_callB call_len (by rfl) mLen boot_len (pa_cons (pv 0) pa_nil)) pe_int (nomark _)) Vnev.pss_never pss_nil)
      (pss_one (ps_for (passes_of rfl) rfl (pi_seqA (pv 0)) (pg_name (i := 1) scCs.nd rfl (by first | exact Or.inl rfl | exact Or.inr rfl)) (pss_one (ps_expr (pe_fuN TCn hr (by rfl) (pa_cons (pv 1) pa_nil))))))), ?_⟩
    obtain ⟨p, a, rfl, hp, hn, hne, q⟩ := h
    refine s_seq ?_
    refine s_when (b := false) (et_test (ev_is (ev_op (ev_lenQ (ev_var rfl) hp) ev_c (rv_eq rfl)) (by
      rw [vtx_len, decide_eq_false]
      intro z
      injection z with z
      exact hne (List.length_eq_zero_iff.mp (by omega))))) (fun z => by cases z) fun _ H1 e1 => ?_
    refine s_forSq (a := p) (ev_var rfl) (ex_a e1 hp) (fun i st H' => ∃ t1, st = [some (.ref p), t1] ∧ Ex H1 H') (fun H2 e2 => ⟨none, rfl, e2⟩) (fun i st H' ⟨_, _, e⟩ => e) ?_ ?_
    · rintro i x st H2 hx ⟨t1, rfl, e2⟩
      unfold vtx at hx
      rw [List.getElem?_map] at hx
      obtain ⟨l, hl, rfl⟩ := Option.map_eq_some_iff.mp hx
      refine ⟨_, rfl, l, rfl, .inl ⟨hn l (List.mem_of_getElem? hl), fun H3 e3 => ?_⟩⟩
      exact ⟨_, rfl, e2.trans e3⟩
    · rintro st H2 ⟨t1, rfl, e2⟩
      exact q H2 (e1.trans e2)
theorem scRi : FnScope nRi ["self", "lanes"] (defScope sRi) := ⟨rfl, rfl, rfl, by decide +kernel, rfl, by decide +kernel, by decide +kernel⟩
theorem ok_ri {f : Addr} {fd : FuncData} (F : FnM K "__init__" "Round.__init__" sRi f fd) (c : Cls K CR) (n1 : NoAttr K CR "_lanes") (TCs : Fu P w K mg base L2.CX0 4 "check_sequence" (spCs K)) (mTuple : mg "tuple" = none) : FnOk P w K mg base L2.CX0 5 f fd ["self", "lanes"] (spRi CR) := by
  refine F.ok (CX := L2.CX0) scRi (fun vs H Q E h => ?_) (fun cdv A outer s H vs Q E hr h => ?_)
  · obtain ⟨x, dx, p, H0, a, rfl, _⟩ := h
    rfl
  · refine ⟨_, (pss_cons (ps_expr (pe_fu TCs hr (by rfl) (pa_cons (pv 1) pa_nil)))
      (pss_one (ps_fld (pv 0) (pe_callTy call_tuple_of (by rfl) mTuple boot_tuple (pa_cons (pv 1) pa_nil)) (by rfl)))), ?_⟩
    obtain ⟨x, dx, p, H0, a, rfl, rfl, hx, hdx, hne, hp, hn, h0, q⟩ := h
    have e0 : Ex H0 (upd (upd H0 dx (.own x)) x (.ins CR dx [])) := (Ex.new hdx).trans (Ex.new (by rw [upd_ne hne.symm]; exact hx))
    refine s_seq ?_
    refine ⟨_, rfl, p, a, rfl, .inl (sq_of (e0 _ _ hp)), hn, h0, fun H1 e1 => ?_⟩
    have hx1 : H1 x = some (.ins CR dx []) := e1 _ _ upd_same
    have hp1 := (e0.trans e1) _ _ hp
    refine ⟨_, rfl, p, vtx a, rfl, .inl ⟨sq_of hp1, fun t nt => ?_⟩⟩
    have tx : t ≠ x := fun z => by rw [z, hx1] at nt; cases nt
    refine ⟨_, rfl, x, CR, dx, [], rfl, (upd_ne tx.symm).trans hx1, c, n1, by show 0 < 1000; omega, ?_⟩
    exact q t _ (Ex.mut ((e0.trans e1).trans (Ex.new nt)) hx) ⟨upd_same, (upd_ne tx).trans upd_same⟩
theorem scRl : FnScope nRl ["self"] (defScope sRl) := ⟨rfl, rfl, rfl, by decide +kernel, rfl, by decide +kernel, by decide +kernel⟩
theorem ok_rl {f : Addr} {fd : FuncData} (F : FnM K "lanes" "Round.lanes" sRl f fd) (c : Cls K CR) (n1 : NoAttr K CR "_lanes") : FnOk P w K mg base L2.CX0 1 f fd ["self"] (spRl CR) := by
  refine F.ok (CX := L2.CX0) scRl (fun vs H Q E h => ?_) (fun cdv A outer s H vs Q E hr h => ?_)
  · obtain ⟨o, t, dx, a, rfl, _⟩ := h
    rfl
  · refine ⟨_, (pss_one (ps_ret (pe_fld (pv 0) rfl))), ?_⟩
    obtain ⟨o, t, dx, a, rfl, R, q⟩ := h
    exact s_ret (ev_fld (ev_var rfl) R.at_ c n1 rfl) fun H1 e1 => q H1 e1
end
end K17

set_option Elab.async false
set_option linter.all false
set_option maxRecDepth 100000
set_option maxHeartbeats 4000000
/-! Ways on a graph of posts: traced, way_until. -/
namespace K17
open PySem PySem.Spec PyProof.Rows L2 Vl Evl Vp Vr Vx2 Vlk Vda Vc Ve Ven Vlt Vrc Vwy Vdf
abbrev sTr : Stmt := top 61
abbrev nTr : List Str := ["came", "node", "lanes", "lane"]
abbrev sWu : Stmt := top 62
abbrev nWu : List Str := ["leads", "start", "lanes", "end", "came", "queue", "at", "here", "lane", "there"]
/-- a node of a graph: its list, its name, its rows (tuple, lane, where it leads) -/
abbrev GRow : Type := Addr × (List Nat × List (Addr × (List Nat × List Nat)))
def nodes (gs : List GRow) : List (List Nat) := gs.map fun g => g.2.1
def dLeads (gs : List GRow) : List (Key × V) := dMap (gs.map fun g => (g.1, g.2.1))
def GE (gs : List GRow) (l b c : List Nat) : Prop := ∃ g ∈ gs, g.2.1 = b ∧ ∃ e ∈ g.2.2, e.2 = (l, c)
def GN (gs : List GRow) (b c : List Nat) : Prop := ∃ l, GE gs l b c
structure LeadsAt (H : Hp) (d : Addr) (gs : List GRow) : Prop where
  dct : H d = some (.dK (dLeads gs))
  rows : ∀ g ∈ gs, H g.1 = some (.lst (g.2.2.map fun e => V.ref e.1))
  tups : ∀ g ∈ gs, ∀ e ∈ g.2.2, H e.1 = some (.tup [.str (tx e.2.1), .str (tx e.2.2)])
theorem LeadsAt.mono {H H' : Hp} {d : Addr} {gs : List GRow} (e : Ex H H') (h : LeadsAt H d gs) : LeadsAt H' d gs := ⟨e _ _ h.dct, fun g hg => e _ _ (h.rows g hg), fun g hg r hr => e _ _ (h.tups g hg r hr)⟩
structure GOk (gs : List GRow) : Prop where
  nd : (nodes gs).Nodup
  cl : ∀ g ∈ gs, ∀ e ∈ g.2.2, e.2.2 ∈ nodes gs
  few : gs.length ≤ 30
theorem leads_get {gs : List GRow} {l : List Nat} (h : l ∈ nodes gs) : ∃ g ∈ gs, g.2.1 = l ∧ valV (dLeads gs) (Sum.inr (tx l) : Key) = some (V.ref g.1) := by
  obtain ⟨z, hz, hzl, hv⟩ := map_get (zs := gs.map fun g => (g.1, g.2.1)) (l := l) (by rw [List.map_map]; exact h)
  obtain ⟨g, hg, rfl⟩ := List.mem_map.mp hz
  exact ⟨g, hg, hzl, hv⟩
theorem ge_own {gs : List GRow} (G : GOk gs) {g : GRow} (hg : g ∈ gs) {l c : List Nat} (h : GE gs l g.2.1 c) : ∃ e ∈ g.2.2, e.2 = (l, c) := by
  obtain ⟨g2, hg2, he, e, h1, h2⟩ := h
  obtain ⟨i, hi⟩ := List.getElem?_of_mem hg
  obtain ⟨j, hj⟩ := List.getElem?_of_mem hg2
  have h3 : (nodes gs)[i]? = some g.2.1 := by unfold nodes; rw [List.getElem?_map, hi]; rfl
  have h4 : (nodes gs)[j]? = some g.2.1 := by unfold nodes; rw [List.getElem?_map, hj]; exact congrArg some he
  rw [nd_ix G.nd h3 h4, hj] at hi
  obtain rfl := Option.some.inj hi
  exact ⟨e, h1, h2⟩
theorem wk_in {gs : List GRow} (G : GOk gs) {a b : List Nat} {ls : List (List Nat)} (h : Wk (GE gs) a b ls) (ha : a ∈ nodes gs) : b ∈ nodes gs := by
  induction h with
  | nil => exact ha
  | snoc _ he _ =>
    obtain ⟨g, hg, _, e, h1, h2⟩ := he
    have := G.cl g hg e h1
    rw [h2] at this
    exact this
/-! what came: a node, and (tuple, node ahead, lane) -/
abbrev CE : Type := List Nat × Option (Addr × (List Nat × List Nat))
def cv : Option (Addr × (List Nat × List Nat)) → V
  | none => .non
  | some p => .ref p.1
def ckeys (cs : List CE) : List (List Nat) := cs.map fun c => c.1
def dCame (cs : List CE) : List (Key × V) := cs.map fun c => ((Sum.inr (tx c.1) : Key), cv c.2)
theorem came_get {cs : List CE} (nd : (ckeys cs).Nodup) {c : CE} (h : c ∈ cs) : valV (dCame cs) (Sum.inr (tx c.1) : Key) = some (cv c.2) := by
  induction cs with
  | nil => cases h
  | cons x r ih =>
    unfold dCame
    rw [List.map_cons]
    have nd2 := List.nodup_cons.mp nd
    rcases List.mem_cons.mp h with rfl | h
    · rw [valV_pos rfl]
    · rw [valV_neg (fun z => nd2.1 (by show x.1 ∈ r.map fun c => c.1; rw [show x.1 = c.1 from tx_inj (Sum.inr.inj z)]; exact List.mem_map_of_mem (f := fun c : CE => c.1) h))]
      exact ih nd2.2 h
theorem came_none {cs : List CE} {l : List Nat} (h : l ∉ ckeys cs) : valV (dCame cs) (Sum.inr (tx l) : Key) = none := by
  induction cs with
  | nil => rfl
  | cons x r ih =>
    unfold dCame
    rw [List.map_cons, valV_neg (fun z => h (by rw [← tx_inj (Sum.inr.inj z)]; exact List.mem_cons_self))]
    exact ih fun z => h (List.mem_cons_of_mem _ z)
theorem came_val {cs : List CE} (nd : (ckeys cs).Nodup) (l : List Nat) : (valV (dCame cs) (Sum.inr (tx l) : Key)).isSome = decide (l ∈ ckeys cs) := by
  by_cases h : l ∈ ckeys cs
  · obtain ⟨c, hc, rfl⟩ := List.mem_map.mp (show l ∈ cs.map fun c => c.1 from h)
    rw [came_get nd hc, decide_eq_true h]
    rfl
  · rw [came_none h, decide_eq_false h]
    rfl
inductive Tr (cs : List CE) : List Nat → List (List Nat) → Prop
  | nil {n : List Nat} : (n, none) ∈ cs → Tr cs n []
  | snoc {n p l : List Nat} {a : Addr} {ls : List (List Nat)} : (n, some (a, p, l)) ∈ cs → Tr cs p ls → Tr cs n (ls ++ [l])
theorem Tr.mono {cs cs' : List CE} (h : ∀ c ∈ cs, c ∈ cs') {n : List Nat} {ls : List (List Nat)} (t : Tr cs n ls) : Tr cs' n ls := by
  induction t with
  | nil hm => exact .nil (h _ hm)
  | snoc hm _ ih => exact .snoc (h _ hm) ih
def TupsAt (H : Hp) (cs : List CE) : Prop := ∀ c ∈ cs, ∀ p, c.2 = some p → H p.1 = some (.tup [.str (tx p.2.1), .str (tx p.2.2)])
def spTr : Sp := fun vs H Q _ => ∃ (d : Addr) (cs : List CE) (n : List Nat) (ls : List (List Nat)), vs = [.ref d, .str (tx n)] ∧ H d = some (.dK (dCame cs)) ∧ (ckeys cs).Nodup ∧ TupsAt H cs ∧ Tr cs n ls ∧ ls.length ≤ 1000 ∧
  ∀ q H', Ex H H' → H q = none → H' q = some (.lst (vtx ls)) → Q (.ref q) H'
theorem el_rev {K : PySem.W.Frag} {σ : L2.St} {H : Hp} {te : TE} {a : Addr} {xs : List V} (h : Ev te σ H (.ref a)) (hx : SqL K H a xs) : EvL (tRevL K te) σ H xs.reverse := fun H1 e Q q => h H1 e _ fun H2 e2 => ⟨a, xs, rfl, ex_l (e.trans e2) hx, fun r nr => q r _ (fresh_back e2 nr) (e2.trans (Ex.new nr)) upd_same⟩
section
variable {P : Program} {w : World} {K : PySem.W.Frag} {mg : Str → Option Value} {base : Heap}
theorem scTr : FnScope nTr ["came", "node"] (defScope sTr) := ⟨rfl, rfl, rfl, by decide +kernel, rfl, by decide +kernel, by decide +kernel⟩
theorem ok_tr {f : Addr} {fd : FuncData} (F : FnP K "traced" sTr f fd) : FnOk P w K mg base L2.CX0 1 f fd ["came", "node"] spTr := by
  refine F.ok (CX := L2.CX0) scTr (fun vs H Q E h => ?_) (fun cdv A outer s H vs Q E hr h => ?_)
  · obtain ⟨d, cs, n, ls, rfl, _⟩ := h
    rfl
  · refine ⟨_, (pss_cons (ps_set (i := 2) scTr.nd rfl (by first | exact Or.inl rfl | exact Or.inr rfl) (pe_lst pa_nil))
      (pss_cons (ps_while (passes_of rfl) (pt_cmpR op_notN (pe_dget (Nat.lt_of_le_of_lt (Nat.add_le_add_left (show 1 ≤ 64 by decide) _) hr.units) (pv 0) (pv 1) (fun _ _ => rfl)) pe_non (nomark _)) (pss_cons (ps_asg (pe_dget (Nat.lt_of_le_of_lt (Nat.add_le_add_left (show 1 ≤ 64 by decide) _) hr.units) (pv 0) (pv 1) (fun _ _ => rfl)) (pg_tup rfl (pgs_cons (pg_name (i := 1) scTr.nd rfl (by first | exact Or.inl rfl | exact Or.inr rfl)) (pgs_cons (pg_name (i := 3) scTr.nd rfl (by first | exact Or.inl rfl | exact Or.inr rfl)) pgs_nil))))
      (pss_one (ps_expr (pe_bm PySem.F.plainAttrs_list PySem.F.slot_list_append PySem.F.type_list_append mt_append (pv 2) (pa_cons (pv 3) pa_nil))))))
      (pss_one (ps_ret (pe_revL (pv 2)))))), ?_⟩
    obtain ⟨d, cs, n, ls, rfl, hd, nd, tp, tr, hlen, k⟩ := h
    refine s_seq ?_
    refine s_asgL (el_lst ea_nil (by decide)) fun q H1 nq e1 hq => ?_
    dsimp only
    refine q_while (fun m st H' => ∃ (t3 : Option V) (node : List Nat) (rem app : List (List Nat)), st = [some (.ref d), some (.str (tx node)), some (.ref q), t3] ∧ Tr cs node rem ∧ rem ++ app.reverse = ls ∧ Ex H H' ∧ H' q = some (.lst (vtx app)) ∧ m = rem.length) ls.length
      ⟨none, n, ls, [], rfl, tr, List.append_nil _, e1, hq, rfl⟩ ?_
    rintro m st H2 ⟨t3, node, rem, app, rfl, tr2, hra, e2, hq2, rfl⟩
    have hd2 := e2 _ _ hd
    have happ : rem.length + app.length = ls.length := by rw [← hra, List.length_append, List.length_reverse]
    cases tr2 with
    | nil hm =>
      have hv := came_get nd hm
      refine ⟨false, et_test (ev_is (ev_notNo (ev_dget (v := .non) (ev_var rfl) (ev_var rfl) (by rw [show (some V.non) = valV (dCame cs) (Sum.inr (tx node) : Key) from hv.symm]; exact DGet.k (k := (Sum.inr (tx node) : Key)) hd2))) rfl), (fun z => by cases z), fun _ H3 e3 => ?_⟩
      refine s_retL (xs := vtx ls) ?_ fun r H4 nr e4 hr4 => k r H4 ((e2.trans e3).trans e4) (fresh_back (e2.trans e3) nr) hr4
      have := el_rev (K := K) (te := tVar 2) (σ := [some (.ref d), some (.str (tx node)), some (.ref q), t3]) (ev_var rfl) (sq_of (e3 _ _ hq2))
      rw [show (vtx app).reverse = vtx ls by rw [← hra]; unfold vtx; rw [← List.map_reverse]; rfl] at this
      exact this
    | @snoc _ p l a rem' hm tr3 =>
      have hv := came_get nd hm
      have htp := tp _ hm _ rfl
      have hev : ∀ {H3 : Hp}, Ex H2 H3 → Ev (tDGet (tVar 0) (tVar 1)) [some (.ref d), some (.str (tx node)), some (.ref q), t3] H3 (.ref a) := fun e => ev_dget (ev_var rfl) (ev_var rfl) (by rw [show (some (V.ref a)) = valV (dCame cs) (Sum.inr (tx node) : Key) from hv.symm]; exact DGet.k (k := (Sum.inr (tx node) : Key)) (e _ _ hd2))
      refine ⟨true, et_test (ev_is (ev_notNo (hev (Ex.refl _))) rfl), fun _ H3 e3 => ?_, (fun z => by cases z)⟩
      refine ⟨fun st H' => ∃ (t3 : Option V) (node : List Nat) (app : List (List Nat)), st = [some (.ref d), some (.str (tx node)), some (.ref q), t3] ∧ Tr cs node rem' ∧ rem' ++ app.reverse = ls ∧ Ex H H' ∧ H' q = some (.lst (vtx app)), ?_, ?_⟩
      · rintro st H4 ⟨t3, node, app, rfl, h1, h2, h3, h4⟩
        exact ⟨rem'.length, by rw [List.length_append]; exact Nat.lt_succ_self _, t3, node, rem', app, rfl, h1, h2, h3, h4, rfl⟩
      · refine s_seq ?_
        refine hev e3 H3 (Ex.refl _) _ fun H4 e4 => ?_
        refine ⟨a, _, rfl, st_of ((e2.trans (e3.trans e4)) _ _ htp), rfl, ?_⟩
        refine ⟨_, _, rfl, _, _, rfl, rfl, ?_⟩
        dsimp only
        refine s_app (l := q) (xs := vtx app) ((e3.trans e4) _ _ hq2) (ev_var rfl) (ev_var rfl) (by rw [vtx_len]; omega) fun H5 e5 => ?_
        refine ⟨_, p, app ++ [l], rfl, tr3, ?_, Ex.mut (((e2.trans e3).trans e4).trans e5) nq, ?_⟩
        · rw [List.reverse_append]
          show rem' ++ ([l] ++ app.reverse) = ls
          rw [← hra, List.append_assoc]
        · rw [upd_same, vtx_app]
          rfl
end
def hit (ws : List (List Nat)) (ev : V) (l c : List Nat) : Bool := decide (l ∈ ws) || decide (V.str (tx c) = ev)
def spWu (K : PySem.W.Frag) : Sp := fun vs H Q _ => ∃ (dl ln : Addr) (gs : List GRow) (s : List Nat) (ws : List (List Nat)) (ev : V), vs = [.ref dl, .str (tx s), .ref ln, ev] ∧ LeadsAt H dl gs ∧ GOk gs ∧ SqA K H ln (vtx ws) ∧ (ev = .non ∨ ∃ e, ev = .str (tx e)) ∧ s ∈ nodes gs ∧ (∃ l b c, Reach (GN gs) s b ∧ GE gs l b c ∧ hit ws ev l c = true) ∧
  ∀ t wy ls l c H', Ex H H' → H wy = none → H' t = some (.tup [.ref wy, .str (tx c)]) → H' wy = some (.lst (vtx (ls ++ [l]))) → Wk (GE gs) s c (ls ++ [l]) → hit ws ev l c = true → ls.length ≤ 30 → Q (.ref t) H'
/-- the search: what came, the queue -/
structure BS (H0 H : Hp) (d q : Addr) (gs : List GRow) (s : List Nat) (cs : List CE) : Prop where
  ex : Ex H0 H
  fd : H0 d = none
  fq : H0 q = none
  dct : H d = some (.dK (dCame cs))
  que : H q = some (.lst (vtx (ckeys cs)))
  tup : TupsAt H cs
  inn : ∀ c ∈ cs, c.1 ∈ nodes gs
  tr : ∀ c ∈ cs, ∃ ls, Tr cs c.1 ls ∧ Wk (GE gs) s c.1 ls ∧ ls.length < cs.length
theorem BS.grow {H0 H H' : Hp} {d q : Addr} {gs : List GRow} {s : List Nat} {cs : List CE} (h : BS H0 H d q gs s cs) (e : Ex H H') : BS H0 H' d q gs s cs :=
  ⟨h.ex.trans e, h.fd, h.fq, e _ _ h.dct, e _ _ h.que, fun c hc p hp => e _ _ (h.tup c hc p hp), h.inn, h.tr⟩
theorem str_eq {a b : List Nat} : decide (V.str (tx a) = V.str (tx b)) = decide (a = b) := decide_eq_decide.mpr ⟨fun z => tx_inj (V.str.inj z), fun z => by rw [z]⟩
section
variable {P : Program} {w : World} {K : PySem.W.Frag} {mg : Str → Option Value} {base : Heap}
theorem scWu : FnScope nWu ["leads", "start", "lanes", "end"] (defScope sWu) := ⟨rfl, rfl, rfl, by decide +kernel, rfl, by decide +kernel, by decide +kernel⟩
theorem ok_wu {f : Addr} {fd : FuncData} {dvs : List V} (F : FunD K "way_until" "way_until" (defArgs sWu) (defBody sWu) (defScope sWu) dvs [] f fd) (TTr : Fu P w K mg base L2.CX0 1 "traced" spTr) (mLen : mg "len" = none) : FnOk P w K mg base L2.CX0 2 f fd ["leads", "start", "lanes", "end"] (spWu K) := by
  refine F.ok (CX := L2.CX0) scWu (fun vs H Q E h => ?_) (fun cdv A outer s H vs Q E hr h => ?_)
  · obtain ⟨dl, ln, gs, s, ws, ev, rfl, _⟩ := h
    rfl
  · refine ⟨_, (pss_cons (ps_set (i := 4) scWu.nd rfl (by first | exact Or.inl rfl | exact Or.inr rfl) (pe_disp (pps_cons (pv 1) pe_non pps_nil) (by rfl) (by rfl) (fun z => by cases z) (by decide)))
      (pss_cons (ps_set (i := 5) scWu.nd rfl (by first | exact Or.inl rfl | exact Or.inr rfl) (pe_lst (pa_cons (pv 1) pa_nil)))
      (pss_cons (ps_set (i := 6) scWu.nd rfl (by first | exact Or.inl rfl | exact Or.inr rfl) pe_int)
      (pss_cons (ps_while (passes_of rfl) (pt_cmpR op_lt (pv 6) (pe_callB call_len (by rfl) mLen boot_len (pa_cons (pv 5) pa_nil)) (nomark _)) (pss_cons (ps_set (i := 7) scWu.nd rfl (by first | exact Or.inl rfl | exact Or.inr rfl) (pe_ix ix_list (pv 5) (pv 6) fun _ _ => rfl))
      (pss_cons (ps_set (i := 6) scWu.nd rfl (by first | exact Or.inl rfl | exact Or.inr rfl) (pe_op op_add (pv 6) pe_int))
      (pss_one (ps_for (passes_of rfl) rfl (pi_list (pe_dget (Nat.lt_of_le_of_lt (Nat.add_le_add_left (show 1 ≤ 64 by decide) _) hr.units) (pv 0) (pv 7) (fun _ _ => rfl))) (pg_tup rfl (pgs_cons (pg_name (i := 8) scWu.nd rfl (by first | exact Or.inl rfl | exact Or.inr rfl)) (pgs_cons (pg_name (i := 9) scWu.nd rfl (by first | exact Or.inl rfl | exact Or.inr rfl)) pgs_nil))) (pss_cons (ps_if (PW.pt (pw_or (pt_cmpR op_in_seq (pv 8) (pv 2) rfl) (pw_or1 (pt_cmpR op_eq (pv 9) (pv 3) (nomark _))))) (pss_one (ps_ret (pe_tup (pa_cons (pe_op op_cat (pe_fu TTr hr (by rfl) (pa_cons (pv 4) (pa_cons (pv 7) pa_nil))) (pe_lst (pa_cons (pv 8) pa_nil))) (pa_cons (pv 9) pa_nil))))) pss_nil)
      (pss_one (ps_if (pt_cmp (pc_dnotin (Nat.lt_of_le_of_lt (Nat.add_le_add_left (show 1 ≤ 64 by decide) _) hr.units) (pv 9) (pv 4))) (pss_cons (ps_dput (Nat.lt_of_le_of_lt (Nat.add_le_add_left (show 1 ≤ 64 by decide) _) hr.units) (pv 4) (pv 9) (pe_tup (pa_cons (pv 7) (pa_cons (pv 8) pa_nil))) rfl)
      (pss_one (ps_expr (pe_bm PySem.F.plainAttrs_list PySem.F.slot_list_append PySem.F.type_list_append mt_append (pv 5) (pa_cons (pv 9) pa_nil))))) pss_nil))))))))
      (pss_one (ps_ret pe_non)))))), ?_⟩
    obtain ⟨dl, ln, gs, s, ws, ev, rfl, L, G, hln, hev, hs, ht, k⟩ := h
    have hsc : ∀ c : List Nat, scal (V.str (tx c)) ev = true := fun c => by
      rcases hev with rfl | ⟨e, rfl⟩
      · rfl
      · rfl
    refine s_seq ?_
    refine fun d nd0 => ⟨_, rfl, upd_same, [((Sum.inr (tx s) : Key), V.non)], rfl, by show 1 ≤ 15; omega, ?_⟩
    have hd1 : (upd (upd H d (.dK [])) d (.dK (mergeK [] [((Sum.inr (tx s) : Key), V.non)]))) d = some (.dK (dCame [(s, none)])) := upd_same
    have e1 : Ex H (upd (upd H d (.dK [])) d (.dK (mergeK [] [((Sum.inr (tx s) : Key), V.non)]))) := Ex.mut (Ex.new nd0) nd0
    generalize upd (upd H d (.dK [])) d (.dK (mergeK [] [((Sum.inr (tx s) : Key), V.non)])) = H1 at hd1 e1
    dsimp only
    refine s_seq ?_
    refine s_asgL (xs := vtx [s]) (el_lst (ea_cons (ev_var rfl) ea_nil) (by show 1 ≤ 100000; decide)) fun q H2 nq e2 hq => ?_
    have B2 : BS H H2 d q gs s [(s, none)] :=
      { ex := e1.trans e2, fd := nd0, fq := fresh_back e1 nq, dct := e2 _ _ hd1, que := hq
        tup := fun c hc p hp => by rw [List.mem_singleton.mp hc] at hp; cases hp
        inn := fun c hc => by rw [List.mem_singleton.mp hc]; exact hs
        tr := fun c hc => by rw [List.mem_singleton.mp hc]; exact ⟨[], .nil (List.mem_singleton.mpr rfl), .nil, Nat.zero_lt_one⟩ }
    dsimp only
    refine s_seq ?_
    refine s_asg ev_c fun H3 e3 => ?_
    dsimp only
    have lenk : ∀ cs : List CE, (ckeys cs).length = cs.length := fun cs => List.length_map _
    refine q_while (fun m st H' => ∃ (t7 t8 t9 : Option V) (cs : List CE) (j : Nat), st = [some (.ref dl), some (.str (tx s)), some (.ref ln), some ev, some (.ref d), some (.ref q), some (.int (j : Nat)), t7, t8, t9] ∧ BS H H' d q gs s cs ∧ Bfs (GN gs) s (ckeys cs) j ∧ (∀ (i : Nat) b, i < j → (ckeys cs)[i]? = some b → ∀ l c, GE gs l b c → hit ws ev l c = false) ∧ j ≤ cs.length ∧ m = gs.length - j) gs.length
      ⟨none, none, none, [(s, none)], 0, rfl, B2.grow e3, Bfs.start s, fun i b hi => absurd hi (Nat.not_lt_zero i), Nat.zero_le _, by omega⟩ ?_
    rintro m st H4 ⟨t7, t8, t9, cs, j, rfl, B4, bf, nh, hj, rfl⟩
    have hfew : ∀ {cs : List CE} {H' : Hp}, BS H H' d q gs s cs → (ckeys cs).Nodup → cs.length ≤ gs.length := fun {cs H'} B nd => by
      have h1 := nd.length_le_of_subset (l₂ := nodes gs) (fun y hy => by
        obtain ⟨c, hc, rfl⟩ := List.mem_map.mp (show y ∈ cs.map fun c => c.1 from hy)
        exact B.inn c hc)
      rw [lenk] at h1
      unfold nodes at h1
      rw [List.length_map] at h1
      exact h1
    have hle := hfew B4 bf.nd
    refine ⟨_, et_test (ev_op (ev_var rfl) (ev_lenA (ev_var rfl) (sq_of B4.que)) rv_I0), fun hb H5 e5 => ?_, fun hb H5 e5 => ?_⟩
    · have hlt : j < cs.length := by
        have := of_decide_eq_true hb
        rw [vtx_len, lenk] at this
        omega
      obtain ⟨b0, hjk⟩ : ∃ b0, (ckeys cs)[j]? = some b0 := ⟨_, List.getElem?_eq_getElem (by rw [lenk]; exact hlt)⟩
      have hb0k : b0 ∈ ckeys cs := List.mem_of_getElem? hjk
      obtain ⟨c0, hc0, hc0b⟩ := List.mem_map.mp (show b0 ∈ cs.map fun c => c.1 from hb0k)
      have hb0n : b0 ∈ nodes gs := by rw [← hc0b]; exact B4.inn c0 hc0
      obtain ⟨g, hg, hgb, hgv⟩ := leads_get hb0n
      have B5 := B4.grow e5
      refine ⟨fun st H' => ∃ (t7 t8 t9 : Option V) (cs : List CE), st = [some (.ref dl), some (.str (tx s)), some (.ref ln), some ev, some (.ref d), some (.ref q), some (.int ((j + 1 : Nat) : Int)), t7, t8, t9] ∧ BS H H' d q gs s cs ∧ Bfs (GN gs) s (ckeys cs) (j + 1) ∧ (∀ (i : Nat) b, i < j + 1 → (ckeys cs)[i]? = some b → ∀ l c, GE gs l b c → hit ws ev l c = false) ∧ j + 1 ≤ cs.length, ?_, ?_⟩
      · rintro st H6 ⟨t7, t8, t9, cs, rfl, h1, h2, h3, h4⟩
        exact ⟨gs.length - (j + 1), by omega, t7, t8, t9, cs, j + 1, rfl, h1, h2, h3, h4, rfl⟩
      · refine s_seq ?_
        refine s_asg (v := .str (tx b0)) (ev_op (ev_var rfl) (ev_var rfl) (rv_ixL (sq_of B5.que) (at_of rfl (vtx_at hjk)))) fun H6 e6 => ?_
        dsimp only
        refine s_seq ?_
        refine s_asg (v := .int ((j + 1 : Nat) : Int)) (ev_is (ev_op (ev_var (i := 6) rfl) ev_c rv_I0) (congrArg V.int (by omega))) fun H7 e7 => ?_
        have B7 := (B5.grow e6).grow e7
        have L7 := L.mono B7.ex
        dsimp only
        refine s_forL (a := g.1) (ev_dget (ev_var (i := 0) rfl) (ev_var (i := 7) rfl) (by rw [← hgv]; exact DGet.k (k := (Sum.inr (tx b0) : Key)) L7.dct)) (sq_of (L7.rows g hg))
          (fun i st H' => ∃ (t8 t9 : Option V) (cs : List CE), st = [some (.ref dl), some (.str (tx s)), some (.ref ln), some ev, some (.ref d), some (.ref q), some (.int ((j + 1 : Nat) : Int)), some (.str (tx b0)), t8, t9] ∧ BS H H' d q gs s cs ∧ Bfs (GN gs) s (ckeys cs) j ∧ (∀ (i : Nat) b, i < j → (ckeys cs)[i]? = some b → ∀ l c, GE gs l b c → hit ws ev l c = false) ∧ (ckeys cs)[j]? = some b0 ∧ ∀ e ∈ g.2.2.take i, hit ws ev e.2.1 e.2.2 = false ∧ e.2.2 ∈ ckeys cs)
          (fun H8 e8 => ⟨t8, t9, cs, rfl, B7.grow e8, bf, nh, hjk, fun e he => by rw [List.take_zero] at he; cases he⟩) (fun i st H' _ ⟨_, _, _, _, B', _⟩ => sq_of ((L.mono B'.ex).rows g hg)) ?_ ?_
        · rintro i x st H8 hx ⟨t8, t9, cs, rfl, B8, bf, nh, hjk, hall⟩
          rw [List.getElem?_map] at hx
          obtain ⟨e, he, rfl⟩ := Option.map_eq_some_iff.mp hx
          have hem := List.mem_of_getElem? he
          have htk : g.2.2.take (i + 1) = g.2.2.take i ++ [e] := by rw [List.take_succ, he]; rfl
          have htup := (L.mono B8.ex).tups g hg e hem
          have hGE : GE gs e.2.1 b0 e.2.2 := ⟨g, hg, hgb, e, hem, rfl⟩
          have hkj : j < (ckeys cs).length := (List.getElem?_eq_some_iff.mp hjk).1
          refine ⟨e.1, _, rfl, .inl (.inl htup), rfl, ?_⟩
          refine ⟨_, _, rfl, _, _, rfl, rfl, ?_⟩
          refine s_seq ?_
          have tin : Ev (tOp (rIn K false) (tVar 8) (tVar 2)) [some (.ref dl), some (.str (tx s)), some (.ref ln), some ev, some (.ref d), some (.ref q), some (.int ((j + 1 : Nat) : Int)), some (.str (tx b0)), some (.str (tx e.2.1)), some (.str (tx e.2.2))] H8 (.bl (decide (e.2.1 ∈ ws))) := by
            rcases ex_a B8.ex hln with hz | hz
            · exact ev_is (ev_op (ev_var rfl) (ev_var rfl) (rv_isL hz rfl (flat_vtx ws))) (by rw [inV_vtx])
            · exact ev_is (ev_op (ev_var rfl) (ev_var rfl) (rv_isT hz rfl (flat_vtx ws))) (by rw [inV_vtx])
          refine s_when (b := hit ws ev e.2.1 e.2.2) (et_or (et_test tin) (fun _ => et_test (ev_op (ev_var rfl) (ev_var rfl) (rv_eq (hsc _))))) (fun hb2 H9 e9 => ?_) (fun hb2 H9 e9 => ?_)
          · have B9 := B8.grow e9
            obtain ⟨c1, hc1, hc1b⟩ := List.mem_map.mp (show b0 ∈ cs.map fun c => c.1 from List.mem_of_getElem? hjk)
            obtain ⟨ls, htr, hwk, hlt2⟩ := B9.tr c1 hc1
            rw [hc1b] at htr hwk
            have hcl := hfew B9 bf.nd
            have hg30 := G.few
            let σ9 : L2.St := [some (.ref dl), some (.str (tx s)), some (.ref ln), some ev, some (.ref d), some (.ref q), some (.int ((j + 1 : Nat) : Int)), some (.str (tx b0)), some (.str (tx e.2.1)), some (.str (tx e.2.2))]
            have ktr : EvL (tFu spTr (fun _ => nil0) (tCons (tVar 4) (tCons (tVar 7) tNil))) σ9 H9 (vtx ls) := el_fu (ea_cons (ev_var rfl) (ea_cons (ev_var rfl) ea_nil)) fun H10 e10 Q10 q10 E10 => ⟨d, cs, b0, ls, rfl, (B9.grow e10).dct, bf.nd, (B9.grow e10).tup, htr, by omega, fun q' H11 e11 nq' hq' => q10 q' H11 nq' e11 hq'⟩
            have kcat : EvL (tOp rCat (tFu spTr (fun _ => nil0) (tCons (tVar 4) (tCons (tVar 7) tNil))) (tLst (tCons (tVar 8) tNil))) σ9 H9 (vtx (ls ++ [e.2.1])) := by
              rw [vtx_app]
              exact Vdr.el_catL ktr (el_lst (ea_cons (ev_var rfl) ea_nil) (by show 1 ≤ 100000; decide)) (by rw [vtx_len]; show _ + 1 ≤ _; omega)
            refine s_retE ?_
            refine kcat H9 (Ex.refl _) _ fun wy H10 nwy e10 hwy => ?_
            refine ⟨_, rfl, by show 2 ≤ sizeLine; decide, fun t nt => ?_⟩
            refine k t wy ls e.2.1 e.2.2 _ ((B9.ex.trans e10).trans (Ex.new nt)) (fresh_back B9.ex nwy) upd_same ((Ex.new nt) _ _ hwy) (.snoc hwk hGE) hb2 (by omega)
          · have B9 := B8.grow e9
            refine s_when (b := !decide (e.2.2 ∈ ckeys cs)) (et_is (et_notin (ev_var rfl) (ev_var rfl) (DGet.k (k := (Sum.inr (tx e.2.2) : Key)) B9.dct)) (by rw [came_val bf.nd])) (fun hb3 H10 e10 => ?_) (fun hb3 H10 e10 => ?_)
            · have hnew : e.2.2 ∉ ckeys cs := fun z => by rw [decide_eq_true z] at hb3; cases hb3
              have B10 := B9.grow e10
              refine s_seq ?_
              refine (eu_tup (ea_cons (ev_var (i := 7) rfl) (ea_cons (ev_var (i := 8) rfl) ea_nil)) (by show 2 ≤ 100000; decide) : EvU (tTup (tCons (tVar 7) (tCons (tVar 8) tNil))) [some (.ref dl), some (.str (tx s)), some (.ref ln), some ev, some (.ref d), some (.ref q), some (.int ((j + 1 : Nat) : Int)), some (.str (tx b0)), some (.str (tx e.2.1)), some (.str (tx e.2.2))] H10 [.str (tx b0), .str (tx e.2.1)]) H10 (Ex.refl _) _ fun w H11 nw e11 hw => ?_
              have B11 := B10.grow e11
              have dq : d ≠ q := ne_kind B11.dct B11.que (by intro z; cases z)
              have hcl := hfew B11 bf.nd
              have hg30 := G.few
              refine ⟨_, rfl, _, rfl, d, _, rfl, DPut.k (k := (Sum.inr (tx e.2.2) : Key)) B11.dct (sz_lt ?_), ?_⟩
              · unfold dCame
                rw [List.length_map]
                omega
              dsimp only
              have hq12 : (upd H11 d (.dK (putK (dCame cs) (Sum.inr (tx e.2.2) : Key) (V.ref w)))) q = some (.lst (vtx (ckeys cs))) := (upd_ne dq.symm).trans B11.que
              refine s_app (l := q) (xs := vtx (ckeys cs)) hq12 (ev_var rfl) (ev_var rfl) (by rw [vtx_len, lenk]; omega) fun H13 e13 => ?_
              have old : ∀ (x : Addr) (u : HO), H11 x = some u → x ≠ d → x ≠ q → upd H13 q (.lst (vtx (ckeys cs) ++ [.str (tx e.2.2)])) x = some u := fun x u hx h1 h2 => by
                rw [upd_ne h2]
                refine e13 _ _ ?_
                rw [upd_ne h1]
                exact hx
              have keyapp : ckeys (cs ++ [(e.2.2, some (w, b0, e.2.1))]) = ckeys cs ++ [e.2.2] := List.map_append
              refine ⟨_, _, cs ++ [(e.2.2, some (w, b0, e.2.1))], rfl, ⟨Ex.mut ((Ex.mut B11.ex B11.fd).trans e13) B11.fq, B11.fd, B11.fq, ?_, ?_, ?_, ?_, ?_⟩, ?_, ?_, ?_, ?_⟩
              · rw [upd_ne dq]
                refine e13 _ _ ?_
                rw [upd_same, putK_new _ (came_none hnew)]
                unfold dCame
                rw [List.map_append]
                rfl
              · rw [upd_same, keyapp, vtx_app]
                rfl
              · intro c hc p hp
                rcases List.mem_append.mp hc with hc | hc
                · have h1 := B11.tup c hc p hp
                  exact old _ _ h1 (ne_kind h1 B11.dct (by intro z; cases z)) (ne_kind h1 B11.que (by intro z; cases z))
                · rw [List.mem_singleton.mp hc] at hp
                  obtain rfl := Option.some.inj hp
                  exact old _ _ hw (ne_kind hw B11.dct (by intro z; cases z)) (ne_kind hw B11.que (by intro z; cases z))
              · intro c hc
                rcases List.mem_append.mp hc with hc | hc
                · exact B11.inn c hc
                · rw [List.mem_singleton.mp hc]
                  exact G.cl g hg e hem
              · intro c hc
                rw [List.length_append]
                rcases List.mem_append.mp hc with hc | hc
                · obtain ⟨ls, h1, h2, h3⟩ := B11.tr c hc
                  exact ⟨ls, h1.mono fun c hc => List.mem_append_left _ hc, h2, by omega⟩
                · rw [List.mem_singleton.mp hc]
                  obtain ⟨c1, hc1, hc1b⟩ := List.mem_map.mp (show b0 ∈ cs.map fun c => c.1 from List.mem_of_getElem? hjk)
                  obtain ⟨ls, h1, h2, h3⟩ := B11.tr c1 hc1
                  rw [hc1b] at h1 h2
                  exact ⟨ls ++ [e.2.1], .snoc (List.mem_append_right _ (List.mem_singleton.mpr rfl)) (h1.mono fun c hc => List.mem_append_left _ hc), .snoc h2 hGE, by rw [List.length_append]; show _ + 1 < _ + 1; omega⟩
              · rw [keyapp]
                exact bf.add (by omega) (List.mem_of_getElem? hjk) ⟨e.2.1, hGE⟩ hnew
              · intro i2 b hi2 hb2' 
                rw [keyapp, List.getElem?_append_left (by omega)] at hb2'
                exact nh i2 b hi2 hb2'
              · rw [keyapp, List.getElem?_append_left hkj]
                exact hjk
              · intro e' he'
                rw [htk] at he'
                rw [keyapp]
                rcases List.mem_append.mp he' with he' | he'
                · exact ⟨(hall e' he').1, List.mem_append_left _ (hall e' he').2⟩
                · rw [List.mem_singleton.mp he']
                  exact ⟨hb2, List.mem_append_right _ (List.mem_singleton.mpr rfl)⟩
            · have hold : e.2.2 ∈ ckeys cs := Decidable.byContradiction fun z => by rw [decide_eq_false z] at hb3; cases hb3
              refine ⟨_, _, cs, rfl, B9.grow e10, bf, nh, hjk, fun e' he' => ?_⟩
              rw [htk] at he'
              rcases List.mem_append.mp he' with he' | he'
              · exact hall e' he'
              · rw [List.mem_singleton.mp he']
                exact ⟨hb2, hold⟩
        · rintro st H8 ⟨t8, t9, cs, rfl, B8, bf, nh, hjk, hall⟩
          rw [List.length_map, List.take_length] at hall
          have hkj : j < (ckeys cs).length := (List.getElem?_eq_some_iff.mp hjk).1
          rw [lenk] at hkj
          have hedge : ∀ l c, GE gs l b0 c → hit ws ev l c = false ∧ c ∈ ckeys cs := fun l c hl => by
            rw [← hgb] at hl
            obtain ⟨e, he, h2⟩ := ge_own G hg hl
            have := hall e he
            rw [h2] at this
            exact this
          refine ⟨_, _, _, cs, rfl, B8, bf.next hjk (fun c ⟨l, hl⟩ => (hedge l c hl).2), fun i b hi hbi l c hl => ?_, hkj⟩
          by_cases hij : i < j
          · exact nh i b hij hbi l c hl
          · obtain rfl : i = j := by omega
            rw [hjk] at hbi
            obtain rfl := Option.some.inj hbi
            exact (hedge l c hl).1
    · exfalso
      have hge : ¬ j < cs.length := fun h => by
        rw [decide_eq_true (by rw [vtx_len, lenk]; omega)] at hb
        cases hb
      obtain ⟨l, b, c, hr1, hr2, hr3⟩ := ht
      have hbk := (bf.done (by rw [lenk]; omega) b).mpr hr1
      obtain ⟨i, hi⟩ := List.getElem?_of_mem hbk
      have hil := (List.getElem?_eq_some_iff.mp hi).1
      rw [lenk] at hil
      rw [nh i b (by omega) hi l c hr2] at hr3
      cases hr3
end
end K17

set_option Elab.async false
set_option linter.all false
set_option maxRecDepth 100000
set_option maxHeartbeats 4000000
/-! Ways on a graph of posts: way_taking. -/
namespace K17
open PySem PySem.Spec PyProof.Rows L2 Vl Evl Vp Vr Vx2 Vlk Vda Vc Ve Ven Vlt Vrc Vwy Vdf
abbrev sWt : Stmt := top 63
abbrev nWt : List Str := ["leads", "start", "end", "lanes", "gone", "here", "left", "way", "lane"]
theorem wk_app {α β : Type} {E : β → α → α → Prop} {a b c : α} {ls ms : List β} (h : Wk E a b ls) (g : Wk E b c ms) : Wk E a c (ls ++ ms) := by
  induction g with
  | nil => rw [List.append_nil]; exact h
  | snoc _ e ih => rw [← List.append_assoc]; exact .snoc ih e
def spWt (K : PySem.W.Frag) : Sp := fun vs H Q _ => ∃ (dl ln : Addr) (gs : List GRow) (s e : List Nat) (ws : List (List Nat)), vs = [.ref dl, .str (tx s), .str (tx e), .ref ln] ∧ LeadsAt H dl gs ∧ GOk gs ∧ SqA K H ln (vtx ws) ∧ ws.length ≤ 90 ∧ s ∈ nodes gs ∧ e ∈ nodes gs ∧ (∀ b ∈ nodes gs, ∀ c ∈ nodes gs, Reach (GN gs) b c) ∧ (∀ l ∈ ws, ∃ b c, GE gs l b c) ∧
  ∀ q ls H', Ex H H' → H q = none → H' q = some (.lst (vtx ls)) → Wk (GE gs) s e ls → (∀ l ∈ ws, l ∈ ls) → ls.length ≤ 3000 → Q (.ref q) H'
theorem ge_in {gs : List GRow} {l b c : List Nat} (h : GE gs l b c) : b ∈ nodes gs := by
  obtain ⟨g, hg, hb, _⟩ := h
  rw [← hb]
  exact List.mem_map_of_mem (f := fun g : GRow => g.2.1) hg
/-- what leads to a node that is no other one: its last step -/
theorem reach_last {gs : List GRow} {a b : List Nat} (h : Reach (GN gs) a b) (hne : a ≠ b) : ∃ l c, Reach (GN gs) a c ∧ GE gs l c b := by
  cases h with
  | refl => exact absurd rfl hne
  | step h e =>
    obtain ⟨l, hl⟩ := e
    exact ⟨l, _, h, hl⟩
section
variable {P : Program} {w : World} {K : PySem.W.Frag} {mg : Str → Option Value} {base : Heap}
theorem scWt : FnScope nWt ["leads", "start", "end", "lanes"] (defScope sWt) := ⟨rfl, rfl, rfl, by decide +kernel, rfl, by decide +kernel, by decide +kernel⟩
theorem ok_wt {f : Addr} {fd : FuncData} (F : FnP K "way_taking" sWt f fd) (TWu : FuD P w K mg base L2.CX0 2 "way_until" (spWu K) [.non]) (TW4 : Fu P w K mg base L2.CX0 2 "way_until" (spWu K)) (mLen : mg "len" = none) (mList : mg "list" = none) : FnOk P w K mg base L2.CX0 3 f fd ["leads", "start", "end", "lanes"] (spWt K) := by
  refine F.ok (CX := L2.CX0) scWt (fun vs H Q E h => ?_) (fun cdv A outer s H vs Q E hr h => ?_)
  · obtain ⟨dl, ln, gs, s, e, ws, rfl, _⟩ := h
    rfl
  · refine ⟨_, (pss_cons (ps_set (i := 4) scWt.nd rfl (by first | exact Or.inl rfl | exact Or.inr rfl) (pe_lst pa_nil))
      (pss_cons (ps_set (i := 5) scWt.nd rfl (by first | exact Or.inl rfl | exact Or.inr rfl) (pv 1))
      (pss_cons (ps_set (i := 6) scWt.nd rfl (by first | exact Or.inl rfl | exact Or.inr rfl) (pe_callTy call_list_of (by rfl) mList boot_list (pa_cons (pv 3) pa_nil)))
      (pss_cons (ps_while (passes_of rfl) (pt_cmpR op_gt (pe_callB call_len (by rfl) mLen boot_len (pa_cons (pv 6) pa_nil)) pe_int (nomark _)) (pss_cons (ps_asg (pe_fuD TWu hr (by rfl) (pa_cons (pv 0) (pa_cons (pv 5) (pa_cons (pv 6) pa_nil)))) (pg_tup rfl (pgs_cons (pg_name (i := 7) scWt.nd rfl (by first | exact Or.inl rfl | exact Or.inr rfl)) (pgs_cons (pg_name (i := 5) scWt.nd rfl (by first | exact Or.inl rfl | exact Or.inr rfl)) pgs_nil))))
      (pss_cons (ps_expr (pe_bm PySem.F.plainAttrs_list PySem.F.slot_list_extend PySem.F.type_list_extend mt_extend (pv 4) (pa_cons (pv 7) pa_nil)))
      (pss_one (ps_setLc (i := 6) (own := [("lane", 8)]) (g := (gName 8)) (tt := (tTest (tOp (rIn K true) (tVar 8) (tVar 7)))) (te := (tVar 8)) rfl scWt.nd rfl rfl (sw_true rfl rfl rfl (by decide +kernel)) (pi_list (pv 6)) (blkOk_by (own := [("lane", 8)]) (N := nWt) (sc := defScope sWt) (by decide +kernel)) (fun _ _ _ _ _ => (pg_name (i := 8) scWt.nd rfl (by first | exact Or.inl rfl | exact Or.inr rfl))) (fun _ _ _ _ _ => (pts_one (pt_cmpR op_notIn_seq (pv 8) (pv 7) rfl))) (fun _ _ _ _ _ => (pv 8)))))))
      (pss_cons (ps_if (pt_cmpR op_ne (pv 5) (pv 2) (nomark _)) (pss_cons (ps_asg (pe_fu TW4 hr (by rfl) (pa_cons (pv 0) (pa_cons (pv 5) (pa_cons (pe_tup pa_nil) (pa_cons (pv 2) pa_nil))))) (pg_tup rfl (pgs_cons (pg_name (i := 7) scWt.nd rfl (by first | exact Or.inl rfl | exact Or.inr rfl)) (pgs_cons (pg_name (i := 5) scWt.nd rfl (by first | exact Or.inl rfl | exact Or.inr rfl)) pgs_nil))))
      (pss_one (ps_expr (pe_bm PySem.F.plainAttrs_list PySem.F.slot_list_extend PySem.F.type_list_extend mt_extend (pv 4) (pa_cons (pv 7) pa_nil))))) pss_nil)
      (pss_one (ps_ret (pv 4)))))))), ?_⟩
    obtain ⟨dl, ln, gs, s, e, ws, rfl, L, G, hln, hws, hs, he, strong, hocc, k⟩ := h
    refine s_seq ?_
    refine s_asgL (xs := vtx []) (el_lst ea_nil (by decide)) fun q H1 nq e1 hq => ?_
    dsimp only
    refine s_seq ?_
    refine s_asg (v := .str (tx s)) (ev_var rfl) fun H2 e2 => ?_
    dsimp only
    refine s_seq ?_
    refine ⟨_, rfl, ln, vtx ws, rfl, ex_a (e1.trans e2) hln, fun la nla => ?_⟩
    have e3 : Ex H2 (upd H2 la (.lst (vtx ws))) := Ex.new nla
    have hla : (upd H2 la (.lst (vtx ws))) la = some (.lst (vtx ws)) := upd_same
    generalize upd H2 la (.lst (vtx ws)) = H3 at e3 hla
    have hq3 := (e2.trans e3) _ _ hq
    have laq : la ≠ q := fun z => by rw [z, e2 _ _ hq] at nla; cases nla
    dsimp only
    have hgn : ∀ {b c : List Nat}, b ∈ nodes gs → c ∈ nodes gs → Reach (GN gs) b c := fun h1 h2 => strong _ h1 _ h2
    refine q_while (fun m st H' => ∃ (t7 : Option V) (here : List Nat) (gone left : List (List Nat)) (la : Addr), st = [some (.ref dl), some (.str (tx s)), some (.str (tx e)), some (.ref ln), some (.ref q), some (.str (tx here)), some (.ref la), t7, none] ∧ Ex H H' ∧ H' q = some (.lst (vtx gone)) ∧ la ≠ q ∧ H' la = some (.lst (vtx left)) ∧ Wk (GE gs) s here gone ∧ (∀ l ∈ ws, l ∈ gone ∨ l ∈ left) ∧ (∀ l ∈ left, l ∈ ws) ∧ gone.length + 31 * left.length ≤ 31 * ws.length ∧ m = left.length) ws.length
      ⟨none, s, [], ws, la, rfl, e1.trans (e2.trans e3), hq3, laq, hla, .nil, fun l hl => .inr hl, fun l hl => hl, by show 0 + _ ≤ _; omega, rfl⟩ ?_
    rintro m st H4 ⟨t7, here, gone, left, la, rfl, e4, hq4, laq4, hla4, hwk, hall, hsub, hcnt, rfl⟩
    have hin : here ∈ nodes gs := wk_in G hwk hs
    refine ⟨_, et_test (ev_op (ev_lenA (ev_var rfl) (sq_of hla4)) ev_c rv_I0), fun hb H5 e5 => ?_, fun hb H5 e5 => ?_⟩
    · have hpos : 0 < left.length := by
        have := of_decide_eq_true hb
        rw [vtx_len] at this
        omega
      obtain ⟨l0, lr, hl0⟩ := List.exists_cons_of_ne_nil (List.length_pos_iff.mp hpos)
      obtain ⟨b0, c0, hge0⟩ := hocc l0 (hsub l0 (by rw [hl0]; exact List.mem_cons_self))
      refine ⟨fun st H' => ∃ (t7 : Option V) (here : List Nat) (gone left2 : List (List Nat)) (la : Addr), st = [some (.ref dl), some (.str (tx s)), some (.str (tx e)), some (.ref ln), some (.ref q), some (.str (tx here)), some (.ref la), t7, none] ∧ Ex H H' ∧ H' q = some (.lst (vtx gone)) ∧ la ≠ q ∧ H' la = some (.lst (vtx left2)) ∧ Wk (GE gs) s here gone ∧ (∀ l ∈ ws, l ∈ gone ∨ l ∈ left2) ∧ (∀ l ∈ left2, l ∈ ws) ∧ gone.length + 31 * left2.length ≤ 31 * ws.length ∧ left2.length < left.length, ?_, ?_⟩
      · rintro st H6 ⟨t7, here, gone, left2, la, rfl, h1, h2, h2', h3, h4, h5, h6, h7, h8⟩
        exact ⟨left2.length, h8, t7, here, gone, left2, la, rfl, h1, h2, h2', h3, h4, h5, h6, h7, rfl⟩
      · have e45 := e4.trans e5
        refine s_seq ?_
        refine ⟨_, rfl, _, rfl, _, rfl, dl, la, gs, here, left, .non, rfl, L.mono e45, G, .inl (sq_of (e5 _ _ hla4)), .inl rfl, hin, ⟨l0, b0, c0, hgn hin (ge_in hge0), hge0, by unfold hit; rw [decide_eq_true (by rw [hl0]; exact List.mem_cons_self), Bool.true_or]⟩, fun t wy ls l c H6 e6 nwy ht hwy hwk2 hhit hlen => ?_⟩
        refine ⟨t, _, rfl, .inl (.inl ht), rfl, ?_⟩
        refine ⟨_, _, rfl, _, _, rfl, rfl, ?_⟩
        have hq6 := (e5.trans e6) _ _ hq4
        have hla6 := (e5.trans e6) _ _ hla4
        have wyq : wy ≠ q := fun z => by rw [z, e5 _ _ hq4] at nwy; cases nwy
        dsimp only
        refine s_seq ?_
        have hll : l ∈ left := by
          unfold hit at hhit
          rw [decide_eq_false (show ¬ V.str (tx c) = V.non from fun z => by cases z), Bool.or_false] at hhit
          exact of_decide_eq_true hhit
        have hfl : (left.filter fun y => !decide (y ∈ ls ++ [l])).length < left.length := List.length_filter_lt_length_iff_exists.mpr ⟨l, hll, by rw [decide_eq_true (List.mem_append_right _ (List.mem_singleton.mpr rfl))]; decide⟩
        refine ⟨_, rfl, .inl ⟨rfl, _, sq_of hq6⟩, _, rfl, q, wy, vtx gone, vtx (ls ++ [l]), rfl, rfl, hq6, hwy, sz_of (by rw [vtx_len, vtx_len, List.length_append]; show _ + (_ + 1) ≤ 100000; omega), ?_⟩
        have e7 : Ex H (upd H6 q (.lst (vtx gone ++ vtx (ls ++ [l])))) := Ex.mut (e45.trans e6) nq
        have hq7 : (upd H6 q (.lst (vtx gone ++ vtx (ls ++ [l])))) q = some (.lst (vtx (gone ++ (ls ++ [l])))) := by rw [upd_same, ← vtx_app gone (ls ++ [l])]
        have hwy7 : (upd H6 q (.lst (vtx gone ++ vtx (ls ++ [l])))) wy = some (.lst (vtx (ls ++ [l]))) := (upd_ne wyq).trans hwy
        have hla7 : (upd H6 q (.lst (vtx gone ++ vtx (ls ++ [l])))) la = some (.lst (vtx left)) := (upd_ne laq4).trans hla6
        generalize upd H6 q (.lst (vtx gone ++ vtx (ls ++ [l]))) = H7 at e7 hq7 hwy7 hla7
        dsimp only
        refine s_asgL (xs := vtx (left.filter fun y => !decide (y ∈ ls ++ [l]))) (el_lcA (K := K) (j := 8) (vs := [8]) (ys := left) (g := fun y => V.str (tx y)) (fun y => !decide (y ∈ ls ++ [l])) (fun y => V.str (tx y)) (ev_var (i := 6) rfl) (sq_of hla7) (by omega) (fun _ => rfl) (fun y H8 e8 hy => et_test (ev_is (ev_op (ev_var rfl) (ev_var (i := 7) rfl) (rv_niL (sq_of (e8 _ _ hwy7)) rfl (flat_vtx _))) (by rw [inV_vtx]))) (fun y H8 e8 hy _ => ev_var rfl)) fun la2 H8 nla2 e8 hla2 => ?_
        refine ⟨_, c, gone ++ (ls ++ [l]), _, la2, rfl, e7.trans e8, e8 _ _ hq7, (fun z => by rw [z, hq7] at nla2; cases nla2), hla2, wk_app hwk hwk2, fun y hy => ?_, fun y hy => hsub y (List.mem_filter.mp hy).1, ?_, hfl⟩
        · rcases hall y hy with h1 | h1
          · exact .inl (List.mem_append_left _ h1)
          · by_cases h2 : y ∈ ls ++ [l]
            · exact .inl (List.mem_append_right _ h2)
            · exact .inr (List.mem_filter.mpr ⟨h1, by rw [decide_eq_false h2]; rfl⟩)
        · rw [List.length_append, List.length_append]
          show _ + (_ + 1) + _ ≤ _
          omega
    · have hnil : left = [] := by
        have h0 : ¬ (0 < left.length) := fun z => by rw [decide_eq_true (by rw [vtx_len]; omega)] at hb; cases hb
        exact List.length_eq_zero_iff.mp (by omega)
      have e45 := e4.trans e5
      have hq5 := e5 _ _ hq4
      have hcov : ∀ l ∈ ws, l ∈ gone := fun l hl => by
        rcases hall l hl with h1 | h1
        · exact h1
        · rw [hnil] at h1; cases h1
      have hgl : gone.length ≤ 31 * ws.length := by omega
      refine s_seq ?_
      refine s_when (b := !decide (here = e)) (et_test (ev_is (ev_op (ev_var rfl) (ev_var (i := 2) rfl) (rv_ne rfl)) (congrArg (fun b => V.bl (!b)) str_eq))) (fun hb2 H6 e6 => ?_) (fun hb2 H6 e6 => ?_)
      · have hne : here ≠ e := fun z => by rw [decide_eq_true z] at hb2; cases hb2
        obtain ⟨l9, c9, hr9, hg9⟩ := reach_last (hgn hin he) hne
        refine s_seq ?_
        have e46 := e45.trans e6
        refine ⟨_, rfl, _, rfl, by show 0 ≤ sizeLine; omega, fun ep nep => ?_⟩
        have e7 : Ex H6 (upd H6 ep (.tup [])) := Ex.new nep
        have hep : (upd H6 ep (.tup [])) ep = some (.tup (vtx [])) := upd_same
        generalize upd H6 ep (.tup []) = H7 at e7 hep
        refine ⟨_, rfl, dl, ep, gs, here, [], .str (tx e), rfl, L.mono (e46.trans e7), G, .inr (st_of hep), .inr ⟨e, rfl⟩, hin, ⟨l9, c9, e, hr9, hg9, by unfold hit; rw [decide_eq_true rfl, Bool.or_true]⟩, fun t wy ls l c H8 e8 nwy ht hwy hwk2 hhit hlen => ?_⟩
        have hce : c = e := by
          unfold hit at hhit
          rw [decide_eq_false (show ¬ l ∈ ([] : List (List Nat)) from fun z => by cases z), Bool.false_or] at hhit
          exact tx_inj (V.str.inj (of_decide_eq_true hhit))
        refine ⟨t, _, rfl, .inl (.inl ht), rfl, ?_⟩
        refine ⟨_, _, rfl, _, _, rfl, rfl, ?_⟩
        have hq8 := ((e6.trans e7).trans e8) _ _ hq5
        dsimp only
        refine ⟨_, rfl, .inl ⟨rfl, _, sq_of hq8⟩, _, rfl, q, wy, vtx gone, vtx (ls ++ [l]), rfl, rfl, hq8, hwy, sz_of (by rw [vtx_len, vtx_len, List.length_append]; show _ + (_ + 1) ≤ 100000; omega), ?_⟩
        dsimp only
        refine s_ret (ev_var (i := 4) rfl) fun H9 e9 => ?_
        refine k q (gone ++ (ls ++ [l])) H9 ((Ex.mut ((e46.trans e7).trans e8) nq).trans e9) nq (e9 _ _ (by rw [upd_same, ← vtx_app gone (ls ++ [l])])) (hce ▸ wk_app hwk hwk2) (fun y hy => List.mem_append_left _ (hcov y hy)) ?_
        rw [List.length_append, List.length_append]
        show _ + (_ + 1) ≤ _
        omega
      · have heq : here = e := Decidable.byContradiction fun z => by rw [decide_eq_false z] at hb2; cases hb2
        refine s_ret (ev_var (i := 4) rfl) fun H7 e7 => ?_
        exact k q gone H7 ((e45.trans e6).trans e7) nq ((e6.trans e7) _ _ hq5) (heq ▸ hwk) hcov (by omega)
end
end K17

set_option Elab.async false
set_option linter.all false
set_option maxRecDepth 100000
set_option maxHeartbeats 2000000
/-! Comprehensions whose items are new objects: what is known of each. -/
namespace Vlp
open PySem PySem.Spec PyProof.Rows L2 Vl Evl Vp Vr Ve
inductive All2 {α : Type} (R : α → V → Prop) : List α → List V → Prop
  | nil : All2 R [] []
  | cons {y : α} {v : V} {ys : List α} {vs : List V} (h : R y v) (r : All2 R ys vs) : All2 R (y :: ys) (v :: vs)
theorem All2.len {α : Type} {R : α → V → Prop} {ys : List α} {vs : List V} (h : All2 R ys vs) : vs.length = ys.length := by
  induction h with
  | nil => rfl
  | cons _ _ ih => rw [List.length_cons, List.length_cons, ih]
theorem All2.imp {α : Type} {R S : α → V → Prop} (hi : ∀ y v, R y v → S y v) {ys : List α} {vs : List V} (h : All2 R ys vs) : All2 S ys vs := by
  induction h with
  | nil => exact .nil
  | cons h _ ih => exact .cons (hi _ _ h) ih
theorem All2.snoc {α : Type} {R : α → V → Prop} {ys : List α} {vs : List V} {y : α} {v : V} (h : All2 R ys vs) (hy : R y v) : All2 R (ys ++ [y]) (vs ++ [v]) := by
  induction h with
  | nil => exact .cons hy .nil
  | cons h _ ih => exact .cons h ih
theorem All2.get {α : Type} {R : α → V → Prop} {ys : List α} {vs : List V} (h : All2 R ys vs) : ∀ {i : Nat} {v : V}, vs[i]? = some v → ∃ y, ys[i]? = some y ∧ R y v := by
  induction h with
  | nil => intro i v h; cases h
  | cons h _ ih =>
    intro i v hv
    cases i with
    | zero => exact ⟨_, rfl, by cases hv; exact h⟩
    | succ i => exact ih hv
theorem All2.dpa {α : Type} {K : PySem.W.Frag} {H : Hp} {d : α → PyData} {R : α → V → Prop} (hd : ∀ y v, R y v → Dp K H v (d y)) {ys : List α} {vs : List V} (h : All2 R ys vs) : DpAll K H vs (ys.map d) := by
  induction h with
  | nil => exact .nil
  | cons h _ ih => exact .cons (hd _ _ h) ih
/-- stays when the heap grows, and when a list changes -/
structure Stay (R : V → Hp → Prop) : Prop where
  ex : ∀ {v H H'}, Ex H H' → R v H → R v H'
  mu : ∀ {v H a xs ys}, H a = some (.lst xs) → R v H → R v (upd H a (.lst ys))
def EvP (te : TE) (σ : L2.St) (H : Hp) (R : V → Hp → Prop) : Prop := ∀ H1, Ex H H1 → ∀ Q : VK, (∀ v H2, Ex H1 H2 → R v H2 → Q v H2) → te σ H1 Q
def EvPL {α : Type} (te : TE) (σ : L2.St) (H : Hp) (ys : List α) (R : α → V → Hp → Prop) : Prop :=
  ∀ H1, Ex H H1 → ∀ Q : VK, (∀ p xs H2, H1 p = none → Ex H1 H2 → H2 p = some (.lst xs) → All2 (fun y v => R y v H2) ys xs → Q (.ref p) H2) → te σ H1 Q
section
variable {K : PySem.W.Frag} {α : Type} {te : TE} {tt : TT} {σ : L2.St} {H : Hp} {R : α → V → Hp → Prop}
def Cp (H : Hp) (R : α → V → Hp → Prop) (Dl : Addr) (zs : List α) (H' : Hp) : Prop := H Dl = none ∧ Ex H H' ∧ ∃ acc, H' Dl = some (.lst acc) ∧ All2 (fun y v => R y v H') zs acc
theorem cp_turn {H H' : Hp} {Dl : Addr} {zs zs' : List α} {y : α} {b : Bool} {σ2 : L2.St} (st : ∀ y, Stay (R y)) (p : Cp H R Dl zs H') (hi : zs.length < 50000) (ht : EvT tt σ2 H b) (he : b = true → EvP te σ2 H (R y)) (h1 : b = true → zs' = zs ++ [y]) (h0 : b = false → zs' = zs) :
    tt σ2 H' fun b H3 => if b = true then te σ2 H3 fun v H4 => ∃ acc, H4 Dl = some (.lst acc) ∧ acc.length < sizeLine ∧ Cp H R Dl zs' (upd H4 Dl (.lst (acc ++ [v]))) else Cp H R Dl zs' H3 := by
  obtain ⟨p1, p2, acc, p3, p4⟩ := p
  refine ht H' p2 _ fun H3 e3 => ?_
  cases b with
  | true =>
    show te σ2 H3 fun v H4 => ∃ acc, H4 Dl = some (.lst acc) ∧ acc.length < sizeLine ∧ Cp H R Dl zs' (upd H4 Dl (.lst (acc ++ [v])))
    refine he rfl H3 (p2.trans e3) _ fun v H4 e4 hv => ⟨acc, e4 Dl _ (e3 Dl _ p3), sz_lt (by rw [p4.len]; omega), p1, Ex.mut ((p2.trans e3).trans e4) p1, _, upd_same, ?_⟩
    have hD := e4 Dl _ (e3 Dl _ p3)
    rw [h1 rfl]
    exact (p4.imp fun z u hu => (st z).mu hD ((st z).ex (e3.trans e4) hu)).snoc ((st y).mu hD hv)
  | false =>
    show Cp H R Dl zs' H3
    rw [h0 rfl]
    exact ⟨p1, p2.trans e3, acc, e3 Dl _ p3, p4.imp fun z u hu => (st z).ex e3 hu⟩
theorem filt_yes {ys : List α} {c : α → Bool} {i : Nat} {y : α} (hy : ys[i]? = some y) (h : c y = true) : (ys.take (i + 1)).filter c = (ys.take i).filter c ++ [y] := by
  rw [List.take_add_one, hy, List.filter_append]
  show _ ++ List.filter c [y] = _
  rw [List.filter_cons_of_pos h]
  rfl
theorem filt_no {ys : List α} {c : α → Bool} {i : Nat} {y : α} (hy : ys[i]? = some y) (h : c y = false) : (ys.take (i + 1)).filter c = (ys.take i).filter c := by
  rw [List.take_add_one, hy, List.filter_append]
  show _ ++ List.filter c [y] = _
  rw [List.filter_cons_of_neg (by rw [h]; decide)]
  show _ ++ [] = _
  rw [List.append_nil]
theorem filt_len {ys : List α} {c : α → Bool} {i : Nat} (hz : ys.length ≤ 40000) : ((ys.take i).filter c).length < 50000 := by
  have h1 := List.length_filter_le c (ys.take i)
  rw [List.length_take] at h1
  omega
/-- over a list that stands -/
theorem ep_lcA {ys : List α} {g : α → V} {a : Addr} {tl : TE} {j : Nat} {vs : List Nat} (c : α → Bool) (st : ∀ y, Stay (R y)) (h : Ev tl σ H (.ref a)) (hx : SqL K H a (ys.map g)) (hz : ys.length ≤ 40000) (hw : ∀ x, wipe ((wipe σ vs).set j (some x)) vs = wipe σ vs)
    (ht : ∀ (y : α) (H1 : Hp), Ex H H1 → y ∈ ys → EvT tt ((wipe σ vs).set j (some (g y))) H1 (c y)) (he : ∀ (y : α) (H1 : Hp), Ex H H1 → y ∈ ys → c y = true → EvP te ((wipe σ vs).set j (some (g y))) H1 (R y)) :
    EvPL (tLc (iList K tl) (gName j) tt te vs) σ H (ys.filter c) R := fun H0 e Q q => h H0 e _ fun H1 e1 => ⟨a, rfl, ⟨ys.map g, ex_l (e.trans e1) hx⟩, fun Dl hD => by
  refine lc_list (xs := ys.map g) (fun i => Cp H1 R Dl ((ys.take i).filter c)) ⟨hD, Ex.new hD, _, upd_same, by rw [List.take_zero]; exact .nil⟩ (fun i H' _ p => ex_l ((e.trans e1).trans p.2.1) hx) (fun i x H' hi p => ⟨hw x, ?_⟩)
    (fun H' p => by
      rw [List.length_map, List.take_length] at p
      obtain ⟨p1, p2, acc, p3, p4⟩ := p
      exact q Dl acc H' (fresh_back e1 p1) (e1.trans p2) p3 p4)
  rw [List.getElem?_map] at hi
  obtain ⟨y, hy, rfl⟩ := Option.map_eq_some_iff.mp hi
  have hm := List.mem_of_getElem? hy
  exact cp_turn (te := te) (y := y) st p (filt_len hz) (ht y H1 (e.trans e1) hm) (he y H1 (e.trans e1) hm) (fun hc => filt_yes hy hc) (fun hc => filt_no hy hc)⟩
/-- over a range, each turn gives -/
theorem ep_lcR {ta : TA} {j : Nat} {vs : List Nat} {n : Int} {R : Nat → V → Hp → Prop} (st : ∀ y, Stay (R y)) (h : EvA ta σ H [.int n]) (hn : 0 ≤ n ∧ n ≤ 40000) (hw : ∀ x, wipe ((wipe σ vs).set j (some x)) vs = wipe σ vs)
    (he : ∀ (i : Nat) H1, Ex H H1 → (i : Int) < n → EvP te ((wipe σ vs).set j (some (.int (i : Int)))) H1 (R i)) :
    EvPL (tLc (iRng1 ta) (gName j) tYes te vs) σ H (List.range n.toNat) R := fun H0 e Q q => h H0 e _ fun H1 e1 => ⟨n, rfl, by omega, by omega, fun Dl hD => by
  refine lc_range (lo := 0) (n := n.toNat) (fun i => Cp H1 R Dl (List.range i)) ⟨hD, Ex.new hD, _, upd_same, .nil⟩ (fun i H' hi p => ?_) (fun H' p => by
      obtain ⟨p1, p2, acc, p3, p4⟩ := p
      exact q Dl acc H' (fresh_back e1 p1) (e1.trans p2) p3 p4)
  have e0 : (0 : Int) + (i : Int) = (i : Int) := Int.zero_add _
  show wipe ((wipe σ vs).set j (some (.int ((0 : Int) + (i : Int))))) vs = wipe σ vs ∧ tYes ((wipe σ vs).set j (some (.int ((0 : Int) + (i : Int))))) H' fun b H3 => if b = true then te ((wipe σ vs).set j (some (.int ((0 : Int) + (i : Int))))) H3 fun y H4 => ∃ acc, H4 Dl = some (.lst acc) ∧ acc.length < sizeLine ∧ Cp H1 R Dl (List.range (i + 1)) (upd H4 Dl (.lst (acc ++ [y]))) else Cp H1 R Dl (List.range (i + 1)) H3
  rw [e0]
  have key := cp_turn (te := te) (tt := tYes) (y := i) (b := true) (σ2 := (wipe σ vs).set j (some (.int (i : Int)))) st p (by rw [List.length_range]; omega) et_yes (fun _ => he i H1 (e.trans e1) (by omega)) (fun _ => List.range_succ) (fun z => by cases z)
  exact ⟨hw _, key⟩⟩
/-- a tuple -/
def IsT (K : PySem.W.Frag) (xs : List V) (v : V) (H : Hp) : Prop := ∃ p, v = .ref p ∧ SqT K H p xs
theorem stay_T {xs : List V} : Stay (IsT K xs) := ⟨fun e ⟨p, h, hp⟩ => ⟨p, h, ex_t e hp⟩, fun {v H a ys zs} ha ⟨p, h, hp⟩ => ⟨p, h, by
  rcases hp with (hp | ⟨ob, hp⟩) | hp
  · refine .inl (.inl ?_)
    rw [upd_ne (fun z => by rw [z, ha] at hp; cases hp)]
    exact hp
  · refine .inl (.inr ⟨ob, ?_⟩)
    rw [upd_ne (fun z => by rw [z, ha] at hp; cases hp)]
    exact hp
  · exact .inr hp⟩⟩
theorem ep_T {xs : List V} (h : Vt.EvT K te σ H xs) : EvP te σ H (IsT K xs) := fun H1 e Q q => h H1 e Q fun p H2 e2 hp => q _ H2 e2 ⟨p, rfl, hp⟩
theorem ep_U {xs : List V} (h : EvU te σ H xs) : EvP te σ H (IsT K xs) := fun H1 e Q q => h H1 e Q fun p H2 _ e2 hp => q _ H2 e2 ⟨p, rfl, .inl (.inl hp)⟩
end
end Vlp

set_option Elab.async false
set_option linter.all false
set_option maxRecDepth 100000
set_option maxHeartbeats 4000000
/-! The graph of a part. -/
namespace K17
open PySem PySem.Spec PyProof.Rows L2 Vl Evl Vp Vr Vx2 Vlk Vda Vc Ve Ven Vlt Vrc Vwy Vdf Vlp
abbrev sGp : Stmt := top 82
abbrev nGp : List Str := ["net", "part", "posts", "lanes", "post", "lane"]
/-- a new tuple -/
def IsU (xs : List V) (v : V) (H : Hp) : Prop := ∃ p, v = .ref p ∧ H p = some (.tup xs)
theorem stay_U {xs : List V} : Stay (IsU xs) := ⟨fun e ⟨p, h, hp⟩ => ⟨p, h, e _ _ hp⟩, fun {v H a ys zs} ha ⟨p, h, hp⟩ => ⟨p, h, (upd_ne (ne_kind hp ha (by intro z; cases z))).trans hp⟩⟩
section
variable {K : PySem.W.Frag} {α : Type} {te : TE} {tt : TT} {σ : L2.St} {H : Hp} {R : α → V → Hp → Prop}
/-- over a new tuple, items new objects -/
theorem ep_lcU {ys : List α} {g : α → V} {tl : TE} {j : Nat} {vs : List Nat} (c : α → Bool) (st : ∀ y, Stay (R y)) (h : EvU tl σ H (ys.map g)) (hz : ys.length ≤ 40000) (hw : ∀ x, wipe ((wipe σ vs).set j (some x)) vs = wipe σ vs)
    (ht : ∀ (y : α) (H1 : Hp), Ex H H1 → y ∈ ys → EvT tt ((wipe σ vs).set j (some (g y))) H1 (c y)) (he : ∀ (y : α) (H1 : Hp), Ex H H1 → y ∈ ys → c y = true → Vlp.EvP te ((wipe σ vs).set j (some (g y))) H1 (R y)) :
    EvPL (tLc (iTup K tl) (gName j) tt te vs) σ H (ys.filter c) R := fun H0 e Q q => h H0 e _ fun a H1 na e1 hx => ⟨a, rfl, ⟨ys.map g, st_of hx⟩, fun Dl hD => by
  refine lc_tup (xs := ys.map g) (fun i => Cp H1 R Dl ((ys.take i).filter c)) ⟨hD, Ex.new hD, _, upd_same, by rw [List.take_zero]; exact .nil⟩ (fun i H' _ p => st_of (p.2.1 _ _ hx)) (fun i x H' hi p => ⟨hw x, ?_⟩)
    (fun H' p => by
      rw [List.length_map, List.take_length] at p
      obtain ⟨p1, p2, acc, p3, p4⟩ := p
      exact q Dl acc H' (fresh_back e1 p1) (e1.trans p2) p3 p4)
  rw [List.getElem?_map] at hi
  obtain ⟨y, hy, rfl⟩ := Option.map_eq_some_iff.mp hi
  have hm := List.mem_of_getElem? hy
  exact cp_turn (te := te) (y := y) st p (filt_len hz) (ht y H1 (e.trans e1) hm) (he y H1 (e.trans e1) hm) (fun hc => filt_yes hy hc) (fun hc => filt_no hy hc)⟩
theorem ep_U' {xs : List V} (h : EvU te σ H xs) : Vlp.EvP te σ H (IsU xs) := fun H1 e Q q => h H1 e Q fun p H2 _ e2 hp => q _ H2 e2 ⟨p, rfl, hp⟩
end
/-- the rows of a post -/
def rowsG (bs : Bare) (Ls : List (List Nat)) (b : List Nat) : List (List Nat × List Nat) := ((bs.filter fun t => decide (t.2.1 = b)).filter fun t => decide (t.1 ∈ Ls)).map fun t => (t.1, t.2.2)
theorem rows_of {H : Hp} : ∀ {rs : List Row} {xs : List V}, All2 (fun (r : Row) v => IsU [.str (tx r.2.1), .str (tx r.2.2.2)] v H) rs xs → ∃ es : List (Addr × (List Nat × List Nat)), xs = es.map (fun e => V.ref e.1) ∧ es.map (fun e => e.2) = rs.map (fun r => (r.2.1, r.2.2.2)) ∧ ∀ e ∈ es, H e.1 = some (.tup [.str (tx e.2.1), .str (tx e.2.2)])
  | [], _, .nil => ⟨[], rfl, rfl, fun _ h => nomatch h⟩
  | r :: rs, _, .cons ⟨p, hv, hp⟩ h => by
    obtain ⟨es, h1, h2, h3⟩ := rows_of h
    refine ⟨(p, (r.2.1, r.2.2.2)) :: es, by rw [hv, h1]; rfl, by rw [List.map_cons, h2]; rfl, fun e he => ?_⟩
    rcases List.mem_cons.mp he with rfl | he
    · exact hp
    · exact h3 e he
def plainG (gs : List GRow) : List (List Nat × List (List Nat × List Nat)) := gs.map fun g => (g.2.1, g.2.2.map fun e => e.2)
def spGp (C : Addr) : Sp := fun vs H Q _ => ∃ (o dx dp de pf : Addr) (ps : List (List Nat)) (es : List Row) (B Ls : List (List Nat)), vs = [.ref o, .ref pf] ∧ NetAt C H o dx dp de ps es ∧ RowsOk ps es ∧ ps.length ≤ 30 ∧ es.length ≤ 30 ∧ PartAt H (pf, (B, Ls)) ∧ B.Nodup ∧ (∀ b ∈ B, b ∈ ps) ∧ B.length ≤ 30 ∧
  ∀ d gs H', Ex H H' → H d = none → LeadsAt H' d gs → plainG gs = B.map (fun b => (b, rowsG (bare es) Ls b)) → Q (.ref d) H'
section
variable {P : Program} {w : World} {K : PySem.W.Frag} {mg : Str → Option Value} {base : Heap} {C BN NT NP NL : Addr}
theorem scGp : FnScope nGp ["net", "part"] (defScope sGp) := ⟨rfl, rfl, rfl, by decide +kernel, rfl, by decide +kernel, by decide +kernel⟩
abbrev tvG (K : PySem.W.Frag) (C NP NL : Addr) : TE := tLc (iTup K (Vtr.tMethS C "out_of" (spOut C NP) (fun _ => nil0) (tVar 0) (tCons (tVar 4) tNil))) (gName 5) (tTest (tOp (rIn K false) (tVar 5) (tVar 3))) (tTup (tCons (tVar 5) (tCons (Vtr.tMethS C "end_of" (spEndOf C NL fun r => r.2.2.2) (fun _ => nil0) (tVar 0) (tCons (tVar 5) tNil)) tNil))) [5]
theorem ok_gp {f : Addr} {fd : FuncData} (F : FnP K "graph_of_part" sGp f fd) (N : ND P w K mg base C BN NT NP NL) : FnOk P w K mg base L2.CX0 5 f fd ["net", "part"] (spGp C) := by
  refine F.ok (CX := L2.CX0) scGp (fun vs H Q E h => ?_) (fun cdv A outer s H vs Q E hr h => ?_)
  · obtain ⟨o, dx, dp, de, pf, ps, es, B, Ls, rfl, _⟩ := h
    rfl
  · refine ⟨_, (pss_cons (ps_asg (pv 1) (pg_tup rfl (pgs_cons (pg_name (i := 2) scGp.nd rfl (by first | exact Or.inl rfl | exact Or.inr rfl)) (pgs_cons (pg_name (i := 3) scGp.nd rfl (by first | exact Or.inl rfl | exact Or.inr rfl)) pgs_nil))))
      (pss_one (ps_ret (pe_dc (own := [("post", 4)]) (g := (gName 4)) (tt := tYes) (tk := (tVar 4)) (tv := tvG K C NP NL) rfl scGp.nd (pi_tup (pv 2)) (blkOk_by (own := [("post", 4)]) (N := nGp) (sc := defScope sGp) (by decide +kernel)) (fun _ _ _ _ _ => (pg_name (i := 4) scGp.nd rfl (by first | exact Or.inl rfl | exact Or.inr rfl))) (fun _ _ _ _ _ => pts_nil) (fun _ _ _ _ _ => (pv 4)) (fun _ _ _ _ _ => (pe_lc (own := [("lane", 5)]) (g := (gName 5)) (tt := (tTest (tOp (rIn K false) (tVar 5) (tVar 3)))) (te := (tTup (tCons (tVar 5) (tCons (Vtr.tMethS C "end_of" (spEndOf C NL fun r => r.2.2.2) (fun _ => nil0) (tVar 0) (tCons (tVar 5) tNil)) tNil)))) rfl scGp.nd (pi_tup (pe_moN (pv 0) N.cls N.out hr (pa_cons (pv 4) pa_nil))) (blkOk_by (own := [("lane", 5)]) (N := nGp) (sc := { kind := ScopeKind.function, names := [(".0", NameKind.local), ("post", NameKind.local), ("lanes", NameKind.cell), ("net", NameKind.cell)], isGenerator := false, isCoroutine := false }) (by decide +kernel)) (fun _ _ _ _ _ => (pg_name (i := 5) scGp.nd rfl (by first | exact Or.inl rfl | exact Or.inr rfl))) (fun _ _ _ _ _ => (pts_one (pt_cmpR op_in_seq (pv 5) (pv 3) rfl))) (fun _ _ _ _ _ => (pe_tup (pa_cons (pv 5) (pa_cons (pe_moN (pv 0) N.cls N.end_ hr (pa_cons (pv 5) pa_nil)) pa_nil)))))))))), ?_⟩
    obtain ⟨o, dx, dp, de, pf, ps, es, B, Ls, rfl, N1, RO, hp30, he30, ⟨x, y, hpf, hx, hy⟩, hBn, hBp, hB30, k⟩ := h
    have nd : (laneNames es).Nodup := RO.1.2
    refine s_seq ?_
    refine ⟨_, rfl, pf, _, rfl, st_of hpf, rfl, ?_⟩
    refine ⟨_, _, rfl, _, _, rfl, rfl, ?_⟩
    dsimp only
    refine s_retE ?_
    refine ⟨_, rfl, x, rfl, ⟨_, st_of hx⟩, fun D nD => dc_tup (xs := vtx B) (fun i H' => ∃ gs : List GRow, plainG gs = (B.take i).map (fun b => (b, rowsG (bare es) Ls b)) ∧ Ex H H' ∧ H' D = some (.dK (dLeads gs)) ∧ (∀ g ∈ gs, H' g.1 = some (.lst (g.2.2.map fun e => V.ref e.1))) ∧ ∀ g ∈ gs, ∀ e ∈ g.2.2, H' e.1 = some (.tup [.str (tx e.2.1), .str (tx e.2.2)]))
      ⟨[], by rw [List.take_zero]; rfl, Ex.new nD, upd_same, (fun _ h => nomatch h), fun _ h => nomatch h⟩ (fun i H' _ ⟨_, _, e, _⟩ => st_of (e _ _ hx)) (fun i z H2 hz => ?_) (fun H2 hp => ?_)⟩
    · rintro ⟨gs, hgs, e2, hD, hr1, hr2⟩
      unfold vtx at hz
      rw [List.getElem?_map] at hz
      obtain ⟨b, hb, rfl⟩ := Option.map_eq_some_iff.mp hz
      have hbm := List.mem_of_getElem? hb
      have htk : B.take (i + 1) = B.take i ++ [b] := by rw [List.take_succ, hb]; rfl
      have hgl : gs.length ≤ 30 := by
        have := congrArg List.length hgs
        unfold plainG at this
        rw [List.length_map, List.length_map, List.length_take] at this
        omega
      refine ⟨rfl, ?_⟩
      unfold tYes
      dsimp only
      rw [if_pos rfl]
      refine ⟨_, rfl, ?_⟩
      have N2 := N1.mono e2
      have key : EvPL (tvG K C NP NL) [some (.ref o), some (.ref pf), some (.ref x), some (.ref y), some (.str (tx b)), none] H2 ((es.filter fun r => decide (r.2.2.1 = b)).filter fun r => decide (r.2.1 ∈ Ls)) (fun (r : Row) v H' => IsU [.str (tx r.2.1), .str (tx r.2.2.2)] v H') := by
        refine ep_lcU (K := K) (g := fun r : Row => V.str (tx r.2.1)) (fun r => decide (r.2.1 ∈ Ls)) (fun _ => stay_U) ?_ (by have := List.length_filter_le (fun r : Row => decide (r.2.2.1 = b)) es; omega) (fun _ => rfl) (fun r H3 e3 hr => ?_) (fun r H3 e3 hr hc => ?_)
        · have := eu_me (σ := [some (.ref o), some (.ref pf), some (.ref x), some (.ref y), some (.str (tx b)), none]) (E := fun _ => nil0) (m := "out_of") (ev_var (i := 0) rfl) N2.at_ rfl (ea_cons (ev_var (i := 4) rfl) ea_nil) (sv_out (NP := NP) N2 (by omega) nd (hBp b hbm))
          unfold vtx laneNames at this
          rw [List.map_map] at this
          exact this
        · exact et_test (ev_is (ev_op (ev_var rfl) (ev_var (i := 3) rfl) (rv_isT (st_of ((e2.trans e3) _ _ hy)) rfl (flat_vtx _))) (by rw [inV_vtx]))
        · have hre := (List.mem_filter.mp hr).1
          obtain ⟨ie, hie⟩ := List.getElem?_of_mem hre
          have N3 := N2.mono e3
          exact ep_U' (eu_tup (ea_cons (ev_var rfl) (ea_cons (ev_me (ev_var (i := 0) rfl) N3.at_ rfl (ea_cons (ev_var rfl) ea_nil) (sv_end (g := fun r => r.2.2.2) N3 (row_own nd hie))) ea_nil)) (by show 2 ≤ 100000; decide))
      refine key H2 (Ex.refl _) _ fun p xs H3 np e3 hp hall => ?_
      obtain ⟨rs, rfl, hrs, hrt⟩ := rows_of hall
      have hD3 := e3 _ _ hD
      have hnew : b ∉ gs.map fun g => g.2.1 := by
        have h1 : (gs.map fun g => g.2.1) = B.take i := by
          have := congrArg (List.map fun z => z.1) hgs
          unfold plainG at this
          rw [List.map_map, List.map_map] at this
          exact this.trans (List.map_id _)
        rw [h1]
        intro z
        have n2 := hBn.sublist (List.take_sublist (i + 1) B)
        rw [htk, List.nodup_append] at n2
        exact n2.2.2 _ z _ (List.mem_singleton.mpr rfl) rfl
      refine ⟨dLeads gs, (Sum.inr (tx b) : Key), rfl, hD3, sz_lt ?_, gs ++ [(p, b, rs)], ?_, Ex.mut (e2.trans e3) nD, ?_, ?_, ?_⟩
      · unfold dLeads dMap
        rw [List.length_map, List.length_map]
        omega
      · unfold plainG at hgs ⊢
        rw [List.map_append, hgs, htk, List.map_append]
        congr 1
        show [(b, rs.map fun e => e.2)] = [(b, rowsG (bare es) Ls b)]
        rw [hrs]
        unfold rowsG bare
        rw [List.filter_map, List.filter_map, List.map_map]
        rfl
      · rw [upd_same, show dLeads gs = dMap (gs.map fun g => (g.1, g.2.1)) from rfl, putK_new _ (map_none (zs := gs.map fun g => (g.1, g.2.1)) (by rw [List.map_map]; exact hnew))]
        unfold dLeads dMap
        rw [List.map_append, List.map_append]
        rfl
      · intro g hg
        rcases List.mem_append.mp hg with hg | hg
        · have h1 := e3 _ _ (hr1 g hg)
          exact (upd_ne (ne_kind h1 hD3 (by intro z; cases z))).trans h1
        · rw [List.mem_singleton.mp hg]
          exact (upd_ne (ne_kind hp hD3 (by intro z; cases z))).trans hp
      · intro g hg r hr
        rcases List.mem_append.mp hg with hg | hg
        · have h1 := e3 _ _ (hr2 g hg r hr)
          exact (upd_ne (ne_kind h1 hD3 (by intro z; cases z))).trans h1
        · rw [List.mem_singleton.mp hg] at hr
          have h1 := hrt r hr
          exact (upd_ne (ne_kind h1 hD3 (by intro z; cases z))).trans h1
    · obtain ⟨gs, hgs, e2, hD, hr1, hr2⟩ := hp
      rw [vtx_len, List.take_length] at hgs
      exact k D gs H2 e2 nD ⟨hD, hr1, hr2⟩ hgs
end
end K17

set_option Elab.async false
set_option linter.all false
set_option maxRecDepth 100000
set_option maxHeartbeats 4000000
/-! Rounds told. -/
namespace K17
open PySem PySem.Spec PyProof.Rows L2 Vl Evl Vp Vr Vx2 Vlk Vda Vc Ve Ven Vlt Vrc Vwy Vdf Vlp
/-- the class Asked in one word -/
structure AD (P : Program) (w : World) (K : PySem.W.Frag) (mg : Str → Option Value) (base : Heap) (CA C NW NL : Addr) : Prop where
  cls : Cls K CA
  new : Nw P w K mg base CA (L2.CX P w) 8 "Asked" (spAi K CA C NW NL)
  net : Pr P w K mg base CA 5 "net" (spAn CA C)
  wanted : Pr P w K mg base CA 1 "wanted" (spAw CA C)
  part : Mo P w K mg base CA L2.CX0 1 "part" (spAp CA C)
  bool : Mo P w K mg base CA L2.CX0 1 "__bool__" (spAb CA C)
theorem plain_nodes {gs : List GRow} {B : List (List Nat)} {f : List Nat → List (List Nat × List Nat)} (h : plainG gs = B.map fun b => (b, f b)) : nodes gs = B := by
  have := congrArg (List.map fun z => z.1) h
  unfold plainG at this
  rw [List.map_map, List.map_map] at this
  exact this.trans (List.map_id _)
theorem plain_ge {gs : List GRow} {bs : Bare} {B Ls : List (List Nat)} (h : plainG gs = B.map fun b => (b, rowsG bs Ls b)) {l b c : List Nat} : GE gs l b c ↔ (l, b, c) ∈ bs ∧ b ∈ B ∧ l ∈ Ls := by
  constructor
  · rintro ⟨g, hg, rfl, e, he, hel⟩
    have h1 : (g.2.1, g.2.2.map fun e => e.2) ∈ plainG gs := List.mem_map_of_mem (f := fun g : GRow => (g.2.1, g.2.2.map fun e => e.2)) hg
    rw [h] at h1
    obtain ⟨b, hb, hbe⟩ := List.mem_map.mp h1
    injection hbe with e1 e2
    have h2 : (l, c) ∈ rowsG bs Ls b := by
      rw [e2, ← hel]
      exact List.mem_map_of_mem (f := fun e : Addr × (List Nat × List Nat) => e.2) he
    unfold rowsG at h2
    obtain ⟨t, ht, hte⟩ := List.mem_map.mp h2
    obtain ⟨h3, h4⟩ := List.mem_filter.mp ht
    obtain ⟨h5, h6⟩ := List.mem_filter.mp h3
    injection hte with e3 e4
    rw [← e3, ← e4, ← e1, ← of_decide_eq_true h6]
    exact ⟨h5, by rw [of_decide_eq_true h6]; exact hb, of_decide_eq_true h4⟩
  · rintro ⟨h1, h2, h3⟩
    have h4 : (b, rowsG bs Ls b) ∈ plainG gs := by
      rw [h]
      exact List.mem_map_of_mem (f := fun b => (b, rowsG bs Ls b)) h2
    unfold plainG at h4
    obtain ⟨g, hg, hge⟩ := List.mem_map.mp h4
    injection hge with e1 e2
    have h5 : (l, c) ∈ rowsG bs Ls b := List.mem_map.mpr ⟨(l, b, c), List.mem_filter.mpr ⟨List.mem_filter.mpr ⟨h1, decide_eq_true rfl⟩, decide_eq_true h3⟩, rfl⟩
    rw [← e2] at h5
    obtain ⟨e, he, hee⟩ := List.mem_map.mp h5
    exact ⟨g, hg, e1, e, he, hee⟩
/-- a part told: what is known of it -/
theorem part_is {ps ws : List (List Nat)} {bs : Bare} {p : Part} (h : partW bs ps ws = some p) : ∃ a ∈ ps, p = partP bs ps a ∧ ∀ l ∈ ws, l ∈ p.2 := by
  unfold partW at h
  obtain ⟨a, ha, _, hp⟩ := mem_parts (List.mem_of_find?_eq_some h)
  exact ⟨a, ha, hp, holds_iff.mp (List.find?_some h)⟩
theorem reach_g {ps : List (List Nat)} {rs : List Row} (RO : RowsOk ps rs) {gs : List GRow} {a : List Nat} (h : plainG gs = (scc (bare rs) ps a).map fun b => (b, rowsG (bare rs) (inner (bare rs) (scc (bare rs) ps a)) b)) {b c : List Nat} (hb : b ∈ scc (bare rs) ps a) (hr : Reach (Edge (bare rs)) b c) :
    Reach (Edge (bare rs)) c b → Reach (GN gs) b c ∧ c ∈ scc (bare rs) ps a := by
  induction hr with
  | refl => exact fun _ => ⟨.refl, hb⟩
  | @step d c hr e ih =>
    intro hback
    obtain ⟨t, ht, h1, h2⟩ := e
    obtain ⟨r1, r2⟩ := ih ((Reach.step .refl ⟨t, ht, h1, h2⟩).trans hback)
    obtain ⟨_, _, hc⟩ := bare_row RO ht
    have hb2 := List.mem_filter.mp hb
    have hcs : c ∈ scc (bare rs) ps a := by
      rw [h2] at hc
      refine List.mem_filter.mpr ⟨hc, both_trans hb2.2 (both_iff.mpr ⟨.step hr ⟨t, ht, h1, h2⟩, hback⟩)⟩
    refine ⟨.step r1 ⟨t.1, (plain_ge h).mpr ⟨?_, r2, mem_inner.mpr ⟨t, ht, rfl, by rw [h1]; exact r2, by rw [h2]; exact hcs⟩⟩⟩, hcs⟩
    rw [← h1, ← h2]
    exact ht
structure Grf (bs : Bare) (p : Part) (gs : List GRow) : Prop where
  ok : GOk gs
  nod : nodes gs = p.1
  ge : ∀ l b c, GE gs l b c ↔ (l, b, c) ∈ bs ∧ b ∈ p.1 ∧ l ∈ p.2
  strong : ∀ b ∈ nodes gs, ∀ c ∈ nodes gs, Reach (GN gs) b c
  occ : ∀ l ∈ p.2, ∃ b c, GE gs l b c
theorem grf_of {ps ws : List (List Nat)} {rs : List Row} (NA : Names ps) (RO : RowsOk ps rs) (hp30 : ps.length ≤ 30) {p : Part} (hp : partW (bare rs) ps ws = some p) {gs : List GRow} (h : plainG gs = p.1.map fun b => (b, rowsG (bare rs) p.2 b)) : Grf (bare rs) p gs := by
  obtain ⟨a, ha, rfl, hall⟩ := part_is hp
  have hn : nodes gs = scc (bare rs) ps a := plain_nodes h
  have hge : ∀ {l b c}, GE gs l b c ↔ (l, b, c) ∈ bare rs ∧ b ∈ scc (bare rs) ps a ∧ l ∈ inner (bare rs) (scc (bare rs) ps a) := plain_ge h
  refine ⟨⟨?_, fun g hg e he => ?_, ?_⟩, hn, fun l b c => hge, fun b hb c hc => ?_, fun l hl => ?_⟩
  · rw [hn]
    exact NA.2.sublist List.filter_sublist
  · have h1 : GE gs e.2.1 g.2.1 e.2.2 := ⟨g, hg, rfl, e, he, rfl⟩
    obtain ⟨h2, h3, h4⟩ := hge.mp h1
    obtain ⟨t, ht, htl, _, h6⟩ := mem_inner.mp h4
    have := bare_own RO ht h2 htl
    rw [this] at h6
    rw [hn]
    exact h6
  · have := congrArg List.length hn
    unfold nodes at this
    rw [List.length_map] at this
    rw [this]
    exact Nat.le_trans (List.length_filter_le _ _) hp30
  · rw [hn] at hb hc
    have hb2 := (both_iff.mp (List.mem_filter.mp hb).2)
    have hc2 := (both_iff.mp (List.mem_filter.mp hc).2)
    exact (reach_g RO h hb (hb2.2.trans hc2.1) (hc2.2.trans hb2.1)).1
  · obtain ⟨t, ht, rfl, h1, h2⟩ := mem_inner.mp hl
    exact ⟨t.2.1, t.2.2, hge.mpr ⟨ht, h1, hl⟩⟩
theorem wk_bare {bs : Bare} {p : Part} {gs : List GRow} (G : Grf bs p gs) {a b : List Nat} {ls : List (List Nat)} (h : Wk (GE gs) a b ls) : Wk (LaneB bs) a b ls := by
  induction h with
  | nil => exact .nil
  | snoc _ e ih => exact .snoc ih ((G.ge _ _ _).mp e).1
theorem wk_lanes {bs : Bare} {p : Part} {gs : List GRow} (G : Grf bs p gs) {a b : List Nat} {ls : List (List Nat)} (h : Wk (GE gs) a b ls) : ∀ l ∈ ls, l ∈ p.2 := by
  induction h with
  | nil => exact fun _ z => nomatch z
  | snoc _ e ih =>
    intro l hl
    rcases List.mem_append.mp hl with hl | hl
    · exact ih l hl
    · rw [List.mem_singleton.mp hl]
      exact ((G.ge _ _ _).mp e).2.2
/-- a closed walk of the part that takes the wanted lanes -/
structure RoundOf (bs : Bare) (p : Part) (ws ls : List (List Nat)) : Prop where
  wk : ∃ a, Wk (LaneB bs) a a ls
  takes : ∀ l ∈ ws, l ∈ ls
  within : ∀ l ∈ ls, l ∈ p.2
  few : ls.length ≤ 3000
abbrev sRw : Stmt := top 83
abbrev nRw : List Str := ["asked", "walk", "net", "leads", "start", "here", "left", "lane"]
abbrev sAr : Stmt := memA 4
def spRd (CA C CR : Addr) : Sp := fun vs H Q _ => ∃ (o n dn dpn den wt dxo : Addr) (pv : V) (ws ps : List (List Nat)) (es : List Row) (part : Part), vs = [.ref o] ∧ AskAt CA C H o n dn dpn den wt dxo pv ws ps es (some part) ∧ partW (bare es) ps ws = some part ∧ Names ps ∧ RowsOk ps es ∧ ps.length ≤ 30 ∧ es.length ≤ 30 ∧ ws ≠ [] ∧ ws.length ≤ 90 ∧
  ∀ r t dx ls H', Ex H H' → RndAt CR H' r t dx ls → RoundOf (bare es) part ws ls → Q (.ref r) H'
def spRw (CA C CR : Addr) : Sp := fun vs H Q E => ∃ o wl, vs = [.ref o, .ref wl] ∧ H wl = some (.lst []) ∧ spRd CA C CR [.ref o] H Q E
section
variable {P : Program} {w : World} {K : PySem.W.Frag} {mg : Str → Option Value} {base : Heap} {CA C CR BN NT NP NL NW : Addr}
theorem scRw : FnScope nRw ["asked", "walk"] (defScope sRw) := ⟨rfl, rfl, rfl, by decide +kernel, rfl, by decide +kernel, by decide +kernel⟩
theorem ok_rw {f : Addr} {fd : FuncData} (F : FnP K "_round_with" sRw f fd) (N : ND P w K mg base C BN NT NP NL) (AD : AD P w K mg base CA C NW NL) (TGp : Fu P w K mg base L2.CX0 5 "graph_of_part" (spGp C)) (TWt : Fu P w K mg base L2.CX0 3 "way_taking" (spWt K)) (TRo : Nw P w K mg base CR L2.CX0 5 "Round" (spRi CR)) (mLen : mg "len" = none) : FnOk P w K mg base L2.CX0 7 f fd ["asked", "walk"] (spRw CA C CR) := by
  refine F.ok (CX := L2.CX0) scRw (fun vs H Q E h => ?_) (fun cdv A outer s H vs Q E hr h => ?_)
  · obtain ⟨o, wl, rfl, _⟩ := h
    rfl
  · refine ⟨_, (pss_cons (ps_set (i := 2) scRw.nd rfl (by first | exact Or.inl rfl | exact Or.inr rfl) (pe_pr (pv 0) AD.cls AD.net hr))
      (pss_cons (ps_set (i := 3) scRw.nd rfl (by first | exact Or.inl rfl | exact Or.inr rfl) (pe_fu TGp hr (by rfl) (pa_cons (pv 2) (pa_cons (pe_mo0 (pv 0) AD.cls AD.part hr) pa_nil))))
      (pss_cons (ps_set (i := 4) scRw.nd rfl (by first | exact Or.inl rfl | exact Or.inr rfl) (pe_moN (pv 2) N.cls N.start hr (pa_cons (pe_ifExp (pt_cmpR op_gt (pe_callB call_len (by rfl) mLen boot_len (pa_cons (pv 1) pa_nil)) pe_int (nomark _)) (pe_ix ix_list (pv 1) pe_int fun _ _ => rfl) (pe_ix ix_tup (pe_pr (pv 0) AD.cls AD.wanted hr) pe_int fun _ _ => rfl)) pa_nil)))
      (pss_cons (ps_set (i := 5) scRw.nd rfl (by first | exact Or.inl rfl | exact Or.inr rfl) (pe_ifExp (pt_cmpR op_gt (pe_callB call_len (by rfl) mLen boot_len (pa_cons (pv 1) pa_nil)) pe_int (nomark _)) (pe_moN (pv 2) N.cls N.end_ hr (pa_cons (pe_ix ix_list (pv 1) (pe_un un_neg pe_int) fun _ _ => rfl) pa_nil)) (pv 4)))
      (pss_cons (ps_setLc (i := 6) (own := [("lane", 7)]) (g := (gName 7)) (tt := (tTest (tOp (rIn K true) (tVar 7) (tVar 1)))) (te := (tVar 7)) rfl scRw.nd rfl rfl (sw_true rfl rfl rfl (by decide +kernel)) (pi_tup (pe_pr (pv 0) AD.cls AD.wanted hr)) (blkOk_by (own := [("lane", 7)]) (N := nRw) (sc := defScope sRw) (by decide +kernel)) (fun _ _ _ _ _ => (pg_name (i := 7) scRw.nd rfl (by first | exact Or.inl rfl | exact Or.inr rfl))) (fun _ _ _ _ _ => (pts_one (pt_cmpR op_notIn_seq (pv 7) (pv 1) rfl))) (fun _ _ _ _ _ => (pv 7)))
      (pss_one (ps_ret (pe_nw TRo hr (by rfl) (pa_cons (pe_op op_cat (pv 1) (pe_fu TWt hr (by rfl) (pa_cons (pv 3) (pa_cons (pv 5) (pa_cons (pv 4) (pa_cons (pv 6) pa_nil)))))) pa_nil))))))))), ?_⟩
    obtain ⟨o, wl, rfl, hwl, o', n, dn, dpn, den, wt, dxo, pv, ws, ps, es, part, ho, A, hpt, NA, RO, hp30, he30, hne, hw100, k⟩ := h
    obtain rfl : o = o' := by injection ho with ho _; exact V.ref.inj ho
    obtain ⟨a0, ha0, hpa, hall⟩ := part_is hpt
    obtain ⟨w0, wr, hws⟩ := List.exists_cons_of_ne_nil hne
    have hw0 : w0 ∈ part.2 := hall w0 (by rw [hws]; exact List.mem_cons_self)
    have hw0' := hw0
    rw [hpa] at hw0'
    obtain ⟨t0, ht0, ht0l, hst, hen⟩ := mem_inner.mp hw0'
    unfold bare at ht0
    obtain ⟨r0, hr0, rfl⟩ := List.mem_map.mp ht0
    obtain ⟨i0, hi0⟩ := List.getElem?_of_mem hr0
    have hrow : rowOf es w0 = some r0 := by rw [← ht0l]; exact row_own RO.1.2 hi0
    refine s_seq ?_
    refine ⟨_, rfl, o, dxo, _, rfl, A.at_, o, n, dn, dpn, den, wt, dxo, pv, ws, ps, es, _, rfl, A, fun o1 dx1 dp1 de1 H1 e1 no1 ndp1 nde1 g1 g2 g3 N1 => ?_⟩
    have A1 := A.mono e1
    dsimp only
    refine s_seq ?_
    have hB : part.1 = scc (bare es) ps a0 := by rw [hpa]; rfl
    refine ⟨_, rfl, _, rfl, o, dxo, _, rfl, A1.at_, rfl, o, n, dn, dpn, den, wt, dxo, pv, ws, ps, es, part, rfl, A1, fun f H2 hf e2 hpat => ?_⟩
    have N2 := N1.mono e2
    refine ⟨o1, dx1, dp1, de1, f, ps, es, part.1, part.2, rfl, N2, RO, hp30, he30, hpat, by rw [hB]; exact NA.2.sublist List.filter_sublist, fun b hb => by rw [hB] at hb; exact (List.mem_filter.mp hb).1, by rw [hB]; exact Nat.le_trans (List.length_filter_le _ _) hp30, fun dl gs H3 e3 ndl L3 hgs => ?_⟩
    have G := grf_of NA RO hp30 hpt hgs
    have e03 := (e1.trans e2).trans e3
    have A3 := A.mono e03
    have N3 := N2.mono e3
    have hwl3 := e03 _ _ hwl
    dsimp only
    refine s_seq ?_
    have no : ∀ {σ : L2.St} {H' : Hp}, σ[1]? = some (some (.ref wl)) → Ex H3 H' → EvT (tTest (tOp (rI0 fun i j => .bl (decide (i > j))) (tCB (fun xs H Q => ∃ x n, xs = [x] ∧ LenV K x H n ∧ Q (.int n) H) (tCons (tVar 1) tNil)) (tC (.int 0)))) σ H' false := fun h1 e => et_test (ev_is (ev_op (ev_lenA (ev_var h1) (sq_of (e _ _ hwl3))) ev_c rv_I0) rfl)
    have ew : ∀ {σ : L2.St} {H' : Hp}, σ[0]? = some (some (.ref o)) → Ex H3 H' → Ev (tPr CA (spAw CA C) (tVar 0)) σ H' (.ref wt) := fun h0 e H4 e4 Q4 q4 => ⟨_, h0, o, dxo, _, rfl, (A3.mono (e.trans e4)).at_, o, n, dn, dpn, den, wt, dxo, pv, ws, ps, es, _, rfl, A3.mono (e.trans e4), fun H5 e5 => q4 H5 e5⟩
    refine s_asg (v := .str (tx r0.2.2.1)) (ev_me (ev_var (i := 2) rfl) N3.at_ rfl (ea_cons (x := .str (tx w0)) (ev_if (b := false) (no rfl (Ex.refl _)) (fun z => by cases z) (fun _ => ev_op (ew rfl (Ex.refl _)) ev_c (rv_ixT (st_of A3.wanted) (at_of (j := 0) rfl (by rw [hws]; rfl))))) ea_nil) (sv_end (g := fun r => r.2.2.1) N3 hrow)) fun H4 e4 => ?_
    dsimp only
    refine s_seq ?_
    refine s_asg (v := .str (tx r0.2.2.1)) (ev_if (b := false) (no rfl e4) (fun z => by cases z) (fun _ => ev_var (i := 4) rfl)) fun H5 e5 => ?_
    have e35 := e4.trans e5
    dsimp only
    refine s_seq ?_
    refine s_asgL (xs := vtx ws) ?_ fun lf H6 nlf e6 hlf => ?_
    · have := el_lcTA (K := K) (σ := [some (.ref o), some (.ref wl), some (.ref o1), some (.ref dl), some (.str (tx r0.2.2.1)), some (.str (tx r0.2.2.1)), none, none]) (H := H5) (j := 7) (vs := [7]) (ys := ws) (g := fun y => V.str (tx y)) (te := tVar 7) (tt := tTest (tOp (rIn K true) (tVar 7) (tVar 1))) (tl := tPr CA (spAw CA C) (tVar 0)) (fun _ => true) (fun y => V.str (tx y)) (ew rfl e35) (st_of (A3.mono e35).wanted) (by omega) (fun _ => rfl) (fun y H6 e6 hy => et_test (ev_is (ev_op (ev_var rfl) (ev_var (i := 1) rfl) (rv_niL (xs := []) (sq_of ((e35.trans e6) _ _ hwl3)) rfl rfl)) rfl)) (fun y H6 e6 hy _ => ev_var rfl)
      rw [List.filter_eq_self.mpr (fun _ _ => rfl)] at this
      exact this
    have e36 := e35.trans e6
    dsimp only
    have hsn : r0.2.2.1 ∈ nodes gs := by rw [G.nod, hB]; exact hst
    refine s_retE ?_
    refine ⟨_, rfl, _, rfl, _, rfl, _, rfl, _, rfl, dl, lf, gs, r0.2.2.1, r0.2.2.1, ws, rfl, L3.mono e36, G.ok, .inl (sq_of hlf), hw100, hsn, hsn, G.strong, fun l hl => G.occ l (hall l hl), fun q ls H7 e7 nq hq hwk hcov hlen => ?_⟩
    have hwl7 := (e36.trans e7) _ _ hwl3
    refine ⟨wl, q, [], vtx ls, rfl, rfl, hwl7, hq, sz_of (by rw [vtx_len]; show 0 + _ ≤ _; omega), fun c nc => ?_⟩
    have e8 : Ex H7 (upd H7 c (.lst ([] ++ vtx ls))) := Ex.new nc
    have hc8 : (upd H7 c (.lst ([] ++ vtx ls))) c = some (.lst (vtx ls)) := upd_same
    generalize upd H7 c (.lst ([] ++ vtx ls)) = H8 at e8 hc8
    have hwith := wk_lanes G hwk
    refine fun x dx hx hdx hxd => ⟨x, dx, c, H8, ls, rfl, rfl, hx, hdx, hxd, hc8, fun l hl => ?_, fun z => ?_, fun t H9 e9 R9 => ⟨rfl, ?_⟩⟩
    · have h1 := hwith l hl
      rw [hpa] at h1
      obtain ⟨t1, ht1, rfl, _⟩ := mem_inner.mp h1
      exact (bare_row RO ht1).1
    · have := hcov w0 (by rw [hws]; exact List.mem_cons_self)
      rw [z] at this
      cases this
    · exact k x t dx ls H9 (((e03.trans e36).trans e7).trans (e8.trans e9)) R9 ⟨⟨_, wk_bare G hwk⟩, hcov, hwith, hlen⟩
theorem scAr : FnScope nA1 ["self"] (defScope sAr) := ⟨rfl, rfl, rfl, by decide +kernel, rfl, by decide +kernel, by decide +kernel⟩
theorem ok_ar {f : Addr} {fd : FuncData} (F : FnM K "round" "Asked.round" sAr f fd) (TRw : Fu P w K mg base L2.CX0 7 "_round_with" (spRw CA C CR)) : FnOk P w K mg base L2.CX0 8 f fd ["self"] (spRd CA C CR) := by
  refine F.ok (CX := L2.CX0) scAr (fun vs H Q E h => ?_) (fun cdv A outer s H vs Q E hr h => ?_)
  · obtain ⟨o, n, dn, dpn, den, wt, dxo, pv, ws, ps, es, part, rfl, _⟩ := h
    rfl
  · refine ⟨_, (pss_one (ps_ret (pe_fu TRw hr (by rfl) (pa_cons (pv 0) (pa_cons (pe_lst pa_nil) pa_nil))))), ?_⟩
    obtain ⟨o, n, dn, dpn, den, wt, dxo, pv, ws, ps, es, part, rfl, A, hpt, NA, RO, hp30, he30, hne, hw100, k⟩ := h
    refine ⟨_, rfl, by show 0 ≤ sizeLine; omega, fun wl nwl => ?_⟩
    exact ⟨o, wl, rfl, upd_same, o, n, dn, dpn, den, wt, dxo, pv, ws, ps, es, part, rfl, A.mono (Ex.new nwl), hpt, NA, RO, hp30, he30, hne, hw100, fun r t dx ls H' e R hR => k r t dx ls H' ((Ex.new nwl).trans e) R hR⟩
end
end K17

set_option Elab.async false
set_option linter.all false
set_option maxRecDepth 100000
set_option maxHeartbeats 4000000
/-! Rounds of a net: by the program, by the law. -/
namespace K17
open PySem PySem.Spec PyProof.Rows L2 Vl Evl Vp Vr Vx2 Vlk Vda Vc Ve Vrc Vwy Ven
theorem dec_tx {a b : List Nat} : V.bl (decide (V.str (tx a) = V.str (tx b))) = V.bl (decide (a = b)) := by
  rw [str_eq]
abbrev tLn (K : PySem.W.Frag) (te : TE) : TE := tCB (fun xs H Q => ∃ x n, xs = [x] ∧ LenV K x H n ∧ Q (.int n) H) (tCons te tNil)
/-- a round of lanes, its object and its tuple not named -/
def Rn9 (K : PySem.W.Frag) (C : Addr) (H : Hp) (o : Addr) (a : List (List Nat)) : Prop := ∃ dx q, H o = some (.ins C dx [("_lanes", .ref q)]) ∧ SqT K H q (vtx a)
theorem RndAt.rn {K : PySem.W.Frag} {CR : Addr} {H : Hp} {o t dx : Addr} {a : List (List Nat)} (h : RndAt CR H o t dx a) : Rn9 K CR H o a := ⟨dx, t, h.at_, st_of h.lanes⟩
def stE (bs : Bare) (l : List Nat) : List Nat := match bs.find? (fun t => decide (t.1 = l)) with | some t => t.2.1 | none => []
def enE (bs : Bare) (l : List Nat) : List Nat := match bs.find? (fun t => decide (t.1 = l)) with | some t => t.2.2 | none => []
theorem row_bare (es : List Row) (l : List Nat) : (bare es).find? (fun t => decide (t.1 = l)) = (rowOf es l).map fun r => r.2 := by
  unfold bare rowOf
  rw [List.find?_map]
  rfl
theorem row_st {es : List Row} {l : List Nat} {r : Row} (h : rowOf es l = some r) : stE (bare es) l = r.2.2.1 := by
  unfold stE
  rw [row_bare, h]
  rfl
theorem row_en {es : List Row} {l : List Nat} {r : Row} (h : rowOf es l = some r) : enE (bare es) l = r.2.2.2 := by
  unfold enE
  rw [row_bare, h]
  rfl
theorem row_in {es : List Row} (nd : (laneNames es).Nodup) {l : List Nat} (h : l ∈ laneNames es) : ∃ r, rowOf es l = some r := by
  unfold laneNames at h
  obtain ⟨r, hr, rfl⟩ := List.mem_map.mp h
  obtain ⟨i, hi⟩ := List.getElem?_of_mem hr
  exact ⟨r, row_own nd hi⟩
section
variable {K : PySem.W.Frag} {B : Hp} {D : Ends} {σ : L2.St} {H : Hp} {tu : TS} {g : TG} {a : Addr} {xs : List V}
theorem s_forEnB {ta : TA} (h : EvA ta σ H [.ref a]) (hB : Ex B H) (hx : SqA K B a xs) (Pv : Nat → L2.St → Hp → Prop) (h0 : ∀ H1, Ex H H1 → Pv 0 σ H1) (hl : ∀ i σ' H', Pv i σ' H' → Ex B H')
    (hs : ∀ i x T σ' H', xs[i]? = some x → Pv i σ' H' → H' T = none → g (.ref T) σ' (upd H' T (.tup [.int (i : Nat), x])) fun σ2 H2 => tu { D with nx := Pv (i + 1), ct := Pv (i + 1), bk := D.nx } σ2 H2) (hd : ∀ σ' H', Pv xs.length σ' H' → D.nx σ' H') : tFor (iEnumA K ta) g tu D σ H :=
  h H (Ex.refl H) _ fun H1 e => ⟨a, xs, rfl, by
    rcases hx with hx | hx
    · exact .inl ⟨ex_l (hB.trans e) hx, for_it walk_en Pv (h0 H1 e) (fun i σ' H' _ p => ex_l (hl i σ' H' p) hx) (fun i v σ' H' H2 _ p ⟨T, x, e1, e2, e3, e4⟩ => by subst e1 e3; exact hs i x T σ' H' e4 p e2) hd⟩
    · exact .inr ⟨ex_t (hB.trans e) hx, for_it walk_enT Pv (h0 H1 e) (fun i σ' H' _ p => ex_t (hl i σ' H' p) hx) (fun i v σ' H' H2 _ p ⟨T, x, e1, e2, e3, e4⟩ => by subst e1 e3; exact hs i x T σ' H' e4 p e2) hd⟩⟩
theorem ev_st {σ : L2.St} {H : Hp} {dd : Addr} {es rs : List Row} {td ti : TE} {l : List Nat} (nd : (laneNames rs).Nodup) (hbe : bare es = bare rs) (hd : H dd = some (.dK (dEnds es))) (he : ∀ e ∈ es, EndAt H e) (hl : l ∈ laneNames rs) (h1 : Ev td σ H (.ref dd)) (h2 : Ev ti σ H (.str (tx l))) :
    Ev (tOp (rIxT K) (tDGet td ti) (tC (.int 0))) σ H (.str (tx (stE (bare rs) l))) ∧ Ev (tOp (rIxT K) (tDGet td ti) (tC (.int 1))) σ H (.str (tx (enE (bare rs) l))) := by
  have nde : (laneNames es).Nodup := by rw [bare_names hbe]; exact nd
  obtain ⟨r, hr⟩ := row_in nde (show l ∈ laneNames es by rw [bare_names hbe]; exact hl)
  have hv : valV (dEnds es) (Sum.inr (tx l) : Key) = some (V.ref r.1) := by rw [ends_get, hr]; rfl
  have hm := (rowOf_mem hr).1
  rw [← hbe, row_st hr, row_en hr]
  exact ⟨ev_op (ev_dget h1 h2 (by rw [← hv]; exact DGet.k (k := (Sum.inr (tx l) : Key)) hd)) ev_c (rv_ixT (st_of (he r hm)) (at_of (j := 0) rfl rfl)),
    ev_op (ev_dget h1 h2 (by rw [← hv]; exact DGet.k (k := (Sum.inr (tx l) : Key)) hd)) ev_c (rv_ixT (st_of (he r hm)) (at_of (j := 1) rfl rfl))⟩
end

def prv (n k : Nat) : Nat := if k = 0 then n - 1 else k - 1
theorem prv_lt {n k : Nat} (h : k < n) : prv n k < n := by unfold prv; split <;> omega
theorem at_prv {ls : List (List Nat)} {k : Nat} (hk : k < ls.length) : atI (vtx ls) ((k : Int) - 1) = some (V.str (tx (ls.getD (prv ls.length k) []))) := by
  have hp := prv_lt hk
  have hg : (vtx ls)[prv ls.length k]? = some (V.str (tx (ls.getD (prv ls.length k) []))) := by
    refine vtx_at ?_
    rw [List.getD_eq_getElem?_getD, List.getElem?_eq_getElem hp]
    rfl
  unfold atI ixN
  rw [vtx_len]
  unfold prv at hg ⊢
  by_cases h : k = 0
  · subst h
    rw [if_neg (by omega)]
    rw [if_pos rfl] at hg ⊢
    rw [if_pos (by omega)]
    show (vtx ls)[_]? = _
    rw [← hg]
    congr 1
    omega
  · rw [if_pos (by omega), if_pos (by omega)]
    rw [if_neg h] at hg ⊢
    show (vtx ls)[_]? = _
    rw [← hg]
    congr 1
    omega
/-- each lane ends where the one behind it starts, the last one where the first one does -/
def turnB (bs : Bare) (ls : List (List Nat)) (k : Nat) : Bool := decide (enE bs (ls.getD (prv ls.length k) []) = stE bs (ls.getD k []))
def fitsB (bs : Bare) (ls : List (List Nat)) : Bool := (ls.all fun l => decide (l ∈ names bs)) && ((List.range ls.length).all fun k => turnB bs ls k)
def isR (bs : Bare) (ls ws : List (List Nat)) : Bool := (!decide (ls = []) && fitsB bs ls) && ws.all fun l => decide (l ∈ ls)
abbrev sFt : Stmt := top 75
abbrev nFt : List Str := ["net", "ring", "lanes", "lane", "place"]
abbrev sIr : Stmt := top 103
abbrev nIr : List Str := ["_law_parts", "_law_lanes", "_law_wanted_here", "_law_ends_here", "_law_lane", "_law_k"]
def spFt (K : PySem.W.Frag) (C CR : Addr) : Sp := fun vs H Q _ => ∃ (o dx dp de r : Addr) (ps : List (List Nat)) (es : List Row) (a : List (List Nat)), vs = [.ref o, .ref r] ∧ NetAt C H o dx dp de ps es ∧ (laneNames es).Nodup ∧ Rn9 K CR H r a ∧ a.length ≤ 3000 ∧
  ∀ H', Ex H H' → Q (.bl (fitsB (bare es) a)) H'
def spIr : Sp := fun vs H Q _ => ∃ (q a b t wl : Addr) (ps : List (List Nat)) (rs : List Row) (ls ws : List (List Nat)), vs = [.ref q, .ref t, .ref wl] ∧ Told H q a b ps rs ∧ RowsOk ps rs ∧ rs.length ≤ 30 ∧ H t = some (.lst (vtx ls)) ∧ ls.length ≤ 3000 ∧ Oks ls ∧ H wl = some (.lst (vtx ws)) ∧ ws.length ≤ 100 ∧ Oks ws ∧
  ∀ H', Ex H H' → Q (.bl (isR (bare rs) ls ws)) H'
theorem dec_len {n : Nat} : V.bl (decide (V.int (n : Nat) = V.int 0)) = V.bl (decide (n = 0)) := by
  by_cases h : n = 0
  · rw [h, decide_eq_true rfl]; rfl
  · rw [decide_eq_false h, decide_eq_false fun z => h (by have := V.int.inj z; omega)]
section
variable {K : PySem.W.Frag} {te tl : TE} {tt : TT} {σ : L2.St} {H : Hp}
theorem el_lcTA {α : Type} {ys : List α} {g : α → V} {a : Addr} {j : Nat} {vs : List Nat} (c : α → Bool) (w : α → V) (h : Ev tl σ H (.ref a)) (hx : SqT K H a (ys.map g)) (hz : ys.length ≤ 40000) (hw : ∀ x, wipe ((wipe σ vs).set j (some x)) vs = wipe σ vs)
    (ht : ∀ (y : α) (H1 : Hp), Ex H H1 → y ∈ ys → EvT tt ((wipe σ vs).set j (some (g y))) H1 (c y)) (he : ∀ (y : α) (H1 : Hp), Ex H H1 → y ∈ ys → c y = true → Ev te ((wipe σ vs).set j (some (g y))) H1 (w y)) :
    EvL (tLc (iTup K tl) (gName j) tt te vs) σ H ((ys.filter c).map w) := fun H0 e Q q => h H0 e _ fun H1 e1 => ⟨a, rfl, ⟨ys.map g, ex_t (e.trans e1) hx⟩, fun Dl hD => by
  have hgm := given_map c w (fun i => match ys[i]? with | some y => c y | none => false) (fun i => match ys[i]? with | some y => w y | none => .non) (fun i y hy => by rw [hy]; exact ⟨rfl, rfl⟩) ys.length (Nat.le_refl _)
  rw [List.take_length] at hgm
  refine lc_tup (xs := ys.map g) (Cw H1 (fun i => match ys[i]? with | some y => c y | none => false) (fun i => match ys[i]? with | some y => w y | none => .non) Dl) ⟨hD, Ex.new hD, upd_same⟩ (fun i H' _ p => ex_t ((e.trans e1).trans p.2.1) hx) (fun i x H' hi p => ⟨hw x, ?_⟩)
    (fun H' p => q Dl H' (fresh_back e1 p.1) (e1.trans p.2.1) (by have h2 := p.2.2; rw [List.length_map, hgm] at h2; exact h2))
  rw [List.getElem?_map] at hi
  obtain ⟨y, hy, rfl⟩ := Option.map_eq_some_iff.mp hi
  have hm := List.mem_of_getElem? hy
  refine cw_turn p (by have := (List.getElem?_eq_some_iff.mp hy).1; omega) ?_ ?_
  · rw [hy]
    exact ht y H1 (e.trans e1) hm
  · rw [hy]
    exact fun hf => he y H1 (e.trans e1) hm hf⟩
theorem el_lcTM {α : Type} {ys : List α} {g : α → V} {a : Addr} {j : Nat} {vs : List Nat} (w : α → V) (h : Ev tl σ H (.ref a)) (hx : SqT K H a (ys.map g)) (hz : ys.length ≤ 40000) (hw : ∀ x, wipe ((wipe σ vs).set j (some x)) vs = wipe σ vs)
    (he : ∀ (y : α) (H1 : Hp), Ex H H1 → y ∈ ys → Ev te ((wipe σ vs).set j (some (g y))) H1 (w y)) : EvL (tLc (iTup K tl) (gName j) tYes te vs) σ H (ys.map w) := by
  have := el_lcTA (K := K) (tt := tYes) (te := te) (fun _ => true) w h hx hz hw (fun y H1 _ _ => et_yes) (fun y H1 e hy _ => he y H1 e hy)
  rw [List.filter_eq_self.mpr (fun _ _ => rfl)] at this
  exact this
theorem ev_all {bs : List Bool} (h : EvL te σ H (bs.map V.bl)) : Ev (tCB (rAll K) (tCons te tNil)) σ H (.bl (bs.all id)) := fun H1 e Q q => h H1 e _ fun p H2 np e2 hp => ⟨p, bs, rfl, sq_of hp, q H2 e2⟩
theorem given_all {n : Nat} (v : Nat → V) : given n (fun _ => true) v = (List.range n).map v := by
  unfold given
  rw [List.filter_eq_self.mpr (fun _ _ => rfl)]
end
section
variable {P : Program} {w : World} {K : PySem.W.Frag} {mg : Str → Option Value} {base : Heap} {C BN NT NP NL CR : Addr}
theorem scFt : FnScope nFt ["net", "ring"] (defScope sFt) := ⟨rfl, rfl, rfl, by decide +kernel, rfl, by decide +kernel, by decide +kernel⟩
theorem ok_ft {f : Addr} {fd : FuncData} (F : FnP K "fits" sFt f fd) (N : ND P w K mg base C BN NT NP NL) (clsR : Cls K CR) (lanR : Pr P w K mg base CR 1 "lanes" (getSp CR "_lanes")) (mAll : mg "all" = none) (mLen : mg "len" = none) (mRange : mg "range" = none) :
    FnOk P w K mg base L2.CX0 6 f fd ["net", "ring"] (spFt K C CR) := by
  refine F.ok (CX := L2.CX0) scFt (fun vs H Q E h => ?_) (fun cdv A outer s H vs Q E hr h => ?_)
  · obtain ⟨o, dx, dp, de, r, ps, es, a, rfl, _⟩ := h
    rfl
  · refine ⟨_, (pss_cons (ps_set (i := 2) scFt.nd rfl (by first | exact Or.inl rfl | exact Or.inr rfl) (pe_pr (pv 1) clsR lanR hr))
      (pss_cons (ps_if (pt_not (pt_val (pe_callB (cr_all rfl) (by rfl) mAll boot_all (pa_cons (pe_lc (own := [("lane", 3)]) (g := (gName 3)) (tt := tYes) (te := (tOp (Vo.rHas C false (spHas K C) nil0) (tVar 3) (tVar 0))) rfl scFt.nd (pi_tup (pv 2)) (blkOk_by (own := [("lane", 3)]) (N := nFt) (sc := defScope sFt) (by decide +kernel)) (fun _ _ _ _ _ => (pg_name (i := 3) scFt.nd rfl (by first | exact Or.inl rfl | exact Or.inr rfl))) (fun _ _ _ _ _ => pts_nil) (fun _ _ _ _ _ => (pe_cmpR (Vc.op_inM N.has hr) (pv 3) (pv 0) rfl))) pa_nil)))) (pss_one (ps_ret pe_bl)) pss_nil)
      (pss_one (ps_ret (pe_callB (cr_all rfl) (by rfl) mAll boot_all (pa_cons (pe_lc (own := [("place", 4)]) (g := (gName 4)) (tt := tYes) (te := (tOp rEq (Vtr.tMethS C "end_of" (spEndOf C NL fun r => r.2.2.2) (fun _ => nil0) (tVar 0) (tCons (tOp (rIxT K) (tVar 2) (tOp (rI0 fun i j => .int (i - j)) (tVar 4) (tC (.int 1)))) tNil)) (Vtr.tMethS C "start_of" (spEndOf C NL fun r => r.2.2.1) (fun _ => nil0) (tVar 0) (tCons (tOp (rIxT K) (tVar 2) (tVar 4)) tNil)))) rfl scFt.nd (pi_range1 (by rfl) mRange (pa_cons (pe_callB call_len (by rfl) mLen boot_len (pa_cons (pv 2) pa_nil)) pa_nil)) (blkOk_by (own := [("place", 4)]) (N := nFt) (sc := defScope sFt) (by decide +kernel)) (fun _ _ _ _ _ => (pg_name (i := 4) scFt.nd rfl (by first | exact Or.inl rfl | exact Or.inr rfl))) (fun _ _ _ _ _ => pts_nil) (fun _ _ _ _ _ => (pe_cmpR op_eq (pe_moN (pv 0) N.cls N.end_ hr (pa_cons (pe_ix ix_tup (pv 2) (pe_op op_sub (pv 4) pe_int) fun _ _ => rfl) pa_nil)) (pe_moN (pv 0) N.cls N.start hr (pa_cons (pe_ix ix_tup (pv 2) (pv 4) fun _ _ => rfl) pa_nil)) (nomark _)))) pa_nil)))))), ?_⟩
    obtain ⟨o, dx, dp, de, r, ps, es, a, rfl, N1, nd, hR, ha, k⟩ := h
    obtain ⟨dr, q0, h1, h2⟩ := hR
    refine s_seq ?_
    refine ⟨_, rfl, r, dr, _, rfl, h1, r, dr, _, .ref q0, rfl, h1, rfl, ?_⟩
    dsimp only
    refine s_seq ?_
    have key : ∀ l, decide (l ∈ laneNames es) = decide (l ∈ names (bare es)) := fun l => by rw [names_rows]
    refine s_when (b := !(a.all fun l => decide (l ∈ names (bare es)))) (et_not (et_B (ev_is (ev_all (bs := a.map fun l => decide (l ∈ laneNames es)) (by
        rw [List.map_map]
        exact el_lcTM (ys := a) (g := fun l => V.str (tx l)) (fun l => V.bl (decide (l ∈ laneNames es))) (ev_var rfl) h2 (by omega) (fun _ => rfl) (fun l H1 e1 hl => ev_has (ev_var rfl) (ev_var rfl) (e1 _ _ N1.at_) (sv_has (N1.mono e1))))) (by
        rw [List.all_map]
        congr 2
        exact funext fun l => key l)))) (fun hb H1 e1 => ?_) (fun hb H1 e1 => ?_)
    · refine s_ret (v := .bl false) ev_c fun H2 e2 => ?_
      have hz : fitsB (bare es) a = false := by
        unfold fitsB
        cases z : a.all fun l => decide (l ∈ names (bare es)) with
        | false => rfl
        | true => rw [z] at hb; cases hb
      rw [hz] at k
      exact k H2 (e1.trans e2)
    · have hall : (a.all fun l => decide (l ∈ names (bare es))) = true := by
        cases z : a.all fun l => decide (l ∈ names (bare es)) with
        | true => rfl
        | false => rw [z] at hb; cases hb
      have hz : fitsB (bare es) a = (List.range a.length).all fun i => turnB (bare es) a i := by
        unfold fitsB
        rw [hall, Bool.true_and]
      have hin : ∀ l ∈ a, l ∈ laneNames es := fun l hl => by
        have := List.all_eq_true.mp hall l hl
        rw [names_rows] at this
        exact of_decide_eq_true this
      dsimp only
      refine s_ret (v := .bl (fitsB (bare es) a)) (ev_is (ev_all (bs := (List.range a.length).map fun i => turnB (bare es) a i) ?_) ?_) fun H2 e2 => ?_
      · have := el_lcR1 (σ := [some (.ref o), some (.ref r), some (.ref q0), none, none]) (H := H1) (j := 4) (vs := [4]) (n := (a.length : Int)) (t := tYes) (te := tOp rEq (Vtr.tMethS C "end_of" (spEndOf C NL fun r => r.2.2.2) (fun _ => nil0) (tVar 0) (tCons (tOp (rIxT K) (tVar 2) (tOp (rI0 fun i j => .int (i - j)) (tVar 4) (tC (.int 1)))) tNil)) (Vtr.tMethS C "start_of" (spEndOf C NL fun r => r.2.2.1) (fun _ => nil0) (tVar 0) (tCons (tOp (rIxT K) (tVar 2) (tVar 4)) tNil))) (ta := tCons (tLn K (tVar 2)) tNil) (fun _ => true) (fun i => V.bl (turnB (bare es) a i)) (ea_cons (ev_is (ev_lenT (ev_var rfl) (ex_t e1 h2)) (by rw [vtx_len])) ea_nil) (by omega) (fun _ => rfl) (fun i H2 e2 hi => et_yes) (fun i H2 e2 hi _ => ?_)
        · rw [given_all, Int.toNat_natCast] at this
          rw [List.map_map]
          exact this
        · have hil : i < a.length := by omega
          have N2 := N1.mono (e1.trans e2)
          have g1 : a[i]? = some (a.getD i []) := by rw [List.getD_eq_getElem?_getD, List.getElem?_eq_getElem hil]; rfl
          have g2 : a[prv a.length i]? = some (a.getD (prv a.length i) []) := by rw [List.getD_eq_getElem?_getD, List.getElem?_eq_getElem (prv_lt hil)]; rfl
          obtain ⟨r1, hr1⟩ := row_in nd (hin _ (List.mem_of_getElem? g1))
          obtain ⟨r2, hr2⟩ := row_in nd (hin _ (List.mem_of_getElem? g2))
          refine ev_is (ev_op (ev_me (ev_var rfl) N2.at_ rfl (ea_cons (ev_op (ev_var rfl) (ev_op (ev_var rfl) ev_c rv_I0) (rv_ixT (ex_t (e1.trans e2) h2) (at_prv hil))) ea_nil) (sv_end N2 hr2)) (ev_me (ev_var rfl) N2.at_ rfl (ea_cons (ev_op (ev_var rfl) (ev_var rfl) (rv_ixT (ex_t (e1.trans e2) h2) (atI_nat (vtx_at g1)))) ea_nil) (sv_end N2 hr1)) (rv_eq rfl)) ?_
          rw [dec_tx]
          unfold turnB
          rw [row_en hr2, row_st hr1]
      · rw [List.all_map, hz]
        rfl
      · exact k H2 (e1.trans e2)
theorem scIr : FnScope nIr ["_law_parts", "_law_lanes", "_law_wanted_here"] (defScope sIr) := ⟨rfl, rfl, rfl, by decide +kernel, rfl, by decide +kernel, by decide +kernel⟩
theorem ok_ir {f : Addr} {fd : FuncData} (F : FnP K "_law_is_round" sIr f fd) (TEn : Fu P w K mg base L2.CX0 1 "_law_ends" spEn) (mLen : mg "len" = none) (mEnum : mg "enumerate" = none) :
    FnOk P w K mg base L2.CX0 2 f fd ["_law_parts", "_law_lanes", "_law_wanted_here"] spIr := by
  refine F.ok (CX := L2.CX0) scIr (fun vs H Q E h => ?_) (fun cdv A outer s H vs Q E hr h => ?_)
  · obtain ⟨q, a, b, t, wl, ps, rs, ls, ws, rfl, _⟩ := h
    rfl
  · refine ⟨_, (pss_cons (ps_set (i := 3) scIr.nd rfl (by first | exact Or.inl rfl | exact Or.inr rfl) (pe_fu TEn hr (by rfl) (pa_cons (pv 0) pa_nil)))
      (pss_cons (ps_if (PW.pt (pw_or (pt_cmpR op_eq (pe_callB call_len (by rfl) mLen boot_len (pa_cons (pv 1) pa_nil)) pe_int (nomark _)) (pw_or1 (pt_cmpR (op_neD hr.units) (pe_lc (own := [("_law_lane", 4)]) (g := (gName 4)) (tt := (tB (tDNotIn (tVar 4) (tVar 3)))) (te := (tVar 4)) rfl scIr.nd (pi_list (pv 1)) (blkOk_by (own := [("_law_lane", 4)]) (N := nIr) (sc := defScope sIr) (by decide +kernel)) (fun _ _ _ _ _ => (pg_name (i := 4) scIr.nd rfl (by first | exact Or.inl rfl | exact Or.inr rfl))) (fun _ _ _ _ _ => (pts_one (pt_cmp (pc_dnotin (Nat.lt_of_le_of_lt (Nat.add_le_add_left (show 1 ≤ 64 by decide) _) hr.units) (pv 4) (pv 3))))) (fun _ _ _ _ _ => (pv 4))) (pe_lst pa_nil) (nomark _))))) (pss_one (ps_ret pe_bl)) pss_nil)
      (pss_cons (ps_for (passes_of rfl) rfl (pi_enumA (by rfl) mEnum (pa_cons (pv 1) pa_nil)) (pg_tup rfl (pgs_cons (pg_name (i := 5) scIr.nd rfl (by first | exact Or.inl rfl | exact Or.inr rfl)) (pgs_cons (pg_name (i := 4) scIr.nd rfl (by first | exact Or.inl rfl | exact Or.inr rfl)) pgs_nil))) (pss_one (ps_if (pt_cmpR op_ne (pe_ix ix_tup (pe_dget (Nat.lt_of_le_of_lt (Nat.add_le_add_left (show 1 ≤ 64 by decide) _) hr.units) (pv 3) (pe_ix ix_list (pv 1) (pe_op op_sub (pv 5) pe_int) fun _ _ => rfl) (fun _ _ => rfl)) pe_int fun _ _ => rfl) (pe_ix ix_tup (pe_dget (Nat.lt_of_le_of_lt (Nat.add_le_add_left (show 1 ≤ 64 by decide) _) hr.units) (pv 3) (pv 4) (fun _ _ => rfl)) pe_int fun _ _ => rfl) (nomark _)) (pss_one (ps_ret pe_bl)) pss_nil)))
      (pss_one (ps_ret (pe_cmpR (op_eqD hr.units) (pe_lc (own := [("_law_lane", 4)]) (g := (gName 4)) (tt := (tTest (tOp (rIn K true) (tVar 4) (tVar 1)))) (te := (tVar 4)) rfl scIr.nd (pi_list (pv 2)) (blkOk_by (own := [("_law_lane", 4)]) (N := nIr) (sc := defScope sIr) (by decide +kernel)) (fun _ _ _ _ _ => (pg_name (i := 4) scIr.nd rfl (by first | exact Or.inl rfl | exact Or.inr rfl))) (fun _ _ _ _ _ => (pts_one (pt_cmpR op_notIn_seq (pv 4) (pv 1) rfl))) (fun _ _ _ _ _ => (pv 4))) (pe_lst pa_nil) (nomark _))))))), ?_⟩
    obtain ⟨q, pa, pb, t, wl, ps, rs, ls, ws, rfl, T, RO, hr30, ht, hl3, okl, hwl, hw100, okw, k⟩ := h
    refine s_seq ?_
    refine ⟨_, rfl, q, pa, pb, ps, rs, rfl, T, RO.1.2, by omega, fun de es H1 e1 nd0 hd hbe hes => ?_⟩
    have nde : (laneNames es).Nodup := by rw [bare_names hbe]; exact RO.1.2
    have ht1 := e1 _ _ ht
    dsimp only
    refine s_seq ?_
    have hnm : ∀ l, (valV (dEnds es) (Sum.inr (tx l) : Key)).isSome = decide (l ∈ names (bare rs)) := fun l => by
      rw [ends_val, bare_names hbe, names_rows]
    have okf : Oks (ls.filter fun l => !decide (l ∈ names (bare rs))) := fun l hl => okl l (List.mem_filter.mp hl).1
    refine s_if (b := decide (ls.length = 0) || !(ls.all fun l => decide (l ∈ names (bare rs)))) (et_or (et_test (ev_is (ev_op (ev_lenA (ev_var rfl) (sq_of ht1)) ev_c (rv_eq rfl)) (by rw [vtx_len, dec_len]))) (fun _ => et_test (ev_is (ev_neD (ed_Ln (xs := ls.filter fun l => !decide (l ∈ names (bare rs))) (el_lcA (ys := ls) (g := fun x => V.str (tx x)) (fun l => !decide (l ∈ names (bare rs))) (fun x => V.str (tx x)) (ev_var rfl) (sq_of ht1) (by omega) (fun x => rfl)
        (fun l H2 e2 hl => et_is (et_notin (ev_var rfl) (ev_var rfl) (DGet.k (k := (Sum.inr (tx l) : Key)) (e2 _ _ hd))) (by rw [hnm])) (fun l _ _ _ _ => ev_var rfl))) (ed_Ln (xs := []) (el_lst ea_nil (by show 0 ≤ 100000; omega))) (sh_l okf) (sh_l oks_nil)) (by rw [eq_l, filt_nil])))) (fun hb H2 e2 => ?_) (fun hb H2 e2 => ?_)
    · refine s_ret (v := .bl false) ev_c fun H3 e3 => ?_
      have hz : isR (bare rs) ls ws = false := by
        unfold isR fitsB
        rcases Bool.or_eq_true_iff.mp hb with h | h
        · have : ls = [] := List.eq_nil_of_length_eq_zero (of_decide_eq_true h)
          rw [decide_eq_true this]
          rfl
        · cases z : ls.all fun l => decide (l ∈ names (bare rs)) with
          | false => rw [Bool.false_and, Bool.and_false, Bool.false_and]
          | true => rw [z] at h; cases h
      rw [hz] at k
      exact k H3 (e1.trans (e2.trans e3))
    · obtain ⟨h0, hb⟩ := Bool.or_eq_false_iff.mp hb
      have h0 : ls ≠ [] := fun z => of_decide_eq_false h0 (by rw [z]; rfl)
      have hall : (ls.all fun l => decide (l ∈ names (bare rs))) = true := by
        cases z : ls.all fun l => decide (l ∈ names (bare rs)) with
        | true => rfl
        | false => rw [z] at hb; cases hb
      have hin : ∀ l ∈ ls, l ∈ laneNames rs := fun l hl => by
        have := List.all_eq_true.mp hall l hl
        rw [names_rows] at this
        exact of_decide_eq_true this
      dsimp only
      refine s_seq ?_
      have e12 := e1.trans e2
      refine s_forEnB (B := H1) (ea_cons (ev_var rfl) ea_nil) e2 (.inl (sq_of ht1)) (fun i st H' => ∃ t4 t5, st = [some (.ref q), some (.ref t), some (.ref wl), some (.ref de), t4, t5] ∧ Ex H1 H' ∧ ∀ j, j < i → turnB (bare rs) ls j = true)
        (fun H3 e3 => ⟨none, none, rfl, e2.trans e3, fun j hj => absurd hj (Nat.not_lt_zero j)⟩) (fun i st H' ⟨_, _, _, e, _⟩ => e) ?_ ?_
      · rintro i x T0 st H3 hx ⟨t4, t5, rfl, e3, hpre⟩ nT
        unfold vtx at hx
        rw [List.getElem?_map] at hx
        obtain ⟨l, hl, rfl⟩ := Option.map_eq_some_iff.mp hx
        have hil := (List.getElem?_eq_some_iff.mp hl).1
        refine ⟨T0, _, rfl, .inl (.inl upd_same), rfl, ?_⟩
        refine ⟨_, _, rfl, _, _, rfl, rfl, ?_⟩
        have e4 := e3.trans (Ex.new (o := HO.tup [V.int (i : Nat), V.str (tx l)]) nT)
        generalize upd H3 T0 (.tup [.int (i : Nat), .str (tx l)]) = H4 at e4 ⊢
        dsimp only
        show tIfS _ _ _ _ [some (.ref q), some (.ref t), some (.ref wl), some (.ref de), some (.str (tx l)), some (.int (i : Nat))] H4
        have gl : ls.getD i [] = l := by rw [List.getD_eq_getElem?_getD, hl]; rfl
        have g2 : ls[prv ls.length i]? = some (ls.getD (prv ls.length i) []) := by rw [List.getD_eq_getElem?_getD, List.getElem?_eq_getElem (prv_lt hil)]; rfl
        refine s_if (b := !turnB (bare rs) ls i) (et_test (ev_is (ev_op (ev_st RO.1.2 hbe (e4 _ _ hd) (fun e he => e4 _ _ (hes e he)) (hin _ (List.mem_of_getElem? g2)) (ev_var rfl) (ev_op (ev_var rfl) (ev_op (ev_var rfl) ev_c rv_I0) (rv_ixL (sq_of (e4 _ _ ht1)) (at_prv hil)))).2 (ev_st RO.1.2 hbe (e4 _ _ hd) (fun e he => e4 _ _ (hes e he)) (hin _ (List.mem_of_getElem? hl)) (ev_var rfl) (ev_var rfl)).1 (rv_ne rfl)) (by
            unfold turnB
            rw [gl]
            show V.bl (!decide _) = V.bl (!decide _)
            by_cases z : enE (bare rs) (ls.getD (prv ls.length i) []) = stE (bare rs) l
            · rw [z, decide_eq_true rfl, decide_eq_true rfl]
            · rw [decide_eq_false z, decide_eq_false fun y => z (tx_inj (V.str.inj y))]))) (fun hc H5 e5 => ?_) (fun hc H5 e5 => ?_)
        · refine s_ret (v := .bl false) ev_c fun H6 e6 => ?_
          have hz : isR (bare rs) ls ws = false := by
            have ht' : turnB (bare rs) ls i = false := by
              cases z : turnB (bare rs) ls i with
              | false => rfl
              | true => rw [z] at hc; cases hc
            unfold isR fitsB
            have : ((List.range ls.length).all fun k => turnB (bare rs) ls k) = false := by
              cases z : (List.range ls.length).all fun k => turnB (bare rs) ls k with
              | false => rfl
              | true =>
                have := List.all_eq_true.mp z i (List.mem_range.mpr hil)
                rw [ht'] at this
                cases this
            rw [this, Bool.and_false, Bool.and_false, Bool.false_and]
          rw [hz] at k
          exact k H6 (e1.trans (e4.trans (e5.trans e6)))
        · have ht' : turnB (bare rs) ls i = true := by
            cases z : turnB (bare rs) ls i with
            | true => rfl
            | false => rw [z] at hc; cases hc
          refine ⟨_, _, rfl, e4.trans e5, fun j hj => ?_⟩
          by_cases hji : j = i
          · rw [hji]; exact ht'
          · exact hpre j (by omega)
      · rintro st H3 ⟨t4, t5, rfl, e3, hpre⟩
        dsimp only
        have okg : Oks (ws.filter fun l => !decide (l ∈ ls)) := fun l hl => okw l (List.mem_filter.mp hl).1
        refine s_ret (v := .bl (ws.all fun l => decide (l ∈ ls))) (ev_is (ev_eqD (ed_Ln (xs := ws.filter fun l => !decide (l ∈ ls)) (el_lcA (ys := ws) (g := fun x => V.str (tx x)) (fun l => !decide (l ∈ ls)) (fun x => V.str (tx x)) (ev_var rfl) (sq_of (e3 _ _ (e1 _ _ hwl))) (by omega) (fun x => rfl)
          (fun l H4 e4 hl => et_test (ev_is (ev_op (ev_var rfl) (ev_var rfl) (rv_niL (sq_of (e4 _ _ (e3 _ _ ht1))) rfl (flat_tx _))) (by rw [inV_vtx]))) (fun l _ _ _ _ => ev_var rfl))) (ed_Ln (xs := []) (el_lst ea_nil (by show 0 ≤ 100000; omega))) (sh_l okg) (sh_l oks_nil)) (by rw [eq_l, filt_nil])) fun H4 e4 => ?_
        have hz : isR (bare rs) ls ws = ws.all fun l => decide (l ∈ ls) := by
          unfold isR fitsB
          have : ((List.range ls.length).all fun k => turnB (bare rs) ls k) = true := List.all_eq_true.mpr fun j hj => hpre j (by
            have := List.mem_range.mp hj
            rw [vtx_len]
            exact this)
          rw [this, hall, decide_eq_false h0]
          rfl
        rw [hz] at k
        exact k H4 (e1.trans (e3.trans e4))
end
end K17

set_option Elab.async false
set_option linter.all false
set_option maxRecDepth 100000
set_option maxHeartbeats 4000000
/-! A closed walk is a round; the part does not depend on the order of the rows. -/
namespace K17
open PySem PySem.Spec PyProof.Rows L2 Vl Evl Vp Vr Vx2 Vlk Vda Vc Ve Ven Vrc Vwy Vdf
theorem lane_ends {ps : List (List Nat)} {rs : List Row} (RO : RowsOk ps rs) {l b c : List Nat} (h : (l, b, c) ∈ bare rs) : stE (bare rs) l = b ∧ enE (bare rs) l = c ∧ l ∈ names (bare rs) := by
  unfold bare at h
  obtain ⟨r, hr, hre⟩ := List.mem_map.mp h
  obtain ⟨i, hi⟩ := List.getElem?_of_mem hr
  have h1 := row_own RO.1.2 hi
  have e1 : r.2.1 = l := by rw [hre]
  have e2 : r.2.2.1 = b := by rw [hre]
  have e3 : r.2.2.2 = c := by rw [hre]
  rw [e1] at h1
  refine ⟨by rw [row_st h1, e2], by rw [row_en h1, e3], ?_⟩
  rw [names_rows, ← e1]
  exact List.mem_map_of_mem (f := fun r : Row => r.2.1) hr
structure Lnk (bs : Bare) (a c : List Nat) (ls : List (List Nat)) : Prop where
  mem : ∀ l ∈ ls, l ∈ names bs
  fst : ∀ l, ls[0]? = some l → stE bs l = a
  lst : ∀ l, ls[ls.length - 1]? = some l → enE bs l = c
  nxt : ∀ (i : Nat) l l', ls[i]? = some l → ls[i + 1]? = some l' → enE bs l = stE bs l'
  none : ls = [] → a = c
theorem lnk_of {ps : List (List Nat)} {rs : List Row} (RO : RowsOk ps rs) {a c : List Nat} {ls : List (List Nat)} (h : Wk (LaneB (bare rs)) a c ls) : Lnk (bare rs) a c ls := by
  induction h with
  | nil => exact ⟨(fun _ z => nomatch z), (fun _ z => nomatch z), (fun _ z => nomatch z), (fun _ _ _ z => nomatch z), fun _ => rfl⟩
  | @snoc b c l ls hw e ih =>
    obtain ⟨e1, e2, e3⟩ := lane_ends RO e
    have hlen : (ls ++ [l]).length - 1 = ls.length := by rw [List.length_append]; rfl
    have hlast : (ls ++ [l])[ls.length]? = some l := by rw [List.getElem?_append_right (Nat.le_refl _), Nat.sub_self]; rfl
    refine ⟨fun x hx => ?_, fun x hx => ?_, fun x hx => ?_, fun i x x' hx hx' => ?_, fun z => ?_⟩
    · rcases List.mem_append.mp hx with hx | hx
      · exact ih.mem x hx
      · rw [List.mem_singleton.mp hx]; exact e3
    · by_cases h0 : ls = []
      · rw [h0] at hx
        have : l = x := Option.some.inj hx
        rw [← this, e1]
        exact (ih.none h0).symm
      · have hp := List.length_pos_iff.mpr h0
        rw [List.getElem?_append_left hp] at hx
        exact ih.fst x hx
    · rw [hlen, hlast] at hx
      rw [← Option.some.inj hx]
      exact e2
    · have hlt := (List.getElem?_eq_some_iff.mp hx').1
      rw [List.length_append, List.length_singleton] at hlt
      by_cases h1 : i + 1 < ls.length
      · rw [List.getElem?_append_left (by omega)] at hx
        rw [List.getElem?_append_left h1] at hx'
        exact ih.nxt i x x' hx hx'
      · have hi : i + 1 = ls.length := by omega
        rw [hi, hlast] at hx'
        rw [List.getElem?_append_left (by omega)] at hx
        rw [← Option.some.inj hx', e1]
        exact ih.lst x (by rw [show ls.length - 1 = i by omega]; exact hx)
    · exact absurd (congrArg List.length z) (by rw [List.length_append]; show ¬ _ + 1 = 0; omega)
theorem fits_of {ps : List (List Nat)} {rs : List Row} (RO : RowsOk ps rs) {a : List Nat} {ls : List (List Nat)} (h : Wk (LaneB (bare rs)) a a ls) : fitsB (bare rs) ls = true := by
  have L := lnk_of RO h
  unfold fitsB
  rw [Bool.and_eq_true, List.all_eq_true, List.all_eq_true]
  refine ⟨fun l hl => decide_eq_true (L.mem l hl), fun k hk => ?_⟩
  have hk := List.mem_range.mp hk
  have g1 : ls[k]? = some (ls.getD k []) := by rw [List.getD_eq_getElem?_getD, List.getElem?_eq_getElem hk]; rfl
  have g2 : ls[prv ls.length k]? = some (ls.getD (prv ls.length k) []) := by rw [List.getD_eq_getElem?_getD, List.getElem?_eq_getElem (prv_lt hk)]; rfl
  unfold turnB
  refine decide_eq_true ?_
  by_cases h0 : k = 0
  · have hp : prv ls.length k = ls.length - 1 := by unfold prv; rw [if_pos h0]
    rw [hp] at g2 ⊢
    rw [h0] at g1 ⊢
    rw [L.lst _ g2, L.fst _ g1]
  · have hp : prv ls.length k = k - 1 := by unfold prv; rw [if_neg h0]
    rw [hp] at g2 ⊢
    exact L.nxt (k - 1) _ _ g2 (by rw [show k - 1 + 1 = k by omega]; exact g1)
theorem wk_same {bs bs' : Bare} (h : ∀ t, t ∈ bs → t ∈ bs') {a c : List Nat} {ls : List (List Nat)} (w : Wk (LaneB bs) a c ls) : Wk (LaneB bs') a c ls := by
  induction w with
  | nil => exact .nil
  | snoc _ e ih => exact .snoc ih (h _ e)
theorem round_isR {ps : List (List Nat)} {rs : List Row} (RO : RowsOk ps rs) {bs : Bare} (hb : ∀ t, t ∈ bs → t ∈ bare rs) {p : Part} {ws ls : List (List Nat)} (hne : ws ≠ []) (R : RoundOf bs p ws ls) : isR (bare rs) ls ws = true := by
  obtain ⟨a, hw⟩ := R.wk
  unfold isR
  rw [fits_of RO (wk_same hb hw)]
  obtain ⟨w0, wr, hws⟩ := List.exists_cons_of_ne_nil hne
  have hl : ls ≠ [] := fun z => by
    have := R.takes w0 (by rw [hws]; exact List.mem_cons_self)
    rw [z] at this
    cases this
  rw [decide_eq_false hl]
  exact List.all_eq_true.mpr fun l hl => decide_eq_true (R.takes l hl)
theorem edge_same {bs bs' : Bare} (h : ∀ t, t ∈ bs ↔ t ∈ bs') : Edge bs = Edge bs' := by
  funext b c
  exact propext ⟨fun ⟨t, ht, x⟩ => ⟨t, (h t).mp ht, x⟩, fun ⟨t, ht, x⟩ => ⟨t, (h t).mpr ht, x⟩⟩
theorem scc_same {bs bs' : Bare} (h : ∀ t, t ∈ bs ↔ t ∈ bs') (ps : List (List Nat)) (a : List Nat) : scc bs ps a = scc bs' ps a := by
  unfold scc bothB
  rw [edge_same h]
theorem holds_same {bs bs' : Bare} (h : ∀ t, t ∈ bs ↔ t ∈ bs') (ps ws : List (List Nat)) (a : List Nat) : holdsAll ws (partP bs ps a) = holdsAll ws (partP bs' ps a) := by
  have hi : ∀ l, l ∈ (partP bs ps a).2 ↔ l ∈ (partP bs' ps a).2 := fun l => by
    unfold partP
    rw [scc_same h]
    show l ∈ inner bs _ ↔ l ∈ inner bs' _
    rw [mem_inner, mem_inner]
    exact ⟨fun ⟨t, ht, x⟩ => ⟨t, (h t).mp ht, x⟩, fun ⟨t, ht, x⟩ => ⟨t, (h t).mpr ht, x⟩⟩
  refine Bool.eq_iff_iff.mpr ?_
  rw [holds_iff, holds_iff]
  exact ⟨fun z l hl => (hi l).mp (z l hl), fun z l hl => (hi l).mpr (z l hl)⟩
theorem partW_order {ps ws : List (List Nat)} {rs rs' : List Row} (RO : RowsOk ps rs) (RO' : RowsOk ps rs') (h : ∀ t, t ∈ bare rs ↔ t ∈ bare rs') (hne : ws ≠ []) (hin : ∀ l ∈ ws, l ∈ laneNames rs) : (partW (bare rs) ps ws).isSome = (partW (bare rs') ps ws).isSome := by
  obtain ⟨w0, wr, hws⟩ := List.exists_cons_of_ne_nil hne
  have hw0 : w0 ∈ ws := by rw [hws]; exact List.mem_cons_self
  obtain ⟨r, hr, hrl⟩ := List.mem_map.mp (show w0 ∈ rs.map fun r : Row => r.2.1 from hin w0 hw0)
  have hb : r.2 ∈ bare rs := List.mem_map_of_mem (f := fun r : Row => r.2) hr
  have hb' := (h _).mp hb
  have hl : r.2.1 ∈ ws := by rw [hrl]; exact hw0
  have he := edge_same h
  by_cases hre : Reach (Edge (bare rs)) r.2.2.2 r.2.2.1
  · have hre' : Reach (Edge (bare rs')) r.2.2.2 r.2.2.1 := he ▸ hre
    have hh := holds_same h ps ws r.2.2.1
    cases hc : holdsAll ws (partP (bare rs) ps r.2.2.1) with
    | true =>
      rw [partW_some RO hb hl hre hc, partW_some RO' hb' hl hre' (by rw [← hh, hc])]
      rfl
    | false =>
      rw [partW_out RO hb hl hc, partW_out RO' hb' hl (by rw [← hh, hc])]
  · rw [partW_none RO hb hl hre, partW_none RO' hb' hl (fun z => hre (he ▸ z))]
theorem bare_rev (rs : List Row) : bare rs.reverse = (bare rs).reverse := by unfold bare; rw [List.map_reverse]
theorem rows_rev {ps : List (List Nat)} {rs : List Row} (RO : RowsOk ps rs) : RowsOk ps rs.reverse := by
  refine ⟨⟨fun l hl => ?_, ?_⟩, fun r hr => RO.2 r (List.mem_reverse.mp hr)⟩
  · rw [List.map_reverse] at hl
    exact RO.1.1 l (List.mem_reverse.mp hl)
  · rw [List.map_reverse]
    unfold List.Nodup
    rw [List.pairwise_reverse]
    exact RO.1.2.imp fun h => h.symm
end K17

set_option Elab.async false
set_option linter.all false
set_option maxRecDepth 100000
set_option maxHeartbeats 4000000
/-! The law of rounds told. -/
namespace K17
open PySem PySem.Spec PyProof.Rows L2 Vl Evl Vp Vr Vx2 Vlk Vda Vc Ve Ven Vrc Vwy Vdf
abbrev sLaw : Stmt := top 105
abbrev nLaw : List Str := ["_law_script", "_law_k", "_law_pool_here", "_law_parts", "_law_wanted_here", "_law_part_here", "_law_lot", "_law_turn", "_law_rows", "_law_net_here", "_law_asked", "_law_ring"]
def spLaw (K : PySem.W.Frag) : Sp := fun vs H Q _ => ∃ (l : Addr) (ns : List Int), vs = [.ref l] ∧ SqL K H l (ns.map V.int) ∧ ∀ H', Q (.bl true) H'
theorem NetAt.wo {C : Addr} {H : Hp} {o dx dp de z : Addr} {ps : List (List Nat)} {es : List Row} {xs : List V} (h : NetAt C H o dx dp de ps es) (hz : H z = some (.lst xs)) : NetAt C (Wo H z) o dx dp de ps es :=
  ⟨wo_at h.at_ (ne_kind h.at_ hz (by intro z; cases z)), wo_at h.posts (ne_kind h.posts hz (by intro z; cases z)), wo_at h.ends (ne_kind h.ends hz (by intro z; cases z)), fun e he => wo_at (h.rows e he) (ne_kind (h.rows e he) hz (by intro z; cases z))⟩
theorem pool_ne {H : Hp} {p a : Addr} {n : Nat} {xs : List V} (h : PoolAt H p n) (ha : H a = some (.lst xs)) (hx : ∀ i, xs.head? ≠ some (.int i)) : a ≠ p := fun z => by
  obtain ⟨i, j, k, h1, _⟩ := h
  rw [z, h1] at ha
  injection ha with ha
  injection ha with ha
  exact hx i (by rw [← ha]; rfl)
theorem Told.woP {H : Hp} {q a b p : Addr} {n : Nat} {ps : List (List Nat)} {rs : List Row} (h : Told H q a b ps rs) (hp : PoolAt H p n) : Told (Wo H p) q a b ps rs := by
  obtain ⟨i, j, k, h1, _⟩ := id hp
  refine ⟨wo_at h.at_ (pool_ne hp h.at_ fun i z => by cases z), wo_at h.posts (pool_ne hp h.posts fun i z => ?_), wo_at h.rows (pool_ne hp h.rows fun i z => ?_), fun r hr => wo_at (h.row r hr) (ne_kind (h.row r hr) h1 (by intro z; cases z))⟩
  · cases ps with
    | nil => cases z
    | cons x r => cases z
  · cases rs with
    | nil => cases z
    | cons x r => cases z
/-- the part told by the law, or None -/
def DueV (H : Hp) (v : V) : Option Part → Prop
  | none => v = .non
  | some p => ∃ f x y, v = .ref f ∧ PartL H f x y p.1 p.2
theorem DueV.mono {H H' : Hp} {v : V} {p : Option Part} (e : Ex H H') (h : DueV H v p) : DueV H' v p := by
  cases p with
  | none => exact h
  | some p =>
    obtain ⟨f, x, y, hv, hf⟩ := h
    exact ⟨f, x, y, hv, hf.mono e⟩
theorem DueV.some {H : Hp} {v : V} {p : Option Part} (h : DueV H v p) : (!decide (v = .non)) = p.isSome := by
  cases p with
  | none => rw [show v = .non from h]; rfl
  | some p =>
    obtain ⟨f, x, y, rfl, _⟩ := h
    rfl
theorem sp_ip {H : Hp} {Q : VK} {E : XK} {q a b wl : Addr} {ps ws : List (List Nat)} {rs : List Row} (T : Told H q a b ps rs) (NA : Names ps) (RO : RowsOk ps rs) (hp : ps.length ≤ 30) (hr : rs.length ≤ 30) (hw : H wl = some (.lst (vtx ws))) (hne : ws ≠ []) (hl : ws.length ≤ 1000) (hin : ∀ l ∈ ws, l ∈ laneNames rs)
    (k : ∀ v H', Ex H H' → DueV H' v (partW (bare rs) ps ws) → Q v H') : spIp [.ref q, .ref wl] H Q E :=
  ⟨q, a, b, wl, ps, rs, ws, rfl, T, NA, RO, hp, hr, hw, hne, hl, hin, fun part hp f x y H' e hf => k _ H' e (by rw [hp]; exact ⟨f, x, y, rfl, hf⟩), fun hp H' e => k _ H' e (by rw [hp]; rfl)⟩
/-- for over a list that is made here, with what is known of it -/
theorem s_forLq {K : PySem.W.Frag} {D : Ends} {tu : TS} {te : TE} {g : TG} {σ : L2.St} {H : Hp} {R : Addr → Hp → Prop} (h : ∀ Q1 : VK, (∀ a H', R a H' → Q1 (.ref a) H') → te σ H Q1) (k : ∀ a H', R a H' → tFor (iList K (tC (.ref a))) g tu D σ H') : tFor (iList K te) g tu D σ H := h _ fun a H' r => k a H' r
theorem s_asgFuL {sp : Sp} {E : L2.St → XK} {te : TE} {xs : List V} {g : TG} {D : Ends} {σ : L2.St} {H : Hp} (h : EvL te σ H xs) (k : ∀ p H1, H p = none → Ex H H1 → H1 p = some (.lst xs) → sp [.ref p] H1 (fun v H2 => g v σ H2 fun σ' H3 => D.nx σ' H3) (E σ)) : tAsg (Vc.tFu sp E (tCons te tNil)) g D σ H := h H (Ex.refl _) _ fun p H1 np e hp => k p H1 np e hp
/-- the round is of the class -/
theorem ev_isR {K : PySem.W.Frag} {CR : Addr} {te : TE} {σ : L2.St} {H : Hp} {r t dx : Addr} {a : List (List Nat)} (c : C8.InsC K CR) (h : Ev te σ H (.ref r)) (N : RndAt CR H r t dx a) : Ev (tCB (rIsi K) (tCons te (tCons (tC (V.ref CR)) tNil))) σ H (.bl true) := fun H1 e Q q => h H1 e _ fun H2 e2 =>
  ⟨V.ref r, V.ref CR, .ref CR, .ref CR, true, rfl, .own CR, .base (.ins ((e.trans e2) _ _ N.at_) c.cl c.ha c.hn c.htk c.hm), c.me, q H2 e2⟩
section
variable {P : Program} {w : World} {K : PySem.W.Frag} {mg : Str → Option Value} {base : Heap} {CA C CR BN NT NP NL NW : Addr}
theorem ok_rl9 {f : Addr} {fd : FuncData} (F : FnM K "lanes" "Round.lanes" sRl f fd) (c : Cls K CR) (n1 : NoAttr K CR "_lanes") : FnOk P w K mg base L2.CX0 1 f fd ["self"] (getSp CR "_lanes") := by
  refine F.ok (CX := L2.CX0) scRl (fun vs H Q E h => ?_) (fun cdv A outer s H vs Q E hr h => ?_)
  · obtain ⟨a, dx, fs, v, rfl, _⟩ := h
    rfl
  · refine ⟨_, pss_one (ps_ret (pe_fld (pv 0) rfl)), ?_⟩
    obtain ⟨a, dx, fs, v, rfl, ea, l, q⟩ := h
    exact ⟨.ref a, rfl, a, CR, dx, fs, v, rfl, ea, c, n1, l, q⟩
theorem scLaw : FnScope nLaw ["_law_script"] (defScope sLaw) := ⟨rfl, rfl, rfl, by decide +kernel, rfl, by decide +kernel, by decide +kernel⟩
theorem ok_law {f : Addr} {fd : FuncData} (F : FnP K "law" sLaw f fd) (N : ND P w K mg base C BN NT NP NL) (AD : AD P w K mg base CA C NW NL) (TRd : Mo P w K mg base CA L2.CX0 8 "round" (spRd CA C CR)) (clsR : Cls K CR) (insR : C8.InsC K CR) (lanR : Pr P w K mg base CR 1 "lanes" (getSp CR "_lanes")) (gR : mg "Round" = some (.ref CR)) (TCe : Fu P w K mg base L2.CX0 1 "_law_cell" (spCell K)) (TPo : Fu P w K mg base L2.CX0 1 "_law_pool" spPool) (TNt : Fu P w K mg base L2.CX0 3 "_law_net" spNet) (TBu : Fu P w K mg base L2.CX0 5 "_law_built" (spBu C)) (TWa : Fu P w K mg base L2.CX0 3 "_law_wanted" spWa) (TIp : Fu P w K mg base L2.CX0 3 "_law_in_part" spIp) (TIr : Fu P w K mg base L2.CX0 2 "_law_is_round" spIr) (TFt : Fu P w K mg base L2.CX0 6 "fits" (spFt K C CR)) (mRange : mg "range" = none) (mList : mg "list" = none) (mBool : mg "bool" = none) (mIsi : mg "isinstance" = none) :
    FnOk P w K mg base L2.CX0 12 f fd ["_law_script"] (spLaw K) := by
  refine F.ok (CX := L2.CX0) scLaw (fun vs H Q E h => ?_) (fun cdv A outer s H vs Q E hr h => ?_)
  · obtain ⟨l, ns, rfl, _⟩ := h
    rfl
  · refine ⟨_, (pss_cons (ps_for (passes_of rfl) rfl (pi_range1 (by rfl) mRange (pa_cons pe_int pa_nil)) (pg_name (i := 1) scLaw.nd rfl (by first | exact Or.inl rfl | exact Or.inr rfl)) (pss_cons (ps_set (i := 2) scLaw.nd rfl (by first | exact Or.inl rfl | exact Or.inr rfl) (pe_fu TPo hr (by rfl) (pa_cons (pe_op op_add (pe_fu TCe hr (by rfl) (pa_cons (pv 0) (pa_cons (pv 1) pa_nil))) (pv 1)) pa_nil)))
      (pss_cons (ps_set (i := 3) scLaw.nd rfl (by first | exact Or.inl rfl | exact Or.inr rfl) (pe_fu TNt hr (by rfl) (pa_cons (pv 2) (pa_cons pe_int (pa_cons pe_int pa_nil)))))
      (pss_one (ps_if (pt_cmpR (op_neD hr.units) (pe_ix ix_list (pv 3) pe_int fun _ _ => rfl) (pe_lst pa_nil) (nomark _)) (pss_cons (ps_set (i := 4) scLaw.nd rfl (by first | exact Or.inl rfl | exact Or.inr rfl) (pe_fu TWa hr (by rfl) (pa_cons (pv 2) (pa_cons (pv 3) pa_nil))))
      (pss_cons (ps_set (i := 5) scLaw.nd rfl (by first | exact Or.inl rfl | exact Or.inr rfl) (pe_fu TIp hr (by rfl) (pa_cons (pv 3) (pa_cons (pv 4) pa_nil))))
      (pss_one (ps_for (passes_of rfl) rfl (pi_list (pe_op op_cat (pe_lst (pa_cons (pv 4) (pa_cons (pe_slice sl_list (pv 4) po_none (po_some pe_int)) pa_nil))) (pe_lc (own := [("_law_turn", 7)]) (g := (gName 7)) (tt := (tTest (tOp (fun x y H Q => y = .non ∧ Q (.bl (!decide (x = .non))) H) (tVar 5) (tC .non)))) (te := (tOp (rIxL K) (tVar 5) (tC (.int 1)))) rfl scLaw.nd (pi_range1 (by rfl) mRange (pa_cons pe_int pa_nil)) (blkOk_by (own := [("_law_turn", 7)]) (N := nLaw) (sc := defScope sLaw) (by decide +kernel)) (fun _ _ _ _ _ => (pg_name (i := 7) scLaw.nd rfl (by first | exact Or.inl rfl | exact Or.inr rfl))) (fun _ _ _ _ _ => (pts_one (pt_cmpR op_notN (pv 5) pe_non (nomark _)))) (fun _ _ _ _ _ => (pe_ix ix_list (pv 5) pe_int fun _ _ => rfl))))) (pg_name (i := 6) scLaw.nd rfl (by first | exact Or.inl rfl | exact Or.inr rfl)) (pss_one (ps_for (passes_of rfl) rfl (pi_list (pe_lst (pa_cons (pe_ix ix_list (pv 3) pe_int fun _ _ => rfl) (pa_cons (pe_revL (pe_ix ix_list (pv 3) pe_int fun _ _ => rfl)) pa_nil)))) (pg_name (i := 8) scLaw.nd rfl (by first | exact Or.inl rfl | exact Or.inr rfl)) (pss_cons (ps_set (i := 9) scLaw.nd rfl (by first | exact Or.inl rfl | exact Or.inr rfl) (pe_fu TBu hr (by rfl) (pa_cons (pe_lst (pa_cons (pe_ix ix_list (pv 3) pe_int fun _ _ => rfl) (pa_cons (pv 8) pa_nil))) pa_nil)))
      (pss_cons (ps_set (i := 10) scLaw.nd rfl (by first | exact Or.inl rfl | exact Or.inr rfl) (Vnx.pe_nwX (E := fun _ => nil0) AD.new hr (by rfl) (fun st => Vtr.passNo st) (pa_cons (pv 9) (pa_cons (pv 6) pa_nil))))
      (pss_one (ps_if (pt_val (pe_callTy (Vbo.call_boolM AD.bool hr) (by rfl) mBool boot_bool (pa_cons (pv 10) pa_nil))) (pss_cons (ps_set (i := 11) scLaw.nd rfl (by first | exact Or.inl rfl | exact Or.inr rfl) (pe_mo0 (pv 10) AD.cls TRd hr))
      (pss_cons (ps_if (PW.pt (pw_or (pt_not (pt_val (pe_callB call_isi (by rfl) mIsi boot_isinstance (pa_cons (pv 11) (pa_cons (pe_glob (v := V.ref CR) (by rfl) gR rfl) pa_nil))))) (pw_or1 (pt_not (pt_val (pe_fu TIr hr (by rfl) (pa_cons (pv 3) (pa_cons (pe_callTy call_list_of (by rfl) mList boot_list (pa_cons (pe_pr (pv 11) clsR lanR hr) pa_nil)) (pa_cons (pv 6) pa_nil))))))))) (pss_one (ps_ret pe_bl)) pss_nil)
      (pss_one (ps_if (PW.pt (pw_or (pt_not (pt_val (pe_fu TFt hr (by rfl) (pa_cons (pv 9) (pa_cons (pv 11) pa_nil))))) (pw_or1 (pt_not (pt_val (pe_fu TFt hr (by rfl) (pa_cons (pe_pr (pv 10) AD.cls AD.net hr) (pa_cons (pe_mo0 (pv 10) AD.cls TRd hr) pa_nil)))))))) (pss_one (ps_ret pe_bl)) pss_nil)))) (pss_one (ps_if (pt_cmpR op_notN (pe_fu TIp hr (by rfl) (pa_cons (pv 3) (pa_cons (pv 6) pa_nil))) pe_non (nomark _)) (pss_one (ps_ret pe_bl)) pss_nil)))))))))))) pss_nil)))))
      (pss_one (ps_ret pe_bl))), ?_⟩
    obtain ⟨l, ns, rfl, hS, k⟩ := h
    refine s_seq ?_
    refine s_forR1 (n := 5) (ea_cons ev_c ea_nil) (by decide) (fun i st H' => ∃ (t1 t2 t3 t4 t5 t6 t8 t9 t10 t11 : Option V), st = [some (.ref l), t1, t2, t3, t4, t5, t6, none, t8, t9, t10, t11] ∧ Ex H H') (fun H1 e1 => ⟨none, none, none, none, none, none, none, none, none, none, rfl, e1⟩) ?_ ?_
    rotate_left
    · rintro st H1 ⟨t1, t2, t3, t4, t5, t6, t8, t9, t10, t11, rfl, e1⟩
      dsimp only
      refine s_ret (v := .bl true) ev_c fun H2 _ => ?_
      exact k H2
    · rintro i st H8 hi ⟨t1, t2, t3, t4, t5, t6, t8, t9, t10, t11, rfl, e8⟩
      refine s_seq ?_
      refine ⟨_, rfl, _, rfl, l, ns, i, rfl, ex_l e8 hS, ?_⟩
      refine ⟨_, rfl, cellOf ns i, (i : Int), rfl, rfl, _, rfl, fun p H9 np e9 hp => ?_⟩
      dsimp only
      refine s_seq ?_
      refine ⟨_, rfl, p, 6, 10, H8, 0, rfl, by omega, by omega, ⟨np, e9, hp⟩, by omega, fun d a b ps rs Hb nd P2 hd ha hb hab NA lp lr RO hr0 => ?_⟩
      have T : Told Hb d a b ps rs := ⟨hd, ha, hb, hr0⟩
      have hll : (laneNames rs).length ≤ 10 := by unfold laneNames; rw [List.length_map]; exact lr
      dsimp only
      have dn : Dp K Hb (.ref b) (.list (rs.map rowD)) := .lst (sq_of T.rows) (dpa_rows T.row)
      refine s_when (b := !decide (rs = [])) (et_test (ev_is (ev_neD (ed_ev (ev_ixA (i := 1) (ev_var (i := 3) rfl) (sq_of T.at_) rfl) dn) (ed_Ln (xs := []) (el_lst ea_nil (by decide))) (sh_rows (nam_rows NA RO)) (sh_l oks_nil)) (by rw [show wls ([] : List (List Nat)) = .list [] from rfl, eq_rows]))) (fun hb1 H10 e10 => ?_) (fun _ H10 e10 => ⟨_, _, _, _, _, _, _, _, _, _, rfl, e8.trans (P2.ex.trans e10)⟩)
      have hrs : rs ≠ [] := fun z => by rw [decide_eq_true z] at hb1; cases hb1
      have P10 := P2.grow e10
      have T10 := T.mono e10
      have TB := T10.woP P10.at_
      have e8B : Ex H8 (Wo H10 p) := wo_of np (P2.ex.trans e10)
      refine s_seq ?_
      refine s_asgFu (ea_cons (ev_var rfl) (ea_cons (ev_var rfl) ea_nil)) fun H11 e11 => ⟨p, d, a, b, ps, rs, Wo H10 p, 400, rfl, (P10.re).grow e11, by omega, TB, NA, RO, by omega, by omega, hrs, fun wl ws H12 P12 hwl0 wlp hwl hwne hwin hwlen => ?_⟩
      have e12 : Ex H H12 := e8.trans (e8B.trans P12.ex)
      have T12 := TB.mono P12.ex
      have hnamL : ∀ y ∈ laneNames rs, nam y := RO.1.1
      dsimp only
      refine s_seq ?_
      refine s_asgFu (ea_cons (ev_var rfl) (ea_cons (ev_var rfl) ea_nil)) fun H13 e13 => sp_ip (T12.mono e13) NA RO (by omega) (by omega) (e13 _ _ hwl) hwne (by omega) hwin fun v H14 e14 hv => ?_
      have e14' := e13.trans e14
      have T14 := T12.mono e14'
      have hwl14 := e14' _ _ hwl
      dsimp only
      let σ14 : L2.St := [some (.ref l), some (.int (i : Nat)), some (.ref p), some (.ref d), some (.ref wl), some v, t6, none, t8, t9, t10, t11]
      have key : ∀ Q1 : VK, (∀ lo (lots : List (Addr × List (List Nat))) H', Ex H14 H' → H' lo = some (.lst (lots.map fun x => V.ref x.1)) → (∀ x ∈ lots, H' x.1 = some (.lst (vtx x.2)) ∧ x.2 ≠ [] ∧ (∀ y ∈ x.2, y ∈ laneNames rs) ∧ x.2.length ≤ 40) → Q1 (.ref lo) H') →
          tOp rCat (tLst (tCons (tVar 4) (tCons (tSl (rSlL K) (tVar 4) tNoPart (tPart (tC (.int 1)))) tNil))) (tLc (iRng1 (tCons (tC (.int 1)) tNil)) (gName 7) (tTest (tOp (fun x y H Q => y = .non ∧ Q (.bl (!decide (x = .non))) H) (tVar 5) (tC .non))) (tOp (rIxL K) (tVar 5) (tC (.int 1))) [7]) σ14 H14 Q1 := by
        intro Q1 q1
        refine ⟨_, rfl, ?_⟩
        have ksl : EvL (tSl (rSlL K) (tVar 4) tNoPart (tPart (tC (.int 1)))) σ14 H14 (vtx (ws.take 1)) := by
          have := el_sl (K := K) (te := tVar 4) (σ := σ14) (H := H14) (ev_var rfl) eo_none (eo_some (i := ((1 : Nat) : Int)) ev_c) (sq_of hwl14)
          rw [cutV0, vtx_take] at this
          exact this
        refine ksl H14 (Ex.refl _) _ fun w1 H15 nw1 e15 hw1 => ?_
        refine ⟨by show 2 ≤ sizeLine; decide, fun l1 nl1 => ?_⟩
        have e16 : Ex H15 (upd H15 l1 (.lst [.ref wl, .ref w1])) := Ex.new nl1
        have hl1 : (upd H15 l1 (.lst [.ref wl, .ref w1])) l1 = some (.lst [.ref wl, .ref w1]) := upd_same
        generalize upd H15 l1 (.lst [.ref wl, .ref w1]) = H16 at e16 hl1
        have e46 := e15.trans e16
        have ht1 : ws.take 1 ≠ [] := fun z => by
          obtain ⟨w0, wr, hws⟩ := List.exists_cons_of_ne_nil hwne
          rw [hws] at z
          cases z
        have two : ∀ (H' : Hp), Ex H16 H' → ∀ x ∈ [(wl, ws), (w1, ws.take 1)], H' x.1 = some (.lst (vtx x.2)) ∧ x.2 ≠ [] ∧ (∀ y ∈ x.2, y ∈ laneNames rs) ∧ x.2.length ≤ 40 := fun H' e x hx => by
          rcases List.mem_cons.mp hx with rfl | hx
          · exact ⟨(e46.trans e) _ _ hwl14, hwne, hwin, hwlen⟩
          · rw [List.mem_singleton.mp hx]
            exact ⟨(e16.trans e) _ _ hw1, ht1, fun y hy => hwin y (List.mem_of_mem_take hy), by show (ws.take 1).length ≤ 40; rw [List.length_take]; omega⟩
        have hv16 := hv.mono e46
        have lcn : ∀ (c : Bool) (yv : V), EvT (tTest (tOp (fun x y H Q => y = .non ∧ Q (.bl (!decide (x = .non))) H) (tVar 5) (tC .non))) [some (.ref l), some (.int (i : Nat)), some (.ref p), some (.ref d), some (.ref wl), some v, t6, some (.int ((0 : Nat) : Int)), t8, t9, t10, t11] H16 c → (c = true → Ev (tOp (rIxL K) (tVar 5) (tC (.int 1))) [some (.ref l), some (.int (i : Nat)), some (.ref p), some (.ref d), some (.ref wl), some v, t6, some (.int ((0 : Nat) : Int)), t8, t9, t10, t11] H16 yv) →
            EvL (tLc (iRng1 (tCons (tC (.int 1)) tNil)) (gName 7) (tTest (tOp (fun x y H Q => y = .non ∧ Q (.bl (!decide (x = .non))) H) (tVar 5) (tC .non))) (tOp (rIxL K) (tVar 5) (tC (.int 1))) [7]) σ14 H16 (given 1 (fun _ => c) (fun _ => yv)) := fun c yv h1 h2 => by
          have := el_lcR1 (σ := σ14) (H := H16) (j := 7) (vs := [7]) (n := (1 : Int)) (t := tTest (tOp (fun x y H Q => y = .non ∧ Q (.bl (!decide (x = .non))) H) (tVar 5) (tC .non))) (te := tOp (rIxL K) (tVar 5) (tC (.int 1))) (ta := tCons (tC (.int 1)) tNil) (fun _ => c) (fun _ => yv) (ea_cons ev_c ea_nil) (by omega) (fun _ => rfl) (fun i2 H2 e2 hi2 => by
            obtain rfl : i2 = 0 := by omega
            exact h1.mono e2) (fun i2 H2 e2 hi2 hc => by
            obtain rfl : i2 = 0 := by omega
            exact (h2 hc).mono e2)
          exact this
        cases hpt : partW (bare rs) ps ws with
        | none =>
          rw [hpt] at hv16
          have hv0 : v = .non := hv16
          refine lcn false .non (et_test (ev_is (ev_notNo (ev_var (v := v) rfl)) (by rw [hv0]; rfl))) (fun z => by cases z) H16 (Ex.refl _) _ fun l2 H17 nl2 e17 hl2 => ?_
          refine ⟨l1, l2, _, _, rfl, rfl, e17 _ _ hl1, hl2, by show 2 + 0 ≤ sizeLine; decide, fun lo nlo => ?_⟩
          exact q1 lo [(wl, ws), (w1, ws.take 1)] _ ((e46.trans e17).trans (Ex.new nlo)) upd_same (two _ (e17.trans (Ex.new nlo)))
        | some part =>
          rw [hpt] at hv16
          obtain ⟨f1, x1, y1, hvr, hf1⟩ := hv16
          obtain ⟨a0, ha0, hpa, hall⟩ := part_is hpt
          have hpi : part.2 = inner (bare rs) (scc (bare rs) ps a0) := by rw [hpa]; rfl
          refine lcn true (.ref y1) (et_test (ev_is (ev_notNo (ev_var (v := v) rfl)) (by rw [hvr]; rfl))) (fun _ => ev_ixA (i := 1) (ev_is (ev_var (v := v) rfl) hvr) (sq_of hf1.at_) rfl) H16 (Ex.refl _) _ fun l2 H17 nl2 e17 hl2 => ?_
          refine ⟨l1, l2, _, _, rfl, rfl, e17 _ _ hl1, hl2, by show 2 + 1 ≤ sizeLine; decide, fun lo nlo => ?_⟩
          refine q1 lo [(wl, ws), (w1, ws.take 1), (y1, part.2)] _ ((e46.trans e17).trans (Ex.new nlo)) upd_same fun z hz => ?_
          rcases List.mem_cons.mp hz with rfl | hz
          · exact two _ (e17.trans (Ex.new nlo)) _ List.mem_cons_self
          · rcases List.mem_cons.mp hz with rfl | hz
            · exact two _ (e17.trans (Ex.new nlo)) _ (List.mem_cons_of_mem _ List.mem_cons_self)
            · rw [List.mem_singleton.mp hz]
              refine ⟨(e17.trans (Ex.new nlo)) _ _ hf1.lanes, ?_, fun l2 hl2 => ?_, ?_⟩
              · obtain ⟨w0, wr, hws⟩ := List.exists_cons_of_ne_nil hwne
                exact List.ne_nil_of_mem (hall w0 (by rw [hws]; exact List.mem_cons_self))
              · have hl2 : l2 ∈ part.2 := hl2
                rw [hpi] at hl2
                obtain ⟨t, ht, rfl, _⟩ := mem_inner.mp hl2
                rw [← names_rows]
                exact List.mem_map_of_mem (f := fun t : List Nat × List Nat × List Nat => t.1) ht
              · show part.2.length ≤ 40
                rw [hpi]
                unfold inner bare
                rw [List.length_map]
                refine Nat.le_trans (List.length_filter_le _ _) ?_
                rw [List.length_map]
                omega
      refine s_forLq (R := fun lo H' => ∃ lots : List (Addr × List (List Nat)), Ex H14 H' ∧ H' lo = some (.lst (lots.map fun x => V.ref x.1)) ∧ (∀ x ∈ lots, H' x.1 = some (.lst (vtx x.2)) ∧ x.2 ≠ [] ∧ (∀ y ∈ x.2, y ∈ laneNames rs) ∧ x.2.length ≤ 40)) (fun Q1 q1 => key Q1 fun lo lots H' h1 h2 h3 => q1 lo H' ⟨lots, h1, h2, h3⟩) ?_
      rintro lo H15 ⟨lots, e15, hlo, hlots⟩
      refine s_forL (a := lo) ev_c (sq_of hlo) (fun i2 st H' => ∃ (t6 t8 t9 t10 t11 : Option V), st = [some (.ref l), some (.int (i : Nat)), some (.ref p), some (.ref d), some (.ref wl), some v, t6, none, t8, t9, t10, t11] ∧ Ex H15 H') (fun H16 e16 => ⟨t6, t8, t9, t10, t11, rfl, e16⟩) (fun i2 st H' _ ⟨_, _, _, _, _, _, e⟩ => sq_of (e _ _ hlo)) ?_ ?_
      rotate_left
      · rintro st H16 ⟨t6, t8, t9, t10, t11, rfl, e16⟩
        exact ⟨_, _, _, _, _, _, _, _, _, _, rfl, ((e12.trans e14').trans e15).trans e16⟩
      · rintro i2 xv st H16 hxv ⟨t6, t8, t9, t10, t11, rfl, e16⟩
        rw [List.getElem?_map] at hxv
        obtain ⟨lot, hlot, rfl⟩ := Option.map_eq_some_iff.mp hxv
        obtain ⟨hl1, hlne, hlin, hl40⟩ := hlots lot (List.mem_of_getElem? hlot)
        have e14_16 := e15.trans e16
        have T16 := T14.mono e14_16
        have hl16 := e16 _ _ hl1
        dsimp only
        let σ16 : L2.St := [some (.ref l), some (.int (i : Nat)), some (.ref p), some (.ref d), some (.ref wl), some v, some (.ref lot.1), none, t8, t9, t10, t11]
        have key2 : ∀ Q1 : VK, (∀ lr2 b2 H', Ex H16 H' → H' lr2 = some (.lst [.ref b, .ref b2]) → H' b2 = some (.lst (refs rs.reverse)) → Q1 (.ref lr2) H') →
            tLst (tCons (tOp (rIxL K) (tVar 3) (tC (.int 1))) (tCons (tRevL K (tOp (rIxL K) (tVar 3) (tC (.int 1)))) tNil)) σ16 H16 Q1 := by
          intro Q1 q1
          have eb : ∀ {H' : Hp}, Ex H16 H' → Ev (tOp (rIxL K) (tVar 3) (tC (.int 1))) σ16 H' (.ref b) := fun e => ev_ixA (i := 1) (ev_var (i := 3) rfl) (sq_of (e _ _ T16.at_)) rfl
          refine eb (Ex.refl _) H16 (Ex.refl _) _ fun H17 e17 => ?_
          refine el_rev (eb e17) (sq_of (e17 _ _ T16.rows)) H17 (Ex.refl _) _ fun b2 H18 nb2 e18 hb2 => ?_
          refine ⟨by show 2 ≤ sizeLine; decide, fun lr2 nlr => ?_⟩
          refine q1 lr2 b2 _ ((e17.trans e18).trans (Ex.new nlr)) upd_same ((Ex.new nlr) _ _ ?_)
          rw [hb2]
          unfold refs
          rw [List.map_reverse]
        refine s_forLq (R := fun lr2 H' => ∃ b2, Ex H16 H' ∧ H' lr2 = some (.lst [.ref b, .ref b2]) ∧ H' b2 = some (.lst (refs rs.reverse))) (fun Q1 q1 => key2 Q1 fun lr2 b2 H' h1 h2 h3 => q1 lr2 H' ⟨b2, h1, h2, h3⟩) ?_
        rintro lr2 H17 ⟨b2, e17, hlr2, hb2⟩
        refine s_forL (a := lr2) ev_c (sq_of hlr2) (fun i3 st H' => ∃ (t8 t9 t10 t11 : Option V), st = [some (.ref l), some (.int (i : Nat)), some (.ref p), some (.ref d), some (.ref wl), some v, some (.ref lot.1), none, t8, t9, t10, t11] ∧ Ex H17 H') (fun H18 e18 => ⟨t8, t9, t10, t11, rfl, e18⟩) (fun i3 st H' _ ⟨_, _, _, _, _, e⟩ => sq_of (e _ _ hlr2)) ?_ ?_
        rotate_left
        · rintro st H18 ⟨t8, t9, t10, t11, rfl, e18⟩
          exact ⟨_, _, _, _, _, rfl, e16.trans (e17.trans e18)⟩
        · rintro i3 xv st H18 hxv ⟨t8, t9, t10, t11, rfl, e18⟩
          have e16_18 := e17.trans e18
          have T18 := T16.mono e16_18
          have hl18 := e16_18 _ _ hl16
          obtain ⟨bb, rs', rfl, hbb, RO', hsame, hl', hrow18⟩ : ∃ bb rs', xv = .ref bb ∧ H18 bb = some (.lst (refs rs')) ∧ RowsOk ps rs' ∧ (∀ t, t ∈ bare rs ↔ t ∈ bare rs') ∧ rs'.length = rs.length ∧ ∀ r ∈ rs', RowAt H18 r := by
            match i3, hxv with
            | 0, hxv =>
              cases hxv
              exact ⟨b, rs, rfl, T18.rows, RO, fun _ => Iff.rfl, rfl, T18.row⟩
            | 1, hxv =>
              cases hxv
              exact ⟨b2, rs.reverse, rfl, e18 _ _ hb2, rows_rev RO, fun t => by rw [bare_rev, List.mem_reverse], List.length_reverse, fun r hr => T18.row r (List.mem_reverse.mp hr)⟩
            | n + 2, hxv => cases hxv
          have ROlen : rs'.length ≤ 10 := by omega
          have hNs : ∀ y, y ∈ laneNames rs ↔ y ∈ laneNames rs' := fun y => by
            rw [← names_rows, ← names_rows]
            unfold names
            constructor
            · intro z
              obtain ⟨t, ht, h⟩ := List.mem_map.mp z
              exact List.mem_map.mpr ⟨t, (hsame t).mp ht, h⟩
            · intro z
              obtain ⟨t, ht, h⟩ := List.mem_map.mp z
              exact List.mem_map.mpr ⟨t, (hsame t).mpr ht, h⟩
          dsimp only
          refine s_seq ?_
          have kq2 : EvL (tLst (tCons (tOp (rIxL K) (tVar 3) (tC (.int 0))) (tCons (tVar 8) tNil))) [some (.ref l), some (.int (i : Nat)), some (.ref p), some (.ref d), some (.ref wl), some v, some (.ref lot.1), none, some (.ref bb), t9, t10, t11] H18 [.ref a, .ref bb] := el_lst (ea_cons (ev_ixA (i := 0) (ev_var (i := 3) rfl) (sq_of T18.at_) rfl) (ea_cons (ev_var (i := 8) rfl) ea_nil)) (by show 2 ≤ 100000; decide)
          refine s_asgFuL kq2 fun q2 H19 nq2 e19 hq2 => ?_
          have T19' : Told H19 q2 a bb ps rs' := ⟨hq2, e19 _ _ T18.posts, e19 _ _ hbb, fun r hr => e19 _ _ (hrow18 r hr)⟩
          refine ⟨q2, a, bb, ps, rs', rfl, T19', NA, RO', by omega, by omega, fun o dx dp de es H20 e20 no ndp nde hdd N20 hbe => ?_⟩
          have e18_20 := e19.trans e20
          have hlen : es.length = rs'.length := bare_len hbe
          have ROe := rows_bare hbe RO'
          have hNe : laneNames es = laneNames rs' := bare_names hbe
          have hl20 := e18_20 _ _ hl18
          dsimp only
          refine s_seq ?_
          refine ⟨_, rfl, _, rfl, fun x dx1 hx hdx hne1 => ?_⟩
          refine ⟨x, dx1, o, dx, dp, de, lot.1, H20, ps, es, lot.2, rfl, rfl, hx, hdx, hne1, N20, .inl (sq_of hl20), by omega, .inl ⟨hlne, fun y hy => by rw [hNe]; exact (hNs y).mp (hlin y hy), ROe, NA.2, by omega, by omega, fun n dn dpn den wt pv H21 e21 hn0 hdpn0 hden0 hwt0 hdd1 A21 => ⟨rfl, ?_⟩⟩⟩
          have N21 := N20.mono e21
          have e18_21 := e18_20.trans e21
          have T21 := T18.mono e18_21
          have hl21 := e21 _ _ hl20
          have hmem : ∀ y, y ∈ inOrder (bare es) lot.2 ↔ y ∈ lot.2 := mem_inOrder fun y hy => by rw [names_rows, hNe]; exact (hNs y).mp (hlin y hy)
          have hpe : (partW (bare es) ps (inOrder (bare es) lot.2)).isSome = (partW (bare rs) ps lot.2).isSome := by
            have h1 : partW (bare es) ps (inOrder (bare es) lot.2) = partW (bare es) ps lot.2 := partW_same hmem
            rw [h1, hbe]
            exact (partW_order RO RO' hsame hlne hlin).symm
          have hesb : ∀ t, t ∈ bare es → t ∈ bare rs := fun t ht => (hsame t).mpr (by rw [← hbe]; exact ht)
          have hwo : (inOrder (bare es) lot.2) ≠ [] := fun z => by
            obtain ⟨w0, wr, hws⟩ := List.exists_cons_of_ne_nil hlne
            have := (hmem w0).mpr (by rw [hws]; exact List.mem_cons_self)
            rw [z] at this
            cases this
          have hwol : (inOrder (bare es) lot.2).length ≤ 90 := by
            unfold inOrder
            refine Nat.le_trans (List.length_filter_le _ _) ?_
            rw [names_rows]
            unfold laneNames
            rw [List.length_map]
            omega
          dsimp only
          generalize hpart : partW (bare es) ps (inOrder (bare es) lot.2) = part at A21 hpe
          have b1 : ∀ {σ : L2.St}, σ[10]? = some (some (.ref x)) → Ev (tCB (Vbo.rBool CA (spAb CA C)) (tCons (tVar 10) tNil)) σ H21 (.bl part.isSome) := fun h10 => ev_cb (ea_cons (ev_var h10) ea_nil) (fun H1 e Q1 q => ⟨x, dx1, _, rfl, (A21.mono e).at_, x, n, dn, dpn, den, wt, dx1, pv, _, ps, es, part, rfl, A21.mono e, fun H2 e2 => ⟨_, rfl, q H2 e2⟩⟩)
          refine s_if (et_B (b1 rfl)) (fun hb2 H22 e22 => ?_) (fun hb2 H22 e22 => ?_)
          · obtain ⟨pt, rfl⟩ := Option.isSome_iff_exists.mp hb2
            have A22 := A21.mono e22
            have N22 := N21.mono e22
            have rd : ∀ {H' : Hp} (Q1 : VK), Ex H22 H' → (∀ r t dxr ls H'', Ex H' H'' → RndAt CR H'' r t dxr ls → RoundOf (bare es) pt (inOrder (bare es) lot.2) ls → Q1 (.ref r) H'') → spRd CA C CR [.ref x] H' Q1 nil0 := fun {H'} Q1 e q1 =>
              ⟨x, n, dn, dpn, den, wt, dx1, pv, _, ps, es, pt, rfl, A22.mono e, hpart, NA, ROe, by omega, by omega, hwo, hwol, q1⟩
            refine s_seq ?_
            refine ⟨_, rfl, x, dx1, _, rfl, A22.at_, rfl, ?_⟩
            unfold tNil
            refine rd _ (Ex.refl _) fun r t dxr ls H23 e23 R23 hR => ?_
            have hR' : RoundOf (bare es) pt lot.2 ls := ⟨hR.wk, fun y hy => hR.takes y ((hmem y).mpr hy), hR.within, hR.few⟩
            have his := round_isR RO hesb hlne hR'
            have okl : ∀ {ls : List (List Nat)}, RoundOf (bare es) pt (inOrder (bare es) lot.2) ls → (∀ y ∈ ls, nam y) ∧ fitsB (bare es) ls = true := fun {ls} hR => by
              obtain ⟨a9, hw9⟩ := hR.wk
              refine ⟨fun y hy => ?_, fits_of ROe hw9⟩
              obtain ⟨a0, ha0, hpa, _⟩ := part_is hpart
              have h1 := hR.within y hy
              rw [hpa] at h1
              obtain ⟨t1, ht1, rfl, _⟩ := mem_inner.mp h1
              exact (bare_row ROe ht1).1
            have e21_23 := e22.trans e23
            have T23 := T21.mono e21_23
            have hl23 := e21_23 _ _ hl21
            have N23 := N22.mono e23
            have A23 := A22.mono e23
            have oksl : Oks ls := oks_nam (okl hR).1
            have okslot : Oks lot.2 := oks_nam fun y hy => hnamL y (hlin y hy)
            dsimp only
            refine s_seq ?_
            let σ23 : L2.St := [some (.ref l), some (.int (i : Nat)), some (.ref p), some (.ref d), some (.ref wl), some v, some (.ref lot.1), none, some (.ref bb), some (.ref o), some (.ref x), some (.ref r)]
            have tis : EvT (tB (tFu spIr (fun _ => nil0) (tCons (tVar 3) (tCons (tCB (fun xs H Q => ∃ p ys, xs = [.ref p] ∧ (SqL K H p ys ∨ SqT K H p ys) ∧ ∀ l, H l = none → Q (.ref l) (upd H l (.lst ys))) (tCons (tPr CR (getSp CR "_lanes") (tVar 11)) tNil)) (tCons (tVar 6) tNil))))) σ23 H23 true := fun H1 e1 Q1 q1 => by
              have R1 := R23.mono e1
              refine ⟨_, rfl, _, rfl, r, dxr, _, rfl, R1.at_, r, dxr, _, .ref t, rfl, R1.at_, rfl, t, vtx ls, rfl, .inr (st_of R1.lanes), fun lc nlc => ?_⟩
              have e2 : Ex H1 (upd H1 lc (.lst (vtx ls))) := Ex.new nlc
              refine ⟨_, rfl, d, a, b, lc, lot.1, ps, rs, ls, lot.2, rfl, (T23.mono e1).mono e2, RO, by omega, upd_same, hR.few, oksl, (e1.trans e2) _ _ hl23, by omega, okslot, fun H3 e3 => ⟨true, by rw [his], q1 H3 (e2.trans e3)⟩⟩
            refine s_when (b := false) (et_or (a := false) (b := false) (et_is (et_not (a := true) (et_B (ev_isR insR (ev_var (i := 11) rfl) R23))) rfl) (fun _ => et_is (et_not (a := true) tis) rfl)) (fun z => by cases z) fun _ H24 e24 => ?_
            have A24 := A23.mono e24
            have N24 := N23.mono e24
            have R24 := R23.mono e24
            have e22_24 := e23.trans e24
            have tf1 : EvT (tB (tFu (spFt K C CR) (fun _ => nil0) (tCons (tVar 9) (tCons (tVar 11) tNil)))) σ23 H24 true := fun H1 e1 Q1 q1 => by
              refine ⟨_, rfl, _, rfl, o, dx, dp, de, r, ps, es, ls, rfl, N24.mono e1, ROe.1.2, (R24.mono e1).rn, hR.few, fun H3 e3 => ⟨true, by rw [(okl hR).2], q1 H3 e3⟩⟩
            have tf2 : EvT (tB (tFu (spFt K C CR) (fun _ => nil0) (tCons (tPr CA (spAn CA C) (tVar 10)) (tCons (Vtr.tMethS CA "round" (spRd CA C CR) (fun _ => nil0) (tVar 10) tNil) tNil)))) σ23 H24 true := fun H1 e1 Q1 q1 => by
              refine ⟨_, rfl, x, dx1, _, rfl, (A24.mono e1).at_, x, n, dn, dpn, den, wt, dx1, pv, _, ps, es, _, rfl, A24.mono e1, fun o2 dx2 dp2 de2 H2 e2 _ _ _ _ _ _ N2 => ?_⟩
              refine ⟨_, rfl, x, dx1, _, rfl, (A24.mono (e1.trans e2)).at_, rfl, ?_⟩
              unfold tNil
              refine rd _ (e22_24.trans (e1.trans e2)) fun r3 t3 dxr3 ls3 H3 e3 R3 hR3 => ?_
              refine ⟨o2, dx2, dp2, de2, r3, ps, es, ls3, rfl, N2.mono e3, ROe.1.2, R3.rn, hR3.few, fun H4 e4 => ⟨true, by rw [(okl hR3).2], q1 H4 ((e2.trans e3).trans e4)⟩⟩
            refine s_when (b := false) (et_or (a := false) (b := false) (et_is (et_not (a := true) tf1) rfl) (fun _ => et_is (et_not (a := true) tf2) rfl)) (fun z => by cases z) fun _ H25 e25 => ?_
            exact ⟨_, _, _, _, rfl, e18.trans (e18_21.trans (e21_23.trans (e24.trans e25)))⟩
          · have hpn : partW (bare rs) ps lot.2 = none := by
              rw [hb2] at hpe
              exact Option.not_isSome_iff_eq_none.mp (by rw [← hpe]; decide)
            have T22 := T21.mono e22
            have hl22 := e22 _ _ hl21
            have ein : Ev (tOp (fun x y H Q => y = .non ∧ Q (.bl (!decide (x = .non))) H) (tFu spIp (fun _ => nil0) (tCons (tVar 3) (tCons (tVar 6) tNil))) (tC .non)) [some (.ref l), some (.int (i : Nat)), some (.ref p), some (.ref d), some (.ref wl), some v, some (.ref lot.1), none, some (.ref bb), some (.ref o), some (.ref x), t11] H22 (.bl false) := fun H1 e1 Q1 q1 => by
              refine ⟨_, rfl, _, rfl, ?_⟩
              unfold tNil
              refine sp_ip (T22.mono e1) NA RO (by omega) (by omega) (e1 _ _ hl22) hlne (by omega) hlin fun v9 H2 e2 hv9 => ⟨rfl, ?_⟩
              rw [hpn] at hv9
              rw [show v9 = .non from hv9]
              exact q1 H2 e2
            refine s_when (b := false) (et_test ein) (fun z => by cases z) fun _ H23 e23 => ?_
            exact ⟨_, _, _, _, rfl, e18.trans (e18_21.trans (e22.trans e23))⟩
end
end K17

set_option Elab.async false
set_option linter.all false
/-! A lean head: the facts are read off the objects at addresses that are told (a list of numbers), and the head's equation comes from its parts, each a kernel run of its own (one run for all of them goes through the top once for each part, in one memory). -/
namespace Vsp
open PySem PySem.W PySem.Calls PyProof.Rows HandSHeadRun
/-- the facts, off the objects at these addresses -/
def obsL (as : List Addr) (f : Vh.Fg → Bool) (fn : List He.DefD) (pr : List Vh.PrD) (g : Addr → Option Obj) : He.AlD := Vh.obsP f fn pr (He.frG g as)
def hookL (as : List Addr) (f : Vh.Fg → Bool) (fn : List He.DefD) (pr : List Vh.PrD) : Hook where
  α := He.AlD
  obs := fun t => obsL as f fn pr t.heap.get?
  val := fun _ => Vh.valP fn pr
  says := fun _ h => ∃ K : Vh.Fg, K.In h ∧ Vh.SaysP f fn pr K
  of := fun _ _ e => ⟨_, He.frG_in, e⟩
  keeps := fun _ _ _ ⟨K, hK, c⟩ k => ⟨K, PySem.W.Frag.In.keeps hK k, c⟩
theorem obsL_eq {as : List Addr} {f : Vh.Fg → Bool} {fn : List He.DefD} {pr : List Vh.PrD} {g : Addr → Option Obj} {t : Shared} (h : ∀ a, g a = t.heap.get? a) : obsL as f fn pr g = (hookL as f fn pr).obs t := by
  have e : g = t.heap.get? := funext h
  rw [e] <;> rfl
theorem map2 {α β γ : Type} {x : Option α} {f : α → β} {g : α → γ} {a : β} {b : γ} (h1 : x.map f = some a) (h2 : x.map g = some b) : x.map (fun s => (f s, g s)) = some (a, b) := by
  cases x with
  | none => cases h1
  | some v =>
    have e1 : f v = a := Option.some.inj h1
    have e2 : g v = b := Option.some.inj h2
    show some (f v, g v) = some (a, b)
    rw [e1, e2]
theorem mapP {α β γ : Type} {x : Option α} {f : α → β × γ} {a : β × γ} (h1 : x.map (fun s => (f s).1) = some a.1) (h2 : x.map (fun s => (f s).2) = some a.2) : x.map f = some a := by
  cases x with
  | none => cases h1
  | some v =>
    have e1 : (f v).1 = a.1 := Option.some.inj h1
    have e2 : (f v).2 = a.2 := Option.some.inj h2
    exact congrArg some (Prod.ext e1 e2)
/-- the state behind the top -/
noncomputable abbrev endQ (r : OpenRow) (M : Nat) (w : World) (os : OsState) : Option SharedT := endF (stepQ (denQ tabQ) r.prog w) M r.prog w os
def EqLooks (r : OpenRow) (M : Nat) : Prop := ∀ (w : World) (os : OsState), (endQ r M w os).map (fun s => looksF r.prog (boot_heap w.params) s.abs) = some true
def EqSeen (r : OpenRow) (q : Program) (M : Nat) (loose : List PySem.Str) : Prop := ∀ (w : World) (os : OsState), (endQ r M w os).map (fun s => seenQ q loose (importedModules r.prog.main.body) (fun s => xlAt q [] s && recOk r.toRowW.records s) s.abs) = some (openGood q loose)
def EqOb1 (as : List Addr) (r : OpenRow) (f : Vh.Fg → Bool) (fn : List He.DefD) (pr : List Vh.PrD) (M : Nat) : Prop := ∀ (w : World) (os : OsState), (endQ r M w os).map (fun s => (obsL as f fn pr (getT s)).1) = some true
def EqOb2 (as : List Addr) (r : OpenRow) (f : Vh.Fg → Bool) (fn : List He.DefD) (pr : List Vh.PrD) (M : Nat) : Prop := ∀ (w : World) (os : OsState), (endQ r M w os).map (fun s => (obsL as f fn pr (getT s)).2) = some (Vh.valP fn pr).2
theorem run_of {as : List Addr} {r : OpenRow} {q : Program} {f : Vh.Fg → Bool} {fn : List He.DefD} {pr : List Vh.PrD} {M : Nat} {loose : List PySem.Str} (a : EqLooks r M) (b : EqSeen r q M loose) (c : EqOb1 as r f fn pr M) (d : EqOb2 as r f fn pr M) (w : World) :
    RunEq r q (hookL as f fn pr) (fun s => obsL as f fn pr (getT s)) M loose w := fun os =>
  map2 (a w os) (map2 (b w os) (mapP (c w os) (d w os)))
end Vsp

set_option Elab.async false
set_option linter.all false
set_option maxRecDepth 100000
set_option maxHeartbeats 0
namespace K17
open PySem PySem.Spec PyProof.Rows L2 Vh
abbrev iniBadName : Stmt := (clB (top 3)).getD 0 (.Pass ⟨0, 0, 0, 0⟩)
abbrev iniNameTaken : Stmt := (clB (top 4)).getD 0 (.Pass ⟨0, 0, 0, 0⟩)
abbrev iniNoPost : Stmt := (clB (top 5)).getD 0 (.Pass ⟨0, 0, 0, 0⟩)
abbrev iniNoLane : Stmt := (clB (top 6)).getD 0 (.Pass ⟨0, 0, 0, 0⟩)
def fn : List He.DefD := [gD (top 17) "is_name", gD (top 19) "check_name", gD (top 20) "check_sequence", gD (top 23) "_net_of", gD (top 24) "check_posts", gD (top 25) "check_lanes", gD (top 26) "ways_from", gD (top 27) "parts_of", gD (top 28) "_inner_lanes", gD (top 61) "traced", ⟨("way_until", none), "way_until", "way_until", defArgs (top 62), defBody (top 62), defScope (top 62), [He.Dv.non], []⟩, gD (top 63) "way_taking", gD (top 75) "fits", gD (top 80) "_part_with", gD (top 82) "graph_of_part", gD (top 83) "_round_with", gD (top 90) "_law_cell", gD (top 91) "_law_pool", gD (top 92) "_law_take", gD (top 93) "_law_names", gD (top 94) "_law_many", gD (top 95) "_law_mixed", gD (top 96) "_law_net", gD (top 97) "_law_built", gD (top 98) "_law_ends", gD (top 99) "_law_ways", gD (top 100) "_law_part", gD (top 101) "_law_wanted", gD (top 102) "_law_in_part", gD (top 103) "_law_is_round", gD (top 105) "law", mD (mem 0) "Net" "__init__" "Net.__init__", mD (mem 1) "Net" "post" "Net.post", mD (mem 2) "Net" "lane" "Net.lane", mD (mem 8) "Net" "out_of" "Net.out_of", mD (mem 13) "Net" "__len__" "Net.__len__", mD (mem 6) "Net" "start_of" "Net.start_of", mD (mem 7) "Net" "end_of" "Net.end_of", mD (mem 11) "Net" "__contains__" "Net.__contains__", mD (mem 9) "Net" "copy" "Net.copy", mD (memA 0) "Asked" "__init__" "Asked.__init__", mD (memA 3) "Asked" "part" "Asked.part", mD (memA 5) "Asked" "__bool__" "Asked.__bool__", mD (memA 4) "Asked" "round" "Asked.round", mD (memR 0) "Round" "__init__" "Round.__init__", mD iniBadName "BadName" "__init__" "BadName.__init__", mD iniNameTaken "NameTaken" "__init__" "NameTaken.__init__", mD iniNoPost "NoPost" "__init__" "NoPost.__init__", mD iniNoLane "NoLane" "__init__" "NoLane.__init__"]
def pr : List PrD := [(("Net", "posts"), mD (mem 4) "Net" "posts" "Net.posts"), (("Net", "lanes"), mD (mem 5) "Net" "lanes" "Net.lanes"), (("Asked", "net"), mD (memA 1) "Asked" "net" "Asked.net"), (("Asked", "wanted"), mD (memA 2) "Asked" "wanted" "Asked.wanted"), (("Round", "lanes"), mD (memR 1) "Round" "lanes" "Round.lanes")]
def globals : List Str := ((["Net", "Asked", "Round", "NothingWanted", "BadName", "NameTaken", "NoPost", "NoLane", "is_name", "check_name", "check_sequence", "_net_of", "check_posts", "check_lanes", "ways_from", "parts_of", "_inner_lanes", "traced", "way_until", "way_taking", "fits", "_part_with", "graph_of_part", "_round_with", "_law_cell"] : List Str) ++ (["_law_pool", "_law_take", "_law_names", "_law_many", "_law_mixed", "_law_net", "_law_built", "_law_ends", "_law_ways", "_law_part", "_law_wanted", "_law_in_part", "_law_is_round", "law"] : List Str))
def frees : List Str := ["len", "int", "str", "isinstance", "range", "tuple", "list", "all", "dict", "bool", "min", "enumerate"]
def meths : List Str := ["post", "lane", "out_of", "__len__", "start_of", "end_of", "__contains__", "copy"]
def emF : Fact := fun K => PySem.W.excIn K (He.ga K "NothingWanted") He.veBase "ValueError.__new__" && (decide (PySem.W.subIn K (.ref (He.ga K "NothingWanted")) (.type "BaseException") = some true) && (decide (PySem.W.typeIn K (.ref (He.ga K "NothingWanted")) = some (.type "type")) && PySem.W.keepIn K (.ref (He.ga K "NothingWanted"))))
def fs : List Fact := [glosF globals, freesF frees, strF "LETTERS" (Vp.tx Vp.letters), strF "DIGITS" (Vp.tx Vp.digits), intF "LONGEST" 8, clsF "Net" ["_posts", "_ends"] meths, mkF "Net", prpF "Net" "posts", prpF "Net" "lanes", takB, errF "BadName" ["name"], errF "NameTaken" ["name"], errF "NoPost" ["name"], errF "NoLane" ["name"], Vw.insF "Round", Vw.insF "Net", emF, clsF "Asked" ["_net", "_wanted", "_part"] ["part", "__bool__", "round"], mkF "Asked", prpF "Asked" "net", prpF "Asked" "wanted", clsF "Round" ["_lanes"] [], mkF "Round", prpF "Round" "lanes"]
abbrev Rw : PySem.W.OpenRow := PySem.W.OpenLaw.row PySem.Challenge.rw_alsoshown_k17_rounds_told
def as : List Addr := (([3, 29, 30, 31, 32, 42, 43, 44, 45, 46, 47, 48, 49, 50, 51, 61, 62, 63, 64, 65, 66, 67, 68, 69, 70, 80, 81, 82, 83, 84, 85, 86, 87, 88, 89, 99, 100, 101, 102, 103, 104, 105, 106, 107, 108, 149, 150, 151, 211, 212, 213, 214, 215, 223, 224, 225, 226, 227, 228, 229, 230, 231, 232, 233, 234, 235, 236, 244, 245, 246, 247, 248, 249, 250, 251, 252, 253, 254, 255, 256, 257, 258, 259, 260, 261, 262, 263, 264, 265, 266, 267, 268, 269, 270, 271, 272, 273, 274, 275, 276] : List Addr) ++ ([277, 278, 279, 280, 281, 282, 283, 284, 285, 286, 287, 288, 289, 290, 291, 292, 293, 294, 295, 296, 297, 298, 299, 300, 301, 302, 303, 304, 305, 306, 307, 308, 309, 310, 311, 312, 313, 314, 315, 316, 317, 318, 319, 320, 321, 322, 323, 324, 325, 326, 327, 328, 329, 330, 331, 332, 333, 334, 335, 336, 337, 338, 339, 340, 341, 342, 343, 344, 345, 346, 347, 348, 349, 350, 351, 352, 353, 354, 355, 356, 357, 358, 359, 360, 361, 362, 363, 364, 365, 366, 367, 368, 369, 370, 371, 372, 373, 374, 375, 376] : List Addr) ++ ([377, 378, 379, 380, 383, 384, 385, 386, 387, 388, 389, 390, 391, 392, 393, 394, 395, 396, 397, 398, 399, 400, 401, 402, 403, 404, 405, 406, 407, 408, 409, 410, 411, 412, 413, 414, 415, 416, 417, 418, 419, 420, 599, 600, 601, 602, 603, 604, 605, 606, 607, 608, 609, 610, 611, 612, 613, 614, 615, 616, 617, 618, 753, 754, 755, 756, 757, 758, 759, 760, 761, 762, 763, 764, 765, 766, 767, 768, 769, 770, 771, 772, 773, 774, 775, 776, 777, 778, 779, 780, 781, 782, 783, 784, 785, 786, 787, 788, 789, 790] : List Addr) ++ ([791, 792, 793, 794, 795, 796, 797, 798, 799, 800, 801, 802, 803, 804, 805, 806, 807, 808, 809, 810, 811, 812, 813, 814, 815, 816, 817, 818, 819, 820, 821, 822, 823, 824, 825, 826, 827, 828, 829, 830, 831, 832, 833, 834, 835, 836, 837, 838, 839, 840, 841, 842, 843, 844, 845, 846, 847, 848, 849, 850, 851, 852, 862, 863, 864, 865, 866, 900, 901, 902, 903, 904, 905, 906, 907, 908, 909, 910, 911, 912, 913, 914, 915, 916, 917, 918, 919, 920, 921, 922, 923, 924, 925, 926, 927, 928, 929, 930, 931, 932] : List Addr) ++ ([933, 934, 935, 936, 937, 938, 939, 940, 941, 942, 943, 944, 945, 946, 947, 948, 949, 950, 951, 952, 953, 956, 957, 958, 959, 960, 966, 967, 968, 969, 970, 971, 972, 973, 974, 975, 1007, 1008, 1009, 1010, 1011, 1012, 1013, 1014, 1015, 1016, 1017, 1018, 1019, 1020, 1021, 1022, 1023, 1024, 1025, 1026, 1027, 1028, 1029, 1030, 1031, 1032, 1033, 1034, 1035, 1036, 1037, 1038, 1039, 1040, 1041, 1042, 1043, 1044, 1045, 1046, 1047, 1048, 1049, 1050, 1051, 1052, 1053, 1054, 1055, 1056, 1057, 1058, 1059, 1060, 1061, 1062, 1063, 1064, 1065, 1066, 1067, 1068, 1069, 1070] : List Addr) ++ ([1071, 1072, 1073, 1074, 1075, 1076, 1077, 1078, 1079, 1080, 1081, 1082, 1083, 1084, 1085, 1086, 1087, 1088, 1089, 1090, 1096, 1097, 1098, 1099, 1100] : List Addr))
abbrev hk : PySem.W.Hook := Vsp.hookL as (allF fs) fn pr
def ob (s : PySem.W.SharedT) : He.AlD := Vsp.obsL as (allF fs) fn pr (HandSHeadRun.getT s)
theorem ob_eq (s : PySem.W.SharedT) : ob s = hk.obs s.abs := Vsp.obsL_eq (HandSHeadRun.getT_eq s)
def loose : List Str := (((["_wall", "__name__", "ShowError", "BadName", "NameTaken", "NoPost", "NoLane", "Clash", "EmptyWalk", "NothingWanted", "BadText", "BadNumber", "NoRound", "LETTERS", "DIGITS", "LONGEST", "is_name", "is_integer", "check_name", "check_sequence", "Net", "_net_of", "check_posts", "check_lanes", "ways_from"] : List Str) ++ (["parts_of", "_inner_lanes", "ANY", "NONE", "THEN", "EITHER", "REPEATED", "OPTIONAL", "is_atom", "is_join", "in_order", "named_by", "text_of", "_text_of_atom", "opposite", "Atoms", "places_in", "_linked", "_either", "_joined", "GROUP", "steps_of", "_stands", "_need", "_end_of_name"] : List Str) ++ (["_read_atom", "_read_brackets", "_end_groups", "_join", "_go_on", "traced", "way_until", "way_taking", "numbered", "_left_in_depth", "lanes_by_number", "of_numbers", "Pattern", "walk_of", "pattern_of", "Round", "least_turn", "fits", "Standings", "Asked", "_part_with", "_without_way", "graph_of_part", "_round_with", "standings_of"] : List Str) ++ (["showing", "avoiding", "numbers_without", "_round_among", "_law_cell", "_law_pool", "_law_take", "_law_names", "_law_many", "_law_mixed", "_law_net", "_law_built", "_law_ends", "_law_ways", "_law_part", "_law_wanted", "_law_in_part", "_law_is_round", "_law_shows"] : List Str)) : List Str)
abbrev qv : PySem.Program := PySem.W.view Rw.prog [105]
theorem runA : Vsp.EqLooks Rw 20000 := by
  intro w os
  kernel_rfl
theorem runB : Vsp.EqSeen Rw qv 20000 loose := by
  intro w os
  kernel_rfl
theorem runC : Vsp.EqOb1 as Rw (allF fs) fn pr 20000 := by
  intro w os
  kernel_rfl
theorem runD : Vsp.EqOb2 as Rw (allF fs) fn pr 20000 := by
  intro w os
  kernel_rfl
theorem run (w : World) : HandSHeadRun.RunEq Rw (PySem.W.view Rw.prog [105]) hk ob 20000 loose w := Vsp.run_of runA runB runC runD w
end K17

set_option Elab.async false
set_option linter.all false
set_option maxRecDepth 100000
set_option maxHeartbeats 4000000
namespace K17
open PySem PySem.Spec PyProof.Rows L2 Vl Evl Vh Vc Vx2 Vw
theorem facts_ok {P : Program} {w : World} {K : PySem.W.Frag} {h : Heap} {mg : Str → Option Value} {f : Addr} (X : K.In h) (G : h.Ns mainGlobals mg) (hfa : mg ("law" : Str) = some (.ref f)) (c : SaysP (allF fs) fn pr K) :
    ∃ fd : FuncData, (∀ (s : Shared) (v : Value), BindsTo s fd ⟨[v], []⟩ [("_law_script", v)]) ∧ ∀ base : Heap, K.In base → base.Ns mainGlobals mg → FnOk P w K mg base L2.CX0 12 f fd ["_law_script"] (spLaw K) := by
  have a := c.one.1
  have gg := glos_ok X G (fact_at a 0)
  have fr := frees_ok X G (fact_at a 1)
  have gL := He.str_ok X G (fact_at a 2)
  have gDg := He.str_ok X G (fact_at a 3)
  have gO := He.int_ok X G (fact_at a 4)
  have net := clsF_ok (fact_at a 5)
  have M := He.mkr_ok (fact_at a 6)
  have pP := prpF_ok (fact_at a 7)
  have pL := prpF_ok (fact_at a 8)
  have tak := fact_at a 9
  have eBadName := fact_at a 10
  have eNameTaken := fact_at a 11
  have eNoPost := fact_at a 12
  have eNoLane := fact_at a 13
  have ins := Vw.insF_ok net.cls (fact_at a 15) tak
  have em := fact_at a 16
  have ask := clsF_ok (fact_at a 17)
  have MA := He.mkr_ok (fact_at a 18)
  have pN := prpF_ok (fact_at a 19)
  have pW := prpF_ok (fact_at a 20)
  have rnd := clsF_ok (fact_at a 21)
  have insR := Vw.insF_ok rnd.cls (fact_at a 14) tak
  have MR := He.mkr_ok (fact_at a 22)
  have pR := prpF_ok (fact_at a 23)
  obtain ⟨fd_is_name, D_is_name⟩ := c.def_ 0 (d := gD (top 17) "is_name") rfl
  obtain ⟨fd_check_name, D_check_name⟩ := c.def_ 1 (d := gD (top 19) "check_name") rfl
  obtain ⟨fd_check_sequence, D_check_sequence⟩ := c.def_ 2 (d := gD (top 20) "check_sequence") rfl
  obtain ⟨fd__net_of, D__net_of⟩ := c.def_ 3 (d := gD (top 23) "_net_of") rfl
  obtain ⟨fd_check_posts, D_check_posts⟩ := c.def_ 4 (d := gD (top 24) "check_posts") rfl
  obtain ⟨fd_check_lanes, D_check_lanes⟩ := c.def_ 5 (d := gD (top 25) "check_lanes") rfl
  obtain ⟨fd_ways_from, D_ways_from⟩ := c.def_ 6 (d := gD (top 26) "ways_from") rfl
  obtain ⟨fd_parts_of, D_parts_of⟩ := c.def_ 7 (d := gD (top 27) "parts_of") rfl
  obtain ⟨fd__inner_lanes, D__inner_lanes⟩ := c.def_ 8 (d := gD (top 28) "_inner_lanes") rfl
  obtain ⟨fd_traced, D_traced⟩ := c.def_ 9 (d := gD (top 61) "traced") rfl
  obtain ⟨fd_way_until, D_way_until⟩ := c.def_ 10 (d := ⟨("way_until", none), "way_until", "way_until", defArgs (top 62), defBody (top 62), defScope (top 62), [He.Dv.non], []⟩) rfl
  obtain ⟨fd_way_taking, D_way_taking⟩ := c.def_ 11 (d := gD (top 63) "way_taking") rfl
  obtain ⟨fd_fits, D_fits⟩ := c.def_ 12 (d := gD (top 75) "fits") rfl
  obtain ⟨fd__part_with, D__part_with⟩ := c.def_ 13 (d := gD (top 80) "_part_with") rfl
  obtain ⟨fd_graph_of_part, D_graph_of_part⟩ := c.def_ 14 (d := gD (top 82) "graph_of_part") rfl
  obtain ⟨fd__round_with, D__round_with⟩ := c.def_ 15 (d := gD (top 83) "_round_with") rfl
  obtain ⟨fd__law_cell, D__law_cell⟩ := c.def_ 16 (d := gD (top 90) "_law_cell") rfl
  obtain ⟨fd__law_pool, D__law_pool⟩ := c.def_ 17 (d := gD (top 91) "_law_pool") rfl
  obtain ⟨fd__law_take, D__law_take⟩ := c.def_ 18 (d := gD (top 92) "_law_take") rfl
  obtain ⟨fd__law_names, D__law_names⟩ := c.def_ 19 (d := gD (top 93) "_law_names") rfl
  obtain ⟨fd__law_many, D__law_many⟩ := c.def_ 20 (d := gD (top 94) "_law_many") rfl
  obtain ⟨fd__law_mixed, D__law_mixed⟩ := c.def_ 21 (d := gD (top 95) "_law_mixed") rfl
  obtain ⟨fd__law_net, D__law_net⟩ := c.def_ 22 (d := gD (top 96) "_law_net") rfl
  obtain ⟨fd__law_built, D__law_built⟩ := c.def_ 23 (d := gD (top 97) "_law_built") rfl
  obtain ⟨fd__law_ends, D__law_ends⟩ := c.def_ 24 (d := gD (top 98) "_law_ends") rfl
  obtain ⟨fd__law_ways, D__law_ways⟩ := c.def_ 25 (d := gD (top 99) "_law_ways") rfl
  obtain ⟨fd__law_part, D__law_part⟩ := c.def_ 26 (d := gD (top 100) "_law_part") rfl
  obtain ⟨fd__law_wanted, D__law_wanted⟩ := c.def_ 27 (d := gD (top 101) "_law_wanted") rfl
  obtain ⟨fd__law_in_part, D__law_in_part⟩ := c.def_ 28 (d := gD (top 102) "_law_in_part") rfl
  obtain ⟨fd__law_is_round, D__law_is_round⟩ := c.def_ 29 (d := gD (top 103) "_law_is_round") rfl
  obtain ⟨fd_law, D_law⟩ := c.def_ 30 (d := gD (top 105) "law") rfl
  obtain ⟨fd_m__init__, D_m__init__⟩ := c.def_ 31 (d := mD (mem 0) "Net" "__init__" "Net.__init__") rfl
  obtain ⟨fd_mpost, D_mpost⟩ := c.def_ 32 (d := mD (mem 1) "Net" "post" "Net.post") rfl
  obtain ⟨fd_mlane, D_mlane⟩ := c.def_ 33 (d := mD (mem 2) "Net" "lane" "Net.lane") rfl
  obtain ⟨fd_mout_of, D_mout_of⟩ := c.def_ 34 (d := mD (mem 8) "Net" "out_of" "Net.out_of") rfl
  obtain ⟨fd_m__len__, D_m__len__⟩ := c.def_ 35 (d := mD (mem 13) "Net" "__len__" "Net.__len__") rfl
  obtain ⟨fd_mstart_of, D_mstart_of⟩ := c.def_ 36 (d := mD (mem 6) "Net" "start_of" "Net.start_of") rfl
  obtain ⟨fd_mend_of, D_mend_of⟩ := c.def_ 37 (d := mD (mem 7) "Net" "end_of" "Net.end_of") rfl
  obtain ⟨fd_m__contains__, D_m__contains__⟩ := c.def_ 38 (d := mD (mem 11) "Net" "__contains__" "Net.__contains__") rfl
  obtain ⟨fd_mcopy, D_mcopy⟩ := c.def_ 39 (d := mD (mem 9) "Net" "copy" "Net.copy") rfl
  obtain ⟨fd_r__init__, D_r__init__⟩ := c.def_ 40 (d := mD (memA 0) "Asked" "__init__" "Asked.__init__") rfl
  obtain ⟨fd_rpart, D_rpart⟩ := c.def_ 41 (d := mD (memA 3) "Asked" "part" "Asked.part") rfl
  obtain ⟨fd_r__bool__, D_r__bool__⟩ := c.def_ 42 (d := mD (memA 5) "Asked" "__bool__" "Asked.__bool__") rfl
  obtain ⟨fd_rround, D_rround⟩ := c.def_ 43 (d := mD (memA 4) "Asked" "round" "Asked.round") rfl
  obtain ⟨fd_q__init__, D_q__init__⟩ := c.def_ 44 (d := mD (memR 0) "Round" "__init__" "Round.__init__") rfl
  obtain ⟨fd_iBadName, D_iBadName⟩ := c.def_ 45 (d := mD iniBadName "BadName" "__init__" "BadName.__init__") rfl
  obtain ⟨fd_iNameTaken, D_iNameTaken⟩ := c.def_ 46 (d := mD iniNameTaken "NameTaken" "__init__" "NameTaken.__init__") rfl
  obtain ⟨fd_iNoPost, D_iNoPost⟩ := c.def_ 47 (d := mD iniNoPost "NoPost" "__init__" "NoPost.__init__") rfl
  obtain ⟨fd_iNoLane, D_iNoLane⟩ := c.def_ 48 (d := mD iniNoLane "NoLane" "__init__" "NoLane.__init__") rfl
  obtain ⟨fd_pposts, D_pposts⟩ := c.prp 0 (q := (("Net", "posts"), mD (mem 4) "Net" "posts" "Net.posts")) rfl
  obtain ⟨fd_planes, D_planes⟩ := c.prp 1 (q := (("Net", "lanes"), mD (mem 5) "Net" "lanes" "Net.lanes")) rfl
  obtain ⟨fd_pnet, D_pnet⟩ := c.prp 2 (q := (("Asked", "net"), mD (memA 1) "Asked" "net" "Asked.net")) rfl
  obtain ⟨fd_pwanted, D_pwanted⟩ := c.prp 3 (q := (("Asked", "wanted"), mD (memA 2) "Asked" "wanted" "Asked.wanted")) rfl
  obtain ⟨fd_plns, D_plns⟩ := c.prp 4 (q := (("Round", "lanes"), mD (memR 1) "Round" "lanes" "Round.lanes")) rfl
  have e := hfa.symm.trans (gg "law" (by decide))
  cases e
  have b := FunD.bindsA (ps := ["_law_script"]) D_law fun _ _ _ _ _ _ us hl => match us, hl with | [_], _ => rfl
  have b_is_name : L2.Binds K fd_is_name ["value"] [] := FunD.bindsN D_is_name fun _ _ _ _ _ _ us hl => match us, hl with | [_], _ => rfl
  have b_check_name : L2.Binds K fd_check_name ["value"] [] := FunD.bindsN D_check_name fun _ _ _ _ _ _ us hl => match us, hl with | [_], _ => rfl
  have b_check_sequence : L2.Binds K fd_check_sequence ["names"] [] := FunD.bindsN D_check_sequence fun _ _ _ _ _ _ us hl => match us, hl with | [_], _ => rfl
  have b__net_of : L2.Binds K fd__net_of ["posts", "ends"] [] := FunD.bindsN D__net_of fun _ _ _ _ _ _ us hl => match us, hl with | [_, _], _ => rfl
  have b_check_posts : L2.Binds K fd_check_posts ["net", "names"] [] := FunD.bindsN D_check_posts fun _ _ _ _ _ _ us hl => match us, hl with | [_, _], _ => rfl
  have b_check_lanes : L2.Binds K fd_check_lanes ["net", "names"] [] := FunD.bindsN D_check_lanes fun _ _ _ _ _ _ us hl => match us, hl with | [_, _], _ => rfl
  have b_ways_from : L2.Binds K fd_ways_from ["net", "post"] [] := FunD.bindsN D_ways_from fun _ _ _ _ _ _ us hl => match us, hl with | [_, _], _ => rfl
  have b_parts_of : L2.Binds K fd_parts_of ["net"] [] := FunD.bindsN D_parts_of fun _ _ _ _ _ _ us hl => match us, hl with | [_], _ => rfl
  have b__inner_lanes : L2.Binds K fd__inner_lanes ["net", "posts"] [] := FunD.bindsN D__inner_lanes fun _ _ _ _ _ _ us hl => match us, hl with | [_, _], _ => rfl
  have b_traced : L2.Binds K fd_traced ["came", "node"] [] := FunD.bindsN D_traced fun _ _ _ _ _ _ us hl => match us, hl with | [_, _], _ => rfl
  have b_way_taking : L2.Binds K fd_way_taking ["leads", "start", "end", "lanes"] [] := FunD.bindsN D_way_taking fun _ _ _ _ _ _ us hl => match us, hl with | [_, _, _, _], _ => rfl
  have b_fits : L2.Binds K fd_fits ["net", "ring"] [] := FunD.bindsN D_fits fun _ _ _ _ _ _ us hl => match us, hl with | [_, _], _ => rfl
  have b__part_with : L2.Binds K fd__part_with ["net", "wanted"] [] := FunD.bindsN D__part_with fun _ _ _ _ _ _ us hl => match us, hl with | [_, _], _ => rfl
  have b_graph_of_part : L2.Binds K fd_graph_of_part ["net", "part"] [] := FunD.bindsN D_graph_of_part fun _ _ _ _ _ _ us hl => match us, hl with | [_, _], _ => rfl
  have b__round_with : L2.Binds K fd__round_with ["asked", "walk"] [] := FunD.bindsN D__round_with fun _ _ _ _ _ _ us hl => match us, hl with | [_, _], _ => rfl
  have b__law_cell : L2.Binds K fd__law_cell ["_law_script", "_law_k"] [] := FunD.bindsN D__law_cell fun _ _ _ _ _ _ us hl => match us, hl with | [_, _], _ => rfl
  have b__law_pool : L2.Binds K fd__law_pool ["_law_cell_here"] [] := FunD.bindsN D__law_pool fun _ _ _ _ _ _ us hl => match us, hl with | [_], _ => rfl
  have b__law_take : L2.Binds K fd__law_take ["_law_pool_here", "_law_many_here"] [] := FunD.bindsN D__law_take fun _ _ _ _ _ _ us hl => match us, hl with | [_, _], _ => rfl
  have b__law_names : L2.Binds K fd__law_names ["_law_pool_here", "_law_many_here"] [] := FunD.bindsN D__law_names fun _ _ _ _ _ _ us hl => match us, hl with | [_, _], _ => rfl
  have b__law_many : L2.Binds K fd__law_many ["_law_pool_here", "_law_many_here"] [] := FunD.bindsN D__law_many fun _ _ _ _ _ _ us hl => match us, hl with | [_, _], _ => rfl
  have b__law_mixed : L2.Binds K fd__law_mixed ["_law_pool_here", "_law_things"] [] := FunD.bindsN D__law_mixed fun _ _ _ _ _ _ us hl => match us, hl with | [_, _], _ => rfl
  have b__law_net : L2.Binds K fd__law_net ["_law_pool_here", "_law_most", "_law_lanes"] [] := FunD.bindsN D__law_net fun _ _ _ _ _ _ us hl => match us, hl with | [_, _, _], _ => rfl
  have b__law_built : L2.Binds K fd__law_built ["_law_parts"] [] := FunD.bindsN D__law_built fun _ _ _ _ _ _ us hl => match us, hl with | [_], _ => rfl
  have b__law_ends : L2.Binds K fd__law_ends ["_law_parts"] [] := FunD.bindsN D__law_ends fun _ _ _ _ _ _ us hl => match us, hl with | [_], _ => rfl
  have b__law_ways : L2.Binds K fd__law_ways ["_law_parts", "_law_start"] [] := FunD.bindsN D__law_ways fun _ _ _ _ _ _ us hl => match us, hl with | [_, _], _ => rfl
  have b__law_part : L2.Binds K fd__law_part ["_law_parts", "_law_lane"] [] := FunD.bindsN D__law_part fun _ _ _ _ _ _ us hl => match us, hl with | [_, _], _ => rfl
  have b__law_wanted : L2.Binds K fd__law_wanted ["_law_pool_here", "_law_parts"] [] := FunD.bindsN D__law_wanted fun _ _ _ _ _ _ us hl => match us, hl with | [_, _], _ => rfl
  have b__law_in_part : L2.Binds K fd__law_in_part ["_law_parts", "_law_wanted_here"] [] := FunD.bindsN D__law_in_part fun _ _ _ _ _ _ us hl => match us, hl with | [_, _], _ => rfl
  have b__law_is_round : L2.Binds K fd__law_is_round ["_law_parts", "_law_lanes", "_law_wanted_here"] [] := FunD.bindsN D__law_is_round fun _ _ _ _ _ _ us hl => match us, hl with | [_, _, _], _ => rfl
  have b_m__init__ : L2.Binds K fd_m__init__ ["self"] [] := FunD.bindsN D_m__init__ fun _ _ _ _ _ _ us hl => match us, hl with | [_], _ => rfl
  have b_mpost : L2.Binds K fd_mpost ["self", "name"] [] := FunD.bindsN D_mpost fun _ _ _ _ _ _ us hl => match us, hl with | [_, _], _ => rfl
  have b_mlane : L2.Binds K fd_mlane ["self", "name", "start", "end"] [] := FunD.bindsN D_mlane fun _ _ _ _ _ _ us hl => match us, hl with | [_, _, _, _], _ => rfl
  have b_mout_of : L2.Binds K fd_mout_of ["self", "post"] [] := FunD.bindsN D_mout_of fun _ _ _ _ _ _ us hl => match us, hl with | [_, _], _ => rfl
  have b_m__len__ : L2.Binds K fd_m__len__ ["self"] [] := FunD.bindsN D_m__len__ fun _ _ _ _ _ _ us hl => match us, hl with | [_], _ => rfl
  have b_mstart_of : L2.Binds K fd_mstart_of ["self", "lane"] [] := FunD.bindsN D_mstart_of fun _ _ _ _ _ _ us hl => match us, hl with | [_, _], _ => rfl
  have b_mend_of : L2.Binds K fd_mend_of ["self", "lane"] [] := FunD.bindsN D_mend_of fun _ _ _ _ _ _ us hl => match us, hl with | [_, _], _ => rfl
  have b_m__contains__ : L2.Binds K fd_m__contains__ ["self", "x"] [] := FunD.bindsN D_m__contains__ fun _ _ _ _ _ _ us hl => match us, hl with | [_, _], _ => rfl
  have b_mcopy : L2.Binds K fd_mcopy ["self"] [] := FunD.bindsN D_mcopy fun _ _ _ _ _ _ us hl => match us, hl with | [_], _ => rfl
  have b_r__init__ : L2.Binds K fd_r__init__ ["self", "net", "wanted"] [] := FunD.bindsN D_r__init__ fun _ _ _ _ _ _ us hl => match us, hl with | [_, _, _], _ => rfl
  have b_rpart : L2.Binds K fd_rpart ["self"] [] := FunD.bindsN D_rpart fun _ _ _ _ _ _ us hl => match us, hl with | [_], _ => rfl
  have b_r__bool__ : L2.Binds K fd_r__bool__ ["self"] [] := FunD.bindsN D_r__bool__ fun _ _ _ _ _ _ us hl => match us, hl with | [_], _ => rfl
  have b_rround : L2.Binds K fd_rround ["self"] [] := FunD.bindsN D_rround fun _ _ _ _ _ _ us hl => match us, hl with | [_], _ => rfl
  have b_q__init__ : L2.Binds K fd_q__init__ ["self", "lanes"] [] := FunD.bindsN D_q__init__ fun _ _ _ _ _ _ us hl => match us, hl with | [_, _], _ => rfl
  have b_iBadName : L2.Binds K fd_iBadName ["self", "name"] [] := FunD.bindsN D_iBadName fun _ _ _ _ _ _ us hl => match us, hl with | [_, _], _ => rfl
  have b_iNameTaken : L2.Binds K fd_iNameTaken ["self", "name"] [] := FunD.bindsN D_iNameTaken fun _ _ _ _ _ _ us hl => match us, hl with | [_, _], _ => rfl
  have b_iNoPost : L2.Binds K fd_iNoPost ["self", "name"] [] := FunD.bindsN D_iNoPost fun _ _ _ _ _ _ us hl => match us, hl with | [_, _], _ => rfl
  have b_iNoLane : L2.Binds K fd_iNoLane ["self", "name"] [] := FunD.bindsN D_iNoLane fun _ _ _ _ _ _ us hl => match us, hl with | [_, _], _ => rfl
  have b_pposts : L2.Binds K fd_pposts ["self"] [] := FunD.bindsN D_pposts fun _ _ _ _ _ _ us hl => match us, hl with | [_], _ => rfl
  have b_planes : L2.Binds K fd_planes ["self"] [] := FunD.bindsN D_planes fun _ _ _ _ _ _ us hl => match us, hl with | [_], _ => rfl
  have b_pnet : L2.Binds K fd_pnet ["self"] [] := FunD.bindsN D_pnet fun _ _ _ _ _ _ us hl => match us, hl with | [_], _ => rfl
  have b_pwanted : L2.Binds K fd_pwanted ["self"] [] := FunD.bindsN D_pwanted fun _ _ _ _ _ _ us hl => match us, hl with | [_], _ => rfl
  have b_plns : L2.Binds K fd_plns ["self"] [] := FunD.bindsN D_plns fun _ _ _ _ _ _ us hl => match us, hl with | [_], _ => rfl
  refine ⟨fd_law, fun s v => b s [v] rfl, fun base _ _ => ?_⟩
  have E_BadName : Err1 P w K mg base "BadName" "name" (He.ga K "BadName") := err1_of eBadName tak (gg "BadName" (by decide)) (ok_ini1 (f := "name") D_iBadName ⟨rfl, rfl, rfl, by decide +kernel, rfl, by decide +kernel, by decide +kernel⟩ rfl (errB_ok (He.ba eBadName).1 tak).1 ((iniB_ok (He.ba eBadName).2).no "name" (by decide)) (by decide) (by decide)) b_iBadName
  have E_NameTaken : Err1 P w K mg base "NameTaken" "name" (He.ga K "NameTaken") := err1_of eNameTaken tak (gg "NameTaken" (by decide)) (ok_ini1 (f := "name") D_iNameTaken ⟨rfl, rfl, rfl, by decide +kernel, rfl, by decide +kernel, by decide +kernel⟩ rfl (errB_ok (He.ba eNameTaken).1 tak).1 ((iniB_ok (He.ba eNameTaken).2).no "name" (by decide)) (by decide) (by decide)) b_iNameTaken
  have E_NoPost : Err1 P w K mg base "NoPost" "name" (He.ga K "NoPost") := err1_of eNoPost tak (gg "NoPost" (by decide)) (ok_ini1 (f := "name") D_iNoPost ⟨rfl, rfl, rfl, by decide +kernel, rfl, by decide +kernel, by decide +kernel⟩ rfl (errB_ok (He.ba eNoPost).1 tak).1 ((iniB_ok (He.ba eNoPost).2).no "name" (by decide)) (by decide) (by decide)) b_iNoPost
  have E_NoLane : Err1 P w K mg base "NoLane" "name" (He.ga K "NoLane") := err1_of eNoLane tak (gg "NoLane" (by decide)) (ok_ini1 (f := "name") D_iNoLane ⟨rfl, rfl, rfl, by decide +kernel, rfl, by decide +kernel, by decide +kernel⟩ rfl (errB_ok (He.ba eNoLane).1 tak).1 ((iniB_ok (He.ba eNoLane).2).no "name" (by decide)) (by decide) (by decide)) b_iNoLane
  have G_isname := ok_isname (P := P) (w := w) (base := base) D_is_name (fr "isinstance" (by decide)) (fr "str" (by decide)) (fr "len" (by decide)) (fr "all" (by decide)) gL gDg gO
  have G_chkn := ok_chkn D_check_name D_is_name (gg "is_name" (by decide)) G_isname E_BadName
  have G_posts := ok_posts (P := P) (w := w) (base := base) D_pposts net.cls (net.no "_posts" (by decide)) (fr "tuple" (by decide))
  have G_lanes := ok_lanes (P := P) (w := w) (base := base) D_planes net.cls (net.no "_ends" (by decide)) (fr "tuple" (by decide))
  have G_len := ok_nlen (P := P) (w := w) (base := base) D_m__len__ net.cls (net.no "_ends" (by decide)) (fr "len" (by decide))
  have G_has := ok_has (P := P) (w := w) (base := base) D_m__contains__ net.cls (net.no "_ends" (by decide)) (fr "isinstance" (by decide)) (fr "str" (by decide))
  have G_chkp := ok_chkp D_check_posts net.cls pP b_pposts G_posts E_NoPost
  have G_chkl := ok_chkl D_check_lanes net.cls (net.me "__contains__" (by decide)) b_m__contains__ G_has E_NoLane
  have G_post := ok_post D_mpost net.cls (net.no "_posts" (by decide)) D_check_name (gg "check_name" (by decide)) G_chkn E_NameTaken
  have G_lane := ok_lane D_mlane net.cls (net.no "_ends" (by decide)) D_check_name (gg "check_name" (by decide)) G_chkn E_NameTaken D_check_posts (gg "check_posts" (by decide)) G_chkp
  have G_start := ok_start D_mstart_of net.cls (net.no "_ends" (by decide)) D_check_lanes (gg "check_lanes" (by decide)) G_chkl
  have G_end := ok_end D_mend_of net.cls (net.no "_ends" (by decide)) D_check_lanes (gg "check_lanes" (by decide)) G_chkl
  have G_out := ok_out D_mout_of net.cls (net.no "_ends" (by decide)) D_check_posts (gg "check_posts" (by decide)) G_chkp (fr "tuple" (by decide))
  have G_init := ok_nini (P := P) (w := w) (mg := mg) (base := base) D_m__init__ net.cls (net.no "_posts" (by decide)) (net.no "_ends" (by decide))
  have G_netof := ok_netof D__net_of net.cls (net.no "_posts" (by decide)) (net.no "_ends" (by decide)) M b_m__init__ G_init (gg "Net" (by decide)) (fr "dict" (by decide))
  have G_copy := ok_copy D_mcopy net.cls (net.no "_posts" (by decide)) (net.no "_ends" (by decide)) D__net_of (gg "_net_of" (by decide)) G_netof
  have N : ND P w K mg base (He.ga K "Net") (He.ga K "BadName") (He.ga K "NameTaken") (He.ga K "NoPost") (He.ga K "NoLane") :=
    { cls := net.cls
      post := ⟨_, _, _, G_post, net.me "post" (by decide), b_mpost⟩
      lane := ⟨_, _, _, G_lane, net.me "lane" (by decide), b_mlane⟩
      posts := ⟨_, _, _, _, G_posts, pP, b_pposts⟩
      lanes := ⟨_, _, _, _, G_lanes, pL, b_planes⟩
      len := ⟨_, _, _, G_len, net.me "__len__" (by decide), b_m__len__⟩
      start := ⟨_, _, _, G_start, net.me "start_of" (by decide), b_mstart_of⟩
      end_ := ⟨_, _, _, G_end, net.me "end_of" (by decide), b_mend_of⟩
      out := ⟨_, _, _, G_out, net.me "out_of" (by decide), b_mout_of⟩
      has := ⟨_, _, _, G_has, net.me "__contains__" (by decide), b_m__contains__⟩
      copy := ⟨_, _, _, G_copy, net.me "copy" (by decide), b_mcopy⟩
      new := ⟨_, _, _, G_init, M, b_m__init__, (gg "Net" (by decide))⟩ }
  have TCp : Fu P w K mg base (L2.CX P w) 3 "check_posts" (spChkP K (He.ga K "Net") (He.ga K "NoPost")) := .of (G_chkp) (gg "check_posts" (by decide)) D_check_posts.kp b_check_posts
  have TWf : Fu P w K mg base L2.CX0 5 "ways_from" (spWf (He.ga K "Net")) := .of (ok_wf D_ways_from N) (gg "ways_from" (by decide)) D_ways_from.kp b_ways_from
  have TCl : Fu P w K mg base (L2.CX P w) 3 "check_lanes" (spChkL K (He.ga K "Net") (He.ga K "NoLane")) := .of (G_chkl) (gg "check_lanes" (by decide)) D_check_lanes.kp b_check_lanes
  have TIn : Fu P w K mg base L2.CX0 5 "_inner_lanes" (spIn K (He.ga K "Net")) := .of (ok_in D__inner_lanes N (fr "tuple" (by decide))) (gg "_inner_lanes" (by decide)) D__inner_lanes.kp b__inner_lanes
  have TPa : Fu P w K mg base L2.CX0 6 "parts_of" (spPa (He.ga K "Net")) := .of (ok_pa D_parts_of N TWf TIn (fr "tuple" (by decide)) (fr "len" (by decide))) (gg "parts_of" (by decide)) D_parts_of.kp b_parts_of
  have TPw : Fu P w K mg base L2.CX0 7 "_part_with" (spPw (He.ga K "Net")) := .of (ok_pw D__part_with TPa (fr "all" (by decide))) (gg "_part_with" (by decide)) D__part_with.kp b__part_with
  have E_NothingWanted : Err0 K mg "NothingWanted" (He.ga K "NothingWanted") := by
    obtain ⟨h1, h2⟩ := He.ba em
    obtain ⟨h2, h3⟩ := He.ba h2
    obtain ⟨h3, h4⟩ := He.ba h3
    exact ⟨h1, of_decide_eq_true h2, of_decide_eq_true h3, h4, (gg "NothingWanted" (by decide))⟩
  have AD : AD P w K mg base (He.ga K "Asked") (He.ga K "Net") (He.ga K "NothingWanted") (He.ga K "NoLane") :=
    { cls := ask.cls
      new := ⟨_, _, _, ok_ai D_r__init__ ask.cls (ask.no "_net" (by decide)) (ask.no "_wanted" (by decide)) (ask.no "_part" (by decide)) N TCl TPw E_NothingWanted (fr "tuple" (by decide)) (fr "len" (by decide)), MA, b_r__init__, (gg "Asked" (by decide))⟩
      net := ⟨_, _, _, _, ok_an D_pnet ask.cls (ask.no "_net" (by decide)) N, pN, b_pnet⟩
      wanted := ⟨_, _, _, _, ok_aw D_pwanted ask.cls (ask.no "_wanted" (by decide)), pW, b_pwanted⟩
      part := ⟨_, _, _, ok_ap D_rpart ask.cls (ask.no "_part" (by decide)), ask.me "part" (by decide), b_rpart⟩
      bool := ⟨_, _, _, ok_ab D_r__bool__ ask.cls (ask.no "_part" (by decide)), ask.me "__bool__" (by decide), b_r__bool__⟩ }
  have TCe : Fu P w K mg base L2.CX0 1 "_law_cell" (spCell K) := .of (ok_cell D__law_cell (fr "len" (by decide))) (gg "_law_cell" (by decide)) D__law_cell.kp b__law_cell
  have TPo : Fu P w K mg base L2.CX0 1 "_law_pool" Vp.spPool := .of (ok_pool D__law_pool (fr "int" (by decide))) (gg "_law_pool" (by decide)) D__law_pool.kp b__law_pool
  have TT : Fu P w K mg base L2.CX0 1 "_law_take" Vp.spTake := .of (ok_take D__law_take (fr "int" (by decide))) (gg "_law_take" (by decide)) D__law_take.kp b__law_take
  have TMx : Fu P w K mg base L2.CX0 2 "_law_mixed" spMixed := .of (ok_mixed D__law_mixed D__law_take (gg "_law_take" (by decide)) (fr "int" (by decide)) (fr "len" (by decide)) (fr "range" (by decide)) (fr "list" (by decide))) (gg "_law_mixed" (by decide)) D__law_mixed.kp b__law_mixed
  have TMy : Fu P w K mg base L2.CX0 2 "_law_many" spMany := .of (ok_many D__law_many D__law_take (gg "_law_take" (by decide)) (fr "int" (by decide)) (fr "len" (by decide)) (fr "range" (by decide))) (gg "_law_many" (by decide)) D__law_many.kp b__law_many
  have TNa : Fu P w K mg base L2.CX0 2 "_law_names" Vp.spNames := .of (ok_names D__law_names D__law_take (gg "_law_take" (by decide)) (fr "int" (by decide)) (fr "len" (by decide)) (fr "range" (by decide))) (gg "_law_names" (by decide)) D__law_names.kp b__law_names
  have TNt : Fu P w K mg base L2.CX0 3 "_law_net" spNet := .of (ok_net D__law_net D__law_take D__law_names D__law_many D__law_mixed (gg "_law_take" (by decide)) (gg "_law_names" (by decide)) (gg "_law_many" (by decide)) (gg "_law_mixed" (by decide)) (fr "int" (by decide)) (fr "len" (by decide)) (fr "range" (by decide)) (fr "list" (by decide)) (fr "min" (by decide))) (gg "_law_net" (by decide)) D__law_net.kp b__law_net
  have TBu : Fu P w K mg base L2.CX0 5 "_law_built" (spBu (He.ga K "Net")) := .of (ok_bu D__law_built N) (gg "_law_built" (by decide)) D__law_built.kp b__law_built
  have TEn : Fu P w K mg base L2.CX0 1 "_law_ends" spEn := .of (ok_en D__law_ends) (gg "_law_ends" (by decide)) D__law_ends.kp b__law_ends
  have TWy : Fu P w K mg base L2.CX0 1 "_law_ways" spWy := .of (ok_wy D__law_ways (fr "len" (by decide))) (gg "_law_ways" (by decide)) D__law_ways.kp b__law_ways
  have TPt : Fu P w K mg base L2.CX0 2 "_law_part" spPt := .of (ok_pt D__law_part TEn TWy) (gg "_law_part" (by decide)) D__law_part.kp b__law_part
  have TWa : Fu P w K mg base L2.CX0 3 "_law_wanted" spWa := .of (ok_wa D__law_wanted TT TPt TMx (fr "len" (by decide)) (fr "range" (by decide))) (gg "_law_wanted" (by decide)) D__law_wanted.kp b__law_wanted
  have TIp : Fu P w K mg base L2.CX0 3 "_law_in_part" spIp := .of (ok_ip D__law_in_part TPt) (gg "_law_in_part" (by decide)) D__law_in_part.kp b__law_in_part
  have TCn : Fu P w K mg base (L2.CX P w) 3 "check_name" (spChkN (He.ga K "BadName")) := .of (G_chkn) (gg "check_name" (by decide)) D_check_name.kp b_check_name
  have TCs : Fu P w K mg base L2.CX0 4 "check_sequence" (spCs K) := .of (ok_cs D_check_sequence TCn (fr "len" (by decide))) (gg "check_sequence" (by decide)) D_check_sequence.kp b_check_sequence
  have TRo : Nw P w K mg base (He.ga K "Round") L2.CX0 5 "Round" (spRi (He.ga K "Round")) := ⟨_, _, _, ok_ri D_q__init__ rnd.cls (rnd.no "_lanes" (by decide)) TCs (fr "tuple" (by decide)), MR, b_q__init__, (gg "Round" (by decide))⟩
  have lanR : Pr P w K mg base (He.ga K "Round") 1 "lanes" (L2.getSp (He.ga K "Round") "_lanes") := ⟨_, _, _, _, ok_rl9 D_plns rnd.cls (rnd.no "_lanes" (by decide)), pR, b_plns⟩
  have TTr : Fu P w K mg base L2.CX0 1 "traced" spTr := .of (ok_tr D_traced) (gg "traced" (by decide)) D_traced.kp b_traced
  have G_wu := ok_wu (P := P) (w := w) (base := base) D_way_until TTr (fr "len" (by decide))
  have TWu : Vdf.FuD P w K mg base L2.CX0 2 "way_until" (spWu K) [.non] := by
    obtain ⟨ds, hds, hb⟩ := D_way_until.binds1 (ps := ["leads", "start", "lanes", "end"]) 3 0 (fun z => nomatch z) rfl (fun T kV doc pm an cdv ct us its hl hi => match us, its, hl, hi with | [_, _, _], [_], _, _ => ⟨_, rfl, rfl⟩)
    exact ⟨_, _, _, ds, G_wu, (gg "way_until" (by decide)), D_way_until.kp, hb, hds⟩
  have TW4 : Fu P w K mg base L2.CX0 2 "way_until" (spWu K) := by
    obtain ⟨ds, hds, hb⟩ := D_way_until.binds1 (ps := ["leads", "start", "lanes", "end"]) 4 1 (fun z => nomatch z) rfl (fun T kV doc pm an cdv ct us its hl hi => match us, its, hl, hi with | [_, _, _, _], [_], _, _ => ⟨_, rfl, rfl⟩)
    cases hds
    exact .of G_wu (gg "way_until" (by decide)) D_way_until.kp hb
  have TWt : Fu P w K mg base L2.CX0 3 "way_taking" (spWt K) := .of (ok_wt D_way_taking TWu TW4 (fr "len" (by decide)) (fr "list" (by decide))) (gg "way_taking" (by decide)) D_way_taking.kp b_way_taking
  have TGp : Fu P w K mg base L2.CX0 5 "graph_of_part" (spGp (He.ga K "Net")) := .of (ok_gp D_graph_of_part N) (gg "graph_of_part" (by decide)) D_graph_of_part.kp b_graph_of_part
  have TRw : Fu P w K mg base L2.CX0 7 "_round_with" (spRw (He.ga K "Asked") (He.ga K "Net") (He.ga K "Round")) := .of (ok_rw D__round_with N AD TGp TWt TRo (fr "len" (by decide))) (gg "_round_with" (by decide)) D__round_with.kp b__round_with
  have TRd : Mo P w K mg base (He.ga K "Asked") L2.CX0 8 "round" (spRd (He.ga K "Asked") (He.ga K "Net") (He.ga K "Round")) := ⟨_, _, _, ok_ar D_rround TRw, ask.me "round" (by decide), b_rround⟩
  have TFt : Fu P w K mg base L2.CX0 6 "fits" (spFt K (He.ga K "Net") (He.ga K "Round")) := .of (ok_ft D_fits N rnd.cls lanR (fr "all" (by decide)) (fr "len" (by decide)) (fr "range" (by decide))) (gg "fits" (by decide)) D_fits.kp b_fits
  have TIr : Fu P w K mg base L2.CX0 2 "_law_is_round" spIr := .of (ok_ir D__law_is_round TEn (fr "len" (by decide)) (fr "enumerate" (by decide))) (gg "_law_is_round" (by decide)) D__law_is_round.kp b__law_is_round
  exact ok_law D_law N AD TRd rnd.cls insR lanR (gg "Round" (by decide)) TCe TPo TNt TBu TWa TIp TIr TFt (fr "range" (by decide)) (fr "list" (by decide)) (fr "bool" (by decide)) (fr "isinstance" (by decide))
end K17
open PySem PySem.W PySem.Calls PyProof.Rows
theorem PySem.Challenge.cw_alsoshown_k17_rounds_told_holds : PySem.Challenge.rw_alsoshown_k17_rounds_told.Holds := by
  w_on; o_law
  refine HandSHeadRun.head_any (r := OpenLaw.row PySem.Challenge.rw_alsoshown_k17_rounds_told) (q := view (OpenLaw.row PySem.Challenge.rw_alsoshown_k17_rounds_told).prog [105]) (H := K17.hk) (ob := K17.ob) (M := 20000) (loose := K17.loose)
    (d := HandSHeadRun.topDef (OpenLaw.row PySem.Challenge.rw_alsoshown_k17_rounds_told).prog 105) (kwd := []) K17.ob_eq
    (by kernel_rfl) (fun s => by kernel_rfl) K17.run (by kernel_rfl) (by kernel_rfl) (by kernel_rfl) (by rfl) (by first | assumption | decide +kernel) (by decide +kernel) ⟨rfl, rfl, rfl, rfl, rfl, by decide +kernel⟩ ?hw ?hc
  case hw => w_witness2
  case hc =>
    refine L2.walk_ofE (l := PySem.Challenge.rw_alsoshown_k17_rounds_told) (n := 63) (k := 12) (x := "_law_script") (CX := L2.CX0) rfl (by decide) (by kernel_rfl) ⟨rfl, by decide, by decide⟩ ?F (fun _ _ _ _ z => z)
    intro w mg fa h Y G hmg0
    obtain ⟨K, KX, c⟩ := Y
    have hmg : mg ("law" : PySem.Str) = some (.ref fa) := by
      have e : (HandSHeadRun.topDef (OpenLaw.row PySem.Challenge.rw_alsoshown_k17_rounds_told).prog 105).name = ("law" : PySem.Str) := by kernel_rfl
      rw [← e]
      exact hmg0
    obtain ⟨fd, hb, hF⟩ := K17.facts_ok (P := (PySem.Challenge.rw_alsoshown_k17_rounds_told).prog) (w := w) KX G hmg c
    exact ⟨K, fd, K17.spLaw K, KX, hb, fun H a ns hl _ hS => ⟨a, ns, rfl, hS, fun _ => rfl⟩, hF⟩
#print axioms PySem.Challenge.cw_alsoshown_k17_rounds_told_holds
