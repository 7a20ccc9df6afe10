import PyProof.Rows.All
import Wide.All
import OpenK.AllK
import Wide.FinOn
import HandS.ForMost
import HandS.ForExc
import HandS.ExcInit
import HandS.IsInst
import HandS.ExcField
import HandS.HeadHook1
import KE.KExcIs
import KE.KStateDown
import KE.KIsAll
import Lean
import HandS.Defaults
import HandS.Head0
import HandS.Head1
import HandS.Head2
import HandS.HeadEnd
import HandS.HeadHook2
import HandS.EndBits
import HandS.Wide
import HandS.Evl
import PyProof.Rows.ReprOcc
import HandS.LawCells
import HandS.Property
import HandS.CallSlots
import HandS.TupAny
import KE.KOpsOwn
import PyProof.InstNe
import KE.LtData
import KE.DataCmp
import PyProof.EqAt
import PyProof.EqKinds
import PyProof.TupleCall
import HandS.Base
import HandS.Call
import HandS.Exc
import HandS.ExcOwn
import HandS.Walk
import HandS.More
import HandS.Codes
import HandS.RevTup
import KE.KDictList
import PyProof.TupleOps
import HandS.Steps
import HandS.Dict
import HandS.Small
import HandS.WordsDict
import KE.GoesEnum
import HandS.Iter
import HandS.Style
import HandS.Text
import HandS.List
import HandS.Set
import HandS.SetFor
import HandS.Strs
import HandS.RaiseMore
import HandS.NoneIn
import HandS.TupMul
import HandS.OwnEq
import PySem.Challenge.RW_alsoshown_k58_windows_and_texts
set_option Elab.async false
set_option linter.all false
set_option maxRecDepth 100000
set_option maxHeartbeats 2000000
/-! Exceptions of the program as values: made by a call, kept, read, asked for their class. -/
namespace Vx
open PySem PySem.Spec PyProof.Rows L2
section
variable {X : Cx} {C fI : Addr} {k : Nat} {fd : FuncData} {ps : List Str}
variable {sp : Sp} {e : Expr} {es : List Expr} {ta : TA} {te : TE} {x f : Str}
variable {p pos : Pos}
/-- C(e, ..) for a value: the exception stays tracked -/
def tMkV (C : Addr) (sp : Sp) (ta : TA) : TE := fun st H Q =>
  ta st H fun vs H1 => vs.length ≤ 1000 ∧ ∀ a, H1 a = none →
    sp (.ref a :: vs) (upd H1 a (exo a C none))
      (fun v H2 => v = .non ∧ Q (.ref a) H2) (fun _ _ _ => False)
theorem pe_mkV (T : OexC X.K C)
    (iC : PySem.W.findIn X.K (.ref C) "__init__" = some (some (.ref fI)))
    (tI : PySem.W.typeIn X.K (.ref fI) = some (.type "function"))
    (F1 : FnOk X.prog X.w X.K X.mg X.base CX0 k fI fd ps sp)
    (hr : Room (k + 1) X.A) (hb : Binds X.K fd ps []) (hg : Gl X x)
    (hm : X.mg x = some (.ref C)) (ha : PA X (e :: es) ta)
    (hdb : (x == ("__debug__" : Str)) = false := by decide)
    (he : starEach (e :: es) X.env = (false, eval e X.env) :: starEach es X.env := by rfl)
    (hpl : (backTo pos (starEach es X.env)).any (·.1) = false := by rfl) :
    PE X (.Call (.Name x p) (e :: es) [] pos) (tMkV C sp ta) := by
  refine ⟨fun pins s σ H Q I h => ?_⟩
  obtain ⟨nm, q, N, bs, bm, sn, sub, ab, col, dd, k0, k1, k2, k3, k5, hC, hbm⟩ := T.cls
  refine wpAny_Call_Name_kw (ld_glob I hg hm ?_ hdb)
  refine PySem.W.callWith_K (h₀ := X.base) I.ok.mod.kin T.kC ?_ he hpl
  refine thn (ha.run pos pins s σ H _ I h) ?_
  rintro us s1 ⟨vs, H1, I1, r1, hz, q1⟩
  refine ⟨I1.kIn, ?_⟩
  show wpAny _ _ (call (.ref C) us) _ _ _
  obtain ⟨hp, g, dr, tk, os⟩ := s1
  let h2 : Heap := (hp.push (PySem.W.kdv_tup us)).push (PySem.HandSPX.excO C hp.objs.size)
  have hsz : hp.objs.size ≤ hp.objs.size + 1 := Nat.le_succ _
  have hn : H1 (hp.objs.size + 1) = none := I1.hok.fresh hsz
  have hq := q1 (hp.objs.size + 1) hn
  have kk : ∀ b o, hp.get? b = some o → h2.get? b = some o := by
    intro b o eb
    exact Heap.get?_push_of_some _ (Heap.get?_push_of_some _ eb)
  have hget : h2.get? (hp.objs.size + 1) = some (PySem.HandSPX.excO C hp.objs.size) := by
    show ((hp.push _).push _).get? _ = _
    heap_get
  have I2 : Inv X pins σ (upd H1 (hp.objs.size + 1) (exo (hp.objs.size + 1) C none)) ⟨h2, g, dr, tk, os⟩ :=
    Inv.laid (s := ⟨hp, g, dr, tk, os⟩) (t' := tk) I1 kk hsz (exo_ok hget)
  have r2 : Vals (V.ref (hp.objs.size + 1) :: vs) (Value.ref (hp.objs.size + 1) :: us) := .cons rfl r1
  have hl : (Value.ref (hp.objs.size + 1) :: us ++ []).length = ps.length := by
    have e1 := r2.length
    rw [F1.len _ _ _ _ hq] at e1
    rw [List.append_nil]
    exact e1.symm
  have hus : us.length ≤ sizeLine := by
    have e1 := Paired.length r1
    rw [sizeLine_eq]
    omega
  have hbb := hb ⟨h2, g, dr, tk, os⟩ (Value.ref (hp.objs.size + 1) :: us) I2.kIn hl
  rw [List.append_nil] at hbb
  have run := F1.run (X.A.under (.builtin "type.__call__" ⟨.ref C :: us, []⟩)) X.stack
    ⟨h2, g, dr, tk, os⟩ _ ⟨Value.ref (hp.objs.size + 1) :: us, []⟩
    (Value.ref (hp.objs.size + 1) :: us) _ _ (fun _ _ _ => False)
    (hr.make C us []) (I2.env0.make C us []) hbb r2 hq
  refine wpAny_call ?_
  refine PySem.HandSPX.call_own F.excBase_ValueError
    (fun Y => PySem.HandSPX.refsVE_contains Y bm hbm) (I1.kIn _ _ hC)
    (PySem.W.looks_findIn I1.kIn iC) (fun self => PySem.W.bind_fn I1.kIn self tI) hus ?_
  refine codeAny_mono run ?_
  intro r s' hq'
  cases r with
  | error er => exact (hq' : False).elim
  | ok fl =>
    cases fl with
    | ret u =>
      obtain ⟨v, H2, os2, bare2, un2, hok2, rv, ev, q2⟩ := hq'
      subst ev
      have J := I2.call' (ch := []) os2 un2 hok2 bare2 (fun b z => absurd z (by simp))
      exact ⟨rv, .ref (hp.objs.size + 1), H2, J, rfl, q2⟩
    | next => exact False.elim hq'
    | brk => exact False.elim hq'
    | cont => exact False.elim hq'
/-- C() for a value, C without an own __init__ -/
def tMkP (C : Addr) : TE := fun _ H Q => ∀ a, H a = none → Q (.ref a) (upd H a (exo a C none))
theorem pe_mkP (q : PySem.W.excIn X.K C He.veBase "ValueError.__new__" = true)
    (gC : X.mg x = some (.ref C)) (kC : PySem.W.keepIn X.K (.ref C) = true) (hg : Gl X x)
    (hdb : (x == ("__debug__" : Str)) = false := by decide) :
    PE X (.Call (.Name x p) [] [] pos) (tMkP C) := by
  refine ⟨fun pins s σ H Q I h => ?_⟩
  refine wpAny_Call_Name_kw (ld_glob I hg gC ?_ hdb)
  refine PySem.W.callWith_K0 I.kIn kC ?_
  obtain ⟨bm, N, nm, qn, bs, hdct, sn, sub, ab, col, dd, k0, k1, k2, k3, k5, mN, hC, hN, hni, T⟩ := exc_obj I.kIn q
  obtain ⟨hp, g, dr, tk, os⟩ := s
  refine wpAny_call_exc_subT PySem.F.excBase_ValueError T hC hN hni (fun h' a hm => ?_) (by show 0 ≤ sizeLine; omega)
  have hn : H a = none := I.hok.gone hm.new
  obtain ⟨t, ht, _, _⟩ := hm.there
  refine ⟨.ref a, upd H a (exo a C none), ?_, rfl, h a hn⟩
  have un : Un X.fs [] H (upd H a (exo a C none)) hp h' := {
    keep := fun b u y _ _ _ => hm.keeps b u y
    slot := fun b u y _ _ _ => ⟨u.slots, hm.keeps b u y⟩
    free := fun b u y n _ => by
      rw [upd_ne (fun z => by rw [z, hm.new] at y; cases y)]
      exact n
    there := fun b u y _ => ⟨u, hm.keeps b u y⟩
    tups := fun b xs y => by rw [upd_ne (ne_of_none y hn)]; exact y
    frzs := fun b u xs y => by rw [upd_ne (ne_of_none y hn)]; exact y
    tbls := fun b ps y => ⟨#[], by rw [upd_ne (ne_of_none y hn), y]; simp⟩ }
  refine I.un (t' := tk) un ?_
  intro b u e
  by_cases hb : b = a
  · subst hb
    rw [upd_same] at e
    cases e
    exact exo_ok ht
  · rw [upd_ne hb] at e
    refine (I.hok b u e).stay (fun c v _ y => hm.keeps c v y) (fun c y => ?_) (fun c xs y => ?_)
    · rw [upd_ne (ne_of_none y hn)]; exact y
    · rw [upd_ne (ne_of_none y hn)]; exact y
/-- e.f, e an exception that is kept -/
def tXv (K : PySem.W.Frag) (f : Str) (te : TE) : TE := fun st H Q => te st H fun x H1 =>
  ∃ (a C d : Addr) (fs : List (Str × V)) (v : V), x = .ref a ∧ XfC K C ∧
    PySem.W.findIn K (.ref C) f = some none ∧ H1 a = some (exo a C (some d)) ∧
    H1 d = some (exd d fs) ∧ fs.lookup f = some v ∧ Q v H1
theorem inst_of {P : Program} {w : World} {H : Hp} {h : Heap} {a C : Addr}
    (hok : HOk P w H h) (e : H a = some (exo a C none)) :
    ∃ ob, PySem.W.InstAt h a ob C none := by
  obtain ⟨t1, ho⟩ := exo_at hok e
  exact ⟨_, ho, rfl, rfl, trivial⟩
theorem inst_of2 {P : Program} {w : World} {H : Hp} {h : Heap} {a C d : Addr} {fs : List (Str × V)}
    (hok : HOk P w H h) (e : H a = some (exo a C (some d))) (ed : H d = some (exd d fs)) :
    ∃ ob od, PySem.W.InstAt h a ob C (some od) ∧ h.get? d = some od := by
  obtain ⟨t1, ho⟩ := exo_at hok e
  obtain ⟨mA, hns, rel⟩ := exd_at hok ed
  obtain ⟨od, es, ep, hd, hr⟩ := hns
  exact ⟨_, od, ⟨ho, rfl, rfl, hd⟩, hd⟩
theorem pe_xv (he : PE X e te)
    (hb : attributeBase e f X.env (eval e X.env) = eval e X.env := by rfl) :
    PE X (.Attribute e f pos) (tXv X.K f te) := by
  refine ⟨fun pins s σ H Q I h => ?_⟩
  refine attr_of hb (thn (he.run pins s σ H _ I h) fun u s1 hh => ?_)
  obtain ⟨y, H1, I1, rx, a, C, d, fs, v, ex, T, hno, ea, ed, l, q⟩ := hh
  subst ex
  obtain rfl : u = Value.ref a := rx
  obtain ⟨t1, ho⟩ := exo_at I1.hok ea
  obtain ⟨mA, hns, rel⟩ := exd_at I1.hok ed
  obtain ⟨od, hd, hl⟩ := lookIn_ns hns
  have e1 : RelO (some v) (mA f) := by
    rw [← l]
    exact rel f
  obtain ⟨u2, hu, ru⟩ := RelO.some_of e1
  have J : PySem.W.InstAt s1.heap a _ C (some od) := ⟨ho, rfl, rfl, hd⟩
  exact HandSPX.exc_get I1.kIn J T.ga T.gg T.exC (PySem.W.findObj_own T.hdC hno rfl (by rw [hl, hu])) (handed_of ru) ⟨v, H1, I1.tok _, ru, q⟩
/-- what a class of errors must say so that isinstance is answered -/
structure IsC (K : PySem.W.Frag) (C : Addr) : Prop where
  hc : (PySem.W.clsIn K C).isSome = true
  hg : PySem.W.findIn K (.ref C) "__getattribute__" = some (some (.builtin "BaseException.__getattribute__"))
  hk : PySem.W.findIn K (.ref C) "__getattr__" = some none
  hs : PySem.W.subIn K (.ref C) (.type "BaseException") = some true
  ha : PySem.W.findIn K (.ref C) "__class__" = some (some (.builtin "object.__class__"))
  hn : PySem.W.specialIn K (.builtin "object.__class__") "__get__" = some (some (.builtin "getset_descriptor.__get__"))
  ht : PySem.W.takesIn K (.builtin "object.__class__") = some true
  hm : PySem.W.mroIn K C (.type "object") = some true
/-- at a stands an exception of the class at C -/
def ExAt (H : Hp) (a C : Addr) : Prop :=
  H a = some (exo a C none) ∨ ∃ d fs, H a = some (exo a C (some d)) ∧ H d = some (exd d fs)
def rIsV (K : PySem.W.Frag) : List V → Hp → VK → Prop := fun xs H Q =>
  ∃ (a C : Addr) (c : V) (cv : Value) (b : Bool), xs = [.ref a, c] ∧ (∀ u, RelV c u → u = cv) ∧
    ExAt H a C ∧ IsC K C ∧ PySem.W.kitOne K (.ref C) cv = some b ∧ Q (.bl b) H
theorem call_isV : CallR X (.builtin "isinstance") (rIsV X.K) := by
  intro pins s σ H xs us Q I r h
  obtain ⟨a, C, c, cv, b, rfl, hcv, ex, T, e1, q⟩ := h
  obtain ⟨u1, u2, rfl, r1, r2⟩ := vals2 r
  obtain rfl := hcv _ r2
  obtain rfl : u1 = Value.ref a := r1
  have done : ∀ tk, EP X pins σ Q (.bool b) { s with toks := tk } := fun tk => ⟨.bl b, H, I.tok tk, rfl, q⟩
  rcases ex with ex | ⟨d, fs, ex, ed⟩
  · obtain ⟨ob, J⟩ := inst_of I.hok ex
    exact PySem.W.kia_one (PySem.W.kitx_exc T.hc T.hg T.hk T.hs T.ha T.hn T.ht T.hm) I.kIn J e1 (fun z => nomatch z) done
  · obtain ⟨ob, od, J, _⟩ := inst_of2 I.hok ex ed
    exact PySem.W.kia_one (PySem.W.kitx_exc T.hc T.hg T.hk T.hs T.ha T.hn T.ht T.hm) I.kIn J e1 (fun z => nomatch z) done
end
end Vx

set_option Elab.async false
set_option linter.all false
set_option maxRecDepth 100000
set_option maxHeartbeats 2000000
/-! The head: facts by one Bool of the written part, defs by data. -/
namespace Vh
open PySem PySem.Spec PyProof.Rows L2
abbrev Fg := PySem.W.Frag
def obsB (f : Fg → Bool) (fn : List He.DefD) (K : Fg) : He.AlD :=
  (f K && fn.all fun d => d.ok K, fn.map fun d => He.fnW K d.at_)
def SaysB (f : Fg → Bool) (fn : List He.DefD) (K : Fg) : Prop := obsB f fn K = He.valD fn
def obsBG (n : Nat) (f : Fg → Bool) (fn : List He.DefD) (g : Addr → Option Obj) : He.AlD :=
  obsB f fn (He.frG g (He.asD g n))
def hookB (n : Nat) (f : Fg → Bool) (fn : List He.DefD) : PySem.W.Hook where
  α := He.AlD
  obs := fun s => obsBG n f fn s.heap.get?
  val := fun _ => He.valD fn
  says := fun _ h => ∃ K : Fg, K.In h ∧ SaysB f fn K
  of := fun _ _ e => ⟨_, He.frG_in, e⟩
  keeps := fun _ _ _ ⟨K, hK, c⟩ k => ⟨K, PySem.W.Frag.In.keeps hK k, c⟩
theorem obsBG_eq {n : Nat} {f : Fg → Bool} {fn : List He.DefD} {g : Addr → Option Obj} {s : Shared}
    (h : ∀ a, g a = s.heap.get? a) : obsBG n f fn g = (hookB n f fn).obs s := by
  have e : g = s.heap.get? := funext h
  rw [e] <;> rfl
section
variable {f : Fg → Bool} {fn : List He.DefD} {K : Fg}
theorem SaysB.fact (c : SaysB f fn K) : f K = true :=
  (He.ba (show (f K && fn.all fun d => d.ok K) = true from congrArg (fun z : He.AlD => z.1) c)).1
theorem SaysB.def_ (c : SaysB f fn K) (i : Nat) {d : He.DefD} (h : fn[i]? = some d := by rfl) :
    ∃ fd, FunD K d.name d.qual d.params d.body d.scope (d.dvs K) (d.kws K) (He.fAd K d.at_) fd := by
  have c2 := (He.ba (show (f K && fn.all fun d => d.ok K) = true from congrArg (fun z : He.AlD => z.1) c)).2
  have e : fn.map (fun d => He.fnW K d.at_) = fn.map He.DefD.val := congrArg (fun z : He.AlD => z.2) c
  have e2 : (fn.map fun d => He.fnW K d.at_)[i]? = (fn.map He.DefD.val)[i]? := by rw [e]
  rw [List.getElem?_map, List.getElem?_map, h] at e2
  exact He.DefD.funD (Option.some.inj e2) (List.all_eq_true.mp c2 d (List.mem_of_getElem? h))
end
/-- a def of the top, a method of a class of the top -/
def gD (st : Stmt) (x : Str) : He.DefD := ⟨(x, none), x, x, defArgs st, defBody st, defScope st, [], []⟩
def mD (st : Stmt) (c m q : Str) : He.DefD := ⟨(c, some m), m, q, defArgs st, defBody st, defScope st, [], []⟩
/-! the errors' classes -/
def headB (K : Fg) (C : Addr) (bm : List Value) (sl : List (Option Value)) (cd : ClassData) : Bool :=
  match sl with
  | [_, _, _, _, some (.builtin n), _] =>
    n == "ValueError.__new__" && (!cd.hasDel && (cd.hasDict && PySem.HandSPX.refsVE bm))
  | _ => false
def oexB (K : Fg) (C : Addr) : Bool :=
  match K.lookup C with
  | some ⟨.type "type", _, .cls cd, sl⟩ => (match cd.mro with
    | .ref D :: bm => D == C && headB K C bm sl.toList cd
    | _ => false)
  | _ => false
theorem oexB_ok {K : Fg} {C : Addr} (h : oexB K C = true) :
    ∃ nm q N bs bm sn sub ab col dd k0 k1 k2 k3 k5,
      K.lookup C = some (excClassObj nm q C N bs bm true sn sub ab col dd k0 k1 k2 k3 k5 "ValueError.__new__") ∧
        PySem.HandSPX.refsVE bm = true := by
  unfold oexB at h
  split at h
  · rename_i dd cd sl ho
    split at h
    · rename_i D bm hm
      obtain ⟨h1, h2⟩ := He.ba h
      unfold headB at h2
      split at h2
      · rename_i k0 k1 k2 k3 n k5 hs
        simp only [Bool.and_eq_true, beq_iff_eq, Bool.not_eq_true'] at h1 h2
        obtain ⟨h3, h4, h5, h6⟩ := h2
        subst h1 h3
        obtain ⟨nm, bs, mro, ns, qn, hd, sn, sub, ab, col, del⟩ := cd
        dsimp only at hm h4 h5
        subst hm h4 h5
        obtain ⟨l⟩ := sl
        dsimp only at hs
        subst hs
        exact ⟨nm, qn, ns, bs, bm, sn, sub, ab, col, dd, k0, k1, k2, k3, k5, ho, h6⟩
      · cases h2
    · cases h
  · cases h
/-- all that is asked of a class of errors -/
def errB (K : Fg) (C : Addr) : Bool :=
  oexB K C && (He.eqO (PySem.W.findIn K (.ref C) "__setattr__") (some (some (.builtin "object.__setattr__"))) &&
   (decide (PySem.W.subIn K (.ref C) (.type "BaseException") = some true) &&
   (decide (PySem.W.typeIn K (.ref C) = some (.type "type")) && (PySem.W.keepIn K (.ref C) && (xfB K C &&
   (He.eqO (PySem.W.findIn K (.ref C) "__class__") (some (some (.builtin "object.__class__"))) &&
    decide (PySem.W.mroIn K C (.type "object") = some true)))))))
def takB (K : Fg) : Bool :=
  He.eqO (PySem.W.specialIn K (.builtin "object.__class__") "__get__") (some (some (.builtin "getset_descriptor.__get__"))) &&
    decide (PySem.W.takesIn K (.builtin "object.__class__") = some true)
theorem errB_ok {K : Fg} {C : Addr} (h : errB K C = true) (hk : takB K = true) : OexC K C ∧ XfC K C ∧ Vx.IsC K C := by
  obtain ⟨h1, h⟩ := He.ba h
  obtain ⟨h2, h⟩ := He.ba h
  obtain ⟨h3, h⟩ := He.ba h
  obtain ⟨h4, h⟩ := He.ba h
  obtain ⟨h5, h⟩ := He.ba h
  obtain ⟨h6, h⟩ := He.ba h
  obtain ⟨h7, h8⟩ := He.ba h
  obtain ⟨k1, k2⟩ := He.ba hk
  have X := xfB_ok h6
  have c := oexB_ok h1
  refine ⟨⟨c, He.eqO_ok h2, of_decide_eq_true h3, of_decide_eq_true h4, h5⟩, X, ?_⟩
  refine ⟨?_, X.ga, X.gg, X.exC, He.eqO_ok h7, He.eqO_ok k1, of_decide_eq_true k2, of_decide_eq_true h8⟩
  obtain ⟨nm, q, N, bs, bm, sn, sub, ab, col, dd, k0, k1, k2, k3, k5, hC, hbm⟩ := c
  unfold PySem.W.clsIn
  rw [hC]
  rfl
/-- its own __init__ at f1, no field named f in the class -/
def iniB (K : Fg) (C : Addr) (fs : List Str) : Bool :=
  He.eqO (PySem.W.findIn K (.ref C) "__init__") (some (some (.ref (He.ma K C "__init__")))) &&
  (decide (PySem.W.typeIn K (.ref (He.ma K C "__init__")) = some (.type "function")) &&
   fs.all fun f => He.eqO (PySem.W.findIn K (.ref C) f) (some none))
structure Ini (K : Fg) (C : Addr) (fs : List Str) : Prop where
  iC : PySem.W.findIn K (.ref C) "__init__" = some (some (.ref (He.ma K C "__init__")))
  tI : PySem.W.typeIn K (.ref (He.ma K C "__init__")) = some (.type "function")
  no : ∀ f ∈ fs, PySem.W.findIn K (.ref C) f = some none
theorem iniB_ok {K : Fg} {C : Addr} {fs : List Str} (h : iniB K C fs = true) : Ini K C fs := by
  obtain ⟨h1, h⟩ := He.ba h
  obtain ⟨h2, h3⟩ := He.ba h
  exact ⟨He.eqO_ok h1, of_decide_eq_true h2, fun f hf => He.eqO_ok (List.all_eq_true.mp h3 f hf)⟩
end Vh

set_option Elab.async false
set_option linter.all false
set_option maxRecDepth 100000
set_option maxHeartbeats 2000000
/-! The head, with the getters of properties. -/
namespace Vh
open PySem PySem.Spec PyProof.Rows L2
/-- the getter of the property f of the class named c -/
def pgA (K : Fg) (c f : Str) : Addr := match PySem.W.recIn K (He.ma K (He.ga K c) f) "property" with
  | some (.ref g :: _) => g
  | _ => 0
def fnX (K : Fg) (a : Addr) : He.FnW := match K.lookup a with
  | some ⟨_, _, .func x, _⟩ => some (x.name, x.qualname, x.params, x.body, x.scope, x.globals, x.closure, x.builtins)
  | _ => none
def okX (K : Fg) (a : Addr) (q : Str) : Bool := PySem.W.keepIn K (.ref a) && (match K.lookup a with
  | some ⟨_, _, .func x, _⟩ => PySem.W.codeIn K x.code q && (He.dflB K x.defaults [] && He.kwdB K x.kwdefaults [])
  | _ => false)
theorem funX {K : Fg} {a : Addr} {d : He.DefD} (e : fnX K a = d.val) (c : okX K a d.qual = true) : ∃ fd, FunD K d.name d.qual d.params d.body d.scope [] [] a fd := by
  obtain ⟨kp, c2⟩ := He.ba c
  unfold fnX at e
  cases q : K.lookup a with
  | none =>
    rw [q] at c2
    cases c2
  | some o =>
    obtain ⟨w1, w2, w3, w4⟩ := o
    rw [q] at c2 e
    cases w3 with
    | func x =>
      obtain ⟨n1, n2, n3, n4, n5, n6, n7, n8, n9, n10, n11, n12, n13, n14, n15⟩ := x
      have e3 : (some (n1, n2, n3, n4, n5, n6, n7, n15) : He.FnW) = some (d.name, d.qual, d.params, .stmts d.body, d.scope, mainGlobals, [], builtinsNs) := e
      injection e3 with e3
      injection e3 with h1 e3
      injection e3 with h2 e3
      injection e3 with h3 e3
      injection e3 with h4 e3
      injection e3 with h5 e3
      injection e3 with h6 e3
      injection e3 with h7 h8
      subst h1 h2 h3 h4 h5 h6 h7 h8
      have c4 : (PySem.W.codeIn K n13 d.qual && (He.dflB K n8 [] && He.kwdB K n9 [])) = true := c2
      obtain ⟨g1, g2⟩ := He.ba c4
      obtain ⟨g3, g4⟩ := He.ba g2
      exact ⟨_, ⟨w1, w2, n8, n9, n10, n11, n12, n13, n14, w4, rfl, q, g1, He.dflB_ok g3, He.kwdB_ok g4⟩, kp⟩
    | _ => cases c2
abbrev PrD : Type := (Str × Str) × He.DefD
def obsP (f : Fg → Bool) (fn : List He.DefD) (pr : List PrD) (K : Fg) : He.AlD :=
  (f K && (fn.all (fun d => d.ok K) && pr.all fun q => okX K (pgA K q.1.1 q.1.2) q.2.qual), fn.map (fun d => He.fnW K d.at_) ++ pr.map fun q => fnX K (pgA K q.1.1 q.1.2))
def valP (fn : List He.DefD) (pr : List PrD) : He.AlD := (true, fn.map He.DefD.val ++ pr.map fun q => q.2.val)
def SaysP (f : Fg → Bool) (fn : List He.DefD) (pr : List PrD) (K : Fg) : Prop := obsP f fn pr K = valP fn pr
def obsPG (n : Nat) (f : Fg → Bool) (fn : List He.DefD) (pr : List PrD) (g : Addr → Option Obj) : He.AlD :=
  obsP f fn pr (He.frG g (He.asD g n))
def hookP (n : Nat) (f : Fg → Bool) (fn : List He.DefD) (pr : List PrD) : PySem.W.Hook where
  α := He.AlD
  obs := fun t => obsPG n f fn pr t.heap.get?
  val := fun _ => valP fn pr
  says := fun _ h => ∃ K : Fg, K.In h ∧ SaysP f fn pr K
  of := fun _ _ e => ⟨_, He.frG_in, e⟩
  keeps := fun _ _ _ ⟨K, hK, c⟩ k => ⟨K, PySem.W.Frag.In.keeps hK k, c⟩
theorem obsPG_eq {n : Nat} {f : Fg → Bool} {fn : List He.DefD} {pr : List PrD} {g : Addr → Option Obj} {t : Shared}
    (h : ∀ a, g a = t.heap.get? a) : obsPG n f fn pr g = (hookP n f fn pr).obs t := by
  have e : g = t.heap.get? := funext h
  rw [e] <;> rfl
section
variable {f : Fg → Bool} {fn : List He.DefD} {pr : List PrD} {K : Fg}
theorem SaysP.one (c : SaysP f fn pr K) : f K = true ∧ (∀ d ∈ fn, d.ok K = true) ∧ ∀ q ∈ pr, okX K (pgA K q.1.1 q.1.2) q.2.qual = true := by
  obtain ⟨h1, h2⟩ := He.ba (show (f K && (fn.all (fun d => d.ok K) && pr.all fun q => okX K (pgA K q.1.1 q.1.2) q.2.qual)) = true from congrArg (fun z : He.AlD => z.1) c)
  obtain ⟨h3, h4⟩ := He.ba h2
  exact ⟨h1, List.all_eq_true.mp h3, List.all_eq_true.mp h4⟩
theorem SaysP.two (c : SaysP f fn pr K) : fn.map (fun d => He.fnW K d.at_) = fn.map He.DefD.val ∧ pr.map (fun q => fnX K (pgA K q.1.1 q.1.2)) = pr.map fun q => q.2.val := by
  have e : fn.map (fun d => He.fnW K d.at_) ++ pr.map (fun q => fnX K (pgA K q.1.1 q.1.2)) = fn.map He.DefD.val ++ pr.map fun q => q.2.val := congrArg (fun z : He.AlD => z.2) c
  exact List.append_inj e (by rw [List.length_map, List.length_map])
theorem SaysP.def_ (c : SaysP f fn pr K) (i : Nat) {d : He.DefD} (h : fn[i]? = some d := by rfl) :
    ∃ fd, FunD K d.name d.qual d.params d.body d.scope (d.dvs K) (d.kws K) (He.fAd K d.at_) fd := by
  have e2 : (fn.map fun d => He.fnW K d.at_)[i]? = (fn.map He.DefD.val)[i]? := by rw [c.two.1]
  rw [List.getElem?_map, List.getElem?_map, h] at e2
  exact He.DefD.funD (Option.some.inj e2) (c.one.2.1 d (List.mem_of_getElem? h))
theorem SaysP.prp (c : SaysP f fn pr K) (i : Nat) {q : PrD} (h : pr[i]? = some q := by rfl) :
    ∃ fd, FunD K q.2.name q.2.qual q.2.params q.2.body q.2.scope [] [] (pgA K q.1.1 q.1.2) fd := by
  have e2 : (pr.map fun q => fnX K (pgA K q.1.1 q.1.2))[i]? = (pr.map fun q => q.2.val)[i]? := by rw [c.two.2]
  rw [List.getElem?_map, List.getElem?_map, h] at e2
  exact funX (Option.some.inj e2) (c.one.2.2 q (List.mem_of_getElem? h))
end
end Vh

set_option Elab.async false
set_option linter.all false
set_option maxRecDepth 100000
set_option maxHeartbeats 2000000
namespace Vl
open PySem PySem.Spec PyProof.Rows L2
theorem pe_weak {X : Cx} {e : Expr} {t t' : TE} (h : PE X e t) (w : ∀ s H Q, t' s H Q → t s H Q) : PE X e t' :=
  ⟨fun pins s σ H Q I q => h.run pins s σ H Q I (w σ H Q q)⟩
theorem pa_weak {X : Cx} {es : List Expr} {t t' : TA} (h : PA X es t) (w : ∀ s H Q, t' s H Q → t s H Q) : PA X es t' :=
  ⟨fun pos pins s σ H Q I q => h.run pos pins s σ H Q I (w σ H Q q)⟩
theorem s_seq {t u : TS} {D : Ends} {st : L2.St} {H : Hp} (h : t { D with nx := u D } st H) : tSeq t u D st H := h
def tMono (te : TE) : TE := fun s H Q => ∃ R : VK, te s H R ∧ ∀ v H1, R v H1 → Q v H1
theorem pe_mono {X : Cx} {e : Expr} {t : TE} (h : PE X e t) : PE X e (tMono t) :=
  ⟨fun pins s σ H Q I ⟨R, q, w⟩ => thn (h.run pins s σ H R I q) fun _ _ ⟨v, H1, I1, r, k⟩ => ⟨v, H1, I1, r, w v H1 k⟩⟩
theorem same_upd {H : Hp} {p : Addr} {o : HO} (h : H p = none) : Same H (upd H p o) := by
  intro b x e
  rw [upd_ne (ne_of_none e h)]
  exact e
theorem same_sqt {K : PySem.W.Frag} {H H' : Hp} {a : Addr} {xs : List V} (e : Same H H') (h : SqT K H a xs) : SqT K H' a xs := by
  rcases h with (h | ⟨o, h⟩) | h
  · exact .inl (.inl (e _ _ h))
  · exact .inl (.inr ⟨o, e _ _ h⟩)
  · exact .inr h
mutual
theorem dp_same {K : PySem.W.Frag} {H H' : Hp} (e : Same H H') : ∀ {v : V} {d : PyData}, Dp K H v d → Dp K H' v d
  | _, _, .non => .non
  | _, _, .bl b => .bl b
  | _, _, .int i => .int i
  | _, _, .str x => .str x
  | _, _, .lst h hs => .lst (e.seq h) (dpa_same e hs)
  | _, _, .tup h hs => .tup (same_sqt e h) (dpa_same e hs)
theorem dpa_same {K : PySem.W.Frag} {H H' : Hp} (e : Same H H') : ∀ {v : List V} {d : List PyData}, DpAll K H v d → DpAll K H' v d
  | _, _, .nil => .nil
  | _, _, .cons h hs => .cons (dp_same e h) (dpa_same e hs)
end
theorem dpa_rep {K : PySem.W.Frag} {H : Hp} {v : V} {d : PyData} (h : Dp K H v d) : ∀ n, DpAll K H (List.replicate n v) (List.replicate n d)
  | 0 => .nil
  | n + 1 => .cons h (dpa_rep h n)
theorem dpa_bl {K : PySem.W.Frag} {H : Hp} : ∀ bs : List Bool, DpAll K H (bs.map V.bl) (bs.map PyData.bool)
  | [] => .nil
  | b :: r => .cons (.bl b) (dpa_bl r)
/-- data that may be compared -/
def Low (d : PyData) : Prop := d.canLay0 = true ∧ d.depth ≤ 10
theorem low_rep {d : PyData} (h : Low d) : ∀ n, PyData.canLayAll0 (List.replicate n d) = true ∧ PyData.depthAll (List.replicate n d) ≤ 10
  | 0 => ⟨rfl, by show 0 ≤ 10; omega⟩
  | n + 1 => by
    obtain ⟨h1, h2⟩ := low_rep h n
    rw [List.replicate_succ]
    refine ⟨?_, ?_⟩
    · show (d.canLay0 && PyData.canLayAll0 (List.replicate n d)) = true
      rw [h.1, h1]
      rfl
    · show max d.depth (PyData.depthAll (List.replicate n d)) ≤ 10
      exact Nat.max_le.mpr ⟨h.2, h2⟩
theorem shaped_of {d : PyData} (h1 : d.canLay0 = true) (h2 : d.depth ≤ 64) : SeqAt.shaped d = true := by
  unfold SeqAt.shaped
  rw [h1, decide_eq_true h2]
  rfl
theorem low_bl : ∀ bs : List Bool, PyData.canLayAll0 (bs.map PyData.bool) = true ∧ PyData.depthAll (bs.map PyData.bool) = 0
  | [] => ⟨rfl, rfl⟩
  | b :: r => by
    obtain ⟨h1, h2⟩ := low_bl r
    refine ⟨?_, ?_⟩
    · show (true && PyData.canLayAll0 (r.map PyData.bool)) = true
      rw [h1]
      rfl
    · show max 0 (PyData.depthAll (r.map PyData.bool)) = 0
      rw [h2]
      rfl
theorem eqv_same {d : PyData} (h : d.canLay0 = true) : PyData.eqv d d = true := SeqAt.eqv_refl d h
theorem strOk_of (s : String) : PyData.strOk (Str.ofString s) = true := by
  unfold PyData.strOk
  rw [← Array.all_toList, PyProof.Rows.signs_ofString, List.all_eq_true]
  intro c hc
  obtain ⟨x, _, rfl⟩ := List.mem_map.mp hc
  refine decide_eq_true ?_
  have h := x.valid
  have : x.toNat = x.val.toNat := rfl
  rcases h with h | ⟨_, h⟩
  · rw [this]; exact Nat.lt_trans h (by decide)
  · rw [this]; exact h
theorem strOk_app {a b : Str} (ha : PyData.strOk a = true) (hb : PyData.strOk b = true) : PyData.strOk (a ++ b) = true := by
  unfold PyData.strOk at *
  show ((a.cps ++ b.cps).all _) = true
  rw [Array.all_append, ha, hb]
  rfl
def EvP (te : TE) (st : L2.St) (H : Hp) (P : V → Hp → Prop) : Prop :=
  ∀ H1, Evl.Ex H H1 → ∀ Q : VK, (∀ x H2, Evl.Ex H1 H2 → P x H2 → Q x H2) → te st H1 Q
def EvAP (ta : TA) (st : L2.St) (H : Hp) (P : List V → Hp → Prop) : Prop :=
  ∀ H1, Evl.Ex H H1 → ∀ Q : List V → Hp → Prop, (∀ x H2, Evl.Ex H1 H2 → P x H2 → Q x H2) → ta st H1 Q
theorem eap_nil {st : L2.St} {H : Hp} : EvAP tNil st H (fun xs _ => xs = []) :=
  fun H1 _ Q q => q [] H1 (Evl.Ex.refl H1) rfl
theorem eap_cons {te : TE} {tr : TA} {st : L2.St} {H : Hp} {P : V → Hp → Prop} {R : List V → Hp → Prop}
    (h : EvP te st H P) (hr : EvAP tr st H R) (mono : ∀ x H1 H2, Evl.Ex H1 H2 → P x H1 → P x H2) :
    EvAP (tCons te tr) st H (fun vs H1 => ∃ x xs, vs = x :: xs ∧ P x H1 ∧ R xs H1) := by
  intro H1 e Q q
  refine h H1 e _ fun x H2 e2 p => ?_
  refine hr H2 (e.trans e2) _ fun xs H3 e3 r => ?_
  exact q _ H3 (e2.trans e3) ⟨x, xs, rfl, mono x H2 H3 e3 p, r⟩
/-- an error: its class at C, its only field f holding v -/
def ErrV (H : Hp) (a C : Addr) (f : Str) (v : V) : Prop :=
  ∃ d, H a = some (exo a C (some d)) ∧ H d = some (exd d [(f, v)])
theorem ErrV.mono {H H' : Hp} {a C : Addr} {f : Str} {v : V} (e : Evl.Ex H H') (h : ErrV H a C f v) : ErrV H' a C f v := by
  obtain ⟨d, h1, h2⟩ := h
  exact ⟨d, e _ _ h1, e _ _ h2⟩
theorem ErrV.at_ {H : Hp} {a C : Addr} {f : Str} {v : V} (h : ErrV H a C f v) : Vx.ExAt H a C := by
  obtain ⟨d, h1, h2⟩ := h
  exact .inr ⟨d, _, h1, h2⟩
theorem exAt_mono {H H' : Hp} {a C : Addr} (e : Evl.Ex H H') (h : Vx.ExAt H a C) : Vx.ExAt H' a C := by
  rcases h with h | ⟨d, fs, h1, h2⟩
  · exact .inl (e _ _ h)
  · exact .inr ⟨d, fs, e _ _ h1, e _ _ h2⟩
def Errs (v : V) : List (Addr × Str) → List V → Hp → Prop
  | [], xs, _ => xs = []
  | (C, f) :: r, xs, H => ∃ a ys, xs = .ref a :: ys ∧ ErrV H a C f v ∧ Errs v r ys H
theorem Errs.mono {v : V} {H H' : Hp} (e : Evl.Ex H H') : ∀ {l : List (Addr × Str)} {xs : List V}, Errs v l xs H → Errs v l xs H'
  | [], _, h => h
  | (C, f) :: r, _, h => by
    obtain ⟨a, ys, h1, h2, h3⟩ := h
    exact ⟨a, ys, h1, h2.mono e, Errs.mono e h3⟩
theorem Errs.len {v : V} {H : Hp} : ∀ {l : List (Addr × Str)} {xs : List V}, Errs v l xs H → xs.length = l.length
  | [], _, h => by
    rw [show _ = [] from h]
    rfl
  | (C, f) :: r, _, h => by
    obtain ⟨a, ys, h1, h2, h3⟩ := h
    rw [h1, List.length_cons, List.length_cons, Errs.len h3]
theorem Errs.app {v : V} {H : Hp} : ∀ {l m : List (Addr × Str)} {xs ys : List V}, Errs v l xs H → Errs v m ys H → Errs v (l ++ m) (xs ++ ys) H
  | [], m, xs, ys, h, h' => by
    rw [show xs = [] from h]
    exact h'
  | (C, f) :: r, m, xs, ys, h, h' => by
    obtain ⟨a, zs, h1, h2, h3⟩ := h
    rw [h1]
    exact ⟨a, zs ++ ys, rfl, h2, Errs.app h3 h'⟩
theorem Errs.get {v : V} {H : Hp} : ∀ {l : List (Addr × Str)} {xs : List V} {i : Nat} {x : V}, Errs v l xs H → xs[i]? = some x →
    ∃ C f a, l[i]? = some (C, f) ∧ x = .ref a ∧ ErrV H a C f v
  | [], xs, i, x, h, hi => by
    rw [show xs = [] from h] at hi
    cases hi
  | (C, f) :: r, xs, 0, x, h, hi => by
    obtain ⟨a, ys, h1, h2, h3⟩ := h
    rw [h1] at hi
    have e : V.ref a = x := Option.some.inj hi
    exact ⟨C, f, a, rfl, e.symm, h2⟩
  | (C, f) :: r, xs, i + 1, x, h, hi => by
    obtain ⟨a, ys, h1, h2, h3⟩ := h
    rw [h1] at hi
    exact Errs.get (i := i) h3 hi
theorem given_rep (v : V) : ∀ n, Evl.given n (fun _ => true) (fun _ => v) = List.replicate n v := by
  intro n
  induction n with
  | zero => rfl
  | succ n ih =>
    rw [Evl.given_yes rfl, ih, ← List.replicate_succ']
/-- __init__(self, f): self.f = f -/
def spIni (C : Addr) (f : Str) : Sp := fun vs H Q _ => ∃ (a : Addr) (v : V), vs = [.ref a, v] ∧ H a = some (exo a C none) ∧
  ∀ dx, H dx = none → dx ≠ a → Q .non (upd (upd H dx (exd dx [(f, v)])) a (exo a C (some dx)))
section
variable {P : Program} {w : World} {K : PySem.W.Frag} {mg : Str → Option Value} {base : Heap}
theorem ok_ini1 {f qual : Str} {pa : Arguments} {bd : List Stmt} {sc : Scope} {fI C : Addr} {fd : FuncData} {p1 p2 p3 p4 : Pos}
    (F : FunD K "__init__" qual pa bd sc [] [] fI fd) (S : FnScope ["self", f] ["self", f] sc)
    (hb : bd = [.Assign [.Attribute (.Name "self" p1) f p2] (.Name f p3) p4]) (T : OexC K C)
    (no : PySem.W.findIn K (.ref C) f = some none) (hd : (f == ("__debug__" : Str)) = false)
    (hc : (f == ("__classdict__" : Str)) = false) : FnOk P w K mg base CX0 1 fI fd ["self", f] (spIni C f) := by
  refine F.ok (CX := CX0) S (fun vs H Q E h => ?_) (fun cdv A outer s H vs Q E hr h => ?_)
  · obtain ⟨a, v, rfl, _⟩ := h
    rfl
  · rw [hb]
    have v0 := vis_par S (x := "self") List.mem_cons_self
    have v1 := vis_par S (x := f) (List.mem_cons_of_mem _ List.mem_cons_self)
    refine ⟨_, (pss_one (ps_ost (pe_var (i := 0) rfl v0) (pe_var (i := 1) rfl v1 hd hc))), ?_⟩
    obtain ⟨a, v, rfl, ha, q⟩ := h
    exact ⟨v, rfl, .ref a, rfl, a, C, rfl, T, no, .inl ⟨ha, fun dx h1 h2 => q dx h1 h2⟩⟩
end
section
variable {X : Cx} {C fI : Addr} {k : Nat} {fd : FuncData} {e : Expr} {te : TE} {x f : Str} {p pos : Pos}
def tErr (C : Addr) (f : Str) (te : TE) : TE := fun st H Q => te st H fun v H1 =>
  ∀ a H2, H1 a = none → Same H1 H2 → ErrV H2 a C f v → Q (.ref a) H2
theorem pe_err (T : OexC X.K C)
    (iC : PySem.W.findIn X.K (.ref C) "__init__" = some (some (.ref fI)))
    (tI : PySem.W.typeIn X.K (.ref fI) = some (.type "function"))
    (F1 : FnOk X.prog X.w X.K X.mg X.base CX0 k fI fd ["self", f] (spIni C f))
    (hr : Room (k + 1) X.A) (hb : Binds X.K fd ["self", f] []) (hg : Gl X x)
    (hm : X.mg x = some (.ref C)) (ha : PE X e te)
    (hdb : (x == ("__debug__" : Str)) = false := by decide)
    (hs : starEach [e] X.env = (false, eval e X.env) :: starEach [] X.env := by rfl) :
    PE X (.Call (.Name x p) [e] [] pos) (tErr C f te) := by
  have ha2 : PE X e (tMono te) := pe_mono ha
  refine pe_weak (Vx.pe_mkV T iC tI F1 hr hb hg hm (pa_cons ha2 pa_nil hs) hdb hs (by rfl)) ?_
  intro st H Q h
  refine ⟨_, h, fun v H1 q => ⟨by show 1 ≤ 1000; omega, fun a na => ?_⟩⟩
  refine ⟨a, v, rfl, upd_same, fun dx n1 n2 => ⟨rfl, ?_⟩⟩
  have nd : H1 dx = none := by rw [upd_ne n2] at n1; exact n1
  refine q a _ na (fun b o hb => ?_) ⟨dx, upd_same, ?_⟩
  · rw [upd_ne (ne_of_none hb na), upd_ne (ne_of_none hb nd), upd_ne (ne_of_none hb na)]
    exact hb
  · rw [upd_ne n2, upd_same]
end
end Vl

set_option Elab.async false
set_option linter.all false
set_option maxRecDepth 100000
set_option maxHeartbeats 2000000
/-! Operators that a class of the program defines: by its methods' promises. -/
namespace Vo
open PySem PySem.Spec PyProof.Rows L2
section
variable {X : Cx} {CX : CXT} {k : Nat} {f C : Addr} {fd : FuncData} {ps : List Str} {sp : Sp}
variable {pins : List (Addr × Obj)} {σ : L2.St} {H : Hp} {s : Shared} {Q : VK} {us : List Value} {vs : List V} {E : XK}
/-- a method called one level further in -/
theorem run_in1 (F : FnOk X.prog X.w X.K X.mg X.base CX k f fd ps sp) (hr : Room (k + 1) X.A) (hb : Binds X.K fd ps [])
    (hx : PassesAt CX X σ E) (I : Inv X pins σ H s) (r : Vals vs us) (h : sp vs H Q E) :
    wpAny (model X.prog X.w) X.A.in1 (call (.ref f) us) (EP X pins σ Q) X.xe s := by
  have hl : us.length = ps.length := by
    rw [← r.length]
    exact F.len _ _ _ _ h
  have b := hb s us I.kIn (by rw [List.append_nil]; exact hl)
  rw [List.append_nil] at b
  have run := F.run X.A.in1 X.stack s H ⟨us, []⟩ us vs Q E hr.in1 I.env0.in1 b r h
  refine wpAny_call (codeAny_mono run ?_)
  intro z s' hq
  cases z with
  | error e => exact hx pins H s e s' I hq
  | ok fl =>
    cases fl with
    | ret u => exact I.after hq
    | next => exact False.elim hq
    | brk => exact False.elim hq
    | cont => exact False.elim hq
/-- the same where it stands -/
theorem run_here (F : FnOk X.prog X.w X.K X.mg X.base CX k f fd ps sp) (hr : Room k X.A) (hb : Binds X.K fd ps [])
    (hx : PassesAt CX X σ E) (I : Inv X pins σ H s) (r : Vals vs us) (h : sp vs H Q E) :
    wpAny (model X.prog X.w) X.A (call (.ref f) us) (EP X pins σ Q) X.xe s :=
  run_fnS (E := fun _ => E) F hr hb hx I r h
end
section
variable {X : Cx} {CX : CXT} {k : Nat} {f C : Addr} {fd : FuncData} {ps : List Str} {sp : Sp} {E : L2.St → XK}
variable {a b : Expr} {ta tb : TE} {pos : Pos}
/-- one operand an instance of the class at C -/
def tOwn1 (C : Addr) (sp : Sp) (E : L2.St → XK) (ta : TE) : TE := fun st H Q => ta st H fun x H1 =>
  ∃ o dx fs, x = .ref o ∧ H1 o = some (.ins C dx fs) ∧ sp [x] H1 Q (E st)
/-- the left one of two -/
def tOwn2 (C : Addr) (R : V → Prop) (sp : Sp) (E : L2.St → XK) (ta tb : TE) : TE := fun st H Q => ta st H fun x H1 => tb st H1 fun y H2 =>
  ∃ o dx fs, x = .ref o ∧ H2 o = some (.ins C dx fs) ∧ R y ∧ sp [x, y] H2 Q (E st)
theorem inst_at {pins : List (Addr × Obj)} {σ : L2.St} {H : Hp} {s : Shared} {o dx : Addr} {fs : List (Str × V)} (I : Inv X pins σ H s) (ea : H o = some (.ins C dx fs)) :
    ∃ ob od, PySem.W.InstAt s.heap o ob C (some od) := by
  obtain ⟨mA, O, _, _, _, _⟩ := ins_get I.hok ea
  obtain ⟨od, J, _⟩ := O.look
  exact ⟨_, od, J⟩
/-- o[i] -/
theorem pe_ixO (M : Meth X.K C "__getitem__" f) (hf : PySem.W.fnIn X.K f = true) (F : FnOk X.prog X.w X.K X.mg X.base CX k f fd ps sp) (hr : Room (k + 1) X.A) (hb : Binds X.K fd ps [])
    (hx : ∀ st, PassesAt CX X st (E st)) (ha : PE X a ta) (hi : PE X b tb)
    (hs : ∀ o i, subscripted b true (.ref o) i = runValue (.builtin "lifetime.subscript" ⟨[.ref o, i], []⟩)) :
    PE X (.Subscript a b pos) (tOwn2 C (fun _ => True) sp E ta tb) := by
  refine ⟨fun pins s σ H Q I h => ?_⟩
  refine Subscript_ (binT ha hi I h fun v u s2 x y H2 I2 rx ry q => ?_)
  obtain ⟨o, dx, fs, rfl, eo, _, q⟩ := q
  obtain rfl : v = Value.ref o := rx
  obtain ⟨ob, od, J⟩ := inst_at I2 eo
  obtain ⟨m, fr⟩ := I2.fr
  exact PySem.W.sub_K fr I2.ok.mod.kin J M.at_ hf M.fn (run_in1 F hr hb (hx σ) I2 (Paired.cons (show RelV (V.ref o) (Value.ref o) from rfl) (.cons ry .nil)) q) (hs o u)
/-- -o -/
theorem pe_negO (M : Meth X.K C "__neg__" f) (F : FnOk X.prog X.w X.K X.mg X.base CX k f fd ps sp) (hr : Room k X.A) (hb : Binds X.K fd ps [])
    (hx : ∀ st, PassesAt CX X st (E st)) (ha : PE X a ta) : PE X (.UnaryOp .USub a pos) (tOwn1 C sp E ta) := by
  refine ⟨fun pins s σ H Q I h => ?_⟩
  refine UnaryOp_ (thn (ha.run pins s σ H _ I h) fun v s1 ⟨x, H1, I1, r1, q1⟩ => ?_)
  obtain ⟨o, dx, fs, rfl, eo, q⟩ := q1
  obtain rfl : v = Value.ref o := r1
  obtain ⟨ob, od, J⟩ := inst_at I1 eo
  obtain ⟨m, fr⟩ := I1.fr
  exact PySem.W.ksp_neg fr I1.ok.mod.kin J M.at_ M.fn (run_here F hr hb (hx σ) I1 (Paired.cons (show RelV (V.ref o) (Value.ref o) from rfl) .nil) q)
end
section
variable {X : Cx} {CX : CXT} {k : Nat} {f C : Addr} {fd : FuncData} {ps : List Str} {sp : Sp} {E : L2.St → XK}
variable {a b : Expr} {ta tb : TE} {pos : Pos}
/-- what comes back is no NotImplemented: any V's value -/
theorem cmp_back {pins : List (Addr × Obj)} {σ : L2.St} {Q : VK} {u : Value} {s' : Shared} (h : EP X pins σ Q u s') : PySem.W.CmpBack (EP X pins σ Q) u s' := by
  obtain ⟨v, H', I, r, q⟩ := h
  have hn : u ≠ .notImplemented := by
    intro z
    subst z
    cases v with
    | non => cases r
    | bl b => cases r
    | int i => obtain ⟨t, z⟩ := r; cases z
    | str x => obtain ⟨t, z⟩ := r; cases z
    | byt x => obtain ⟨t, z⟩ := r; cases z
    | flt x => obtain ⟨t, z⟩ := r; cases z
    | ref a => cases r
    | ty n => cases r
  have k : EP X pins σ Q u s' := ⟨v, H', I, r, q⟩
  unfold PySem.W.CmpBack
  cases u with
  | notImplemented => exact absurd rfl hn
  | _ => exact k
/-- the class's own operators: what the written part must say -/
structure OwnOp (K : PySem.W.Frag) (C : Addr) (nm : String) (f : Addr) : Prop where
  fst : PySem.W.selfFirst K C = true
  at_ : PySem.W.findIn K (.ref C) (PySem.dunder nm) = some (some (.ref f))
  fn : PySem.W.isFn K (.ref f) = true
  r : PySem.W.findIn K (.ref C) (dunderR nm) = some none
/-- the right operand is of the built-in type T, which knows nothing of C -/
structure Far (K : PySem.W.Frag) (C : Addr) (nm T : String) : Prop where
  h1 : ∃ fo, PySem.W.findIn K (.type T) (PySem.dunder nm) = some fo
  h2 : ∃ ro, PySem.W.findIn K (.type T) (dunderR nm) = some ro
  sub : PySem.W.subIn K (.type T) (.ref C) = some false
theorem own_bin {prog : Program} {w : World} {A : Around} {Er : Value → Shared → Prop} {s : Shared} {K : PySem.W.Frag} {x C L f : Addr} {h0 : Heap} {m : Str → Option Value} {ox : Obj} {od : Option Obj} {T : String}
    {op : Operator} {b : Value} {Q : Value → Shared → Prop} (F : Fr h0 L s.heap m) (X0 : K.In h0) (I : PySem.W.InstAt s.heap x ox C od)
    (hb : PySem.W.Looks (model prog w) s.heap (typeOf b) (.type T)) (W : OwnOp K C op.info.2 f) (Z : Far K C op.info.2 T)
    (h : wpAny (model prog w) A (call (.ref f) [.ref x, b]) (PySem.W.CmpBack Q) Er s) : wpAny (model prog w) A (binaryOp op (.ref x) b) Q Er s := by
  have X := X0.keeps F.keep
  obtain ⟨cd, rest, hcd, hm⟩ := PySem.W.ksp_first W.fst
  obtain ⟨fo, h1⟩ := Z.h1
  obtain ⟨ro, h2⟩ := Z.h2
  have one := PySem.W.ksp_try X I W.at_ W.fn h
  rcases hi : op.info with ⟨sym, nm⟩
  have wa := W.at_
  have wr := W.r
  rw [hi] at wa wr h1 h2
  rw [hi] at one
  dsimp only at wa wr h1 h2 one
  obtain ⟨hh, g, d, tt, os⟩ := s
  have a1 : PySem.W.Looks (model prog w) hh (typeOf (.ref x)) (.ref C) := I.type
  have a2 : PySem.W.Looks (model prog w) hh (typeOf b) (.type T) := hb
  have a3 := PySem.W.fills_K (M := model prog w) X hcd hm wa
  have a4 := PySem.W.ksp_fillsT (M := model prog w) X h1 h2
  have a5 := PySem.W.looks_subIn (M := model prog w) X Z.sub
  have a6 := PySem.W.ksp_inPy (M := model prog w) X wa wr (.inl rfl)
  have a7 : PySem.W.Looks (model prog w) hh (numberSlotInPython (.type T) nm) false := PySem.W.Looks.of_pure rfl
  have a8 := PySem.W.looks_findIn (M := model prog w) X h2
  revert a4
  generalize ((fo.isSome && !isSeqSlot fo) || (ro.isSome && !isSeqSlot ro)) = rt
  intro a4
  have ne : (Value.ref C == Value.type T) = false := by
    refine Bool.eq_false_iff.mpr fun q => ?_
    cases beq_iff_eq.mp q
  simp only [binaryOp, hi]
  refine wpAny_holding (wpAny_bind ?_)
  unfold binaryOp1
  refine wpAny_bind (a1.at (wpAny_bind (a2.at (wpAny_bind (a3.at ?_)))))
  simp only [ne, Bool.false_eq_true, if_false]
  cases rt
  all_goals
    ksp_lk
    refine wpAny_mono one (fun r s' hr => ?_) fun _ _ z => z
    obtain ⟨v, rfl, hq⟩ := hr
    ksp_lk
    exact hq
/-- o op y, y of a built-in type -/
theorem pe_binO {op : Operator} {T : V → Hp → String → Prop} (W : OwnOp X.K C op.info.2 f)
    (Z : ∀ y H t, T y H t → Far X.K C op.info.2 t)
    (hT : ∀ (pins : List (Addr × Obj)) (st : L2.St) (H : Hp) (s : Shared) (y : V) (u : Value) (t : String), Inv X pins st H s → RelV y u → T y H t → PySem.W.Looks (model X.prog X.w) s.heap (typeOf u) (.type t))
    (F : FnOk X.prog X.w X.K X.mg X.base CX k f fd ps sp) (hr : Room k X.A) (hb : Binds X.K fd ps [])
    (hx : ∀ st, PassesAt CX X st (E st)) (ha : PE X a ta) (hi : PE X b tb) :
    PE X (.BinOp a op b pos) (fun st H Q => ta st H fun x H1 => tb st H1 fun y H2 => ∃ o dx fs t, x = .ref o ∧ H2 o = some (.ins C dx fs) ∧ T y H2 t ∧ sp [x, y] H2 Q (E st)) := by
  refine ⟨fun pins s σ H Q I h => ?_⟩
  refine wpAny_BinOp (binT ha hi I h fun v u s2 x y H2 I2 rx ry q => ?_)
  obtain ⟨o, dx, fs, t, rfl, eo, ht, q⟩ := q
  obtain rfl : v = Value.ref o := rx
  obtain ⟨ob, od, J⟩ := inst_at I2 eo
  obtain ⟨m, fr⟩ := I2.fr
  refine own_bin fr I2.ok.mod.kin J (hT _ _ _ _ _ _ _ I2 ry ht) W (Z _ _ _ ht) ?_
  exact wpAny_mono (run_here F hr hb (hx σ) I2 (Paired.cons (show RelV (V.ref o) (Value.ref o) from rfl) (.cons ry .nil)) q) (fun u s' z => cmp_back z) fun _ _ z => z
/-- Passes, at some slots -/
theorem passes_at {E1 : XK} (h : Passes CX X E1) (st : L2.St) : PassesAt CX X st E1 := fun pins H s e s' I c => h pins st H s e s' I c
def rOwn (C : Addr) (T : V → Hp → Value → Prop) (sp : Sp) (E1 : XK) : R2 := fun x y H Q =>
  ∃ o dx fs t, x = .ref o ∧ H o = some (.ins C dx fs) ∧ T y H t ∧ sp [x, y] H Q E1
/-- o == y -/
theorem op_eqO {E1 : XK} {T : V → Hp → Value → Prop} (M : Meth X.K C "__eq__" f) (Z : ∀ y H t, T y H t → PySem.W.notFirst X.K C t = true)
    (hT : ∀ (pins : List (Addr × Obj)) (st : L2.St) (H : Hp) (s : Shared) (y : V) (u t : Value), Inv X pins st H s → RelV y u → T y H t → PySem.W.Looks (model X.prog X.w) s.heap (typeOf u) t)
    (F : FnOk X.prog X.w X.K X.mg X.base CX k f fd ps sp) (hr : Room k X.A) (hb : Binds X.K fd ps []) (hx : Passes CX X E1) :
    OpR X (compareOp .Eq) (rOwn C T sp E1) := by
  intro pins s σ H x y v u Q I rx ry q
  obtain ⟨o, dx, fs, t, rfl, eo, ht, q⟩ := q
  obtain rfl : v = Value.ref o := rx
  obtain ⟨ob, od, J⟩ := inst_at I eo
  obtain ⟨m, fr⟩ := I.fr
  unfold compareOp
  refine PySem.W.cmp_K (hu_lt hr) fr I.ok.mod.kin J (hT _ _ _ _ _ _ _ I ry ht) (Z _ _ _ ht) M.at_ M.fn ?_
  exact wpAny_mono (run_here F hr hb (passes_at hx σ) I (Paired.cons (show RelV (V.ref o) (Value.ref o) from rfl) (.cons ry .nil)) q) (fun u s' z => cmp_back z) fun _ _ z => z
where
  hu_lt {k : Nat} {A : Around} (hr : Room k A) : A.units < cLine := by have := hr.un; omega
/-- the class has an own __eq__ and no own __ne__, no base but object -/
def neB (K : PySem.W.Frag) (C f : Addr) : Bool :=
  match K.lookup C with
  | some ⟨.type "type", _, .cls cd, sl⟩ =>
    (match cd.mro with
      | [.ref D, .type "object"] => D == C
      | _ => false) && ((match sl.toList with
      | [_, _, _, _, some (.builtin _), _] => true
      | _ => false) && (!cd.hasDel && (PySem.W.nsOkIn K cd.ns && (decide (PySem.W.nsIn K cd.ns "__eq__" = some (some (.ref f))) &&
        (decide (PySem.W.nsIn K cd.ns "__ne__" = some none) && PySem.W.isFn K (.ref f))))))
  | _ => false
theorem ns_val {K : PySem.W.Frag} {h : Heap} {N : Addr} {mg : Str → Option Value} {n : Str} {v : Value} (X : K.In h) (G : h.Ns N mg) (e : PySem.W.nsIn K N n = some (some v)) : mg n = some v := by
  obtain ⟨o, es, ep, ho, hd, _, hf⟩ := G
  unfold PySem.W.nsIn at e
  split at e
  · rename_i c d es2 n2 sl q
    obtain rfl := Option.some.inj (ho.symm.trans (X _ _ q))
    cases hd
    split at e
    · next en he =>
        obtain rfl := Option.some.inj (Option.some.inj e)
        rw [← hf]
        unfold nsFind findBy
        rw [← Array.find?_toList, he]
        rfl
    · split at e <;> cases e
  · cases e
theorem ne_at {K : PySem.W.Frag} {C f x : Addr} {h : Heap} {ob : Obj} {od : Option Obj} (X : K.In h) (I : PySem.W.InstAt h x ob C od) (q : neB K C f = true) : h.OwnEqNoNe x C f "object" [.type "object"] := by
  unfold neB at q
  split at q
  · rename_i dd cd sl ho
    obtain ⟨q1, q⟩ := Bool.and_eq_true_iff.mp q
    obtain ⟨q2, q⟩ := Bool.and_eq_true_iff.mp q
    obtain ⟨q3, q⟩ := Bool.and_eq_true_iff.mp q
    obtain ⟨q4, q⟩ := Bool.and_eq_true_iff.mp q
    obtain ⟨q5, q⟩ := Bool.and_eq_true_iff.mp q
    obtain ⟨q6, q7⟩ := Bool.and_eq_true_iff.mp q
    split at q1
    · rename_i D hm
      split at q2
      · rename_i k0 k1 k2 k3 n k5 hs
        obtain rfl : D = C := beq_iff_eq.mp q1
        obtain ⟨nm, bs, mro, ns, qn, hd, sn, sub, ab, col, del⟩ := cd
        dsimp only at hm q3 q4 q5 q6
        have e3 : del = false := by
          cases del with
          | false => rfl
          | true => cases q3
        subst hm e3
        obtain ⟨l⟩ := sl
        dsimp only at hs
        subst hs
        have G : h.Ns ns (h.nsMap ns) := .of_isNs (PySem.W.isNs_of_in X q4)
        have g1 : h.nsMap ns "__eq__" = some (.ref f) := ns_val X G (of_decide_eq_true q5)
        have g2 : h.nsMap ns "__ne__" = none := PySem.W.ns_none_of X G (of_decide_eq_true q6)
        have tf : PySem.W.typeIn K (.ref f) = some (.type "function") := beq_iff_eq.mp q7
        obtain ⟨fo, hfo, hfc⟩ := Option.map_eq_some_iff.mp (show (K.lookup f).map (·.cls) = some (.type "function") from tf)
        refine ⟨ob, fo, nm, qn, ns, bs, hd, sn, sub, ab, col, dd, k0, k1, k2, k3, k5, n, h.nsMap ns, some (.builtin "object.__eq__"), I.at_, I.cls, X _ _ ho, G, g1, X _ _ hfo, hfc, (by kernel_rfl), ?_, g2⟩
        rw [typeLookup_type, builtinLookup_eq_fast]
        kernel_rfl
      · cases q2
    · cases q1
  · cases q
def rNe (C : Addr) (sp : Sp) (E1 : XK) : R2 := fun x y H Q =>
  ∃ o dx fs o2 dx2 fs2, x = .ref o ∧ y = .ref o2 ∧ H o = some (.ins C dx fs) ∧ H o2 = some (.ins C dx2 fs2) ∧ sp [x, y] H (fun v H1 => ∃ b, v = .bl b ∧ Q (.bl (!b)) H1) E1
/-- o != y, both of the class, which has __eq__ and no __ne__ -/
theorem op_neO {E1 : XK} (q : neB X.K C f = true) (F : FnOk X.prog X.w X.K X.mg X.base CX k f fd ps sp) (hr : Room (k + 1) X.A) (hb : Binds X.K fd ps []) (hx : Passes CX X E1) :
    OpR X (compareOp .NotEq) (rNe C sp E1) := by
  intro pins s σ H x y v u Q I rx ry q1
  obtain ⟨o, dx, fs, o2, dx2, fs2, rfl, rfl, eo, eo2, qs⟩ := q1
  obtain rfl : v = Value.ref o := rx
  obtain rfl : u = Value.ref o2 := ry
  obtain ⟨ob, od, J⟩ := inst_at I eo
  obtain ⟨ob2, od2, J2⟩ := inst_at I eo2
  obtain ⟨m, fr⟩ := I.fr
  have hu : X.A.units + 1 < cLine := by have := hr.un; omega
  have X0 := I.ok.mod.kin.keeps fr.keep
  have run := run_in1 F hr hb (passes_at hx σ) I (Paired.cons (show RelV (V.ref o) (Value.ref o) from rfl) (.cons (show RelV (V.ref o2) (Value.ref o2) from rfl) .nil)) qs
  obtain ⟨hh, g, d, t, os⟩ := s
  refine compareOp_ne_ownEq PySem.F.cmp_object (ne_at X0 J q) J2.at_ J2.cls hu (wpAny_mono run (fun z s' hz => ?_) fun _ _ z => z)
  obtain ⟨v1, H1, I1, r1, b, rfl, q2⟩ := hz
  exact ⟨b, r1, .bl (!b), H1, I1, rfl, q2⟩
/-- len(o) by the class's __len__ -/
theorem call_lenO {E1 : XK} (M : Meth X.K C "__len__" f) (hf : PySem.W.isFn X.K (.ref f) = true) (F : FnOk X.prog X.w X.K X.mg X.base CX k f fd ps sp) (hr : Room (k + 1) X.A) (hb : Binds X.K fd ps []) (hx : Passes CX X E1) :
    CallR X (.builtin "len") (fun xs H Q => ∃ o dx fs, xs = [.ref o] ∧ H o = some (.ins C dx fs) ∧ sp [.ref o] H (fun v H1 => ∃ n : Nat, v = .int n ∧ n < 2 ^ 62 ∧ Q (.int n) H1) E1) := by
  intro pins s σ H xs us Q I r h
  obtain ⟨o, dx, fs, rfl, eo, qs⟩ := h
  obtain ⟨u, rfl, rx⟩ := vals1 r
  obtain rfl : u = Value.ref o := rx
  obtain ⟨ob, od, J⟩ := inst_at I eo
  obtain ⟨m, fr⟩ := I.fr
  refine PySem.W.len_K fr I.ok.mod.kin J M.at_ hf (wpAny_mono (run_in1 F hr hb (passes_at hx σ) I (Paired.cons (show RelV (V.ref o) (Value.ref o) from rfl) .nil) qs) (fun z s' hz => ?_) fun _ _ z => z)
  obtain ⟨v1, H1, I1, r1, n, rfl, hn, q2⟩ := hz
  obtain ⟨t1, rfl⟩ := r1
  exact ⟨⟨by omega, by omega⟩, .int n, H1, I1.tok _, ⟨_, rfl⟩, q2⟩
/-- a < b, of data -/
def rLtD (K : PySem.W.Frag) : R2 := fun x y H Q => ∃ d e, Dp K H x d ∧ Dp K H y e ∧ PySem.W.alike d e = true ∧ d ≠ .none ∧ min d.depth e.depth ≤ 64 ∧ Q (.bl (PySem.W.dataLt d e)) H
theorem op_ltD (hu : X.A.units + 64 < cLine) : OpR X (compareOp .Lt) (rLtD X.K) := by
  intro pins s σ H x y v u Q I rx ry q
  obtain ⟨d, e, hd, he, ha, hn, hm, q⟩ := q
  obtain ⟨as, r1⟩ := Dp.reads I d x v hd rx
  obtain ⟨bs, r2⟩ := Dp.reads I e y u he ry
  exact PySem.W.lt_data r1 r2 ha hn (by omega) ⟨.bl _, H, I, rfl, q⟩
end
end Vo

set_option Elab.async false
set_option linter.all false
set_option maxRecDepth 100000
set_option maxHeartbeats 2000000
/-! y in o, y not in o: the class's own __contains__. -/
namespace Vo
open PySem PySem.Spec PyProof.Rows L2
section
variable {X : Cx} {CX : CXT} {k : Nat} {f C : Addr} {fd : FuncData} {ps : List Str} {sp : Sp} {E1 : XK}
/-- its promise gives a bool, which neg turns about -/
def rHas (C : Addr) (neg : Bool) (sp : Sp) (E1 : XK) : R2 := fun y x H Q =>
  ∃ o dx fs, x = .ref o ∧ H o = some (.ins C dx fs) ∧ sp [x, y] H (fun v H1 => ∃ b, v = .bl b ∧ Q (.bl (if neg = true then !b else b)) H1) E1
theorem op_inO (M : Meth X.K C "__contains__" f) (F : FnOk X.prog X.w X.K X.mg X.base CX k f fd ps sp) (hr : Room k X.A) (hb : Binds X.K fd ps []) (hx : Passes CX X E1) : OpR X (compareOp .In) (rHas C false sp E1) := by
  intro pins s σ H y x u v Q I ry rx q
  obtain ⟨o, dx, fs, rfl, eo, qs⟩ := q
  obtain rfl : v = Value.ref o := rx
  obtain ⟨ob, od, J⟩ := inst_at I eo
  obtain ⟨m, fr⟩ := I.fr
  refine PySem.W.in_K fr I.ok.mod.kin J M.at_ M.fn (wpAny_mono (run_here F hr hb (passes_at hx σ) I (Paired.cons (show RelV (V.ref o) (Value.ref o) from rfl) (.cons ry .nil)) qs) (fun z s' hz => ?_) fun _ _ z => z)
  obtain ⟨v1, H1, I1, r1, b, rfl, q2⟩ := hz
  cases r1
  exact wpAny_truthy_bool ⟨.bl b, H1, I1, rfl, q2⟩
theorem op_notInO (M : Meth X.K C "__contains__" f) (F : FnOk X.prog X.w X.K X.mg X.base CX k f fd ps sp) (hr : Room k X.A) (hb : Binds X.K fd ps []) (hx : Passes CX X E1) : OpR X (compareOp .NotIn) (rHas C true sp E1) := by
  intro pins s σ H y x u v Q I ry rx q
  obtain ⟨o, dx, fs, rfl, eo, qs⟩ := q
  obtain rfl : v = Value.ref o := rx
  obtain ⟨ob, od, J⟩ := inst_at I eo
  obtain ⟨m, fr⟩ := I.fr
  refine PySem.W.notIn_K fr I.ok.mod.kin J M.at_ M.fn (wpAny_mono (run_here F hr hb (passes_at hx σ) I (Paired.cons (show RelV (V.ref o) (Value.ref o) from rfl) (.cons ry .nil)) qs) (fun z s' hz => ?_) fun _ _ z => z)
  obtain ⟨v1, H1, I1, r1, b, rfl, q2⟩ := hz
  cases r1
  exact wpAny_truthy_bool ⟨.bl (!b), H1, I1, rfl, q2⟩
end
end Vo

set_option Elab.async false
set_option linter.all false
set_option maxRecDepth 100000
/-! try with several except clauses, each with a name or without. Methods of an own class called where the wish depends on the slots. -/
namespace Vtr
open PySem PySem.Spec PyProof.Rows L2
/-- a clause: its class, the slot of its name, its suite -/
abbrev Clause : Type := Value × Option Nat × (Addr → Value → Option Addr → TS)
/-- the slots behind a suite whose name is gone -/
def goneE (D : Ends) (i : Nat) : Ends := { nx := fun σ' H' => D.nx (σ'.set i none) H', rt := D.rt, bk := fun σ' H' => D.bk (σ'.set i none) H', ct := fun σ' H' => D.ct (σ'.set i none) H' }
/-- what the clauses wish, one behind the other -/
def wCl (K : PySem.W.Frag) (Wout : WX) (D : Ends) : List Clause → WX
  | [] => Wout
  | (c, none, ts) :: r => fun cls d σ H => ∃ b, PySem.W.exmOne K cls c = some b ∧ (b = true → ∀ a, H a = none → ts a cls d D σ H) ∧ (b = false → wCl K Wout D r cls d σ H)
  | (c, some i, ts) :: r => fun cls d σ H => ∃ b, PySem.W.exmOne K cls c = some b ∧ (b = true → ∀ a, H a = none → ts a cls d (goneE D i) (σ.set i (some (.ref a))) H) ∧ (b = false → wCl K Wout D r cls d σ H)
inductive ClsOk (X : Cx) : List ExceptHandler → List Clause → Prop
  | nil : ClsOk X [] []
  | plain {x : Str} {c : Value} {ts : Addr → Value → Option Addr → TS} {b₀ : Stmt} {suite : List Stmt} {np pos' : Pos} {hds : List ExceptHandler} {l : List Clause} (hc : Names X x c)
      (hsu : ∀ (a : Addr) (oe : Obj) (cls : Value) (d : Option Addr) (pn : List (Addr × Obj)), Zc cls d oe → (∃ vs, oe.data = .fields vs) → PSs (X.suite a ((a, oe) :: pn)) (b₀ :: suite) (ts a cls d)) (r : ClsOk X hds l) :
      ClsOk X (.ExceptHandler (some (.Name x np)) none (b₀ :: suite) pos' :: hds) ((c, none, ts) :: l)
  | named {x n : Str} {i : Nat} {c : Value} {ts : Addr → Value → Option Addr → TS} {b₀ : Stmt} {suite : List Stmt} {np pos' : Pos} {hds : List ExceptHandler} {l : List Clause} (hi : X.N[i]? = some n) (hln : X.env.kindOf n = some .local) (hc : Names X x c)
      (hsu : ∀ (a : Addr) (oe : Obj) (cls : Value) (d : Option Addr) (pn : List (Addr × Obj)), Zc cls d oe → (∃ vs, oe.data = .fields vs) → PSs (X.suite a ((a, oe) :: pn)) (b₀ :: suite) (ts a cls d)) (r : ClsOk X hds l) :
      ClsOk X (.ExceptHandler (some (.Name x np)) (some n) (b₀ :: suite) pos' :: hds) ((c, some i, ts) :: l)
section
variable {X : Cx} {body : List Stmt} {h₀ : ExceptHandler} {hds : List ExceptHandler} {l : List Clause} {pos : Pos} {tb : WX → TS} {Wout : WX}
theorem ps_try_cl (hs : X.stack = X.env :: X.outer) (hf : X.env.frame = some X.env.locals) (hN : X.N.Nodup) (tk : Takes X Wout)
    (hb : ∀ (W : WX) (pn : List (Addr × Obj)) (xe : Value → Shared → Prop), Takes (X.tr pn xe) W → PassesOwn (model X.prog X.w) X.A X.env xe → PSs (X.tr pn xe) body (tb W))
    (hh : ClsOk X (h₀ :: hds) l) : PS X (.Try body (h₀ :: hds) [] [] pos) (fun D σ H => tb (wCl X.K Wout D l) D σ H) := by
  refine ⟨fun pins s σ H D I h => ?_⟩
  have ok := I.ok
  have hfr : X.A.frames = some (X.env :: X.outer) := by rw [ok.frames, hs]
  refine wpAny_Try_except ?_
  refine wpAny_mono ((hb (wCl X.K Wout D l) (X.pn ++ pins) (fun e s₁ => wpAny (model X.prog X.w) X.A (noteFrame e X.env) (fun _ s₂ => wpAny (model X.prog X.w) X.A (setFlight e none) (fun _ s₃ =>
    wpAny (model X.prog X.w) X.A (handleBy e X.env (h₀ :: hds)) (SP X pins D) X.xe s₃) X.xe s₂) X.xe s₁) (fun u s' xx => ?_) PassesOwn.looking).run [] s σ H D (I.toTry _) h) (fun f s1 hsp => ?_) (fun e s1 he => he)
  · obtain ⟨a, B, sI, pins', σ', H', cls, d, rfl, J', nb, up, sky, na, os, ag, w⟩ := xx
    have J : Inv X pins σ' H' sI := J'.ofTry ok
    have sky' : Sky B (X.env :: X.outer) a (Zc cls d) X.env.locals s'.heap := by rw [← hs]; exact sky
    show wpAny (model X.prog X.w) X.A (noteFrame (.ref a) X.env) _ _ _
    refine Sky.land Zc.steady hfr hf sky' fun h3 fl3 up3 => ?_
    have J3 : Inv X pins σ' H' { s' with heap := h3 } := J.landed nb fl3.1 (up.trans up3) os ag
    obtain ⟨oe3, vs3, he3, hz3, hd3⟩ := fl3.there
    have notFr : ∀ {h : Heap} {o : Obj} {vs : Array Value}, h.FunFrames B (X.env :: X.outer) → h.get? a = some o → o.data = .fields vs → a ∉ frs (X.env :: X.outer) := fun {h o vs} ff e dd hm => by
      obtain ⟨_, o', e', hnf⟩ := ff.mem hm
      rw [e] at e'; cases e'
      exact hnf _ dd
    have nfr := notFr fl3.2.2.1 he3 hd3
    have nL : a ≠ X.env.locals := fun z => nfr (List.mem_filterMap.mpr ⟨X.env, List.mem_cons_self, by rw [hf, z]⟩)
    have nF : a ∉ X.fs := fun hm => by
      obtain ⟨e, he, q⟩ := List.mem_filterMap.mp hm
      exact nfr (List.mem_filterMap.mpr ⟨e, List.mem_cons_of_mem _ he, q⟩)
    have S3 := J3.suite he3 hd3 na nL nF
    have LT : PySem.W.Looks (model X.prog X.w) h3 (typeOf (.ref a)) cls := fun A Q E s k q => wpAny_typeOf_ref (k _ _ he3) (by rw [hz3.1]; exact q)
    have test : ∀ {x : Str} {c : Value} {np : Pos}, Names X x c → ∀ {Q : Value → Shared → Prop} {E : Value → Shared → Prop}, Q c { s' with heap := h3 } → wpAny (model X.prog X.w) (X.A.mark (some (.ref a))) (eval (.Name x np) X.env) Q E { s' with heap := h3 } := fun {x c np} hc {Q E} q => by
      obtain ⟨hg, hdbg, hm | ⟨hm, hv, hnn⟩⟩ := hc
      · exact ld_glob (X := X.suite a ((a, oe3) :: (X.pn ++ pins))) S3 hg hm q hdbg
      · exact ld_blt (X := X.suite a ((a, oe3) :: (X.pn ++ pins))) S3 hg hm hv q hnn hdbg
    have go : ∀ {hds' : List ExceptHandler} {l' : List Clause}, ClsOk X hds' l' → wCl X.K Wout D l' cls d σ' H' →
        wpAny (model X.prog X.w) X.A (handleBy (.ref a) X.env hds') (SP X pins D) X.xe { s' with heap := h3 } := by
      intro hds' l' hk
      induction hk with
      | nil =>
        intro w
        refine wpAny_handleBy_nil ?_
        obtain ⟨k1, k2, k3, oe, vs, T, oT, ts', he, hz, hd, h1, hr⟩ := id fl3
        unfold PySem.passOn
        refine wpAny_bind (wpAny_field he hd h1 ?_)
        rw [if_neg (show ¬ ((Value.ref T == Value.none) = true) from by simp)]
        have fin : wpAny (model X.prog X.w) X.A (setFlight (.ref a) X.env.frame) (fun _ s4 => wpAny (model X.prog X.w) X.A (throw (.ref a) : Sem Flow) (SP X pins D) X.xe s4) X.xe { s' with heap := h3 } := by
          rw [hf]
          refine HandSPX.setFlight_upZ fl3 fun h4 hh4 up4 => wpAny_throw (tk _ _ ?_)
          exact ⟨a, B, sI, pins, σ', H', cls, d, rfl, J, nb, (up.trans up3).trans up4, .inr (.inr (by rw [hs]; exact hh4)), na, os, ag, w⟩
        first
          | exact wpAny_bind (wpAny_pure (wpAny_bind fin))
          | exact wpAny_bind fin
      | @plain x c ts b₀ suite np pos' hds2 l2 hc hsu r ih =>
        intro w
        obtain ⟨b, hb1, hyes, hno⟩ := w
        refine wpAny_handleBy_cons (codeAny_handlers_test ?_) (by intro q; cases q)
        have LM := PySem.W.exm_one (M := model X.prog X.w) (J3.kIn) LT hb1
        refine test hc (LM.here ?_)
        cases b with
        | true =>
          refine codeAny_handlers_suite ?_
          refine HandSPX.lands_againZ fl3 fun h4 fl4 up4 => ?_
          have J4 : Inv X pins σ' H' { s' with heap := h4 } := J.landed nb fl4.1 ((up.trans up3).trans up4) os ag
          obtain ⟨oe4, vs4, he4, hz4, hd4⟩ := fl4.there
          have S4 := J4.suite he4 hd4 na nL nF
          refine wpAny_mono ((hsu a oe4 cls d (X.pn ++ pins) hz4 ⟨_, hd4⟩).run [] _ _ H' _ S4 (hyes rfl a na)) (fun f s6 hsp => ?_) (fun _ _ z => False.elim z)
          cases f with
          | next =>
            obtain ⟨σ6, H6, S6, q6⟩ := hsp
            exact ⟨_, _, S6.unsuite ok, q6⟩
          | brk =>
            obtain ⟨σ6, H6, S6, q6⟩ := hsp
            exact ⟨_, _, S6.unsuite ok, q6⟩
          | cont =>
            obtain ⟨σ6, H6, S6, q6⟩ := hsp
            exact ⟨_, _, S6.unsuite ok, q6⟩
          | ret u =>
            obtain ⟨v6, σ6, H6, S6, r6, q6⟩ := hsp
            exact ⟨_, _, _, S6.unsuite ok, r6, q6⟩
        | false =>
          show wpAny _ X.A (handleBy (.ref a) X.env hds2) _ _ _
          exact ih (hno rfl)
      | @named x n i c ts b₀ suite np pos' hds2 l2 hi hln hc hsu r ih =>
        intro w
        have hloc : Loc X.env.scope n := .inl hln
        obtain ⟨b, hb1, hyes, hno⟩ := w
        refine wpAny_handleBy_cons (codeAny_handlers_test ?_) (by intro q; cases q)
        have LM := PySem.W.exm_one (M := model X.prog X.w) (J3.kIn) LT hb1
        refine test hc (LM.here ?_)
        cases b with
        | true =>
          refine codeAny_handlers_suite_as ?_
          refine HandSPX.lands_againZ fl3 fun h4 fl4 up4 => ?_
          have J4 : Inv X pins σ' H' { s' with heap := h4 } := J.landed nb fl4.1 ((up.trans up3).trans up4) os ag
          obtain ⟨oe4, vs4, he4, hz4, hd4⟩ := fl4.there
          have S4 := J4.suite he4 hd4 na nL nF
          refine store_ok (X := X.suite a ((a, oe4) :: (X.pn ++ pins))) (v := .ref a) S4 hN hi hloc rfl (fun s5 S5 => ?_) (.inr hln)
          refine wpAny_mono ((hsu a oe4 cls d (X.pn ++ pins) hz4 ⟨_, hd4⟩).run [] s5 _ H' _ S5 (hyes rfl a na)) (fun f s6 hsp => ?_) (fun _ _ z => False.elim z)
          have end_ : ∀ {σ6 : L2.St} {H6 : Hp} {Q : Shared → Prop}, Inv (X.suite a ((a, oe4) :: (X.pn ++ pins))) [] σ6 H6 s6 → (∀ s7, Inv X pins (σ6.set i none) H6 s7 → Q s7) →
              wpAny (model X.prog X.w) X.A (do bindName X.env n .none; unbindBehindTheSuite X.env n pos') (fun _ s7 => Q s7) X.xe s6 := fun {σ6 H6 Q} S6 hq => gone_ok (S6.unsuite ok) hN hi hln hq
          cases f with
          | next =>
            obtain ⟨σ6, H6, S6, q6⟩ := hsp
            exact end_ S6 fun s7 J7 => ⟨_, _, J7, q6⟩
          | brk =>
            obtain ⟨σ6, H6, S6, q6⟩ := hsp
            exact end_ S6 fun s7 J7 => ⟨_, _, J7, q6⟩
          | cont =>
            obtain ⟨σ6, H6, S6, q6⟩ := hsp
            exact end_ S6 fun s7 J7 => ⟨_, _, J7, q6⟩
          | ret u =>
            obtain ⟨v6, σ6, H6, S6, r6, q6⟩ := hsp
            exact end_ S6 fun s7 J7 => ⟨_, _, _, J7, r6, q6⟩
        | false =>
          show wpAny _ X.A (handleBy (.ref a) X.env hds2) _ _ _
          exact ih (hno rfl)
    exact go hh w
  · cases f with
    | next =>
      obtain ⟨σ', H', J', q⟩ := hsp
      exact wpAny_execs_nil ⟨σ', H', J'.ofTry ok, q⟩
    | brk =>
      obtain ⟨σ', H', J', q⟩ := hsp
      exact ⟨σ', H', J'.ofTry ok, q⟩
    | cont =>
      obtain ⟨σ', H', J', q⟩ := hsp
      exact ⟨σ', H', J'.ofTry ok, q⟩
    | ret u =>
      obtain ⟨v, σ', H', J', r, q⟩ := hsp
      exact ⟨v, σ', H', J'.ofTry ok, r, q⟩
end
theorem takes_no {X : Cx} : Takes X fun _ _ _ _ => False := fun u s' ⟨a, B, sI, pins, σ, H, cls, d, e, I, nb, up, sky, na, os, ag, h⟩ => h.elim
/-- nothing is raised where nothing may be -/
theorem passN {X : Cx} : Passes (L2.CX X.prog X.w) X fun _ _ _ => False := fun _ _ _ _ _ _ _ ⟨_, _, _, _, _, _, _, _, _, _, _, _, h⟩ => h.elim
theorem passNo {X : Cx} (σ : L2.St) : PassesAt (L2.CX X.prog X.w) X σ fun _ _ _ => False := fun _ _ _ _ _ _ ⟨_, _, _, _, _, _, _, _, _, _, _, _, h⟩ => h.elim
section
variable {X : Cx} {CX : CXT} {k : Nat} {f C : Addr} {fd : FuncData} {ps : List Str} {sp : Sp} {E : L2.St → XK} {x m : Str} {p pos apos : Pos} {e o : Expr} {es : List Expr} {ta : TE} {t : TA}
/-- o.m(..), the wish of what is raised by the slots -/
def tMethS (C : Addr) (m : Str) (sp : Sp) (E : L2.St → XK) (ta : TE) (t : TA) : TE := fun σ H Q => ta σ H fun x H1 => ∃ a dx fs, x = .ref a ∧ H1 a = some (.ins C dx fs) ∧ fs.lookup m = none ∧ t σ H1 fun vs H2 => sp (x :: vs) H2 Q (E σ)
theorem pe_methAt {pl : Sem Bool} (he : PE X o ta) (c : Cls X.K C) (hm : Meth X.K C m f) (F : FnOk X.prog X.w X.K X.mg X.base CX k f fd ps sp) (hr : Room k X.A) (hb : Binds X.K fd ps []) (hx : ∀ σ, PassesAt CX X σ (E σ)) (ha : PA X (e :: es) t)
    (hst : starEach (e :: es) X.env = (false, eval e X.env) :: starEach es X.env := by rfl) (hpl : (backTo pos (starEach es X.env)).any (·.1) = false := by rfl)
    (ht : eval (.Call (.Attribute o m apos) (e :: es) [] pos) X.env = (do
      let ov ← eval o X.env
      standAt apos.atName
      let (f, first) ← holding [ov] (getMethod ov m pl)
      callWith pos f first (backTo pos (starEach (e :: es) X.env)) (backToKw pos (keywordEach [] X.env))) := by rfl) :
    PE X (.Call (.Attribute o m apos) (e :: es) [] pos) (tMethS C m sp E ta t) := by
  refine ⟨fun pins s σ H Q I h => ?_⟩
  refine PySem.W.methodCall_KW (pl := pl) (thn (he.run pins s σ H _ I h) fun u s1 ⟨x, H1, I1, rx, a, dx, fs, ex, ea, l, q⟩ => ?_) ht
  subst ex
  obtain rfl : u = Value.ref a := rx
  refine getmeth_ok I1 ea c hm l ?_
  refine PySem.W.callWith_K (first := [.ref a]) (h₀ := X.base) I.ok.mod.kin hm.kp (thn (ha.run pos pins s1 σ H1 _ I1 q) fun us s2 ⟨vs, H2, I2, r, q2⟩ => ⟨I2.kIn, ?_⟩) hst hpl
  exact run_fnS (us := .ref a :: us) (vs := .ref a :: vs) F hr hb (hx σ) I2 (.cons rfl r) q2
theorem pe_methAt0 {pl : Sem Bool} (he : PE X o ta) (c : Cls X.K C) (hm : Meth X.K C m f) (F : FnOk X.prog X.w X.K X.mg X.base CX k f fd ps sp) (hr : Room k X.A) (hb : Binds X.K fd ps []) (hx : ∀ σ, PassesAt CX X σ (E σ))
    (ht : eval (.Call (.Attribute o m apos) [] [] pos) X.env = (do
      let ov ← eval o X.env
      standAt apos.atName
      let (f, first) ← holding [ov] (getMethod ov m pl)
      callWith pos f first (backTo pos (starEach [] X.env)) (backToKw pos (keywordEach [] X.env))) := by rfl) :
    PE X (.Call (.Attribute o m apos) [] [] pos) (tMethS C m sp E ta tNil) := by
  refine ⟨fun pins s σ H Q I h => ?_⟩
  refine PySem.W.methodCall_KW (pl := pl) (thn (he.run pins s σ H _ I h) fun u s1 ⟨x, H1, I1, rx, a, dx, fs, ex, ea, l, q⟩ => ?_) ht
  subst ex
  obtain rfl : u = Value.ref a := rx
  refine getmeth_ok I1 ea c hm l ?_
  exact PySem.W.callWith_K0 (first := [.ref a]) I1.kIn hm.kp (run_fnS (us := [.ref a]) (vs := [.ref a]) F hr hb (hx σ) I1 (.cons rfl .nil) q)
end
end Vtr

set_option Elab.async false
set_option linter.all false
set_option maxRecDepth 100000
set_option maxHeartbeats 2000000
/-! Who is called, in one word: a def of the module (Fu), a method (Mo), a property (Pr), an own class made (Nw). -/
namespace Vc
open PySem PySem.Spec PyProof.Rows L2 Evl Vtr Vo
abbrev nil0 : XK := fun _ _ _ => False
structure Fu (P : Program) (w : World) (K : PySem.W.Frag) (mg : Str → Option Value) (base : Heap) (CX : CXT) (k : Nat) (x : Str) (sp : Sp) : Prop where
  ex : ∃ (f : Addr) (fd : FuncData) (ps : List Str), FnOk P w K mg base CX k f fd ps sp ∧ mg x = some (.ref f) ∧ PySem.W.keepIn K (.ref f) = true ∧ L2.Binds K fd ps []
structure Mo (P : Program) (w : World) (K : PySem.W.Frag) (mg : Str → Option Value) (base : Heap) (C : Addr) (CX : CXT) (k : Nat) (m : Str) (sp : Sp) : Prop where
  ex : ∃ (f : Addr) (fd : FuncData) (ps : List Str), FnOk P w K mg base CX k f fd ps sp ∧ Meth K C m f ∧ L2.Binds K fd ps []
structure Pr (P : Program) (w : World) (K : PySem.W.Frag) (mg : Str → Option Value) (base : Heap) (C : Addr) (k : Nat) (m : Str) (sp : Sp) : Prop where
  ex : ∃ (p f : Addr) (fd : FuncData) (ps : List Str), FnOk P w K mg base L2.CX0 k f fd ps sp ∧ PropOf K C m p f ∧ L2.Binds K fd ps []
structure Nw (P : Program) (w : World) (K : PySem.W.Frag) (mg : Str → Option Value) (base : Heap) (C : Addr) (CX : CXT) (k : Nat) (x : Str) (sp : Sp) : Prop where
  ex : ∃ (f : Addr) (fd : FuncData) (ps : List Str), FnOk P w K mg base CX k f fd ps sp ∧ Mk K C f ∧ L2.Binds K fd ps [] ∧ mg x = some (.ref C)
theorem app_nil (vs : List V) : vs ++ [] = vs := List.append_nil vs
section
variable {X : Cx} {C : Addr} {j k : Nat} {x m : Str} {sp : Sp} {E : L2.St → XK} {p pos apos : Pos} {e o : Expr} {es : List Expr} {ta : TE} {t : TA}
/-- the promise, asked of the arguments -/
def tFu (sp : Sp) (E : L2.St → XK) (t : TA) : TE := fun σ H Q => t σ H fun vs H1 => sp vs H1 Q (E σ)
theorem pe_fu (T : Fu X.prog X.w X.K X.mg X.base L2.CX0 k x sp) (hr : Room j X.A) (hg : Gl X x) (ha : PA X (e :: es) t) (hk : k ≤ j := by decide) (hdb : (x == ("__debug__" : Str)) = false := by decide)
    (he : starEach (e :: es) X.env = (false, eval e X.env) :: starEach es X.env := by rfl) (hpl : (backTo pos (starEach es X.env)).any (·.1) = false := by rfl) : PE X (.Call (.Name x p) (e :: es) [] pos) (tFu sp (fun _ => nil0) t) := by
  obtain ⟨f, fd, ps, F, hm, kp, b⟩ := T.ex
  exact pe_callS (E := fun _ => nil0) F (hr.mono hk) hg hm kp b (fun _ _ _ _ _ _ _ h => h.elim) ha hdb he hpl
theorem pe_fuX (T : Fu X.prog X.w X.K X.mg X.base (L2.CX X.prog X.w) k x sp) (hr : Room j X.A) (hg : Gl X x) (hx : ∀ σ, PassesAt (L2.CX X.prog X.w) X σ (E σ)) (ha : PA X (e :: es) t) (hk : k ≤ j := by decide) (hdb : (x == ("__debug__" : Str)) = false := by decide)
    (he : starEach (e :: es) X.env = (false, eval e X.env) :: starEach es X.env := by rfl) (hpl : (backTo pos (starEach es X.env)).any (·.1) = false := by rfl) : PE X (.Call (.Name x p) (e :: es) [] pos) (tFu sp E t) := by
  obtain ⟨f, fd, ps, F, hm, kp, b⟩ := T.ex
  exact pe_callS F (hr.mono hk) hg hm kp b hx ha hdb he hpl
/-- one that may raise, where it raises nothing -/
theorem pe_fuN (T : Fu X.prog X.w X.K X.mg X.base (L2.CX X.prog X.w) k x sp) (hr : Room j X.A) (hg : Gl X x) (ha : PA X (e :: es) t) (hk : k ≤ j := by decide) (hdb : (x == ("__debug__" : Str)) = false := by decide)
    (he : starEach (e :: es) X.env = (false, eval e X.env) :: starEach es X.env := by rfl) (hpl : (backTo pos (starEach es X.env)).any (·.1) = false := by rfl) : PE X (.Call (.Name x p) (e :: es) [] pos) (tFu sp (fun _ => nil0) t) := by
  exact pe_fuX (E := fun _ => nil0) T hr hg (fun σ => passNo σ) ha hk hdb he hpl
theorem pe_mo {pl : Sem Bool} (he : PE X o ta) (c : Cls X.K C) (T : Mo X.prog X.w X.K X.mg X.base C L2.CX0 k m sp) (hr : Room j X.A) (ha : PA X (e :: es) t) (hk : k ≤ j := by decide)
    (hst : starEach (e :: es) X.env = (false, eval e X.env) :: starEach es X.env := by rfl) (hpl : (backTo pos (starEach es X.env)).any (·.1) = false := by rfl)
    (ht : eval (.Call (.Attribute o m apos) (e :: es) [] pos) X.env = (do
      let ov ← eval o X.env
      standAt apos.atName
      let (f, first) ← holding [ov] (getMethod ov m pl)
      callWith pos f first (backTo pos (starEach (e :: es) X.env)) (backToKw pos (keywordEach [] X.env))) := by rfl) :
    PE X (.Call (.Attribute o m apos) (e :: es) [] pos) (tMethS C m sp (fun _ => nil0) ta t) := by
  obtain ⟨f, fd, ps, F, hm, b⟩ := T.ex
  exact pe_methAt (pl := pl) he c hm F (hr.mono hk) b (fun _ _ _ _ _ _ _ h => h.elim) ha hst hpl ht
theorem pe_moX {pl : Sem Bool} (he : PE X o ta) (c : Cls X.K C) (T : Mo X.prog X.w X.K X.mg X.base C (L2.CX X.prog X.w) k m sp) (hr : Room j X.A) (hx : ∀ σ, PassesAt (L2.CX X.prog X.w) X σ (E σ)) (ha : PA X (e :: es) t) (hk : k ≤ j := by decide)
    (hst : starEach (e :: es) X.env = (false, eval e X.env) :: starEach es X.env := by rfl) (hpl : (backTo pos (starEach es X.env)).any (·.1) = false := by rfl)
    (ht : eval (.Call (.Attribute o m apos) (e :: es) [] pos) X.env = (do
      let ov ← eval o X.env
      standAt apos.atName
      let (f, first) ← holding [ov] (getMethod ov m pl)
      callWith pos f first (backTo pos (starEach (e :: es) X.env)) (backToKw pos (keywordEach [] X.env))) := by rfl) :
    PE X (.Call (.Attribute o m apos) (e :: es) [] pos) (tMethS C m sp E ta t) := by
  obtain ⟨f, fd, ps, F, hm, b⟩ := T.ex
  exact pe_methAt (pl := pl) he c hm F (hr.mono hk) b hx ha hst hpl ht
theorem pe_moN {pl : Sem Bool} (he : PE X o ta) (c : Cls X.K C) (T : Mo X.prog X.w X.K X.mg X.base C (L2.CX X.prog X.w) k m sp) (hr : Room j X.A) (ha : PA X (e :: es) t) (hk : k ≤ j := by decide)
    (hst : starEach (e :: es) X.env = (false, eval e X.env) :: starEach es X.env := by rfl) (hpl : (backTo pos (starEach es X.env)).any (·.1) = false := by rfl)
    (ht : eval (.Call (.Attribute o m apos) (e :: es) [] pos) X.env = (do
      let ov ← eval o X.env
      standAt apos.atName
      let (f, first) ← holding [ov] (getMethod ov m pl)
      callWith pos f first (backTo pos (starEach (e :: es) X.env)) (backToKw pos (keywordEach [] X.env))) := by rfl) :
    PE X (.Call (.Attribute o m apos) (e :: es) [] pos) (tMethS C m sp (fun _ => nil0) ta t) := pe_moX (pl := pl) (E := fun _ => nil0) he c T hr (fun σ => passNo σ) ha hk hst hpl ht
theorem pe_mo0 {pl : Sem Bool} (he : PE X o ta) (c : Cls X.K C) (T : Mo X.prog X.w X.K X.mg X.base C L2.CX0 k m sp) (hr : Room j X.A) (hk : k ≤ j := by decide)
    (ht : eval (.Call (.Attribute o m apos) [] [] pos) X.env = (do
      let ov ← eval o X.env
      standAt apos.atName
      let (f, first) ← holding [ov] (getMethod ov m pl)
      callWith pos f first (backTo pos (starEach [] X.env)) (backToKw pos (keywordEach [] X.env))) := by rfl) :
    PE X (.Call (.Attribute o m apos) [] [] pos) (tMethS C m sp (fun _ => nil0) ta tNil) := by
  obtain ⟨f, fd, ps, F, hm, b⟩ := T.ex
  exact pe_methAt0 (pl := pl) he c hm F (hr.mono hk) b (fun _ _ _ _ _ _ _ h => h.elim) ht
theorem pe_mo0X {pl : Sem Bool} (he : PE X o ta) (c : Cls X.K C) (T : Mo X.prog X.w X.K X.mg X.base C (L2.CX X.prog X.w) k m sp) (hr : Room j X.A) (hx : ∀ σ, PassesAt (L2.CX X.prog X.w) X σ (E σ)) (hk : k ≤ j := by decide)
    (ht : eval (.Call (.Attribute o m apos) [] [] pos) X.env = (do
      let ov ← eval o X.env
      standAt apos.atName
      let (f, first) ← holding [ov] (getMethod ov m pl)
      callWith pos f first (backTo pos (starEach [] X.env)) (backToKw pos (keywordEach [] X.env))) := by rfl) :
    PE X (.Call (.Attribute o m apos) [] [] pos) (tMethS C m sp E ta tNil) := by
  obtain ⟨f, fd, ps, F, hm, b⟩ := T.ex
  exact pe_methAt0 (pl := pl) he c hm F (hr.mono hk) b hx ht
/-- o.m, a property -/
def tPr (C : Addr) (sp : Sp) (ta : TE) : TE := fun σ H Q => ta σ H fun x H1 => ∃ a dx fs, x = .ref a ∧ H1 a = some (.ins C dx fs) ∧ sp [.ref a] H1 Q nil0
theorem pe_pr (he : PE X e ta) (c : Cls X.K C) (T : Pr X.prog X.w X.K X.mg X.base C k m sp) (hr : Room j X.A) (hk : k + 1 ≤ j := by decide) (hab : attributeBase e m X.env (eval e X.env) = eval e X.env := by rfl) :
    PE X (.Attribute e m pos) (tPr C sp ta) := by
  obtain ⟨p, f, fd, ps, F, hp, b⟩ := T.ex
  refine ⟨(pe_prop (E := nil0) he c hp F (hr.mono hk) b .nil (fun _ _ _ _ _ _ _ h => h.elim) hab).run⟩
/-- C(..) of an own class -/
def tNw (C : Addr) (sp : Sp) (E : L2.St → XK) (t : TA) : TE := fun σ H Q => t σ H fun vs H1 => ∀ x dx, H1 x = none → H1 dx = none → dx ≠ x → sp (.ref x :: vs) (upd (upd H1 dx (.own x)) x (.ins C dx [])) (fun v H2 => v = .non ∧ Q (.ref x) H2) (E σ)
theorem pe_nw0 (T : Nw X.prog X.w X.K X.mg X.base C L2.CX0 k x sp) (hr : Room j X.A) (hg : Gl X x) (hk : k + 1 ≤ j := by decide) (hdb : (x == ("__debug__" : Str)) = false := by decide) :
    PE X (.Call (.Name x p) [] [] pos) (tNw C sp (fun _ => nil0) tNil) := by
  obtain ⟨f, fd, ps, F, M, b, hm⟩ := T.ex
  exact ⟨(pe_make0 (E := nil0) M F (hr.mono hk) hg hm b .nil (fun _ _ _ _ _ _ _ h => h.elim) hdb).run⟩
theorem pe_nw (T : Nw X.prog X.w X.K X.mg X.base C L2.CX0 k x sp) (hr : Room j X.A) (hg : Gl X x) (ha : PA X (e :: es) t) (hk : k + 1 ≤ j := by decide) (hdb : (x == ("__debug__" : Str)) = false := by decide)
    (hs : starEach (e :: es) X.env = (false, eval e X.env) :: starEach es X.env := by rfl) (hpl : (backTo pos (starEach es X.env)).any (·.1) = false := by rfl) : PE X (.Call (.Name x p) (e :: es) [] pos) (tNw C sp (fun _ => nil0) t) := by
  obtain ⟨f, fd, ps, F, M, b, hm⟩ := T.ex
  refine Vl.pe_weak (pe_make (E := nil0) M F (hr.mono hk) hg hm b .nil (fun _ _ _ _ _ _ _ h => h.elim) ha hdb hs hpl) fun σ H Q h => ?_
  unfold tMake
  simp only [app_nil]
  exact h
/-- y in o, y not in o -/
theorem op_inM (T : Mo X.prog X.w X.K X.mg X.base C L2.CX0 k "__contains__" sp) (hr : Room j X.A) (hk : k ≤ j := by decide) : OpR X (compareOp .In) (rHas C false sp nil0) := by
  obtain ⟨f, fd, ps, F, hm, b⟩ := T.ex
  exact op_inO hm F (hr.mono hk) b (fun _ _ _ _ _ _ _ h => h.elim)
theorem op_notInM (T : Mo X.prog X.w X.K X.mg X.base C L2.CX0 k "__contains__" sp) (hr : Room j X.A) (hk : k ≤ j := by decide) : OpR X (compareOp .NotIn) (rHas C true sp nil0) := by
  obtain ⟨f, fd, ps, F, hm, b⟩ := T.ex
  exact op_notInO hm F (hr.mono hk) b (fun _ _ _ _ _ _ _ h => h.elim)
end
/-- o[i] of an own class -/
structure Gt (P : Program) (w : World) (K : PySem.W.Frag) (mg : Str → Option Value) (base : Heap) (C : Addr) (CX : CXT) (k : Nat) (sp : Sp) : Prop where
  ex : ∃ (f : Addr) (fd : FuncData) (ps : List Str), FnOk P w K mg base CX k f fd ps sp ∧ Meth K C "__getitem__" f ∧ L2.Binds K fd ps [] ∧ PySem.W.fnIn K f = true
abbrev tIxM (C : Addr) (sp : Sp) (E : L2.St → XK) (ta tb : TE) : TE := tOwn2 C (fun _ => True) sp E ta tb
section
variable {X : Cx} {C : Addr} {j k : Nat} {sp : Sp} {E : L2.St → XK} {pos : Pos} {a b : Expr} {ta tb : TE}
theorem pe_ixX (T : Gt X.prog X.w X.K X.mg X.base C (L2.CX X.prog X.w) k sp) (hr : Room j X.A) (hx : ∀ st, PassesAt (L2.CX X.prog X.w) X st (E st)) (ha : PE X a ta) (hi : PE X b tb) (hk : k + 1 ≤ j := by decide)
    (hs : ∀ o i, subscripted b true (.ref o) i = runValue (.builtin "lifetime.subscript" ⟨[.ref o, i], []⟩) := by intro _ _; rfl) : PE X (.Subscript a b pos) (tIxM C sp E ta tb) := by
  obtain ⟨f, fd, ps, F, hm, b', hf⟩ := T.ex
  exact pe_ixO hm hf F (hr.mono hk) b' hx ha hi hs
theorem pe_ixN (T : Gt X.prog X.w X.K X.mg X.base C (L2.CX X.prog X.w) k sp) (hr : Room j X.A) (ha : PE X a ta) (hi : PE X b tb) (hk : k + 1 ≤ j := by decide)
    (hs : ∀ o i, subscripted b true (.ref o) i = runValue (.builtin "lifetime.subscript" ⟨[.ref o, i], []⟩) := by intro _ _; rfl) : PE X (.Subscript a b pos) (tIxM C sp (fun _ => nil0) ta tb) := pe_ixX (E := fun _ => nil0) T hr (fun σ => passNo σ) ha hi hk hs
/-- len(o) -/
def rLenM (C : Addr) (sp : Sp) : List V → Hp → VK → Prop := fun xs H Q => ∃ o dx fs, xs = [.ref o] ∧ H o = some (.ins C dx fs) ∧ sp [.ref o] H (fun v H1 => ∃ n : Nat, v = .int n ∧ n < 2 ^ 62 ∧ Q (.int n) H1) nil0
theorem call_lenM (T : Mo X.prog X.w X.K X.mg X.base C L2.CX0 k "__len__" sp) (hr : Room j X.A) (hk : k + 1 ≤ j := by decide) : CallR X (.builtin "len") (rLenM C sp) := by
  obtain ⟨f, fd, ps, F, hm, b⟩ := T.ex
  exact call_lenO (E1 := nil0) hm hm.fn F (hr.mono hk) b (fun _ _ _ _ _ _ _ h => h.elim)
theorem pe_negM (T : Mo X.prog X.w X.K X.mg X.base C L2.CX0 k "__neg__" sp) (hr : Room j X.A) (ha : PE X a ta) (hk : k ≤ j := by decide) : PE X (.UnaryOp .USub a pos) (tOwn1 C sp (fun _ => nil0) ta) := by
  obtain ⟨f, fd, ps, F, hm, b⟩ := T.ex
  exact pe_negO (E := fun _ => nil0) hm F (hr.mono hk) b (fun _ _ _ _ _ _ _ h => h.elim) ha
end
/-! ### what they are made of -/
section
variable {P : Program} {w : World} {K : PySem.W.Frag} {mg : Str → Option Value} {base : Heap} {CX : CXT} {k : Nat} {f C : Addr} {fd : FuncData} {ps : List Str} {sp : Sp} {x m : Str}
theorem Fu.of (F : FnOk P w K mg base CX k f fd ps sp) (hm : mg x = some (.ref f)) (kp : PySem.W.keepIn K (.ref f) = true) (b : L2.Binds K fd ps []) : Fu P w K mg base CX k x sp := ⟨f, fd, ps, F, hm, kp, b⟩
theorem Mo.of (F : FnOk P w K mg base CX k f fd ps sp) (hm : Meth K C m f) (b : L2.Binds K fd ps []) : Mo P w K mg base C CX k m sp := ⟨f, fd, ps, F, hm, b⟩
theorem Fu.mono {j : Nat} (T : Fu P w K mg base CX k x sp) (h : k ≤ j) : Fu P w K mg base CX j x sp := by
  obtain ⟨f, fd, ps, F, r⟩ := T.ex
  exact ⟨f, fd, ps, F.mono h, r⟩
end
/-! ### what they come to -/
section
variable {K : PySem.W.Frag} {σ : L2.St} {H : Hp} {z : V}
theorem ev_fu {sp : Sp} {E : L2.St → XK} {vs : List V} {ta : TA} (h : EvA ta σ H vs) (hs : SpV sp vs H z) : Ev (tFu sp E ta) σ H z := fun H1 e Q q =>
  h H1 e _ fun H2 e2 => hs H2 (e.trans e2) Q (fun H3 e3 => q H3 (e2.trans e3)) (E σ)
theorem el_fu {sp : Sp} {E : L2.St → XK} {vs xs : List V} {ta : TA} (h : EvA ta σ H vs) (hs : SpL sp vs H xs) : EvL (tFu sp E ta) σ H xs := fun H1 e Q q =>
  h H1 e _ fun H2 e2 => hs H2 (e.trans e2) Q (fun p H3 hp e3 h3 => q p H3 (fresh_back e2 hp) (e2.trans e3) h3) (E σ)
def SpU (sp : Sp) (vs : List V) (H : Hp) (xs : List V) : Prop := ∀ H1, Ex H H1 → ∀ Q : VK, (∀ p H2, H1 p = none → Ex H1 H2 → H2 p = some (.tup xs) → Q (.ref p) H2) → ∀ E : XK, sp vs H1 Q E
/-- a method on an object -/
theorem ev_me {C : Addr} {m : Str} {sp : Sp} {E : L2.St → XK} {te : TE} {ta : TA} {o dx : Addr} {fs : List (Str × V)} {vs : List V} (h : Ev te σ H (.ref o)) (ho : H o = some (.ins C dx fs)) (hl : fs.lookup m = none) (ha : EvA ta σ H vs) (hs : SpV sp (.ref o :: vs) H z) :
    Ev (tMethS C m sp E te ta) σ H z := fun H1 e Q q => h H1 e _ fun H2 e2 => ⟨o, dx, fs, rfl, (e.trans e2) _ _ ho, hl, ha H2 (e.trans e2) _ fun H3 e3 => hs H3 ((e.trans e2).trans e3) Q (fun H4 e4 => q H4 ((e2.trans e3).trans e4)) (E σ)⟩
theorem eu_me {C : Addr} {m : Str} {sp : Sp} {E : L2.St → XK} {te : TE} {ta : TA} {o dx : Addr} {fs : List (Str × V)} {vs xs : List V} (h : Ev te σ H (.ref o)) (ho : H o = some (.ins C dx fs)) (hl : fs.lookup m = none) (ha : EvA ta σ H vs) (hs : SpU sp (.ref o :: vs) H xs) :
    EvU (tMethS C m sp E te ta) σ H xs := fun H1 e Q q => h H1 e _ fun H2 e2 => ⟨o, dx, fs, rfl, (e.trans e2) _ _ ho, hl, ha H2 (e.trans e2) _ fun H3 e3 => hs H3 ((e.trans e2).trans e3) Q (fun p H4 hp e4 h4 => q p H4 (fresh_back (e2.trans e3) hp) ((e2.trans e3).trans e4) h4) (E σ)⟩
theorem eu_pr {C : Addr} {sp : Sp} {te : TE} {o dx : Addr} {fs : List (Str × V)} {xs : List V} (h : Ev te σ H (.ref o)) (ho : H o = some (.ins C dx fs)) (hs : SpU sp [.ref o] H xs) : EvU (tPr C sp te) σ H xs := fun H1 e Q q =>
  h H1 e _ fun H2 e2 => ⟨o, dx, fs, rfl, (e.trans e2) _ _ ho, hs H2 (e.trans e2) Q (fun p H4 hp e4 h4 => q p H4 (fresh_back e2 hp) (e2.trans e4) h4) nil0⟩
theorem ev_has {C : Addr} {neg : Bool} {sp : Sp} {ta tb : TE} {y : V} {o dx : Addr} {fs : List (Str × V)} {b : Bool} (hy : Ev ta σ H y) (h : Ev tb σ H (.ref o)) (ho : H o = some (.ins C dx fs)) (hs : SpV sp [.ref o, y] H (.bl b)) :
    Ev (tOp (rHas C neg sp nil0) ta tb) σ H (.bl (if neg = true then !b else b)) := ev_op hy h fun H1 e Q q => ⟨o, dx, fs, rfl, e _ _ ho, hs H1 e _ (fun H2 e2 => ⟨b, rfl, q H2 e2⟩) nil0⟩
/-- o[i], i a new tuple -/
theorem eu_ixM {C : Addr} {sp : Sp} {E : L2.St → XK} {ta tb : TE} {o dx : Addr} {fs : List (Str × V)} {is xs : List V} (h : Ev ta σ H (.ref o)) (ho : H o = some (.ins C dx fs)) (hi : EvU tb σ H is) (hs : ∀ t H1, Ex H H1 → H1 t = some (.tup is) → SpU sp [.ref o, .ref t] H1 xs) :
    EvU (tIxM C sp E ta tb) σ H xs := fun H1 e Q q => h H1 e _ fun H2 e2 => hi H2 (e.trans e2) _ fun t H3 ht e3 h3 => ⟨o, dx, fs, rfl, ((e.trans e2).trans e3) _ _ ho, trivial, hs t H3 ((e.trans e2).trans e3) h3 H3 (Ex.refl _) Q (fun p H4 hp e4 h4 => q p H4 (fresh_back (e2.trans e3) hp) ((e2.trans e3).trans e4) h4) (E σ)⟩
theorem ev_lenM {C : Addr} {sp : Sp} {ta : TE} {o dx : Addr} {fs : List (Str × V)} {n : Nat} (h : Ev ta σ H (.ref o)) (ho : H o = some (.ins C dx fs)) (hn : n < 2 ^ 62) (hs : SpV sp [.ref o] H (.int n)) : Ev (tCB (rLenM C sp) (tCons ta tNil)) σ H (.int n) :=
  fun H1 e Q q => h H1 e _ fun H2 e2 => ⟨o, dx, fs, rfl, (e.trans e2) _ _ ho, hs H2 (e.trans e2) _ (fun H3 e3 => ⟨n, rfl, hn, q H3 (e2.trans e3)⟩) nil0⟩
/-- a comparison of two new tuples, of two values at addresses -/
theorem ev_opT {r : R2} {ta tb : TE} {xs ys : List V} {K : PySem.W.Frag} (h : EvU ta σ H xs) (h2 : EvU tb σ H ys) (hr : ∀ p q H1, SqT K H1 p xs → SqT K H1 q ys → Ex H H1 → RV r (.ref p) (.ref q) H1 z) : Ev (tOp r ta tb) σ H z :=
  ev_opUU h h2 fun p q H1 hp hq e => hr p q H1 (.inl (.inl hp)) (.inl (.inl hq)) e
end
end Vc

set_option Elab.async false
set_option linter.all false
set_option maxRecDepth 100000
set_option maxHeartbeats 2000000
/-! An error of the program, with one field, raised about a variable's value. -/
namespace Vx2
open PySem PySem.Spec PyProof.Rows L2 Vl Evl
/-- the error of the class at CN about y, its field called f -/
def RaisedF (CN : Addr) (f : Str) (H : Hp) (y : V) (E : XK) : Prop := ∀ d H', Ex H H' → H' d = some (.xd [(f, y)]) → E (.ref CN) (some d) H'
theorem raised_f {CN : Addr} {f : Str} {te : TE} {st : L2.St} {H : Hp} {y : V} {W : WX} (i : Nat) (h : te = tVar i) (hy : st[i]? = some (some y)) (q : RaisedF CN f H y fun cls d H' => W cls d st H') :
    tMkO CN (spIni CN f) [] (tCons te tNil) st H (fun cls d H' => W cls d st H') := by
  subst h
  refine ⟨y, hy, by show 1 ≤ 1000; omega, fun a na => ?_⟩
  refine ⟨a, y, rfl, upd_same, fun dx n1 n2 => ?_⟩
  have nd : H dx = none := by rw [upd_ne n2] at n1; exact n1
  refine ⟨rfl, dx, [(f, y)], upd_same, by rw [upd_ne n2, upd_same], nd, ?_⟩
  refine q dx _ (fun b o hb => ?_) upd_same
  rw [upd_ne (ne_of_none hb nd), del_ne (ne_of_none hb na), upd_ne (ne_of_none hb na), upd_ne (ne_of_none hb nd), upd_ne (ne_of_none hb na)]
  exact hb
/-- what is asked of such a class to be raised, and its __init__ -/
structure Err1 (P : Program) (w : World) (K : PySem.W.Frag) (mg : Str → Option Value) (base : Heap) (x f : Str) (C : Addr) : Prop where
  T : OexC K C
  X : XfC K C
  no : PySem.W.findIn K (.ref C) f = some none
  g : mg x = some (.ref C)
  ini : ∃ fI fd, PySem.W.findIn K (.ref C) "__init__" = some (some (.ref fI)) ∧ PySem.W.typeIn K (.ref fI) = some (.type "function") ∧ Binds K fd ["self", f] [] ∧ FnOk P w K mg base CX0 1 fI fd ["self", f] (spIni C f)
end Vx2

set_option Elab.async false
set_option linter.all false
set_option maxRecDepth 100000
set_option maxHeartbeats 2000000
/-! The head's facts as a list; what they say of classes, errors, properties. -/
namespace Vh
open PySem PySem.Spec PyProof.Rows L2 Vx2 Vc
abbrev Fact : Type := Fg → Bool
def allF (fs : List Fact) (K : Fg) : Bool := fs.all fun g => g K
theorem fact_at {fs : List Fact} {K : Fg} (h : allF fs K = true) (i : Nat) {g : Fact} (e : fs[i]? = some g := by rfl) : g K = true := List.all_eq_true.mp h g (List.mem_of_getElem? e)
def glosF (xs : List Str) : Fact := fun K => xs.all fun x => (He.Fa.glo x).ok K
def freesF (xs : List Str) : Fact := fun K => xs.all fun x => (He.Fa.free x).ok K
theorem glos_ok {xs : List Str} {K : Fg} {h : Heap} {mg : Str → Option Value} (X : K.In h) (G : h.Ns mainGlobals mg) (c : glosF xs K = true) : ∀ x ∈ xs, mg x = some (.ref (He.ga K x)) := fun x hx => He.glo_ok X G (List.all_eq_true.mp c x hx)
theorem frees_ok {xs : List Str} {K : Fg} {h : Heap} {mg : Str → Option Value} (X : K.In h) (G : h.Ns mainGlobals mg) (c : freesF xs K = true) : ∀ x ∈ xs, mg x = none := fun x hx => He.free_ok X G (List.all_eq_true.mp c x hx)
/-- a class of the program: its methods, its fields' names free -/
def clsF (x : Str) (fs ms : List Str) : Fact := fun K => (He.Fa.cls x).ok K && ((fs.all fun f => (He.Fa.noat x f).ok K) && ms.all fun m => (He.Fa.meth x m).ok K)
structure ClsK (K : Fg) (C : Addr) (fs ms : List Str) : Prop where
  cls : Cls K C
  no : ∀ f ∈ fs, NoAttr K C f
  me : ∀ m ∈ ms, Meth K C m (He.ma K C m)
theorem clsF_ok {x : Str} {fs ms : List Str} {K : Fg} (c : clsF x fs ms K = true) : ClsK K (He.ga K x) fs ms := by
  obtain ⟨c1, c2⟩ := He.ba c
  obtain ⟨c2, c3⟩ := He.ba c2
  exact ⟨He.cls_ok c1, fun f hf => He.noat_ok (List.all_eq_true.mp c2 f hf), fun m hm => He.meth_ok (List.all_eq_true.mp c3 m hm)⟩
/-- a property -/
def prpF (x f : Str) : Fact := fun K =>
  He.eqO (PySem.W.findIn K (.ref (He.ga K x)) f) (some (some (.ref (He.ma K (He.ga K x) f)))) && (He.eqO (PySem.W.specialIn K (.ref (He.ma K (He.ga K x) f)) "__get__") (some (some (.builtin "property.__get__"))) && (decide (PySem.W.takesIn K (.ref (He.ma K (He.ga K x) f)) = some true) &&
  (match PySem.W.recIn K (He.ma K (He.ga K x) f) "property" with
    | some (.ref _ :: _) => true
    | _ => false)))
theorem prpF_ok {x f : Str} {K : Fg} (h : prpF x f K = true) : PropOf K (He.ga K x) f (He.ma K (He.ga K x) f) (pgA K x f) := by
  obtain ⟨h1, h⟩ := He.ba h
  obtain ⟨h2, h⟩ := He.ba h
  obtain ⟨h3, h4⟩ := He.ba h
  refine ⟨He.eqO_ok h1, He.eqO_ok h2, of_decide_eq_true h3, ?_⟩
  unfold pgA
  split at h4
  · next g rest e => exact ⟨rest, by rw [e]⟩
  · cases h4
/-- a class of errors with fields -/
def errF (x : Str) (fs : List Str) : Fact := fun K => errB K (He.ga K x) && iniB K (He.ga K x) fs
/-- a class of errors without an own __init__ -/
def err0F (x : Str) : Fact := fun K => errB K (He.ga K x)
def exmF (xs : List Str) : Fact := fun K => xs.all fun x => xs.all fun y => (He.Fa.exm x y (decide (x = y))).ok K
theorem exmF_ok {xs : List Str} {K : Fg} (h : exmF xs K = true) {x y : Str} (hx : x ∈ xs) (hy : y ∈ xs) : PySem.W.exmOne K (.ref (He.ga K x)) (.ref (He.ga K y)) = some (decide (x = y)) :=
  of_decide_eq_true (List.all_eq_true.mp (List.all_eq_true.mp h x hx) y hy)
def fnF (x m : Str) : Fact := fun K => PySem.W.fnIn K (He.ma K (He.ga K x) m)
def mkF (x : Str) : Fact := fun K => (He.Fa.mkr x).ok K
def strF (x z : Str) : Fact := fun K => (He.Fa.str x z).ok K
def intF (x : Str) (i : Int) : Fact := fun K => (He.Fa.int x i).ok K
theorem err1_of {P : Program} {w : World} {K : Fg} {mg : Str → Option Value} {base : Heap} {x f : Str} {fd : FuncData} (h : errF x [f] K = true) (hk : takB K = true) (g : mg x = some (.ref (He.ga K x)))
    (G : FnOk P w K mg base L2.CX0 1 (He.ma K (He.ga K x) "__init__") fd ["self", f] (Vl.spIni (He.ga K x) f)) (b : L2.Binds K fd ["self", f] []) : Err1 P w K mg base x f (He.ga K x) := by
  obtain ⟨h1, h2⟩ := He.ba h
  obtain ⟨O, XF, IS⟩ := errB_ok h1 hk
  have I := iniB_ok h2
  exact ⟨O, XF, I.no f List.mem_cons_self, g, _, fd, I.iC, I.tI, b, G⟩
end Vh

set_option Elab.async false
set_option linter.all false
set_option maxRecDepth 100000
set_option maxHeartbeats 2000000
/-! The laws' own draws: a pool of three ints, names out of it. -/
namespace Vp
open PySem PySem.Spec PyProof.Rows L2 Vl Evl
/-- a text by its signs -/
def tx (l : List Nat) : Str := ⟨l.toArray⟩
theorem tx_list (l : List Nat) : (tx l).cps.toList = l := rfl
theorem tx_len (l : List Nat) : (tx l).length = l.length := rfl
theorem tx_app (a b : List Nat) : tx a ++ tx b = tx (a ++ b) := by
  show Str.mk (a.toArray ++ b.toArray) = Str.mk (a ++ b).toArray
  rw [List.append_toArray]
theorem tx_one (c : Nat) : (⟨#[c]⟩ : Str) = tx [c] := rfl
theorem tx_inj {a b : List Nat} (h : tx a = tx b) : a = b := by
  have := congrArg (fun z : Str => z.cps.toList) h
  exact this
theorem tx_of (z : Str) : z = tx z.cps.toList := by
  obtain ⟨a⟩ := z
  rfl
theorem tx_cut0 (l : List Nat) (k : Nat) : cutS (tx l) none (some (k : Int)) = tx (l.take k) := by
  show Str.mk _ = Str.mk _
  rw [HT.sIx_nat, HT.sIx_none, tx_len, tx_list, List.drop_zero, Nat.sub_zero, ← List.take_take, List.take_length]
theorem tx_cut1 (l : List Nat) (k : Nat) : cutS (tx l) (some (k : Int)) none = tx (l.drop k) := by
  show Str.mk _ = Str.mk _
  rw [HT.sIx_nat, HT.sIx_none, tx_len, tx_list]
  congr 2
  by_cases h : k ≤ l.length
  · rw [Nat.min_eq_left h, ← List.length_drop, List.take_length]
  · rw [List.drop_of_length_le (by omega), List.drop_of_length_le (by omega), List.take_nil]
def letters : List Nat := [97, 98, 99, 100, 101, 102, 103, 104, 105, 106, 107, 108, 109, 110, 111, 112, 113, 114, 115, 116, 117, 118, 119, 120, 121, 122]
def digits : List Nat := [48, 49, 50, 51, 52, 53, 54, 55, 56, 57]
def signs : List Nat := letters ++ digits
/-- the signs of a name: a small letter, then up to seven small letters and figures -/
def nam (l : List Nat) : Prop := ∃ c r, l = c :: r ∧ c ∈ letters ∧ (∀ x ∈ r, x ∈ signs) ∧ r.length ≤ 7
theorem nam_len {l : List Nat} (h : nam l) : 1 ≤ l.length ∧ l.length ≤ 8 := by
  obtain ⟨c, r, rfl, _, _, h4⟩ := h
  rw [List.length_cons]
  omega
theorem letters_signs {c : Nat} (h : c ∈ letters) : c ∈ signs := List.mem_append_left _ h
theorem nam_signs {l : List Nat} (h : nam l) : ∀ x ∈ l, x ∈ signs := by
  obtain ⟨c, r, rfl, h2, h3, _⟩ := h
  intro x hx
  rcases List.mem_cons.mp hx with rfl | hx
  · exact letters_signs h2
  · exact h3 x hx
theorem nam_take {l : List Nat} (h : nam l) (k : Nat) : nam (l.take (k + 1)) := by
  obtain ⟨c, r, rfl, h2, h3, h4⟩ := h
  refine ⟨c, r.take k, List.take_succ_cons, h2, fun x hx => h3 x (List.mem_of_mem_take hx), ?_⟩
  rw [List.length_take]
  omega
/-- a pool stands at p, its counter at most n -/
def PoolAt (H : Hp) (p : Addr) (n : Nat) : Prop := ∃ a b c : Int, H p = some (.lst [.int a, .int b, .int c]) ∧ 0 ≤ b ∧ b < 1000000007 ∧ 0 ≤ c ∧ c ≤ n
theorem PoolAt.mono {H : Hp} {p : Addr} {n m : Nat} (h : PoolAt H p n) (hm : n ≤ m) : PoolAt H p m := by
  obtain ⟨a, b, c, h1, h2, h3, h4, h5⟩ := h
  exact ⟨a, b, c, h1, h2, h3, h4, by omega⟩
/-- all but what stands at p -/
def Wo (H : Hp) (p : Addr) : Hp := fun b => if b = p then none else H b
theorem wo_self (H : Hp) (p : Addr) : Wo H p p = none := if_pos rfl
theorem wo_ne {H : Hp} {p b : Addr} (h : b ≠ p) : Wo H p b = H b := if_neg h
theorem wo_ex (H : Hp) (p : Addr) : Ex (Wo H p) H := fun b o e => by
  by_cases h : b = p
  · rw [h, wo_self] at e
    cases e
  · rw [wo_ne h] at e
    exact e
theorem wo_of {Hk H : Hp} {p : Addr} (h : Hk p = none) (e : Ex Hk H) : Ex Hk (Wo H p) := fun b o hb => by
  rw [wo_ne (ne_of_none hb h)]
  exact e b o hb
theorem wo_at {H : Hp} {p b : Addr} {o : HO} (h : H b = some o) (hb : b ≠ p) : Wo H p b = some o := by
  rw [wo_ne hb]
  exact h
/-- what is known is Hk, all but the pool at p; the pool stands there -/
structure Pl (Hk : Hp) (p : Addr) (n : Nat) (H : Hp) : Prop where
  no : Hk p = none
  ex : Ex Hk H
  at_ : PoolAt H p n
theorem Pl.re {Hk H : Hp} {p : Addr} {n : Nat} (h : Pl Hk p n H) : Pl (Wo H p) p n H := ⟨wo_self _ _, wo_ex _ _, h.at_⟩
theorem Pl.wo {Hk H : Hp} {p : Addr} {n : Nat} (h : Pl Hk p n H) : Ex Hk (Wo H p) := wo_of h.no h.ex
theorem Pl.grow {Hk H H' : Hp} {p : Addr} {n : Nat} (h : Pl Hk p n H) (e : Ex H H') : Pl Hk p n H' := by
  obtain ⟨a, b, c, h1, h2⟩ := h.at_
  exact ⟨h.no, h.ex.trans e, a, b, c, e _ _ h1, h2⟩
theorem Pl.cnt {Hk H : Hp} {p : Addr} {n m : Nat} (h : Pl Hk p n H) (hm : n ≤ m) : Pl Hk p m H := ⟨h.no, h.ex, h.at_.mono hm⟩
theorem Pl.sub {Hk Hj H : Hp} {p : Addr} {n : Nat} (h : Pl Hk p n H) (e : Ex Hj Hk) (hn : Hj p = none) : Pl Hj p n H := ⟨hn, e.trans h.ex, h.at_⟩
/-- a new object beside the pool -/
theorem Pl.new {Hk H : Hp} {p q : Addr} {n : Nat} {o : HO} (h : Pl Hk p n H) (hq : H q = none) : Pl Hk p n (upd H q o) := h.grow (Ex.new hq)
theorem Pl.ne {Hk H : Hp} {p q : Addr} {n : Nat} (h : Pl Hk p n H) (hq : H q = none) : q ≠ p := fun z => by
  obtain ⟨a, b, c, h1, _⟩ := h.at_
  rw [z, h1] at hq
  cases hq
/-! promises -/
def spPool : Sp := fun vs H Q _ => ∃ c : Int, vs = [.int c] ∧ ∀ p H', H p = none → Ex H H' → PoolAt H' p 0 → Q (.ref p) H'
def spTake : Sp := fun vs H Q _ => ∃ (p : Addr) (m : Int) (Hk : Hp) (n : Nat), vs = [.ref p, .int m] ∧ 1 ≤ m ∧ m ≤ 100000 ∧ Pl Hk p n H ∧ n ≤ 100000 ∧
  ∀ (r : Int) H', 0 ≤ r → r < m → Pl Hk p (n + 1) H' → Q (.int r) H'
/-- names, none of them twice -/
def Names (xs : List (List Nat)) : Prop := (∀ l ∈ xs, nam l) ∧ xs.Nodup
def vtx (xs : List (List Nat)) : List V := xs.map fun l => V.str (tx l)
theorem vtx_len (xs : List (List Nat)) : (vtx xs).length = xs.length := List.length_map _
theorem vtx_app (xs ys : List (List Nat)) : vtx (xs ++ ys) = vtx xs ++ vtx ys := List.map_append
theorem vtx_at {xs : List (List Nat)} {i : Nat} {l : List Nat} (h : xs[i]? = some l) : (vtx xs)[i]? = some (V.str (tx l)) := by
  unfold vtx
  rw [List.getElem?_map, h]
  rfl
def spNames : Sp := fun vs H Q _ => ∃ (p : Addr) (m : Nat) (Hk : Hp) (n : Nat), vs = [.ref p, .int (m : Int)] ∧ m ≤ 8 ∧ Pl Hk p n H ∧ n ≤ 90000 ∧
  ∀ q xs H', H q = none → Pl Hk p (n + 50) H' → H' q = some (.lst (vtx xs)) → xs.length = m → Names xs → Q (.ref q) H'
/-- words out of names -/
def spWord : Sp := fun vs H Q _ => ∃ (p q : Addr) (xs : List (List Nat)) (m : Nat) (Hk : Hp) (n : Nat), vs = [.ref p, .ref q, .int (m : Int)] ∧ 1 ≤ m ∧ m ≤ 30 ∧ Pl Hk p n H ∧ n ≤ 90000 ∧ Hk q = some (.lst (vtx xs)) ∧ 1 ≤ xs.length ∧ xs.length ≤ 1000 ∧
  ∀ d ys H', H d = none → Pl Hk p (n + 50) H' → H' d = some (.lst (vtx ys)) → 1 ≤ ys.length → ys.length ≤ max m 12 → (∀ y ∈ ys, y ∈ xs) → Q (.ref d) H'
theorem mod7 {s i j n : Nat} (hn : n = 26 ∨ n = 36) (hi : i < 26) (hj : j < 26) (h : (s + 7 * i) % n = (s + 7 * j) % n) : i = j := by
  rcases hn with rfl | rfl <;> omega
theorem mod3 {s i j : Nat} (hi : i < 8) (hj : j < 8) (h : (s + 3 * i) % 26 = (s + 3 * j) % 26) : i = j := by omega
theorem nodup_letters : letters.Nodup := by decide
theorem nodup_signs : signs.Nodup := by decide +kernel
theorem len_letters : letters.length = 26 := rfl
theorem len_signs : signs.length = 36 := rfl
theorem nodup_key {α : Type} {l : List α} (h : ∀ (i j : Nat) (y : α), l[i]? = some y → l[j]? = some y → i = j) : l.Nodup := by
  refine List.pairwise_iff_getElem.mpr fun i j hi hj hij e => ?_
  have := h i j l[i] (List.getElem?_eq_getElem hi) (by rw [e]; exact List.getElem?_eq_getElem hj)
  omega
theorem nodup_range {α : Type} {m : Nat} {f : Nat → α} (h : ∀ i j, i < m → j < m → f i = f j → i = j) : ((List.range m).map f).Nodup := by
  refine nodup_key fun i j y hi hj => ?_
  rw [List.getElem?_map] at hi hj
  by_cases a : i < m
  · by_cases b : j < m
    · rw [List.getElem?_range a] at hi
      rw [List.getElem?_range b] at hj
      exact h i j a b ((Option.some.inj hi).trans (Option.some.inj hj).symm)
    · rw [List.getElem?_eq_none (by rw [List.length_range]; omega)] at hj
      cases hj
  · rw [List.getElem?_eq_none (by rw [List.length_range]; omega)] at hi
    cases hi
theorem getD_at {l : List Nat} {i : Nat} (h : i < l.length) : l[i]? = some (l.getD i 0) := by
  rw [List.getElem?_eq_getElem h, List.getD_eq_getElem?_getD, List.getElem?_eq_getElem h]
  rfl
theorem getD_mem {l : List Nat} {i : Nat} (h : i < l.length) : l.getD i 0 ∈ l := List.mem_of_getElem? (getD_at h)
theorem getD_inj {l : List Nat} (hn : l.Nodup) {i j : Nat} (hi : i < l.length) (hj : j < l.length) (h : l.getD i 0 = l.getD j 0) : i = j :=
  nd_ix hn (getD_at hi) (by rw [h]; exact getD_at hj)
theorem nam_one {c : Nat} (h : c ∈ letters) : nam [c] := ⟨c, [], rfl, h, (fun _ z => nomatch z), by show 0 ≤ 7; omega⟩
theorem nam_snoc {l : List Nat} {c : Nat} (h : nam l) (hc : c ∈ signs) (hl : l.length ≤ 7) : nam (l ++ [c]) := by
  obtain ⟨a, r, rfl, h2, h3, h4⟩ := h
  refine ⟨a, r ++ [c], rfl, h2, fun x hx => ?_, ?_⟩
  · rcases List.mem_append.mp hx with hx | hx
    · exact h3 x hx
    · rw [List.mem_singleton.mp hx]
      exact hc
  · rw [List.length_append, List.length_singleton]
    rw [List.length_cons] at hl
    omega
theorem nam_cons {l : List Nat} {c : Nat} (hc : c ∈ letters) (hl : ∀ x ∈ l, x ∈ signs) (h7 : l.length ≤ 7) : nam (c :: l) := ⟨c, l, rfl, hc, hl, h7⟩
/-- a sign put into a stem -/
theorem nam_put {w : List Nat} {c t p : Nat} (hw : nam w) (ht : t ≤ 7) (hp : p ≤ (w.take t).length) (h : p = 0 → c ∈ letters) (h2 : c ∈ signs) :
    nam ((w.take t).take p ++ [c] ++ (w.take t).drop p) := by
  have hm : ∀ x ∈ w.take t, x ∈ signs := fun x hx => nam_signs hw x (List.mem_of_mem_take hx)
  have hl : (w.take t).length ≤ 7 := by rw [List.length_take]; omega
  cases p with
  | zero =>
    rw [List.take_zero, List.nil_append, List.drop_zero]
    exact nam_cons (h rfl) hm hl
  | succ p =>
    obtain ⟨a, r, hw1, ha, hr, h7⟩ := hw
    cases t with
    | zero =>
      rw [List.take_zero] at hp
      exact absurd hp (by show ¬ p + 1 ≤ 0; omega)
    | succ t =>
      rw [hw1, List.take_succ_cons] at hm hl hp ⊢
      rw [List.take_succ_cons, List.drop_succ_cons, List.append_assoc]
      rw [List.length_cons] at hl hp
      refine ⟨a, (r.take t).take p ++ ([c] ++ (r.take t).drop p), rfl, ha, fun x hx => ?_, ?_⟩
      · rcases List.mem_append.mp hx with hx | hx
        · exact hm x (List.mem_cons_of_mem _ (List.mem_of_mem_take hx))
        · rcases List.mem_append.mp hx with hx | hx
          · rw [List.mem_singleton.mp hx]
            exact h2
          · exact hm x (List.mem_cons_of_mem _ (List.mem_of_mem_drop hx))
      · rw [List.length_append, List.length_append, List.length_take, List.length_drop, List.length_singleton]
        omega
theorem put_at {w : List Nat} {c p : Nat} (hp : p ≤ w.length) : (w.take p ++ [c] ++ w.drop p)[p]? = some c := by
  rw [List.append_assoc, List.getElem?_append_right (by rw [List.length_take]; omega), List.length_take, Nat.min_eq_left hp, Nat.sub_self]
  rfl
theorem str_letters : Str.ofString "abcdefghijklmnopqrstuvwxyz" = tx letters := by decide +kernel
theorem str_digits : Str.ofString "0123456789" = tx digits := by decide +kernel
theorem rv_cats {a b : List Nat} {H : Hp} (h : a.length + b.length ≤ 100000) : RV rCatS (.str (tx a)) (.str (tx b)) H (.str (tx (a ++ b))) := by
  intro H1 _ Q q
  refine ⟨tx a, tx b, rfl, rfl, sz_of h, ?_⟩
  rw [tx_app]
  exact q H1 (Ex.refl H1)
theorem fresh_wo {H H' : Hp} {p d : Addr} {n m : Nat} {Hk : Hp} (h0 : Pl Hk p n H) (h : Pl (Wo H p) p m H') (hd : H' d = none) : H d = none := by
  cases e : H d with
  | none => rfl
  | some o =>
    have hp : d ≠ p := h.ne hd
    have := h.ex d o (wo_at e hp)
    rw [hd] at this
    cases this
theorem Pl.back {Hk H H' : Hp} {p : Addr} {n m : Nat} (h0 : Pl Hk p n H) (h : Pl (Wo H p) p m H') : Pl Hk p m H' := h.sub h0.wo h0.no
theorem cutV0 (xs : List V) (k : Nat) : cutV xs none (some (k : Int)) = xs.take k := by
  unfold cutV
  rw [HT.sIx_nat, HT.sIx_none, List.drop_zero, Nat.sub_zero, ← List.take_take, List.take_length]
theorem cutV1 (xs : List V) (k : Nat) : cutV xs (some (k : Int)) none = xs.drop k := by
  unfold cutV
  rw [HT.sIx_nat, HT.sIx_none]
  by_cases h : k ≤ xs.length
  · rw [Nat.min_eq_left h, ← List.length_drop, List.take_length]
  · rw [List.drop_of_length_le (by omega), List.drop_of_length_le (by omega), List.take_nil]
theorem vtx_take (xs : List (List Nat)) (k : Nat) : (vtx xs).take k = vtx (xs.take k) := List.map_take.symm
theorem vtx_drop (xs : List (List Nat)) (k : Nat) : (vtx xs).drop k = vtx (xs.drop k) := List.map_drop.symm
theorem vtx_rep (xs : List (List Nat)) : ∀ k, (List.replicate k (vtx xs)).flatten = vtx (List.replicate k xs).flatten
  | 0 => rfl
  | k + 1 => by
    rw [List.replicate_succ, List.flatten_cons, List.replicate_succ, List.flatten_cons, vtx_rep xs k, vtx_app]
theorem rep_len {α : Type} (xs : List α) : ∀ k, (List.replicate k xs).flatten.length = k * xs.length
  | 0 => by rw [Nat.zero_mul]; rfl
  | k + 1 => by
    rw [List.replicate_succ, List.flatten_cons, List.length_append, rep_len xs k, Nat.succ_mul]
    omega
theorem rep_mem {α : Type} {xs : List α} {y : α} {k : Nat} (h : y ∈ (List.replicate k xs).flatten) : y ∈ xs := by
  obtain ⟨l, hl, hy⟩ := List.mem_flatten.mp h
  rw [(List.mem_replicate.mp hl).2] at hy
  exact hy
end Vp

set_option Elab.async false
set_option linter.all false
set_option maxRecDepth 100000
set_option maxHeartbeats 4000000
/-! o op y by an own operator, y of a built-in type; what the head says of it. -/
namespace Vw
open PySem PySem.Spec PyProof.Rows L2 Vl Evl Vp Vo Vc Vh
/-- values of built-in types, with the type's name -/
def Wr (y : V) (H : Hp) (t : String) : Prop := (∃ b, y = .bl b ∧ t = "bool") ∨ (∃ i, y = .int i ∧ t = "int") ∨ (∃ z, y = .str z ∧ t = "str") ∨ (y = .non ∧ t = "NoneType") ∨
  (∃ a xs, y = .ref a ∧ H a = some (.tup xs) ∧ t = "tuple") ∨ (∃ a xs, y = .ref a ∧ H a = some (.lst xs) ∧ t = "list")
theorem Wr.tyx {K : PySem.W.Frag} {y : V} {H : Hp} {t : String} (h : Wr y H t) : TyX K H y (.type t) := by
  rcases h with ⟨b, rfl, rfl⟩ | ⟨b, rfl, rfl⟩ | ⟨b, rfl, rfl⟩ | ⟨rfl, rfl⟩ | ⟨a, xs, rfl, ha, rfl⟩ | ⟨a, xs, rfl, ha, rfl⟩
  · exact .base (.bl b)
  · exact .base (.int b)
  · exact .base (.str b)
  · exact .base .non
  · exact .base (.tup ha)
  · exact .base (.lst ha)
theorem Wr.mem {y : V} {H : Hp} {t : String} (h : Wr y H t) : t ∈ ["bool", "int", "str", "NoneType", "tuple", "list"] := by
  rcases h with ⟨b, rfl, rfl⟩ | ⟨b, rfl, rfl⟩ | ⟨b, rfl, rfl⟩ | ⟨rfl, rfl⟩ | ⟨a, xs, rfl, ha, rfl⟩ | ⟨a, xs, rfl, ha, rfl⟩ <;> decide
theorem looks_ty {M : Model} {s : Shared} {v : Value} {t : String} (h : s.TypeIs v t) : PySem.W.Looks M s.heap (typeOf v) (.type t) := fun A Q E s' k q => by
  refine wpAny_typeOf ?_ q
  cases v with
  | ref a =>
    obtain ⟨o, h1, h2⟩ := (show ∃ o, s.heap.get? a = some o ∧ o.cls = .type t from h)
    exact ⟨o, k _ _ h1, h2⟩
  | _ => exact h
theorem Wr.looks {X : Cx} {pins : List (Addr × Obj)} {st : L2.St} {H : Hp} {s : Shared} {y : V} {u : Value} {t : String} (I : Inv X pins st H s) (r : RelV y u) (h : Wr y H t) : PySem.W.Looks (model X.prog X.w) s.heap (typeOf u) (.type t) := by
  rcases h with ⟨b, rfl, rfl⟩ | ⟨b, rfl, rfl⟩ | ⟨b, rfl, rfl⟩ | ⟨rfl, rfl⟩ | ⟨a, xs, rfl, ha, rfl⟩ | ⟨a, xs, rfl, ha, rfl⟩
  · cases r
    exact .of_pure rfl
  · obtain ⟨t, rfl⟩ := r
    exact .of_pure rfl
  · obtain ⟨t, rfl⟩ := r
    exact .of_pure rfl
  · cases r
    exact .of_pure rfl
  · cases r
    obtain ⟨its, r', ht, hz⟩ := I.tuple (xs := xs) (.inl (.inl ha))
    exact looks_ty (IsTup.typeIs ht)
  · cases r
    obtain ⟨its, r', ht, hz⟩ := I.list (xs := xs) (sq_of ha)
    exact looks_ty ht.isList.typeIs
abbrev tyNames : List String := ["bool", "int", "str", "NoneType", "tuple", "list"]
structure Ow (P : Program) (w : World) (K : PySem.W.Frag) (mg : Str → Option Value) (base : Heap) (C : Addr) (CX : CXT) (k : Nat) (nm : String) (sp : Sp) : Prop where
  ex : ∃ (f : Addr) (fd : FuncData) (ps : List Str), FnOk P w K mg base CX k f fd ps sp ∧ OwnOp K C nm f ∧ L2.Binds K fd ps []
  far : ∀ t ∈ tyNames, Far K C nm t
def tOw (C : Addr) (sp : Sp) (E : L2.St → XK) (ta tb : TE) : TE := fun st H Q => ta st H fun x H1 => tb st H1 fun y H2 => ∃ o dx fs t, x = .ref o ∧ H2 o = some (.ins C dx fs) ∧ Wr y H2 t ∧ sp [x, y] H2 Q (E st)
section
variable {X : Cx} {C : Addr} {j k : Nat} {sp : Sp} {E : L2.St → XK} {pos : Pos} {a b : Expr} {ta tb : TE} {op : Operator}
theorem pe_owX (T : Ow X.prog X.w X.K X.mg X.base C (L2.CX X.prog X.w) k op.info.2 sp) (hr : Room j X.A) (hx : ∀ st, PassesAt (L2.CX X.prog X.w) X st (E st)) (ha : PE X a ta) (hi : PE X b tb) (hk : k ≤ j := by decide) : PE X (.BinOp a op b pos) (tOw C sp E ta tb) := by
  obtain ⟨f, fd, ps, F, W, B⟩ := T.ex
  exact pe_binO W (fun y H t h => T.far t h.mem) (fun pins st H s y u t I r h => Wr.looks I r h) F (hr.mono hk) B hx ha hi
theorem pe_owN (T : Ow X.prog X.w X.K X.mg X.base C (L2.CX X.prog X.w) k op.info.2 sp) (hr : Room j X.A) (ha : PE X a ta) (hi : PE X b tb) (hk : k ≤ j := by decide) : PE X (.BinOp a op b pos) (tOw C sp (fun _ => nil0) ta tb) :=
  pe_owX (E := fun _ => nil0) T hr (fun σ => Vtr.passNo σ) ha hi hk
end
/-! the head -/
def opB (K : Fg) (C : Addr) (nm : String) : Bool := PySem.W.selfFirst K C && (He.eqO (PySem.W.findIn K (.ref C) (PySem.dunder nm)) (some (some (.ref (He.ma K C (PySem.dunder nm))))) && (PySem.W.isFn K (.ref (He.ma K C (PySem.dunder nm))) && He.eqO (PySem.W.findIn K (.ref C) (dunderR nm)) (some none)))
def farB (K : Fg) (C : Addr) (nm t : String) : Bool := (PySem.W.findIn K (.type t) (PySem.dunder nm)).isSome && ((PySem.W.findIn K (.type t) (dunderR nm)).isSome && decide (PySem.W.subIn K (.type t) (.ref C) = some false))
def owF (x : Str) (nm : String) : Fact := fun K => opB K (He.ga K x) nm && tyNames.all fun t => farB K (He.ga K x) nm t
theorem owF_ok {x : Str} {nm : String} {K : Fg} (h : owF x nm K = true) : OwnOp K (He.ga K x) nm (He.ma K (He.ga K x) (PySem.dunder nm)) ∧ ∀ t ∈ tyNames, Far K (He.ga K x) nm t := by
  obtain ⟨h, g⟩ := He.ba h
  obtain ⟨h1, h⟩ := He.ba h
  obtain ⟨h2, h⟩ := He.ba h
  obtain ⟨h3, h4⟩ := He.ba h
  refine ⟨⟨h1, He.eqO_ok h2, h3, He.eqO_ok h4⟩, fun t ht => ?_⟩
  obtain ⟨g1, g⟩ := He.ba (List.all_eq_true.mp g t ht)
  obtain ⟨g2, g3⟩ := He.ba g
  exact ⟨Option.isSome_iff_exists.mp g1, Option.isSome_iff_exists.mp g2, of_decide_eq_true g3⟩
/-- what the class is not -/
def tyF (x : Str) : Fact := fun K => tyNames.all fun t => PySem.W.notFirst K (He.ga K x) (.type t) && decide (PySem.W.kitOne K (.type t) (.ref (He.ga K x)) = some false)
theorem tyF_ok {x : Str} {K : Fg} (h : tyF x K = true) : (∀ t ∈ tyNames, PySem.W.notFirst K (He.ga K x) (.type t) = true) ∧ ∀ t ∈ tyNames, PySem.W.kitOne K (.type t) (.ref (He.ga K x)) = some false := by
  refine ⟨fun t ht => (He.ba (List.all_eq_true.mp h t ht)).1, fun t ht => of_decide_eq_true (He.ba (List.all_eq_true.mp h t ht)).2⟩
/-- isinstance(o, C) -/
def insF (x : Str) : Fact := fun K => He.eqO (PySem.W.findIn K (.ref (He.ga K x)) "__class__") (some (some (.builtin "object.__class__"))) && (decide (PySem.W.mroIn K (He.ga K x) (.type "object") = some true) && decide (PySem.W.kitOne K (.ref (He.ga K x)) (.ref (He.ga K x)) = some true))
theorem insF_ok {x : Str} {K : Fg} (c : L2.Cls K (He.ga K x)) (h : insF x K = true) (hk : takB K = true) : C8.InsC K (He.ga K x) := by
  obtain ⟨h1, h⟩ := He.ba h
  obtain ⟨h2, h3⟩ := He.ba h
  obtain ⟨k1, k2⟩ := He.ba hk
  exact ⟨c, He.eqO_ok h1, He.eqO_ok k1, of_decide_eq_true k2, of_decide_eq_true h2, of_decide_eq_true h3⟩
def neF (x : Str) : Fact := fun K => Vo.neB K (He.ga K x) (He.ma K (He.ga K x) "__eq__")
end Vw

set_option Elab.async false
set_option linter.all false
set_option maxRecDepth 100000
set_option maxHeartbeats 2000000
/-! tuple(d) of a dict: its keys. -/
namespace Vd
open PySem PySem.Spec PyProof.Rows PySem.W
section
variable {prog : Program} {w : World} {A : Around} {E : Value → Shared → Prop} {s : Shared} {T : String} {r d : Addr} {n : Nat} {P : Nat → Value → Prop} {OK : Heap → Prop}
theorem collect_kdl {Q : List Value → Shared → Prop} (K : KdlSrc prog w T r d n P OK) (hh : A.handled = none) (hok : OK s.heap) (hn : n ≤ sizeLine)
    (hQ : ∀ (h' : Heap) (tk : Nat) (acc : Array Value), (∀ b o, s.heap.get? b = some o → h'.get? b = some o) → ItemsOf P acc n → Q acc.toList { s with heap := h', toks := tk }) :
    wpAny (model prog w) A (collect (.ref r)) Q E s := by
  have lt := K.there _ hok
  have hSr : s.heap.objs.size ≠ r := Nat.ne_of_gt lt.1
  have hSd : s.heap.objs.size ≠ d := Nat.ne_of_gt lt.2
  unfold collect
  refine wpAny_bind (wpAny_runValue (codeAny_builtin F.entry_proto_collect ?_))
  rw [Around.under_plainId F.plain_proto_collect _]
  show wpAny _ A.in1 (newList [] >>= fun l' => again (.builtin "list.__iadd__" ⟨[l', .ref r], []⟩)) _ _ s
  refine wpAny_bind (wpAny_newObj_type ?_)
  refine wpAny_pure ⟨plainId_quiet F.plain_list_iadd _, codeAny_builtin F.entry_list_iadd ?_⟩
  rw [Around.under_plainId F.plain_list_iadd _]
  have hS₁ : (s.heap.push { cls := .type "list", data := .seq ([] : List Value).toArray }).get? s.heap.objs.size = some { cls := .type "list", data := .seq ([] : List Value).toArray } := Heap.get?_push_size _ rfl
  show wpAny _ A.in1 (Builtin.List.listExtendWith (.ref s.heap.objs.size) (.ref r) (.ref s.heap.objs.size)) _ _ _
  refine kdl_extend (R := wants _ E) (A := A) (s := { s with heap := s.heap.push { cls := .type "list", data := .seq ([] : List Value).toArray } }) K hh (K.keep _ _ hok fun b _ o e => Heap.get?_push_of_some _ e) s.heap.objs.size hSr hSd (.ref s.heap.objs.size) 0 hS₁ (fun h' tk acc' c' hk hS' hacc => ?_) hn
  show wpAny _ A (load s.heap.objs.size >>= _) _ _ _
  refine wpAny_bind (wpAny_load hS' ?_)
  refine wpAny_pure ?_
  exact hQ h' tk acc' (fun b o e => hk b o (Nat.ne_of_lt (Heap.lt_size e)) (Heap.get?_push_of_some _ e)) hacc
theorem code_tuple_kdl {Q₁ : Value → Shared → Prop} (K : KdlSrc prog w T r d n P OK) (hh : A.handled = none) (hok : OK s.heap) (hn : n ≤ sizeLine)
    (h : ∀ (h' : Heap) (tk : Nat) (acc : Array Value), (∀ b o, s.heap.get? b = some o → h'.get? b = some o) → ItemsOf P acc n → Q₁ (.ref h'.objs.size) { s with heap := h'.push { cls := .type "tuple", data := .seq acc }, toks := tk }) :
    codeAny (model prog w) A (.call (.builtin "tuple.__new__") ⟨[.type "tuple", .ref r], []⟩) (wants Q₁ E) s := by
  refine codeAny_of_tree ?_
  show wpAny _ A.in1 (do checkBuiltinCall "tuple.__new__" ⟨[.type "tuple", .ref r], []⟩; again (.builtin "tuple.__new__" ⟨[.type "tuple", .ref r], []⟩)) _ _ s
  refine wpAny_bind (wpAny_of_eq (F.newCall_tuple_1 _) (wpAny_pure ⟨plainId_quiet F.plain_tuple_new _, codeAny_builtin F.entry_tuple_new ?_⟩))
  rw [Around.under_plainId F.plain_tuple_new _]
  have hsub := sub_tuple_self
  have hinit := init_tuple_lookup
  have hmh := madeHere_tuple
  have hTI : s.TypeIs (.ref r) T := K.type s hok
  have hnt := K.notTuple
  have hh1 : A.in1.handled = none := hh
  wp_walk using wpAny_typeOf hTI, collect_kdl (A := A.in1) K hh1 hok hn
  intro h' tk acc hk hacc
  show wpAny _ _ (Builtin.Tuple.tupleExact acc.toList.toArray >>= fun v => ret v) _ _ _
  unfold Builtin.Tuple.tupleExact
  refine wpAny_bind (wpAny_newObj_type ?_ (by show acc.toList.toArray.size ≤ sizeLine; simp only [Array.toArray_toList]; rw [hacc.1]; exact hn))
  refine wpAny_pure ?_
  have e : acc.toList.toArray = acc := by simp
  rw [e]
  exact h h' tk acc hk hacc
theorem call_tuple_kdl {Q : Value → Shared → Prop} (K : KdlSrc prog w T r d n P OK) (hh : A.handled = none) (hok : OK s.heap) (hn : n ≤ sizeLine)
    (hQ : ∀ (h' : Heap) (tk : Nat) (acc : Array Value), (∀ b o, s.heap.get? b = some o → h'.get? b = some o) → ItemsOf P acc n → Q (.ref h'.objs.size) { s with heap := h'.push { cls := .type "tuple", data := .seq acc }, toks := tk }) :
    wpAny (model prog w) A (call (.type "tuple") [.ref r]) Q E s := by
  refine callType_codes (Q₁ := fun obj s₁ => s₁.TypeIs obj "tuple" ∧ Q obj s₁) F.called_tuple (F.typeCall_tuple_1 _) F.entry_object_init
    (code_tuple_kdl (A := A.in1) K hh hok hn fun h' tk acc hk hacc => ⟨⟨_, Heap.get?_push_size _ rfl, rfl⟩, hQ h' tk acc hk hacc⟩) fun obj s₁ h₁ => ?_
  exact ⟨h₁.1, F.args_object_init_2 obj _, object_init_meets F.called_tuple.init.lookup F.called_tuple.made (by decide) prog w A.in1 _ s₁ ⟨h₁.1, rfl, h₁.2⟩⟩
end
section
open L2
variable {X : Cx}
/-- tuple(d): its keys -/
theorem call_tupleD (hcalm : X.calm = true) : CallR X (.type "tuple") (fun xs H Q => ∃ (a : Addr) (kvs : List (L2.Key × V)), xs = [.ref a] ∧ Rd H a (.dK kvs) ∧ ∀ p, H p = none → Q (.ref p) (upd H p (.tup (kvs.map fun kv => kV kv.1)))) := by
  intro pins s σ H xs us Q I r q
  obtain ⟨a, kvs, ex, hd, q⟩ := q
  subst ex
  obtain ⟨u, eu, rx⟩ := vals1 r
  subst eu
  cases rx
  obtain ⟨z, lo, vs, rel, dd⟩ := dk_rd I.hok hd
  obtain ⟨ep, hat⟩ := dd.dictAt
  have ek : (kvs.map fun kv => kV kv.1) = vs.map fun p => kV p.1 := by
    have e := congrArg (List.map kV) rel.keys
    rw [List.map_map, List.map_map] at e
    exact e
  refine call_tuple_kdl (PySem.W.kdl_dict (knd := mixKind X.prog X.w) (kvs := vs) (ep := ep) lo) (I.ok.hd hcalm) hat (by rw [← rel.length]; exact z) fun h' tk acc hk hacc => ?_
  have hv : Vals (vs.map fun p => kV p.1) acc.toList := keys_at (by rw [Array.length_toList]; exact hacc.1) fun j v e => hacc.2 j v (by rw [← Array.getElem?_toList]; exact e)
  have I1 : Inv X pins σ H { s with heap := h', toks := tk } := I.kept (t' := tk) hk
  refine ⟨.ref h'.objs.size, upd H h'.objs.size (.tup (kvs.map fun kv => kV kv.1)), I1.laid (t' := tk) (fun b o e => Heap.get?_push_of_some _ e) (Nat.le_refl _)
    (show ObjOk X.prog X.w _ _ _ (.tup (kvs.map fun kv => kV kv.1)) from ⟨by rw [List.length_map]; exact z, acc.toList, by rw [ek]; exact hv, by rw [Array.toArray_toList]; exact IsTup.new _ _⟩), rfl, q _ (I1.hok.fresh (Nat.le_refl _))⟩
end
end Vd

set_option maxRecDepth 100000
namespace K58
open PySem
def top (i : Nat) : Stmt := PySem.Challenge.pw_alsoshown_k58_windows_and_texts.main.body.getD i (.Pass ⟨0, 0, 0, 0⟩)
end K58

set_option Elab.async false
set_option linter.all false
set_option maxRecDepth 100000
set_option maxHeartbeats 4000000
namespace K58
open PySem PySem.Spec PyProof.Rows L2 Vl Evl Vp
abbrev sCell : Stmt := top 40
abbrev sPool : Stmt := top 41
abbrev sTake : Stmt := top 42
abbrev FnP (K : PySem.W.Frag) (x : Str) (st : Stmt) (f : Addr) (fd : FuncData) : Prop := FunD K x x (defArgs st) (defBody st) (defScope st) [] [] f fd
section
variable {P : Program} {w : World} {K : PySem.W.Frag} {mg : Str → Option Value} {base : Heap}
theorem scC : FnScope ["_law_script", "_law_k"] ["_law_script", "_law_k"] (defScope sCell) := ⟨rfl, rfl, rfl, by decide +kernel, rfl, by decide +kernel, by decide +kernel⟩
theorem ok_cell {f : Addr} {fd : FuncData} (F : FnP K "_law_cell" sCell f fd) (mL : mg "len" = none) :
    FnOk P w K mg base CX0 1 f fd ["_law_script", "_law_k"] (spCell K) := by
  refine F.ok (CX := CX0) scC (fun vs H Q E h => ?_) (fun cdv A outer s H vs Q E hr h => ?_)
  · obtain ⟨l, ns, j, rfl, _⟩ := h
    rfl
  · refine ⟨_, pss_cons (ps_if (pt_cmpR op_lt (pv 1) (pe_callB call_len (by rfl) mL boot_len (pa_cons (pv 0) pa_nil)) (nomark _))
        (pss_one (ps_ret (pe_ix ix_seq (pv 0) (pv 1) fun _ _ => rfl))) pss_nil)
      (pss_one (ps_ret pe_int)), ?_⟩
    obtain ⟨l, ns, j, rfl, hs, q⟩ := h
    refine ⟨_, rfl, _, rfl, V.ref l, (ns.map V.int).length, rfl, .inl ⟨_, hs, rfl⟩, (j : Nat), ((ns.map V.int).length : Nat), rfl, rfl, _, rfl, ?_⟩
    by_cases hj : j < ns.length
    · rw [decide_eq_true (show ((j : Nat) : Int) < (((ns.map V.int).length : Nat) : Int) by rw [List.length_map]; omega)]
      refine iteT ?_
      exact ⟨_, rfl, _, rfl, .inl ⟨l, _, _, _, rfl, rfl, hs, atI_cell hj, q⟩⟩
    · rw [decide_eq_false (show ¬ ((j : Nat) : Int) < (((ns.map V.int).length : Nat) : Int) by rw [List.length_map]; omega)]
      refine iteF ?_
      rw [cell_out hj] at q
      exact q
theorem scP : FnScope ["_law_cell_here", "_law_folded"] ["_law_cell_here"] (defScope sPool) := ⟨rfl, rfl, rfl, by decide +kernel, rfl, by decide +kernel, by decide +kernel⟩
theorem ok_pool {f : Addr} {fd : FuncData} (F : FnP K "_law_pool" sPool f fd) (mI : mg "int" = none) :
    FnOk P w K mg base CX0 1 f fd ["_law_cell_here"] spPool := by
  refine F.ok (CX := CX0) scP (fun vs H Q E h => ?_) (fun cdv A outer s H vs Q E hr h => ?_)
  · obtain ⟨c, rfl, _⟩ := h
    rfl
  · refine ⟨_, pss_cons (ps_set (i := 1) scP.nd rfl (by first | exact Or.inl rfl | exact Or.inr rfl) (pe_op op_mul pe_int (pv 0)))
      (pss_cut (ps_if (pt_cmpR op_lt (pv 0) pe_int (nomark _)) (pss_one (ps_set (i := 1) scP.nd rfl (by first | exact Or.inl rfl | exact Or.inr rfl) (pe_op op_sub (pe_op op_sub pe_int (pe_op op_mul pe_int (pv 0))) pe_int))) pss_nil)
      (pss_cons (ps_if (pt_cmpR op_ge (pv 1) (pe_op op_pow pe_int pe_int) (nomark _)) (pss_one (ps_ret (pe_lst (pa_cons (pv 1) (pa_cons (pe_op op_mod (pe_callTy call_int1 (by rfl) mI (by decide +kernel) (pa_cons (pv 1) pa_nil)) pe_int) (pa_cons pe_int pa_nil)))))) pss_nil)
      (pss_one (ps_ret (pe_lst (pa_cons pe_int (pa_cons (pe_op op_mod (pe_callTy call_int1 (by rfl) mI (by decide +kernel) (pa_cons (pv 1) pa_nil)) pe_int) (pa_cons pe_int pa_nil)))))))), ?_⟩
    obtain ⟨c, rfl, q⟩ := h
    refine s_asg (v := .int (2 * c)) (ev_op ev_c (ev_var rfl) (rv_I (.inl ⟨by decide, by decide⟩))) fun H1 e1 => ?_
    refine ⟨fun st H2 => Ex H H2 ∧ ∃ g : Int, st = [some (.int c), some (.int g)], ?_, ?_⟩
    · refine s_if (b := decide (c < 0)) (et_test (ev_op (ev_var rfl) ev_c rv_I0)) (fun _ H2 e2 => ?_) (fun _ H2 e2 => ?_)
      · refine s_asg (v := .int (0 - 2 * c - 1)) (ev_op (ev_op ev_c (ev_op ev_c (ev_var rfl) (rv_I (.inl ⟨by decide, by decide⟩))) rv_I0) ev_c rv_I0) fun H3 e3 => ?_
        exact ⟨e1.trans (e2.trans e3), _, rfl⟩
      · exact ⟨e1.trans e2, _, rfl⟩
    rintro _ H2 ⟨e2, g, rfl⟩
    have fin : ∀ (a : Int) (H3 : Hp), Ex H H3 → ∀ p, H3 p = none → Q (.ref p) (upd H3 p (.lst [.int a, .int (g % 1000000007), .int 0])) := fun a H3 e3 p np =>
      q p _ (fresh_back e3 np) (e3.trans (Ex.new np)) ⟨a, _, 0, upd_same, Int.emod_nonneg _ (by decide), Int.emod_lt_of_pos _ (by decide), Int.le_refl 0, Int.le_refl 0⟩
    have ei : Ev (tOp (rI (fun _ j => 0 < j) fun i j => .int (i % j)) (tCB (fun xs H Q => (∃ i, xs = [.int i] ∧ Q (.int i) H) ∨ ∃ k, xs = [.bl k] ∧ Q (.int (if k then 1 else 0)) H) (tCons (tVar 1) tNil)) (tC (.int 1000000007)))
        [some (.int c), some (.int g)] H2 (.int (g % 1000000007)) :=
      ev_op (ev_cb (ea_cons (ev_var rfl) ea_nil) (fun H1 _ Q q => .inl ⟨_, rfl, q H1 (Ex.refl H1)⟩)) ev_c (rv_I (by show (0 : Int) < 1000000007; decide))
    refine s_seq ?_
    refine s_if (b := decide ((10 : Int) ^ (18 : Int).toNat ≤ g)) (et_test (ev_op (ev_var rfl) (ev_op ev_c ev_c (rv_I ⟨by decide, by decide, by decide⟩)) rv_I0)) (fun _ H3 e3 => ?_) (fun _ H3 e3 => ?_)
    · exact ⟨_, rfl, ei.mono e3 H3 (Ex.refl H3) _ fun H4 e4 => ⟨by show 3 ≤ sizeLine; decide, fun p np => fin g H4 (e2.trans (e3.trans e4)) p np⟩⟩
    · exact ei.mono e3 H3 (Ex.refl H3) _ fun H4 e4 => ⟨by show 3 ≤ sizeLine; decide, fun p np => fin 0 H4 (e2.trans (e3.trans e4)) p np⟩
theorem scT : FnScope ["_law_pool_here", "_law_many", "_law_draw", "_law_mixed_here"] ["_law_pool_here", "_law_many"] (defScope sTake) := ⟨rfl, rfl, rfl, by decide +kernel, rfl, by decide +kernel, by decide +kernel⟩
theorem ok_take {f : Addr} {fd : FuncData} (F : FnP K "_law_take" sTake f fd) (mI : mg "int" = none) :
    FnOk P w K mg base CX0 1 f fd ["_law_pool_here", "_law_many"] spTake := by
  refine F.ok (CX := CX0) scT (fun vs H Q E h => ?_) (fun cdv A outer s H vs Q E hr h => ?_)
  · obtain ⟨p, m, Hk, n, rfl, _⟩ := h
    rfl
  · refine ⟨_, pss_cons (ps_if (pt_cmpR op_gt (pe_ix ix_list (pv 0) pe_int fun _ _ => rfl) pe_int (nomark _))
        (pss_cons (ps_set (i := 2) scT.nd rfl (by first | exact Or.inl rfl | exact Or.inr rfl) (pe_op op_mod (pe_callTy call_int1 (by rfl) mI (by decide +kernel) (pa_cons (pe_ix ix_list (pv 0) pe_int fun _ _ => rfl) pa_nil)) (pv 1)))
        (pss_cons (ps_asg (pe_op op_fdivN (pe_ix ix_list (pv 0) pe_int fun _ _ => rfl) (pv 1)) (pg_sub (pv 0) pe_int set_list))
        (pss_one (ps_ret (pv 2))))) pss_nil)
      (pss_cons (ps_asg (pe_op op_add (pe_ix ix_list (pv 0) pe_int fun _ _ => rfl) pe_int) (pg_sub (pv 0) pe_int set_list))
      (pss_cons (ps_set (i := 3) scT.nd rfl (by first | exact Or.inl rfl | exact Or.inr rfl) (pe_op op_mod (pe_callTy call_int1 (by rfl) mI (by decide +kernel) (pa_cons (pe_op op_pow (pe_op op_add (pe_op op_add (pe_ix ix_list (pv 0) pe_int fun _ _ => rfl) (pe_op op_mul pe_int (pe_ix ix_list (pv 0) pe_int fun _ _ => rfl))) pe_int) pe_int) pa_nil)) pe_int))
      (pss_one (ps_ret (pe_op op_mod (pe_op op_mod (pe_callTy call_int1 (by rfl) mI (by decide +kernel) (pa_cons (pe_op op_mul (pe_op op_add (pv 3) (pe_ix ix_list (pv 0) pe_int fun _ _ => rfl)) pe_int) pa_nil)) pe_int) (pv 1)))))), ?_⟩
    obtain ⟨p, m, Hk, n, rfl, hm, hm2, hp, hn, q⟩ := h
    obtain ⟨a, b, c, ha, hb0, hb1, hc0, hc1⟩ := hp.at_
    have it : ∀ (j : Nat) (x : Int) (us : List V) (H1 : Hp), H1 p = some (.lst us) → us[j]? = some (.int x) → ∀ {t2 t3 : Option V}, Ev (tOp (rIxL K) (tVar 0) (tC (.int (j : Int)))) [some (.ref p), some (.int m), t2, t3] H1 (.int x) := fun j x us H1 h1 h2 t2 t3 =>
      ev_op (ev_var rfl) ev_c (rv_ixL (sq_of h1) (at_of rfl h2))
    have ti : ∀ {te : TE} {st : L2.St} {H1 : Hp} {i : Int}, Ev te st H1 (.int i) → Ev (tCB (fun xs H Q => (∃ i, xs = [.int i] ∧ Q (.int i) H) ∨ ∃ k, xs = [.bl k] ∧ Q (.int (if k then 1 else 0)) H) (tCons te tNil)) st H1 (.int i) :=
      fun h => ev_cb (ea_cons h ea_nil) (fun H1 _ Q q => .inl ⟨_, rfl, q H1 (Ex.refl H1)⟩)
    refine s_seq ?_
    refine s_if (b := decide (0 < a)) (et_test (ev_op (it 0 a _ H ha rfl) ev_c rv_I0)) (fun _ H1 e1 => ?_) (fun _ H1 e1 => ?_)
    · have h1 := e1 _ _ ha
      refine s_seq ?_
      refine s_asg (v := .int (a % m)) (ev_op (ti (it 0 a _ H1 h1 rfl)) (ev_var rfl) (rv_I (show 0 < m by omega))) fun H2 e2 => ?_
      dsimp only
      refine s_seq ?_
      refine s_setL (j := 0) (v := .int (a.fdiv m)) (e2 _ _ h1) (ev_op (it 0 a _ H2 (e2 _ _ h1) rfl) (ev_var rfl) (rv_I ⟨show m ≠ 0 by omega, show m.natAbs < 1073741824 by omega⟩)) (ev_var rfl) ev_c (by show 0 < 3; omega) fun H3 e3 => ?_
      dsimp only
      refine s_ret (v := .int (a % m)) (ev_var rfl) fun H4 e4 => ?_
      refine q _ _ (Int.emod_nonneg _ (by omega)) (Int.emod_lt_of_pos _ (by omega)) ?_
      refine ⟨hp.no, (Ex.mut (hp.ex.trans (e1.trans (e2.trans e3))) hp.no).trans e4, a.fdiv m, b, c, e4 _ _ upd_same, hb0, hb1, hc0, by omega⟩
    · have h1 := e1 _ _ ha
      dsimp only
      refine s_seq ?_
      refine s_setL (j := 2) (v := .int (c + 1)) h1 (ev_op (it 2 c _ H1 h1 rfl) ev_c rv_I0) (ev_var rfl) ev_c (by show 2 < 3; omega) fun H2 e2 => ?_
      have h2 : (upd H2 p (.lst [.int a, .int b, .int (c + 1)])) p = some (.lst [.int a, .int b, .int (c + 1)]) := upd_same
      have x2 : Ex Hk (upd H2 p (.lst [.int a, .int b, .int (c + 1)])) := Ex.mut (hp.ex.trans (e1.trans e2)) hp.no
      show tSeq _ _ _ _ (upd H2 p (.lst [.int a, .int b, .int (c + 1)]))
      generalize upd H2 p (.lst [.int a, .int b, .int (c + 1)]) = H3 at h2 x2
      refine s_seq ?_
      refine s_asg (v := .int ((b + 7919 * (c + 1) + 104729) ^ (5 : Int).toNat % 2147483647)) (ev_op (ti (ev_op (ev_op (ev_op (it 1 b _ H3 h2 rfl) (ev_op ev_c (it 2 (c + 1) _ H3 h2 rfl) (rv_I (.inl ⟨by decide, by decide⟩))) rv_I0) ev_c rv_I0) ev_c (rv_I ⟨by decide, by decide, by show (b + 7919 * (c + 1) + 104729).natAbs < 2 ^ 64; omega⟩))) ev_c (rv_I (by show (0 : Int) < 2147483647; decide))) fun H4 e4 => ?_
      dsimp only
      have hz0 : 0 ≤ (b + 7919 * (c + 1) + 104729) ^ (5 : Int).toNat % 2147483647 := Int.emod_nonneg _ (by decide)
      have hz1 : (b + 7919 * (c + 1) + 104729) ^ (5 : Int).toNat % 2147483647 < 2147483647 := Int.emod_lt_of_pos _ (by decide)
      generalize (b + 7919 * (c + 1) + 104729) ^ (5 : Int).toNat % 2147483647 = z at hz0 hz1
      have h4 := e4 _ _ h2
      refine s_ret (v := .int ((z + (c + 1)) * 40692 % 2147483629 % m)) (ev_op (ev_op (ti (ev_op (ev_op (ev_var rfl) (it 2 (c + 1) _ H4 h4 rfl) rv_I0) ev_c (rv_I (.inr ⟨by decide, by decide⟩)))) ev_c (rv_I (by show (0 : Int) < 2147483629; decide))) (ev_var rfl) (rv_I (show 0 < m by omega))) fun H5 e5 => ?_
      refine q _ _ (Int.emod_nonneg _ (by omega)) (Int.emod_lt_of_pos _ (by omega)) ?_
      exact ⟨hp.no, x2.trans (e4.trans e5), a, b, c + 1, e5 _ _ h4, hb0, hb1, by omega, by omega⟩
end
end K58

set_option Elab.async false
set_option linter.all false
set_option maxRecDepth 100000
set_option maxHeartbeats 4000000
namespace K58
open PySem PySem.Spec PyProof.Rows L2 Vl Evl Vp
theorem el_cat2 {ta tb : TE} {σ : L2.St} {H : Hp} {xs ys : List V} (h : EvL ta σ H xs) (h2 : EvL tb σ H ys) (hl : xs.length + ys.length ≤ 100000) : EvL (tOp rCat ta tb) σ H (xs ++ ys) := fun H1 e Q q =>
  h H1 e _ fun p H2 np e2 hp => h2 H2 (e.trans e2) _ fun p2 H3 np2 e3 hp2 => ⟨p, p2, xs, ys, rfl, rfl, e3 _ _ hp, hp2, sz_of hl, fun p4 n4 => q p4 _ (fresh_back (e2.trans e3) n4) ((e2.trans e3).trans (Ex.new n4)) upd_same⟩
theorem perm_out {α : Type} {ms ls : List α} {k : Nat} (h : k < ls.length) : (ms ++ [ls[k]] ++ (ls.take k ++ ls.drop (k + 1))).Perm (ms ++ ls) := by
  rw [List.append_assoc]
  refine List.Perm.append_left ms ?_
  have e : ls = ls.take k ++ ls[k] :: ls.drop (k + 1) := by
    conv => lhs; rw [← List.take_append_drop k ls, List.drop_eq_getElem_cons h]
  have p := List.perm_middle (a := ls[k]) (l₁ := ls.take k) (l₂ := ls.drop (k + 1))
  rw [← e] at p
  exact p.symm
abbrev sMixed : Stmt := top 43
abbrev nMx : List Str := ["_law_pool_here", "_law_things", "_law_left", "_law_mixed_here", "_law_k", "_law_at"]
/-- the things in a drawn order -/
def spMixed : Sp := fun vs H Q _ => ∃ (p t : Addr) (xs : List V) (Hk : Hp) (n : Nat), vs = [.ref p, .ref t] ∧ Pl Hk p n H ∧ n ≤ 90000 ∧ Hk t = some (.lst xs) ∧ xs.length ≤ 40 ∧
  ∀ d ys H', H d = none → Pl Hk p (n + 50) H' → H' d = some (.lst ys) → ys.Perm xs → Q (.ref d) H'
section
variable {P : Program} {w : World} {K : PySem.W.Frag} {mg : Str → Option Value} {base : Heap}
theorem scMx : FnScope nMx ["_law_pool_here", "_law_things"] (defScope sMixed) := ⟨rfl, rfl, rfl, by decide +kernel, rfl, by decide +kernel, by decide +kernel⟩
theorem ok_mixed {f fT : Addr} {fd fdT : FuncData} (F : FnP K "_law_mixed" sMixed f fd) (FT : FnP K "_law_take" sTake fT fdT) (gT : mg "_law_take" = some (.ref fT)) (mI : mg "int" = none) (mL : mg "len" = none) (mR : mg "range" = none) (mLi : mg "list" = none) :
    FnOk P w K mg base CX0 2 f fd ["_law_pool_here", "_law_things"] spMixed := by
  have GT : FnOk P w K mg base CX0 1 fT fdT ["_law_pool_here", "_law_many"] spTake := ok_take FT mI
  have bT : Binds K fdT ["_law_pool_here", "_law_many"] [] := FT.bindsN fun _ _ _ _ _ _ us hl => match us, hl with | [_, _], _ => rfl
  have kT := FT.kp
  refine F.ok (CX := CX0) scMx (fun vs H Q E h => ?_) (fun cdv A outer s H vs Q E hr h => ?_)
  · obtain ⟨p, t, xs, Hk, n, rfl, _⟩ := h
    rfl
  · have hr1 : Room 1 _ := hr
    refine ⟨_, (pss_cons (ps_set (i := 2) scMx.nd rfl (by first | exact Or.inl rfl | exact Or.inr rfl) (pe_callTy call_list_of (by rfl) mLi boot_list (pa_cons (pv 1) pa_nil)))
      (pss_cons (ps_set (i := 3) scMx.nd rfl (by first | exact Or.inl rfl | exact Or.inr rfl) (pe_lst pa_nil))
      (pss_cons (ps_for (passes_of rfl) rfl (pi_range1 (by rfl) mR (pa_cons (pe_callB call_len (by rfl) mL boot_len (pa_cons (pv 1) pa_nil)) pa_nil)) (pg_name (i := 4) scMx.nd rfl (by first | exact Or.inl rfl | exact Or.inr rfl))
        (pss_cons (ps_set (i := 5) scMx.nd rfl (by first | exact Or.inl rfl | exact Or.inr rfl) (pe_call GT hr1 (by rfl) gT kT bT .nil pass0 (pa_cons (pv 0) (pa_cons (pe_callB call_len (by rfl) mL boot_len (pa_cons (pv 2) pa_nil)) pa_nil))))
        (pss_cons (ps_expr (pe_bm PySem.F.plainAttrs_list PySem.F.slot_list_append PySem.F.type_list_append mt_append (pv 3) (pa_cons (pe_ix ix_list (pv 2) (pv 5) fun _ _ => rfl) pa_nil)))
        (pss_one (ps_set (i := 2) scMx.nd rfl (by first | exact Or.inl rfl | exact Or.inr rfl) (pe_op op_cat (pe_slice sl_list (pv 2) po_none (po_some (pv 5))) (pe_slice sl_list (pv 2) (po_some (pe_op op_add (pv 5) pe_int)) po_none)))))))
      (pss_one (ps_ret (pv 3)))))), ?_⟩
    obtain ⟨p, t, xs, Hk, n, rfl, hp0, hn, ht, hx, q⟩ := h
    have hp := hp0.re
    have tp : t ≠ p := fun z => by rw [z, hp0.no] at ht; cases ht
    have htk : (Wo H p) t = some (.lst xs) := wo_at (hp0.ex _ _ ht) tp
    refine s_seq ?_
    refine ⟨_, rfl, t, xs, rfl, .inl (sq_of (hp0.ex _ _ ht)), fun a na => ?_⟩
    dsimp only
    refine s_seq ?_
    refine ⟨by show 0 ≤ sizeLine; omega, fun d nd => ?_⟩
    have ha1 := (upd_same (H := H) (a := a) (o := HO.lst xs))
    have hp1 : Pl (Wo H p) p n (upd H a (.lst xs)) := hp.new na
    have hp2 : Pl (Wo H p) p n (upd (upd H a (.lst xs)) d (.lst [])) := hp1.new nd
    have ad : a ≠ d := fun z => by rw [← z, ha1] at nd; cases nd
    have ap : a ≠ p := hp.ne na
    have dp : d ≠ p := hp1.ne nd
    have dk : (Wo H p) d = none := by
      cases e : (Wo H p) d with
      | none => rfl
      | some o =>
        have := hp1.ex _ _ e
        rw [nd] at this
        cases this
    dsimp only
    refine s_seq ?_
    refine s_forR1 (n := (xs.length : Int)) (ea_cons (ev_cb (ea_cons (ev_var rfl) ea_nil) (fun H3 e3 Q q => ⟨_, xs.length, rfl, .inl ⟨xs, sq_of (e3 _ _ (hp2.ex _ _ htk)), rfl⟩, q H3 (Ex.refl H3)⟩)) ea_nil) (by omega)
      (fun i st H' => ∃ b ls ms t4 t5, st = [some (.ref p), some (.ref t), some (.ref b), some (.ref d), t4, t5] ∧ H' b = some (.lst ls) ∧ H' d = some (.lst ms) ∧ b ≠ d ∧ b ≠ p ∧ ls.length + i = xs.length ∧ (ms ++ ls).Perm xs ∧ ms.length = i ∧ Pl (Wo H p) p (n + i) H')
      (fun H3 e3 => ⟨a, xs, [], none, none, rfl, e3 _ _ ((upd_ne ad).trans ha1), e3 _ _ upd_same, ad, ap, rfl, List.Perm.refl _, rfl, hp2.grow e3⟩) ?_ ?_
    · rintro i _ H3 hi ⟨b, ls, ms, t4, t5, rfl, hb, hd, bd, bp, hlen, hperm, hml, hpl⟩
      dsimp only
      refine s_seq ?_
      refine ⟨_, rfl, _, rfl, _, ls.length, rfl, .inl ⟨ls, sq_of hb, rfl⟩, p, (ls.length : Int), Wo H3 p, _, rfl, by omega, by omega, hpl.re, by omega, fun r H4 r0 r1 hp4 => ?_⟩
      obtain ⟨k, rfl⟩ := Int.eq_ofNat_of_zero_le r0
      have hk : k < ls.length := by omega
      have hp4b := hpl.back hp4
      have hb4 : H4 b = some (.lst ls) := hp4.ex _ _ (wo_at hb bp)
      have hd4 : H4 d = some (.lst ms) := hp4.ex _ _ (wo_at hd dp)
      dsimp only
      refine s_seq ?_
      refine s_app (xs := ms) (v := ls[k]) hd4 (ev_var rfl) (ev_op (ev_var rfl) (ev_var rfl) (rv_ixL (sq_of hb4) (at_of rfl (List.getElem?_eq_getElem hk)))) (by omega) fun H5 e5 => ?_
      dsimp only
      have hb5 : (upd H5 d (.lst (ms ++ [ls[k]]))) b = some (.lst ls) := (upd_ne bd).trans (e5 _ _ hb4)
      have hp5 : Pl (Wo H p) p (n + i + 1) (upd H5 d (.lst (ms ++ [ls[k]]))) := by
        have hz := hp4b.grow e5
        refine ⟨hz.no, Ex.mut hz.ex dk, ?_⟩
        obtain ⟨a', b', c', w1, w2⟩ := hz.at_
        exact ⟨a', b', c', by rw [upd_ne dp.symm]; exact w1, w2⟩
      have key := el_cat2 (σ := [some (.ref p), some (.ref t), some (.ref b), some (.ref d), some (.int (i : Int)), some (.int (k : Int))]) (el_sl (lo := none) (hi := some (k : Int)) (K := K) (ev_var (i := 2) rfl) eo_none (eo_some (ev_var (i := 5) rfl)) (sq_of hb5))
        (el_sl (lo := some ((k + 1 : Nat) : Int)) (hi := none) (K := K) (ev_var (i := 2) rfl) (eo_some (show Ev (tOp (rI0 fun i j => .int (i + j)) (tVar 5) (tC (.int 1))) _ _ (.int ((k + 1 : Nat) : Int)) from ev_is (ev_op (ev_var rfl) ev_c rv_I0) rfl)) eo_none (sq_of hb5)) (by
          have h3 := cutV_length ls (some ((k + 1 : Nat) : Int)) none
          have h4 := cutV_length ls none (some (k : Int))
          omega)
      rw [cutV0, cutV1] at key
      refine key _ (Ex.refl _) _ fun b2 H6 nb2 e6 hb6 => ?_
      have hd6 : H6 d = some (.lst (ms ++ [ls[k]])) := e6 _ _ upd_same
      have hp6 := hp5.grow e6
      have b2d : b2 ≠ d := fun z => by
        rw [z, upd_same] at nb2
        cases nb2
      refine ⟨b2, ls.take k ++ ls.drop (k + 1), ms ++ [ls[k]], _, _, rfl, hb6, hd6, b2d, hp5.ne nb2, ?_, (perm_out hk).trans hperm, ?_, by rw [show n + (i + 1) = n + i + 1 by omega]; exact hp6⟩
      · rw [List.length_append, List.length_take, List.length_drop]
        omega
      · rw [List.length_append, List.length_singleton, hml]
    · rintro _ H3 ⟨b, ls, ms, t4, t5, rfl, hb, hd, bd, bp, hlen, hperm, hml, hpl⟩
      have hl0 : ls = [] := List.length_eq_zero_iff.mp (by have e1 : ((xs.length : Int)).toNat = xs.length := by omega
                                                           omega)
      rw [hl0, List.append_nil] at hperm
      have fd : H d = none := by
        rw [upd_ne (fun z => ad z.symm)] at nd
        exact nd
      exact ⟨_, rfl, q d ms H3 fd (hp0.back (hpl.cnt (by omega))) hd hperm⟩
end
end K58

set_option Elab.async false
set_option linter.all false
set_option maxRecDepth 100000
set_option maxHeartbeats 4000000
namespace K58
open PySem PySem.Spec PyProof.Rows L2 Vl Evl Vp Vx2
abbrev sIsName : Stmt := top 15
abbrev sChkN : Stmt := top 17
/-- is_name, of a name -/
def spIsName : Sp := fun vs H Q _ => ∃ l, vs = [.str (tx l)] ∧ ((nam l ∧ ∀ H', Ex H H' → Q (.bl true) H') ∨ (l = [65] ∧ Q (.bl false) H))
theorem ifT {c A B : Prop} [Decidable c] (h : c) (a : A) : if c then A else B := by
  rw [if_pos h]
  exact a
theorem ifF {c A B : Prop} [Decidable c] (h : ¬ c) (b : B) : if c then A else B := by
  rw [if_neg h]
  exact b
section
variable {P : Program} {w : World} {K : PySem.W.Frag} {mg : Str → Option Value} {base : Heap}
abbrev nIN : List Str := ["value", "sign"]
theorem scIN : FnScope nIN ["value"] (defScope sIsName) := ⟨rfl, rfl, rfl, by decide +kernel, rfl, by decide +kernel, by decide +kernel⟩
theorem ok_isname {f : Addr} {fd : FuncData} (F : FnP K "is_name" sIsName f fd) (mI : mg "isinstance" = none) (mS : mg "str" = none) (mL : mg "len" = none) (mA : mg "all" = none)
    (gL : ∃ t, mg "LETTERS" = some (.str (tx letters) t)) (gD : ∃ t, mg "DIGITS" = some (.str (tx digits) t)) (gO : ∃ t, mg "LONGEST" = some (.int 8 t)) :
    FnOk P w K mg base CX0 1 f fd ["value"] spIsName := by
  obtain ⟨tL, gL⟩ := gL
  obtain ⟨tD, gD⟩ := gD
  obtain ⟨tO, gO⟩ := gO
  refine F.ok (CX := CX0) scIN (fun vs H Q E h => ?_) (fun cdv A outer s H vs Q E hr h => ?_)
  · obtain ⟨l, rfl, _⟩ := h
    rfl
  · refine ⟨_, (pss_cons (ps_if (PW.pt (pw_or (pt_not (pt_val (pe_callB call_isi (by rfl) mI boot_isinstance (pa_cons (pv 0) (pa_cons (pe_bltn (v := V.ty "str") (by rfl) mS boot_str rfl) pa_nil)))))
        (pw_or1 (pt_not (pt_chain op_le op_le pe_int (pe_callB call_len (by rfl) mL boot_len (pa_cons (pv 0) pa_nil)) (pe_glob (v := V.int 8) (by rfl) gO ⟨tO, rfl⟩)))))) (pss_one (ps_ret pe_bl)) pss_nil)
      (pss_one (ps_ret (pe_and (pe_cmpR op_inS (pe_ix ix_str (pv 0) pe_int fun _ _ => rfl) (pe_glob (v := V.str (tx letters)) (by rfl) gL ⟨tL, rfl⟩) rfl)
        (pe_one (pe_callB (cr_all rfl) (by rfl) mA boot_all (pa_cons (pe_lc (own := [("sign", 1)]) (g := gName 1) (tt := tYes) (te := tOp rInS (tVar 1) (tOp rCatS (tC (.str (tx letters))) (tC (.str (tx digits))))) rfl scIN.nd (pi_str (pv 0)) (blkOk_by (own := [("sign", 1)]) (N := nIN) (sc := defScope sIsName) (by decide +kernel)) (fun _ _ _ _ _ => (pg_name (i := 1) scIN.nd rfl (by first | exact Or.inl rfl | exact Or.inr rfl))) (fun _ _ _ _ _ => pts_nil)
          (fun _ _ _ _ _ => pe_cmpR op_inS (pv 1) (pe_op op_add_str (pe_glob (v := V.str (tx letters)) (by rfl) gL ⟨tL, rfl⟩) (pe_glob (v := V.str (tx digits)) (by rfl) gD ⟨tD, rfl⟩)) rfl)) pa_nil))))))), ?_⟩
    obtain ⟨l, rfl, h⟩ := h
    rcases h with ⟨hl, q⟩ | ⟨rfl, q⟩
    · skip
      have hll := nam_len hl
      have hs : (tx l).length = l.length := tx_len l
      refine s_seq ?_
      refine ⟨_, rfl, V.str (tx l), V.ty "str", .type "str", .type "str", true, rfl, .ty _, .base (.str _), kit_ty (by decide +kernel), true, rfl, ?_⟩
      refine ifF Bool.false_ne_true ?_
      refine ⟨_, rfl, _, (tx l).length, rfl, ⟨sz_of (by omega), rfl⟩, 1, _, rfl, rfl, _, rfl, ?_⟩
      refine ifT (decide_eq_true (by omega)) ?_
      refine ⟨_, _, rfl, rfl, _, rfl, ?_⟩
      refine ifF (by rw [decide_eq_true (show ((tx l).length : Int) ≤ 8 by omega)]; decide) ?_
      obtain ⟨c0, r0, rfl, hc, hr0, h7⟩ := id hl
      refine ⟨_, rfl, tx (c0 :: r0), 0, c0, rfl, rfl, sz_of (by omega), text_at (zs := c0 :: r0) (j := 0) (Nat.succ_pos _), _, _, rfl, rfl, _, rfl, ?_⟩
      refine ifT (decide_eq_true (by exact hc)) ?_
      refine ⟨_, rfl, tx (c0 :: r0), rfl, fun Dl hD => ?_⟩
      refine lc_it walk_str (fun i H' => H' = upd H Dl (.lst ((List.replicate i true).map V.bl))) rfl (fun _ _ _ _ => trivial) ?_ ?_
      · rintro i x H2 H3 hi rfl ⟨rfl, c, hcc, rfl⟩
        have hcm : c ∈ c0 :: r0 := by
          rw [← Array.getElem?_toList] at hcc
          exact List.mem_of_getElem? hcc
        refine ⟨rfl, ?_⟩
        unfold tYes
        dsimp only
        rw [if_pos rfl]
        refine ⟨_, rfl, tx letters, tx digits, rfl, rfl, by decide +kernel, c, _, rfl, rfl, (List.replicate i true).map V.bl, upd_same, ?_, ?_⟩
        · refine sz_lt ?_
          rw [List.length_map, List.length_replicate]
          have : (tx (c0 :: r0)).cps.size = (c0 :: r0).length := rfl
          omega
        · rw [tx_app, tx_list, decide_eq_true (show c ∈ letters ++ digits from nam_signs hl c hcm), upd_upd, List.replicate_succ', List.map_append]
          rfl
      · rintro H2 rfl
        refine ⟨Dl, List.replicate _ true, rfl, sq_of upd_same, ?_⟩
        rw [show (List.replicate ((tx (c0 :: r0)).cps.size) true).all id = true from List.all_eq_true.mpr fun b hb => (List.mem_replicate.mp hb).2]
        exact q _ (Ex.new hD)
    · refine s_seq ?_
      refine ⟨_, rfl, V.str (tx [65]), V.ty "str", .type "str", .type "str", true, rfl, .ty _, .base (.str _), kit_ty (by decide +kernel), true, rfl, ?_⟩
      refine ifF Bool.false_ne_true ?_
      refine ⟨_, rfl, _, 1, rfl, ⟨by show 1 ≤ sizeLine; decide, rfl⟩, 1, _, rfl, rfl, _, rfl, ?_⟩
      refine ifT (by decide) ?_
      refine ⟨_, _, rfl, rfl, _, rfl, ?_⟩
      refine ifF (by decide) ?_
      refine ⟨_, rfl, tx [65], 0, 65, rfl, rfl, by show 1 ≤ sizeLine; decide, text_at (zs := [65]) (j := 0) (by decide), _, _, rfl, rfl, _, rfl, ?_⟩
      exact ifF (by decide +kernel) q
end
end K58

set_option Elab.async false
set_option linter.all false
set_option maxRecDepth 100000
set_option maxHeartbeats 4000000
namespace K58
open PySem PySem.Spec PyProof.Rows L2 Vl Evl Vp Vx2
/-- check_name: nothing for a name, the error for "A" -/
def spChkN (CN : Addr) : Sp := fun vs H Q E => ∃ l, vs = [.str (tx l)] ∧ ((nam l ∧ ∀ H', Ex H H' → Q .non H') ∨ (l = [65] ∧ RaisedF CN "name" H (.str (tx l)) E))
section
variable {P : Program} {w : World} {K : PySem.W.Frag} {mg : Str → Option Value} {base : Heap} {CN : Addr}
theorem scCN : FnScope ["value"] ["value"] (defScope sChkN) := ⟨rfl, rfl, rfl, by decide +kernel, rfl, by decide +kernel, by decide +kernel⟩
theorem ok_chkn {f fN : Addr} {fd fdN : FuncData} (F : FnP K "check_name" sChkN f fd) (FN : FnP K "is_name" sIsName fN fdN) (gN : mg "is_name" = some (.ref fN))
    (GN : FnOk P w K mg base CX0 1 fN fdN ["value"] spIsName) (EB : Err1 P w K mg base "BadName" "name" CN) :
    FnOk P w K mg base (L2.CX P w) 3 f fd ["value"] (spChkN CN) := by
  have bN : Binds K fdN ["value"] [] := FN.bindsN fun _ _ _ _ _ _ us hl => match us, hl with | [_], _ => rfl
  have kN := FN.kp
  obtain ⟨fE, fdE, iC, tI, bE, GE⟩ := EB.ini
  refine F.ok (CX := L2.CX P w) scCN (fun vs H Q E h => ?_) (fun cdv A outer s H vs Q E hr h => ?_)
  · obtain ⟨l, rfl, _⟩ := h
    rfl
  · have hr2 : Room 2 _ := hr
    have hr1 : Room 1 _ := hr.mono (by omega)
    refine ⟨_, (pss_one (ps_if (pt_not (pt_val (pe_call GN hr1 (by rfl) gN kN bN .nil pass0 (pa_cons (pv 0) pa_nil)))) (pss_one (ps_raise rfl (takes_of rfl rfl rfl rfl) (pmk_oex EB.T iC tI GE hr2 bE .nil pass0 (by rfl) EB.g (pa_cons (pv 0) pa_nil)))) pss_nil)), ?_⟩
    obtain ⟨l, rfl, h⟩ := h
    rcases h with ⟨hl, q⟩ | ⟨rfl, q⟩
    · exact ⟨_, rfl, l, rfl, .inl ⟨hl, fun H' e => ⟨true, rfl, ifF Bool.false_ne_true (q H' e)⟩⟩⟩
    · exact ⟨_, rfl, [65], rfl, .inr ⟨rfl, false, rfl, ifT rfl (raised_f (W := fun cls d _ H' => E cls d H') 0 rfl rfl q)⟩⟩
end
end K58

set_option Elab.async false
set_option linter.all false
set_option maxRecDepth 100000
set_option maxHeartbeats 4000000
namespace K58
open PySem PySem.Spec PyProof.Rows L2 Vl Evl Vp Vx2
theorem inV_vtx {l : List Nat} {xs : List (List Nat)} : inV (V.str (tx l)) (vtx xs) = decide (l ∈ xs) := by
  unfold inV vtx
  rw [List.any_map]
  cases e : decide (l ∈ xs) with
  | true =>
    have hm := of_decide_eq_true e
    rw [List.any_eq_true]
    exact ⟨l, hm, by show eqV (V.str (tx l)) (V.str (tx l)) = true; unfold eqV; simp⟩
  | false =>
    have hm := of_decide_eq_false e
    rw [List.any_eq_false]
    intro y hy z
    have z : eqV (V.str (tx y)) (V.str (tx l)) = true := z
    unfold eqV at z
    have : tx y = tx l := by simpa using z
    exact hm (by rw [← tx_inj this]; exact hy)
theorem flat_vtx (xs : List (List Nat)) : (vtx xs).all flatV = true := by
  rw [List.all_eq_true]
  intro v hv
  obtain ⟨l, _, rfl⟩ := List.mem_map.mp hv
  rfl
theorem if_f {c A B : Prop} [Decidable c] (h : ¬ c) (b : B) : if c then A else B := by
  rw [if_neg h]
  exact b
theorem if_t {c A B : Prop} [Decidable c] (h : c) (a : A) : if c then A else B := by
  rw [if_pos h]
  exact a
/-- a lane's row: name, start, end -/
abbrev Row : Type := Addr × (List Nat × List Nat × List Nat)
def clB : Stmt → List Stmt
  | .ClassDef (body := b) .. => b
  | _ => []
/-- the i-th member of the class Net -/
def mem (i : Nat) : Stmt := (clB (top 20)).getD i (.Pass ⟨0, 0, 0, 0⟩)
abbrev FnM (K : PySem.W.Frag) (m q : Str) (st : Stmt) (f : Addr) (fd : FuncData) : Prop := FunD K m q (defArgs st) (defBody st) (defScope st) [] [] f fd
abbrev sPost : Stmt := mem 1
/-- the posts' dict, the lanes' dict -/
def dPosts (ps : List (List Nat)) : List (Key × V) := ps.map fun l => ((Sum.inr (tx l) : Key), V.bl true)
def dEnds (es : List Row) : List (Key × V) := es.map fun e => ((Sum.inr (tx e.2.1) : Key), V.ref e.1)
/-- a lane's ends -/
def EndAt (H : Hp) (e : Row) : Prop := H e.1 = some (.tup [.str (tx e.2.2.1), .str (tx e.2.2.2)])
/-- a net at o -/
structure NetAt (C : Addr) (H : Hp) (o dx dp de : Addr) (ps : List (List Nat)) (es : List Row) : Prop where
  at_ : H o = some (.ins C dx [("_posts", .ref dp), ("_ends", .ref de)])
  posts : H dp = some (.dK (dPosts ps))
  ends : H de = some (.dK (dEnds es))
  rows : ∀ e ∈ es, EndAt H e
theorem NetAt.mono {C : Addr} {H H' : Hp} {o dx dp de : Addr} {ps : List (List Nat)} {es : List Row} (e : Ex H H') (n : NetAt C H o dx dp de ps es) : NetAt C H' o dx dp de ps es :=
  ⟨e _ _ n.at_, e _ _ n.posts, e _ _ n.ends, fun r hr => e _ _ (n.rows r hr)⟩
theorem posts_val (ps : List (List Nat)) (l : List Nat) : (valV (dPosts ps) (Sum.inr (tx l) : Key)).isSome = decide (l ∈ ps) := by
  induction ps with
  | nil => rfl
  | cons x r ih =>
    unfold dPosts at *
    rw [List.map_cons]
    by_cases h : x = l
    · rw [valV_pos (by rw [h]), decide_eq_true (by rw [h]; exact List.mem_cons_self)]
      rfl
    · have hn : ¬ (Sum.inr (tx x) : Key) = Sum.inr (tx l) := fun z => h (tx_inj (Sum.inr.inj z))
      rw [valV_neg hn, ih]
      by_cases hm : l ∈ r
      · rw [decide_eq_true hm, decide_eq_true (List.mem_cons_of_mem _ hm)]
      · rw [decide_eq_false hm, decide_eq_false (fun z => (List.mem_cons.mp z).elim (fun e => h e.symm) hm)]
/-- net.post(name) -/
def spPost (C BN NT : Addr) : Sp := fun vs H Q E => ∃ (o dx dp de : Addr) (ps : List (List Nat)) (es : List Row) (l : List Nat), vs = [.ref o, .str (tx l)] ∧ NetAt C H o dx dp de ps es ∧ ps.length ≤ 1000 ∧
  ((nam l ∧ l ∉ ps ∧ ∀ H', Ex H H' → Q .non (upd H' dp (.dK (dPosts (ps ++ [l]))))) ∨ (nam l ∧ l ∈ ps ∧ RaisedF NT "name" H (.str (tx l)) E) ∨ (l = [65] ∧ RaisedF BN "name" H (.str (tx l)) E))
theorem RaisedF.grow {CN : Addr} {f : Str} {H H' : Hp} {y : V} {E : XK} (h : RaisedF CN f H y E) (e : Ex H H') : RaisedF CN f H' y E := fun d H2 e2 hd => h d H2 (e.trans e2) hd
section
variable {P : Program} {w : World} {K : PySem.W.Frag} {mg : Str → Option Value} {base : Heap} {C BN NT : Addr}
theorem scPo : FnScope ["self", "name"] ["self", "name"] (defScope sPost) := ⟨rfl, rfl, rfl, by decide +kernel, rfl, by decide +kernel, by decide +kernel⟩
theorem ok_post {f fN : Addr} {fd fdN : FuncData} (F : FnM K "post" "Net.post" sPost f fd) (c : Cls K C) (n1 : NoAttr K C "_posts") (FN : FnP K "check_name" sChkN fN fdN) (gN : mg "check_name" = some (.ref fN))
    (GN : FnOk P w K mg base (L2.CX P w) 3 fN fdN ["value"] (spChkN BN)) (ET : Err1 P w K mg base "NameTaken" "name" NT) :
    FnOk P w K mg base (L2.CX P w) 4 f fd ["self", "name"] (spPost C BN NT) := by
  have bN : Binds K fdN ["value"] [] := FN.bindsN fun _ _ _ _ _ _ us hl => match us, hl with | [_], _ => rfl
  have kN := FN.kp
  obtain ⟨fE, fdE, iC, tI, bE, GE⟩ := ET.ini
  refine F.ok (CX := L2.CX P w) scPo (fun vs H Q E h => ?_) (fun cdv A outer s H vs Q E hr h => ?_)
  · obtain ⟨o, dx, dp, de, ps, es, l, rfl, _⟩ := h
    rfl
  · have hr3 : Room 3 _ := hr
    have hr2 : Room 2 _ := hr.mono (by omega)
    refine ⟨_, (pss_cons (ps_expr (pe_callS (E := WE fun cls d _ H => E cls d H) GN hr3 (by rfl) gN kN bN (fun st => passAt (takes_of rfl rfl rfl rfl) st) (pa_cons (pv 1) pa_nil)))
      (pss_cons (ps_if (pt_cmp (pc_din (Nat.lt_of_le_of_lt (Nat.add_le_add_left (show 1 ≤ 64 by decide) _) hr.units) (pv 1) (pe_fld (pv 0) rfl))) (pss_one (ps_raise rfl (takes_of rfl rfl rfl rfl) (pmk_oex ET.T iC tI GE hr2 bE .nil pass0 (by rfl) ET.g (pa_cons (pv 1) pa_nil)))) pss_nil)
      (pss_one (ps_asg pe_bl (pg_sub (pe_fld (pv 0) rfl) (pv 1) (set_dict (Nat.lt_of_le_of_lt (Nat.add_le_add_left (show 1 ≤ 64 by decide) _) hr.units))))))), ?_⟩
    obtain ⟨o, dx, dp, de, ps, es, l, rfl, N, h1, h⟩ := h
    refine s_seq ?_
    have body : nam l → ∀ H', Ex H H' → ((l ∉ ps ∧ ∀ H', Ex H H' → Q .non (upd H' dp (.dK (dPosts (ps ++ [l]))))) ∨ (l ∈ ps ∧ RaisedF NT "name" H (.str (tx l)) E)) →
        tSeq (tIfS (tB (tDIn (tVar 1) (tFld K (tVar 0) "_posts"))) (tSeq (fun _ σ H => tMkO NT (spIni NT "name") [] (tCons (tVar 1) tNil) σ H fun cls d H' => E cls d H') tNext) tNext)
          (tSeq (tAsg (tC (.bl true)) (gSub (tFld K (tVar 0) "_posts") (tVar 1) rSetD)) tNext) { nx := fun _ H' => Q .non H', rt := Q } [some (.ref o), some (.str (tx l))] H' := by
      intro hl H1 e1 h
      have N1 := N.mono e1
      refine s_seq ?_
      refine ⟨_, rfl, _, rfl, o, C, dx, _, .ref dp, rfl, N1.at_, c, n1, rfl, dp, _, rfl, DGet.k (k := (Sum.inr (tx l) : Key)) N1.posts, _, rfl, ?_⟩
      rw [posts_val]
      rcases h with ⟨hm, q⟩ | ⟨hm, q⟩
      · refine if_f (by rw [decide_eq_false hm]; decide) ?_
        refine ⟨_, rfl, o, C, dx, _, .ref dp, rfl, N1.at_, c, n1, rfl, _, rfl, dp, _, rfl, DPut.k (k := (Sum.inr (tx l) : Key)) N1.posts (sz_lt (by unfold dPosts; rw [List.length_map]; omega)), ?_⟩
        have hv : valV (dPosts ps) (Sum.inr (tx l) : Key) = none := by
          have := posts_val ps l
          rw [decide_eq_false hm] at this
          exact Option.not_isSome_iff_eq_none.mp (by rw [this]; decide)
        rw [putK_new _ hv]
        have := q H1 e1
        unfold dPosts at *
        rw [List.map_append] at this
        exact this
      · refine if_t (by rw [decide_eq_true hm]) ?_
        exact raised_f (W := fun cls d _ H' => E cls d H') 1 rfl rfl (RaisedF.grow q e1)
    refine ⟨_, rfl, ?_⟩
    rcases h with ⟨hl, hm, q⟩ | ⟨hl, hm, q⟩ | ⟨rfl, q⟩
    · exact ⟨l, rfl, .inl ⟨hl, fun H' e => body hl H' e (.inl ⟨hm, q⟩)⟩⟩
    · exact ⟨l, rfl, .inl ⟨hl, fun H' e => body hl H' e (.inr ⟨hm, q⟩)⟩⟩
    · exact ⟨[65], rfl, .inr ⟨rfl, q⟩⟩
end
end K58

set_option Elab.async false
set_option linter.all false
set_option maxRecDepth 100000
set_option maxHeartbeats 4000000
namespace K58
open PySem PySem.Spec PyProof.Rows L2 Vl Evl Vp Vx2
abbrev sPosts : Stmt := mem 4
abbrev sLanes : Stmt := mem 5
abbrev sHas : Stmt := mem 11
abbrev sNLen : Stmt := mem 13
theorem keys_posts (ps : List (List Nat)) : ((dPosts ps).map fun kv => kV kv.1) = vtx ps := by
  unfold dPosts vtx
  rw [List.map_map]
  rfl
theorem keys_ends (es : List Row) : ((dEnds es).map fun kv => kV kv.1) = vtx (es.map fun e => e.2.1) := by
  unfold dEnds vtx
  rw [List.map_map, List.map_map]
  rfl
/-- net.posts, net.lanes: new tuples -/
def spPosts (C : Addr) : Sp := fun vs H Q _ => ∃ (o dx dp de : Addr) (ps : List (List Nat)) (es : List Row), vs = [.ref o] ∧ NetAt C H o dx dp de ps es ∧ ∀ t, H t = none → Q (.ref t) (upd H t (.tup (vtx ps)))
def spLanes (C : Addr) : Sp := fun vs H Q _ => ∃ (o dx dp de : Addr) (ps : List (List Nat)) (es : List Row), vs = [.ref o] ∧ NetAt C H o dx dp de ps es ∧ ∀ t, H t = none → Q (.ref t) (upd H t (.tup (vtx (es.map fun e => e.2.1))))
def spNLen (C : Addr) : Sp := fun vs H Q _ => ∃ (o dx dp de : Addr) (ps : List (List Nat)) (es : List Row), vs = [.ref o] ∧ NetAt C H o dx dp de ps es ∧ Q (.int (es.length : Nat)) H
section
variable {P : Program} {w : World} {K : PySem.W.Frag} {mg : Str → Option Value} {base : Heap} {C : Addr}
theorem scPs : FnScope ["self"] ["self"] (defScope sPosts) := ⟨rfl, rfl, rfl, by decide +kernel, rfl, by decide +kernel, by decide +kernel⟩
theorem ok_posts {f : Addr} {fd : FuncData} (F : FnM K "posts" "Net.posts" sPosts f fd) (c : Cls K C) (n1 : NoAttr K C "_posts") (mT : mg "tuple" = none) : FnOk P w K mg base CX0 1 f fd ["self"] (spPosts C) := by
  refine F.ok (CX := CX0) scPs (fun vs H Q E h => ?_) (fun cdv A outer s H vs Q E hr h => ?_)
  · obtain ⟨o, dx, dp, de, ps, es, rfl, _⟩ := h
    rfl
  · refine ⟨_, pss_one (ps_ret (pe_callTy (Vd.call_tupleD rfl) (by rfl) mT boot_tuple (pa_cons (pe_fld (pv 0) rfl) pa_nil))), ?_⟩
    obtain ⟨o, dx, dp, de, ps, es, rfl, N, q⟩ := h
    refine ⟨_, rfl, o, C, dx, _, .ref dp, rfl, N.at_, c, n1, rfl, dp, dPosts ps, rfl, .inl N.posts, fun t nt => ?_⟩
    rw [keys_posts]
    exact q t nt
theorem scLs : FnScope ["self"] ["self"] (defScope sLanes) := ⟨rfl, rfl, rfl, by decide +kernel, rfl, by decide +kernel, by decide +kernel⟩
theorem ok_lanes {f : Addr} {fd : FuncData} (F : FnM K "lanes" "Net.lanes" sLanes f fd) (c : Cls K C) (n1 : NoAttr K C "_ends") (mT : mg "tuple" = none) : FnOk P w K mg base CX0 1 f fd ["self"] (spLanes C) := by
  refine F.ok (CX := CX0) scLs (fun vs H Q E h => ?_) (fun cdv A outer s H vs Q E hr h => ?_)
  · obtain ⟨o, dx, dp, de, ps, es, rfl, _⟩ := h
    rfl
  · refine ⟨_, pss_one (ps_ret (pe_callTy (Vd.call_tupleD rfl) (by rfl) mT boot_tuple (pa_cons (pe_fld (pv 0) rfl) pa_nil))), ?_⟩
    obtain ⟨o, dx, dp, de, ps, es, rfl, N, q⟩ := h
    refine ⟨_, rfl, o, C, dx, _, .ref de, rfl, N.at_, c, n1, rfl, de, dEnds es, rfl, .inl N.ends, fun t nt => ?_⟩
    rw [keys_ends]
    exact q t nt
theorem scNl : FnScope ["self"] ["self"] (defScope sNLen) := ⟨rfl, rfl, rfl, by decide +kernel, rfl, by decide +kernel, by decide +kernel⟩
theorem ok_nlen {f : Addr} {fd : FuncData} (F : FnM K "__len__" "Net.__len__" sNLen f fd) (c : Cls K C) (n1 : NoAttr K C "_ends") (mL : mg "len" = none) : FnOk P w K mg base CX0 1 f fd ["self"] (spNLen C) := by
  refine F.ok (CX := CX0) scNl (fun vs H Q E h => ?_) (fun cdv A outer s H vs Q E hr h => ?_)
  · obtain ⟨o, dx, dp, de, ps, es, rfl, _⟩ := h
    rfl
  · refine ⟨_, pss_one (ps_ret (pe_callB call_lenD (by rfl) mL boot_len (pa_cons (pe_fld (pv 0) rfl) pa_nil))), ?_⟩
    obtain ⟨o, dx, dp, de, ps, es, rfl, N, q⟩ := h
    refine ⟨_, rfl, o, C, dx, _, .ref de, rfl, N.at_, c, n1, rfl, de, dEnds es, rfl, N.ends, ?_⟩
    have : (dEnds es).length = es.length := List.length_map _
    rw [this]
    exact q
end
end K58

set_option Elab.async false
set_option linter.all false
set_option maxRecDepth 100000
set_option maxHeartbeats 4000000
namespace K58
open PySem PySem.Spec PyProof.Rows L2 Vl Evl Vp Vx2
abbrev sChkP : Stmt := top 22
/-- the first of ns that is not in ps is l -/
def FirstOut (ns ps : List (List Nat)) (l : List Nat) : Prop := ∃ i : Nat, ns[i]? = some l ∧ l ∉ ps ∧ ∀ (j : Nat) (y : List Nat), j < i → ns[j]? = some y → y ∈ ps
/-- check_posts(net, names) -/
def spChkP (K : PySem.W.Frag) (C NP : Addr) : Sp := fun vs H Q E => ∃ (o dx dp de t : Addr) (ps : List (List Nat)) (es : List Row) (ns : List (List Nat)), vs = [.ref o, .ref t] ∧ NetAt C H o dx dp de ps es ∧ SqT K H t (vtx ns) ∧
  (((∀ l ∈ ns, l ∈ ps) ∧ ∀ H', Ex H H' → Q .non H') ∨ ∃ l, FirstOut ns ps l ∧ RaisedF NP "name" H (.str (tx l)) E)
section
variable {P : Program} {w : World} {K : PySem.W.Frag} {mg : Str → Option Value} {base : Heap} {C NP pL fL : Addr}
theorem scCP : FnScope ["net", "names", "name"] ["net", "names"] (defScope sChkP) := ⟨rfl, rfl, rfl, by decide +kernel, rfl, by decide +kernel, by decide +kernel⟩
theorem ok_chkp {f : Addr} {fd fdL : FuncData} (F : FnP K "check_posts" sChkP f fd) (c : Cls K C) (hp : PropOf K C "posts" pL fL) (bL : Binds K fdL ["self"] []) (GL : FnOk P w K mg base CX0 1 fL fdL ["self"] (spPosts C)) (EP : Err1 P w K mg base "NoPost" "name" NP) :
    FnOk P w K mg base (L2.CX P w) 3 f fd ["net", "names"] (spChkP K C NP) := by
  obtain ⟨fE, fdE, iC, tI, bE, GE⟩ := EP.ini
  refine F.ok (CX := L2.CX P w) scCP (fun vs H Q E h => ?_) (fun cdv A outer s H vs Q E hr h => ?_)
  · obtain ⟨o, dx, dp, de, t, ps, es, ns, rfl, _⟩ := h
    rfl
  · have hr2 : Room 2 _ := hr
    refine ⟨_, (pss_one (ps_for (passes_of rfl) rfl (pi_tup (pv 1)) (pg_name (i := 2) scCP.nd rfl (by first | exact Or.inl rfl | exact Or.inr rfl))
      (pss_one (ps_if (pt_cmpR op_notIn_seq (pv 2) (pe_prop (E := E0) (pv 0) c hp GL hr2 bL .nil pass0 (by rfl)) rfl) (pss_one (ps_raise rfl (takes_of rfl rfl rfl rfl) (pmk_oex EP.T iC tI GE hr2 bE .nil pass0 (by rfl) EP.g (pa_cons (pv 2) pa_nil)))) pss_nil)))), ?_⟩
    obtain ⟨o, dx, dp, de, t, ps, es, ns, rfl, N, ht, h⟩ := h
    refine s_forT (a := t) (ev_var rfl) ht (fun i st H' => ∃ t2, st = [some (.ref o), some (.ref t), t2] ∧ Ex H H' ∧ ∀ (j : Nat) (y : List Nat), j < i → ns[j]? = some y → y ∈ ps)
      (fun H1 e => ⟨none, rfl, e, fun j y hj => absurd hj (Nat.not_lt_zero j)⟩) (fun i st H' _ ⟨_, _, e, _⟩ => ex_t e ht) ?_ ?_
    · rintro i x σ' H1 hx ⟨t2, rfl, e1, hall⟩
      unfold vtx at hx
      rw [List.getElem?_map] at hx
      obtain ⟨l, hl, rfl⟩ := Option.map_eq_some_iff.mp hx
      have N1 := N.mono e1
      refine ⟨_, rfl, _, rfl, o, dx, _, rfl, N1.at_, o, dx, dp, de, ps, es, rfl, N1, fun tt ntt => ?_⟩
      have e2 := e1.trans (Ex.new (o := .tup (vtx ps)) ntt)
      refine ⟨tt, vtx ps, rfl, .inr (.inl (.inl upd_same)), rfl, flat_vtx ps, _, rfl, ?_⟩
      rw [if_pos rfl, inV_vtx]
      by_cases hm : l ∈ ps
      · refine if_f (by rw [decide_eq_true hm]; decide) ?_
        refine ⟨_, rfl, e2, fun j y hj hy => ?_⟩
        by_cases hji : j < i
        · exact hall j y hji hy
        · obtain rfl : j = i := by omega
          rw [hl] at hy
          obtain rfl := Option.some.inj hy
          exact hm
      · refine if_t (by rw [decide_eq_false hm]; rfl) ?_
        rcases h with ⟨ha, _⟩ | ⟨l2, ⟨i2, g1, g2, g3⟩, q⟩
        · exact absurd (ha l (List.mem_of_getElem? hl)) hm
        · have ei : i = i2 := by
            rcases Nat.lt_trichotomy i i2 with h1 | h1 | h1
            · exact absurd (g3 i l h1 hl) hm
            · exact h1
            · exact absurd (hall i2 l2 h1 g1) g2
          rw [ei] at hl
          rw [hl] at g1
          obtain rfl := Option.some.inj g1
          exact raised_f (W := fun cls d _ H' => E cls d H') 2 rfl rfl (RaisedF.grow q e2)
    · rintro st H1 ⟨t2, rfl, e1, hall⟩
      rcases h with ⟨ha, q⟩ | ⟨l2, ⟨i2, g1, g2, g3⟩, q⟩
      · exact q H1 e1
      · exact absurd (hall i2 l2 (by rw [vtx_len]; exact (List.getElem?_eq_some_iff.mp g1).1) g1) g2
end
end K58

set_option Elab.async false
set_option linter.all false
set_option maxRecDepth 100000
set_option maxHeartbeats 4000000
namespace K58
open PySem PySem.Spec PyProof.Rows L2 Vl Evl Vp Vx2
def laneNames (es : List Row) : List (List Nat) := es.map fun e => e.2.1
theorem ends_val (es : List Row) (l : List Nat) : (valV (dEnds es) (Sum.inr (tx l) : Key)).isSome = decide (l ∈ laneNames es) := by
  induction es with
  | nil => rfl
  | cons x r ih =>
    unfold dEnds laneNames at *
    rw [List.map_cons, List.map_cons]
    by_cases h : x.2.1 = l
    · rw [valV_pos (by rw [h]), decide_eq_true (by rw [h]; exact List.mem_cons_self)]
      rfl
    · have hn : ¬ (Sum.inr (tx x.2.1) : Key) = Sum.inr (tx l) := fun z => h (tx_inj (Sum.inr.inj z))
      rw [valV_neg hn, ih]
      by_cases hm : l ∈ r.map fun e => e.2.1
      · rw [decide_eq_true hm, decide_eq_true (List.mem_cons_of_mem _ hm)]
      · rw [decide_eq_false hm, decide_eq_false (fun z => (List.mem_cons.mp z).elim (fun e => h e.symm) hm)]
/-- x in net -/
def spHas (K : PySem.W.Frag) (C : Addr) : Sp := fun vs H Q _ => ∃ (o dx dp de : Addr) (y : V) (ps : List (List Nat)) (es : List Row), vs = [.ref o, y] ∧ NetAt C H o dx dp de ps es ∧
  ((∃ l, y = .str (tx l) ∧ Q (.bl (decide (l ∈ laneNames es))) H) ∨ (∃ t : String, TyX K H y (.type t) ∧ kitB t "str" = some false ∧ Q (.bl false) H))
section
variable {P : Program} {w : World} {K : PySem.W.Frag} {mg : Str → Option Value} {base : Heap} {C : Addr}
theorem scHs : FnScope ["self", "x"] ["self", "x"] (defScope sHas) := ⟨rfl, rfl, rfl, by decide +kernel, rfl, by decide +kernel, by decide +kernel⟩
theorem ok_has {f : Addr} {fd : FuncData} (F : FnM K "__contains__" "Net.__contains__" sHas f fd) (c : Cls K C) (n1 : NoAttr K C "_ends") (mI : mg "isinstance" = none) (mS : mg "str" = none) : FnOk P w K mg base CX0 1 f fd ["self", "x"] (spHas K C) := by
  refine F.ok (CX := CX0) scHs (fun vs H Q E h => ?_) (fun cdv A outer s H vs Q E hr h => ?_)
  · obtain ⟨o, dx, dp, de, y, ps, es, rfl, _⟩ := h
    rfl
  · refine ⟨_, pss_one (ps_ret (pe_and (pe_callB call_isi (by rfl) mI boot_isinstance (pa_cons (pv 1) (pa_cons (pe_bltn (v := V.ty "str") (by rfl) mS boot_str rfl) pa_nil)))
      (pe_one (pe_cmp (pc_din (Nat.lt_of_le_of_lt (Nat.add_le_add_left (show 1 ≤ 64 by decide) _) hr.units) (pv 1) (pe_fld (pv 0) rfl)))))), ?_⟩
    obtain ⟨o, dx, dp, de, y, ps, es, rfl, N, h⟩ := h
    rcases h with ⟨l, rfl, q⟩ | ⟨t, ht, hk, q⟩
    · refine ⟨_, rfl, V.str (tx l), V.ty "str", .type "str", .type "str", true, rfl, .ty _, .base (.str _), kit_ty (by decide +kernel), true, rfl, ?_⟩
      refine if_t rfl ?_
      refine ⟨_, rfl, _, rfl, o, C, dx, _, .ref de, rfl, N.at_, c, n1, rfl, de, _, rfl, DGet.k (k := (Sum.inr (tx l) : Key)) N.ends, ?_⟩
      rw [ends_val]
      exact q
    · refine ⟨_, rfl, y, V.ty "str", .type t, .type "str", false, rfl, .ty _, ht, kit_ty hk, false, rfl, ?_⟩
      exact if_f Bool.false_ne_true q
end
end K58

set_option Elab.async false
set_option linter.all false
set_option maxRecDepth 100000
set_option maxHeartbeats 2000000
/-! Sequences that go round: the least of all turns tells them apart. -/
namespace Vr
open PySem PySem.Spec PyProof.Rows L2 Vl Vp
def dtx (a : List (List Nat)) : List PyData := a.map fun l => PyData.str (tx l)
def wd (a : List (List Nat)) : PyData := .tuple (dtx a)
def ltW (a b : List (List Nat)) : Bool := PySem.W.dataLt (wd a) (wd b)
theorem key_inj : ∀ {a b : List (List Nat)}, PySem.W.keyToksAll (dtx a) = PySem.W.keyToksAll (dtx b) → a = b
  | [], [], _ => rfl
  | [], x :: r, h => by
    unfold dtx at h
    simp only [List.map_nil, List.map_cons, PySem.W.keyToksAll] at h
    cases List.cons.inj h |>.1
  | x :: r, [], h => by
    unfold dtx at h
    simp only [List.map_nil, List.map_cons, PySem.W.keyToksAll] at h
    cases List.cons.inj h |>.1
  | x :: r, y :: t, h => by
    unfold dtx at h
    simp only [List.map_cons, PySem.W.keyToksAll, PySem.W.keyToks, List.cons_append, List.nil_append] at h
    obtain ⟨_, h⟩ := List.cons.inj h
    obtain ⟨h1, h2⟩ := List.cons.inj h
    have e1 : x = y := Sum.inr.inj h1
    have e2 : r = t := key_inj h2
    rw [e1, e2]
theorem lt_irr (a : List (List Nat)) : ltW a a = false := PyProof.Rows.lex_irrefl (O := itemOrd) _
theorem lt_trans {a b c : List (List Nat)} (h1 : ltW a b = true) (h2 : ltW b c = true) : ltW a c = true := PyProof.Rows.lex_trans (O := itemOrd) _ _ _ h1 h2
theorem lt_total {a b : List (List Nat)} (h1 : ltW a b = false) (h2 : ltW b a = false) : a = b := by
  have := PyProof.Rows.lex_total (O := itemOrd) _ _ h1 h2
  unfold wd at this
  rw [PySem.W.keyToks, PySem.W.keyToks] at this
  exact key_inj this
theorem le_trans {a b c : List (List Nat)} (h1 : ltW b a = false) (h2 : ltW c b = false) : ltW c a = false := by
  cases e : ltW c a with
  | false => rfl
  | true =>
    rcases PyProof.Rows.lex_negTrans (O := itemOrd) (PySem.W.keyToks (wd c)) (PySem.W.keyToks (wd b)) (PySem.W.keyToks (wd a)) e with h | h
    · exact absurd h2 (by rw [show ltW c b = true from h]; decide)
    · exact absurd h1 (by rw [show ltW b a = true from h]; decide)
/-- begun elsewhere -/
def rot {α : Type} (a : List α) (k : Nat) : List α := a.drop k ++ a.take k
theorem rot_zero {α : Type} (a : List α) : rot a 0 = a := by
  unfold rot
  rw [List.take_zero, List.append_nil, List.drop_zero]
theorem rot_len {α : Type} (a : List α) (k : Nat) : (rot a k).length = a.length := by
  unfold rot
  rw [List.length_append, List.length_drop, List.length_take]
  omega
theorem rot_at {α : Type} {a : List α} {k i : Nat} (hk : k ≤ a.length) (hi : i < a.length) : (rot a k)[i]? = a[(i + k) % a.length]? := by
  unfold rot
  by_cases h : i < a.length - k
  · rw [List.getElem?_append_left (by rw [List.length_drop]; exact h), List.getElem?_drop, Nat.mod_eq_of_lt (by omega), Nat.add_comm]
  · rw [List.getElem?_append_right (by rw [List.length_drop]; omega), List.length_drop, List.getElem?_take_of_lt (by omega), Nat.mod_eq_sub_mod (by omega), Nat.mod_eq_of_lt (by omega)]
    congr 1
    omega
theorem rot_rot {α : Type} {a : List α} {k j : Nat} (hk : k < a.length) (hj : j < a.length) : rot (rot a k) j = rot a ((k + j) % a.length) := by
  refine List.ext_getElem? fun i => ?_
  have hn : (k + j) % a.length < a.length := Nat.mod_lt _ (by omega)
  by_cases hi : i < a.length
  · rw [rot_at (by rw [rot_len]; omega) (by rw [rot_len]; exact hi), rot_len, rot_at (by omega) (Nat.mod_lt _ (by omega)), rot_at (by omega) hi, Nat.mod_add_mod, Nat.add_mod_mod]
    congr 2
    omega
  · rw [List.getElem?_eq_none (by rw [rot_len, rot_len]; omega), List.getElem?_eq_none (by rw [rot_len]; omega)]
theorem rot_back {α : Type} {a : List α} {k : Nat} (hk : k < a.length) : rot (rot a k) ((a.length - k) % a.length) = a := by
  rw [rot_rot hk (Nat.mod_lt _ (by omega)), Nat.add_mod_mod, show k + (a.length - k) = a.length by omega, Nat.mod_self, rot_zero]
/-- the least of the turns 0 .. k -/
def lt1 (a : List (List Nat)) : Nat → List (List Nat)
  | 0 => a
  | k + 1 => if ltW (rot a (k + 1)) (lt1 a k) = true then rot a (k + 1) else lt1 a k
theorem lt1_turn (a : List (List Nat)) : ∀ k, ∃ j, j ≤ k ∧ lt1 a k = rot a j
  | 0 => ⟨0, by omega, (rot_zero a).symm⟩
  | k + 1 => by
    obtain ⟨j, h1, h2⟩ := lt1_turn a k
    unfold lt1
    by_cases h : ltW (rot a (k + 1)) (lt1 a k) = true
    · rw [if_pos h]
      exact ⟨k + 1, by omega, rfl⟩
    · rw [if_neg h]
      exact ⟨j, by omega, h2⟩
theorem lt1_least (a : List (List Nat)) : ∀ k j, j ≤ k → ltW (rot a j) (lt1 a k) = false
  | 0, j, h => by
    obtain rfl : j = 0 := by omega
    rw [rot_zero]
    exact lt_irr a
  | k + 1, j, h => by
    unfold lt1
    by_cases g : ltW (rot a (k + 1)) (lt1 a k) = true
    · rw [if_pos g]
      by_cases e : j = k + 1
      · rw [e]
        exact lt_irr _
      · refine le_trans (b := lt1 a k) ?_ (lt1_least a k j (by omega))
        cases z : ltW (lt1 a k) (rot a (k + 1)) with
        | false => rfl
        | true =>
          have := lt_trans z g
          rw [lt_irr] at this
          cases this
    · rw [if_neg g]
      by_cases e : j = k + 1
      · rw [e]
        exact Bool.eq_false_iff.mpr g
      · exact lt1_least a k j (by omega)
def least (a : List (List Nat)) : List (List Nat) := lt1 a (a.length - 1)
theorem lt1_len (a : List (List Nat)) (k : Nat) : (lt1 a k).length = a.length := by
  obtain ⟨j, _, h⟩ := lt1_turn a k
  rw [h, rot_len]
theorem least_len (a : List (List Nat)) : (least a).length = a.length := lt1_len _ _
def Turn (a b : List (List Nat)) : Prop := ∃ k, k < a.length ∧ rot a k = b
theorem Turn.sub {a b : List (List Nat)} (h : Turn a b) : ltW (least b) (least a) = false := by
  obtain ⟨k, hk, rfl⟩ := h
  obtain ⟨j, hj, e⟩ := lt1_turn (rot a k) ((rot a k).length - 1)
  rw [rot_len] at hj
  have e2 : least (rot a k) = rot a ((k + j) % a.length) := e.trans (rot_rot hk (by omega))
  rw [e2]
  have := Nat.mod_lt (k + j) (show 0 < a.length by omega)
  exact lt1_least a _ _ (by omega)
theorem Turn.symm {a b : List (List Nat)} (h : Turn a b) : Turn b a := by
  obtain ⟨k, hk, rfl⟩ := h
  exact ⟨(a.length - k) % a.length, by rw [rot_len]; exact Nat.mod_lt _ (by omega), rot_back hk⟩
theorem least_iff {a b : List (List Nat)} (ha : 1 ≤ a.length) (hb : 1 ≤ b.length) : least a = least b ↔ Turn a b := by
  constructor
  · intro h
    obtain ⟨i, hi, e1⟩ := lt1_turn a (a.length - 1)
    obtain ⟨j, hj, e2⟩ := lt1_turn b (b.length - 1)
    have e : rot a i = rot b j := e1.symm.trans (h.trans e2)
    have hl : a.length = b.length := by
      have := congrArg List.length e
      rw [rot_len, rot_len] at this
      exact this
    have hb2 := rot_back (a := b) (k := j) (by omega)
    rw [← e, rot_rot (a := a) (by omega) (by rw [hl]; exact Nat.mod_lt _ (by omega))] at hb2
    exact ⟨_, Nat.mod_lt _ (by omega), hb2⟩
  · intro h
    exact lt_total h.symm.sub h.sub
/-- compared as data -/
theorem alike_dtx : ∀ a b : List (List Nat), PySem.W.alikeAll (dtx a) (dtx b) = true
  | [], _ => by
    unfold dtx
    rw [List.map_nil, PySem.W.alikeAll]
  | x :: r, [] => by
    unfold dtx
    rw [List.map_nil, List.map_cons, PySem.W.alikeAll]
  | x :: r, y :: t => by
    have := alike_dtx r t
    unfold dtx at *
    rw [List.map_cons, List.map_cons, PySem.W.alikeAll, this, PySem.W.alike]
    rfl
theorem alike_wd (a b : List (List Nat)) : PySem.W.alike (wd a) (wd b) = true := by
  unfold wd
  rw [PySem.W.alike]
  exact alike_dtx a b
theorem dep_dtx : ∀ a : List (List Nat), PyData.depthAll (dtx a) = 0
  | [] => rfl
  | x :: r => by
    show max 0 (PyData.depthAll (dtx r)) = 0
    rw [dep_dtx r]
    rfl
theorem dep_wd (a : List (List Nat)) : (wd a).depth ≤ 1 := by
  show PyData.depthAll (dtx a) + 1 ≤ 1
  rw [dep_dtx]
  omega
theorem dpa_vtx {K : PySem.W.Frag} {H : Hp} : ∀ a : List (List Nat), DpAll K H (vtx a) (dtx a)
  | [] => .nil
  | x :: r => .cons (.str _) (dpa_vtx r)
theorem dp_wd {K : PySem.W.Frag} {H : Hp} {p : Addr} {a : List (List Nat)} (h : SqT K H p (vtx a)) : Dp K H (.ref p) (wd a) := .tup h (dpa_vtx a)
theorem vtx_inj {a b : List (List Nat)} (h : vtx a = vtx b) : a = b := by
  have : ∀ x y : List Nat, V.str (tx x) = V.str (tx y) → x = y := fun x y e => tx_inj (V.str.inj e)
  exact List.map_inj_right this |>.mp h
theorem vtx_rot (a : List (List Nat)) (k : Nat) : vtx (rot a k) = (vtx a).drop k ++ (vtx a).take k := by
  unfold rot
  rw [vtx_app, vtx_drop, vtx_take]
theorem vtx_rev (a : List (List Nat)) : (vtx a).reverse = vtx a.reverse := List.map_reverse.symm
end Vr

set_option Elab.async false
set_option linter.all false
set_option maxRecDepth 100000
set_option maxHeartbeats 2000000
/-! Tuples and lists of texts compared. -/
namespace Vda
open PySem PySem.Spec PyProof.Rows L2 Vl Evl Vp Vr
/-- texts of true signs -/
def Oks (a : List (List Nat)) : Prop := ∀ l ∈ a, ∀ c ∈ l, c < 1114112
theorem oks_nam {a : List (List Nat)} (h : ∀ l ∈ a, nam l) : Oks a := fun l hl c hc => by
  have hs : c ∈ Vp.signs := nam_signs (h l hl) c hc
  have all : ∀ c ∈ Vp.signs, c < 128 := by decide +kernel
  have := all c hs
  omega
theorem oks_cons {l : List Nat} {a : List (List Nat)} (h : ∀ c ∈ l, c < 1114112) (ha : Oks a) : Oks (l :: a) := fun x hx => by
  rcases List.mem_cons.mp hx with rfl | hx
  · exact h
  · exact ha x hx
theorem ok_nam {l : List Nat} (h : nam l) : ∀ c ∈ l, c < 1114112 := oks_nam (a := [l]) (fun x hx => by rw [List.mem_singleton.mp hx]; exact h) l List.mem_cons_self
theorem oks_nil : Oks [] := fun _ h => nomatch h
theorem lay_ok : ∀ a : List (List Nat), Oks a → PyData.canLayAll0 (dtx a) = true
  | [], _ => rfl
  | x :: r, h => by
    have hr := lay_ok r fun l hl => h l (List.mem_cons_of_mem _ hl)
    have hx : PyData.canLay0 (PyData.str (tx x)) = true := by
      show PyData.strOk (tx x) = true
      unfold PyData.strOk
      rw [← Array.all_toList, tx_list, List.all_eq_true]
      exact fun c hc => decide_eq_true (h x List.mem_cons_self c hc)
    show (PyData.canLay0 (PyData.str (tx x)) && PyData.canLayAll0 (dtx r)) = true
    rw [hx, hr]
    rfl
theorem sh_w {a : List (List Nat)} (h : Oks a) : SeqAt.shaped (wd a) = true := shaped_of (lay_ok a h) (by have := dep_wd a; omega)
def wls (a : List (List Nat)) : PyData := .list (dtx a)
theorem sh_l {a : List (List Nat)} (h : Oks a) : SeqAt.shaped (wls a) = true := shaped_of (lay_ok a h) (by
  show PyData.depthAll (dtx a) + 1 ≤ 64
  rw [dep_dtx]
  omega)
theorem eq_w (a b : List (List Nat)) : PyData.eqv (wd a) (wd b) = decide (a = b) := by
  by_cases h : a = b
  · rw [decide_eq_true h, h]
    exact PySem.W.eqv_refl_alike _ (alike_wd b b)
  · rw [decide_eq_false h]
    cases e : PyData.eqv (wd a) (wd b) with
    | false => rfl
    | true =>
      have k := (PySem.W.toks_eqv (wd a) (wd b) (alike_wd a b)).1 e
      unfold wd at k
      rw [PySem.W.keyToks, PySem.W.keyToks] at k
      exact absurd (key_inj k) h
theorem eq_l (a b : List (List Nat)) : PyData.eqv (wls a) (wls b) = decide (a = b) := by
  rw [← eq_w]
  unfold wls wd
  rw [PyData.eqv, PyData.eqv]
theorem dp_l {K : PySem.W.Frag} {H : Hp} {p : Addr} {a : List (List Nat)} (h : SqL K H p (vtx a)) : Dp K H (.ref p) (wls a) := .lst h (dpa_vtx a)
section
variable {K : PySem.W.Frag} {H : Hp} {p q : Addr} {a b : List (List Nat)}
theorem rv_eqT (h : SqT K H p (vtx a)) (h2 : SqT K H q (vtx b)) (oa : Oks a) (ob : Oks b) : RV (rEqD K) (.ref p) (.ref q) H (.bl (decide (a = b))) := fun H1 e1 Q q1 => by
  refine ⟨wd a, wd b, dp_wd (ex_t e1 h), dp_wd (ex_t e1 h2), sh_w oa, sh_w ob, ?_⟩
  rw [eq_w]
  exact q1 H1 (Ex.refl _)
theorem rv_neT (h : SqT K H p (vtx a)) (h2 : SqT K H q (vtx b)) (oa : Oks a) (ob : Oks b) : RV (rNeD K) (.ref p) (.ref q) H (.bl (!decide (a = b))) := fun H1 e1 Q q1 => by
  refine ⟨wd a, wd b, dp_wd (ex_t e1 h), dp_wd (ex_t e1 h2), sh_w oa, sh_w ob, ?_⟩
  rw [eq_w]
  exact q1 H1 (Ex.refl _)
theorem rv_eqL (h : SqL K H p (vtx a)) (h2 : SqL K H q (vtx b)) (oa : Oks a) (ob : Oks b) : RV (rEqD K) (.ref p) (.ref q) H (.bl (decide (a = b))) := fun H1 e1 Q q1 => by
  refine ⟨wls a, wls b, dp_l (ex_l e1 h), dp_l (ex_l e1 h2), sh_l oa, sh_l ob, ?_⟩
  rw [eq_l]
  exact q1 H1 (Ex.refl _)
theorem rv_neL (h : SqL K H p (vtx a)) (h2 : SqL K H q (vtx b)) (oa : Oks a) (ob : Oks b) : RV (rNeD K) (.ref p) (.ref q) H (.bl (!decide (a = b))) := fun H1 e1 Q q1 => by
  refine ⟨wls a, wls b, dp_l (ex_l e1 h), dp_l (ex_l e1 h2), sh_l oa, sh_l ob, ?_⟩
  rw [eq_l]
  exact q1 H1 (Ex.refl _)
end
end Vda

set_option Elab.async false
set_option linter.all false
set_option maxRecDepth 100000
set_option maxHeartbeats 2000000
/-! [k for k in d if ..], a dict locked meanwhile; tuple([..]). -/
namespace Vlk
open PySem PySem.Spec PyProof.Rows L2 Evl
/-- H, the dict at d locked -/
abbrev Lk (H : Hp) (d : Addr) (od : Obj) (kvs : List (Key × V)) : Hp := upd H d (.frz od (.dK kvs))
section
variable {K : PySem.W.Frag} {σ : L2.St} {H : Hp}
theorem lk_get {d b : Addr} {od : Obj} {kvs : List (Key × V)} {o : HO} (h : H b = some o) (hn : b ≠ d) : Lk H d od kvs b = some o := by
  show upd H d _ b = _
  rw [upd_ne hn]
  exact h
theorem dget_frz {d : Addr} {od : Obj} {kvs : List (Key × V)} {k : Key} (h : H d = some (.frz od (.dK kvs))) : DGet H d (kV k) (valV kvs k) := .inl ⟨kvs, k, .inr ⟨od, h⟩, rfl, rfl⟩
/-- the keys of d for which the test says yes -/
theorem el_keys {td : TE} {tt : TT} {j : Nat} {d : Addr} {kvs : List (Key × V)} (c : Key × V → Bool) (hd : H d = some (.dK kvs)) (hz : kvs.length ≤ 40000) (hw : ∀ x, wipe ((wipe σ [j]).set j (some x)) [j] = wipe σ [j])
    (hj : ∀ x, ((wipe σ [j]).set j (some x))[j]? = some (some x))
    (htd : ∀ H1 od, Ex H H1 → Ev td σ (Lk H1 d od kvs) (.ref d))
    (ht : ∀ (H1 : Hp) (od : Obj) (i : Nat) (kv : Key × V), Ex H H1 → kvs[i]? = some kv → EvT tt ((wipe σ [j]).set j (some (kV kv.1))) (Lk H1 d od kvs) (c kv)) :
    EvL (tLockE (tLc (iKeys td) (gName j) tt (tVar j) [j])) σ H ((kvs.filter c).map fun kv => kV kv.1) := by
  intro H1 e1 Q q
  refine ⟨d, .dK kvs, e1 _ _ hd, trivial, fun od => ?_⟩
  have hlk : (Lk H1 d od kvs) d = some (.frz od (.dK kvs)) := upd_same
  refine htd H1 od e1 _ (Ex.refl _) _ fun H2 e2 => ?_
  refine ⟨d, od, rfl, .inl ⟨kvs, e2 _ _ hlk, fun D nD => ?_⟩⟩
  have ndd : D ≠ d := fun z => by rw [z, e2 _ _ hlk] at nD; cases nD
  have hn2 : (Lk H1 d od kvs) D = none := fresh_back e2 nD
  have hn1 : H1 D = none := by
    have := hn2
    rw [show (Lk H1 d od kvs) D = H1 D from upd_ne ndd] at this
    exact this
  refine lc_it walk_keys (fun i H3 => Ex (Lk H1 d od kvs) H3 ∧ H3 D = some (.lst (((kvs.take i).filter c).map fun kv => kV kv.1))) ⟨Ex.mut e2 hn2, by rw [List.take_zero]; exact upd_same⟩ (fun i H3 _ h => h.1 _ _ hlk) ?_ ?_
  · rintro i x H3 H4 hi ⟨e3, hD⟩ ⟨rfl, k, v, hk, rfl⟩
    have htk : kvs.take (i + 1) = kvs.take i ++ [(k, v)] := by rw [List.take_succ, hk]; rfl
    refine ⟨hw _, ?_⟩
    have hc := ht H1 od i (k, v) e1 hk
    refine hc H4 e3 _ fun H5 e5 => ?_
    cases hcv : c (k, v) with
    | true =>
      rw [if_pos rfl]
      refine ⟨kV k, hj _, _, e5 _ _ hD, ?_, Ex.mut (e3.trans e5) hn2, ?_⟩
      · refine sz_lt ?_
        rw [List.length_map]
        have := List.length_filter_le c (kvs.take i)
        rw [List.length_take] at this
        omega
      · rw [upd_same, htk, List.filter_append, List.map_append, List.filter_cons_of_pos hcv]
        rfl
    | false =>
      rw [if_neg (by decide)]
      refine ⟨e3.trans e5, ?_⟩
      rw [e5 _ _ hD, htk, List.filter_append, List.filter_cons_of_neg (by rw [hcv]; decide), List.filter_nil, List.append_nil]
  · rintro H3 ⟨e3, hD⟩
    rw [List.take_length] at hD
    have ne : D ≠ d := ndd
    refine ⟨e3 _ _ hlk, q D _ hn1 (fun b o hb => ?_) (by rw [upd_ne ne]; exact hD)⟩
    by_cases hbd : b = d
    · rw [hbd, upd_same]
      rw [hbd, e1 _ _ hd] at hb
      exact hb
    · rw [upd_ne hbd]
      exact e3 _ _ (lk_get hb hbd)
/-- tuple(a new list) -/
theorem eu_tupleL {te : TE} {xs : List V} (h : EvL te σ H xs) : EvU (tCB (fun vs H Q => ∃ p ys, vs = [.ref p] ∧ ((SqL K H p ys ∧ ∀ l, H l = none → Q (.ref l) (upd H l (.tup ys))) ∨ (SqT K H p ys ∧ Q (.ref p) H))) (tCons te tNil)) σ H xs := by
  intro H1 e1 Q q
  refine h H1 e1 _ fun p H2 hp e2 h2 => ?_
  exact ⟨p, xs, rfl, .inl ⟨sq_of h2, fun l hl => q l _ (fresh_back e2 hl) (e2.trans (Ex.new hl)) upd_same⟩⟩
theorem ev_fld {te : TE} {o C dx : Addr} {fs : List (Str × V)} {f : Str} {v : V} (h : Ev te σ H (.ref o)) (ho : H o = some (.ins C dx fs)) (c : Cls K C) (n : NoAttr K C f) (hl : fs.lookup f = some v) : Ev (tFld K te f) σ H v :=
  fun H1 e Q q => h H1 e _ fun H2 e2 => ⟨o, C, dx, fs, v, rfl, (e.trans e2) _ _ ho, c, n, hl, q H2 e2⟩
theorem dget_ex {H' : Hp} {a : Addr} {y : V} {r : Option V} (e : Ex H H') (h : DGet H a y r) : DGet H' a y r := by
  rcases h with ⟨kvs, k, h1, h2, h3⟩ | ⟨kvs, k, b, h1, h2, h3, h4⟩
  · exact .inl ⟨kvs, k, ex_rd e h1, h2, h3⟩
  · exact .inr ⟨kvs, k, b, ex_rd e h1, h2, e _ _ h3, h4⟩
theorem ev_dget {td ty : TE} {d : Addr} {y v : V} (h : Ev td σ H (.ref d)) (h2 : Ev ty σ H y) (hg : DGet H d y (some v)) : Ev (tDGet td ty) σ H v :=
  fun H1 e Q q => h H1 e _ fun H2 e2 => h2 H2 (e.trans e2) _ fun H3 e3 => ⟨d, v, rfl, dget_ex ((e.trans e2).trans e3) hg, q H3 (e2.trans e3)⟩
end
end Vlk

set_option Elab.async false
set_option linter.all false
set_option maxRecDepth 100000
set_option maxHeartbeats 2000000
/-! What comes to data: whatever objects hold it. -/
namespace Ve
open PySem PySem.Spec PyProof.Rows L2 Vl Evl Vp Vr Vc Vlk Vda
mutual
theorem dp_ex {K : PySem.W.Frag} {H H' : Hp} (e : Ex H H') : ∀ {v : V} {d : PyData}, Dp K H v d → Dp K H' v d
  | _, _, .non => .non
  | _, _, .bl b => .bl b
  | _, _, .int i => .int i
  | _, _, .str x => .str x
  | _, _, .lst h hs => .lst (ex_l e h) (dpa_ex e hs)
  | _, _, .tup h hs => .tup (ex_t e h) (dpa_ex e hs)
theorem dpa_ex {K : PySem.W.Frag} {H H' : Hp} (e : Ex H H') : ∀ {v : List V} {d : List PyData}, DpAll K H v d → DpAll K H' v d
  | _, _, .nil => .nil
  | _, _, .cons h hs => .cons (dp_ex e h) (dpa_ex e hs)
end
def EvD (K : PySem.W.Frag) (te : TE) (σ : L2.St) (H : Hp) (d : PyData) : Prop := ∀ H1, Ex H H1 → ∀ Q : VK, (∀ v H2, Ex H1 H2 → Dp K H2 v d → Q v H2) → te σ H1 Q
def EvDA (K : PySem.W.Frag) (ta : TA) (σ : L2.St) (H : Hp) (ds : List PyData) : Prop := ∀ H1, Ex H H1 → ∀ Q : List V → Hp → Prop, (∀ vs H2, Ex H1 H2 → DpAll K H2 vs ds → Q vs H2) → ta σ H1 Q
def SpD (K : PySem.W.Frag) (sp : Sp) (vs : List V) (H : Hp) (d : PyData) : Prop := ∀ H1, Ex H H1 → ∀ Q : VK, (∀ v H2, Ex H1 H2 → Dp K H2 v d → Q v H2) → ∀ E : XK, sp vs H1 Q E
section
variable {K : PySem.W.Frag} {σ : L2.St} {H H' : Hp} {te ta tb : TE} {t : TA} {d e : PyData} {v : V}
theorem EvD.mono (x : Ex H H') (h : EvD K te σ H d) : EvD K te σ H' d := fun H1 a Q q => h H1 (x.trans a) Q q
theorem ed_ev (h : Ev te σ H v) (hd : Dp K H v d) : EvD K te σ H d := fun H1 e Q q => h H1 e Q fun H2 e2 => q v H2 e2 (dp_ex (e.trans e2) hd)
theorem ed_str {s : List Nat} (h : Ev te σ H (.str (tx s))) : EvD K te σ H (.str (tx s)) := ed_ev h (.str _)
theorem ed_U {xs : List V} {ds : List PyData} (h : EvU te σ H xs) (hd : DpAll K H xs ds) : EvD K te σ H (.tuple ds) := fun H1 e Q q => h H1 e Q fun p H2 _ e2 hp => q _ H2 e2 (.tup (.inl (.inl hp)) (dpa_ex (e.trans e2) hd))
theorem ed_L {xs : List V} {ds : List PyData} (h : EvL te σ H xs) (hd : DpAll K H xs ds) : EvD K te σ H (.list ds) := fun H1 e Q q => h H1 e Q fun p H2 _ e2 hp => q _ H2 e2 (.lst (sq_of hp) (dpa_ex (e.trans e2) hd))
theorem ed_Un {xs : List (List Nat)} (h : EvU te σ H (vtx xs)) : EvD K te σ H (wd xs) := ed_U h (dpa_vtx xs)
theorem ed_Ln {xs : List (List Nat)} (h : EvL te σ H (vtx xs)) : EvD K te σ H (wls xs) := ed_L h (dpa_vtx xs)
theorem eda_nil : EvDA K tNil σ H [] := fun H1 _ Q q => q [] H1 (Ex.refl _) .nil
theorem eda_cons {ds : List PyData} (h : EvD K te σ H d) (hr : EvDA K t σ H ds) : EvDA K (tCons te t) σ H (d :: ds) := fun H1 e Q q =>
  h H1 e _ fun v H2 e2 h2 => hr H2 (e.trans e2) _ fun vs H3 e3 h3 => q _ H3 (e2.trans e3) (.cons (dp_ex e3 h2) h3)
theorem dpa_len : ∀ {vs : List V} {ds : List PyData}, DpAll K H vs ds → vs.length = ds.length
  | _, _, .nil => rfl
  | _, _, .cons h hs => by
    rw [List.length_cons, List.length_cons, dpa_len hs]
theorem ed_tup {ds : List PyData} (h : EvDA K t σ H ds) (hl : ds.length ≤ 100000) : EvD K (tTup t) σ H (.tuple ds) := fun H1 e Q q =>
  h H1 e _ fun vs H2 e2 h2 => ⟨by rw [dpa_len h2]; exact sz_of hl, fun p hp => q _ _ (e2.trans (Ex.new hp)) (.tup (.inl (.inl upd_same)) (dpa_ex (Ex.new hp) h2))⟩
theorem ed_lst {ds : List PyData} (h : EvDA K t σ H ds) (hl : ds.length ≤ 100000) : EvD K (tLst t) σ H (.list ds) := fun H1 e Q q =>
  h H1 e _ fun vs H2 e2 h2 => ⟨by rw [dpa_len h2]; exact sz_of hl, fun p hp => q _ _ (e2.trans (Ex.new hp)) (.lst (sq_of upd_same) (dpa_ex (Ex.new hp) h2))⟩
theorem ev_eqD (h : EvD K ta σ H d) (h2 : EvD K tb σ H e) (s1 : SeqAt.shaped d = true) (s2 : SeqAt.shaped e = true) : Ev (tOp (rEqD K) ta tb) σ H (.bl (PyData.eqv d e)) := fun H1 x Q q =>
  h H1 x _ fun v H2 e2 hv => h2 H2 (x.trans e2) _ fun u H3 e3 hu => ⟨d, e, dp_ex e3 hv, hu, s1, s2, q H3 (e2.trans e3)⟩
theorem ev_neD (h : EvD K ta σ H d) (h2 : EvD K tb σ H e) (s1 : SeqAt.shaped d = true) (s2 : SeqAt.shaped e = true) : Ev (tOp (rNeD K) ta tb) σ H (.bl (!PyData.eqv d e)) := fun H1 x Q q =>
  h H1 x _ fun v H2 e2 hv => h2 H2 (x.trans e2) _ fun u H3 e3 hu => ⟨d, e, dp_ex e3 hv, hu, s1, s2, q H3 (e2.trans e3)⟩
theorem sh_lay (h : SeqAt.shaped d = true) : d.canLay0 = true := by
  unfold SeqAt.shaped at h
  exact (Bool.and_eq_true_iff.mp h).1
/-- the same data: equal -/
theorem ev_same (h : EvD K ta σ H d) (h2 : EvD K tb σ H d) (s : SeqAt.shaped d = true) : Ev (tOp (rEqD K) ta tb) σ H (.bl true) := by
  have := ev_eqD h h2 s s
  rw [SeqAt.eqv_refl d (sh_lay s)] at this
  exact this
theorem ev_unlike (h : EvD K ta σ H d) (h2 : EvD K tb σ H d) (s : SeqAt.shaped d = true) : Ev (tOp (rNeD K) ta tb) σ H (.bl false) := by
  have := ev_neD h h2 s s
  rw [SeqAt.eqv_refl d (sh_lay s)] at this
  exact this
theorem ed_fu {sp : Sp} {E : L2.St → XK} {vs : List V} (h : EvA t σ H vs) (hs : SpD K sp vs H d) : EvD K (tFu sp E t) σ H d := fun H1 e Q q =>
  h H1 e _ fun H2 e2 => hs H2 (e.trans e2) Q (fun v H3 e3 => q v H3 (e2.trans e3)) (E σ)
theorem et_yes : EvT tYes σ H true := fun H1 _ Q q => q H1 (Ex.refl _)
/-- tuple(a list that stands) -/
theorem eu_tupleA {p : Addr} {xs : List V} (h : Ev te σ H (.ref p)) (hx : SqL K H p xs) : EvU (tCB (fun vs H Q => ∃ p ys, vs = [.ref p] ∧ ((SqL K H p ys ∧ ∀ l, H l = none → Q (.ref l) (upd H l (.tup ys))) ∨ (SqT K H p ys ∧ Q (.ref p) H))) (tCons te tNil)) σ H xs := fun H1 e Q q =>
  h H1 e _ fun H2 e2 => ⟨p, xs, rfl, .inl ⟨ex_l (e.trans e2) hx, fun l hl => q l _ (fresh_back e2 hl) (e2.trans (Ex.new hl)) upd_same⟩⟩
theorem ev_lenA {p : Addr} {xs : List V} (h : Ev te σ H (.ref p)) (hx : SqL K H p xs) : Ev (tCB (fun vs H Q => ∃ x n, vs = [x] ∧ LenV K x H n ∧ Q (.int n) H) (tCons te tNil)) σ H (.int (xs.length : Nat)) := fun H1 e Q q =>
  h H1 e _ fun H2 e2 => ⟨.ref p, xs.length, rfl, .inl ⟨xs, ex_l (e.trans e2) hx, rfl⟩, q H2 e2⟩
theorem ev_ixA {p : Addr} {xs : List V} {i : Nat} (h : Ev te σ H (.ref p)) (hx : SqL K H p xs) (hi : xs[i]? = some v) : Ev (tOp (rIxL K) te (tC (.int (i : Nat)))) σ H v := ev_op h ev_c (rv_ixL hx (at_of rfl hi))
/-! comprehensions by their items -/
theorem given_map {α : Type} {ys : List α} (c : α → Bool) (w : α → V) (f : Nat → Bool) (v : Nat → V) (h : ∀ (i : Nat) (y : α), ys[i]? = some y → f i = c y ∧ v i = w y) : ∀ n, n ≤ ys.length → given n f v = ((ys.take n).filter c).map w
  | 0, _ => by rw [List.take_zero]; rfl
  | n + 1, hn => by
    have hlt : n < ys.length := by omega
    have hy : ys[n]? = some ys[n] := List.getElem?_eq_getElem hlt
    obtain ⟨h1, h2⟩ := h n _ hy
    have ih := given_map c w f v h n (by omega)
    have ht : ys.take (n + 1) = ys.take n ++ [ys[n]] := by rw [List.take_succ, hy]; rfl
    rw [ht, List.filter_append, List.map_append]
    cases hc : c ys[n] with
    | true =>
      rw [given_yes (by rw [h1]; exact hc), ih, List.filter_cons_of_pos hc, h2]
      rfl
    | false =>
      rw [given_no (by rw [h1]; exact hc), ih, List.filter_cons_of_neg (by rw [hc]; decide)]
      show _ = _ ++ []
      rw [List.append_nil]
theorem el_lcA {α : Type} {ys : List α} {g : α → V} {a : Addr} {tl : TE} {j : Nat} {vs : List Nat} {tt : TT} (c : α → Bool) (w : α → V) (h : Ev tl σ H (.ref a)) (hx : SqL K H a (ys.map g)) (hz : ys.length ≤ 40000) (hw : ∀ x, wipe ((wipe σ vs).set j (some x)) vs = wipe σ vs)
    (ht : ∀ (y : α) (H1 : Hp), Ex H H1 → y ∈ ys → EvT tt ((wipe σ vs).set j (some (g y))) H1 (c y)) (he : ∀ (y : α) (H1 : Hp), Ex H H1 → y ∈ ys → c y = true → Ev te ((wipe σ vs).set j (some (g y))) H1 (w y)) :
    EvL (tLc (iList K tl) (gName j) tt te vs) σ H ((ys.filter c).map w) := by
  have key := el_lcL (K := K) (σ := σ) (H := H) (te := te) (t := tt) (j := j) (vs := vs) (fun i => match ys[i]? with | some y => c y | none => false) (fun i => match ys[i]? with | some y => w y | none => .non) h hx (by rw [List.length_map]; exact hz) hw
    (fun i x H1 e hi => by
      rw [List.getElem?_map] at hi
      obtain ⟨y, hy, rfl⟩ := Option.map_eq_some_iff.mp hi
      rw [hy]
      exact ht y H1 e (List.mem_of_getElem? hy))
    (fun i x H1 e hi hf => by
      rw [List.getElem?_map] at hi
      obtain ⟨y, hy, rfl⟩ := Option.map_eq_some_iff.mp hi
      rw [hy] at hf ⊢
      exact he y H1 e (List.mem_of_getElem? hy) hf)
  rw [given_map c w _ _ (fun i y hy => by rw [hy]; exact ⟨rfl, rfl⟩) _ (by rw [List.length_map]; exact Nat.le_refl _), List.length_map, List.take_length] at key
  exact key
theorem el_lcM {α : Type} {ys : List α} {g : α → V} {a : Addr} {tl : TE} {j : Nat} {vs : List Nat} (w : α → V) (h : Ev tl σ H (.ref a)) (hx : SqL K H a (ys.map g)) (hz : ys.length ≤ 40000) (hw : ∀ x, wipe ((wipe σ vs).set j (some x)) vs = wipe σ vs)
    (he : ∀ (y : α) (H1 : Hp), Ex H H1 → y ∈ ys → Ev te ((wipe σ vs).set j (some (g y))) H1 (w y)) :
    EvL (tLc (iList K tl) (gName j) tYes te vs) σ H (ys.map w) := by
  have := el_lcA (K := K) (tt := tYes) (te := te) (fun _ => true) w h hx hz hw (fun y H1 _ _ => et_yes) (fun y H1 e hy _ => he y H1 e hy)
  rw [List.filter_eq_self.mpr (fun _ _ => rfl)] at this
  exact this
theorem s_forNUn {D : Ends} {tu : TS} {xs : List V} {tl : TE} {j : Nat} (h : EvU tl σ H xs) (Pv : Addr → Nat → L2.St → Hp → Prop) (h0 : ∀ p H1, H p = none → Ex H H1 → H1 p = some (.tup xs) → Pv p 0 σ H1) (hl : ∀ p i σ' H', i ≤ xs.length → Pv p i σ' H' → SqT K H' p xs)
    (hs : ∀ p i x σ' H', xs[i]? = some x → Pv p i σ' H' → tu { D with nx := Pv p (i + 1), ct := Pv p (i + 1), bk := D.nx } (σ'.set j (some x)) H') (hd : ∀ p σ' H', Pv p xs.length σ' H' → D.nx σ' H') : tFor (iTup K tl) (gName j) tu D σ H :=
  h H (Ex.refl H) _ fun p H1 hp e h1 => ⟨p, rfl, ⟨xs, .inl (.inl h1)⟩, for_tup (Pv p) (h0 p H1 hp e h1) (hl p) (hs p) (hd p)⟩
theorem et_notin {ty td : TE} {d : Addr} {y : V} {o : Option V} (h1 : Ev ty σ H y) (h2 : Ev td σ H (.ref d)) (hg : DGet H d y o) : EvT (tB (tDNotIn ty td)) σ H (!o.isSome) := fun H1 e Q q =>
  h1 H1 e _ fun H2 e2 => h2 H2 (e.trans e2) _ fun H3 e3 => ⟨d, o, rfl, dget_ex ((e.trans e2).trans e3) hg, _, rfl, q H3 (e2.trans e3)⟩
theorem et_in {ty td : TE} {d : Addr} {y : V} {o : Option V} (h1 : Ev ty σ H y) (h2 : Ev td σ H (.ref d)) (hg : DGet H d y o) : EvT (tB (tDIn ty td)) σ H o.isSome := fun H1 e Q q =>
  h1 H1 e _ fun H2 e2 => h2 H2 (e.trans e2) _ fun H3 e3 => ⟨d, o, rfl, dget_ex ((e.trans e2).trans e3) hg, _, rfl, q H3 (e2.trans e3)⟩
theorem et_truL {p : Addr} {xs : List V} (h : Ev te σ H (.ref p)) (hx : SqL K H p xs) : EvT (fun σ H Q => te σ H fun x H' => ∃ k, TruV K x H' k ∧ Q k H') σ H (!xs.isEmpty) := fun H1 e Q q =>
  h H1 e _ fun H2 e2 => ⟨_, .inl ⟨xs, ex_l (e.trans e2) hx, rfl⟩, q H2 e2⟩
theorem q_forNUn {D : Ends} {tu tz : TS} {xs : List V} {tl : TE} {j : Nat} (h : EvU tl σ H xs) (Pv : Addr → Nat → L2.St → Hp → Prop) (h0 : ∀ p H1, H p = none → Ex H H1 → H1 p = some (.tup xs) → Pv p 0 σ H1) (hl : ∀ p i σ' H', i ≤ xs.length → Pv p i σ' H' → SqT K H' p xs)
    (hs : ∀ p i x σ' H', xs[i]? = some x → Pv p i σ' H' → tu { D with nx := Pv p (i + 1), ct := Pv p (i + 1), bk := tz D } (σ'.set j (some x)) H') (hd : ∀ p σ' H', Pv p xs.length σ' H' → tz D σ' H') : tSeq (tFor (iTup K tl) (gName j) tu) tz D σ H :=
  h H (Ex.refl H) _ fun p H1 hp e h1 => ⟨p, rfl, ⟨xs, .inl (.inl h1)⟩, for_tup (Pv p) (h0 p H1 hp e h1) (hl p) (hs p) (hd p)⟩
end
end Ve

set_option Elab.async false
set_option linter.all false
set_option maxRecDepth 100000
set_option maxHeartbeats 2000000
/-! enumerate(x), for .. in x: x a list or a tuple. -/
namespace PySem
open Sem (wp)
theorem vmeets_enumerate {v : Value} {o : Obj} {H : Heap → Prop} (B : Begins v o H) :
    Meets (Builtin.«enumerate.__new__» ⟨[.type "enumerate", v], []⟩) (fun _ R s => H s.heap ∧
      R (.ok (.ret (.ref (s.heap.push o).objs.size))) { s with heap := (s.heap.push o).push { cls := .type "enumerate", data := .fields #[.none, .bool false, .ref s.heap.objs.size, rawInt 0, .none, .none] } }) :=
  .of_wp fun prog w A R s h => by
    obtain ⟨hp, g, d, tk, os⟩ := s; obtain ⟨h1, h⟩ := h
    have hsub := sub_enumerate
    have q1 : ∀ {A' : Around} {E : Value → Shared → Prop} {Q : Value → Shared → Prop}, Q (.ref hp.objs.size) ⟨hp.push o, g, d, tk, os⟩ → wpAny (model prog w) A' (pyIter v) Q E ⟨hp, g, d, tk, os⟩ :=
      fun q => B.iter prog w _ _ ⟨hp, g, d, tk, os⟩ _ h1 q
    wp_walk using q1
    refine wpAny_stack_any fun st => wpAny_pure ?_
    split
    · rename_i c _ _ _ _ _
      cases (c == Value.type "enumerate")
      · wp_walk using q1
        exact ⟨_, rfl, h⟩
      · wp_walk using q1
        exact ⟨_, rfl, h⟩
    · wp_walk using q1
      exact ⟨_, rfl, h⟩
section
variable {prog : Program} {w : World} {A : Around} {E : Value → Shared → Prop} {s : Shared}
theorem vcall_enumerate {v : Value} {o : Obj} {H : Heap → Prop} {Q : Value → Shared → Prop} (B : Begins v o H) (h1 : H s.heap)
    (h : ∀ h', IsEnum h' (s.heap.objs.size + 1) s.heap.objs.size 0 .none → h'.get? s.heap.objs.size = some o → h'.objs.size = s.heap.objs.size + 2 →
      (∀ b o, s.heap.get? b = some o → h'.get? b = some o) → Q (.ref (s.heap.objs.size + 1)) { s with heap := h' }) :
    wpAny (model prog w) A (call (.type "enumerate") [v]) Q E s := by
  refine callType_new F.called_enumerate (by decide) (F.typeCall_enumerate_1 _) (F.newCall_enumerate_1 _) (fun obj => F.args_object_init_2 obj _) F.entry_enumerate_new
    (vmeets_enumerate B) ⟨h1, ?_⟩
  have hz : (s.heap.push o).objs.size = s.heap.objs.size + 1 := Heap.size_push ..
  show _ ∧ _
  rw [hz]
  have he : IsEnum ((s.heap.push o).push { cls := .type "enumerate", data := .fields #[.none, .bool false, .ref s.heap.objs.size, rawInt 0, .none, .none] }) (s.heap.objs.size + 1) s.heap.objs.size 0 .none := by
    have := Heap.get?_push_size (s.heap.push o) (o := { cls := .type "enumerate", data := .fields #[.none, .bool false, .ref s.heap.objs.size, rawInt 0, .none, .none] }) rfl
    rw [hz] at this; exact this
  refine ⟨⟨_, he, rfl⟩, h _ he (Heap.get?_push_of_some _ (Heap.get?_push_size _ B.free)) (by rw [Heap.size_push, hz]) fun b o x => Heap.get?_push_of_some _ (Heap.get?_push_of_some _ x)⟩
end
end PySem
namespace Ven
open PySem PySem.Spec PyProof.Rows L2 Evl Ve
/-- the tuple at a, each item in a new pair -/
def IteT (K : PySem.W.Frag) (a : Addr) : It :=
  ⟨fun i H => ∃ (xs : List V) (x : V), SqT K H a xs ∧ xs[i]? = some x, fun i H v H' => ∃ T x, v = .ref T ∧ H T = none ∧ H' = upd H T (.tup [.int (i : Nat), x]) ∧ ∀ xs, SqT K H a xs → xs[i]? = some x, fun i H => ∃ xs : List V, SqT K H a xs ∧ xs.length ≤ i⟩
theorem turn_enumT {P : Program} {w : World} {K : PySem.W.Frag} {elts : List Expr} {kk : Nat} {tpos : Pos} (a e it : Addr) :
    Turn P w K (.Tuple elts kk tpos) (IteT K a) [e, it] e (fun i h => (∃ old, IsEnum h e it ((i : Nat) : Int) old) ∧ h.IsTupleIter it a i ∧ e ≠ it) where
  mem := by simp
  obj := fun i h st b hb => by
    obtain ⟨⟨old, he⟩, ⟨o, ho, hc, hd⟩, _⟩ := st
    have e' : b = e ∨ b = it := by simpa using hb
    rcases e' with z | z
    · rw [z]; exact ⟨_, he, fun v q => nomatch q⟩
    · rw [z]; exact ⟨o, ho, fun v q => by rw [hd] at q; cases q⟩
  keep := fun i h h' st k => let ⟨⟨old, he⟩, hi, hne⟩ := st; ⟨⟨old, k e (by simp) _ he⟩, hi.at fun o q => k it (by simp) o q, hne⟩
  item := by
    intro X hP hw hK hc i pins s σ H E I hf st hg
    subst hP hw hK
    obtain ⟨⟨old, he⟩, hit, hne⟩ := st
    obtain ⟨xs, x, hq, hx⟩ := hg
    obtain ⟨its, rv, p, hz⟩ := I.tuple hq
    obtain ⟨u, hu, ru⟩ := rv.get hx
    have hel : e < s.heap.objs.size := Heap.lt_size he
    have hil : it < s.heap.objs.size := by obtain ⟨_, q, _⟩ := hit; exact Heap.lt_size q
    have pt : s.heap.IsTuple a its.toArray := p
    have hta : a ≠ it := fun z => by
      obtain ⟨o1, h1, c1, d1⟩ := hit
      obtain ⟨o2, h2, c2, _⟩ := pt
      rw [z, h1] at h2
      cases h2
      rw [c1] at c2
      exact absurd c2 (by decide)
    have hea : e ≠ a := fun z => by
      obtain ⟨o2, h2, c2, _⟩ := pt
      rw [← z] at h2
      have h3 := he
      unfold IsEnum at h3
      rw [h3] at h2
      cases h2
      have c3 : Value.type "enumerate" = Value.type "tuple" := c2
      injection c3 with c4
      exact absurd c4 (by decide)
    have hh1 : X.A.in1.handled = none := I.ok.hd hc
    refine wpAny_pyNext_enum_itemD (i := i) (Draws.tuple hh1 it a hta its.toArray) he ⟨hit, pt⟩ (by
      have := (List.getElem?_eq_some_iff.mp hu).1
      simpa using this) hne (by simp [hne, hea]) fun y h' tk hy ho hs' hT hsz hk => ?_
    have hyu : y = u := by
      have : its.toArray[i]? = some u := by simpa using hu
      rw [this] at hy
      exact (Option.some.inj hy).symm
    subst hyu
    obtain ⟨hit', _⟩ := hs'
    refine ⟨_, rfl, wpAny_letOwnedTupleGo_enum (s := { s with heap := h', toks := tk + 1 }) ho fun h'' he' sb => ?_⟩
    have hT2 : h''.get? s.heap.objs.size = some { cls := .type "tuple", data := .seq #[.int i tk, y] } := (sb.2 _ (Nat.ne_of_gt hel)).trans hT
    have new : ObjOk X.prog X.w (upd H s.heap.objs.size (.tup [.int (i : Nat), x])) h'' s.heap.objs.size (.tup [.int (i : Nat), x]) :=
      ⟨by show 2 ≤ sizeLine; decide, [.int i tk, y], .cons ⟨_, rfl⟩ (.cons ru .nil), ⟨_, hT2, rfl, _, rfl⟩⟩
    have I1 : Inv X pins σ (upd H s.heap.objs.size (.tup [.int (i : Nat), x])) { s with heap := h'', toks := tk + 1 } :=
      I.turnedNew (ch := [e, it]) (fun b ob hb q => (sb.2 b (fun z => hb (by simp [z]))).trans (hk b ob (fun z => hb (by simp [z])) (fun z => hb (by simp [z])) q)) hf (Nat.le_refl _) new
    refine ⟨.ref s.heap.objs.size, _, I1, rfl, ⟨_, x, rfl, I.hok.fresh (Nat.le_refl _), rfl, fun ys hy => by rw [I.tuple_inj hy hq]; exact hx⟩, ⟨⟨y, ?_⟩, hit'.at fun o q => (sb.2 it (Ne.symm hne)).trans q, hne⟩, fun b hb => ?_⟩
    · have e1 : ((i + 1 : Nat) : Int) = (i : Int) + 1 := by omega
      rw [e1]; exact he'
    · have hb' : b < s.heap.objs.size := by
        have e' : b = e ∨ b = it := by simpa using hb
        rcases e' with z | z
        · rw [z]; exact hel
        · rw [z]; exact hil
      rw [upd_ne (Nat.ne_of_lt hb')]
      exact (hf b hb).1
  done := by
    intro X hP hw hK hc i pins s σ H E I hf st hg
    subst hP hw hK
    obtain ⟨⟨old, he⟩, hit, hne⟩ := st
    obtain ⟨xs, hq, hx⟩ := hg
    obtain ⟨its, rv, p, hz⟩ := I.tuple hq
    obtain ⟨f0, f1, f2, f3, f4, f5⟩ := hf it (by simp)
    have hl := rv.length
    have pt : s.heap.IsTuple a its.toArray := p
    have hh1 : X.A.in1.handled = none := I.ok.hd hc
    have hT : s.TypeIs (.ref e) "enumerate" := ⟨_, he, rfl⟩
    unfold pyNext
    refine wpAny_bind (wpAny_attempt (wpAny_callSpecial?_slot (name := Str.ofString "__next__") hT F.slot_enumerate_next
      (wpAny_call_entry F.slot_enumerate_next hT F.entry_enumerate_next ?_ (F.args_enumerate_next_1 _))))
    show wpAny _ _ (field (.ref e) 2 >>= _) _ _ _
    refine wpAny_bind (wpAny_field he rfl (x := .ref it) rfl ?_)
    refine wpAny_bind (wpAny_nextOf_tuple_end hh1 hit pt (by simp; omega) fun h' x he' hx' => ?_)
    obtain ⟨o, ho, hc⟩ := hx'
    refine wpAny_bind (wpAny_isInstance (T := "StopIteration") (b := true) ⟨o, ho, hc⟩ isSubtype_stop ?_)
    exact wpAny_pure ⟨rfl, I.turned (t' := s.toks) (fun b o hb q => he' b o hb q) f0 f1 f3 f4 f5⟩
  self := fun A i s Q E st h => let ⟨⟨_, he⟩, _⟩ := st; wpAny_pyIter_enum he h
/-- a list or a tuple -/
def SqA (K : PySem.W.Frag) (H : Hp) (a : Addr) (xs : List V) : Prop := SqL K H a xs ∨ SqT K H a xs
theorem ex_a {K : PySem.W.Frag} {H H' : Hp} {a : Addr} {xs : List V} (e : Ex H H') (h : SqA K H a xs) : SqA K H' a xs := h.imp (ex_l e) (ex_t e)
def iEnumA (K : PySem.W.Frag) (ta : TA) : TI := fun σ H R => ta σ H fun vs H1 => ∃ a xs, vs = [.ref a] ∧ ((SqL K H1 a xs ∧ R (Ite K a) H1) ∨ (SqT K H1 a xs ∧ R (IteT K a) H1))
theorem pi_enumA {X : Cx} {e : Expr} {ta : TA} {p pos tpos : Pos} {elts : List Expr} {kk : Nat} (hg : Gl X "enumerate") (hm : X.mg "enumerate" = none) (ha : PA X [e] ta) (hs : starEach [e] X.env = [(false, eval e X.env)] := by rfl) :
    PI X (.Tuple elts kk tpos) (.Call (.Name "enumerate" p) [e] [] pos) (iEnumA X.K ta) := by
  refine ⟨fun pins s σ H R I h => ?_⟩
  refine Call_ (ld_blt I hg hm boot_enumerate (PyProof.Rows.callWith_type1 (thn (ha.run pos pins s σ H _ I h) fun us s1 ⟨vs, H1, I1, r1, q1⟩ => ?_) hs rfl))
  obtain ⟨a, xs, ex, q⟩ := q1
  subst ex
  cases r1 with
  | cons r rr =>
    cases rr
    cases r
    have fin : ∀ {o : Obj} {Hh : Heap → Prop} {J : It} {St : Nat → Heap → Prop}, Begins (.ref a) o Hh → Hh s1.heap → Turn X.prog X.w X.K (.Tuple elts kk tpos) J [s1.heap.objs.size + 1, s1.heap.objs.size] (s1.heap.objs.size + 1) St →
        (∀ h', IsEnum h' (s1.heap.objs.size + 1) s1.heap.objs.size 0 .none → h'.get? s1.heap.objs.size = some o → St 0 h') → R J H1 →
        wpAny (model X.prog X.w) X.A (call (.type "enumerate") [.ref a]) (fun v => wpAny (model X.prog X.w) X.A (pyIter v) (PIE X pins σ (.Tuple elts kk tpos) R) X.xe) X.xe s1 := fun B hB T hst q => by
      refine vcall_enumerate B hB fun h' he hit hsz hk => wpAny_pyIter_enum he ?_
      have I2 : Inv X pins σ H1 { s1 with heap := h' } := I1.kept (t' := s1.toks) hk
      refine ⟨s1.heap.objs.size + 1, [s1.heap.objs.size + 1, s1.heap.objs.size], _, _, H1, rfl, I2, T, hst h' he hit, fun b hb => ?_, q⟩
      have e' : b = s1.heap.objs.size + 1 ∨ b = s1.heap.objs.size := by simpa using hb
      have hle : s1.heap.objs.size ≤ b := by
        rcases e' with z | z
        · rw [z]; exact Nat.le_add_right _ _
        · rw [z]; exact Nat.le_refl _
      exact I1.fpOk hle (I1.hok.fresh hle)
    rcases q with ⟨hq, q⟩ | ⟨hq, q⟩
    · obtain ⟨its, rv, p', hz⟩ := I1.list hq
      exact fin (begins_list a its.toArray) p'.isList (turn_enum a _ _) (fun h' he hit => ⟨⟨.none, he⟩, ⟨_, hit, rfl, rfl⟩, Nat.succ_ne_self _⟩) q
    · obtain ⟨its, rv, p', hz⟩ := I1.tuple hq
      exact fin (begins_tuple a its.toArray) (show s1.heap.IsTuple a its.toArray from p') (turn_enumT a _ _) (fun h' he hit => ⟨⟨.none, he⟩, ⟨_, hit, rfl, rfl⟩, Nat.succ_ne_self _⟩) q
def iSeqA (K : PySem.W.Frag) (tl : TE) : TI := fun σ H R => tl σ H fun x H1 => ∃ a, x = .ref a ∧ (((∃ xs, SqL K H1 a xs) ∧ R (Itl K a) H1) ∨ ((∃ xs, SqT K H1 a xs) ∧ R (Itt K a) H1))
theorem pi_seqA {X : Cx} {tg l : Expr} {tl : TE} (hl : PE X l tl) : PI X tg l (iSeqA X.K tl) := by
  refine ⟨fun pins s σ H R I h => ?_⟩
  refine thn (hl.run pins s σ H _ I h) fun v s1 ⟨x, H1, I1, r1, q1⟩ => ?_
  obtain ⟨a, e, ⟨⟨xs, hq⟩, q⟩ | ⟨⟨xs, hq⟩, q⟩⟩ := q1
  · subst e
    cases r1
    obtain ⟨its, rv, p, hz⟩ := I1.list hq
    refine wpAny_pyIter_list p.isList ?_
    refine ⟨s1.heap.objs.size, [s1.heap.objs.size], _, _, H1, rfl, I1.kept (t' := s1.toks) fun b o e => Heap.get?_push_of_some _ e, turn_list a _, ⟨_, Heap.get?_push_size _ rfl, rfl, rfl⟩, fun b hb => ?_, q⟩
    have e : b = s1.heap.objs.size := by simpa using hb
    subst e
    exact I1.fpOk (Nat.le_refl _) (I1.hok.fresh (Nat.le_refl _))
  · subst e
    cases r1
    obtain ⟨its, rv, p, hz⟩ := I1.tuple hq
    refine wpAny_pyIter_tuple (show s1.heap.IsTuple a its.toArray from p) ?_
    refine ⟨s1.heap.objs.size, [s1.heap.objs.size], _, _, H1, rfl, I1.kept (t' := s1.toks) fun b o e => Heap.get?_push_of_some _ e, turn_tuple a _, ⟨_, Heap.get?_push_size _ rfl, rfl, rfl⟩, fun b hb => ?_, q⟩
    have e : b = s1.heap.objs.size := by simpa using hb
    subst e
    exact I1.fpOk (Nat.le_refl _) (I1.hok.fresh (Nat.le_refl _))
/-! their readings -/
section
variable {K : PySem.W.Frag} {σ : L2.St} {H : Hp} {D : Ends} {tu : TS} {g : TG} {a : Addr} {xs : List V}
def YEn (xs : List V) : Nat → Hp → V → Hp → Prop := fun i H v H' => ∃ T x, v = .ref T ∧ H T = none ∧ H' = upd H T (.tup [.int (i : Nat), x]) ∧ xs[i]? = some x
theorem walk_en : Walk (Ite K a) xs.length (fun H => SqL K H a xs) (YEn xs) :=
  ⟨fun i _ hi q => ⟨xs, xs[i], q, by simp [hi]⟩, fun _ q => ⟨xs, q, Nat.le_refl _⟩, fun _ _ _ _ _ q y => let ⟨T, x, h1, h2, h3, h4⟩ := y; ⟨T, x, h1, h2, h3, h4 xs q⟩⟩
theorem walk_enT : Walk (IteT K a) xs.length (fun H => SqT K H a xs) (YEn xs) :=
  ⟨fun i _ hi q => ⟨xs, xs[i], q, by simp [hi]⟩, fun _ q => ⟨xs, q, Nat.le_refl _⟩, fun _ _ _ _ _ q y => let ⟨T, x, h1, h2, h3, h4⟩ := y; ⟨T, x, h1, h2, h3, h4 xs q⟩⟩
theorem s_forEn {ta : TA} (h : EvA ta σ H [.ref a]) (hx : SqA K H a xs) (Pv : Nat → L2.St → Hp → Prop) (h0 : ∀ H1, Ex H H1 → Pv 0 σ H1) (hl : ∀ i σ' H', Pv i σ' H' → Ex H H')
    (hs : ∀ i x T σ' H', xs[i]? = some x → Pv i σ' H' → H' T = none → g (.ref T) σ' (upd H' T (.tup [.int (i : Nat), x])) fun σ2 H2 => tu { D with nx := Pv (i + 1), ct := Pv (i + 1), bk := D.nx } σ2 H2) (hd : ∀ σ' H', Pv xs.length σ' H' → D.nx σ' H') : tFor (iEnumA K ta) g tu D σ H :=
  h H (Ex.refl H) _ fun H1 e => ⟨a, xs, rfl, by
    rcases hx with hx | hx
    · exact .inl ⟨ex_l e hx, for_it walk_en Pv (h0 H1 e) (fun i σ' H' _ p => ex_l (hl i σ' H' p) hx) (fun i v σ' H' H2 _ p ⟨T, x, e1, e2, e3, e4⟩ => by subst e1 e3; exact hs i x T σ' H' e4 p e2) hd⟩
    · exact .inr ⟨ex_t e hx, for_it walk_enT Pv (h0 H1 e) (fun i σ' H' _ p => ex_t (hl i σ' H' p) hx) (fun i v σ' H' H2 _ p ⟨T, x, e1, e2, e3, e4⟩ => by subst e1 e3; exact hs i x T σ' H' e4 p e2) hd⟩⟩
theorem s_forSq {tl : TE} (h : Ev tl σ H (.ref a)) (hx : SqA K H a xs) (Pv : Nat → L2.St → Hp → Prop) (h0 : ∀ H1, Ex H H1 → Pv 0 σ H1) (hl : ∀ i σ' H', Pv i σ' H' → Ex H H')
    (hs : ∀ i x σ' H', xs[i]? = some x → Pv i σ' H' → g x σ' H' fun σ2 H2 => tu { D with nx := Pv (i + 1), ct := Pv (i + 1), bk := D.nx } σ2 H2) (hd : ∀ σ' H', Pv xs.length σ' H' → D.nx σ' H') : tFor (iSeqA K tl) g tu D σ H :=
  h H (Ex.refl H) _ fun H1 e => ⟨a, rfl, by
    rcases hx with hx | hx
    · exact .inl ⟨⟨xs, ex_l e hx⟩, for_list Pv (h0 H1 e) (fun i σ' H' _ p => ex_l (hl i σ' H' p) hx) hs hd⟩
    · exact .inr ⟨⟨xs, ex_t e hx⟩, for_tup Pv (h0 H1 e) (fun i σ' H' _ p => ex_t (hl i σ' H' p) hx) hs hd⟩⟩
theorem ev_lenQ {te : TE} (h : Ev te σ H (.ref a)) (hx : SqA K H a xs) : Ev (tCB (fun vs H Q => ∃ x n, vs = [x] ∧ LenV K x H n ∧ Q (.int n) H) (tCons te tNil)) σ H (.int (xs.length : Nat)) := fun H1 e Q q =>
  h H1 e _ fun H2 e2 => ⟨.ref a, xs.length, rfl, (ex_a (e.trans e2) hx).imp (fun h => ⟨xs, h, rfl⟩) (fun h => ⟨xs, h, rfl⟩), q H2 e2⟩
end
end Ven

set_option Elab.async false
set_option linter.all false
set_option maxRecDepth 100000
set_option maxHeartbeats 4000000
namespace K58
open PySem PySem.Spec PyProof.Rows L2 Vl Evl Vp Vx2 Ven
abbrev sChkL : Stmt := top 23
/-- check_lanes(net, names) -/
def spChkL (K : PySem.W.Frag) (C NL : Addr) : Sp := fun vs H Q E => ∃ (o dx dp de t : Addr) (ps : List (List Nat)) (es : List Row) (ns : List (List Nat)), vs = [.ref o, .ref t] ∧ NetAt C H o dx dp de ps es ∧ SqA K H t (vtx ns) ∧
  (((∀ l ∈ ns, l ∈ laneNames es) ∧ ∀ H', Ex H H' → Q .non H') ∨ ∃ l, FirstOut ns (laneNames es) l ∧ RaisedF NL "name" H (.str (tx l)) E)
section
variable {P : Program} {w : World} {K : PySem.W.Frag} {mg : Str → Option Value} {base : Heap} {C NL fH : Addr}
theorem scCL : FnScope ["net", "names", "name"] ["net", "names"] (defScope sChkL) := ⟨rfl, rfl, rfl, by decide +kernel, rfl, by decide +kernel, by decide +kernel⟩
theorem ok_chkl {f : Addr} {fd fdH : FuncData} (F : FnP K "check_lanes" sChkL f fd) (c : Cls K C) (MH : Meth K C "__contains__" fH) (bH : Binds K fdH ["self", "x"] []) (GH : FnOk P w K mg base CX0 1 fH fdH ["self", "x"] (spHas K C)) (EP : Err1 P w K mg base "NoLane" "name" NL) :
    FnOk P w K mg base (L2.CX P w) 3 f fd ["net", "names"] (spChkL K C NL) := by
  obtain ⟨fE, fdE, iC, tI, bE, GE⟩ := EP.ini
  refine F.ok (CX := L2.CX P w) scCL (fun vs H Q E h => ?_) (fun cdv A outer s H vs Q E hr h => ?_)
  · obtain ⟨o, dx, dp, de, t, ps, es, ns, rfl, _⟩ := h
    rfl
  · have hr2 : Room 2 _ := hr
    have hr1 : Room 1 _ := hr.mono (by omega)
    refine ⟨_, (pss_one (ps_for (passes_of rfl) rfl (pi_seqA (pv 1)) (pg_name (i := 2) scCL.nd rfl (by first | exact Or.inl rfl | exact Or.inr rfl))
      (pss_one (ps_if (pt_cmpR (Vo.op_notInO (E1 := E0) MH GH hr1 bH pass0) (pv 2) (pv 0) rfl) (pss_one (ps_raise rfl (takes_of rfl rfl rfl rfl) (pmk_oex EP.T iC tI GE hr2 bE .nil pass0 (by rfl) EP.g (pa_cons (pv 2) pa_nil)))) pss_nil)))), ?_⟩
    obtain ⟨o, dx, dp, de, t, ps, es, ns, rfl, N, ht, h⟩ := h
    refine s_forSq (a := t) (ev_var rfl) ht (fun i st H' => ∃ t2, st = [some (.ref o), some (.ref t), t2] ∧ Ex H H' ∧ ∀ (j : Nat) (y : List Nat), j < i → ns[j]? = some y → y ∈ laneNames es)
      (fun H1 e => ⟨none, rfl, e, fun j y hj => absurd hj (Nat.not_lt_zero j)⟩) (fun i st H' ⟨_, _, e, _⟩ => e) ?_ ?_
    · rintro i x σ' H1 hx ⟨t2, rfl, e1, hall⟩
      unfold vtx at hx
      rw [List.getElem?_map] at hx
      obtain ⟨l, hl, rfl⟩ := Option.map_eq_some_iff.mp hx
      have N1 := N.mono e1
      refine ⟨_, rfl, _, rfl, o, dx, _, rfl, N1.at_, o, dx, dp, de, _, ps, es, rfl, N1, .inl ⟨l, rfl, _, rfl, _, rfl, ?_⟩⟩
      rw [if_pos rfl]
      by_cases hm : l ∈ laneNames es
      · refine if_f (by rw [decide_eq_true hm]; decide) ?_
        refine ⟨_, rfl, e1, fun j y hj hy => ?_⟩
        by_cases hji : j < i
        · exact hall j y hji hy
        · obtain rfl : j = i := by omega
          rw [hl] at hy
          obtain rfl := Option.some.inj hy
          exact hm
      · refine if_t (by rw [decide_eq_false hm]; rfl) ?_
        rcases h with ⟨ha, _⟩ | ⟨l2, ⟨i2, g1, g2, g3⟩, q⟩
        · exact absurd (ha l (List.mem_of_getElem? hl)) hm
        · have ei : i = i2 := by
            rcases Nat.lt_trichotomy i i2 with h1 | h1 | h1
            · exact absurd (g3 i l h1 hl) hm
            · exact h1
            · exact absurd (hall i2 l2 h1 g1) g2
          rw [ei] at hl
          rw [hl] at g1
          obtain rfl := Option.some.inj g1
          exact raised_f (W := fun cls d _ H' => E cls d H') 2 rfl rfl (RaisedF.grow q e1)
    · rintro st H1 ⟨t2, rfl, e1, hall⟩
      rcases h with ⟨ha, q⟩ | ⟨l2, ⟨i2, g1, g2, g3⟩, q⟩
      · exact q H1 e1
      · exact absurd (hall i2 l2 (by rw [vtx_len]; exact (List.getElem?_eq_some_iff.mp g1).1) g1) g2
end
end K58

set_option Elab.async false
set_option linter.all false
set_option maxRecDepth 100000
set_option maxHeartbeats 4000000
namespace K58
open PySem PySem.Spec PyProof.Rows L2 Vl Evl Vp Vx2
abbrev sLane : Stmt := mem 2
/-- net.lane(name, start, end) -/
def spLane (C BN NT NP : Addr) : Sp := fun vs H Q E => ∃ (o dx dp de : Addr) (ps : List (List Nat)) (es : List Row) (l a b : List Nat), vs = [.ref o, .str (tx l), .str (tx a), .str (tx b)] ∧ NetAt C H o dx dp de ps es ∧ es.length ≤ 1000 ∧
  ((nam l ∧ l ∉ laneNames es ∧ a ∈ ps ∧ b ∈ ps ∧ ∀ t H', Ex H H' → H t = none → H' t = some (.tup [.str (tx a), .str (tx b)]) → Q .non (upd H' de (.dK (dEnds (es ++ [(t, (l, a, b))]))))) ∨
   (l = [65] ∧ RaisedF BN "name" H (.str (tx l)) E) ∨ (nam l ∧ l ∈ laneNames es ∧ RaisedF NT "name" H (.str (tx l)) E) ∨
   (nam l ∧ l ∉ laneNames es ∧ ∃ x, FirstOut [a, b] ps x ∧ RaisedF NP "name" H (.str (tx x)) E))
section
variable {P : Program} {w : World} {K : PySem.W.Frag} {mg : Str → Option Value} {base : Heap} {C BN NT NP : Addr}
theorem scLa : FnScope ["self", "name", "start", "end"] ["self", "name", "start", "end"] (defScope sLane) := ⟨rfl, rfl, rfl, by decide +kernel, rfl, by decide +kernel, by decide +kernel⟩
theorem ok_lane {f fN fP : Addr} {fd fdN fdP : FuncData} (F : FnM K "lane" "Net.lane" sLane f fd) (c : Cls K C) (n1 : NoAttr K C "_ends") (FN : FnP K "check_name" sChkN fN fdN) (gN : mg "check_name" = some (.ref fN))
    (GN : FnOk P w K mg base (L2.CX P w) 3 fN fdN ["value"] (spChkN BN)) (ET : Err1 P w K mg base "NameTaken" "name" NT) (FP : FnP K "check_posts" sChkP fP fdP) (gP : mg "check_posts" = some (.ref fP)) (GP : FnOk P w K mg base (L2.CX P w) 3 fP fdP ["net", "names"] (spChkP K C NP)) :
    FnOk P w K mg base (L2.CX P w) 4 f fd ["self", "name", "start", "end"] (spLane C BN NT NP) := by
  have bN : Binds K fdN ["value"] [] := FN.bindsN fun _ _ _ _ _ _ us hl => match us, hl with | [_], _ => rfl
  have kN := FN.kp
  have bP : Binds K fdP ["net", "names"] [] := FP.bindsN fun _ _ _ _ _ _ us hl => match us, hl with | [_, _], _ => rfl
  have kP := FP.kp
  obtain ⟨fE, fdE, iC, tI, bE, GE⟩ := ET.ini
  refine F.ok (CX := L2.CX P w) scLa (fun vs H Q E h => ?_) (fun cdv A outer s H vs Q E hr h => ?_)
  · obtain ⟨o, dx, dp, de, ps, es, l, a, b, rfl, _⟩ := h
    rfl
  · have hr3 : Room 3 _ := hr
    have hr2 : Room 2 _ := hr.mono (by omega)
    refine ⟨_, (pss_cut (ps_expr (pe_callS (E := WE fun cls d _ H => E cls d H) GN hr3 (by rfl) gN kN bN (fun st => passAt (takes_of rfl rfl rfl rfl) st) (pa_cons (pv 1) pa_nil)))
      (pss_cons (ps_if (pt_cmp (pc_din (Nat.lt_of_le_of_lt (Nat.add_le_add_left (show 1 ≤ 64 by decide) _) hr.units) (pv 1) (pe_fld (pv 0) rfl))) (pss_one (ps_raise rfl (takes_of rfl rfl rfl rfl) (pmk_oex ET.T iC tI GE hr2 bE .nil pass0 (by rfl) ET.g (pa_cons (pv 1) pa_nil)))) pss_nil)
      (pss_cons (ps_expr (pe_callS (E := WE fun cls d _ H => E cls d H) GP hr3 (by rfl) gP kP bP (fun st => passAt (takes_of rfl rfl rfl rfl) st) (pa_cons (pv 0) (pa_cons (pe_tup (pa_cons (pv 2) (pa_cons (pv 3) pa_nil))) pa_nil))))
      (pss_one (ps_asg (pe_tup (pa_cons (pv 2) (pa_cons (pv 3) pa_nil))) (pg_sub (pe_fld (pv 0) rfl) (pv 1) (set_dict (Nat.lt_of_le_of_lt (Nat.add_le_add_left (show 1 ≤ 64 by decide) _) hr.units)))))))), ?_⟩
    obtain ⟨o, dx, dp, de, ps, es, l, a, b, rfl, N, h1, h⟩ := h
    refine ⟨fun st' H' => st' = [some (.ref o), some (.str (tx l)), some (.str (tx a)), some (.str (tx b))] ∧ Ex H H' ∧ nam l, ?_, ?_⟩
    · refine ⟨_, rfl, ?_⟩
      rcases h with ⟨hl, _⟩ | ⟨rfl, q⟩ | ⟨hl, _⟩ | ⟨hl, _⟩
      · exact ⟨l, rfl, .inl ⟨hl, fun H' e => ⟨rfl, e, hl⟩⟩⟩
      · exact ⟨[65], rfl, .inr ⟨rfl, q⟩⟩
      · exact ⟨l, rfl, .inl ⟨hl, fun H' e => ⟨rfl, e, hl⟩⟩⟩
      · exact ⟨l, rfl, .inl ⟨hl, fun H' e => ⟨rfl, e, hl⟩⟩⟩
    rintro _ H1 ⟨rfl, e1, hl⟩
    have n65 : ¬ nam [65] := fun ⟨c, r, e, hc, _⟩ => by
      obtain rfl := (List.cons.inj e).1
      exact absurd hc (by decide)
    have N1 := N.mono e1
    refine s_seq ?_
    refine ⟨_, rfl, _, rfl, o, C, dx, _, .ref de, rfl, N1.at_, c, n1, rfl, de, _, rfl, DGet.k (k := (Sum.inr (tx l) : Key)) N1.ends, _, rfl, ?_⟩
    rw [ends_val]
    by_cases hm : l ∈ laneNames es
    · refine if_t (by rw [decide_eq_true hm]) ?_
      rcases h with ⟨_, hn, _⟩ | ⟨rfl, _⟩ | ⟨_, _, q⟩ | ⟨_, hn, _⟩
      · exact absurd hm hn
      · exact absurd hl n65
      · exact raised_f (W := fun cls d _ H' => E cls d H') 1 rfl rfl (RaisedF.grow q e1)
      · exact absurd hm hn
    · refine if_f (by rw [decide_eq_false hm]; decide) ?_
      dsimp only
      refine s_seq ?_
      refine ⟨_, rfl, _, rfl, _, rfl, by show 2 ≤ sizeLine; decide, fun t0 nt0 => ?_⟩
      have e2 := e1.trans (Ex.new (o := .tup [.str (tx a), .str (tx b)]) nt0)
      refine ⟨o, dx, dp, de, t0, ps, es, [a, b], rfl, N.mono e2, .inl (.inl upd_same), ?_⟩
      rcases h with ⟨_, _, ha, hb, q⟩ | ⟨rfl, _⟩ | ⟨_, hn, _⟩ | ⟨_, _, x, fo, q⟩
      · refine .inl ⟨fun y hy => ?_, fun H3 e3 => ?_⟩
        · rcases List.mem_cons.mp hy with rfl | hy
          · exact ha
          · rw [List.mem_singleton.mp hy]
            exact hb
        · refine ⟨_, rfl, _, rfl, by show 2 ≤ sizeLine; decide, fun t nt => ?_⟩
          have e4 := (e2.trans e3).trans (Ex.new (o := .tup [.str (tx a), .str (tx b)]) nt)
          have N4 := N.mono e4
          refine ⟨_, rfl, o, C, dx, _, .ref de, rfl, N4.at_, c, n1, rfl, _, rfl, de, _, rfl, DPut.k (k := (Sum.inr (tx l) : Key)) N4.ends (sz_lt (by unfold dEnds; rw [List.length_map]; omega)), ?_⟩
          have hv : valV (dEnds es) (Sum.inr (tx l) : Key) = none := by
            have := ends_val es l
            rw [decide_eq_false hm] at this
            exact Option.not_isSome_iff_eq_none.mp (by rw [this]; decide)
          rw [putK_new _ hv]
          have := q t _ e4 (fresh_back (e2.trans e3) nt) upd_same
          unfold dEnds at *
          rw [List.map_append] at this
          exact this
      · exact absurd hl n65
      · exact absurd hn hm
      · exact .inr ⟨x, fo, RaisedF.grow q e2⟩
end
end K58

set_option Elab.async false
set_option linter.all false
set_option maxRecDepth 100000
set_option maxHeartbeats 4000000
namespace K58
open PySem PySem.Spec PyProof.Rows L2 Vl Evl Vp Vx2
abbrev sStart : Stmt := mem 6
abbrev sEnd : Stmt := mem 7
/-- the row of the lane l -/
def rowOf (es : List Row) (l : List Nat) : Option Row := es.find? fun e => decide (e.2.1 = l)
theorem ends_get (l : List Nat) : ∀ es : List Row, valV (dEnds es) (Sum.inr (tx l) : Key) = (rowOf es l).map fun e => V.ref e.1
  | [] => rfl
  | x :: r => by
    have ih := ends_get l r
    unfold dEnds rowOf at *
    rw [List.map_cons]
    by_cases h : x.2.1 = l
    · rw [valV_pos (by rw [h]), List.find?_cons, decide_eq_true h]
      rfl
    · have hn : ¬ (Sum.inr (tx x.2.1) : Key) = Sum.inr (tx l) := fun z => h (tx_inj (Sum.inr.inj z))
      rw [valV_neg hn, ih, List.find?_cons, decide_eq_false h]
theorem rowOf_mem {es : List Row} {l : List Nat} {r : Row} (h : rowOf es l = some r) : r ∈ es ∧ r.2.1 = l := ⟨List.mem_of_find?_eq_some h, of_decide_eq_true (List.find?_some (p := fun e : Row => decide (e.2.1 = l)) h)⟩
/-- net.start_of(l), net.end_of(l) -/
def spEndOf (C NL : Addr) (g : Row → List Nat) : Sp := fun vs H Q E => ∃ (o dx dp de : Addr) (ps : List (List Nat)) (es : List Row) (l : List Nat), vs = [.ref o, .str (tx l)] ∧ NetAt C H o dx dp de ps es ∧
  ((∃ r, rowOf es l = some r ∧ ∀ H', Ex H H' → Q (.str (tx (g r))) H') ∨ (l ∉ laneNames es ∧ RaisedF NL "name" H (.str (tx l)) E))
section
variable {P : Program} {w : World} {K : PySem.W.Frag} {mg : Str → Option Value} {base : Heap} {C NL : Addr}
theorem scSt : FnScope ["self", "lane"] ["self", "lane"] (defScope sStart) := ⟨rfl, rfl, rfl, by decide +kernel, rfl, by decide +kernel, by decide +kernel⟩
theorem scEd : FnScope ["self", "lane"] ["self", "lane"] (defScope sEnd) := ⟨rfl, rfl, rfl, by decide +kernel, rfl, by decide +kernel, by decide +kernel⟩
theorem ok_start {f fL : Addr} {fd fdL : FuncData} (F : FnM K "start_of" "Net.start_of" sStart f fd) (c : Cls K C) (n1 : NoAttr K C "_ends") (FL : FnP K "check_lanes" sChkL fL fdL) (gL : mg "check_lanes" = some (.ref fL)) (GL : FnOk P w K mg base (L2.CX P w) 3 fL fdL ["net", "names"] (spChkL K C NL)) :
    FnOk P w K mg base (L2.CX P w) 4 f fd ["self", "lane"] (spEndOf C NL fun r => r.2.2.1) := by
  have bL : Binds K fdL ["net", "names"] [] := FL.bindsN fun _ _ _ _ _ _ us hl => match us, hl with | [_, _], _ => rfl
  have kL := FL.kp
  refine F.ok (CX := L2.CX P w) scSt (fun vs H Q E h => ?_) (fun cdv A outer s H vs Q E hr h => ?_)
  · obtain ⟨o, dx, dp, de, ps, es, l, rfl, _⟩ := h
    rfl
  · have hr3 : Room 3 _ := hr
    refine ⟨_, (pss_cons (ps_expr (pe_callS (E := WE fun cls d _ H => E cls d H) GL hr3 (by rfl) gL kL bL (fun st => passAt (takes_of rfl rfl rfl rfl) st) (pa_cons (pv 0) (pa_cons (pe_tup (pa_cons (pv 1) pa_nil)) pa_nil))))
      (pss_one (ps_ret (pe_ix ix_tup (pe_dget (Nat.lt_of_le_of_lt (Nat.add_le_add_left (show 1 ≤ 64 by decide) _) hr.units) (pe_fld (pv 0) rfl) (pv 1) (fun _ _ => rfl)) pe_int fun _ _ => rfl)))), ?_⟩
    obtain ⟨o, dx, dp, de, ps, es, l, rfl, N, h⟩ := h
    refine s_seq ?_
    refine ⟨_, rfl, _, rfl, by show 1 ≤ sizeLine; decide, fun t0 nt0 => ?_⟩
    have e2 := Ex.new (H := H) (o := .tup [.str (tx l)]) nt0
    refine ⟨o, dx, dp, de, t0, ps, es, [l], rfl, N.mono e2, .inr (.inl (.inl upd_same)), ?_⟩
    rcases h with ⟨r, hr1, q⟩ | ⟨hn, q⟩
    · obtain ⟨hm, hname⟩ := rowOf_mem hr1
      refine .inl ⟨fun y hy => ?_, fun H3 e3 => ?_⟩
      · rw [List.mem_singleton.mp hy, ← hname]
        exact List.mem_map_of_mem hm
      · have e4 := e2.trans e3
        have N4 := N.mono e4
        have hv : valV (dEnds es) (Sum.inr (tx l) : Key) = some (V.ref r.1) := by rw [ends_get, hr1]; rfl
        refine ⟨_, rfl, o, C, dx, _, .ref de, rfl, N4.at_, c, n1, rfl, _, rfl, de, .ref r.1, rfl, hv ▸ DGet.k (k := (Sum.inr (tx l) : Key)) N4.ends, r.1, _, 0, _, rfl, rfl, .inl (.inl (N4.rows r hm)), at_of (j := 0) rfl rfl, q H3 e4⟩
    · exact .inr ⟨l, ⟨0, rfl, hn, fun j y hj => absurd hj (Nat.not_lt_zero j)⟩, RaisedF.grow q e2⟩
theorem ok_end {f fL : Addr} {fd fdL : FuncData} (F : FnM K "end_of" "Net.end_of" sEnd f fd) (c : Cls K C) (n1 : NoAttr K C "_ends") (FL : FnP K "check_lanes" sChkL fL fdL) (gL : mg "check_lanes" = some (.ref fL)) (GL : FnOk P w K mg base (L2.CX P w) 3 fL fdL ["net", "names"] (spChkL K C NL)) :
    FnOk P w K mg base (L2.CX P w) 4 f fd ["self", "lane"] (spEndOf C NL fun r => r.2.2.2) := by
  have bL : Binds K fdL ["net", "names"] [] := FL.bindsN fun _ _ _ _ _ _ us hl => match us, hl with | [_, _], _ => rfl
  have kL := FL.kp
  refine F.ok (CX := L2.CX P w) scEd (fun vs H Q E h => ?_) (fun cdv A outer s H vs Q E hr h => ?_)
  · obtain ⟨o, dx, dp, de, ps, es, l, rfl, _⟩ := h
    rfl
  · have hr3 : Room 3 _ := hr
    refine ⟨_, (pss_cons (ps_expr (pe_callS (E := WE fun cls d _ H => E cls d H) GL hr3 (by rfl) gL kL bL (fun st => passAt (takes_of rfl rfl rfl rfl) st) (pa_cons (pv 0) (pa_cons (pe_tup (pa_cons (pv 1) pa_nil)) pa_nil))))
      (pss_one (ps_ret (pe_ix ix_tup (pe_dget (Nat.lt_of_le_of_lt (Nat.add_le_add_left (show 1 ≤ 64 by decide) _) hr.units) (pe_fld (pv 0) rfl) (pv 1) (fun _ _ => rfl)) pe_int fun _ _ => rfl)))), ?_⟩
    obtain ⟨o, dx, dp, de, ps, es, l, rfl, N, h⟩ := h
    refine s_seq ?_
    refine ⟨_, rfl, _, rfl, by show 1 ≤ sizeLine; decide, fun t0 nt0 => ?_⟩
    have e2 := Ex.new (H := H) (o := .tup [.str (tx l)]) nt0
    refine ⟨o, dx, dp, de, t0, ps, es, [l], rfl, N.mono e2, .inr (.inl (.inl upd_same)), ?_⟩
    rcases h with ⟨r, hr1, q⟩ | ⟨hn, q⟩
    · obtain ⟨hm, hname⟩ := rowOf_mem hr1
      refine .inl ⟨fun y hy => ?_, fun H3 e3 => ?_⟩
      · rw [List.mem_singleton.mp hy, ← hname]
        exact List.mem_map_of_mem hm
      · have e4 := e2.trans e3
        have N4 := N.mono e4
        have hv : valV (dEnds es) (Sum.inr (tx l) : Key) = some (V.ref r.1) := by rw [ends_get, hr1]; rfl
        refine ⟨_, rfl, o, C, dx, _, .ref de, rfl, N4.at_, c, n1, rfl, _, rfl, de, .ref r.1, rfl, hv ▸ DGet.k (k := (Sum.inr (tx l) : Key)) N4.ends, r.1, _, 1, _, rfl, rfl, .inl (.inl (N4.rows r hm)), at_of (j := 1) rfl rfl, q H3 e4⟩
    · exact .inr ⟨l, ⟨0, rfl, hn, fun j y hj => absurd hj (Nat.not_lt_zero j)⟩, RaisedF.grow q e2⟩
end
end K58

set_option Elab.async false
set_option linter.all false
set_option maxRecDepth 100000
set_option maxHeartbeats 4000000
namespace K58
open PySem PySem.Spec PyProof.Rows L2 Vl Evl Vp Vx2
abbrev sNIni : Stmt := mem 0
/-- Net() -/
def spNIni (C : Addr) : Sp := fun vs H Q _ => ∃ (x dx : Addr) (H0 : Hp), vs = [.ref x] ∧ H = upd (upd H0 dx (.own x)) x (.ins C dx []) ∧ H0 x = none ∧ H0 dx = none ∧ dx ≠ x ∧
  ∀ dp de H', Ex H0 H' → H0 dp = none → H0 de = none → dp ≠ de → NetAt C H' x dx dp de [] [] → Q .non H'
section
variable {P : Program} {w : World} {K : PySem.W.Frag} {mg : Str → Option Value} {base : Heap} {C NL : Addr}
theorem scNi : FnScope ["self"] ["self"] (defScope sNIni) := ⟨rfl, rfl, rfl, by decide +kernel, rfl, by decide +kernel, by decide +kernel⟩
theorem ok_nini {f : Addr} {fd : FuncData} (F : FnM K "__init__" "Net.__init__" sNIni f fd) (c : Cls K C) (n1 : NoAttr K C "_posts") (n2 : NoAttr K C "_ends") : FnOk P w K mg base CX0 1 f fd ["self"] (spNIni C) := by
  refine F.ok (CX := CX0) scNi (fun vs H Q E h => ?_) (fun cdv A outer s H vs Q E hr h => ?_)
  · obtain ⟨x, dx, H0, rfl, _⟩ := h
    rfl
  · refine ⟨_, (pss_cons (ps_fld (pv 0) pe_dnewK (by rfl)) (pss_one (ps_fld (pv 0) pe_dnewK (by rfl)))), ?_⟩
    obtain ⟨x, dx, H0, rfl, rfl, hx, hdx, hne, q⟩ := h
    refine s_seq ?_
    refine fun dp ndp => ⟨_, rfl, x, C, dx, [], rfl, ?_, c, n1, by show 0 < 1000; omega, ?_⟩
    · have hx1 := upd_same (H := upd H0 dx (.own x)) (a := x) (o := HO.ins C dx [])
      exact (Ex.new ndp) _ _ hx1
    · have dpx : dp ≠ x := fun z => by rw [z, upd_same] at ndp; cases ndp
      have dpd : dp ≠ dx := fun z => by rw [z, upd_ne hne, upd_same] at ndp; cases ndp
      have h0p : H0 dp = none := by
        rw [upd_ne dpx, upd_ne dpd] at ndp
        exact ndp
      refine fun de nde => ⟨_, rfl, x, C, dx, [("_posts", .ref dp)], rfl, (upd_ne (fun z => by rw [← z, upd_same] at nde; cases nde)).trans upd_same, c, n2, by show 1 < 1000; omega, ?_⟩
      have dex : de ≠ x := fun z => by rw [z, upd_same] at nde; cases nde
      have dep : de ≠ dp := fun z => by rw [z, upd_ne dpx, upd_same] at nde; cases nde
      have ded : de ≠ dx := fun z => by rw [z, upd_ne hne, upd_ne dpd.symm, upd_ne hne, upd_same] at nde; cases nde
      have h0e : H0 de = none := by
        rw [upd_ne dex, upd_ne dep, upd_ne dex, upd_ne ded] at nde
        exact nde
      refine q dp de _ ?_ h0p h0e dep.symm ⟨upd_same, ?_, ?_, fun e he => nomatch he⟩
      · exact Ex.mut ((Ex.mut (((Ex.new hdx).trans (Ex.new (by rw [upd_ne hne.symm]; exact hx))).trans (Ex.new ndp)) hx).trans (Ex.new nde)) hx
      · exact (upd_ne dpx).trans ((upd_ne dep.symm).trans ((upd_ne dpx).trans upd_same))
      · exact (upd_ne dex).trans upd_same
end
end K58

set_option Elab.async false
set_option linter.all false
set_option maxRecDepth 100000
set_option maxHeartbeats 4000000
/-! The class Net in one word, and what its methods come to. -/
namespace K58
open PySem PySem.Spec PyProof.Rows L2 Vl Evl Vp Vx2 Vlk Vda Vc Ve
structure ND (P : Program) (w : World) (K : PySem.W.Frag) (mg : Str → Option Value) (base : Heap) (C BN NT NP NL : Addr) : Prop where
  cls : Cls K C
  post : Mo P w K mg base C (L2.CX P w) 4 "post" (spPost C BN NT)
  lane : Mo P w K mg base C (L2.CX P w) 4 "lane" (spLane C BN NT NP)
  posts : Pr P w K mg base C 1 "posts" (spPosts C)
  lanes : Pr P w K mg base C 1 "lanes" (spLanes C)
  len : Mo P w K mg base C L2.CX0 1 "__len__" (spNLen C)
  start : Mo P w K mg base C (L2.CX P w) 4 "start_of" (spEndOf C NL fun r => r.2.2.1)
  end_ : Mo P w K mg base C (L2.CX P w) 4 "end_of" (spEndOf C NL fun r => r.2.2.2)
  has : Mo P w K mg base C L2.CX0 1 "__contains__" (spHas K C)
  new : Nw P w K mg base C L2.CX0 1 "Net" (spNIni C)
section
variable {K : PySem.W.Frag} {C BN NT NP NL : Addr} {H : Hp} {o dx dp de : Addr} {ps : List (List Nat)} {es : List Row}
theorem sv_posts (N : NetAt C H o dx dp de ps es) : SpU (spPosts C) [.ref o] H (vtx ps) := fun H1 e Q q E => ⟨o, dx, dp, de, ps, es, rfl, N.mono e, fun t nt => q t _ nt (Ex.new nt) upd_same⟩
theorem sv_lanes (N : NetAt C H o dx dp de ps es) : SpU (spLanes C) [.ref o] H (vtx (laneNames es)) := fun H1 e Q q E => ⟨o, dx, dp, de, ps, es, rfl, N.mono e, fun t nt => q t _ nt (Ex.new nt) upd_same⟩
theorem sv_len (N : NetAt C H o dx dp de ps es) : SpV (spNLen C) [.ref o] H (.int (es.length : Nat)) := fun H1 e Q q E => ⟨o, dx, dp, de, ps, es, rfl, N.mono e, q H1 (Ex.refl _)⟩
theorem sv_end {g : Row → List Nat} {l : List Nat} {r : Row} (N : NetAt C H o dx dp de ps es) (h : rowOf es l = some r) : SpV (spEndOf C NL g) [.ref o, .str (tx l)] H (.str (tx (g r))) := fun H1 e Q q E => ⟨o, dx, dp, de, ps, es, l, rfl, N.mono e, .inl ⟨r, h, fun H2 e2 => q H2 e2⟩⟩
theorem sv_has {l : List Nat} (N : NetAt C H o dx dp de ps es) : SpV (spHas K C) [.ref o, .str (tx l)] H (.bl (decide (l ∈ laneNames es))) := fun H1 e Q q E => ⟨o, dx, dp, de, _, ps, es, rfl, N.mono e, .inl ⟨l, rfl, q H1 (Ex.refl _)⟩⟩
theorem sv_hasN (N : NetAt C H o dx dp de ps es) : SpV (spHas K C) [.ref o, .non] H (.bl false) := fun H1 e Q q E => ⟨o, dx, dp, de, _, ps, es, rfl, N.mono e, .inr ⟨"NoneType", .base .non, by decide +kernel, q H1 (Ex.refl _)⟩⟩
theorem sv_hasL {t : Addr} {xs : List V} (N : NetAt C H o dx dp de ps es) (h : H t = some (.lst xs)) : SpV (spHas K C) [.ref o, .ref t] H (.bl false) := fun H1 e Q q E => ⟨o, dx, dp, de, _, ps, es, rfl, N.mono e, .inr ⟨"list", .base (.lst (e _ _ h)), by decide +kernel, q H1 (Ex.refl _)⟩⟩
end
end K58

set_option Elab.async false
set_option linter.all false
set_option maxRecDepth 100000
set_option maxHeartbeats 2000000
/-! Tuples that come out, new or old. -/
namespace Vt
open PySem PySem.Spec PyProof.Rows L2 Vl Evl Vp Vr
section
variable {K : PySem.W.Frag} {te ta tb : TE} {tl th : TO} {σ : L2.St} {H : Hp} {xs ys : List V} {p : Addr} {lo hi : Option Int}
def EvT (K : PySem.W.Frag) (te : TE) (σ : L2.St) (H : Hp) (xs : List V) : Prop := ∀ H1, Ex H H1 → ∀ Q : VK, (∀ p H2, Ex H1 H2 → SqT K H2 p xs → Q (.ref p) H2) → te σ H1 Q
theorem sqt_new {q : Addr} : SqT K (upd H q (.tup xs)) q xs := .inl (.inl upd_same)
theorem et_ref (h : Ev te σ H (.ref p)) (hx : SqT K H p xs) : EvT K te σ H xs := fun H1 e Q q => h H1 e Q fun H2 e2 => q p H2 e2 (ex_t (e.trans e2) hx)
theorem et_cut (h : EvT K te σ H xs) (h1 : EvO tl σ H lo) (h2 : EvO th σ H hi) : EvT K (tSl (rSlA K) te tl th) σ H (cutV xs lo hi) := by
  intro H1 e Q q
  refine h H1 e _ fun p H2 e2 hp => h1 H2 (e.trans e2) _ fun H3 e3 => h2 H3 ((e.trans e2).trans e3) _ fun H4 e4 => ?_
  refine ⟨p, xs, rfl, ex_t (e3.trans e4) hp, fun hw => ?_, fun _ p2 n2 => q p2 _ (((e2.trans e3).trans e4).trans (Ex.new n2)) sqt_new⟩
  have ec : cutV xs lo hi = xs := by
    unfold cutV
    rw [hw.1, hw.2, List.drop_zero, Nat.sub_zero, List.take_length]
  refine q p H4 ((e2.trans e3).trans e4) ?_
  rw [ec]
  exact ex_t (e3.trans e4) hp
theorem et_cat (h : EvT K ta σ H xs) (h2 : EvT K tb σ H ys) (hl : xs.length + ys.length ≤ 100000) : EvT K (tOp (rCatA K) ta tb) σ H (xs ++ ys) := by
  intro H1 e Q q
  refine h H1 e _ fun p H2 e2 hp => h2 H2 (e.trans e2) _ fun p2 H3 e3 hp2 => ?_
  refine ⟨p, p2, xs, ys, rfl, rfl, ex_t e3 hp, hp2, sz_of hl, fun hx => ?_, fun _ hy => ?_, fun _ _ p4 n4 => q p4 _ ((e2.trans e3).trans (Ex.new n4)) sqt_new⟩
  · refine q p2 H3 (e2.trans e3) ?_
    rw [hx]
    exact hp2
  · refine q p H3 (e2.trans e3) ?_
    rw [hy, List.append_nil]
    exact ex_t e3 hp
/-- a[k:] + a[:k] -/
theorem et_rot {a : List (List Nat)} {k : Nat} {t1 t2 : TE} {u1 u2 : TE} (h1 : EvT K t1 σ H (vtx a)) (h2 : EvT K t2 σ H (vtx a)) (g1 : Ev u1 σ H (.int (k : Int))) (g2 : Ev u2 σ H (.int (k : Int))) (hl : a.length ≤ 1000) :
    EvT K (tOp (rCatA K) (tSl (rSlA K) t1 (tPart u1) tNoPart) (tSl (rSlA K) t2 tNoPart (tPart u2))) σ H (vtx (rot a k)) := by
  have := et_cat (et_cut h1 (eo_some g1) eo_none) (et_cut h2 eo_none (eo_some g2)) (by
    have h3 := cutV_length (vtx a) (some (k : Int)) none
    have h4 := cutV_length (vtx a) none (some (k : Int))
    rw [vtx_len] at h3 h4
    omega)
  rw [cutV1, cutV0, ← vtx_rot] at this
  exact this
end
end Vt

set_option Elab.async false
set_option linter.all false
set_option maxRecDepth 100000
set_option maxHeartbeats 2000000
/-! t[::-1] of a tuple. -/
namespace Vt
open PySem PySem.Spec PyProof.Rows L2 HT PySem.SeqAt PySem.MeetsSeq PySem.MeetsSeq2 PySem.MeetsSeq3
theorem rev_adjust (n : Nat) : Builtin.Slice.sliceAdjust none none (-1) (n : Int) = ((n : Int) - 1, -1) := rfl
theorem rev_places (n : Nat) : Builtin.Slice.slicePlaces ((n : Int) - 1) (-1) (-1) = n := by
  unfold Builtin.Slice.slicePlaces
  rw [if_neg (by omega)]
  by_cases h : (n : Int) - 1 > -1
  · rw [if_pos h, show -(-1 : Int) = 1 by omega, Int.ediv_one]
    omega
  · rw [if_neg h]
    omega
theorem fm_map {α β : Type} {f : α → Option β} {g : α → β} : ∀ l : List α, (∀ m ∈ l, f m = some (g m)) → l.filterMap f = l.map g
  | [], _ => rfl
  | x :: r, h => by
    rw [List.filterMap_cons_some (h x List.mem_cons_self), fm_map r fun m hm => h m (List.mem_cons_of_mem _ hm), List.map_cons]
theorem rev_pick (xs : Array Value) : ((List.range xs.size).filterMap fun (m : Nat) => xs[(((xs.size : Int) - 1) + (m : Int) * (-1)).toNat]?).toArray = xs.toList.reverse.toArray := by
  congr 1
  have e : ((List.range xs.size).filterMap fun (m : Nat) => xs[(((xs.size : Int) - 1) + (m : Int) * (-1)).toNat]?).map some = (xs.toList.reverse).map some := by
    refine List.ext_getElem? fun i => ?_
    have hf : ((List.range xs.size).filterMap fun (m : Nat) => xs[(((xs.size : Int) - 1) + (m : Int) * (-1)).toNat]?) = (List.range xs.size).map fun m => xs.toList.reverse.getD m .none := by
      refine fm_map _ fun m hm => ?_
      have hm := List.mem_range.mp hm
      rw [show (((xs.size : Int) - 1) + (m : Int) * (-1)).toNat = xs.size - 1 - m by omega, ← Array.getElem?_toList]
      rw [List.getD_eq_getElem?_getD, List.getElem?_reverse (by rw [Array.length_toList]; exact hm), Array.length_toList, List.getElem?_eq_getElem (by rw [Array.length_toList]; omega)]
      rfl
    rw [hf]
    by_cases hi : i < xs.size
    · rw [List.getElem?_map, List.getElem?_map, List.getElem?_map, List.getElem?_range hi]
      have hl : i < xs.toList.reverse.length := by rw [List.length_reverse, Array.length_toList]; exact hi
      rw [List.getElem?_eq_getElem hl]
      show some (some (xs.toList.reverse.getD i .none)) = some (some _)
      rw [List.getD_eq_getElem?_getD, List.getElem?_eq_getElem hl]
      rfl
    · rw [List.getElem?_eq_none (by rw [List.length_map, List.length_map, List.length_range]; omega), List.getElem?_eq_none (by rw [List.length_map, List.length_reverse, Array.length_toList]; omega)]
  exact (List.map_inj_right (fun _ _ h => Option.some.inj h)).mp e
section
variable {prog : Program} {w : World} {A : Around} {E : Value → Shared → Prop} {s : Shared}
theorem getItem_tuple_rev {t sl : Addr} {items : Array Value} {vs : Value} {Q : Value → Shared → Prop} (ht : IsTup s.heap t items) (hs : s.heap.IsSliceOf sl .none .none vs) (ps : IsPart vs (some (-1)))
    (h : Q (.ref s.heap.objs.size) { s with heap := s.heap.push { cls := .type "tuple", data := .seq items.toList.reverse.toArray } })
    (hsz : items.size ≤ sizeLine) : wpAny (model prog w) A (getItem (.ref t) (.ref sl)) Q E s := by
  have htake : sizeOk (.seq items.toList.reverse.toArray) := by
    show (items.toList.reverse.toArray).size ≤ sizeLine
    rw [List.size_toArray, List.length_reverse, Array.length_toList]
    exact hsz
  obtain ⟨os, hos, hcs, hds⟩ := id hs
  have hTs : s.TypeIs (.ref sl) "slice" := ⟨os, hos, hcs⟩
  unfold getItem
  try with_reducible refine wpAny_holding ?_
  first | refine wpAny_bind (wpAny_pure ?_) | skip
  refine wpAny_bind (wpAny_sequenceKey ht.typeIs (by decide) ?_)
  refine wpAny_bind (wpAny_callSpecial?_slot (name := Str.ofString "__getitem__") ht.typeIs PyProof.Rows.slot_tuple_getitem
    (wpAny_call_entry PyProof.Rows.slot_tuple_getitem ht.typeIs entry_tuple_getitem ?_ (args_tuple_getitem _ _)))
  show wpAny _ _ (Builtin.Tuple.tupleItemsOf (.ref t) >>= _) _ _ s
  refine wpAny_bind (tupleItemsOf_ ht ?_)
  refine wpAny_bind (wpAny_typeOf hTs ?_)
  rw [if_pos (by decide)]
  refine wpAny_bind ?_
  unfold Builtin.Slice.sliceApplied Builtin.Slice.sliceFields
  refine wpAny_bind (wpAny_bind (wpAny_field hos hds (x := .none) rfl (wpAny_bind (wpAny_field hos hds (x := .none) rfl (wpAny_bind (wpAny_field hos hds (x := vs) rfl (wpAny_pure ?_)))))))
  refine wpAny_bind (slicePart_ ps ?_)
  show wpAny _ _ (if ((-1 : Int) == 0) = true then _ else _) _ _ s
  rw [if_neg (by decide)]
  refine wpAny_bind (slicePart_ .none (wpAny_bind (slicePart_ .none (wpAny_bind (wpAny_pure ?_)))))
  show wpAny _ _ (pure (((items.size : Int) - 1), (-1 : Int), Builtin.Slice.slicePlaces ((items.size : Int) - 1) (-1) (-1))) _ _ s
  rw [rev_places]
  refine wpAny_pure ?_
  have hno : ¬ ((((items.size : Int) - 1) == 0 && (-1 : Int) == 1 && items.size == items.size) = true) := by
    intro q
    rw [Bool.and_eq_true, Bool.and_eq_true] at q
    exact absurd q.1.2 (by decide)
  show wpAny _ _ (if (((items.size : Int) - 1) == 0 && (-1 : Int) == 1 && items.size == items.size) = true then _ else _) _ _ s
  rw [if_neg hno, rev_pick]
  first
    | exact wpAny_bind (m := Builtin.Tuple.tupleExact _) (wpAny_newObj_type (wpAny_pure ⟨_, rfl, wpAny_pure h⟩) htake)
    | exact wpAny_bind (m := Builtin.Tuple.tupleExact _) (wpAny_newObj_type (wpAny_bind (wpAny_pure (wpAny_pure ⟨_, rfl, wpAny_pure h⟩))) htake)
end
/-- t[::-1] -/
def tRevT (K : PySem.W.Frag) (te : TE) : TE := fun σ H Q => te σ H fun x H1 => ∃ a xs, x = .ref a ∧ SqT K H1 a xs ∧ ∀ p, H1 p = none → Q (.ref p) (upd H1 p (.tup xs.reverse))
theorem pe_revT {X : Cx} {e : Expr} {te : TE} {k : Nat} {p1 p2 p3 pos : Pos} (he : PE X e te) : PE X (.Subscript e (.Slice none none (some (.UnaryOp .USub (.Constant (.int 1) k p1) p2)) p3) pos) (tRevT X.K te) := by
  refine ⟨fun pins s σ H Q I h => ?_⟩
  refine Subscript_ (thn (he.run pins s σ H _ I h) fun v s1 ⟨x, H1, I1, r1, q1⟩ => ?_)
  obtain ⟨a, xs, ex, hx, q⟩ := q1
  subst ex
  cases r1
  have hst : PO X (some (.UnaryOp .USub (.Constant (.int 1) k p1) p2)) (tPart (tUn (rU fun i => .int (-i)) (tC (.int 1)))) := po_some (pe_un un_neg pe_int)
  refine wpAny_Slice (thn (po_none.run pins s1 σ H1 (fun o H2 => o = none ∧ H2 = H1) I1 ⟨rfl, rfl⟩) fun vl s2 ⟨l, H2, I2, pl, el, e2⟩ => ?_)
  subst el e2
  refine thn (po_none.run pins s2 σ H2 (fun o H3 => o = none ∧ H3 = H2) I2 ⟨rfl, rfl⟩) fun vu s3 ⟨u, H3, I3, pu, eu, e3⟩ => ?_
  subst eu e3
  refine thn (hst.run pins s3 σ H3 (fun o H4 => o = some (-1) ∧ H4 = H3) I3 ⟨1, rfl, -1, rfl, rfl, rfl⟩) fun vs s4 ⟨o, H4, I4, ps, eo, e4⟩ => ?_
  subst eo e4
  cases pl
  cases pu
  have I5 : Inv X pins σ H4 { s4 with heap := s4.heap.push { cls := .type "slice", data := .fields #[.none, .none, vs] } } := I4.kept (t' := s4.toks) fun b ob q => Heap.get?_push_of_some _ q
  obtain ⟨its, r, ht, hz⟩ := I5.tuple hx
  have hlen := r.length
  show wpAny (model X.prog X.w) X.A (subscriptTail e (.Slice none none (some (.UnaryOp .USub (.Constant (.int 1) k p1) p2)) p3) (.ref a) (.ref s4.heap.objs.size)) (EP X pins σ Q) X.xe { s4 with heap := s4.heap.push { cls := .type "slice", data := .fields #[.none, .none, vs] } }
  refine tail_any (ops := [.ref a, .ref s4.heap.objs.size]) (IsTup.typeIs ht) (PyProof.Rows.slot_tuple_getitem.lookup) ?_ (by with_unfolding_all rfl)
  refine getItem_tuple_rev ht (Heap.IsSliceOf.new _ .none .none vs) ps ?_ (by rw [List.size_toArray]; omega)
  refine ⟨.ref _, _, I5.laid (t' := s4.toks) (o := .tup xs.reverse) (fun b ob q => Heap.get?_push_of_some _ q) (Nat.le_refl _) ?_, rfl, q _ (I5.hok.fresh (Nat.le_refl _))⟩
  exact ⟨by rw [List.length_reverse]; exact hz, _, r.reverse, IsTup.new _ _⟩
end Vt

set_option maxRecDepth 100000
namespace R58
open PySem
def top (i : Nat) : Stmt := PySem.Challenge.pw_alsoshown_k58_windows_and_texts.main.body.getD i (.Pass ⟨0, 0, 0, 0⟩)
end R58

set_option Elab.async false
set_option linter.all false
set_option maxRecDepth 100000
set_option maxHeartbeats 4000000
namespace R58
open PySem PySem.Spec PyProof.Rows L2 Vl Evl Vp
abbrev sCell : Stmt := top 40
abbrev sPool : Stmt := top 41
abbrev sTake : Stmt := top 42
abbrev FnP (K : PySem.W.Frag) (x : Str) (st : Stmt) (f : Addr) (fd : FuncData) : Prop := FunD K x x (defArgs st) (defBody st) (defScope st) [] [] f fd
section
variable {P : Program} {w : World} {K : PySem.W.Frag} {mg : Str → Option Value} {base : Heap}
theorem scC : FnScope ["_law_script", "_law_k"] ["_law_script", "_law_k"] (defScope sCell) := ⟨rfl, rfl, rfl, by decide +kernel, rfl, by decide +kernel, by decide +kernel⟩
theorem ok_cell {f : Addr} {fd : FuncData} (F : FnP K "_law_cell" sCell f fd) (mL : mg "len" = none) :
    FnOk P w K mg base CX0 1 f fd ["_law_script", "_law_k"] (spCell K) := by
  refine F.ok (CX := CX0) scC (fun vs H Q E h => ?_) (fun cdv A outer s H vs Q E hr h => ?_)
  · obtain ⟨l, ns, j, rfl, _⟩ := h
    rfl
  · refine ⟨_, pss_cons (ps_if (pt_cmpR op_lt (pv 1) (pe_callB call_len (by rfl) mL boot_len (pa_cons (pv 0) pa_nil)) (nomark _))
        (pss_one (ps_ret (pe_ix ix_seq (pv 0) (pv 1) fun _ _ => rfl))) pss_nil)
      (pss_one (ps_ret pe_int)), ?_⟩
    obtain ⟨l, ns, j, rfl, hs, q⟩ := h
    refine ⟨_, rfl, _, rfl, V.ref l, (ns.map V.int).length, rfl, .inl ⟨_, hs, rfl⟩, (j : Nat), ((ns.map V.int).length : Nat), rfl, rfl, _, rfl, ?_⟩
    by_cases hj : j < ns.length
    · rw [decide_eq_true (show ((j : Nat) : Int) < (((ns.map V.int).length : Nat) : Int) by rw [List.length_map]; omega)]
      refine iteT ?_
      exact ⟨_, rfl, _, rfl, .inl ⟨l, _, _, _, rfl, rfl, hs, atI_cell hj, q⟩⟩
    · rw [decide_eq_false (show ¬ ((j : Nat) : Int) < (((ns.map V.int).length : Nat) : Int) by rw [List.length_map]; omega)]
      refine iteF ?_
      rw [cell_out hj] at q
      exact q
theorem scP : FnScope ["_law_cell_here", "_law_folded"] ["_law_cell_here"] (defScope sPool) := ⟨rfl, rfl, rfl, by decide +kernel, rfl, by decide +kernel, by decide +kernel⟩
theorem ok_pool {f : Addr} {fd : FuncData} (F : FnP K "_law_pool" sPool f fd) (mI : mg "int" = none) :
    FnOk P w K mg base CX0 1 f fd ["_law_cell_here"] spPool := by
  refine F.ok (CX := CX0) scP (fun vs H Q E h => ?_) (fun cdv A outer s H vs Q E hr h => ?_)
  · obtain ⟨c, rfl, _⟩ := h
    rfl
  · refine ⟨_, pss_cons (ps_set (i := 1) scP.nd rfl (by first | exact Or.inl rfl | exact Or.inr rfl) (pe_op op_mul pe_int (pv 0)))
      (pss_cut (ps_if (pt_cmpR op_lt (pv 0) pe_int (nomark _)) (pss_one (ps_set (i := 1) scP.nd rfl (by first | exact Or.inl rfl | exact Or.inr rfl) (pe_op op_sub (pe_op op_sub pe_int (pe_op op_mul pe_int (pv 0))) pe_int))) pss_nil)
      (pss_cons (ps_if (pt_cmpR op_ge (pv 1) (pe_op op_pow pe_int pe_int) (nomark _)) (pss_one (ps_ret (pe_lst (pa_cons (pv 1) (pa_cons (pe_op op_mod (pe_callTy call_int1 (by rfl) mI (by decide +kernel) (pa_cons (pv 1) pa_nil)) pe_int) (pa_cons pe_int pa_nil)))))) pss_nil)
      (pss_one (ps_ret (pe_lst (pa_cons pe_int (pa_cons (pe_op op_mod (pe_callTy call_int1 (by rfl) mI (by decide +kernel) (pa_cons (pv 1) pa_nil)) pe_int) (pa_cons pe_int pa_nil)))))))), ?_⟩
    obtain ⟨c, rfl, q⟩ := h
    refine s_asg (v := .int (2 * c)) (ev_op ev_c (ev_var rfl) (rv_I (.inl ⟨by decide, by decide⟩))) fun H1 e1 => ?_
    refine ⟨fun st H2 => Ex H H2 ∧ ∃ g : Int, st = [some (.int c), some (.int g)], ?_, ?_⟩
    · refine s_if (b := decide (c < 0)) (et_test (ev_op (ev_var rfl) ev_c rv_I0)) (fun _ H2 e2 => ?_) (fun _ H2 e2 => ?_)
      · refine s_asg (v := .int (0 - 2 * c - 1)) (ev_op (ev_op ev_c (ev_op ev_c (ev_var rfl) (rv_I (.inl ⟨by decide, by decide⟩))) rv_I0) ev_c rv_I0) fun H3 e3 => ?_
        exact ⟨e1.trans (e2.trans e3), _, rfl⟩
      · exact ⟨e1.trans e2, _, rfl⟩
    rintro _ H2 ⟨e2, g, rfl⟩
    have fin : ∀ (a : Int) (H3 : Hp), Ex H H3 → ∀ p, H3 p = none → Q (.ref p) (upd H3 p (.lst [.int a, .int (g % 1000000007), .int 0])) := fun a H3 e3 p np =>
      q p _ (fresh_back e3 np) (e3.trans (Ex.new np)) ⟨a, _, 0, upd_same, Int.emod_nonneg _ (by decide), Int.emod_lt_of_pos _ (by decide), Int.le_refl 0, Int.le_refl 0⟩
    have ei : Ev (tOp (rI (fun _ j => 0 < j) fun i j => .int (i % j)) (tCB (fun xs H Q => (∃ i, xs = [.int i] ∧ Q (.int i) H) ∨ ∃ k, xs = [.bl k] ∧ Q (.int (if k then 1 else 0)) H) (tCons (tVar 1) tNil)) (tC (.int 1000000007)))
        [some (.int c), some (.int g)] H2 (.int (g % 1000000007)) :=
      ev_op (ev_cb (ea_cons (ev_var rfl) ea_nil) (fun H1 _ Q q => .inl ⟨_, rfl, q H1 (Ex.refl H1)⟩)) ev_c (rv_I (by show (0 : Int) < 1000000007; decide))
    refine s_seq ?_
    refine s_if (b := decide ((10 : Int) ^ (18 : Int).toNat ≤ g)) (et_test (ev_op (ev_var rfl) (ev_op ev_c ev_c (rv_I ⟨by decide, by decide, by decide⟩)) rv_I0)) (fun _ H3 e3 => ?_) (fun _ H3 e3 => ?_)
    · exact ⟨_, rfl, ei.mono e3 H3 (Ex.refl H3) _ fun H4 e4 => ⟨by show 3 ≤ sizeLine; decide, fun p np => fin g H4 (e2.trans (e3.trans e4)) p np⟩⟩
    · exact ei.mono e3 H3 (Ex.refl H3) _ fun H4 e4 => ⟨by show 3 ≤ sizeLine; decide, fun p np => fin 0 H4 (e2.trans (e3.trans e4)) p np⟩
theorem scT : FnScope ["_law_pool_here", "_law_many", "_law_draw", "_law_mixed_here"] ["_law_pool_here", "_law_many"] (defScope sTake) := ⟨rfl, rfl, rfl, by decide +kernel, rfl, by decide +kernel, by decide +kernel⟩
theorem ok_take {f : Addr} {fd : FuncData} (F : FnP K "_law_take" sTake f fd) (mI : mg "int" = none) :
    FnOk P w K mg base CX0 1 f fd ["_law_pool_here", "_law_many"] spTake := by
  refine F.ok (CX := CX0) scT (fun vs H Q E h => ?_) (fun cdv A outer s H vs Q E hr h => ?_)
  · obtain ⟨p, m, Hk, n, rfl, _⟩ := h
    rfl
  · refine ⟨_, pss_cons (ps_if (pt_cmpR op_gt (pe_ix ix_list (pv 0) pe_int fun _ _ => rfl) pe_int (nomark _))
        (pss_cons (ps_set (i := 2) scT.nd rfl (by first | exact Or.inl rfl | exact Or.inr rfl) (pe_op op_mod (pe_callTy call_int1 (by rfl) mI (by decide +kernel) (pa_cons (pe_ix ix_list (pv 0) pe_int fun _ _ => rfl) pa_nil)) (pv 1)))
        (pss_cons (ps_asg (pe_op op_fdivN (pe_ix ix_list (pv 0) pe_int fun _ _ => rfl) (pv 1)) (pg_sub (pv 0) pe_int set_list))
        (pss_one (ps_ret (pv 2))))) pss_nil)
      (pss_cons (ps_asg (pe_op op_add (pe_ix ix_list (pv 0) pe_int fun _ _ => rfl) pe_int) (pg_sub (pv 0) pe_int set_list))
      (pss_cons (ps_set (i := 3) scT.nd rfl (by first | exact Or.inl rfl | exact Or.inr rfl) (pe_op op_mod (pe_callTy call_int1 (by rfl) mI (by decide +kernel) (pa_cons (pe_op op_pow (pe_op op_add (pe_op op_add (pe_ix ix_list (pv 0) pe_int fun _ _ => rfl) (pe_op op_mul pe_int (pe_ix ix_list (pv 0) pe_int fun _ _ => rfl))) pe_int) pe_int) pa_nil)) pe_int))
      (pss_one (ps_ret (pe_op op_mod (pe_op op_mod (pe_callTy call_int1 (by rfl) mI (by decide +kernel) (pa_cons (pe_op op_mul (pe_op op_add (pv 3) (pe_ix ix_list (pv 0) pe_int fun _ _ => rfl)) pe_int) pa_nil)) pe_int) (pv 1)))))), ?_⟩
    obtain ⟨p, m, Hk, n, rfl, hm, hm2, hp, hn, q⟩ := h
    obtain ⟨a, b, c, ha, hb0, hb1, hc0, hc1⟩ := hp.at_
    have it : ∀ (j : Nat) (x : Int) (us : List V) (H1 : Hp), H1 p = some (.lst us) → us[j]? = some (.int x) → ∀ {t2 t3 : Option V}, Ev (tOp (rIxL K) (tVar 0) (tC (.int (j : Int)))) [some (.ref p), some (.int m), t2, t3] H1 (.int x) := fun j x us H1 h1 h2 t2 t3 =>
      ev_op (ev_var rfl) ev_c (rv_ixL (sq_of h1) (at_of rfl h2))
    have ti : ∀ {te : TE} {st : L2.St} {H1 : Hp} {i : Int}, Ev te st H1 (.int i) → Ev (tCB (fun xs H Q => (∃ i, xs = [.int i] ∧ Q (.int i) H) ∨ ∃ k, xs = [.bl k] ∧ Q (.int (if k then 1 else 0)) H) (tCons te tNil)) st H1 (.int i) :=
      fun h => ev_cb (ea_cons h ea_nil) (fun H1 _ Q q => .inl ⟨_, rfl, q H1 (Ex.refl H1)⟩)
    refine s_seq ?_
    refine s_if (b := decide (0 < a)) (et_test (ev_op (it 0 a _ H ha rfl) ev_c rv_I0)) (fun _ H1 e1 => ?_) (fun _ H1 e1 => ?_)
    · have h1 := e1 _ _ ha
      refine s_seq ?_
      refine s_asg (v := .int (a % m)) (ev_op (ti (it 0 a _ H1 h1 rfl)) (ev_var rfl) (rv_I (show 0 < m by omega))) fun H2 e2 => ?_
      dsimp only
      refine s_seq ?_
      refine s_setL (j := 0) (v := .int (a.fdiv m)) (e2 _ _ h1) (ev_op (it 0 a _ H2 (e2 _ _ h1) rfl) (ev_var rfl) (rv_I ⟨show m ≠ 0 by omega, show m.natAbs < 1073741824 by omega⟩)) (ev_var rfl) ev_c (by show 0 < 3; omega) fun H3 e3 => ?_
      dsimp only
      refine s_ret (v := .int (a % m)) (ev_var rfl) fun H4 e4 => ?_
      refine q _ _ (Int.emod_nonneg _ (by omega)) (Int.emod_lt_of_pos _ (by omega)) ?_
      refine ⟨hp.no, (Ex.mut (hp.ex.trans (e1.trans (e2.trans e3))) hp.no).trans e4, a.fdiv m, b, c, e4 _ _ upd_same, hb0, hb1, hc0, by omega⟩
    · have h1 := e1 _ _ ha
      dsimp only
      refine s_seq ?_
      refine s_setL (j := 2) (v := .int (c + 1)) h1 (ev_op (it 2 c _ H1 h1 rfl) ev_c rv_I0) (ev_var rfl) ev_c (by show 2 < 3; omega) fun H2 e2 => ?_
      have h2 : (upd H2 p (.lst [.int a, .int b, .int (c + 1)])) p = some (.lst [.int a, .int b, .int (c + 1)]) := upd_same
      have x2 : Ex Hk (upd H2 p (.lst [.int a, .int b, .int (c + 1)])) := Ex.mut (hp.ex.trans (e1.trans e2)) hp.no
      show tSeq _ _ _ _ (upd H2 p (.lst [.int a, .int b, .int (c + 1)]))
      generalize upd H2 p (.lst [.int a, .int b, .int (c + 1)]) = H3 at h2 x2
      refine s_seq ?_
      refine s_asg (v := .int ((b + 7919 * (c + 1) + 104729) ^ (5 : Int).toNat % 2147483647)) (ev_op (ti (ev_op (ev_op (ev_op (it 1 b _ H3 h2 rfl) (ev_op ev_c (it 2 (c + 1) _ H3 h2 rfl) (rv_I (.inl ⟨by decide, by decide⟩))) rv_I0) ev_c rv_I0) ev_c (rv_I ⟨by decide, by decide, by show (b + 7919 * (c + 1) + 104729).natAbs < 2 ^ 64; omega⟩))) ev_c (rv_I (by show (0 : Int) < 2147483647; decide))) fun H4 e4 => ?_
      dsimp only
      have hz0 : 0 ≤ (b + 7919 * (c + 1) + 104729) ^ (5 : Int).toNat % 2147483647 := Int.emod_nonneg _ (by decide)
      have hz1 : (b + 7919 * (c + 1) + 104729) ^ (5 : Int).toNat % 2147483647 < 2147483647 := Int.emod_lt_of_pos _ (by decide)
      generalize (b + 7919 * (c + 1) + 104729) ^ (5 : Int).toNat % 2147483647 = z at hz0 hz1
      have h4 := e4 _ _ h2
      refine s_ret (v := .int ((z + (c + 1)) * 40692 % 2147483629 % m)) (ev_op (ev_op (ti (ev_op (ev_op (ev_var rfl) (it 2 (c + 1) _ H4 h4 rfl) rv_I0) ev_c (rv_I (.inr ⟨by decide, by decide⟩)))) ev_c (rv_I (by show (0 : Int) < 2147483629; decide))) (ev_var rfl) (rv_I (show 0 < m by omega))) fun H5 e5 => ?_
      refine q _ _ (Int.emod_nonneg _ (by omega)) (Int.emod_lt_of_pos _ (by omega)) ?_
      exact ⟨hp.no, x2.trans (e4.trans e5), a, b, c + 1, e5 _ _ h4, hb0, hb1, by omega, by omega⟩
end
end R58

set_option Elab.async false
set_option linter.all false
set_option maxRecDepth 100000
set_option maxHeartbeats 4000000
namespace R58
open PySem PySem.Spec PyProof.Rows L2 Vl Evl Vp Vr
abbrev sIsName : Stmt := top 15
abbrev sIsInt : Stmt := top 16
abbrev sChkN : Stmt := top 17
abbrev sChkS : Stmt := top 18
/-- is_name, of a name -/
def spIsName : Sp := fun vs H Q _ => ∃ l, vs = [.str (tx l)] ∧ nam l ∧ ∀ H', Ex H H' → Q (.bl true) H'
theorem ifT {c A B : Prop} [Decidable c] (h : c) (a : A) : if c then A else B := by
  rw [if_pos h]
  exact a
theorem ifF {c A B : Prop} [Decidable c] (h : ¬ c) (b : B) : if c then A else B := by
  rw [if_neg h]
  exact b
section
variable {P : Program} {w : World} {K : PySem.W.Frag} {mg : Str → Option Value} {base : Heap}
abbrev nIN : List Str := ["value", "sign"]
theorem scIN : FnScope nIN ["value"] (defScope sIsName) := ⟨rfl, rfl, rfl, by decide +kernel, rfl, by decide +kernel, by decide +kernel⟩
theorem ok_isname {f : Addr} {fd : FuncData} (F : FnP K "is_name" sIsName f fd) (mI : mg "isinstance" = none) (mS : mg "str" = none) (mL : mg "len" = none) (mA : mg "all" = none)
    (gL : ∃ t, mg "LETTERS" = some (.str (tx letters) t)) (gD : ∃ t, mg "DIGITS" = some (.str (tx digits) t)) (gO : ∃ t, mg "LONGEST" = some (.int 8 t)) :
    FnOk P w K mg base CX0 1 f fd ["value"] spIsName := by
  obtain ⟨tL, gL⟩ := gL
  obtain ⟨tD, gD⟩ := gD
  obtain ⟨tO, gO⟩ := gO
  refine F.ok (CX := CX0) scIN (fun vs H Q E h => ?_) (fun cdv A outer s H vs Q E hr h => ?_)
  · obtain ⟨l, rfl, _⟩ := h
    rfl
  · refine ⟨_, (pss_cons (ps_if (PW.pt (pw_or (pt_not (pt_val (pe_callB call_isi (by rfl) mI boot_isinstance (pa_cons (pv 0) (pa_cons (pe_bltn (v := V.ty "str") (by rfl) mS boot_str rfl) pa_nil)))))
        (pw_or1 (pt_not (pt_chain op_le op_le pe_int (pe_callB call_len (by rfl) mL boot_len (pa_cons (pv 0) pa_nil)) (pe_glob (v := V.int 8) (by rfl) gO ⟨tO, rfl⟩)))))) (pss_one (ps_ret pe_bl)) pss_nil)
      (pss_one (ps_ret (pe_and (pe_cmpR op_inS (pe_ix ix_str (pv 0) pe_int fun _ _ => rfl) (pe_glob (v := V.str (tx letters)) (by rfl) gL ⟨tL, rfl⟩) rfl)
        (pe_one (pe_callB (cr_all rfl) (by rfl) mA boot_all (pa_cons (pe_lc (own := [("sign", 1)]) (g := gName 1) (tt := tYes) (te := tOp rInS (tVar 1) (tOp rCatS (tC (.str (tx letters))) (tC (.str (tx digits))))) rfl scIN.nd (pi_str (pv 0)) (blkOk_by (own := [("sign", 1)]) (N := nIN) (sc := defScope sIsName) (by decide +kernel)) (fun _ _ _ _ _ => (pg_name (i := 1) scIN.nd rfl (by first | exact Or.inl rfl | exact Or.inr rfl))) (fun _ _ _ _ _ => pts_nil)
          (fun _ _ _ _ _ => pe_cmpR op_inS (pv 1) (pe_op op_add_str (pe_glob (v := V.str (tx letters)) (by rfl) gL ⟨tL, rfl⟩) (pe_glob (v := V.str (tx digits)) (by rfl) gD ⟨tD, rfl⟩)) rfl)) pa_nil))))))), ?_⟩
    obtain ⟨l, rfl, hl, q⟩ := h
    have hll := nam_len hl
    have hs : (tx l).length = l.length := tx_len l
    refine s_seq ?_
    refine ⟨_, rfl, V.str (tx l), V.ty "str", .type "str", .type "str", true, rfl, .ty _, .base (.str _), kit_ty (by decide +kernel), true, rfl, ?_⟩
    refine ite_ff ?_
    refine ⟨_, rfl, _, (tx l).length, rfl, ⟨sz_of (by omega), rfl⟩, 1, _, rfl, rfl, _, rfl, ?_⟩
    refine ifT (decide_eq_true (by omega)) ?_
    refine ⟨_, _, rfl, rfl, _, rfl, ?_⟩
    refine ifF (by rw [decide_eq_true (show ((tx l).length : Int) ≤ 8 by omega)]; decide) ?_
    obtain ⟨c0, r0, rfl, hc, hr0, h7⟩ := id hl
    refine ⟨_, rfl, tx (c0 :: r0), 0, c0, rfl, rfl, sz_of (by omega), text_at (zs := c0 :: r0) (j := 0) (Nat.succ_pos _), _, _, rfl, rfl, _, rfl, ?_⟩
    refine ifT (decide_eq_true (by exact hc)) ?_
    refine ⟨_, rfl, tx (c0 :: r0), rfl, fun Dl hD => ?_⟩
    refine lc_it walk_str (fun i H' => H' = upd H Dl (.lst ((List.replicate i true).map V.bl))) rfl (fun _ _ _ _ => trivial) ?_ ?_
    · rintro i x H2 H3 hi rfl ⟨rfl, c, hcc, rfl⟩
      have hcm : c ∈ c0 :: r0 := by
        rw [← Array.getElem?_toList] at hcc
        exact List.mem_of_getElem? hcc
      refine ⟨rfl, ?_⟩
      unfold tYes
      dsimp only
      rw [if_pos rfl]
      refine ⟨_, rfl, tx letters, tx digits, rfl, rfl, by decide +kernel, c, _, rfl, rfl, (List.replicate i true).map V.bl, upd_same, ?_, ?_⟩
      · refine sz_lt ?_
        rw [List.length_map, List.length_replicate]
        have : (tx (c0 :: r0)).cps.size = (c0 :: r0).length := rfl
        omega
      · rw [tx_app, tx_list, decide_eq_true (show c ∈ letters ++ digits from nam_signs hl c hcm), upd_upd, List.replicate_succ', List.map_append]
        rfl
    · rintro H2 rfl
      refine ⟨Dl, List.replicate _ true, rfl, sq_of upd_same, ?_⟩
      rw [show (List.replicate ((tx (c0 :: r0)).cps.size) true).all id = true from List.all_eq_true.mpr fun b hb => (List.mem_replicate.mp hb).2]
      exact q _ (Ex.new hD)
end
end R58

set_option Elab.async false
set_option linter.all false
set_option maxRecDepth 100000
set_option maxHeartbeats 4000000
namespace R58
open PySem PySem.Spec PyProof.Rows L2 Vl Evl Vp Vr
theorem pi_either {X : Cx} {tg e : Expr} {t u : TI} (h : PI X tg e t) (h2 : PI X tg e u) : PI X tg e (fun σ H R => t σ H R ∨ u σ H R) :=
  ⟨fun pins s σ H R I q => q.elim (h.run pins s σ H R I) (h2.run pins s σ H R I)⟩
/-- a list or a tuple -/
def SqE (K : PySem.W.Frag) (H : Hp) (p : Addr) (xs : List V) : Prop := SqL K H p xs ∨ SqT K H p xs
theorem sqe_mono {K : PySem.W.Frag} {H H' : Hp} {p : Addr} {xs : List V} (e : Ex H H') (h : SqE K H p xs) : SqE K H' p xs := h.imp (ex_l e) (ex_t e)
def spIsInt (K : PySem.W.Frag) : Sp := fun vs H Q _ => ∃ (x : V) (t : String) (b1 b2 : Bool), vs = [x] ∧ TyX K H x (.type t) ∧ kitB t "int" = some b1 ∧ kitB t "bool" = some b2 ∧ Q (.bl (b1 && !b2)) H
def spChkN : Sp := fun vs H Q _ => ∃ l, vs = [.str (tx l)] ∧ nam l ∧ ∀ H', Ex H H' → Q .non H'
def spChkS (K : PySem.W.Frag) : Sp := fun vs H Q _ => ∃ p xs, vs = [.ref p] ∧ SqE K H p (vtx xs) ∧ (∀ l ∈ xs, nam l) ∧ 1 ≤ xs.length ∧ ∀ H', Ex H H' → Q .non H'
section
variable {P : Program} {w : World} {K : PySem.W.Frag} {mg : Str → Option Value} {base : Heap}
theorem scII : FnScope ["value"] ["value"] (defScope sIsInt) := ⟨rfl, rfl, rfl, by decide +kernel, rfl, by decide +kernel, by decide +kernel⟩
theorem ok_isint {f : Addr} {fd : FuncData} (F : FnP K "is_integer" sIsInt f fd) (mI : mg "isinstance" = none) (mN : mg "int" = none) (mB : mg "bool" = none) :
    FnOk P w K mg base CX0 1 f fd ["value"] (spIsInt K) := by
  refine F.ok (CX := CX0) scII (fun vs H Q E h => ?_) (fun cdv A outer s H vs Q E hr h => ?_)
  · obtain ⟨x, t, b1, b2, rfl, _⟩ := h
    rfl
  · refine ⟨_, (pss_one (ps_ret (pe_and (pe_callB call_isi (by rfl) mI boot_isinstance (pa_cons (pv 0) (pa_cons (pe_bltn (v := V.ty "int") (by rfl) mN boot_int rfl) pa_nil)))
      (pe_one (pe_not (pe_callB call_isi (by rfl) mI boot_isinstance (pa_cons (pv 0) (pa_cons (pe_bltn (v := V.ty "bool") (by rfl) mB boot_bool rfl) pa_nil)))))))), ?_⟩
    obtain ⟨x, t, b1, b2, rfl, ht, h1, h2, q⟩ := h
    refine ⟨_, rfl, x, V.ty "int", .type t, .type "int", b1, rfl, .ty _, ht, kit_ty h1, b1, rfl, ?_⟩
    cases b1 with
    | false => exact ifF Bool.false_ne_true q
    | true => exact ifT rfl ⟨_, rfl, x, V.ty "bool", .type t, .type "bool", b2, rfl, .ty _, ht, kit_ty h2, b2, rfl, q⟩
theorem scCN : FnScope ["value"] ["value"] (defScope sChkN) := ⟨rfl, rfl, rfl, by decide +kernel, rfl, by decide +kernel, by decide +kernel⟩
theorem ok_chkn {f fN : Addr} {fd fdN : FuncData} (F : FnP K "check_name" sChkN f fd) (FN : FnP K "is_name" sIsName fN fdN) (gN : mg "is_name" = some (.ref fN))
    (GN : FnOk P w K mg base CX0 1 fN fdN ["value"] spIsName) :
    FnOk P w K mg base CX0 2 f fd ["value"] spChkN := by
  have bN : Binds K fdN ["value"] [] := FN.bindsN fun _ _ _ _ _ _ us hl => match us, hl with | [_], _ => rfl
  have kN := FN.kp
  refine F.ok (CX := CX0) scCN (fun vs H Q E h => ?_) (fun cdv A outer s H vs Q E hr h => ?_)
  · obtain ⟨l, rfl, _⟩ := h
    rfl
  · have hr1 : Room 1 _ := hr
    refine ⟨_, (pss_one (ps_if (pt_not (pt_val (pe_call GN hr1 (by rfl) gN kN bN .nil pass0 (pa_cons (pv 0) pa_nil)))) (pss_one ps_never) pss_nil)), ?_⟩
    obtain ⟨l, rfl, hl, q⟩ := h
    exact ⟨_, rfl, l, rfl, hl, fun H' e => ⟨true, rfl, ifF Bool.false_ne_true (q H' e)⟩⟩
theorem scCS : FnScope ["names", "name"] ["names"] (defScope sChkS) := ⟨rfl, rfl, rfl, by decide +kernel, rfl, by decide +kernel, by decide +kernel⟩
theorem ok_chks {f fN : Addr} {fd fdN : FuncData} (F : FnP K "check_sequence" sChkS f fd) (FN : FnP K "check_name" sChkN fN fdN) (gN : mg "check_name" = some (.ref fN)) (mL : mg "len" = none)
    (GN : FnOk P w K mg base CX0 2 fN fdN ["value"] spChkN) :
    FnOk P w K mg base CX0 3 f fd ["names"] (spChkS K) := by
  have bN : Binds K fdN ["value"] [] := FN.bindsN fun _ _ _ _ _ _ us hl => match us, hl with | [_], _ => rfl
  have kN := FN.kp
  refine F.ok (CX := CX0) scCS (fun vs H Q E h => ?_) (fun cdv A outer s H vs Q E hr h => ?_)
  · obtain ⟨p, xs, rfl, _⟩ := h
    rfl
  · have hr1 : Room 2 _ := hr
    refine ⟨_, (pss_cons (ps_if (pt_cmpR op_eq (pe_callB call_len (by rfl) mL boot_len (pa_cons (pv 0) pa_nil)) pe_int (nomark _)) (pss_one ps_never) pss_nil)
      (pss_one (ps_for (passes_of rfl) rfl (pi_either (pi_list (pv 0)) (pi_tup (pv 0))) (pg_name (i := 1) scCS.nd rfl (by first | exact Or.inl rfl | exact Or.inr rfl))
        (pss_one (ps_expr (pe_call GN hr1 (by rfl) gN kN bN .nil pass0 (pa_cons (pv 1) pa_nil))))))), ?_⟩
    obtain ⟨p, xs, rfl, hp, hn, h1, q⟩ := h
    refine s_seq ?_
    refine ⟨_, rfl, _, xs.length, rfl, hp.imp (fun z => ⟨_, z, (vtx_len xs).symm⟩) (fun z => ⟨_, z, (vtx_len xs).symm⟩), rfl, _, rfl, ?_⟩
    refine ifF (fun z => absurd (V.int.inj (of_decide_eq_true z)) (by omega)) ?_
    have turn : ∀ (i : Nat) (x : V) (σ' : L2.St) (H' : Hp), (vtx xs)[i]? = some x → (∃ t, σ' = [some (.ref p), t] ∧ Ex H H') → ∃ t, σ'.set 1 (some x) = [some (.ref p), t] ∧ ∃ l, x = .str (tx l) ∧ t = some (.str (tx l)) ∧ nam l := by
      rintro i x _ H' hx ⟨t, rfl, e⟩
      unfold vtx at hx
      rw [List.getElem?_map] at hx
      obtain ⟨l, hl, rfl⟩ := Option.map_eq_some_iff.mp hx
      exact ⟨_, rfl, l, rfl, rfl, hn l (List.mem_of_getElem? hl)⟩
    rcases hp with hp | hp
    · refine .inl (s_forL (a := p) (ev_var rfl) hp (fun i st H' => ∃ t, st = [some (.ref p), t] ∧ Ex H H') (fun H1 e => ⟨none, rfl, e⟩) (fun i st H' _ ⟨_, _, e⟩ => ex_l e hp) ?_ (fun st H' ⟨_, _, e⟩ => q H' e))
      rintro i x σ' H' hx ⟨t, rfl, e⟩
      obtain ⟨t2, e2, l, rfl, rfl, hl⟩ := turn i x _ H' hx ⟨t, rfl, e⟩
      exact ⟨_, rfl, l, rfl, hl, fun H2 e3 => ⟨_, rfl, e.trans e3⟩⟩
    · refine .inr (s_forT (a := p) (ev_var rfl) hp (fun i st H' => ∃ t, st = [some (.ref p), t] ∧ Ex H H') (fun H1 e => ⟨none, rfl, e⟩) (fun i st H' _ ⟨_, _, e⟩ => ex_t e hp) ?_ (fun st H' ⟨_, _, e⟩ => q H' e))
      rintro i x σ' H' hx ⟨t, rfl, e⟩
      obtain ⟨t2, e2, l, rfl, rfl, hl⟩ := turn i x _ H' hx ⟨t, rfl, e⟩
      exact ⟨_, rfl, l, rfl, hl, fun H2 e3 => ⟨_, rfl, e.trans e3⟩⟩
end
end R58

set_option Elab.async false
set_option linter.all false
set_option maxRecDepth 100000
set_option maxHeartbeats 4000000
namespace R58
open PySem PySem.Spec PyProof.Rows L2 Vl Evl Vp Vr Vt
abbrev sLeast : Stmt := top 26
def spLeast (K : PySem.W.Frag) : Sp := fun vs H Q _ => ∃ p a, vs = [.ref p] ∧ SqT K H p (vtx a) ∧ 1 ≤ a.length ∧ a.length ≤ 1000 ∧
  ∀ q H', Ex H H' → SqT K H' q (vtx (least a)) → Q (.ref q) H'
section
variable {P : Program} {w : World} {K : PySem.W.Frag} {mg : Str → Option Value} {base : Heap}
abbrev nLT : List Str := ["lanes", "least", "place", "turned"]
theorem scLT : FnScope nLT ["lanes"] (defScope sLeast) := ⟨rfl, rfl, rfl, by decide +kernel, rfl, by decide +kernel, by decide +kernel⟩
theorem ok_least {f : Addr} {fd : FuncData} (F : FnP K "least_turn" sLeast f fd) (mL : mg "len" = none) (mR : mg "range" = none) :
    FnOk P w K mg base CX0 1 f fd ["lanes"] (spLeast K) := by
  refine F.ok (CX := CX0) scLT (fun vs H Q E h => ?_) (fun cdv A outer s H vs Q E hr h => ?_)
  · obtain ⟨p, a, rfl, _⟩ := h
    rfl
  · refine ⟨_, (pss_cons (ps_set (i := 1) scLT.nd rfl (by first | exact Or.inl rfl | exact Or.inr rfl) (pv 0))
      (pss_cons (ps_for (passes_of rfl) rfl (pi_range2 (by rfl) mR (pa_cons pe_int (pa_cons (pe_callB call_len (by rfl) mL boot_len (pa_cons (pv 0) pa_nil)) pa_nil))) (pg_name (i := 2) scLT.nd rfl (by first | exact Or.inl rfl | exact Or.inr rfl))
        (pss_cons (ps_set (i := 3) scLT.nd rfl (by first | exact Or.inl rfl | exact Or.inr rfl) (pe_op op_catA (pe_slice sl_tupA (pv 0) (po_some (pv 2)) po_none) (pe_slice sl_tupA (pv 0) po_none (po_some (pv 2)))))
        (pss_one (ps_if (pt_cmpR (Vo.op_ltD hr.units) (pv 3) (pv 1) (nomark _)) (pss_one (ps_set (i := 1) scLT.nd rfl (by first | exact Or.inl rfl | exact Or.inr rfl) (pv 3))) pss_nil))))
      (pss_one (ps_ret (pv 1))))), ?_⟩
    obtain ⟨p, a, rfl, hp, h1, h2, q⟩ := h
    refine s_seq ?_
    refine s_asg (v := .ref p) (ev_var rfl) fun H1 e1 => ?_
    dsimp only
    refine s_seq ?_
    refine s_forR2 (lo := 1) (n := (a.length : Int)) (ea_cons ev_c (ea_cons (ev_cb (ea_cons (ev_var rfl) ea_nil) (fun H2 e2 Q q => ⟨_, a.length, rfl, .inr ⟨vtx a, ex_t (e1.trans e2) hp, (vtx_len a).symm⟩, q H2 (Ex.refl H2)⟩)) ea_nil)) (by omega)
      (fun i st H' => ∃ q t2 t3, st = [some (.ref p), some (.ref q), t2, t3] ∧ Ex H H' ∧ SqT K H' q (vtx (lt1 a i))) (fun H2 e2 => ⟨p, none, none, rfl, e1.trans e2, ex_t (e1.trans e2) hp⟩) ?_ ?_
    · rintro i _ H2 hi ⟨q0, t2, t3, rfl, e2, hq⟩
      dsimp only
      refine s_seq ?_
      have hk : (1 : Int) + (i : Int) = ((i + 1 : Nat) : Int) := by omega
      rw [hk]
      refine et_rot (a := a) (k := i + 1) (et_ref (ev_var rfl) (ex_t e2 hp)) (et_ref (ev_var rfl) (ex_t e2 hp)) (ev_var rfl) (ev_var rfl) h2 H2 (Ex.refl H2) _ fun q2 H3 e3 hq2 => ?_
      refine ⟨_, rfl, _, rfl, wd (rot a (i + 1)), wd (lt1 a i), dp_wd hq2, dp_wd (ex_t e3 hq), alike_wd _ _, (fun z => nomatch z), ?_, _, rfl, ?_⟩
      · have := dep_wd (rot a (i + 1))
        omega
      · refine ite2 (fun hlt => ?_) (fun hlt => ?_)
        · refine ⟨_, rfl, q2, _, _, rfl, e2.trans e3, ?_⟩
          unfold lt1
          rw [if_pos (show ltW (rot a (i + 1)) (lt1 a i) = true from hlt)]
          exact hq2
        · refine ⟨q0, _, _, rfl, e2.trans e3, ?_⟩
          unfold lt1
          rw [if_neg (show ¬ ltW (rot a (i + 1)) (lt1 a i) = true from hlt)]
          exact ex_t e3 hq
    · rintro _ H2 ⟨q0, t2, t3, rfl, e2, hq⟩
      refine ⟨_, rfl, q q0 H2 e2 ?_⟩
      rw [show ((a.length : Int) - 1).toNat = a.length - 1 by omega] at hq
      exact hq
end
end R58

set_option Elab.async false
set_option linter.all false
set_option maxRecDepth 100000
set_option maxHeartbeats 4000000
namespace R58
open PySem PySem.Spec PyProof.Rows L2 Vl Evl Vp Vr Vt
/-- the i-th member of the class's body -/
def clB : Stmt → List Stmt
  | .ClassDef (body := b) .. => b
  | _ => []
def mem (i : Nat) : Stmt := (clB (top 25)).getD i (.Pass ⟨0, 0, 0, 0⟩)
abbrev FnM (K : PySem.W.Frag) (m q : Str) (st : Stmt) (f : Addr) (fd : FuncData) : Prop := FunD K m q (defArgs st) (defBody st) (defScope st) [] [] f fd
abbrev sIni : Stmt := mem 0
abbrev sLanes : Stmt := mem 1
abbrev sGet : Stmt := mem 6
abbrev sLen : Stmt := mem 7
abbrev sEq : Stmt := mem 10
abbrev sShl : Stmt := mem 12
abbrev sNeg : Stmt := mem 13
/-- a round of the lanes a stands at o -/
def Rnd (K : PySem.W.Frag) (C : Addr) (H : Hp) (o : Addr) (a : List (List Nat)) : Prop := ∃ dx q, H o = some (.ins C dx [("_lanes", .ref q)]) ∧ SqT K H q (vtx a)
theorem Rnd.mono {K : PySem.W.Frag} {C : Addr} {H H' : Hp} {o : Addr} {a : List (List Nat)} (e : Ex H H') (h : Rnd K C H o a) : Rnd K C H' o a := by
  obtain ⟨dx, q, h1, h2⟩ := h
  exact ⟨dx, q, e _ _ h1, ex_t e h2⟩
theorem sqt_upd {K : PySem.W.Frag} {H : Hp} {p x C dx : Addr} {xs : List V} {fs : List (Str × V)} {o : HO} (h : SqT K H p xs) (hx : H x = some (.ins C dx fs)) : SqT K (upd H x o) p xs := by
  rcases h with (h | ⟨ob, h⟩) | h
  · refine .inl (.inl ?_)
    rw [upd_ne (fun z => by rw [z, hx] at h; cases h)]
    exact h
  · refine .inl (.inr ⟨ob, ?_⟩)
    rw [upd_ne (fun z => by rw [z, hx] at h; cases h)]
    exact h
  · exact .inr h
/-- lanes: names, few -/
def Lns (a : List (List Nat)) : Prop := (∀ l ∈ a, nam l) ∧ 1 ≤ a.length ∧ a.length ≤ 1000
def spIniR (K : PySem.W.Frag) (C : Addr) : Sp := fun vs H Q _ => ∃ (x dx p : Addr) (H0 : Hp) (a : List (List Nat)), vs = [.ref x, .ref p] ∧ H = upd (upd H0 dx (.own x)) x (.ins C dx []) ∧ H0 x = none ∧ H0 dx = none ∧ dx ≠ x ∧
  SqE K H0 p (vtx a) ∧ Lns a ∧ ∀ H', Ex H0 H' → Rnd K C H' x a → Q .non H'
/-- Round(p), as an expression's value -/
def spMk (K : PySem.W.Frag) (C : Addr) : Sp := fun vs H Q _ => ∃ p a, vs = [.ref p] ∧ SqE K H p (vtx a) ∧ Lns a ∧ ∀ o H', Ex H H' → H o = none → Rnd K C H' o a → Q (.ref o) H'
section
variable {X : Cx} {C fI : Addr} {k : Nat} {fd : FuncData} {e : Expr} {te : TE} {p pos : Pos}
/-- Round(e) -/
def tMk (K : PySem.W.Frag) (C : Addr) (te : TE) : TE := fun st H Q => te st H fun v H1 => spMk K C [v] H1 Q E0
theorem pe_mkR (M : Mk X.K C fI) (F : FnOk X.prog X.w X.K X.mg X.base CX0 k fI fd ["self", "lanes"] (spIniR X.K C)) (hr : Room (k + 1) X.A) (hg : Gl X "Round") (hm : X.mg "Round" = some (.ref C)) (hb : Binds X.K fd ["self", "lanes"] []) (ha : PE X e te)
    (hs : starEach [e] X.env = (false, eval e X.env) :: starEach [] X.env := by rfl) (hpl : (backTo pos (starEach [] X.env)).any (·.1) = false := by rfl) : PE X (.Call (.Name "Round" p) [e] [] pos) (tMk X.K C te) := by
  refine pe_weak (pe_make (E := E0) M F hr hg hm hb .nil pass0 (pa_cons (pe_mono ha) pa_nil hs) (by decide) hs hpl) ?_
  intro st H Q h
  refine ⟨_, h, fun v H1 q => fun x dx hx hdx hne => ?_⟩
  obtain ⟨p0, a, ev, hp, hl, q⟩ := q
  have ev : v = .ref p0 := (List.cons.inj ev).1
  subst ev
  exact ⟨x, dx, p0, H1, a, rfl, rfl, hx, hdx, hne, hp, hl, fun H' e2 r => ⟨rfl, q x H' e2 hx r⟩⟩
end
section
variable {P : Program} {w : World} {K : PySem.W.Frag} {mg : Str → Option Value} {base : Heap} {C : Addr}
theorem scI : FnScope ["self", "lanes"] ["self", "lanes"] (defScope sIni) := ⟨rfl, rfl, rfl, by decide +kernel, rfl, by decide +kernel, by decide +kernel⟩
theorem ok_ini {f fS : Addr} {fd fdS : FuncData} (F : FnM K "__init__" "Round.__init__" sIni f fd) (c : Cls K C) (n : NoAttr K C "_lanes") (FS : FnP K "check_sequence" sChkS fS fdS) (gS : mg "check_sequence" = some (.ref fS)) (mT : mg "tuple" = none)
    (GS : FnOk P w K mg base CX0 3 fS fdS ["names"] (spChkS K)) :
    FnOk P w K mg base CX0 4 f fd ["self", "lanes"] (spIniR K C) := by
  have bS : Binds K fdS ["names"] [] := FS.bindsN fun _ _ _ _ _ _ us hl => match us, hl with | [_], _ => rfl
  have kS := FS.kp
  refine F.ok (CX := CX0) scI (fun vs H Q E h => ?_) (fun cdv A outer s H vs Q E hr h => ?_)
  · obtain ⟨x, dx, p, H0, a, rfl, _⟩ := h
    rfl
  · have hr1 : Room 3 _ := hr
    refine ⟨_, (pss_cons (ps_expr (pe_call GS hr1 (by rfl) gS kS bS .nil pass0 (pa_cons (pv 1) pa_nil)))
      (pss_one (ps_fld (pv 0) (pe_callTy call_tuple_of (by rfl) mT boot_tuple (pa_cons (pv 1) pa_nil)) (by rfl)))), ?_⟩
    obtain ⟨x, dx, p, H0, a, rfl, rfl, hx, hdx, hne, hp, ⟨ha, h1, h2⟩, q⟩ := h
    have e0 : Ex H0 (upd (upd H0 dx (.own x)) x (.ins C dx [])) := (Ex.new hdx).trans (Ex.new (by rw [upd_ne hne.symm]; exact hx))
    refine s_seq ?_
    refine ⟨_, rfl, p, a, rfl, sqe_mono e0 hp, ha, h1, fun H1 e1 => ?_⟩
    have hx1 : H1 x = some (.ins C dx []) := e1 _ _ upd_same
    have fin : ∀ (l : Addr) (H2 : Hp), Ex H1 H2 → SqT K H2 l (vtx a) → ∃ a C_1 dx fs, V.ref x = V.ref a ∧ H2 a = some (.ins C_1 dx fs) ∧ Cls K C_1 ∧ NoAttr K C_1 "_lanes" ∧ fs.length < 1000 ∧ Q .non (upd H2 a (.ins C_1 dx (putF "_lanes" (.ref l) fs))) := by
      intro l H2 e2 hl
      have hx2 := e2 _ _ hx1
      exact ⟨x, C, dx, [], rfl, hx2, c, n, by show 0 < 1000; omega, q _ (Ex.mut ((e0.trans e1).trans e2) hx) ⟨dx, l, upd_same, sqt_upd hl hx2⟩⟩
    rcases sqe_mono (e0.trans e1) hp with hp1 | hp1
    · exact ⟨_, rfl, p, vtx a, rfl, .inl ⟨hp1, fun l hl => ⟨_, rfl, fin l _ (Ex.new hl) sqt_new⟩⟩⟩
    · exact ⟨_, rfl, p, vtx a, rfl, .inr ⟨hp1, ⟨_, rfl, fin p _ (Ex.refl _) hp1⟩⟩⟩
end
end R58

set_option Elab.async false
set_option linter.all false
set_option maxRecDepth 100000
set_option maxHeartbeats 4000000
namespace R58
open PySem PySem.Spec PyProof.Rows L2 Vl Evl Vp Vr Vt
/-- equal as data: equal -/
theorem eqv_wd (a b : List (List Nat)) : PyData.eqv (wd a) (wd b) = decide (a = b) := by
  by_cases h : a = b
  · rw [decide_eq_true h, h]
    exact PySem.W.eqv_refl_alike _ (alike_wd b b)
  · rw [decide_eq_false h]
    cases e : PyData.eqv (wd a) (wd b) with
    | false => rfl
    | true =>
      have k := (PySem.W.toks_eqv (wd a) (wd b) (alike_wd a b)).1 e
      unfold wd at k
      rw [PySem.W.keyToks, PySem.W.keyToks] at k
      exact absurd (key_inj k) h
theorem lay_dtx : ∀ a : List (List Nat), (∀ l ∈ a, nam l) → PyData.canLayAll0 (dtx a) = true
  | [], _ => rfl
  | x :: r, h => by
    have hr := lay_dtx r fun l hl => h l (List.mem_cons_of_mem _ hl)
    have hx : PyData.canLay0 (PyData.str (tx x)) = true := by
      show PyData.strOk (tx x) = true
      unfold PyData.strOk
      rw [← Array.all_toList, tx_list, List.all_eq_true]
      intro c hc
      have hs : c ∈ Vp.signs := nam_signs (h x List.mem_cons_self) c hc
      have all : ∀ c ∈ Vp.signs, c < 128 := by decide +kernel
      have := all c hs
      refine decide_eq_true ?_
      omega
    show (PyData.canLay0 (PyData.str (tx x)) && PyData.canLayAll0 (dtx r)) = true
    rw [hx, hr]
    rfl
theorem sh_wd {a : List (List Nat)} (h : ∀ l ∈ a, nam l) : SeqAt.shaped (wd a) = true := shaped_of (lay_dtx a h) (by have := dep_wd a; omega)
theorem rot_nam {a : List (List Nat)} {k : Nat} (h : ∀ l ∈ a, nam l) : ∀ l ∈ rot a k, nam l := fun l hl => by
  rcases List.mem_append.mp hl with hl | hl
  · exact h l (List.mem_of_mem_drop hl)
  · exact h l (List.mem_of_mem_take hl)
theorem least_nam {a : List (List Nat)} (h : ∀ l ∈ a, nam l) : ∀ l ∈ least a, nam l := by
  obtain ⟨j, _, e⟩ := lt1_turn a (a.length - 1)
  rw [show least a = rot a j from e]
  exact rot_nam h
def spLen (K : PySem.W.Frag) (C : Addr) : Sp := fun vs H Q _ => ∃ o a, vs = [.ref o] ∧ Rnd K C H o a ∧ Lns a ∧ Q (.int (a.length : Nat)) H
def spEq (K : PySem.W.Frag) (C : Addr) : Sp := fun vs H Q _ => ∃ (o : Addr) (y : V) (a : List (List Nat)), vs = [.ref o, y] ∧ Rnd K C H o a ∧ Lns a ∧
  ((∃ o2 b, y = .ref o2 ∧ Rnd K C H o2 b ∧ Lns b ∧ ∀ H', Ex H H' → Q (.bl (decide (least a = least b))) H') ∨
   (∃ t : String, TyX K H y (.type t) ∧ PySem.W.kitOne K (.type t) (.ref C) = some false ∧ Q (.bl false) H))
def spNeg (K : PySem.W.Frag) (C : Addr) : Sp := fun vs H Q _ => ∃ o a, vs = [.ref o] ∧ Rnd K C H o a ∧ Lns a ∧ ∀ o2 H', Ex H H' → H o2 = none → Rnd K C H' o2 a.reverse → Q (.ref o2) H'
section
variable {P : Program} {w : World} {K : PySem.W.Frag} {mg : Str → Option Value} {base : Heap} {C : Addr}
theorem scG1 : FnScope ["self"] ["self"] (defScope sLanes) := ⟨rfl, rfl, rfl, by decide +kernel, rfl, by decide +kernel, by decide +kernel⟩
theorem ok_lanes {f : Addr} {fd : FuncData} (F : FnM K "lanes" "Round.lanes" sLanes f fd) (c : Cls K C) (n : NoAttr K C "_lanes") :
    FnOk P w K mg base CX0 1 f fd ["self"] (getSp C "_lanes") := by
  refine F.ok (CX := CX0) scG1 (fun vs H Q E h => ?_) (fun cdv A outer s H vs Q E hr h => ?_)
  · obtain ⟨a, dx, fs, v, rfl, _⟩ := h
    rfl
  · refine ⟨_, pss_one (ps_ret (pe_fld (pv 0) rfl)), ?_⟩
    obtain ⟨a, dx, fs, v, rfl, ea, l, q⟩ := h
    exact ⟨.ref a, rfl, a, C, dx, fs, v, rfl, ea, c, n, l, q⟩
theorem scLn : FnScope ["self"] ["self"] (defScope sLen) := ⟨rfl, rfl, rfl, by decide +kernel, rfl, by decide +kernel, by decide +kernel⟩
theorem ok_len {f : Addr} {fd : FuncData} (F : FnM K "__len__" "Round.__len__" sLen f fd) (c : Cls K C) (n : NoAttr K C "_lanes") (mL : mg "len" = none) :
    FnOk P w K mg base CX0 1 f fd ["self"] (spLen K C) := by
  refine F.ok (CX := CX0) scLn (fun vs H Q E h => ?_) (fun cdv A outer s H vs Q E hr h => ?_)
  · obtain ⟨o, a, rfl, _⟩ := h
    rfl
  · refine ⟨_, pss_one (ps_ret (pe_callB call_len (by rfl) mL boot_len (pa_cons (pe_fld (pv 0) rfl) pa_nil))), ?_⟩
    obtain ⟨o, a, rfl, ⟨dx, q0, h1, h2⟩, _, q⟩ := h
    exact ⟨_, rfl, o, C, dx, _, .ref q0, rfl, h1, c, n, rfl, .ref q0, a.length, rfl, .inr ⟨vtx a, h2, (vtx_len a).symm⟩, q⟩
theorem scE : FnScope ["self", "other"] ["self", "other"] (defScope sEq) := ⟨rfl, rfl, rfl, by decide +kernel, rfl, by decide +kernel, by decide +kernel⟩
theorem ok_eq {f fT : Addr} {fd fdT : FuncData} (F : FnM K "__eq__" "Round.__eq__" sEq f fd) (c : C8.InsC K C) (n : NoAttr K C "_lanes") (mI : mg "isinstance" = none) (gR : mg "Round" = some (.ref C))
    (FT : FnP K "least_turn" sLeast fT fdT) (gT : mg "least_turn" = some (.ref fT)) (GT : FnOk P w K mg base CX0 1 fT fdT ["lanes"] (spLeast K)) :
    FnOk P w K mg base CX0 2 f fd ["self", "other"] (spEq K C) := by
  have bT : Binds K fdT ["lanes"] [] := FT.bindsN fun _ _ _ _ _ _ us hl => match us, hl with | [_], _ => rfl
  have kT := FT.kp
  refine F.ok (CX := CX0) scE (fun vs H Q E h => ?_) (fun cdv A outer s H vs Q E hr h => ?_)
  · obtain ⟨o, y, a, rfl, _⟩ := h
    rfl
  · have hr1 : Room 1 _ := hr
    refine ⟨_, pss_one (ps_ret (pe_and (pe_callB call_isi (by rfl) mI boot_isinstance (pa_cons (pv 1) (pa_cons (pe_glob (v := V.ref C) (by rfl) gR rfl) pa_nil)))
      (pe_one (pe_cmpR (op_eqD hr.units) (pe_call GT hr1 (by rfl) gT kT bT .nil pass0 (pa_cons (pe_fld (pv 0) rfl) pa_nil)) (pe_call GT hr1 (by rfl) gT kT bT .nil pass0 (pa_cons (pe_fld (pv 1) rfl) pa_nil)) (nomark _))))), ?_⟩
    obtain ⟨o, y, a, rfl, ⟨dx, q0, h1, h2⟩, ⟨la, l1, l2⟩, h⟩ := h
    rcases h with ⟨o2, b, rfl, ⟨dx2, q2, g1, g2⟩, ⟨lb, m1, m2⟩, q⟩ | ⟨t, ht, hk, q⟩
    · refine ⟨_, rfl, V.ref o2, V.ref C, .ref C, .ref C, true, rfl, .own C, .base (.ins g1 c.cl c.ha c.hn c.htk c.hm), c.me, true, rfl, ?_⟩
      refine ifT rfl ?_
      refine ⟨_, rfl, o, C, dx, _, .ref q0, rfl, h1, c.cl, n, rfl, q0, a, rfl, h2, l1, l2, fun r1 H1 e1 k1 => ?_⟩
      refine ⟨_, rfl, o2, C, dx2, _, .ref q2, rfl, e1 _ _ g1, c.cl, n, rfl, q2, b, rfl, ex_t e1 g2, m1, m2, fun r2 H2 e2 k2 => ?_⟩
      refine ⟨wd (least a), wd (least b), dp_wd (ex_t e2 k1), dp_wd k2, sh_wd (least_nam la), sh_wd (least_nam lb), ?_⟩
      rw [eqv_wd]
      exact q H2 (e1.trans e2)
    · refine ⟨_, rfl, y, V.ref C, .type t, .ref C, false, rfl, .own C, ht, hk, false, rfl, ?_⟩
      exact ifF Bool.false_ne_true q
theorem scNg : FnScope ["self"] ["self"] (defScope sNeg) := ⟨rfl, rfl, rfl, by decide +kernel, rfl, by decide +kernel, by decide +kernel⟩
theorem ok_neg {f fI : Addr} {fd fdI : FuncData} (F : FnM K "__neg__" "Round.__neg__" sNeg f fd) (c : Cls K C) (n : NoAttr K C "_lanes") (gR : mg "Round" = some (.ref C)) (M : Mk K C fI) (bI : Binds K fdI ["self", "lanes"] [])
    (GI : FnOk P w K mg base CX0 4 fI fdI ["self", "lanes"] (spIniR K C)) :
    FnOk P w K mg base CX0 6 f fd ["self"] (spNeg K C) := by
  refine F.ok (CX := CX0) scNg (fun vs H Q E h => ?_) (fun cdv A outer s H vs Q E hr h => ?_)
  · obtain ⟨o, a, rfl, _⟩ := h
    rfl
  · have hr1 : Room 5 _ := hr
    refine ⟨_, pss_one (ps_ret (pe_mkR M GI hr1 (by rfl) gR bI (pe_revT (pe_fld (pv 0) rfl)))), ?_⟩
    obtain ⟨o, a, rfl, ⟨dx, q0, h1, h2⟩, ⟨la, l1, l2⟩, q⟩ := h
    refine ⟨_, rfl, o, C, dx, _, .ref q0, rfl, h1, c, n, rfl, q0, vtx a, rfl, h2, fun p hp => ?_⟩
    refine ⟨p, a.reverse, rfl, .inr ?_, ⟨fun l hl => la l (List.mem_reverse.mp hl), by rw [List.length_reverse]; exact l1, by rw [List.length_reverse]; exact l2⟩, fun o2 H' e ho r => q o2 H' ((Ex.new hp).trans e) ?_ r⟩
    · rw [vtx_rev]
      exact sqt_new
    · cases z : H o2 with
      | none => rfl
      | some u =>
        rw [upd_ne (ne_of_none z hp), z] at ho
        cases ho
end
end R58

set_option Elab.async false
set_option linter.all false
set_option maxRecDepth 100000
set_option maxHeartbeats 4000000
namespace R58
open PySem PySem.Spec PyProof.Rows L2 Vl Evl Vp Vr Vt
/-- no integer, to this program -/
def NoInt (K : PySem.W.Frag) (H : Hp) (y : V) : Prop := ∃ (t : String) (b1 b2 : Bool), TyX K H y (.type t) ∧ kitB t "int" = some b1 ∧ kitB t "bool" = some b2 ∧ (b1 && !b2) = false
/-- the error about y -/
def Raised (CN : Addr) (H : Hp) (y : V) (E : XK) : Prop := ∀ d H', Ex H H' → H' d = some (.xd [("value", y)]) → E (.ref CN) (some d) H'
def spGet (K : PySem.W.Frag) (C CN : Addr) : Sp := fun vs H Q E => ∃ (o : Addr) (y : V) (a : List (List Nat)), vs = [.ref o, y] ∧ Rnd K C H o a ∧ Lns a ∧
  ((∃ (i : Int) (l : List Nat), y = .int i ∧ a[(i % (a.length : Int)).toNat]? = some l ∧ Q (.str (tx l)) H) ∨ (NoInt K H y ∧ Raised CN H y E))
def spShl (K : PySem.W.Frag) (C CN : Addr) : Sp := fun vs H Q E => ∃ (o : Addr) (y : V) (a : List (List Nat)), vs = [.ref o, y] ∧ Rnd K C H o a ∧ Lns a ∧
  ((∃ i : Int, y = .int i ∧ ∀ o2 H', Ex H H' → H o2 = none → Rnd K C H' o2 (rot a (i % (a.length : Int)).toNat) → Q (.ref o2) H') ∨ (NoInt K H y ∧ Raised CN H y E))
section
variable {X : Cx} {CN fI : Addr} {fd : FuncData} {te : TE}
theorem raised_of {st : L2.St} {H : Hp} {y : V} {W : WX} (h : te = tVar 1) (hy : st[1]? = some (some y)) (q : Raised CN H y fun cls d H' => W cls d st H') :
    tMkO CN (spIni CN "value") [] (tCons te tNil) st H (fun cls d H' => W cls d st H') := by
  subst h
  refine ⟨y, hy, ?_⟩
  refine ⟨by show 1 ≤ 1000; omega, fun a na => ?_⟩
  refine ⟨a, y, rfl, upd_same, fun dx n1 n2 => ?_⟩
  have nd : H dx = none := by rw [upd_ne n2] at n1; exact n1
  refine ⟨rfl, dx, [("value", y)], upd_same, ?_, ?_, ?_⟩
  · rw [upd_ne n2, upd_same]
  · exact nd
  · refine q dx _ (fun b o hb => ?_) upd_same
    rw [upd_ne (ne_of_none hb nd), del_ne (ne_of_none hb na), upd_ne (ne_of_none hb na), upd_ne (ne_of_none hb nd), upd_ne (ne_of_none hb na)]
    exact hb
end
theorem mod_nat {i : Int} {n : Nat} (h : 1 ≤ n) : i % (n : Int) = (((i % (n : Int)).toNat : Nat) : Int) ∧ (i % (n : Int)).toNat < n := by
  have h1 := Int.emod_nonneg i (show (n : Int) ≠ 0 by omega)
  have h2 := Int.emod_lt_of_pos i (show (0 : Int) < n by omega)
  omega
section
variable {P : Program} {w : World} {K : PySem.W.Frag} {mg : Str → Option Value} {base : Heap} {C CN : Addr}
theorem scGt : FnScope ["self", "at"] ["self", "at"] (defScope sGet) := ⟨rfl, rfl, rfl, by decide +kernel, rfl, by decide +kernel, by decide +kernel⟩
theorem ok_get {f fI fE : Addr} {fd fdI fdE : FuncData} (F : FnM K "__getitem__" "Round.__getitem__" sGet f fd) (c : Cls K C) (n : NoAttr K C "_lanes") (mL : mg "len" = none)
    (FI : FnP K "is_integer" sIsInt fI fdI) (gI : mg "is_integer" = some (.ref fI)) (GI : FnOk P w K mg base CX0 1 fI fdI ["value"] (spIsInt K))
    (T : OexC K CN) (iC : PySem.W.findIn K (.ref CN) "__init__" = some (some (.ref fE))) (tI : PySem.W.typeIn K (.ref fE) = some (.type "function")) (gN : mg "BadNumber" = some (.ref CN)) (bE : Binds K fdE ["self", "value"] [])
    (GE : FnOk P w K mg base CX0 1 fE fdE ["self", "value"] (spIni CN "value")) :
    FnOk P w K mg base (L2.CX P w) 3 f fd ["self", "at"] (spGet K C CN) := by
  have bI : Binds K fdI ["value"] [] := FI.bindsN fun _ _ _ _ _ _ us hl => match us, hl with | [_], _ => rfl
  have kI := FI.kp
  refine F.ok (CX := L2.CX P w) scGt (fun vs H Q E h => ?_) (fun cdv A outer s H vs Q E hr h => ?_)
  · obtain ⟨o, y, a, rfl, _⟩ := h
    rfl
  · have hr1 : Room 1 _ := hr.mono (by omega)
    have hr2 : Room 2 _ := hr
    refine ⟨_, (pss_cons (ps_if (pt_not (pt_val (pe_call GI hr1 (by rfl) gI kI bI .nil pass0 (pa_cons (pv 1) pa_nil)))) (pss_one (ps_raise rfl (takes_of rfl rfl rfl rfl) (pmk_oex T iC tI GE hr2 bE .nil pass0 (by rfl) gN (pa_cons (pv 1) pa_nil)))) pss_nil)
      (pss_one (ps_ret (pe_ix ix_tup (pe_fld (pv 0) rfl) (pe_op op_mod (pv 1) (pe_callB call_len (by rfl) mL boot_len (pa_cons (pe_fld (pv 0) rfl) pa_nil))) fun _ _ => rfl)))), ?_⟩
    obtain ⟨o, y, a, rfl, ⟨dx, q0, h1, h2⟩, ⟨la, l1, l2⟩, h⟩ := h
    refine s_seq ?_
    rcases h with ⟨i, l, rfl, hl, q⟩ | ⟨⟨t, b1, b2, ht, k1, k2, k3⟩, q⟩
    · refine ⟨_, rfl, _, "int", true, false, rfl, .base (.int i), by decide +kernel, by decide +kernel, true, rfl, ?_⟩
      refine ifF Bool.false_ne_true ?_
      refine ⟨_, rfl, o, C, dx, _, .ref q0, rfl, h1, c, n, rfl, ?_⟩
      refine ⟨_, rfl, _, rfl, o, C, dx, _, .ref q0, rfl, h1, c, n, rfl, .ref q0, a.length, rfl, .inr ⟨vtx a, h2, (vtx_len a).symm⟩, ?_⟩
      obtain ⟨m1, m2⟩ := mod_nat (i := i) l1
      refine ⟨i, (a.length : Int), rfl, rfl, by omega, ?_⟩
      exact ⟨q0, vtx a, _, _, rfl, rfl, h2, by rw [m1]; exact at_of (j := (i % (a.length : Int)).toNat) rfl (vtx_at hl), q⟩
    · refine ⟨_, rfl, y, t, b1, b2, rfl, ht, k1, k2, b1 && !b2, rfl, ?_⟩
      rw [k3]
      refine ifT rfl ?_
      exact raised_of (W := fun cls d _ H' => E cls d H') rfl rfl q
theorem scSl : FnScope ["self", "other", "place"] ["self", "other"] (defScope sShl) := ⟨rfl, rfl, rfl, by decide +kernel, rfl, by decide +kernel, by decide +kernel⟩
theorem ok_shl {f fI fE fR : Addr} {fd fdI fdE fdR : FuncData} (F : FnM K "__lshift__" "Round.__lshift__" sShl f fd) (c : Cls K C) (n : NoAttr K C "_lanes") (mL : mg "len" = none)
    (FI : FnP K "is_integer" sIsInt fI fdI) (gI : mg "is_integer" = some (.ref fI)) (GI : FnOk P w K mg base CX0 1 fI fdI ["value"] (spIsInt K))
    (T : OexC K CN) (iC : PySem.W.findIn K (.ref CN) "__init__" = some (some (.ref fE))) (tI : PySem.W.typeIn K (.ref fE) = some (.type "function")) (gN : mg "BadNumber" = some (.ref CN)) (bE : Binds K fdE ["self", "value"] [])
    (GE : FnOk P w K mg base CX0 1 fE fdE ["self", "value"] (spIni CN "value"))
    (gR : mg "Round" = some (.ref C)) (M : Mk K C fR) (bR : Binds K fdR ["self", "lanes"] []) (GR : FnOk P w K mg base CX0 4 fR fdR ["self", "lanes"] (spIniR K C)) :
    FnOk P w K mg base (L2.CX P w) 6 f fd ["self", "other"] (spShl K C CN) := by
  have bI : Binds K fdI ["value"] [] := FI.bindsN fun _ _ _ _ _ _ us hl => match us, hl with | [_], _ => rfl
  have kI := FI.kp
  refine F.ok (CX := L2.CX P w) scSl (fun vs H Q E h => ?_) (fun cdv A outer s H vs Q E hr h => ?_)
  · obtain ⟨o, y, a, rfl, _⟩ := h
    rfl
  · have hr1 : Room 1 _ := hr.mono (by omega)
    have hr2 : Room 2 _ := hr.mono (by omega)
    have hr5 : Room 5 _ := hr
    refine ⟨_, (pss_cons (ps_if (pt_not (pt_val (pe_call GI hr1 (by rfl) gI kI bI .nil pass0 (pa_cons (pv 1) pa_nil)))) (pss_one (ps_raise rfl (takes_of rfl rfl rfl rfl) (pmk_oex T iC tI GE hr2 bE .nil pass0 (by rfl) gN (pa_cons (pv 1) pa_nil)))) pss_nil)
      (pss_cons (ps_set (i := 2) scSl.nd rfl (by first | exact Or.inl rfl | exact Or.inr rfl) (pe_op op_mod (pv 1) (pe_callB call_len (by rfl) mL boot_len (pa_cons (pe_fld (pv 0) rfl) pa_nil))))
      (pss_one (ps_ret (pe_mkR M GR hr5 (by rfl) gR bR (pe_op op_catA (pe_slice sl_tupA (pe_fld (pv 0) rfl) (po_some (pv 2)) po_none) (pe_slice sl_tupA (pe_fld (pv 0) rfl) po_none (po_some (pv 2))))))))), ?_⟩
    obtain ⟨o, y, a, rfl, ⟨dx, q0, h1, h2⟩, ⟨la, l1, l2⟩, h⟩ := h
    refine s_seq ?_
    rcases h with ⟨i, rfl, q⟩ | ⟨⟨t, b1, b2, ht, k1, k2, k3⟩, q⟩
    · refine ⟨_, rfl, _, "int", true, false, rfl, .base (.int i), by decide +kernel, by decide +kernel, true, rfl, ?_⟩
      refine ifF Bool.false_ne_true ?_
      dsimp only
      refine s_seq ?_
      refine ⟨_, rfl, _, rfl, o, C, dx, _, .ref q0, rfl, h1, c, n, rfl, .ref q0, a.length, rfl, .inr ⟨vtx a, h2, (vtx_len a).symm⟩, ?_⟩
      obtain ⟨m1, m2⟩ := mod_nat (i := i) l1
      refine ⟨i, (a.length : Int), rfl, rfl, by omega, ?_⟩
      generalize hk : (i % (a.length : Int)).toNat = k at m1 m2 q
      show gName 2 (V.int (i % (a.length : Int))) _ _ _
      rw [m1]
      have fl : ∀ {t2 : Option V}, Ev (tFld K (tVar 0) "_lanes") [some (.ref o), t2, some (.int (k : Int))] H (.ref q0) := fun H1 e Q q1 =>
        ⟨_, rfl, o, C, dx, _, .ref q0, rfl, e _ _ h1, c, n, rfl, q1 H1 (Ex.refl H1)⟩
      refine et_rot (a := a) (k := k) (et_ref fl h2) (et_ref fl h2) (ev_var rfl) (ev_var rfl) l2 H (Ex.refl H) _ fun p H2 e2 hp => ?_
      refine ⟨p, rot a k, rfl, .inr hp, ⟨rot_nam la, by rw [rot_len]; exact l1, by rw [rot_len]; exact l2⟩, fun o2 H' e ho r => q o2 H' (e2.trans e) ?_ r⟩
      cases z : H o2 with
      | none => rfl
      | some u =>
        rw [e2 _ _ z] at ho
        cases ho
    · refine ⟨_, rfl, y, t, b1, b2, rfl, ht, k1, k2, b1 && !b2, rfl, ?_⟩
      rw [k3]
      refine ifT rfl ?_
      exact raised_of (W := fun cls d _ H' => E cls d H') rfl rfl q
end
end R58

set_option Elab.async false
set_option linter.all false
/-! The least piece of which a sequence is a multiple; it is the same for all multiples of the sequence. -/
namespace Vq
variable {α : Type}
/-- k times the sequence -/
def rp (k : Nat) (a : List α) : List α := (List.replicate k a).flatten
theorem rp_len (a : List α) : ∀ k, (rp k a).length = k * a.length
  | 0 => by rw [Nat.zero_mul]; rfl
  | k + 1 => by
    unfold rp
    rw [List.replicate_succ, List.flatten_cons, List.length_append, Nat.succ_mul]
    have := rp_len a k
    unfold rp at this
    omega
theorem rp_at (a : List α) : ∀ k i, i < k * a.length → (rp k a)[i]? = a[i % a.length]?
  | 0, i, h => by omega
  | k + 1, i, h => by
    have ih := rp_at a k
    unfold rp at ih ⊢
    rw [List.replicate_succ, List.flatten_cons]
    by_cases hi : i < a.length
    · rw [List.getElem?_append_left hi, Nat.mod_eq_of_lt hi]
    · rw [List.getElem?_append_right (by omega), ih (i - a.length) (by rw [Nat.succ_mul] at h; omega), ← Nat.mod_eq_sub_mod (by omega)]
/-- the sequence gone without end -/
def goes (a : List α) (i : Nat) : Option α := a[i % a.length]?
def Per (f : Nat → Option α) (s : Nat) : Prop := ∀ i, f (i + s) = f i
theorem Per.mul {f : Nat → Option α} {s : Nat} (h : Per f s) : ∀ k i, f (i + s * k) = f i
  | 0, i => by rw [Nat.mul_zero, Nat.add_zero]
  | k + 1, i => by
    rw [Nat.mul_succ, ← Nat.add_assoc, h, h.mul k]
theorem Per.mod {f : Nat → Option α} {s : Nat} (h : Per f s) (i : Nat) : f (i % s) = f i := by
  have := h.mul (i / s) (i % s)
  rw [← this]
  congr 1
  exact Nat.mod_add_div i s
theorem Per.rest {f : Nat → Option α} {a b : Nat} (ha : Per f a) (hb : Per f b) : Per f (b % a) := fun i => by
  rw [← ha.mul (b / a) (i + b % a), Nat.add_assoc, Nat.mod_add_div, hb]
theorem Per.gcd {f : Nat → Option α} (a b : Nat) : Per f a → Per f b → Per f (Nat.gcd a b) := by
  refine Nat.gcd.induction (P := fun a b => Per f a → Per f b → Per f (Nat.gcd a b)) a b (fun n _ hn => ?_) (fun m n hm ih h1 h2 => ?_)
  · rw [Nat.gcd_zero_left]
    exact hn
  · rw [Nat.gcd_rec]
    exact ih (h1.rest h2) h1
theorem per_len (a : List α) : Per (goes a) a.length := fun i => by
  unfold goes
  rw [Nat.add_mod_right]
/-- s lanes, gone again and again, are the sequence -/
def Siz (a : List α) (s : Nat) : Prop := 1 ≤ s ∧ rp (a.length / s) (a.take s) = a
theorem siz_iff {a : List α} {s : Nat} (ha : 1 ≤ a.length) (hs : 1 ≤ s) : Siz a s ↔ s ∣ a.length ∧ Per (goes a) s := by
  constructor
  · rintro ⟨_, h⟩
    have hl := congrArg List.length h
    rw [rp_len, List.length_take] at hl
    have hle : s ≤ a.length := by
      rcases Nat.lt_or_ge a.length s with q | q
      · rw [Nat.div_eq_of_lt q, Nat.zero_mul] at hl
        omega
      · exact q
    rw [Nat.min_eq_left hle] at hl
    have hd : s ∣ a.length := ⟨a.length / s, by rw [Nat.mul_comm]; exact hl.symm⟩
    have at_ : ∀ i, i < a.length → a[i]? = a[i % s]? := fun i hi => by
      have q := rp_at (a.take s) (a.length / s) i (by rw [List.length_take, Nat.min_eq_left hle, hl]; exact hi)
      rw [h, List.length_take, Nat.min_eq_left hle, List.getElem?_take, if_pos (Nat.mod_lt _ hs)] at q
      exact q
    refine ⟨hd, fun i => ?_⟩
    unfold goes
    rw [at_ _ (Nat.mod_lt _ ha), at_ _ (Nat.mod_lt i ha), Nat.mod_mod_of_dvd _ hd, Nat.mod_mod_of_dvd _ hd, Nat.add_mod_right]
  · rintro ⟨hd, hp⟩
    have hle : s ≤ a.length := Nat.le_of_dvd ha hd
    have hl : (a.take s).length = s := by rw [List.length_take, Nat.min_eq_left hle]
    have hm : a.length / s * s = a.length := Nat.div_mul_cancel hd
    refine ⟨hs, List.ext_getElem? fun i => ?_⟩
    by_cases hi : i < a.length
    · rw [rp_at _ _ _ (by rw [hl, hm]; exact hi), hl, List.getElem?_take, if_pos (Nat.mod_lt _ hs)]
      have q := hp.mod i
      unfold goes at q
      rw [Nat.mod_eq_of_lt hi, Nat.mod_eq_of_lt (Nat.lt_of_lt_of_le (Nat.mod_lt _ hs) hle)] at q
      exact q
    · rw [List.getElem?_eq_none (by rw [rp_len, hl, hm]; omega), List.getElem?_eq_none (by omega)]
/-- the least such number -/
def Rt (a : List α) (s : Nat) : Prop := Siz a s ∧ ∀ t, 1 ≤ t → t < s → ¬ Siz a t
theorem Rt.one {a : List α} {s t : Nat} (h : Rt a s) (g : Rt a t) : s = t := by
  rcases Nat.lt_trichotomy s t with q | q | q
  · exact absurd h.1 (g.2 s h.1.1 q)
  · exact q
  · exact absurd g.1 (h.2 t g.1.1 q)
theorem siz_self {a : List α} (ha : 1 ≤ a.length) : Siz a a.length := (siz_iff ha ha).mpr ⟨Nat.dvd_refl _, per_len a⟩
theorem Rt.le {a : List α} {s : Nat} (ha : 1 ≤ a.length) (h : Rt a s) : s ≤ a.length := Nat.le_of_dvd ha ((siz_iff ha h.1.1).mp h.1).1
theorem goes_rp (a : List α) (k : Nat) (hk : 1 ≤ k) (ha : 1 ≤ a.length) (i : Nat) : goes (rp k a) i = goes a i := by
  unfold goes
  have h0 : 0 < k * a.length := Nat.mul_pos hk ha
  rw [rp_at _ _ _ (by rw [rp_len]; exact Nat.mod_lt _ h0), rp_len, Nat.mod_mod_of_dvd _ ⟨k, Nat.mul_comm _ _⟩]
theorem Rt.rp {a : List α} {s k : Nat} (ha : 1 ≤ a.length) (hk : 1 ≤ k) (h : Rt a s) : Rt (rp k a) s := by
  have h0 : 1 ≤ (Vq.rp k a).length := by rw [rp_len]; exact Nat.mul_pos hk ha
  have e : goes (Vq.rp k a) = goes a := funext (goes_rp a k hk ha)
  obtain ⟨hd, hp⟩ := (siz_iff ha h.1.1).mp h.1
  refine ⟨(siz_iff h0 h.1.1).mpr ⟨by rw [rp_len]; exact Nat.dvd_trans hd ⟨k, Nat.mul_comm _ _⟩, by rw [e]; exact hp⟩, fun t ht hts hz => ?_⟩
  obtain ⟨_, hpt⟩ := (siz_iff h0 ht).mp hz
  rw [e] at hpt
  have hg := Per.gcd t a.length hpt (per_len a)
  have g1 : 1 ≤ Nat.gcd t a.length := Nat.gcd_pos_of_pos_left _ ht
  have g2 : Nat.gcd t a.length ≤ t := Nat.gcd_le_left _ ht
  exact h.2 _ g1 (by omega) ((siz_iff ha g1).mpr ⟨Nat.gcd_dvd_right _ _, hg⟩)
theorem rp_take {a : List α} {s k : Nat} (hk : 1 ≤ k) (hs : s ≤ a.length) : (Vq.rp k a).take s = a.take s := by
  obtain ⟨j, rfl⟩ := Nat.exists_eq_add_of_le hk
  rw [Nat.add_comm]
  unfold Vq.rp
  rw [List.replicate_succ, List.flatten_cons, List.take_append_of_le_length hs]
theorem rp_div {a : List α} {s k : Nat} (hd : s ∣ a.length) : (Vq.rp k a).length / s = a.length / s * k := by
  rw [rp_len, Nat.mul_div_assoc _ hd, Nat.mul_comm]
end Vq

set_option Elab.async false
set_option linter.all false
set_option maxRecDepth 100000
set_option maxHeartbeats 2000000
/-! Comprehensions over a tuple that stands, over a list or a tuple; all(..) of such. -/
namespace Vlt
open PySem PySem.Spec PyProof.Rows L2 Vl Evl Vp Ve Ven
section
variable {K : PySem.W.Frag} {te tl : TE} {tt : TT} {σ : L2.St} {H : Hp}
theorem el_lcTA {α : Type} {ys : List α} {g : α → V} {a : Addr} {j : Nat} {vs : List Nat} (c : α → Bool) (w : α → V) (h : Ev tl σ H (.ref a)) (hx : SqT K H a (ys.map g)) (hz : ys.length ≤ 40000) (hw : ∀ x, wipe ((wipe σ vs).set j (some x)) vs = wipe σ vs)
    (ht : ∀ (y : α) (H1 : Hp), Ex H H1 → y ∈ ys → EvT tt ((wipe σ vs).set j (some (g y))) H1 (c y)) (he : ∀ (y : α) (H1 : Hp), Ex H H1 → y ∈ ys → c y = true → Ev te ((wipe σ vs).set j (some (g y))) H1 (w y)) :
    EvL (tLc (iTup K tl) (gName j) tt te vs) σ H ((ys.filter c).map w) := fun H0 e Q q => h H0 e _ fun H1 e1 => ⟨a, rfl, ⟨ys.map g, ex_t (e.trans e1) hx⟩, fun Dl hD => by
  have hgm := given_map c w (fun i => match ys[i]? with | some y => c y | none => false) (fun i => match ys[i]? with | some y => w y | none => .non) (fun i y hy => by rw [hy]; exact ⟨rfl, rfl⟩) ys.length (Nat.le_refl _)
  rw [List.take_length] at hgm
  refine lc_tup (xs := ys.map g) (Cw H1 (fun i => match ys[i]? with | some y => c y | none => false) (fun i => match ys[i]? with | some y => w y | none => .non) Dl) ⟨hD, Ex.new hD, upd_same⟩ (fun i H' _ p => ex_t ((e.trans e1).trans p.2.1) hx) (fun i x H' hi p => ⟨hw x, ?_⟩)
    (fun H' p => q Dl H' (fresh_back e1 p.1) (e1.trans p.2.1) (by have h2 := p.2.2; rw [List.length_map, hgm] at h2; exact h2))
  rw [List.getElem?_map] at hi
  obtain ⟨y, hy, rfl⟩ := Option.map_eq_some_iff.mp hi
  have hm := List.mem_of_getElem? hy
  refine cw_turn p (by have := (List.getElem?_eq_some_iff.mp hy).1; omega) ?_ ?_
  · rw [hy]
    exact ht y H1 (e.trans e1) hm
  · rw [hy]
    exact fun hf => he y H1 (e.trans e1) hm hf⟩
theorem el_lcTM {α : Type} {ys : List α} {g : α → V} {a : Addr} {j : Nat} {vs : List Nat} (w : α → V) (h : Ev tl σ H (.ref a)) (hx : SqT K H a (ys.map g)) (hz : ys.length ≤ 40000) (hw : ∀ x, wipe ((wipe σ vs).set j (some x)) vs = wipe σ vs)
    (he : ∀ (y : α) (H1 : Hp), Ex H H1 → y ∈ ys → Ev te ((wipe σ vs).set j (some (g y))) H1 (w y)) : EvL (tLc (iTup K tl) (gName j) tYes te vs) σ H (ys.map w) := by
  have := el_lcTA (K := K) (tt := tYes) (te := te) (fun _ => true) w h hx hz hw (fun y H1 _ _ => et_yes) (fun y H1 e hy _ => he y H1 e hy)
  rw [List.filter_eq_self.mpr (fun _ _ => rfl)] at this
  exact this
theorem ev_all {bs : List Bool} (h : EvL te σ H (bs.map V.bl)) : Ev (tCB (rAll K) (tCons te tNil)) σ H (.bl (bs.all id)) := fun H1 e Q q => h H1 e _ fun p H2 np e2 hp => ⟨p, bs, rfl, sq_of hp, q H2 e2⟩
theorem given_all {n : Nat} (v : Nat → V) : given n (fun _ => true) v = (List.range n).map v := by
  unfold given
  rw [List.filter_eq_self.mpr (fun _ _ => rfl)]
theorem lc_seqL {i : Nat} {g : TG} {vs : List Nat} {Q : VK} (h : tLc (iList K (tVar i)) g tt te vs σ H Q) : tLc (iSeqA K (tVar i)) g tt te vs σ H Q := by
  obtain ⟨v, hv, a, e, hs, r⟩ := h
  exact ⟨v, hv, a, e, .inl ⟨hs, r⟩⟩
theorem lc_seqT {i : Nat} {g : TG} {vs : List Nat} {Q : VK} (h : tLc (iTup K (tVar i)) g tt te vs σ H Q) : tLc (iSeqA K (tVar i)) g tt te vs σ H Q := by
  obtain ⟨v, hv, a, e, hs, r⟩ := h
  exact ⟨v, hv, a, e, .inr ⟨hs, r⟩⟩
/-- over a list or a tuple that a variable holds -/
theorem el_lcSM {α : Type} {ys : List α} {g : α → V} {a : Addr} {i j : Nat} {vs : List Nat} (w : α → V) (h : σ[i]? = some (some (.ref a))) (hx : SqA K H a (ys.map g)) (hz : ys.length ≤ 40000) (hw : ∀ x, wipe ((wipe σ vs).set j (some x)) vs = wipe σ vs)
    (he : ∀ (y : α) (H1 : Hp), Ex H H1 → y ∈ ys → Ev te ((wipe σ vs).set j (some (g y))) H1 (w y)) : EvL (tLc (iSeqA K (tVar i)) (gName j) tYes te vs) σ H (ys.map w) := fun H1 e Q q => by
  rcases hx with hx | hx
  · exact lc_seqL (el_lcM w (ev_var h) hx hz hw he H1 e Q q)
  · exact lc_seqT (el_lcTM w (ev_var h) hx hz hw he H1 e Q q)
end
end Vlt

set_option Elab.async false
set_option linter.all false
set_option maxRecDepth 100000
set_option maxHeartbeats 4000000
/-! Texts: repeated, cut, joined; the windows of a text that goes round. -/
namespace Vtx
open PySem PySem.Spec PyProof.Rows L2 Vl Evl Vp
theorem fold_rep (b : List Nat) : ∀ (k : Nat) (acc : Array Nat), (List.replicate k b.toArray).foldl (· ++ ·) acc = acc ++ (Vq.rp k b).toArray
  | 0, acc => by
    show acc = acc ++ ([] : List Nat).toArray
    simp
  | k + 1, acc => by
    rw [List.replicate_succ, List.foldl_cons, fold_rep b k]
    unfold Vq.rp
    rw [List.replicate_succ, List.flatten_cons, Array.append_assoc]
    congr 1
    rw [List.append_toArray]
theorem rp_one' {α : Type} (xs : List α) : Vq.rp 1 xs = xs := by
  unfold Vq.rp
  rw [List.replicate_succ, List.replicate_zero, List.flatten_cons, List.flatten_nil, List.append_nil]
theorem mul_tx (l : List Nat) (k : Nat) : Txt.mul (tx l) (k : Int) = tx (Vq.rp k l) := by
  unfold Txt.mul
  by_cases h : (k : Int) < 1
  · rw [if_pos h]
    have : k = 0 := by omega
    subst this
    rfl
  · rw [if_neg h]
    split
    · rename_i hc
      rw [Bool.or_eq_true, beq_iff_eq, beq_iff_eq] at hc
      rcases hc with hc | hc
      · have : k = 1 := by omega
        subst this
        rw [rp_one']
      · have : l = [] := List.eq_nil_of_length_eq_zero (by rw [tx_len] at hc; exact hc)
        subst this
        have : Vq.rp k ([] : List Nat) = [] := List.eq_nil_of_length_eq_zero (by rw [Vq.rp_len]; rfl)
        rw [this]
    · show Str.mk ((List.replicate k l.toArray).foldl (· ++ ·) #[]) = _
      rw [fold_rep]
      show Str.mk (#[] ++ (Vq.rp k l).toArray) = Str.mk (Vq.rp k l).toArray
      rw [Array.empty_append]
def rRepS : R2 := fun x y H Q => ∃ (l : List Nat) (k : Nat), x = .str (tx l) ∧ y = .int (k : Nat) ∧ l.length ≤ 1000 ∧ k ≤ 1000 ∧ Q (.str (tx (Vq.rp k l))) H
section
variable {X : Cx}
def rIxQ (K : PySem.W.Frag) : R2 := fun x y H Q => rIxL K x y H Q ∨ rIxT K x y H Q
theorem ix_seq : IxR X (rIxQ X.K) := by
  intro value slice pins s σ H x y v u Q I rx ry h hs
  exact h.elim (fun h => ix_list value slice pins s σ H x y v u Q I rx ry h hs) (fun h => ix_tup value slice pins s σ H x y v u Q I rx ry h hs)
theorem op_repS : OpR X (binaryOp .Mult) rRepS := by
  intro pins s σ H x y v u Q I rx ry h
  obtain ⟨l, k, rfl, rfl, hl, hk, q⟩ := h
  obtain ⟨t, rfl⟩ := rx
  obtain ⟨t', rfl⟩ := ry
  exact SB.mul (mulOk_of 1000 1000 (by rw [tx_len]; exact hl) (by omega) (by omega) (by omega) (by omega)) fun t2 tk => ⟨.str (tx (Vq.rp k l)), H, I.tok _, ⟨t2, by rw [mul_tx]⟩, q⟩
end
section
variable {K : PySem.W.Frag} {σ : L2.St} {H : Hp} {ta tb te : TE} {l : List Nat}
theorem rv_repS {k : Nat} (hl : l.length ≤ 1000) (hk : k ≤ 1000) : RV rRepS (.str (tx l)) (.int (k : Nat)) H (.str (tx (Vq.rp k l))) := rv_val fun H1 _ Q q => ⟨l, k, rfl, rfl, hl, hk, q⟩
theorem ev_slS {tl th : TO} {lo hi : Option Int} (h : Ev te σ H (.str (tx l))) (h1 : EvO tl σ H lo) (h2 : EvO th σ H hi) (hz : l.length ≤ 100000) : Ev (tSl rSlS te tl th) σ H (.str (cutS (tx l) lo hi)) := fun H1 e Q q =>
  h H1 e _ fun H2 e2 => h1 H2 (e.trans e2) _ fun H3 e3 => h2 H3 ((e.trans e2).trans e3) _ fun H4 e4 => ⟨tx l, rfl, sz_of (by rw [tx_len]; exact hz), q H4 ((e2.trans e3).trans e4)⟩
theorem cut_pq (l : List Nat) (p q : Nat) : cutS (tx l) (some (p : Int)) (some (q : Int)) = tx ((l.drop p).take (q - p)) := by
  unfold cutS
  rw [HT.sIx_nat, HT.sIx_nat]
  show Str.mk (((l.drop (min p l.length)).take (min q l.length - min p l.length)).toArray) = Str.mk _
  congr 2
  by_cases hp : p ≤ l.length
  · rw [Nat.min_eq_left hp]
    by_cases hq : q ≤ l.length
    · rw [Nat.min_eq_left hq]
    · rw [Nat.min_eq_right (by omega)]
      rw [List.take_of_length_le (by rw [List.length_drop]; omega), List.take_of_length_le (by rw [List.length_drop]; omega)]
  · rw [Nat.min_eq_right (show l.length ≤ p by omega), List.drop_eq_nil_of_le (Nat.le_refl _), List.drop_eq_nil_of_le (by omega)]
    simp
theorem cut_last (l : List Nat) (h : 1 ≤ l.length) : cutS (tx l) none (some (-1)) = tx (l.take (l.length - 1)) := by
  unfold cutS
  have e : HT.sIx (tx l).length (tx l).length (some (-1)) = l.length - 1 := by
    rw [tx_len]
    unfold HT.sIx
    simp only
    split <;> omega
  rw [e]
  rfl
theorem cut_one (l : List Nat) : cutS (tx l) (some 1) none = tx (l.drop 1) := tx_cut1 l 1
theorem join_ones (cs : List Nat) : Txt.join Str.empty (cs.map fun c => tx [c]) = tx cs := by
  have go : ∀ (r acc : List Nat), ((r.map fun c => tx [c]).foldl (fun acc p => acc ++ Str.empty.cps ++ p.cps) acc.toArray) = (acc ++ r).toArray := by
    intro r
    induction r with
    | nil => intro acc; rw [List.append_nil]; rfl
    | cons c r ih =>
      intro acc
      rw [List.map_cons, List.foldl_cons]
      have : acc.toArray ++ Str.empty.cps ++ (tx [c]).cps = (acc ++ [c]).toArray := by
        show acc.toArray ++ #[] ++ [c].toArray = _
        rw [Array.append_empty, List.append_toArray]
      rw [this, ih, List.append_assoc]
      rfl
  unfold Txt.join Builtin.Str.glued
  cases cs with
  | nil => rfl
  | cons c r =>
    show Str.mk ((r.map fun c => tx [c]).foldl (fun acc p => acc ++ Str.empty.cps ++ p.cps) [c].toArray) = _
    rw [go r [c]]
    rfl
end
section
variable {K : PySem.W.Frag} {te tl : TE} {tt : TT} {σ : L2.St} {H : Hp}
theorem ev_lenS {l : List Nat} (h : Ev te σ H (.str (tx l))) (hz : l.length ≤ 100000) : Ev (tCB (fun vs H Q => ∃ x n, vs = [x] ∧ LenV K x H n ∧ Q (.int n) H) (tCons te tNil)) σ H (.int (l.length : Nat)) := fun H1 e Q q =>
  h H1 e _ fun H2 e2 => ⟨.str (tx l), l.length, rfl, ⟨sz_of (by rw [tx_len]; exact hz), (tx_len l).symm⟩, q H2 e2⟩
theorem ev_chain {r r' : R2} {ta tb tc : TE} {x y z : V} {k b : Bool} (ha : Ev ta σ H x) (hb : Ev tb σ H y) (h1 : RV r x y H (.bl k)) (hc : k = true → Ev tc σ H z) (h2 : RV r' y z H (.bl b)) : Ev (tChain r r' ta tb tc) σ H (.bl (k && b)) := fun H1 e Q q =>
  ha H1 e _ fun H2 e2 => hb H2 (e.trans e2) _ fun H3 e3 => h1 H3 ((e.trans e2).trans e3) _ fun H4 e4 => ⟨k, rfl, by
    cases k with
    | true => exact hc rfl H4 (((e.trans e2).trans e3).trans e4) _ fun H5 e5 => h2 H5 ((((e.trans e2).trans e3).trans e4).trans e5) _ fun H6 e6 => q H6 ((((e2.trans e3).trans e4).trans e5).trans e6)
    | false => exact q H4 ((e2.trans e3).trans e4)⟩
theorem rv_inS {c : Nat} {z : List Nat} : RV rInS (.str (tx [c])) (.str (tx z)) H (.bl (decide (c ∈ z))) := rv_val fun H1 _ Q q => by
  show ∃ (d : Nat) (u : Str), V.str (tx [c]) = .str ⟨#[d]⟩ ∧ V.str (tx z) = .str u ∧ Q (.bl (decide (d ∈ u.cps.toList))) H1
  exact ⟨c, tx z, rfl, rfl, q⟩
theorem ev_isi {v : V} {n t : String} {b : Bool} (h : Ev te σ H v) (ty : TyX K H v (.type t)) (hm : ∀ H1, Ex H H1 → TyX K H1 v (.type t)) (hk : kitB t n = some b) : Ev (tCB (rIsi K) (tCons te (tCons (tC (V.ty n)) tNil))) σ H (.bl b) := fun H1 e Q q => h H1 e _ fun H2 e2 =>
  ⟨v, .ty n, .type t, .type n, b, rfl, .ty _, hm H2 (e.trans e2), kit_ty hk, q H2 e2⟩
theorem ev_ixQ {ta : TE} {a : Addr} {xs : List V} {v : V} {i : Nat} (h : Ev ta σ H (.ref a)) (hx : Ven.SqA K H a xs) (hi : xs[i]? = some v) : Ev (tOp (rIxQ K) ta (tC (.int (i : Nat)))) σ H v := fun H1 e Q q =>
  h H1 e _ fun H2 e2 => by
    have ha : atI xs (i : Int) = some v := at_of rfl hi
    rcases Ven.ex_a (e.trans e2) hx with hx | hx
    · exact .inl ⟨a, xs, _, v, rfl, rfl, hx, ha, q H2 e2⟩
    · exact .inr ⟨a, xs, _, v, rfl, rfl, hx, ha, q H2 e2⟩
theorem el_lcSt {ys : List Nat} {j : Nat} {vs : List Nat} (w : Nat → V) (h : Ev tl σ H (.str (tx ys))) (hz : ys.length ≤ 40000) (hw : ∀ x, wipe ((wipe σ vs).set j (some x)) vs = wipe σ vs)
    (he : ∀ (y : Nat) (H1 : Hp), Ex H H1 → y ∈ ys → Ev te ((wipe σ vs).set j (some (.str (tx [y])))) H1 (w y)) : EvL (tLc (iStr tl) (gName j) tYes te vs) σ H (ys.map w) := fun H0 e Q q => h H0 e _ fun H1 e1 => ⟨tx ys, rfl, fun Dl hD => by
  have hgm := Ve.given_map (ys := ys) (fun _ => true) w (fun i => match ys[i]? with | some y => true | none => false) (fun i => match ys[i]? with | some y => w y | none => .non) (fun i y hy => by rw [hy]; exact ⟨rfl, rfl⟩) ys.length (Nat.le_refl _)
  rw [List.take_length, List.filter_eq_self.mpr (fun _ _ => rfl)] at hgm
  refine lc_it walk_str (Cw H1 (fun i => match ys[i]? with | some y => true | none => false) (fun i => match ys[i]? with | some y => w y | none => .non) Dl) ⟨hD, Ex.new hD, upd_same⟩ (fun _ _ _ _ => trivial) ?_ ?_
  · rintro i x H2 H3 hi p ⟨rfl, c, hcc, rfl⟩
    have hi2 : ys[i]? = some c := by
      rw [← Array.getElem?_toList] at hcc
      exact hcc
    have hm := List.mem_of_getElem? hi2
    refine ⟨hw _, cw_turn (v := fun i => match ys[i]? with | some y => w y | none => .non) (f := fun i => match ys[i]? with | some y => true | none => false) p (by have := (List.getElem?_eq_some_iff.mp hi2).1; omega) ?_ ?_⟩
    · rw [hi2]
      exact Ve.et_yes
    · rw [hi2]
      exact fun _ => he c H1 (e.trans e1) hm
  · intro H' p
    refine q Dl H' (fresh_back e1 p.1) (e1.trans p.2.1) ?_
    have h2 := p.2.2
    have hs : (tx ys).cps.size = ys.length := rfl
    rw [hs, hgm] at h2
    exact h2⟩
end
/-! windows of a text that goes round -/
def wn (t : List Nat) (s k : Nat) : List Nat := (List.range s).map fun i => t.getD ((k + i) % t.length) 0
theorem wn_len (t : List Nat) (s k : Nat) : (wn t s k).length = s := by unfold wn; rw [List.length_map, List.length_range]
theorem wn_get {t : List Nat} {s k i : Nat} (h : i < s) : (wn t s k)[i]? = some (t.getD ((k + i) % t.length) 0) := by
  unfold wn
  rw [List.getElem?_map, List.getElem?_range h]
  rfl
theorem rp_get {t : List Nat} : ∀ (m i : Nat), i < m * t.length → (Vq.rp m t)[i]? = some (t.getD (i % t.length) 0)
  | 0, i, h => by omega
  | m + 1, i, h => by
    have e : Vq.rp (m + 1) t = t ++ Vq.rp m t := by unfold Vq.rp; rw [List.replicate_succ, List.flatten_cons]
    have ht : 0 < t.length := by
      rcases Nat.eq_zero_or_pos t.length with z | z
      · rw [z] at h; omega
      · exact z
    rw [e]
    by_cases hi : i < t.length
    · rw [List.getElem?_append_left hi, Nat.mod_eq_of_lt hi, List.getD_eq_getElem?_getD, List.getElem?_eq_getElem hi]
      rfl
    · rw [List.getElem?_append_right (by omega), rp_get m (i - t.length) (by rw [Nat.succ_mul] at h; omega)]
      congr 2
      have : i = i - t.length + t.length := by omega
      rw [this, Nat.add_mod_right, Nat.add_sub_cancel]
theorem rp_win {t : List Nat} {m s k : Nat} (h : k + s ≤ m * t.length) : ((Vq.rp m t).drop k).take s = wn t s k := by
  apply List.ext_getElem?
  intro i
  by_cases hi : i < s
  · rw [List.getElem?_take, if_pos hi, List.getElem?_drop, rp_get m (k + i) (by omega), wn_get hi]
  · rw [List.getElem?_take, if_neg hi, List.getElem?_eq_none (by rw [wn_len]; omega)]
/-- the windows in their order -/
def wns (t : List Nat) (s : Nat) : List (List Nat) := (List.range t.length).map (wn t s)
theorem wns_len (t : List Nat) (s : Nat) : (wns t s).length = t.length := by unfold wns; rw [List.length_map, List.length_range]
theorem wns_get {t : List Nat} {s k : Nat} (h : k < t.length) : (wns t s)[k]? = some (wn t s k) := by
  unfold wns
  rw [List.getElem?_map, List.getElem?_range h]
  rfl
/-- text begun elsewhere -/
def rt (t : List Nat) (k : Nat) : List Nat := t.drop k ++ t.take k
theorem rt_len {t : List Nat} {k : Nat} (h : k ≤ t.length) : (rt t k).length = t.length := by
  unfold rt
  rw [List.length_append, List.length_drop, List.length_take, Nat.min_eq_left h]
  omega
theorem rt_get {t : List Nat} {k i : Nat} (h : k ≤ t.length) (hi : i < t.length) : (rt t k).getD i 0 = t.getD ((i + k) % t.length) 0 := by
  unfold rt
  rw [List.getD_eq_getElem?_getD, List.getD_eq_getElem?_getD]
  by_cases h2 : i < t.length - k
  · rw [List.getElem?_append_left (by rw [List.length_drop]; exact h2), List.getElem?_drop, Nat.mod_eq_of_lt (by omega), Nat.add_comm]
  · rw [List.getElem?_append_right (by rw [List.length_drop]; omega), List.length_drop, List.getElem?_take, if_pos (by omega)]
    congr 2
    have : i + k = (i + k - t.length) + t.length := by omega
    rw [this, Nat.add_mod_right, Nat.mod_eq_of_lt (by omega)]
    omega
theorem wn_rt {t : List Nat} {s k j : Nat} (h : k ≤ t.length) (h1 : 1 ≤ t.length) : wn (rt t k) s j = wn t s ((j + k) % t.length) := by
  unfold wn
  rw [rt_len h]
  refine List.map_congr_left fun i _ => ?_
  rw [rt_get h (Nat.mod_lt _ h1), Nat.mod_add_mod, Nat.mod_add_mod]
  congr 2
  omega
theorem wns_mem {t : List Nat} {s : Nat} {w : List Nat} : w ∈ wns t s ↔ ∃ k, k < t.length ∧ w = wn t s k := by
  unfold wns
  rw [List.mem_map]
  constructor
  · rintro ⟨k, hk, rfl⟩
    exact ⟨k, List.mem_range.mp hk, rfl⟩
  · rintro ⟨k, hk, rfl⟩
    exact ⟨k, List.mem_range.mpr hk, rfl⟩
theorem rt_mem {t : List Nat} {s k : Nat} (h : k ≤ t.length) (h1 : 1 ≤ t.length) (w : List Nat) : w ∈ wns (rt t k) s ↔ w ∈ wns t s := by
  rw [wns_mem, wns_mem, rt_len h]
  constructor
  · rintro ⟨j, hj, rfl⟩
    exact ⟨(j + k) % t.length, Nat.mod_lt _ h1, wn_rt h h1⟩
  · rintro ⟨j, hj, rfl⟩
    refine ⟨(j + (t.length - k)) % t.length, Nat.mod_lt _ h1, ?_⟩
    rw [wn_rt h h1, Nat.mod_add_mod, show j + (t.length - k) + k = j + t.length by omega, Nat.add_mod_right, Nat.mod_eq_of_lt hj]
/-- first letters -/
theorem heads {t : List Nat} {s : Nat} (hs : 1 ≤ s) : (wns t s).map (fun w => w.getD 0 0) = t := by
  apply List.ext_getElem?
  intro i
  rw [List.getElem?_map]
  by_cases hi : i < t.length
  · rw [wns_get hi, Option.map_some, List.getD_eq_getElem?_getD, wn_get (show 0 < s by omega), Nat.add_zero, Nat.mod_eq_of_lt hi, List.getD_eq_getElem?_getD, List.getElem?_eq_getElem hi]
    rfl
  · rw [List.getElem?_eq_none (by rw [wns_len]; omega), List.getElem?_eq_none (by omega)]
    rfl
theorem wns_rt {t : List Nat} {s k : Nat} (h : k ≤ t.length) (h1 : 1 ≤ t.length) : wns (rt t k) s = (wns t s).drop k ++ (wns t s).take k := by
  apply List.ext_getElem?
  intro i
  by_cases hi : i < t.length
  · rw [wns_get (by rw [rt_len h]; exact hi), wn_rt h h1]
    by_cases h2 : i < t.length - k
    · rw [List.getElem?_append_left (by rw [List.length_drop, wns_len]; exact h2), List.getElem?_drop, wns_get (by omega), Nat.mod_eq_of_lt (by omega), Nat.add_comm]
    · rw [List.getElem?_append_right (by rw [List.length_drop, wns_len]; omega), List.length_drop, wns_len, List.getElem?_take, if_pos (by omega), wns_get (by omega)]
      congr 2
      have : i + k = (i + k - t.length) + t.length := by omega
      rw [this, Nat.add_mod_right, Nat.mod_eq_of_lt (by omega)]
      omega
  · rw [List.getElem?_eq_none (by rw [wns_len, rt_len h]; omega), List.getElem?_eq_none (by rw [List.length_append, List.length_drop, List.length_take, wns_len]; omega)]
/-- one window's end is the next one's start -/
theorem wn_next {t : List Nat} {s k : Nat} (hs : 1 ≤ s) : (wn t s k).drop 1 = (wn t s (k + 1)).take (s - 1) := by
  apply List.ext_getElem?
  intro i
  rw [List.getElem?_drop]
  by_cases hi : i < s - 1
  · rw [List.getElem?_take, if_pos hi, wn_get (by omega), wn_get (by omega)]
    congr 3
    omega
  · rw [List.getElem?_eq_none (by rw [wn_len]; omega), List.getElem?_take, if_neg hi]
theorem wn_mod {t : List Nat} {s k : Nat} : wn t s (k % t.length) = wn t s k := by
  unfold wn
  refine List.map_congr_left fun i _ => ?_
  rw [Nat.mod_add_mod]
theorem wn_mem {t : List Nat} {s k c : Nat} (h1 : 1 ≤ t.length) (h : c ∈ wn t s k) : c ∈ t := by
  unfold wn at h
  obtain ⟨i, _, rfl⟩ := List.mem_map.mp h
  exact getD_mem (Nat.mod_lt _ h1)
end Vtx

set_option Elab.async false
set_option linter.all false
set_option maxRecDepth 100000
set_option maxHeartbeats 2000000
/-! raise C(), C an own class without an own __init__. -/
namespace Vx2
open PySem PySem.Spec PyProof.Rows L2 Vl Evl
section
variable {X : Cx} {C : Addr} {bmB : List Value} {B newId initId : String} {x : Str} {p pos : Pos}
theorem pmk_own0 (F : ExcBaseFacts B newId initId bmB) (q : PySem.W.excIn X.K C bmB newId = true) (gC : X.mg x = some (.ref C)) (kC : PySem.W.keepIn X.K (.ref C) = true) (r : Raises X (.ref C)) (hg : Gl X x)
    (hdb : (x == ("__debug__" : Str)) = false := by decide) : PMk X (.Call (.Name x p) [] [] pos) (fun _ H Q => Q (.ref C) none H) := by
  intro pins s σ H Q I h
  refine wpAny_Call_Name_kw (ld_glob I hg gC ?_ hdb)
  refine PySem.W.callWith_K0 I.kIn kC ?_
  obtain ⟨bm, N, nm, qn, bs, hdct, sn, sub, ab, col, dd, k0, k1, k2, k3, k5, mN, hC, hN, hni, T⟩ := exc_obj I.kIn q
  refine wpAny_call_exc_subT F T hC hN hni (fun h' e hm => ?_) (by show 0 ≤ sizeLine; omega)
  exact mk_of I hm r h (I.hok.gone hm.new)
end
/-- what is asked of a class without an own __init__ to be raised -/
structure Err0 (K : PySem.W.Frag) (mg : Str → Option Value) (x : Str) (C : Addr) : Prop where
  q : PySem.W.excIn K C He.veBase "ValueError.__new__" = true
  exC : PySem.W.subIn K (.ref C) (.type "BaseException") = some true
  tyC : PySem.W.typeIn K (.ref C) = some (.type "type")
  kC : PySem.W.keepIn K (.ref C) = true
  g : mg x = some (.ref C)
theorem pmk_err0 {X : Cx} {C : Addr} {x : Str} {p pos : Pos} (h : Err0 X.K X.mg x C) (hg : Gl X x) (hdb : (x == ("__debug__" : Str)) = false := by decide) : PMk X (.Call (.Name x p) [] [] pos) (fun _ H Q => Q (.ref C) none H) :=
  pmk_own0 PySem.F.excBase_ValueError h.q h.g h.kC (raises_own h.exC h.tyC) hg hdb
end Vx2

set_option Elab.async false
set_option linter.all false
set_option maxRecDepth 100000
set_option maxHeartbeats 4000000
/-! Words of a size: _check_word. -/
namespace K58
open PySem PySem.Spec PyProof.Rows L2 Vl Evl Vp Vx2 Vlk Vda Vc Ve Ven Vlt Vtx
abbrev sCw : Stmt := top 38
abbrev nCw : List Str := ["word", "least", "most", "letter"]
/-- a word of so many letters -/
def okW (l : List Nat) (lo hi : Nat) : Bool := decide (lo ≤ l.length) && decide (l.length ≤ hi) && l.all fun c => decide (c ∈ letters)
/-- no text -/
def NoStr (K : PySem.W.Frag) (H : Hp) (y : V) : Prop := ∃ t : String, (∀ H', Ex H H' → TyX K H' y (.type t)) ∧ kitB t "str" = some false
theorem NoStr.mono {K : PySem.W.Frag} {H H' : Hp} {y : V} (h : NoStr K H y) (e : Ex H H') : NoStr K H' y := by
  obtain ⟨t, h1, h2⟩ := h
  exact ⟨t, fun H2 e2 => h1 H2 (e.trans e2), h2⟩
/-- no word of this size -/
def BadW (K : PySem.W.Frag) (H : Hp) (y : V) (lo hi : Nat) : Prop := (∃ l, y = .str (tx l) ∧ l.length ≤ 1000 ∧ okW l lo hi = false) ∨ NoStr K H y
theorem BadW.mono {K : PySem.W.Frag} {H H' : Hp} {y : V} {lo hi : Nat} (h : BadW K H y lo hi) (e : Ex H H') : BadW K H' y lo hi := h.imp id fun h => h.mono e
def spCkW (K : PySem.W.Frag) (BW : Addr) : Sp := fun vs H Q E => ∃ (y : V) (lo hi : Nat), vs = [y, .int (lo : Nat), .int (hi : Nat)] ∧ hi ≤ 1000 ∧
  ((∃ l, y = .str (tx l) ∧ okW l lo hi = true ∧ ∀ H', Ex H H' → Q .non H') ∨ (BadW K H y lo hi ∧ RaisedF BW "word" H y E))
section
variable {P : Program} {w : World} {K : PySem.W.Frag} {mg : Str → Option Value} {base : Heap} {BW : Addr}
theorem scCw : FnScope nCw ["word", "least", "most"] (defScope sCw) := ⟨rfl, rfl, rfl, by decide +kernel, rfl, by decide +kernel, by decide +kernel⟩
theorem ok_cw {f : Addr} {fd : FuncData} (F : FnP K "_check_word" sCw f fd) (EP : Err1 P w K mg base "BadWord" "word" BW) (mIsi : mg "isinstance" = none) (mStr : mg "str" = none) (mLen : mg "len" = none) (mAll : mg "all" = none)
    (gL : ∃ t, mg "LETTERS" = some (.str (tx letters) t)) :
    FnOk P w K mg base (L2.CX P w) 3 f fd ["word", "least", "most"] (spCkW K BW) := by
  obtain ⟨tL, gL⟩ := gL
  obtain ⟨fE, fdE, iC, tI, bE, GE⟩ := EP.ini
  refine F.ok (CX := L2.CX P w) scCw (fun vs H Q E h => ?_) (fun cdv A outer s H vs Q E hr h => ?_)
  · obtain ⟨y, lo, hi, rfl, _⟩ := h
    rfl
  · have hr2 : Room 2 _ := hr
    refine ⟨_, (pss_cons (ps_if (PW.pt (pw_or (pt_not (pt_val (pe_callB call_isi (by rfl) mIsi boot_isinstance (pa_cons (pv 0) (pa_cons (pe_bltn (v := V.ty "str") (by rfl) mStr boot_str rfl) pa_nil))))) (pw_or1 (pt_not (pt_chain op_le op_le (pv 1) (pe_callB call_len (by rfl) mLen boot_len (pa_cons (pv 0) pa_nil)) (pv 2)))))) (pss_one (ps_raise rfl (takes_of rfl rfl rfl rfl) (pmk_oex EP.T iC tI GE hr2 bE .nil pass0 (by rfl) EP.g (pa_cons (pv 0) pa_nil)))) pss_nil)
      (pss_one (ps_if (pt_not (pt_val (pe_callB (cr_all rfl) (by rfl) mAll boot_all (pa_cons (pe_lc (own := [("letter", 3)]) (g := (gName 3)) (tt := tYes) (te := (tOp rInS (tVar 3) (tC (.str (tx letters))))) rfl scCw.nd (pi_str (pv 0)) (blkOk_by (own := [("letter", 3)]) (N := nCw) (sc := defScope sCw) (by decide +kernel)) (fun _ _ _ _ _ => (pg_name (i := 3) scCw.nd rfl (by first | exact Or.inl rfl | exact Or.inr rfl))) (fun _ _ _ _ _ => pts_nil) (fun _ _ _ _ _ => (pe_cmpR op_inS (pv 3) (pe_glob (v := V.str (tx letters)) (by rfl) gL ⟨tL, rfl⟩) rfl))) pa_nil)))) (pss_one (ps_raise rfl (takes_of rfl rfl rfl rfl) (pmk_oex EP.T iC tI GE hr2 bE .nil pass0 (by rfl) EP.g (pa_cons (pv 0) pa_nil)))) pss_nil))), ?_⟩
    obtain ⟨y, lo, hi, rfl, hhi, h⟩ := h
    have h : (∃ l, y = .str (tx l) ∧ l.length ≤ 1000 ∧ ((okW l lo hi = true ∧ ∀ H', Ex H H' → Q .non H') ∨ (okW l lo hi = false ∧ RaisedF BW "word" H y E))) ∨ (NoStr K H y ∧ RaisedF BW "word" H y E) := by
      rcases h with ⟨l, rfl, hok, q⟩ | ⟨⟨l, rfl, hl, hb⟩ | hn, q⟩
      · refine .inl ⟨l, rfl, ?_, .inl ⟨hok, q⟩⟩
        unfold okW at hok
        rw [Bool.and_eq_true, Bool.and_eq_true, decide_eq_true_iff, decide_eq_true_iff] at hok
        omega
      · exact .inl ⟨l, rfl, hl, .inr ⟨hb, q⟩⟩
      · exact .inr ⟨hn, q⟩
    refine s_seq ?_
    rcases h with ⟨l, rfl, hl, h⟩ | ⟨⟨t, ht, hk⟩, q⟩
    · refine s_when (et_or (et_not (et_B (ev_isi (b := true) (ev_var rfl) (.base (.str _)) (fun _ _ => .base (.str _)) (by decide +kernel)))) (fun _ => et_not (et_test (ev_chain (ev_var rfl) (ev_lenS (ev_var rfl) (by omega)) rv_I0 (fun _ => ev_var rfl) rv_I0)))) (fun hc H1 e1 => ?_) (fun hc H1 e1 => ?_)
      · rcases h with ⟨ok, _⟩ | ⟨_, q⟩
        · exfalso
          unfold okW at ok
          rw [Bool.and_eq_true, Bool.and_eq_true, decide_eq_true_iff, decide_eq_true_iff] at ok
          rw [decide_eq_true (show (lo : Int) ≤ (l.length : Nat) by omega), decide_eq_true (show ((l.length : Nat) : Int) ≤ (hi : Nat) by omega)] at hc
          exact absurd hc (by decide)
        · exact raised_f (W := fun cls d _ H' => E cls d H') 0 rfl rfl (RaisedF.grow q e1)
      · dsimp only
        have h1 : lo ≤ l.length ∧ l.length ≤ hi := by
          simp only [Bool.not_true, Bool.false_or, Bool.not_eq_false', Bool.and_eq_true, decide_eq_true_iff] at hc
          omega
        have hok : okW l lo hi = l.all fun c => decide (c ∈ letters) := by
          unfold okW
          rw [decide_eq_true h1.1, decide_eq_true h1.2]
          rfl
        refine s_when (b := !(l.all fun c => decide (c ∈ letters))) (et_not (et_B (ev_is (ev_all (bs := l.map fun c => decide (c ∈ letters)) (by
          rw [List.map_map]
          exact el_lcSt (H := H1) (σ := [some (.str (tx l)), some (.int (lo : Nat)), some (.int (hi : Nat)), none]) (tl := tVar 0) (j := 3) (vs := [3]) (te := tOp rInS (tVar 3) (tC (.str (tx letters)))) (ys := l) (fun c => V.bl (decide (c ∈ letters))) (ev_var rfl) (by omega) (fun _ => rfl) (fun c H2 e2 hm => ev_op (ev_var rfl) ev_c rv_inS))) (by rw [List.all_map]; rfl)))) (fun hb H2 e2 => ?_) (fun hb H2 e2 => ?_)
        · rcases h with ⟨ok, _⟩ | ⟨_, q⟩
          · rw [hok] at ok
            rw [ok] at hb
            cases hb
          · exact raised_f (W := fun cls d _ H' => E cls d H') 0 rfl rfl (RaisedF.grow q (e1.trans e2))
        · rcases h with ⟨_, q⟩ | ⟨no, _⟩
          · exact q H2 (e1.trans e2)
          · rw [hok] at no
            rw [no] at hb
            cases hb
    · refine s_when (b := true) (et_is (et_or (et_not (et_B (ev_isi (b := false) (ev_var rfl) (ht _ (Ex.refl _)) (fun H1 e1 => ht H1 e1) hk))) (b := true) (fun z => by cases z)) rfl) (fun _ H1 e1 => ?_) (fun z => by cases z)
      exact raised_f (W := fun cls d _ H' => E cls d H') 0 rfl rfl (RaisedF.grow q e1)
end
end K58

set_option Elab.async false
set_option linter.all false
set_option maxRecDepth 100000
set_option maxHeartbeats 4000000
/-! Words of one size: _check_words. -/
namespace K58
open PySem PySem.Spec PyProof.Rows L2 Vl Evl Vp Vx2 Vlk Vda Vc Ve Ven Vlt Vtx
abbrev sCs : Stmt := top 37
abbrev nCs : List Str := ["words", "word"]
/-- windows of one size -/
def Wins (ws : List (List Nat)) (s : Nat) : Prop := ∀ l ∈ ws, okW l 2 8 = true ∧ l.length = s
/-- the first that is none: y, behind the windows ws -/
def BadAt (K : PySem.W.Frag) (H : Hp) (ws : List (List Nat)) (s : Nat) (y : V) : Prop := BadW K H y 2 8 ∨ ∃ l, y = .str (tx l) ∧ okW l 2 8 = true ∧ 0 < ws.length ∧ l.length ≠ s
theorem BadAt.mono {K : PySem.W.Frag} {H H' : Hp} {ws : List (List Nat)} {s : Nat} {y : V} (h : BadAt K H ws s y) (e : Ex H H') : BadAt K H' ws s y := h.imp (fun h => h.mono e) id
/-- a sequence that is refused, by E -/
def RefW (K : PySem.W.Frag) (BW EW : Addr) (H : Hp) (xs : List V) (E : XK) : Prop :=
  (xs = [] ∧ ∀ H', Ex H H' → E (.ref EW) none H') ∨ ∃ ws s y r, xs = vtx ws ++ y :: r ∧ Wins ws s ∧ BadAt K H ws s y ∧ RaisedF BW "word" H y E
def spCkS (K : PySem.W.Frag) (BW EW : Addr) : Sp := fun vs H Q E => ∃ (t : Addr) (xs : List V), vs = [.ref t] ∧ SqA K H t xs ∧ xs.length ≤ 1000 ∧
  ((∃ ws s, xs = vtx ws ∧ ws ≠ [] ∧ Wins ws s ∧ ∀ H', Ex H H' → Q .non H') ∨ RefW K BW EW H xs E)
theorem RefW.grow {K : PySem.W.Frag} {BW EW : Addr} {H H' : Hp} {xs : List V} {E : XK} (h : RefW K BW EW H xs E) (e : Ex H H') : RefW K BW EW H' xs E := by
  rcases h with ⟨h1, h2⟩ | ⟨ws, s, y, r, h1, h2, h3, h4⟩
  · exact .inl ⟨h1, fun H2 e2 => h2 H2 (e.trans e2)⟩
  · exact .inr ⟨ws, s, y, r, h1, h2, h3.mono e, RaisedF.grow h4 e⟩
theorem s_call {sp : Sp} {E : L2.St → XK} {ta : TA} {vs : List V} {D : Ends} {σ : L2.St} {H : Hp} (h : EvA ta σ H vs) (k : ∀ H1, Ex H H1 → sp vs H1 (fun _ H2 => D.nx σ H2) (E σ)) : tDrop (Vc.tFu sp E ta) D σ H := h H (Ex.refl H) _ k
section
variable {P : Program} {w : World} {K : PySem.W.Frag} {mg : Str → Option Value} {base : Heap} {BW EW : Addr}
theorem scCs : FnScope nCs ["words"] (defScope sCs) := ⟨rfl, rfl, rfl, by decide +kernel, rfl, by decide +kernel, by decide +kernel⟩
theorem ok_cs {f : Addr} {fd : FuncData} (F : FnP K "_check_words" sCs f fd) (TCw : Fu P w K mg base (L2.CX P w) 3 "_check_word" (spCkW K BW)) (EP : Err1 P w K mg base "BadWord" "word" BW) (E0 : Err0 K mg "EmptyWalk" EW) (mLen : mg "len" = none)
    (gS : ∃ t, mg "SHORTEST_WINDOW" = some (.int 2 t)) (gO : ∃ t, mg "LONGEST_WINDOW" = some (.int 8 t)) :
    FnOk P w K mg base (L2.CX P w) 4 f fd ["words"] (spCkS K BW EW) := by
  obtain ⟨tS, gS⟩ := gS
  obtain ⟨tO, gO⟩ := gO
  obtain ⟨fE, fdE, iC, tI, bE, GE⟩ := EP.ini
  refine F.ok (CX := L2.CX P w) scCs (fun vs H Q E h => ?_) (fun cdv A outer s H vs Q E hr h => ?_)
  · obtain ⟨t, xs, rfl, _⟩ := h
    rfl
  · have hr2 : Room 2 _ := hr.mono (by omega)
    refine ⟨_, (pss_cons (ps_if (pt_cmpR op_eq (pe_callB call_len (by rfl) mLen boot_len (pa_cons (pv 0) pa_nil)) pe_int (nomark _)) (pss_one (ps_raise rfl (takes_of rfl rfl rfl rfl) (pmk_err0 E0 (by rfl)))) pss_nil)
      (pss_one (ps_for (passes_of rfl) rfl (pi_seqA (pv 0)) (pg_name (i := 1) scCs.nd rfl (by first | exact Or.inl rfl | exact Or.inr rfl)) (pss_cons (ps_expr (pe_fuX (E := WE fun cls d _ H => E cls d H) TCw hr (by rfl) (fun st => passAt (takes_of rfl rfl rfl rfl) st) (pa_cons (pv 1) (pa_cons (pe_glob (v := V.int 2) (by rfl) gS ⟨tS, rfl⟩) (pa_cons (pe_glob (v := V.int 8) (by rfl) gO ⟨tO, rfl⟩) pa_nil)))))
      (pss_one (ps_if (pt_cmpR op_ne (pe_callB call_len (by rfl) mLen boot_len (pa_cons (pv 1) pa_nil)) (pe_callB call_len (by rfl) mLen boot_len (pa_cons (pe_ix Vtx.ix_seq (pv 0) pe_int fun _ _ => rfl) pa_nil)) (nomark _)) (pss_one (ps_raise rfl (takes_of rfl rfl rfl rfl) (pmk_oex EP.T iC tI GE hr2 bE .nil pass0 (by rfl) EP.g (pa_cons (pv 1) pa_nil)))) pss_nil)))))), ?_⟩
    obtain ⟨t, xs, rfl, ht, hl, h⟩ := h
    refine s_seq ?_
    by_cases h0 : xs = []
    · refine s_when (b := true) (et_test (ev_is (ev_op (ev_lenQ (ev_var rfl) ht) ev_c (rv_eq rfl)) (by rw [h0]; rfl))) (fun _ H1 e1 => ?_) (fun z => by cases z)
      rcases h with ⟨ws, s, rfl, hn, _⟩ | ⟨_, q⟩ | ⟨ws, s, y, r, rfl, _⟩
      · exact absurd (List.map_eq_nil_iff.mp h0) hn
      · exact q H1 e1
      · exact absurd h0 (by simp)
    refine s_when (b := false) (et_test (ev_is (ev_op (ev_lenQ (ev_var rfl) ht) ev_c (rv_eq rfl)) (by
        rw [decide_eq_false]
        intro z
        exact h0 (List.eq_nil_of_length_eq_zero (by have := V.int.inj z; omega))))) (fun z => by cases z) (fun _ H1 e1 => ?_)
    dsimp only
    have h : ∃ ws s r, xs = vtx ws ++ r ∧ Wins ws s ∧ ((r = [] ∧ ∀ H', Ex H H' → Q .non H') ∨ ∃ y r', r = y :: r' ∧ BadAt K H ws s y ∧ RaisedF BW "word" H y E) := by
      rcases h with ⟨ws, s, h1, hn, hw, q⟩ | ⟨h1, _⟩ | ⟨ws, s, y, r, h1, hw, hb, q⟩
      · exact ⟨ws, s, [], by rw [h1, List.append_nil], hw, .inl ⟨rfl, q⟩⟩
      · exact absurd h1 h0
      · exact ⟨ws, s, y :: r, h1, hw, .inr ⟨y, r, rfl, hb, q⟩⟩
    obtain ⟨ws, s, r, rfl, hw, h⟩ := h
    have hx0 : ∀ (H2 : Hp) (t1 : Option V), Ex H H2 → 0 < ws.length → Ev (tCB (fun xs H Q => ∃ x n, xs = [x] ∧ LenV K x H n ∧ Q (.int n) H) (tCons (tOp (rIxQ K) (tVar 0) (tC (.int 0))) tNil)) [some (.ref t), t1] H2 (.int (s : Nat)) := fun H2 t1 e2 hlen => by
      have g0 : ws[0]? = some (ws[0]) := List.getElem?_eq_getElem hlen
      obtain ⟨ok, hs⟩ := hw _ (List.mem_of_getElem? g0)
      refine ev_is (ev_lenS (l := ws[0]) (ev_ixQ (i := 0) (ev_var rfl) (ex_a e2 ht) ?_) ?_) (by rw [hs])
      · rw [List.getElem?_append_left (by rw [vtx_len]; exact hlen)]
        exact vtx_at g0
      · unfold okW at ok
        rw [Bool.and_eq_true, Bool.and_eq_true, decide_eq_true_iff, decide_eq_true_iff] at ok
        omega
    refine s_forSq (a := t) (xs := vtx ws ++ r) (ev_var rfl) (ex_a e1 ht) (fun i st H' => ∃ t1, st = [some (.ref t), t1] ∧ Ex H1 H' ∧ i ≤ ws.length) (fun H2 e2 => ⟨none, rfl, e2, Nat.zero_le _⟩) (fun i st H' ⟨_, _, e, _⟩ => e) ?_ ?_
    · rintro i x st H2 hx ⟨t1, rfl, e2, hi⟩
      have e12 := e1.trans e2
      show tSeq _ _ _ [some (.ref t), some x] H2
      refine s_seq ?_
      refine s_call (ea_cons (ev_var rfl) (ea_cons ev_c (ea_cons ev_c ea_nil))) fun H3 e3 => ⟨x, 2, 8, rfl, by omega, ?_⟩
      have e13 := e12.trans e3
      by_cases hlt : i < ws.length
      · rw [List.getElem?_append_left (by rw [vtx_len]; exact hlt)] at hx
        unfold vtx at hx
        rw [List.getElem?_map] at hx
        obtain ⟨l, hl2, rfl⟩ := Option.map_eq_some_iff.mp hx
        obtain ⟨ok, hs⟩ := hw _ (List.mem_of_getElem? hl2)
        have hll : l.length ≤ 8 := by
          unfold okW at ok
          rw [Bool.and_eq_true, Bool.and_eq_true, decide_eq_true_iff, decide_eq_true_iff] at ok
          omega
        refine .inl ⟨l, rfl, ok, fun H4 e4 => ?_⟩
        dsimp only
        refine s_when (b := false) (et_test (ev_is (ev_op (ev_lenS (l := l) (ev_var (i := 1) rfl) (by omega)) (hx0 H4 _ (e13.trans e4) (by omega)) (rv_ne rfl)) (by rw [hs]; simp))) (fun z => by cases z) (fun _ H5 e5 => ?_)
        exact ⟨_, rfl, (((e2.trans e3).trans e4).trans e5), hlt⟩
      · have hiw : i = ws.length := by omega
        subst hiw
        rw [List.getElem?_append_right (by rw [vtx_len]; exact Nat.le_refl _), vtx_len, Nat.sub_self] at hx
        rcases h with ⟨rfl, _⟩ | ⟨y, r', rfl, hb, q⟩
        · cases hx
        · obtain rfl := Option.some.inj hx
          rcases hb with hb | ⟨l, rfl, ok, h0l, hne⟩
          · exact .inr ⟨hb.mono e13, RaisedF.grow q e13⟩
          · have hll : l.length ≤ 8 := by
              unfold okW at ok
              rw [Bool.and_eq_true, Bool.and_eq_true, decide_eq_true_iff, decide_eq_true_iff] at ok
              omega
            refine .inl ⟨l, rfl, ok, fun H4 e4 => ?_⟩
            dsimp only
            refine s_when (b := true) (et_test (ev_is (ev_op (ev_lenS (l := l) (ev_var (i := 1) rfl) (by omega)) (hx0 H4 _ (e13.trans e4) h0l) (rv_ne rfl)) (by
              rw [decide_eq_false]
              · rfl
              · intro z
                exact hne (by have := V.int.inj z; omega)))) (fun _ H5 e5 => ?_) (fun z => by cases z)
            exact raised_f (W := fun cls d _ H' => E cls d H') 1 rfl rfl (RaisedF.grow q ((e13.trans e4).trans e5))
    · rintro st H2 ⟨t1, rfl, e2, hi⟩
      rw [List.length_append, vtx_len] at hi
      rcases h with ⟨rfl, q⟩ | ⟨y, r', rfl, _⟩
      · exact q H2 (e1.trans e2)
      · rw [List.length_cons] at hi
        omega
end
end K58

set_option Elab.async false
set_option linter.all false
set_option maxRecDepth 100000
set_option maxHeartbeats 2000000
/-! set(xs) and sorted(set) where the members are texts: any kind of key whose value tells it. -/
namespace Vst
open PySem PySem.Spec PyProof.Rows L2
section
variable {κ : Type} [DecidableEq κ] {P : Program} {w : World}
/-- the key that a row of the table holds -/
def kof (f : Value → κ) (e : Int × Value) : κ := f e.2
/-- a set's object, walkable: S its members, n their number -/
structure Tab (knd : PySem.KeyKind P w κ) (f : Value → κ) (a : Addr) (S : κ → Bool) (o : Obj) (es : Array (Int × Value)) (ep : Nat) (t : SetTable) : Prop where
  ex : o.ExactSet
  dat : o.data = .set es ep t
  el : ElemsOf knd es.toList
  nd : (es.toList.map (kof f)).Nodup
  mem : ∀ k, S k = true ↔ k ∈ es.toList.map (kof f)
  few : es.size < scanBound
  fits : t.fits es.size = true
  ris : Ris t.place.toList
  led : w.params.followText "set-order" = true ∨ t.led = true
def SetG (knd : PySem.KeyKind P w κ) (f : Value → κ) (h : Heap) (a : Addr) (S : κ → Bool) (n : Nat) : Prop :=
  ∃ o es ep t, h.get? a = some o ∧ Tab knd f a S o es ep t ∧ es.size = n
variable {knd : PySem.KeyKind P w κ} {f : Value → κ} {h h' : Heap} {a : Addr} {S : κ → Bool} {n : Nat}
theorem SetG.keep (R : SetG knd f h a S n) (k : ∀ o, h.get? a = some o → h'.get? a = some o) : SetG knd f h' a S n := by
  obtain ⟨o, es, ep, t, ho, r⟩ := R
  exact ⟨o, es, ep, t, k o ho, r⟩
theorem SetG.congr {S' : κ → Bool} {n' : Nat} (R : SetG knd f h a S n) (e : ∀ k, S k = S' k) (en : n = n') : SetG knd f h a S' n' := by
  have q : S = S' := funext e
  rw [← q, ← en]; exact R
theorem mem_kof (hf : ∀ k v, knd.is k v = true → f v = k) {l : List (Int × Value)} (g : ElemsOf knd l) (k : κ) : k ∈ l.map (kof f) ↔ ∃ e ∈ l, knd.is k e.2 = true := by
  rw [List.mem_map]
  constructor
  · rintro ⟨e, he, q⟩
    obtain ⟨⟨k0, h1, _⟩, _⟩ := g e he
    refine ⟨e, he, ?_⟩
    have e0 : k0 = k := (hf k0 _ h1).symm.trans q
    rw [← e0]
    exact h1
  · rintro ⟨e, he, q⟩
    exact ⟨e, he, hf k _ q⟩
end
section
variable {κ : Type} [DecidableEq κ] {P : Program} {w : World} {A : Around} {E : Value → Shared → Prop} {s : Shared} {a : Addr} {S : κ → Bool} {n : Nat} {knd : PySem.KeyKind P w κ} {f : Value → κ}
theorem put_at {h : Heap} {o : Obj} {es es1 : Array (Int × Value)} {ep : Nat} {t t1 : SetTable} (ho : h.get? a = some o) (hd : o.data = .set es ep t) :
    (h.update a (Obj.putSet es1 t1)).get? a = some { o with data := .set es1 (ep + 1) t1 } := by
  have q := Heap.get?_update_self (Obj.putSet es1 t1) ho (by rw [putSet_of es1 t1 hd]; rfl)
  rwa [putSet_of es1 t1 hd] at q
/-- the new table laid, and laid wider where it is too full -/
theorem laid_tail {g : Bool → Sem Unit} (hg : ∀ (b : Bool) (s₁ : Shared) (Q' : Unit → Shared → Prop), Q' () s₁ → wpAny (model P w) A (g b) Q' E s₁)
    {o : Obj} {es : Array (Int × Value)} {ep : Nat} {t : SetTable} (ho : s.heap.get? a = some o) (hd : o.data = .set es ep t)
    {es1 : Array (Int × Value)} {t2 : SetTable} {S' : κ → Bool} (T : ∀ o1 ep1, o1.ExactSet → o1.data = .set es1 ep1 t2 → Tab knd f a S' o1 es1 ep1 t2) (hex : o.ExactSet) {wasDummy : Bool} {R : Option Bool → Shared → Prop}
    (hR : ∀ h', Heap.SameBut a s.heap h' → SetG knd f h' a S' es1.size → R (some true) { s with heap := h' }) :
    wpAny (model P w) A (do
        storeSet a es1 t2
        if (!wasDummy && t2.tooFull) = true then do
            g (relayAll t2 es1 (SetTable.grown es1.size)).2.2
            storeSet a (relayAll t2 es1 (SetTable.grown es1.size)).1 (relayAll t2 es1 (SetTable.grown es1.size)).2.1
            pure (some true)
          else pure (some true)) R E s := by
  have T1 := T { o with data := .set es1 (ep + 1) t2 } (ep + 1) hex rfl
  refine wpAny_bind (wpAny_storeSet_of ho hd ?_ (fits_of_scanBound T1.few))
  have ho1 := put_at (es1 := es1) (t1 := t2) ho hd
  have sb1 := Heap.SameBut.update s.heap a (Obj.putSet es1 t2)
  split
  · have pm := relayAll_perm t2 es1 (SetTable.grown es1.size)
    have hf3 := relayAll_fits t2 es1 (SetTable.grown es1.size)
    have hr3 := relayAll_ris t2 es1 (SetTable.grown es1.size)
    have hl3 := relayAll_led t2 es1 (SetTable.grown es1.size)
    generalize relayAll t2 es1 (SetTable.grown es1.size) = Z at pm hf3 hr3 hl3 ⊢
    obtain ⟨es2, t3, gave⟩ := Z
    dsimp only at pm hf3 hr3 hl3 ⊢
    have hsz : es2.size = es1.size := by rw [← Array.length_toList, pm.length_eq, Array.length_toList]
    have hb2 : es2.size < scanBound := by rw [hsz]; exact T1.few
    refine wpAny_bind (hg _ _ _ ?_)
    refine wpAny_bind (wpAny_storeSet_of ho1 rfl ?_ (fits_of_scanBound hb2))
    refine wpAny_pure (hR _ (sb1.trans (Heap.SameBut.update _ a _)) ⟨_, es2, ep + 1 + 1, t3, put_at (es1 := es2) (t1 := t3) ho1 rfl, ?_, hsz⟩)
    exact { ex := hex, dat := rfl, el := fun e he => T1.el e (pm.mem_iff.mp he), nd := (pm.map (kof f)).nodup_iff.mpr T1.nd, mem := fun k => (T1.mem k).trans (pm.map (kof f)).mem_iff.symm,
            few := hb2, fits := hf3, ris := hr3, led := T1.led.imp id fun z => by rw [hl3]; exact z }
  · exact wpAny_pure (hR _ sb1 ⟨_, es1, _, t2, ho1, T1, rfl⟩)

theorem add_hashed (hf : ∀ k v, knd.is k v = true → f v = k) {k : κ} {v : Value} (hkey : knd.is k v = true) (hsc : v.scannable = true) {Q : Bool → Shared → Prop} (R : SetG knd f s.heap a S n) (room : n + 1 < scanBound)
    (hQ : ∀ h', Heap.SameBut a s.heap h' → SetG knd f h' a (fun j => S j || decide (j = k)) (if S k = true then n else n + 1) → Q (!S k) { s with heap := h' }) :
    wpAny (model P w) A (setAddHashed a v (knd.hash k)) Q E s := by
  obtain ⟨o, es, ep, t, ho, T, hn⟩ := R
  have hd := T.dat
  have hel := T.el
  have hb := T.few
  have hft := T.fits
  unfold setAddHashed setAddHashedIn
  refine wpAny_holding (wpAny_bind (wpAny_setState_of ho hd hft ?_))
  dsimp only
  rw [byScan_of hsc hb hel]
  simp only [↓reduceIte]
  unfold setAddByScan
  refine wpAny_bind ?_
  refine wpAny_bind (wpAny_rule ?_)
  refine wpAny_bind (wpAny_setScan_of hkey ho hd hft hel ?_)
  cases hfi : List.findIdx? (fun e => knd.is k e.2) es.toList with
  | some j =>
    dsimp only
    obtain ⟨hj, pj, _⟩ := List.findIdx?_eq_some_iff_getElem.mp hfi
    have hSk : S k = true := (T.mem k).2 ((mem_kof hf hel k).2 ⟨es.toList[j], List.getElem_mem hj, pj⟩)
    refine wpAny_pure (wpAny_pure ?_)
    have q := hQ s.heap (Heap.SameBut.refl a s.heap) (SetG.congr ⟨o, es, ep, t, ho, T, hn⟩ (fun i => ?_) (by rw [if_pos hSk]))
    · rw [hSk] at q
      exact q
    · by_cases hi : i = k
      · rw [hi, hSk]; rfl
      · rw [decide_eq_false hi, Bool.or_false]
  | none =>
    dsimp only
    have hnk : k ∉ es.toList.map (kof f) := fun z => by
      obtain ⟨e, he, q⟩ := (mem_kof hf hel k).1 z
      have c := List.findIdx?_eq_none_iff.mp hfi e he
      rw [q] at c
      cases c
    have hSk : S k = false := by
      cases q : S k with
      | false => rfl
      | true => exact absurd ((T.mem k).1 q) hnk
    have hgw : ∀ (b : Bool) {s₁ : Shared} {Q' : Unit → Shared → Prop}, Q' () s₁ → wpAny (model P w) A (match b with | true => rule "set.scan.the-table-gave-way" | false => pure ()) Q' E s₁ :=
      fun b s₁ Q' q => by cases b <;> first | exact wpAny_pure q | exact wpAny_rule q
    have pm := layNew_perm t es (knd.hash k) v
    have hf1 := layNew_fits t es (knd.hash k) v
    have hr1 := layNew_ris t es (knd.hash k) v T.ris
    have hl1 := layNew_led t es (knd.hash k) v
    generalize layNew t es (knd.hash k) v = Z at pm hf1 hr1 hl1 ⊢
    obtain ⟨es1, t1, wasDummy, gave⟩ := Z
    dsimp only at pm hf1 hr1 hl1 ⊢
    rw [Array.toList_push] at pm
    have pc : es1.toList.Perm ((knd.hash k, v) :: es.toList) := pm.trans (List.perm_append_singleton _ _)
    have fk : kof f (knd.hash k, v) = k := hf k v hkey
    have pk : (es1.toList.map (kof f)).Perm (k :: es.toList.map (kof f)) := by
      have q := pc.map (kof f)
      rw [List.map_cons, fk] at q
      exact q
    have hsz : es1.size = n + 1 := by rw [← Array.length_toList, pc.length_eq, List.length_cons, Array.length_toList, hn]
    have Tn : ∀ t2 : SetTable, t2.fits es1.size = true → Ris t2.place.toList → t2.led = t.led → ∀ o1 ep1, o1.ExactSet → o1.data = .set es1 ep1 t2 → Tab knd f a (fun j => S j || decide (j = k)) o1 es1 ep1 t2 := fun t2 x1 x2 x3 o1 ep1 y1 y2 =>
      { ex := y1, dat := y2
        el := fun e he => by
          rcases List.mem_cons.mp (pc.mem_iff.mp he) with z | z
          · rw [z]; exact ⟨⟨k, hkey, rfl⟩, hsc⟩
          · exact hel e z
        nd := pk.nodup_iff.mpr (List.nodup_cons.mpr ⟨hnk, T.nd⟩)
        mem := fun i => by
          rw [Bool.or_eq_true, decide_eq_true_eq, T.mem i, pk.mem_iff, List.mem_cons]
          exact Or.comm
        few := by rw [hsz]; exact room
        fits := x1, ris := x2, led := T.led.imp id fun z => by rw [x3]; exact z }
    have fin : ∀ h', Heap.SameBut a s.heap h' → SetG knd f h' a (fun j => S j || decide (j = k)) es1.size → Q true { s with heap := h' } := fun h' sb r => by
      have q := hQ h' sb
      rw [hSk] at q
      rw [hsz] at r
      exact q r
    refine wpAny_bind (hgw _ ?_)
    split
    · refine wpAny_bind ?_
      rw [hashByValue_scannable 8 hsc]
      refine wpAny_pure ?_
      refine laid_tail ?_ ho hd (Tn _ ?_ ?_ ?_) T.ex ?_
      · intro b s₁ Q' q; cases b <;> first | exact wpAny_pure q | exact wpAny_rule q
      · first | (split <;> first | exact hf1 | exact SetTable.fits_plain_off hf1) | exact hf1
      · first | (split <;> exact hr1) | exact hr1
      · first | (split <;> exact hl1) | exact hl1
      · intro h' sb r; dsimp only; exact wpAny_pure (fin h' sb r)
    · refine wpAny_bind (wpAny_pure ?_)
      simp only [↓reduceIte]
      refine laid_tail ?_ ho hd (Tn _ hf1 hr1 hl1) T.ex ?_
      · intro b s₁ Q' q; cases b <;> first | exact wpAny_pure q | exact wpAny_rule q
      · intro h' sb r; dsimp only; exact wpAny_pure (fin h' sb r)
end
/-! ### texts -/
def strV : Value → Str
  | .str x _ => x
  | _ => Str.empty
theorem strV_is {P : Program} {w : World} (k : Str) (v : Value) (h : (PySem.strKind P w).is k v = true) : strV v = k := by
  obtain ⟨t, rfl⟩ := Value.isStrOf_shape h
  rfl
abbrev SetS (P : Program) (w : World) (h : Heap) (a : Addr) (S : Str → Bool) (n : Nat) : Prop := SetG (PySem.strKind P w) strV h a S n
section
variable {P : Program} {w : World} {A : Around} {E : Value → Shared → Prop} {s : Shared}
theorem led_fresh (w : World) : w.params.followText "set-order" = true ∨ (SetTable.fresh 0 0 (!w.params.followText "set-order")).led = true := by
  show _ ∨ (!w.params.followText "set-order") = true
  cases w.params.followText "set-order"
  · exact .inr rfl
  · exact .inl rfl
theorem setS_fresh {h : Heap} {a : Addr} (ho : h.get? a = some { cls := .type "set", dict := none, data := .set #[] 0 (.fresh 0 0 (!w.params.followText "set-order")) }) : SetS P w h a (fun _ => false) 0 :=
  ⟨_, #[], 0, SetTable.fresh 0 0 (!w.params.followText "set-order"), ho, { ex := ⟨rfl, rfl, rfl⟩, dat := rfl, el := fun e he => by simp at he, nd := by simp, mem := fun k => by simp, few := by decide, fits := by rfl, ris := List.Pairwise.nil, led := led_fresh w }, rfl⟩
/-- how many different ones -/
def diff : List Str → Nat
  | [] => 0
  | x :: r => if x ∈ r then diff r else diff r + 1
theorem take_more {α : Type} {l : List α} {i : Nat} {x : α} (h : l[i]? = some x) : l.take (i + 1) = l.take i ++ [x] := by
  rw [List.take_succ, h]
  rfl
def seen (xs : List Str) (i : Nat) (k : Str) : Bool := decide (k ∈ xs.take i)
/-- set.update's loop over texts -/
theorem upd_loop {I : Addr} {fp wr : List Addr} {G : Array GenState → Array GenState → Prop} {n : Nat} {Pv : Nat → Value → Prop} {St : Nat → Shared → Prop} {R : Result → Shared → Prop}
    (W : WalksS P w A.in1 I fp wr G n Pv St) (S : Addr) (hSf : S ∉ fp) (xs : List Str) (hn : xs.length = n) (hfew : n + 1 < scanBound) (hval : ∀ i v, Pv i v → ∃ x t, xs[i]? = some x ∧ v = .str x t) :
    ∀ (k i : Nat) (s : Shared), n - i = k → i ≤ n → St i s → (∃ m, m ≤ i ∧ SetS P w s.heap S (seen xs i) m) →
      (∀ s' m, m ≤ n → Moved (S :: wr) G s s' → SetS P w s'.heap S (seen xs n) m → R (.ok (.ret .none)) s') →
      codeAny (model P w) A (.builtin "set.update.loop" ⟨[.ref S, .ref I], []⟩) R s := by
  have hSw : S ∉ wr := fun h => hSf (W.sub _ h)
  have hsub : ∀ b ∈ wr, b ∈ S :: wr := fun b hb => List.mem_cons_of_mem _ hb
  intro k
  induction k with
  | zero =>
    intro i s hk hi hst ⟨m, hm, hS⟩ hR
    have hin : i = n := by omega
    subst hin
    refine codeAny_builtin F.entry_set_update_loop ?_
    rw [Around.under_plainId F.plain_set_update_loop _]
    show wpAny _ A.in1 (pyNext (.ref I) >>= _) _ _ s
    refine wpAny_bind (W.done s _ _ hst fun s' mv => ?_)
    show wpAny _ A.in1 (ret Value.none) _ _ s'
    exact wpAny_pure (hR s' m hm (mv.mono hsub) (hS.keep fun o e => mv.heap S o hSw e))
  | succ k ih =>
    intro i s hk hi hst ⟨m, hm, hS⟩ hR
    have hlt : i < n := by omega
    refine codeAny_builtin F.entry_set_update_loop ?_
    rw [Around.under_plainId F.plain_set_update_loop _]
    show wpAny _ A.in1 (pyNext (.ref I) >>= _) _ _ s
    refine wpAny_bind (W.item i s _ _ hlt hst fun v s' hP hst' mv => ?_)
    obtain ⟨x, tk, hx, rfl⟩ := hval i v hP
    have hS' : SetS P w s'.heap S (seen xs i) m := hS.keep fun o e => mv.heap S o hSw e
    show wpAny _ A.in1 (holding [Value.str x tk] (setAdd S (.str x tk)) >>= _) _ _ s'
    refine wpAny_bind (wpAny_holding ?_)
    unfold setAdd
    refine wpAny_holding ?_
    refine wpAny_bind ((PySem.strKind P w).pyHash (k := x) (strKind_is _ _ _ _) ?_)
    refine add_hashed (knd := PySem.strKind P w) (f := strV) (s := { s' with toks := s'.toks + 1 }) strV_is (strKind_is _ _ _ _) rfl hS' (by omega) fun h' hsb hS2 => ?_
    have hS3 : SetS P w h' S (seen xs (i + 1)) (if seen xs i x = true then m else m + 1) := hS2.congr (fun j => by
      unfold seen
      rw [take_more hx]
      by_cases h1 : j ∈ xs.take i
      · rw [decide_eq_true h1, decide_eq_true (List.mem_append_left _ h1)]; rfl
      · by_cases h2 : j = x
        · have hm2 : j ∈ xs.take i ++ [x] := by rw [h2]; exact List.mem_append_right _ List.mem_cons_self
          rw [decide_eq_true hm2, decide_eq_true h2, Bool.or_true]
        · rw [decide_eq_false h1, decide_eq_false h2, decide_eq_false]
          · rfl
          · intro z
            rcases List.mem_append.mp z with z | z
            · exact h1 z
            · exact h2 (List.mem_singleton.mp z)) rfl
    refine wpAny_pure ⟨plainId_quiet F.plain_set_update_loop _, ih (i + 1) _ (by omega) hlt (W.frame _ s' _ _ hst' (Nat.le_add_right _ _) fun b hb o e => ?_) ⟨_, by split <;> omega, hS3⟩ fun s'' m'' hm'' mv'' hS'' => ?_⟩
    · rw [hsb.2 b (fun h : b = S => hSf (by rw [← h]; exact hb))]; exact e
    · refine hR s'' m'' hm'' (Moved.trans W.gtrans ((mv.mono hsub).then_heap (Nat.le_add_right _ _) fun b o hb e => ?_) mv'') hS''
      rw [hsb.2 b (fun h : b = S => hb (by rw [h]; exact List.mem_cons_self))]; exact e
abbrev blank (w : World) : Obj := { cls := .type "set", dict := none, data := .set #[] 0 (.fresh 0 0 (!w.params.followText "set-order")) }
theorem hval_of : ∀ {us : Array Value} {xs : List Str}, StrsAre us.toList xs → ∀ {i : Nat} {v : Value}, us[i]? = some v → ∃ x t, xs[i]? = some x ∧ v = .str x t := by
  intro us xs h i v hv
  have hv2 : us.toList[i]? = some v := by rw [Array.getElem?_toList]; exact hv
  revert hv2
  generalize us.toList = l at h
  clear hv
  intro hv2
  induction h generalizing i with
  | nil => simp at hv2
  | cons x t hr ih =>
    cases i with
    | zero =>
      simp at hv2
      exact ⟨x, t, rfl, hv2.symm⟩
    | succ i =>
      simp only [List.getElem?_cons_succ] at hv2
      obtain ⟨y, u, h1, h2⟩ := ih hv2
      exact ⟨y, u, h1, h2⟩
end
end Vst

set_option Elab.async false
set_option linter.all false
set_option maxRecDepth 100000
set_option maxHeartbeats 2000000
namespace Vst
open PySem PySem.Spec PyProof.Rows L2
section
variable {P : Program} {w : World} {A : Around} {E : Value → Shared → Prop} {s : Shared}
set_option maxHeartbeats 3200000 in
/-- set(xs), a list of texts -/
theorem call_set_list {l : Addr} {items : Array Value} {xs : List Str} {Q : Value → Shared → Prop} (hh : A.handled = none) (hl : s.heap.IsList l items) (hi : StrsAre items.toList xs) (hfew : xs.length + 1 < scanBound)
    (h : ∀ (h' : Heap) (tk m : Nat), m ≤ xs.length → SetS P w h' s.heap.objs.size (fun k => decide (k ∈ xs)) m → (∀ b o, b < s.heap.objs.size → s.heap.get? b = some o → h'.get? b = some o) → Q (.ref s.heap.objs.size) { s with heap := h', toks := tk }) :
    wpAny (model P w) A (call (.type "set") [.ref l]) Q E s := by
  obtain ⟨c, tl, hmro⟩ := PySem.F.called_set.mro
  have hmade := PySem.F.called_set.made
  have hsub := PySem.F.called_set.sub
  refine wpAny_call (codeAny_of_tree ?_)
  show wpAny _ _ (callAny (.type "set") _) _ _ _
  refine wpAny_pure ⟨Code.quiet_builtin _ (by decide +kernel), codeAny_builtin PySem.F.entry_type_call ?_⟩
  rw [Around.under_plain (weight_type_call_type "set" [.ref l] []) rfl]
  have h1 := PySem.F.called_set.notType
  have h2 := PySem.F.called_set.canCreate
  have hct := PySem.F.typeCall_set_1 (.ref l)
  have hsz : xs.length = items.size := by rw [← StrsAre.len_eq hi, Array.length_toList]
  have hsee : seen xs items.size = fun k => decide (k ∈ xs) := by
    unfold seen
    rw [← hsz, List.take_length]
  repeat (any_goals (first | assumption | wp_step))

  refine codeAny_mono (code_set_led1 (.ref l) (E := E) (Q₁ := fun obj s₁ => obj = .ref s.heap.objs.size ∧ s₁ = { s with heap := s.heap.push (blank w) }) ⟨rfl, rfl⟩) fun r s₁ hr => ?_
  cases r with
  | error e => exact hr
  | ok fl =>
    cases fl with
    | ret obj =>
      obtain ⟨rfl, rfl⟩ := hr
      have hS : (s.heap.push (blank w)).get? s.heap.objs.size = some (blank w) := Heap.get?_push_size _ rfl
      have hT : Shared.TypeIs { s with heap := s.heap.push (blank w) } (.ref s.heap.objs.size) "set" := ⟨_, hS, rfl⟩
      have hli := PySem.F.called_set.init.lookup
      have hbi := PySem.F.called_set.init.bind (.ref s.heap.objs.size)
      repeat (any_goals (first | assumption | wp_step))

      refine codeAny_mono (codeAny_call_builtin (R := wants (fun r s₂ => r = .none ∧ ∃ h' tk m, s₂ = { s with heap := h', toks := tk } ∧ m ≤ xs.length ∧ SetS P w h' s.heap.objs.size (fun k => decide (k ∈ xs)) m ∧
          (∀ b o, b < s.heap.objs.size → s.heap.get? b = some o → h'.get? b = some o)) E) PySem.F.called_set.init.plain PySem.F.entry_set_init (check_set_init_1 hT ?_)) fun r₂ s₂ hr₂ => ?_
      · obtain ⟨ol, hol, hcl, nl, hdl⟩ := hl
        obtain ⟨ocls, odict, odata, oslots⟩ := ol
        simp only at hcl hdl
        subst hcl; subst hdl
        have hol' : (s.heap.push (blank w)).get? l = some { cls := .type "list", dict := odict, data := .seq items nl, slots := oslots } := Heap.get?_push_of_some _ hol
        have hsls := PySem.F.sub_list_set
        have hslf := PySem.F.sub_list_frozenset
        have hne : (Value.type "list" == Value.type "dict") = false := by decide
        have hl1 : (s.heap.push (blank w)).IsList l items := ⟨_, hol', rfl, nl, rfl⟩
        unfold Builtin.«set.__init__» noKeywords Builtin.Frozenset.updateFrom
        generalize hPI : pyIter = PI
        wp_walk
        subst hPI

        refine wpAny_pyIter_list hl1 ?_
        refine wpAny_bind (wpAny_runValue ?_)
        have hlS : l < s.heap.objs.size := Heap.lt_size hol
        have hh3 : A.in1.in1.in1.handled = none := by simp [hh]
        have hneI : l ≠ (s.heap.push (blank w)).objs.size := by
          rw [Heap.size_push]; exact Nat.ne_of_lt (Nat.lt_succ_of_lt hlS)
        have hSf : s.heap.objs.size ∉ [(s.heap.push (blank w)).objs.size, l] := by
          rw [Heap.size_push]; simp only [List.mem_cons, List.mem_singleton, List.not_mem_nil, or_false, not_or]
          exact ⟨Nat.ne_of_lt (Nat.lt_succ_self _), Nat.ne_of_gt hlS⟩
        refine upd_loop ((Walks.list hh3 _ l hneI items).toS) s.heap.objs.size
          hSf xs hsz (by rw [← hsz]; exact hfew) (fun i v hv => hval_of hi hv) (items.size - 0) 0 _ (by omega) (Nat.zero_le _)
          ⟨⟨_, Heap.get?_push_size _ rfl, rfl, rfl⟩, (hl1.push _)⟩ ?hS0 ?hR
        case hS0 =>
          have hget : ((s.heap.push (blank w)).push { cls := .type "list_iterator", data := .fields #[.ref l, .int 0 0] }).get? s.heap.objs.size = some (blank w) := Heap.get?_push_of_some _ hS
          exact ⟨0, Nat.le_refl _, (setS_fresh hget).congr (fun k => by unfold seen; rw [List.take_zero]; rfl) rfl⟩
        case hR =>
          intro s' m hm mv hS'
          obtain ⟨h', g', d', tk', os'⟩ := s'
          have eg : g' = s.gens := mv.gens
          have ed : d' = s.drawn := mv.drawn
          have eo : os' = s.os := mv.os
          subst eg; subst ed; subst eo
          show wpAny _ _ _ _ _ _
          refine wpAny_pure ?_
          show wpAny _ _ (ret Value.none) _ _ _
          rw [hsee] at hS'
          refine wpAny_pure ⟨rfl, h', tk', m, rfl, by rw [hsz]; exact hm, hS', fun b o hb e => ?_⟩
          have hb1 : b ≠ s.heap.objs.size := Nat.ne_of_lt hb
          have hb2 : b ≠ (s.heap.push (blank w)).objs.size := by
            rw [Heap.size_push]; exact Nat.ne_of_lt (Nat.lt_succ_of_lt hb)
          exact mv.heap b o (by simp only [List.mem_cons, List.mem_singleton, List.not_mem_nil, or_false, not_or]; exact ⟨hb1, hb2⟩) (Heap.get?_push_of_some _ (Heap.get?_push_of_some _ e))

      · cases r₂ with
        | error e => exact hr₂
        | ok fl₂ =>
          cases fl₂ with
          | ret r =>
            obtain ⟨rfl, h', tk, m, rfl, hm, hS', hk'⟩ := hr₂
            repeat (any_goals (first | assumption | wp_step))
            exact h _ _ _ hm hS' hk'
          | _ => exact hr₂.elim
    | _ => exact hr.elim
set_option maxHeartbeats 3200000 in
/-- set(xs), a tuple of texts -/
theorem call_set_tuple {l : Addr} {items : Array Value} {xs : List Str} {Q : Value → Shared → Prop} (hh : A.handled = none) (hl : s.heap.IsTuple l items) (hi : StrsAre items.toList xs) (hfew : xs.length + 1 < scanBound)
    (h : ∀ (h' : Heap) (tk m : Nat), m ≤ xs.length → SetS P w h' s.heap.objs.size (fun k => decide (k ∈ xs)) m → (∀ b o, b < s.heap.objs.size → s.heap.get? b = some o → h'.get? b = some o) → Q (.ref s.heap.objs.size) { s with heap := h', toks := tk }) :
    wpAny (model P w) A (call (.type "set") [.ref l]) Q E s := by
  obtain ⟨c, tl, hmro⟩ := PySem.F.called_set.mro
  have hmade := PySem.F.called_set.made
  have hsub := PySem.F.called_set.sub
  refine wpAny_call (codeAny_of_tree ?_)
  show wpAny _ _ (callAny (.type "set") _) _ _ _
  refine wpAny_pure ⟨Code.quiet_builtin _ (by decide +kernel), codeAny_builtin PySem.F.entry_type_call ?_⟩
  rw [Around.under_plain (weight_type_call_type "set" [.ref l] []) rfl]
  have h1 := PySem.F.called_set.notType
  have h2 := PySem.F.called_set.canCreate
  have hct := PySem.F.typeCall_set_1 (.ref l)
  have hsz : xs.length = items.size := by rw [← StrsAre.len_eq hi, Array.length_toList]
  have hsee : seen xs items.size = fun k => decide (k ∈ xs) := by
    unfold seen
    rw [← hsz, List.take_length]
  repeat (any_goals (first | assumption | wp_step))

  refine codeAny_mono (code_set_led1 (.ref l) (E := E) (Q₁ := fun obj s₁ => obj = .ref s.heap.objs.size ∧ s₁ = { s with heap := s.heap.push (blank w) }) ⟨rfl, rfl⟩) fun r s₁ hr => ?_
  cases r with
  | error e => exact hr
  | ok fl =>
    cases fl with
    | ret obj =>
      obtain ⟨rfl, rfl⟩ := hr
      have hS : (s.heap.push (blank w)).get? s.heap.objs.size = some (blank w) := Heap.get?_push_size _ rfl
      have hT : Shared.TypeIs { s with heap := s.heap.push (blank w) } (.ref s.heap.objs.size) "set" := ⟨_, hS, rfl⟩
      have hli := PySem.F.called_set.init.lookup
      have hbi := PySem.F.called_set.init.bind (.ref s.heap.objs.size)
      repeat (any_goals (first | assumption | wp_step))

      refine codeAny_mono (codeAny_call_builtin (R := wants (fun r s₂ => r = .none ∧ ∃ h' tk m, s₂ = { s with heap := h', toks := tk } ∧ m ≤ xs.length ∧ SetS P w h' s.heap.objs.size (fun k => decide (k ∈ xs)) m ∧
          (∀ b o, b < s.heap.objs.size → s.heap.get? b = some o → h'.get? b = some o)) E) PySem.F.called_set.init.plain PySem.F.entry_set_init (check_set_init_1 hT ?_)) fun r₂ s₂ hr₂ => ?_
      · obtain ⟨ol, hol, hcl, nl, hdl⟩ := hl
        obtain ⟨ocls, odict, odata, oslots⟩ := ol
        simp only at hcl hdl
        subst hcl; subst hdl
        have hol' : (s.heap.push (blank w)).get? l = some { cls := .type "tuple", dict := odict, data := .seq items nl, slots := oslots } := Heap.get?_push_of_some _ hol
        have hsls := PySem.F.sub_tuple_set
        have hslf := PySem.F.sub_tuple_frozenset
        have hne : (Value.type "tuple" == Value.type "dict") = false := by decide
        have hl1 : (s.heap.push (blank w)).IsTuple l items := ⟨_, hol', rfl, nl, rfl⟩
        unfold Builtin.«set.__init__» noKeywords Builtin.Frozenset.updateFrom
        generalize hPI : pyIter = PI
        wp_walk
        subst hPI

        refine wpAny_pyIter_tuple hl1 ?_
        refine wpAny_bind (wpAny_runValue ?_)
        have hlS : l < s.heap.objs.size := Heap.lt_size hol
        have hh3 : A.in1.in1.in1.handled = none := by simp [hh]
        have hneI : l ≠ (s.heap.push (blank w)).objs.size := by
          rw [Heap.size_push]; exact Nat.ne_of_lt (Nat.lt_succ_of_lt hlS)
        have hSf : s.heap.objs.size ∉ [(s.heap.push (blank w)).objs.size, l] := by
          rw [Heap.size_push]; simp only [List.mem_cons, List.mem_singleton, List.not_mem_nil, or_false, not_or]
          exact ⟨Nat.ne_of_lt (Nat.lt_succ_self _), Nat.ne_of_gt hlS⟩
        refine upd_loop ((Walks.tuple hh3 _ l hneI items).toS) s.heap.objs.size
          hSf xs hsz (by rw [← hsz]; exact hfew) (fun i v hv => hval_of hi hv) (items.size - 0) 0 _ (by omega) (Nat.zero_le _)
          ⟨⟨_, Heap.get?_push_size _ rfl, rfl, rfl⟩, (hl1.push _)⟩ ?hS0 ?hR
        case hS0 =>
          have hget : ((s.heap.push (blank w)).push { cls := .type "tuple_iterator", data := .fields #[.ref l, .int 0 0] }).get? s.heap.objs.size = some (blank w) := Heap.get?_push_of_some _ hS
          exact ⟨0, Nat.le_refl _, (setS_fresh hget).congr (fun k => by unfold seen; rw [List.take_zero]; rfl) rfl⟩
        case hR =>
          intro s' m hm mv hS'
          obtain ⟨h', g', d', tk', os'⟩ := s'
          have eg : g' = s.gens := mv.gens
          have ed : d' = s.drawn := mv.drawn
          have eo : os' = s.os := mv.os
          subst eg; subst ed; subst eo
          show wpAny _ _ _ _ _ _
          refine wpAny_pure ?_
          show wpAny _ _ (ret Value.none) _ _ _
          rw [hsee] at hS'
          refine wpAny_pure ⟨rfl, h', tk', m, rfl, by rw [hsz]; exact hm, hS', fun b o hb e => ?_⟩
          have hb1 : b ≠ s.heap.objs.size := Nat.ne_of_lt hb
          have hb2 : b ≠ (s.heap.push (blank w)).objs.size := by
            rw [Heap.size_push]; exact Nat.ne_of_lt (Nat.lt_succ_of_lt hb)
          exact mv.heap b o (by simp only [List.mem_cons, List.mem_singleton, List.not_mem_nil, or_false, not_or]; exact ⟨hb1, hb2⟩) (Heap.get?_push_of_some _ (Heap.get?_push_of_some _ e))

      · cases r₂ with
        | error e => exact hr₂
        | ok fl₂ =>
          cases fl₂ with
          | ret r =>
            obtain ⟨rfl, h', tk, m, rfl, hm, hS', hk'⟩ := hr₂
            repeat (any_goals (first | assumption | wp_step))
            exact h _ _ _ hm hS' hk'
          | _ => exact hr₂.elim
    | _ => exact hr.elim
end
end Vst

set_option Elab.async false
set_option linter.all false
set_option maxRecDepth 100000
set_option maxHeartbeats 2000000
/-! sorted(set(xs)) of texts: rules. -/
namespace Vst
open PySem PySem.Spec PyProof.Rows L2
section
variable {P : Program} {w : World} {A : Around} {E : Value → Shared → Prop} {s : Shared} {a : Addr} {S : Str → Bool} {n : Nat}
theorem sorted_setS {Q : Value → Shared → Prop} (R : SetS P w s.heap a S n) (hh : A.handled = none) (h64 : n < 64)
    (hQ : ∀ s' p (out : Array Value) (c : Nat) (ys : List Str), (∀ b o, s.heap.get? b = some o → s'.heap.get? b = some o) → s'.gens = s.gens → s'.os = s.os → s.heap.objs.size ≤ p →
      s'.heap.get? p = some (seqObj "list" out c) → StrsAre out.toList ys → ys.Nodup → (∀ k, k ∈ ys ↔ S k = true) → sortedS ys = true → Q (.ref p) s') :
    wpAny (model P w) A (call (.builtin "sorted") [.ref a]) Q E s := by
  obtain ⟨o, es, ep, t, ho, T, hn⟩ := R
  refine Calls.call_function_entry kind_sorted plain_sorted entry_sorted (args_sorted1 _) ?_
  unfold Builtin.«sorted»
  refine wpAny_bind (m := checkCount "sorted" 1 1 _) (wpAny_pure ?_)
  refine wpAny_bind (collect_set (A := A.in1) hh ⟨o, ho, T.ex.1, T.dat⟩ T.fits T.few T.ris T.led fun s1 vs k1 hz g1 o1 pm => ?_)
  have hvl : vs.length = n := by rw [pm.length_eq, List.length_map, Array.length_toList]; exact hn
  have hI : StrsAre vs (vs.map strOf) := strsAre_map vs fun v hv => by
    obtain ⟨e, he, q⟩ := List.mem_map.mp (pm.mem_iff.mp hv)
    obtain ⟨⟨k, h1, _⟩, _⟩ := T.el e he
    obtain ⟨tk, h2⟩ := Value.isStrOf_shape h1
    exact ⟨k, tk, by rw [← q]; exact h2⟩
  have es2 : (es.toList.map (·.2)).map strOf = es.toList.map (kof strV) := by
    rw [List.map_map]
    refine List.map_congr_left fun e he => ?_
    obtain ⟨⟨k, h1, _⟩, _⟩ := T.el e he
    obtain ⟨tk, h2⟩ := Value.isStrOf_shape h1
    show strOf e.2 = strV e.2
    rw [h2]
    rfl
  have pk : (vs.map strOf).Perm (es.toList.map (kof strV)) := by
    have q := pm.map strOf
    rw [es2] at q
    exact q
  refine wpAny_bind (wpAny_newList ?_ (by rw [hvl, sizeLine_eq]; omega))
  have hoL : (s1.heap.push (seqObj "list" vs.toArray 0)).get? s1.heap.objs.size = some (seqObj "list" vs.toArray 0) := Heap.get?_push_size _ rfl
  refine wpAny_bind (wpAny_holding (wpAny_call_entry slot_list_sort ⟨_, hoL, rfl⟩ entry_list_sort
    (list_sort_treeK strKind_oneLt hoL hI.keysOf (fun v₁ v₂ rest e => keyKind_strs (by rw [← e]; exact hI)) (by rw [hvl]; exact h64) fun st' hp hs => ⟨_, rfl, ?_⟩) (args_list_sort _)))
  obtain ⟨ys, a1, a2, a3⟩ := sorted_out_str hI hp hs
  obtain ⟨c, hc⟩ := sortedHeap_at (vs := vs) (out := (arrOf st').map (·.2)) hoL
  have pn : ys.Perm (es.toList.map (kof strV)) := a2.trans pk
  refine wpAny_pure ⟨_, rfl, hQ _ s1.heap.objs.size _ c ys (fun b u e => ?_) g1 o1 hz hc a1 (pn.nodup_iff.mpr T.nd) (fun k => by rw [pn.mem_iff, ← T.mem k]) a3⟩
  have q := k1 b u e
  have hlt := Heap.lt_size q
  show (sortedHeap (s1.heap.push (seqObj "list" vs.toArray 0)) s1.heap.objs.size vs _).get? b = some u
  rw [sortedHeap_old (Nat.ne_of_lt hlt) (by rw [size_push']; exact Nat.lt_succ_of_lt hlt)]
  exact Heap.get?_push_of_some _ q
end
/-! ### rules -/
/-- the set of texts at a -/
def SetSO (P : Program) (w : World) (a : Addr) (S : Str → Bool) (n : Nat) : HO := .ext fun h => SetS P w h a S n
theorem setSO_new {P : Program} {w : World} {H : Hp} {h : Heap} {a : Addr} {S : Str → Bool} {n : Nat} (R : SetS P w h a S n) : ObjOk P w H h a (SetSO P w a S n) := by
  have ⟨o, _, _, _, ho, _⟩ := R
  exact ⟨R, ⟨o, ho⟩, fun h1 h2 p k => SetG.keep p k⟩
section
variable {X : Cx}
def rSetS (K : PySem.W.Frag) (P : Program) (w : World) : List V → Hp → VK → Prop := fun vs H Q => ∃ (l : Addr) (xs : List Str), vs = [V.ref l] ∧ (SqL K H l (xs.map V.str) ∨ SqT K H l (xs.map V.str)) ∧ xs.length ≤ 1000 ∧
  ∀ a m, H a = none → m ≤ xs.length → Q (.ref a) (upd H a (SetSO P w a (fun k => decide (k ∈ xs)) m))
theorem few_of {n : Nat} (h : n ≤ 1000) : n + 1 < scanBound := by unfold scanBound; omega
/-- set(xs): a list or a tuple of texts -/
theorem cr_setS (hc : X.calm = true) : CallR X (.type "set") (rSetS X.K X.prog X.w) := by
  intro pins s σ H vs us Q I r h
  obtain ⟨l, xs, rfl, hl, hf, q⟩ := h
  rw [Vals.ref1 r]
  have hn : H s.heap.objs.size = none := I.hok.fresh (Nat.le_refl _)
  rcases hl with hl | hl
  · obtain ⟨its, rv, pl, hz⟩ := I.list hl
    refine call_set_list (P := X.prog) (w := X.w) (I.ok.hd hc) pl.isList (by simpa using strsAre_of rv) (few_of hf) fun h' tk m hm R k => ?_
    exact ⟨.ref s.heap.objs.size, upd H s.heap.objs.size (SetSO X.prog X.w s.heap.objs.size _ m), I.laid (t' := tk) (fun b o e => k b o (Heap.lt_size e) e) (Nat.le_refl _) (setSO_new R), rfl, q _ m hn hm⟩
  · obtain ⟨its, rv, pl, hz⟩ := I.tuple hl
    refine call_set_tuple (P := X.prog) (w := X.w) (I.ok.hd hc) pl (by simpa using strsAre_of rv) (few_of hf) fun h' tk m hm R k => ?_
    exact ⟨.ref s.heap.objs.size, upd H s.heap.objs.size (SetSO X.prog X.w s.heap.objs.size _ m), I.laid (t' := tk) (fun b o e => k b o (Heap.lt_size e) e) (Nat.le_refl _) (setSO_new R), rfl, q _ m hn hm⟩
def rSortedSt (P : Program) (w : World) : List V → Hp → VK → Prop := fun vs H Q => ∃ (a : Addr) (S : Str → Bool) (n : Nat), vs = [V.ref a] ∧ H a = some (SetSO P w a S n) ∧ n < 64 ∧
  ∀ (ys : List Str) (p : Addr), ys.Nodup → (∀ k, k ∈ ys ↔ S k = true) → sortedS ys = true → ys.length < 64 → H p = none → Q (.ref p) (upd H p (.lst (ys.map V.str)))
/-- sorted(set of texts) -/
theorem cr_sortedSt (hc : X.calm = true) : CallR X (.builtin "sorted") (rSortedSt X.prog X.w) := by
  intro pins s σ H vs us Q I r h
  obtain ⟨a, S, n, rfl, ha, h64, q⟩ := h
  have R : SetS X.prog X.w s.heap a S n := (I.hok a _ ha).1
  rw [Vals.ref1 r]
  have hsize : ∀ ys : List Str, ys.Nodup → (∀ k, k ∈ ys ↔ S k = true) → ys.length = n := by
    intro ys nd hm
    obtain ⟨o, es, ep, t, ho, T, hn⟩ := R
    have p : ys.Perm (es.toList.map (kof strV)) := (List.perm_ext_iff_of_nodup nd T.nd).mpr fun k => (hm k).trans (T.mem k)
    rw [p.length_eq, List.length_map, Array.length_toList]
    exact hn
  refine sorted_setS R (I.ok.hd hc) h64 fun s' p out c ys k g o hp hg hout nd hm hs => ?_
  have hlen0 := hsize ys nd hm
  have hlen : (ys.map V.str).length ≤ sizeLine := by rw [List.length_map, sizeLine_eq]; omega
  have hn : H p = none := I.hok.fresh hp
  have J : Inv X pins σ (upd H p (.lst (ys.map V.str))) { s with heap := s'.heap, gens := s'.gens, drawn := s'.drawn, toks := s'.toks } :=
    I.call (ch := []) (Un.laid k hp hn) (I.hok.laid k hp ⟨hlen, out.toList, c, vals_of_strs hout, hg⟩) (by rw [g]; exact I.bare) (fun _ z => nomatch z)
  have e : s' = { s with heap := s'.heap, gens := s'.gens, drawn := s'.drawn, toks := s'.toks } := by
    cases s'
    cases s
    cases o
    rfl
  rw [e]
  exact ⟨.ref p, _, J, rfl, q ys p nd hm hs (by omega) hn⟩
end
end Vst

set_option Elab.async false
set_option linter.all false
/-! Sorted lists of texts: there is one of each lot. -/
namespace Vsr
open PySem PySem.Spec PyProof.Rows Vp
theorem lt_tri : ∀ a b : List Nat, ltCps a b = false → ltCps b a = false → a = b
  | [], [], _, _ => rfl
  | [], _ :: _, h, _ => by cases h
  | _ :: _, [], _, h => by cases h
  | a :: r, b :: t, h1, h2 => by
    unfold ltCps at h1 h2
    rw [Bool.or_eq_false_iff] at h1 h2
    have e1 := of_decide_eq_false h1.1
    have e2 := of_decide_eq_false h2.1
    have e : a = b := by omega
    subst e
    have h3 := h1.2
    have h4 := h2.2
    rw [beq_self_eq_true, Bool.true_and] at h3 h4
    rw [lt_tri r t h3 h4]
theorem le_tr : ∀ a b c : List Nat, ltCps b a = false → ltCps c b = false → ltCps c a = false
  | [], _, [], _, _ => rfl
  | [], _, _ :: _, _, _ => rfl
  | _ :: _, [], _, h, _ => by cases h
  | _ :: _, _ :: _, [], _, h => by cases h
  | a :: r, b :: t, c :: u, h1, h2 => by
    unfold ltCps at h1 h2 ⊢
    rw [Bool.or_eq_false_iff] at h1 h2 ⊢
    have e1 := of_decide_eq_false h1.1
    have e2 := of_decide_eq_false h2.1
    refine ⟨decide_eq_false (by omega), ?_⟩
    by_cases e : c = a
    · subst e
      have e3 : b = c := by omega
      subst e3
      have h3 := h1.2
      have h4 := h2.2
      rw [beq_self_eq_true, Bool.true_and] at h3 h4 ⊢
      exact le_tr r t u h3 h4
    · rw [beq_eq_false_iff_ne.mpr e, Bool.false_and]
def leS (a b : Str) : Prop := ltCps b.cps.toList a.cps.toList = false
theorem pw_of : ∀ (l : List Str) (p : Str), risingS p l = true → (p :: l).Pairwise leS
  | [], p, _ => List.pairwise_singleton _ _
  | x :: r, p, h => by
    unfold risingS at h
    obtain ⟨h1, h2⟩ := Bool.and_eq_true_iff.mp h
    have ih := pw_of r x h2
    have hx : leS p x := by
      unfold leS
      cases e : ltCps x.cps.toList p.cps.toList with
      | false => rfl
      | true => rw [e] at h1; cases h1
    refine List.pairwise_cons.mpr ⟨fun y hy => ?_, ih⟩
    rcases List.mem_cons.mp hy with rfl | hy
    · exact hx
    · exact le_tr _ _ _ hx ((List.pairwise_cons.mp ih).1 y hy)
theorem pw_sorted : ∀ l : List Str, sortedS l = true → l.Pairwise leS
  | [], _ => .nil
  | x :: r, h => pw_of r x h
theorem sorted_one {u v : List Str} (hu : sortedS u = true) (hv : sortedS v = true) (p : u.Perm v) : u = v :=
  List.Perm.eq_of_pairwise (le := leS) (fun a b _ _ h1 h2 => by
    rw [tx_of a, tx_of b, lt_tri _ _ h2 h1]) (pw_sorted u hu) (pw_sorted v hv) p
end Vsr

set_option Elab.async false
set_option linter.all false
set_option maxRecDepth 100000
set_option maxHeartbeats 4000000
/-! raise out of a loop over a dict: the dict is open again. -/
namespace Vul
open PySem PySem.Spec PyProof.Rows L2
def Open (H0 : Hp) (W : WX) : WX := fun cls x σ H => ∃ d od u, H d = some (.frz od u) ∧ (∀ o' u', H0 d ≠ some (.frz o' u')) ∧ W cls x σ (upd H d u)
theorem takes_open {X : Cx} {W : WX} (t : Takes X W) : Takes X (Open X.H_0 W) := fun u s' ⟨a, B, sI, pins, σ, H, cls, x, e, I, nb, up, sky, na, os, ag, d, od, uu, hf, hn, w⟩ =>
  t u s' ⟨a, B, sI, pins, σ, upd H d uu, cls, x, e, I.unlock hf hn, nb, up, sky, (upd_ne (fun z => by rw [z, hf] at na; cases na)).trans na, os, ag, w⟩
end Vul

set_option Elab.async false
set_option linter.all false
set_option maxRecDepth 100000
set_option maxHeartbeats 4000000
/-! Sorted texts, each once. -/
namespace Vtx
open PySem PySem.Spec PyProof.Rows L2 Vl Evl Vp Ven
/-- ys: the texts of xs in ascending order, each once -/
structure Srt (ys xs : List (List Nat)) : Prop where
  nd : ys.Nodup
  mem : ∀ k, k ∈ ys ↔ k ∈ xs
  so : sortedS (ys.map tx) = true
theorem map_tx_mem {a : List (List Nat)} {k : List Nat} : tx k ∈ a.map tx ↔ k ∈ a := by
  rw [List.mem_map]
  constructor
  · rintro ⟨b, hb, e⟩
    rw [← tx_inj e]
    exact hb
  · exact fun h => ⟨k, h, rfl⟩
theorem perm_of {α : Type} [DecidableEq α] : ∀ {xs ys : List α}, xs.Nodup → ys.Nodup → (∀ k, k ∈ xs ↔ k ∈ ys) → xs.Perm ys
  | [], ys, _, _, h => by
    have : ys = [] := List.eq_nil_iff_forall_not_mem.mpr fun k hk => nomatch (h k).mpr hk
    rw [this]
  | x :: xs, ys, n1, n2, h => by
    have hx : x ∈ ys := (h x).mp List.mem_cons_self
    refine List.Perm.trans ?_ (List.perm_cons_erase hx).symm
    refine (perm_of (List.nodup_cons.mp n1).2 (n2.erase x) fun k => ?_).cons x
    rw [n2.mem_erase_iff]
    constructor
    · intro hk
      exact ⟨fun z => (List.nodup_cons.mp n1).1 (z ▸ hk), (h k).mp (List.mem_cons_of_mem _ hk)⟩
    · rintro ⟨h1, h2⟩
      rcases List.mem_cons.mp ((h k).mpr h2) with z | z
      · exact absurd z h1
      · exact z
theorem map_tx_inj : ∀ {a b : List (List Nat)}, a.map tx = b.map tx → a = b
  | [], [], _ => rfl
  | [], _ :: _, h => by cases h
  | _ :: _, [], h => by cases h
  | x :: a, y :: b, h => by
    rw [List.map_cons, List.map_cons] at h
    injection h with h1 h2
    rw [tx_inj h1, map_tx_inj h2]
theorem Srt.one {ys xs ys' xs' : List (List Nat)} (h : Srt ys xs) (h' : Srt ys' xs') (e : ∀ k, k ∈ xs ↔ k ∈ xs') : ys = ys' := by
  have p : ys.Perm ys' := perm_of h.nd h'.nd fun k => by rw [h.mem, h'.mem, e]
  exact map_tx_inj (Vsr.sorted_one h.so h'.so (p.map tx))
theorem Srt.of {ys xs xs' : List (List Nat)} (h : Srt ys xs) (e : ∀ k, k ∈ xs ↔ k ∈ xs') : Srt ys xs' := ⟨h.nd, fun k => (h.mem k).trans (e k), h.so⟩
theorem nodup_le {α : Type} [DecidableEq α] : ∀ {ys xs : List α}, ys.Nodup → (∀ k, k ∈ ys → k ∈ xs) → ys.length ≤ xs.length
  | [], _, _, _ => Nat.zero_le _
  | y :: ys, xs, n, h => by
    have hy := h y List.mem_cons_self
    have := nodup_le (ys := ys) (xs := xs.erase y) (List.nodup_cons.mp n).2 fun k hk => (List.mem_erase_of_ne (fun z => (List.nodup_cons.mp n).1 (by rw [← z]; exact hk))).mpr (h k (List.mem_cons_of_mem _ hk))
    rw [List.length_erase_of_mem hy] at this
    have := List.length_pos_of_mem hy
    rw [List.length_cons]
    omega
theorem of_map {α β : Type} (f : α → β) {l : List α} (h : (l.map f).Nodup) : l.Nodup := by
  induction l with
  | nil => exact .nil
  | cons x l ih =>
    rw [List.map_cons, List.nodup_cons] at h
    exact List.nodup_cons.mpr ⟨fun z => h.1 (List.mem_map_of_mem z), ih h.2⟩
theorem Srt.len {ys xs : List (List Nat)} (h : Srt ys xs) : ys.length ≤ xs.length := by
  exact nodup_le h.nd fun k hk => (h.mem k).mp hk
theorem vtx_map (xs : List (List Nat)) : vtx xs = (xs.map tx).map V.str := by
  unfold vtx
  rw [List.map_map]
  rfl
theorem strs_of (ys : List Str) : ∃ zs : List (List Nat), ys = zs.map tx := ⟨ys.map fun z => z.cps.toList, by
  rw [List.map_map]
  exact (List.map_id ys).symm.trans (List.map_congr_left fun z _ => tx_of z)⟩
section
variable {P : Program} {w : World} {K : PySem.W.Frag} {H : Hp} {a : Addr} {xs : List (List Nat)} {Q : VK}
/-- sorted(set(xs)) -/
theorem ss_of (hx : SqA K H a (vtx xs)) (hz : xs.length < 64) (q : ∀ p ys H2, H p = none → Ex H H2 → H2 p = some (.lst (vtx ys)) → Srt ys xs → Q (.ref p) H2) :
    Vst.rSetS K P w [.ref a] H fun v H1 => Vst.rSortedSt P w [v] H1 Q := by
  rw [vtx_map] at hx
  refine ⟨a, xs.map tx, rfl, hx, by rw [List.length_map]; omega, fun sa m ns hm => ?_⟩
  rw [List.length_map] at hm
  refine ⟨sa, _, m, rfl, upd_same, by omega, fun ys p nd hk hs hl np => ?_⟩
  obtain ⟨zs, rfl⟩ := strs_of ys
  have e := (Ex.new (o := Vst.SetSO P w sa (fun k => decide (k ∈ xs.map tx)) m) ns)
  refine q p zs _ (fresh_back e np) (e.trans (Ex.new np)) (by rw [upd_same, vtx_map]) ⟨?_, fun k => ?_, hs⟩
  · exact of_map tx nd
  · rw [← map_tx_mem (a := zs), hk, decide_eq_true_iff, map_tx_mem]
/-- sorted(xs), each once -/
theorem so_of (hx : SqL K H a (vtx xs)) (nd : xs.Nodup) (hz : xs.length < 64) (q : ∀ p ys H2, H p = none → Ex H H2 → H2 p = some (.lst (vtx ys)) → Srt ys xs → Q (.ref p) H2) : rSortedS K [.ref a] H Q := by
  rw [vtx_map] at hx
  refine ⟨a, xs.map tx, rfl, hx, by rw [List.length_map]; omega, fun ys p hp hs np => ?_⟩
  obtain ⟨zs, rfl⟩ := strs_of ys
  have hm : ∀ k, k ∈ zs ↔ k ∈ xs := fun k => by rw [← map_tx_mem (a := zs), hp.mem_iff, map_tx_mem]
  refine q p zs _ np (Ex.new np) (by rw [upd_same, vtx_map]) ⟨?_, hm, hs⟩
  refine of_map tx (hp.nodup_iff.mpr ?_)
  exact List.Pairwise.map tx (fun a b h z => h (tx_inj z)) nd
end
section
variable {K : PySem.W.Frag} {σ : L2.St} {H : Hp}
open Vlk
theorem el_catA {σ : L2.St} {H : Hp} {ta tb : TE} {a : Addr} {xs zs : List V} (h : Ev ta σ H (.ref a)) (hx : H a = some (.lst xs)) (h2 : EvL tb σ H zs) (hz : xs.length + zs.length ≤ 100000) : EvL (tOp rCat ta tb) σ H (xs ++ zs) := fun H1 e Q q =>
  h H1 e _ fun H2 e2 => h2 H2 (e.trans e2) _ fun p H3 np e3 hp => ⟨a, p, xs, zs, rfl, rfl, ((e.trans e2).trans e3) _ _ hx, hp, sz_of hz, fun r nr => q r _ (fresh_back (e2.trans e3) nr) ((e2.trans e3).trans (Ex.new nr)) upd_same⟩
theorem s_cons {A : TE} {R : TA} {Q : List V → Hp → Prop} (h : A σ H fun x H1 => R σ H1 fun xs H2 => Q (x :: xs) H2) : tCons A R σ H Q := h
theorem s_nil {Q : List V → Hp → Prop} (h : Q [] H) : tNil σ H Q := h
theorem s_cb {r : List V → Hp → VK → Prop} {t : TA} {Q : VK} (h : t σ H fun vs H1 => r vs H1 Q) : tCB r t σ H Q := h
theorem s_retR {te : TE} {D : Ends} (h : te σ H D.rt) : tRet te D σ H := h
theorem s_lstR {t : TA} {Q : VK} (h : t σ H fun vs H1 => vs.length ≤ 100000 ∧ ∀ p, H1 p = none → Q (.ref p) (upd H1 p (.lst vs))) (hm : ∀ {R R' : List V → Hp → Prop}, (∀ vs H1, R vs H1 → R' vs H1) → t σ H R → t σ H R') : tLst t σ H Q := hm (fun vs H1 z => ⟨sz_of z.1, z.2⟩) h
theorem given_one (b : Bool) (v : V) : given 1 (fun _ => b) (fun _ => v) = if b = true then [v] else [] := by
  cases b <;> rfl
theorem ex_open {H H' : Hp} {d : Addr} {od : Obj} {kvs : List (Key × V)} (hd : H d = some (.dK kvs)) (e : Ex (Lk H d od kvs) H') : Ex H (upd H' d (.dK kvs)) := fun b o hb => by
  by_cases h : b = d
  · rw [h, upd_same]
    rw [h, hd] at hb
    exact hb
  · rw [upd_ne h]
    exact e _ _ (lk_get hb h)
/-- [e for k in d], d locked meanwhile -/
theorem el_keysV {td te : TE} {j : Nat} {d : Addr} {kvs : List (Key × V)} (wv : Key → V) (hd : H d = some (.dK kvs)) (hz : kvs.length ≤ 40000) (hw : ∀ x, wipe ((wipe σ [j]).set j (some x)) [j] = wipe σ [j])
    (htd : ∀ H1 od, Ex H H1 → Ev td σ (Lk H1 d od kvs) (.ref d))
    (he : ∀ (H1 : Hp) (od : Obj) (kv : Key × V), Ex H H1 → kv ∈ kvs → Ev te ((wipe σ [j]).set j (some (kV kv.1))) (Lk H1 d od kvs) (wv kv.1)) :
    EvL (tLockE (tLc (iKeys td) (gName j) tYes te [j])) σ H (kvs.map fun kv => wv kv.1) := fun H1 e1 Q q => by
  refine ⟨d, .dK kvs, e1 _ _ hd, trivial, fun od => ?_⟩
  have hlk : (Lk H1 d od kvs) d = some (.frz od (.dK kvs)) := upd_same
  unfold tLc iKeys
  refine htd H1 od e1 _ (Ex.refl _) _ fun H2 e2 => ?_
  refine ⟨d, od, rfl, .inl ⟨kvs, e2 _ _ hlk, fun D nD => ?_⟩⟩
  have ndd : D ≠ d := fun z => by rw [z, e2 _ _ hlk] at nD; cases nD
  have hn2 : (Lk H1 d od kvs) D = none := fresh_back e2 nD
  have hn1 : H1 D = none := by
    have := hn2
    rw [show (Lk H1 d od kvs) D = H1 D from upd_ne ndd] at this
    exact this
  refine lc_it walk_keys (fun i H3 => Ex (Lk H1 d od kvs) H3 ∧ H3 D = some (.lst ((kvs.take i).map fun kv => wv kv.1))) ⟨Ex.mut e2 hn2, by rw [List.take_zero]; exact upd_same⟩ (fun i H3 _ h => h.1 _ _ hlk) ?_ ?_
  · rintro i x H3 H4 hi ⟨e3, hD⟩ ⟨rfl, k, v, hk, rfl⟩
    have htk : kvs.take (i + 1) = kvs.take i ++ [(k, v)] := by rw [List.take_succ, hk]; rfl
    refine ⟨hw _, ?_⟩
    refine he H1 od (k, v) e1 (List.mem_of_getElem? hk) H4 e3 _ fun H5 e5 => ?_
    refine ⟨_, e5 _ _ hD, sz_lt (by rw [List.length_map, List.length_take]; omega), Ex.mut (e3.trans e5) hn2, ?_⟩
    rw [upd_same, htk, List.map_append]
    rfl
  · rintro H3 ⟨e3, hD⟩
    rw [List.take_length] at hD
    refine ⟨e3 _ _ hlk, q D _ hn1 (ex_open (e1 _ _ hd) e3) (by rw [upd_ne ndd]; exact hD)⟩
end
end Vtx

set_option Elab.async false
set_option linter.all false
set_option maxRecDepth 100000
set_option maxHeartbeats 4000000
/-! The windows of a text: _windows_in_order, windows. -/
namespace K58
open PySem PySem.Spec PyProof.Rows L2 Vl Evl Vp Vx2 Vlk Vda Vc Ve Ven Vlt Vtx
abbrev sWo : Stmt := top 36
abbrev sWi : Stmt := top 32
abbrev nWo : List Str := ["text", "k", "gone", "place"]
/-- no size of windows -/
def BadN (K : PySem.W.Frag) (H : Hp) (k : V) : Prop := (∃ (t : String) (b1 b2 : Bool), (∀ H', Ex H H' → TyX K H' k (.type t)) ∧ kitB t "int" = some b1 ∧ kitB t "bool" = some b2 ∧ (b1 && !b2) = false) ∨ ∃ i : Int, k = .int i ∧ ¬ (2 ≤ i ∧ i ≤ 8)
/-- a text or a size that is refused -/
def RefT (K : PySem.W.Frag) (BW BN : Addr) (H : Hp) (y k : V) (E : XK) : Prop :=
  (BadW K H y 1 40 ∧ RaisedF BW "word" H y E) ∨ ∃ t, y = .str (tx t) ∧ okW t 1 40 = true ∧ BadN K H k ∧ RaisedF BN "value" H k E
theorem BadN.mono {K : PySem.W.Frag} {H H' : Hp} {k : V} (h : BadN K H k) (e : Ex H H') : BadN K H' k := by
  rcases h with ⟨t, b1, b2, h1, h2, h3, h4⟩ | h
  · exact .inl ⟨t, b1, b2, fun H2 e2 => h1 H2 (e.trans e2), h2, h3, h4⟩
  · exact .inr h
theorem RefT.grow {K : PySem.W.Frag} {BW BN : Addr} {H H' : Hp} {y k : V} {E : XK} (h : RefT K BW BN H y k E) (e : Ex H H') : RefT K BW BN H' y k E := by
  rcases h with ⟨h1, h2⟩ | ⟨t, h1, h2, h3, h4⟩
  · exact .inl ⟨h1.mono e, RaisedF.grow h2 e⟩
  · exact .inr ⟨t, h1, h2, h3.mono e, RaisedF.grow h4 e⟩
def spWo (K : PySem.W.Frag) (BW BN : Addr) : Sp := fun vs H Q E => ∃ y k : V, vs = [y, k] ∧
  ((∃ (t : List Nat) (s : Nat), y = .str (tx t) ∧ okW t 1 40 = true ∧ k = .int (s : Nat) ∧ 2 ≤ s ∧ s ≤ 8 ∧ ∀ p H', H p = none → Ex H H' → H' p = some (.lst (vtx (wns t s))) → Q (.ref p) H') ∨ RefT K BW BN H y k E)
def spWi (K : PySem.W.Frag) (BW BN : Addr) : Sp := fun vs H Q E => ∃ y k : V, vs = [y, k] ∧
  ((∃ (t : List Nat) (s : Nat), y = .str (tx t) ∧ okW t 1 40 = true ∧ k = .int (s : Nat) ∧ 2 ≤ s ∧ s ≤ 8 ∧ ∀ p ys H', H p = none → Ex H H' → H' p = some (.lst (vtx ys)) → Srt ys (wns t s) → Q (.ref p) H') ∨ RefT K BW BN H y k E)
theorem ok_len {l : List Nat} {lo hi : Nat} (h : okW l lo hi = true) : lo ≤ l.length ∧ l.length ≤ hi := by
  unfold okW at h
  rw [Bool.and_eq_true, Bool.and_eq_true, decide_eq_true_iff, decide_eq_true_iff] at h
  omega
theorem ok_mem {l : List Nat} {lo hi c : Nat} (h : okW l lo hi = true) (hc : c ∈ l) : c ∈ letters := by
  unfold okW at h
  rw [Bool.and_eq_true] at h
  exact of_decide_eq_true (List.all_eq_true.mp h.2 c hc)
section
variable {P : Program} {w : World} {K : PySem.W.Frag} {mg : Str → Option Value} {base : Heap} {BW BN : Addr}
theorem sv_ii {i : Int} {H : Hp} : SpV (R58.spIsInt K) [.int i] H (.bl true) := fun H1 e Q q E => ⟨.int i, "int", true, false, rfl, .base (.int i), by decide +kernel, by decide +kernel, q H1 (Ex.refl _)⟩
theorem scWo : FnScope nWo ["text", "k"] (defScope sWo) := ⟨rfl, rfl, rfl, by decide +kernel, rfl, by decide +kernel, by decide +kernel⟩
theorem ok_wo {f : Addr} {fd : FuncData} (F : FnP K "_windows_in_order" sWo f fd) (TCw : Fu P w K mg base (L2.CX P w) 3 "_check_word" (spCkW K BW)) (TII : Fu P w K mg base L2.CX0 1 "is_integer" (R58.spIsInt K)) (EN : Err1 P w K mg base "BadNumber" "value" BN) (mLen : mg "len" = none) (mRange : mg "range" = none)
    (gS : ∃ t, mg "SHORTEST_WINDOW" = some (.int 2 t)) (gO : ∃ t, mg "LONGEST_WINDOW" = some (.int 8 t)) (gX : ∃ t, mg "LONGEST_TEXT" = some (.int 40 t)) :
    FnOk P w K mg base (L2.CX P w) 4 f fd ["text", "k"] (spWo K BW BN) := by
  obtain ⟨tS, gS⟩ := gS
  obtain ⟨tO, gO⟩ := gO
  obtain ⟨tX, gX⟩ := gX
  obtain ⟨fE, fdE, iC, tI, bE, GE⟩ := EN.ini
  refine F.ok (CX := L2.CX P w) scWo (fun vs H Q E h => ?_) (fun cdv A outer s H vs Q E hr h => ?_)
  · obtain ⟨y, k, rfl, _⟩ := h
    rfl
  · have hr2 : Room 2 _ := hr.mono (by omega)
    refine ⟨_, (pss_cons (ps_expr (pe_fuX (E := WE fun cls d _ H => E cls d H) TCw hr (by rfl) (fun st => passAt (takes_of rfl rfl rfl rfl) st) (pa_cons (pv 0) (pa_cons pe_int (pa_cons (pe_glob (v := V.int 40) (by rfl) gX ⟨tX, rfl⟩) pa_nil)))))
      (pss_cons (ps_if (PW.pt (pw_or (pt_not (pt_val (pe_fu TII hr (by rfl) (pa_cons (pv 1) pa_nil)))) (pw_or1 (pt_not (pt_chain op_le op_le (pe_glob (v := V.int 2) (by rfl) gS ⟨tS, rfl⟩) (pv 1) (pe_glob (v := V.int 8) (by rfl) gO ⟨tO, rfl⟩)))))) (pss_one (ps_raise rfl (takes_of rfl rfl rfl rfl) (pmk_oex EN.T iC tI GE hr2 bE .nil pass0 (by rfl) EN.g (pa_cons (pv 1) pa_nil)))) pss_nil)
      (pss_cons (ps_set (i := 2) scWo.nd rfl (by first | exact Or.inl rfl | exact Or.inr rfl) (pe_op Vtx.op_repS (pv 0) (pe_op op_add (pe_op op_fdiv (pv 1) (pe_callB call_len (by rfl) mLen boot_len (pa_cons (pv 0) pa_nil))) pe_int)))
      (pss_one (ps_ret (pe_lc (own := [("place", 3)]) (g := (gName 3)) (tt := tYes) (te := (tSl rSlS (tVar 2) (tPart (tVar 3)) (tPart (tOp (rI0 fun i j => .int (i + j)) (tVar 3) (tVar 1))))) rfl scWo.nd (pi_range1 (by rfl) mRange (pa_cons (pe_callB call_len (by rfl) mLen boot_len (pa_cons (pv 0) pa_nil)) pa_nil)) (blkOk_by (own := [("place", 3)]) (N := nWo) (sc := defScope sWo) (by decide +kernel)) (fun _ _ _ _ _ => (pg_name (i := 3) scWo.nd rfl (by first | exact Or.inl rfl | exact Or.inr rfl))) (fun _ _ _ _ _ => pts_nil) (fun _ _ _ _ _ => (pe_slice sl_str (pv 2) (po_some (pv 3)) (po_some (pe_op op_add (pv 3) (pv 1))))))))))), ?_⟩
    obtain ⟨y, k, rfl, h⟩ := h
    refine s_seq ?_
    refine s_call (ea_cons (ev_var rfl) (ea_cons ev_c (ea_cons ev_c ea_nil))) fun H1 e1 => ⟨y, 1, 40, rfl, by omega, ?_⟩
    rcases h with ⟨t, s, rfl, ok, rfl, hs1, hs2, q⟩ | ⟨hb, q⟩ | ⟨t, rfl, ok, hb, q⟩
    · obtain ⟨n1, n2⟩ := ok_len ok
      refine .inl ⟨t, rfl, ok, fun H2 e2 => ?_⟩
      dsimp only
      refine s_seq ?_
      refine s_when (b := false) (et_is (et_or (et_not (et_B (ev_fu (ea_cons (ev_var rfl) ea_nil) sv_ii))) (fun _ => et_not (et_test (ev_chain ev_c (ev_var rfl) rv_I0 (fun _ => ev_c) rv_I0)))) (by
        rw [decide_eq_true (show (2 : Int) ≤ (s : Nat) by omega), decide_eq_true (show ((s : Nat) : Int) ≤ 8 by omega)]
        rfl)) (fun z => by cases z) (fun _ H3 e3 => ?_)
      dsimp only
      refine s_seq ?_
      have hm : (s / t.length + 2) * t.length ≤ 100 ∧ s + t.length ≤ (s / t.length + 2) * t.length := by
        have h1 := Nat.div_mul_le_self s t.length
        have h2 := Nat.div_add_mod s t.length
        have h3 := Nat.mod_lt s (show 0 < t.length by omega)
        rw [Nat.add_mul]
        rw [Nat.mul_comm] at h2
        omega
      have hq : s / t.length ≤ 8 := Nat.le_trans (Nat.div_le_self _ _) hs2
      refine s_asg (v := .str (tx (Vq.rp (s / t.length + 2) t))) (ev_op (ev_var rfl) (ev_is (ev_op (ev_op (ev_var (i := 1) rfl) (ev_lenS (l := t) (ev_var rfl) (by omega)) (rv_I ⟨by omega, by omega⟩)) ev_c rv_I0) (by rfl)) (rv_repS (by omega) (by omega))) fun H4 e4 => ?_
      dsimp only
      have key := el_lcR1 (σ := [some (.str (tx t)), some (.int (s : Nat)), some (.str (tx (Vq.rp (s / t.length + 2) t))), none]) (H := H4) (j := 3) (vs := [3]) (n := (t.length : Int)) (t := tYes) (te := tSl rSlS (tVar 2) (tPart (tVar 3)) (tPart (tOp (rI0 fun i j => .int (i + j)) (tVar 3) (tVar 1)))) (ta := tCons (tCB (fun xs H Q => ∃ x n, xs = [x] ∧ LenV K x H n ∧ Q (.int n) H) (tCons (tVar 0) tNil)) tNil)
        (fun _ => true) (fun i => V.str (tx (wn t s i))) (ea_cons (ev_lenS (ev_var rfl) (by omega)) ea_nil) (by omega) (fun _ => rfl) (fun i H2 e2 hi => et_yes) (fun i H5 e5 hi _ => by
          refine ev_is (ev_slS (l := Vq.rp (s / t.length + 2) t) (lo := some (i : Int)) (hi := some ((i + s : Nat) : Int)) (ev_var rfl) (eo_some (ev_var rfl)) (eo_some (ev_is (ev_op (ev_var rfl) (ev_var rfl) rv_I0) (by rfl))) (by rw [Vq.rp_len]; omega)) ?_
          rw [cut_pq, Nat.add_sub_cancel_left, rp_win (by omega)])
      rw [given_all, Int.toNat_natCast] at key
      have hv : (List.range t.length).map (fun i => V.str (tx (wn t s i))) = vtx (wns t s) := by
        unfold vtx wns
        rw [List.map_map]
        rfl
      rw [hv] at key
      exact s_retL key fun p H5 np e5 hp => q p H5 (fresh_back (((e1.trans e2).trans e3).trans e4) np) ((((e1.trans e2).trans e3).trans e4).trans e5) hp
    · exact .inr ⟨hb.mono e1, RaisedF.grow q e1⟩
    · refine .inl ⟨t, rfl, ok, fun H2 e2 => ?_⟩
      dsimp only
      refine s_seq ?_
      refine s_when (b := true) ?_ (fun _ H3 e3 => ?_) (fun z => by cases z)
      · rcases hb.mono (e1.trans e2) with ⟨ty, b1, b2, h1, h2, h3, h4⟩ | ⟨i, rfl, hi⟩
        · refine et_is (et_or (b := true) (et_not (et_B (ev_fu (z := .bl (b1 && !b2)) (ea_cons (ev_var rfl) ea_nil) fun H1 e Q q E => ⟨k, ty, b1, b2, rfl, h1 H1 e, h2, h3, q H1 (Ex.refl _)⟩))) (fun z => by rw [h4] at z; cases z)) (by rw [h4]; rfl)
        · refine et_is (et_or (et_not (et_B (ev_fu (ea_cons (ev_var rfl) ea_nil) sv_ii))) (fun _ => et_not (et_test (ev_chain ev_c (ev_var rfl) rv_I0 (fun _ => ev_c) rv_I0)))) ?_
          by_cases h2 : (2 : Int) ≤ i
          · rw [decide_eq_true h2, decide_eq_false (show ¬ i ≤ 8 from fun z => hi ⟨h2, z⟩)]
            rfl
          · rw [decide_eq_false h2]
            rfl
      · exact raised_f (W := fun cls d _ H' => E cls d H') 1 rfl rfl (RaisedF.grow q ((e1.trans e2).trans e3))
theorem scWi : FnScope ["text", "k"] ["text", "k"] (defScope sWi) := ⟨rfl, rfl, rfl, by decide +kernel, rfl, by decide +kernel, by decide +kernel⟩
theorem ok_wi {f : Addr} {fd : FuncData} (F : FnP K "windows" sWi f fd) (TWo : Fu P w K mg base (L2.CX P w) 4 "_windows_in_order" (spWo K BW BN)) (mSorted : mg "sorted" = none) (mSet : mg "set" = none) :
    FnOk P w K mg base (L2.CX P w) 5 f fd ["text", "k"] (spWi K BW BN) := by
  refine F.ok (CX := L2.CX P w) scWi (fun vs H Q E h => ?_) (fun cdv A outer s H vs Q E hr h => ?_)
  · obtain ⟨y, k, rfl, _⟩ := h
    rfl
  · refine ⟨_, (pss_one (ps_ret (pe_callB (Vst.cr_sortedSt rfl) (by rfl) mSorted boot_sorted (pa_cons (pe_callTy (Vst.cr_setS rfl) (by rfl) mSet boot_set (pa_cons (pe_fuX (E := WE fun cls d _ H => E cls d H) TWo hr (by rfl) (fun st => passAt (takes_of rfl rfl rfl rfl) st) (pa_cons (pv 0) (pa_cons (pv 1) pa_nil))) pa_nil)) pa_nil)))), ?_⟩
    obtain ⟨y, k, rfl, h⟩ := h
    have ha : EvA (tCons (tVar 0) (tCons (tVar 1) tNil)) [some y, some k] H [y, k] := ea_cons (ev_var rfl) (ea_cons (ev_var rfl) ea_nil)
    show tCons (tVar 0) (tCons (tVar 1) tNil) [some y, some k] H fun vs H1 => spWo K BW BN vs H1 (fun v H1 => Vst.rSetS K P w [v] H1 fun v H1 => Vst.rSortedSt P w [v] H1 fun v H' => Q v H') fun cls d H' => E cls d H'
    refine ha H (Ex.refl H) _ fun H1 e1 => ⟨y, k, rfl, ?_⟩
    rcases h with ⟨t, s, rfl, ok, rfl, hs1, hs2, q⟩ | h
    · obtain ⟨n1, n2⟩ := ok_len ok
      refine .inl ⟨t, s, rfl, ok, rfl, hs1, hs2, fun p H2 np e2 hp => ?_⟩
      exact ss_of (.inl (sq_of hp)) (by rw [wns_len]; omega) fun p2 ys H3 n3 e3 h3 hS => q p2 ys H3 (fresh_back (e1.trans e2) n3) ((e1.trans e2).trans e3) h3 hS
    · exact .inr (h.grow e1)
end
end K58

set_option Elab.async false
set_option linter.all false
set_option maxRecDepth 100000
set_option maxHeartbeats 4000000
/-! text_round, ring_text. -/
namespace K58
open PySem PySem.Spec PyProof.Rows L2 Vl Evl Vp Vx2 Vlk Vda Vc Ve Ven Vlt Vtx
abbrev sTr : Stmt := top 35
abbrev sRt : Stmt := top 34
abbrev nRt : List Str := ["ring", "lane"]
theorem nam_ok {l : List Nat} {lo hi : Nat} (h : okW l lo hi = true) (h1 : 1 ≤ lo) (h2 : hi ≤ 8) : nam l := by
  obtain ⟨n1, n2⟩ := ok_len h
  cases l with
  | nil => exact absurd n1 (by show ¬ lo ≤ 0; omega)
  | cons c r =>
    rw [List.length_cons] at n2
    exact ⟨c, r, rfl, ok_mem h List.mem_cons_self, fun x hx => letters_signs (ok_mem h (List.mem_cons_of_mem _ hx)), by omega⟩
theorem ok_wn {t : List Nat} {s k : Nat} (h : okW t 1 40 = true) (h1 : 2 ≤ s) (h2 : s ≤ 8) : okW (wn t s k) 2 8 = true := by
  obtain ⟨n1, n2⟩ := ok_len h
  unfold okW
  rw [wn_len, decide_eq_true h1, decide_eq_true h2]
  exact List.all_eq_true.mpr fun c hc => decide_eq_true (ok_mem h (wn_mem n1 hc))
theorem lns_wns {t : List Nat} {s : Nat} (h : okW t 1 40 = true) (h1 : 2 ≤ s) (h2 : s ≤ 8) : R58.Lns (wns t s) := by
  obtain ⟨n1, n2⟩ := ok_len h
  refine ⟨fun l hl => ?_, by rw [wns_len]; exact n1, by rw [wns_len]; omega⟩
  obtain ⟨k, _, rfl⟩ := wns_mem.mp hl
  exact nam_ok (ok_wn h h1 h2) (by omega) (by omega)
def spTr (K : PySem.W.Frag) (RC BW BN : Addr) : Sp := fun vs H Q E => ∃ y k : V, vs = [y, k] ∧
  ((∃ (t : List Nat) (s : Nat), y = .str (tx t) ∧ okW t 1 40 = true ∧ k = .int (s : Nat) ∧ 2 ≤ s ∧ s ≤ 8 ∧ ∀ o H', Ex H H' → R58.Rnd K RC H' o (wns t s) → Q (.ref o) H') ∨ RefT K BW BN H y k E)
/-- first letters -/
def heads1 (a : List (List Nat)) : List Nat := a.map fun w => w.getD 0 0
def spRt (K : PySem.W.Frag) (RC : Addr) : Sp := fun vs H Q _ => ∃ (r : Addr) (a : List (List Nat)), vs = [.ref r] ∧ R58.Rnd K RC H r a ∧ R58.Lns a ∧ ∀ H', Ex H H' → Q (.str (tx (heads1 a))) H'
section
variable {P : Program} {w : World} {K : PySem.W.Frag} {mg : Str → Option Value} {base : Heap} {BW BN RC : Addr}
theorem scTr : FnScope ["text", "k"] ["text", "k"] (defScope sTr) := ⟨rfl, rfl, rfl, by decide +kernel, rfl, by decide +kernel, by decide +kernel⟩
theorem ok_tr {f : Addr} {fd : FuncData} (F : FnP K "text_round" sTr f fd) (TWo : Fu P w K mg base (L2.CX P w) 4 "_windows_in_order" (spWo K BW BN)) (newR : Nw P w K mg base RC L2.CX0 4 "Round" (R58.spIniR K RC)) :
    FnOk P w K mg base (L2.CX P w) 6 f fd ["text", "k"] (spTr K RC BW BN) := by
  refine F.ok (CX := L2.CX P w) scTr (fun vs H Q E h => ?_) (fun cdv A outer s H vs Q E hr h => ?_)
  · obtain ⟨y, k, rfl, _⟩ := h
    rfl
  · refine ⟨_, (pss_one (ps_ret (pe_nw newR hr (by rfl) (pa_cons (pe_fuX (E := WE fun cls d _ H => E cls d H) TWo hr (by rfl) (fun st => passAt (takes_of rfl rfl rfl rfl) st) (pa_cons (pv 0) (pa_cons (pv 1) pa_nil))) pa_nil)))), ?_⟩
    obtain ⟨y, k, rfl, h⟩ := h
    have ha : EvA (tCons (tVar 0) (tCons (tVar 1) tNil)) [some y, some k] H [y, k] := ea_cons (ev_var rfl) (ea_cons (ev_var rfl) ea_nil)
    show tCons (tVar 0) (tCons (tVar 1) tNil) [some y, some k] H fun vs H1 => spWo K BW BN vs H1 (fun v H1 => ∀ x dx, H1 x = none → H1 dx = none → dx ≠ x → R58.spIniR K RC [.ref x, v] (upd (upd H1 dx (.own x)) x (.ins RC dx [])) (fun v H2 => v = .non ∧ Q (.ref x) H2) nil0) fun cls d H' => E cls d H'
    refine ha H (Ex.refl H) _ fun H1 e1 => ⟨y, k, rfl, ?_⟩
    rcases h with ⟨t, s, rfl, ok, rfl, hs1, hs2, q⟩ | h
    · refine .inl ⟨t, s, rfl, ok, rfl, hs1, hs2, fun p H2 np e2 hp => fun x dx hx hdx hne => ?_⟩
      exact ⟨x, dx, p, H2, wns t s, rfl, rfl, hx, hdx, hne, .inl (sq_of hp), lns_wns ok hs1 hs2, fun H' e r => ⟨rfl, q x H' ((e1.trans e2).trans e) r⟩⟩
    · exact .inr (h.grow e1)
theorem scRt : FnScope nRt ["ring"] (defScope sRt) := ⟨rfl, rfl, rfl, by decide +kernel, rfl, by decide +kernel, by decide +kernel⟩
theorem ok_rt {f : Addr} {fd : FuncData} (F : FnP K "ring_text" sRt f fd) (clsR : Cls K RC) (lanR : Pr P w K mg base RC 1 "lanes" (getSp RC "_lanes")) :
    FnOk P w K mg base L2.CX0 3 f fd ["ring"] (spRt K RC) := by
  refine F.ok (CX := L2.CX0) scRt (fun vs H Q E h => ?_) (fun cdv A outer s H vs Q E hr h => ?_)
  · obtain ⟨r, a, rfl, _⟩ := h
    rfl
  · refine ⟨_, (pss_one (ps_ret (pe_join pe_str (pe_lc (own := [("lane", 1)]) (g := (gName 1)) (tt := tYes) (te := (tOp rIxS (tVar 1) (tC (.int 0)))) rfl scRt.nd (pi_tup (pe_pr (pv 0) clsR lanR hr)) (blkOk_by (own := [("lane", 1)]) (N := nRt) (sc := defScope sRt) (by decide +kernel)) (fun _ _ _ _ _ => (pg_name (i := 1) scRt.nd rfl (by first | exact Or.inl rfl | exact Or.inr rfl))) (fun _ _ _ _ _ => pts_nil) (fun _ _ _ _ _ => (pe_ix ix_str (pv 1) pe_int fun _ _ => rfl)))))), ?_⟩
    obtain ⟨r, a, rfl, ⟨dr, q0, h1, h2⟩, ⟨la, l1, l2⟩, k⟩ := h
    have hln : Ev (tPr RC (getSp RC "_lanes") (tVar 0)) [some (.ref r), none] H (.ref q0) := fun H1 e Q q => ⟨_, rfl, r, dr, _, rfl, e _ _ h1, r, dr, _, .ref q0, rfl, e _ _ h1, rfl, q H1 (Ex.refl _)⟩
    have key := el_lcTM (K := K) (σ := [some (.ref r), none]) (H := H) (tl := tPr RC (getSp RC "_lanes") (tVar 0)) (te := tOp rIxS (tVar 1) (tC (.int 0))) (j := 1) (vs := [1]) (ys := a) (g := fun l => V.str (tx l)) (fun l => V.str (tx [l.getD 0 0])) hln h2 (by omega) (fun _ => rfl) (fun l H1 e1 hl => by
      obtain ⟨c, r', rfl, _, _, h7⟩ := la l hl
      refine ev_is (ev_op (ev_var rfl) ev_c (rv_ixS (w := tx (c :: r')) (c := c) (by rw [tx_len, List.length_cons]; omega) ?_)) rfl
      exact text_at (zs := c :: r') (j := 0) (Nat.succ_pos _))
    show (∃ x, V.str Str.empty = .str x) ∧ _
    refine ⟨⟨_, rfl⟩, ?_⟩
    refine key H (Ex.refl H) _ fun p H1 np e1 hp => ?_
    refine ⟨Str.empty, p, (heads1 a).map fun c => tx [c], rfl, rfl, .inl ?_, ?_, ?_⟩
    · refine sq_of ?_
      rw [hp]
      unfold heads1
      rw [List.map_map, List.map_map]
      rfl
    · unfold heads1
      rw [List.map_map, List.map_map]
      have : (List.map (((fun x : Str => x.length) ∘ fun c => tx [c]) ∘ fun w : List Nat => w.getD 0 0) a).sum = a.length := by
        clear k l1 l2 la h2 key hp
        induction a with
        | nil => rfl
        | cons x a ih =>
          rw [List.map_cons, List.sum_cons, ih, List.length_cons]
          show 1 + _ = _
          omega
      rw [this, List.length_map, List.length_map]
      show a.length + a.length * 0 ≤ _
      omega
    · rw [Vtx.join_ones]
      exact k H1 e1
end
end K58

set_option Elab.async false
set_option linter.all false
set_option maxRecDepth 100000
set_option maxHeartbeats 4000000
/-! fits: a net of windows fits the round of them. -/
namespace K58
open PySem PySem.Spec PyProof.Rows L2 Vl Evl Vp Vx2 Vlk Vda Vc Ve Ven Vlt Vtx
abbrev sFt : Stmt := top 27
abbrev nFt : List Str := ["net", "ring", "lanes", "lane", "place"]
/-- each lane leads from its first letters to its last ones -/
def Wn (es : List Row) : Prop := ∀ r ∈ es, r.2.2.1 = r.2.1.take (r.2.1.length - 1) ∧ r.2.2.2 = r.2.1.drop 1
def prv (n k : Nat) : Nat := if k = 0 then n - 1 else k - 1
theorem prv_lt {n k : Nat} (h : k < n) : prv n k < n := by unfold prv; split <;> omega
def Turns (a : List (List Nat)) : Prop := ∀ i, i < a.length → (a.getD (prv a.length i) []).drop 1 = (a.getD i []).take ((a.getD i []).length - 1)
theorem turns_wns {t : List Nat} {s : Nat} (hs : 1 ≤ s) : Turns (wns t s) := fun i hi => by
  rw [wns_len] at hi
  have hp := prv_lt hi
  have g : ∀ {k : Nat}, k < t.length → (wns t s).getD k [] = wn t s k := fun hk => by rw [List.getD_eq_getElem?_getD, wns_get hk]; rfl
  rw [wns_len, g hp, g hi, wn_len, wn_next hs]
  have e : wn t s (prv t.length i + 1) = wn t s i := by
    rw [← wn_mod (k := prv t.length i + 1)]
    congr 1
    unfold prv
    by_cases h : i = 0
    · rw [if_pos h, h, Nat.sub_add_cancel (by omega), Nat.mod_self]
    · rw [if_neg h, Nat.sub_add_cancel (by omega), Nat.mod_eq_of_lt hi]
  rw [e]
theorem at_prv {ls : List (List Nat)} {k : Nat} (hk : k < ls.length) : atI (vtx ls) ((k : Int) - 1) = some (V.str (tx (ls.getD (prv ls.length k) []))) := by
  have hp := prv_lt hk
  have hg : (vtx ls)[prv ls.length k]? = some (V.str (tx (ls.getD (prv ls.length k) []))) := by
    refine vtx_at ?_
    rw [List.getD_eq_getElem?_getD, List.getElem?_eq_getElem hp]
    rfl
  unfold atI ixN
  rw [vtx_len]
  unfold prv at hg ⊢
  by_cases h : k = 0
  · subst h
    rw [if_neg (by omega)]
    rw [if_pos rfl] at hg ⊢
    rw [if_pos (by omega)]
    show (vtx ls)[_]? = _
    rw [← hg]
    congr 1
    omega
  · rw [if_pos (by omega), if_pos (by omega)]
    rw [if_neg h] at hg ⊢
    show (vtx ls)[_]? = _
    rw [← hg]
    congr 1
    omega
theorem row_some {es : List Row} {l : List Nat} (h : l ∈ laneNames es) : ∃ r, rowOf es l = some r := by
  cases e : rowOf es l with
  | some r => exact ⟨r, rfl⟩
  | none =>
    unfold rowOf at e
    unfold laneNames at h
    obtain ⟨r, hr, rfl⟩ := List.mem_map.mp h
    exact absurd (List.find?_eq_none.mp e r hr) (by simp)
def spFt (K : PySem.W.Frag) (C CR : Addr) : Sp := fun vs H Q _ => ∃ (o dx dp de r : Addr) (ps : List (List Nat)) (es : List Row) (a : List (List Nat)), vs = [.ref o, .ref r] ∧ NetAt C H o dx dp de ps es ∧ R58.Rnd K CR H r a ∧ a.length ≤ 1000 ∧
  (∀ l ∈ a, l ∈ laneNames es) ∧ Wn es ∧ Turns a ∧ ∀ H', Ex H H' → Q (.bl true) H'
section
variable {P : Program} {w : World} {K : PySem.W.Frag} {mg : Str → Option Value} {base : Heap} {C BN NT NP NL CR : Addr}
theorem scFt : FnScope nFt ["net", "ring"] (defScope sFt) := ⟨rfl, rfl, rfl, by decide +kernel, rfl, by decide +kernel, by decide +kernel⟩
theorem ok_ft {f : Addr} {fd : FuncData} (F : FnP K "fits" sFt f fd) (N : ND P w K mg base C BN NT NP NL) (clsR : Cls K CR) (lanR : Pr P w K mg base CR 1 "lanes" (getSp CR "_lanes")) (mAll : mg "all" = none) (mLen : mg "len" = none) (mRange : mg "range" = none) :
    FnOk P w K mg base L2.CX0 6 f fd ["net", "ring"] (spFt K C CR) := by
  refine F.ok (CX := L2.CX0) scFt (fun vs H Q E h => ?_) (fun cdv A outer s H vs Q E hr h => ?_)
  · obtain ⟨o, dx, dp, de, r, ps, es, a, rfl, _⟩ := h
    rfl
  · refine ⟨_, (pss_cons (ps_set (i := 2) scFt.nd rfl (by first | exact Or.inl rfl | exact Or.inr rfl) (pe_pr (pv 1) clsR lanR hr))
      (pss_cons (ps_if (pt_not (pt_val (pe_callB (cr_all rfl) (by rfl) mAll boot_all (pa_cons (pe_lc (own := [("lane", 3)]) (g := (gName 3)) (tt := tYes) (te := (tOp (Vo.rHas C false (spHas K C) nil0) (tVar 3) (tVar 0))) rfl scFt.nd (pi_tup (pv 2)) (blkOk_by (own := [("lane", 3)]) (N := nFt) (sc := defScope sFt) (by decide +kernel)) (fun _ _ _ _ _ => (pg_name (i := 3) scFt.nd rfl (by first | exact Or.inl rfl | exact Or.inr rfl))) (fun _ _ _ _ _ => pts_nil) (fun _ _ _ _ _ => (pe_cmpR (Vc.op_inM N.has hr) (pv 3) (pv 0) rfl))) pa_nil)))) (pss_one (ps_ret pe_bl)) pss_nil)
      (pss_one (ps_ret (pe_callB (cr_all rfl) (by rfl) mAll boot_all (pa_cons (pe_lc (own := [("place", 4)]) (g := (gName 4)) (tt := tYes) (te := (tOp rEq (Vtr.tMethS C "end_of" (spEndOf C NL fun r => r.2.2.2) (fun _ => nil0) (tVar 0) (tCons (tOp (rIxT K) (tVar 2) (tOp (rI0 fun i j => .int (i - j)) (tVar 4) (tC (.int 1)))) tNil)) (Vtr.tMethS C "start_of" (spEndOf C NL fun r => r.2.2.1) (fun _ => nil0) (tVar 0) (tCons (tOp (rIxT K) (tVar 2) (tVar 4)) tNil)))) rfl scFt.nd (pi_range1 (by rfl) mRange (pa_cons (pe_callB call_len (by rfl) mLen boot_len (pa_cons (pv 2) pa_nil)) pa_nil)) (blkOk_by (own := [("place", 4)]) (N := nFt) (sc := defScope sFt) (by decide +kernel)) (fun _ _ _ _ _ => (pg_name (i := 4) scFt.nd rfl (by first | exact Or.inl rfl | exact Or.inr rfl))) (fun _ _ _ _ _ => pts_nil) (fun _ _ _ _ _ => (pe_cmpR op_eq (pe_moN (pv 0) N.cls N.end_ hr (pa_cons (pe_ix ix_tup (pv 2) (pe_op op_sub (pv 4) pe_int) fun _ _ => rfl) pa_nil)) (pe_moN (pv 0) N.cls N.start hr (pa_cons (pe_ix ix_tup (pv 2) (pv 4) fun _ _ => rfl) pa_nil)) (nomark _)))) pa_nil)))))), ?_⟩
    obtain ⟨o, dx, dp, de, r, ps, es, a, rfl, N1, ⟨dr, q0, h1, h2⟩, ha, hin, hw, ht, k⟩ := h
    refine s_seq ?_
    refine ⟨_, rfl, r, dr, _, rfl, h1, r, dr, _, .ref q0, rfl, h1, rfl, ?_⟩
    dsimp only
    refine s_seq ?_
    refine s_when (b := false) (et_is (et_not (et_B (ev_all (bs := a.map fun l => decide (l ∈ laneNames es)) (by
        rw [List.map_map]
        exact el_lcTM (ys := a) (g := fun l => V.str (tx l)) (fun l => V.bl (decide (l ∈ laneNames es))) (ev_var rfl) h2 (by omega) (fun _ => rfl) (fun l H1 e1 hl => ev_has (ev_var rfl) (ev_var rfl) (e1 _ _ N1.at_) (sv_has (N1.mono e1))))))) (by
        rw [List.all_map, show a.all (id ∘ fun l => decide (l ∈ laneNames es)) = true from List.all_eq_true.mpr fun l hl => decide_eq_true (hin l hl)]
        rfl)) (fun z => by cases z) (fun _ H1 e1 => ?_)
    dsimp only
    have key := el_lcR1 (σ := [some (.ref o), some (.ref r), some (.ref q0), none, none]) (H := H1) (j := 4) (vs := [4]) (n := (a.length : Int)) (t := tYes) (te := tOp rEq (Vtr.tMethS C "end_of" (spEndOf C NL fun r => r.2.2.2) (fun _ => nil0) (tVar 0) (tCons (tOp (rIxT K) (tVar 2) (tOp (rI0 fun i j => .int (i - j)) (tVar 4) (tC (.int 1)))) tNil)) (Vtr.tMethS C "start_of" (spEndOf C NL fun r => r.2.2.1) (fun _ => nil0) (tVar 0) (tCons (tOp (rIxT K) (tVar 2) (tVar 4)) tNil))) (ta := tCons (tCB (fun vs H Q => ∃ x n, vs = [x] ∧ LenV K x H n ∧ Q (.int n) H) (tCons (tVar 2) tNil)) tNil) (fun _ => true) (fun i => V.bl true) (ea_cons (ev_is (ev_lenQ (ev_var rfl) (.inr (ex_t e1 h2))) (by rw [vtx_len])) ea_nil) (by omega) (fun _ => rfl) (fun i H2 e2 hi => et_yes) (fun i H2 e2 hi _ => by
        have hil : i < a.length := by omega
        have N2 := N1.mono (e1.trans e2)
        have g1 : a[i]? = some (a.getD i []) := by rw [List.getD_eq_getElem?_getD, List.getElem?_eq_getElem hil]; rfl
        have g2 : a[prv a.length i]? = some (a.getD (prv a.length i) []) := by rw [List.getD_eq_getElem?_getD, List.getElem?_eq_getElem (prv_lt hil)]; rfl
        obtain ⟨r1, hr1⟩ := row_some (hin _ (List.mem_of_getElem? g1))
        obtain ⟨r2, hr2⟩ := row_some (hin _ (List.mem_of_getElem? g2))
        obtain ⟨m1, n1⟩ := rowOf_mem hr1
        obtain ⟨m2, n2⟩ := rowOf_mem hr2
        refine ev_is (ev_op (ev_me (ev_var rfl) N2.at_ rfl (ea_cons (ev_op (ev_var rfl) (ev_op (ev_var rfl) ev_c rv_I0) (rv_ixT (ex_t (e1.trans e2) h2) (at_prv hil))) ea_nil) (sv_end N2 hr2)) (ev_me (ev_var rfl) N2.at_ rfl (ea_cons (ev_op (ev_var rfl) (ev_var rfl) (rv_ixT (ex_t (e1.trans e2) h2) (at_of rfl (vtx_at g1)))) ea_nil) (sv_end N2 hr1)) (rv_eq rfl)) ?_
        rw [(hw r2 m2).2, (hw r1 m1).1, n1, n2, ht i hil, decide_eq_true rfl])
    rw [given_all, Int.toNat_natCast] at key
    refine s_ret (v := .bl true) (ev_is (ev_all (bs := (List.range a.length).map fun i => true) (by rw [List.map_map]; exact key)) ?_) fun H2 e2 => k H2 (e1.trans e2)
    rw [List.all_map]
    congr 1
    exact List.all_eq_true.mpr fun _ _ => rfl
end
end K58

set_option Elab.async false
set_option linter.all false
set_option maxRecDepth 100000
set_option maxHeartbeats 4000000
/-! window_net. -/
namespace K58
open PySem PySem.Spec PyProof.Rows L2 Vl Evl Vp Vx2 Vlk Vda Vc Ve Ven Vlt Vtx
abbrev sWn : Stmt := top 33
abbrev nWn : List Str := ["words", "net", "post", "word"]
theorem ne_kind {H : Hp} {x y : Addr} {u v : HO} (hx : H x = some u) (hy : H y = some v) (h : u ≠ v) : x ≠ y := fun z => by
  rw [z, hy] at hx
  exact h (Option.some.inj hx).symm
theorem NetAt.addP {C : Addr} {H : Hp} {o dx dp de : Addr} {ps : List (List Nat)} (n : NetAt C H o dx dp de ps []) (hdd : dp ≠ de) (l : List Nat) : NetAt C (upd H dp (.dK (dPosts (ps ++ [l])))) o dx dp de (ps ++ [l]) [] :=
  ⟨(upd_ne (ne_kind n.at_ n.posts (by intro z; cases z))).trans n.at_, upd_same, (upd_ne hdd.symm).trans n.ends, fun _ h => nomatch h⟩
theorem NetAt.addE {C : Addr} {H : Hp} {o dx dp de t : Addr} {ps : List (List Nat)} {es : List Row} (n : NetAt C H o dx dp de ps es) (hdd : dp ≠ de) (l a b : List Nat) (ht : H t = some (.tup [.str (tx a), .str (tx b)])) : NetAt C (upd H de (.dK (dEnds (es ++ [(t, (l, a, b))])))) o dx dp de ps (es ++ [(t, (l, a, b))]) :=
  ⟨(upd_ne (ne_kind n.at_ n.ends (by intro z; cases z))).trans n.at_, (upd_ne hdd).trans n.posts, upd_same, fun e he => by
    have keep : ∀ {x : Addr} {u : List V}, H x = some (.tup u) → upd H de (.dK (dEnds (es ++ [(t, (l, a, b))]))) x = some (.tup u) := fun hx => (upd_ne (ne_kind hx n.ends (by intro z; cases z))).trans hx
    rcases List.mem_append.mp he with he | he
    · exact keep (n.rows e he)
    · rw [List.mem_singleton.mp he]
      exact keep ht⟩
def fst1 (w : List Nat) : List Nat := w.take (w.length - 1)
def ends (ws : List (List Nat)) : List (List Nat) := ws.map fst1 ++ ws.map fun w => w.drop 1
def spWn (K : PySem.W.Frag) (C BW EW : Addr) : Sp := fun vs H Q E => ∃ (t : Addr) (xs : List V), vs = [.ref t] ∧ SqA K H t xs ∧ xs.length ≤ 30 ∧
  ((∃ ws s, xs = vtx ws ∧ ws ≠ [] ∧ Wins ws s ∧ ∀ o dx dp de ps es H', Ex H H' → NetAt C H' o dx dp de ps es → Srt ps (ends ws) → Srt (laneNames es) ws → Wn es → Q (.ref o) H') ∨ RefW K BW EW H xs E)
/-- sorted texts, drawn -/
def EvS (te : TE) (σ : L2.St) (H : Hp) (xs : List (List Nat)) : Prop := ∀ Q : VK, (∀ p ys H2, H p = none → Ex H H2 → H2 p = some (.lst (vtx ys)) → Srt ys xs → Q (.ref p) H2) → te σ H Q
section
variable {P : Program} {w : World} {K : PySem.W.Frag} {σ : L2.St} {H : Hp} {te tl : TE} {xs : List (List Nat)} {D : Ends} {tu : TS} {j : Nat}
theorem s_forS (h : EvS tl σ H xs) (k : ∀ p ys H1, H p = none → Ex H H1 → H1 p = some (.lst (vtx ys)) → Srt ys xs → ∃ Pv : Nat → L2.St → Hp → Prop, Pv 0 σ H1 ∧ (∀ i σ' H', i ≤ ys.length → Pv i σ' H' → SqL K H' p (vtx ys)) ∧
    (∀ i l σ' H', ys[i]? = some l → Pv i σ' H' → tu { D with nx := Pv (i + 1), ct := Pv (i + 1), bk := D.nx } (σ'.set j (some (.str (tx l)))) H') ∧ ∀ σ' H', Pv ys.length σ' H' → D.nx σ' H') : tFor (iList K tl) (gName j) tu D σ H :=
  h _ fun p ys H1 np e hp hS => by
    obtain ⟨Pv, p0, pl, ps, pd⟩ := k p ys H1 np e hp hS
    refine ⟨p, rfl, ⟨vtx ys, sq_of hp⟩, for_list Pv p0 (fun i σ' H' hi q => pl i σ' H' (by rw [vtx_len] at hi; exact hi) q) (fun i x σ' H' hx q => ?_) (fun σ' H' q => pd σ' H' (by rw [vtx_len] at q; exact q))⟩
    unfold vtx at hx
    rw [List.getElem?_map] at hx
    obtain ⟨l, hl, rfl⟩ := Option.map_eq_some_iff.mp hx
    exact ps i l σ' H' hl q
theorem evS_new (h : EvL te σ H (vtx xs)) (hz : xs.length < 64) : EvS (tCB (Vst.rSortedSt P w) (tCons (tCB (Vst.rSetS K P w) (tCons te tNil)) tNil)) σ H xs := fun Q q => h H (Ex.refl H) _ fun p H1 np e hp =>
  ss_of (.inl (sq_of hp)) hz fun p2 ys H2 n2 e2 h2 hS => q p2 ys H2 (fresh_back e n2) (e.trans e2) h2 hS
theorem evS_at {a : Addr} (h : Ev te σ H (.ref a)) (hx : SqA K H a (vtx xs)) (hz : xs.length < 64) : EvS (tCB (Vst.rSortedSt P w) (tCons (tCB (Vst.rSetS K P w) (tCons te tNil)) tNil)) σ H xs := fun Q q => h H (Ex.refl H) _ fun H1 e =>
  ss_of (ex_a e hx) hz fun p2 ys H2 n2 e2 h2 hS => q p2 ys H2 (fresh_back e n2) (e.trans e2) h2 hS
theorem ev_fst {l : List Nat} (h : Ev te σ H (.str (tx l))) (h1 : 1 ≤ l.length) (h2 : l.length ≤ 100000) : Ev (tSl rSlS te tNoPart (tPart (tUn (rU fun i => .int (-i)) (tC (.int 1))))) σ H (.str (tx (fst1 l))) :=
  ev_is (ev_slS (lo := none) (hi := some (-1)) h eo_none (eo_some (ev_un ev_c ru_neg)) h2) (by rw [cut_last l h1]; rfl)
theorem ev_lst1 {l : List Nat} (h : Ev te σ H (.str (tx l))) (h2 : l.length ≤ 100000) : Ev (tSl rSlS te (tPart (tC (.int 1))) tNoPart) σ H (.str (tx (l.drop 1))) :=
  ev_is (ev_slS (lo := some 1) (hi := none) h (eo_some ev_c) eo_none h2) (by rw [cut_one])
end
theorem ends_len (ws : List (List Nat)) : (ends ws).length = 2 * ws.length := by
  unfold ends
  rw [List.length_append, List.length_map, List.length_map]
  omega
theorem ends_nam {ws : List (List Nat)} {s : Nat} (h : Wins ws s) : ∀ l ∈ ends ws, nam l := fun l hl => by
  unfold ends at hl
  have go : ∀ w ∈ ws, ∀ l : List Nat, (∀ c ∈ l, c ∈ w) → 1 ≤ l.length → l.length ≤ 8 → nam l := fun w hw l hc h1 h2 => by
    cases l with
    | nil => exact absurd h1 (by show ¬ 1 ≤ 0; omega)
    | cons c r =>
      have ok := (h w hw).1
      rw [List.length_cons] at h2
      exact ⟨c, r, rfl, ok_mem ok (hc c List.mem_cons_self), fun x hx => letters_signs (ok_mem ok (hc x (List.mem_cons_of_mem _ hx))), by omega⟩
  rcases List.mem_append.mp hl with hl | hl
  · obtain ⟨w, hw, rfl⟩ := List.mem_map.mp hl
    obtain ⟨n1, n2⟩ := ok_len (h w hw).1
    refine go w hw _ (fun c hc => List.mem_of_mem_take hc) ?_ ?_ <;> (unfold fst1; rw [List.length_take]; omega)
  · obtain ⟨w, hw, rfl⟩ := List.mem_map.mp hl
    obtain ⟨n1, n2⟩ := ok_len (h w hw).1
    refine go w hw _ (fun c hc => List.mem_of_mem_drop hc) ?_ ?_ <;> (rw [List.length_drop]; omega)
section
variable {P : Program} {w : World} {K : PySem.W.Frag} {mg : Str → Option Value} {base : Heap} {C BN NT NP NL BW EW : Addr}
theorem scWn : FnScope nWn ["words"] (defScope sWn) := ⟨rfl, rfl, rfl, by decide +kernel, rfl, by decide +kernel, by decide +kernel⟩
theorem ok_wnet {f : Addr} {fd : FuncData} (F : FnP K "window_net" sWn f fd) (N : ND P w K mg base C BN NT NP NL) (TCs : Fu P w K mg base (L2.CX P w) 4 "_check_words" (spCkS K BW EW)) (mSorted : mg "sorted" = none) (mSet : mg "set" = none) :
    FnOk P w K mg base (L2.CX P w) 6 f fd ["words"] (spWn K C BW EW) := by
  refine F.ok (CX := L2.CX P w) scWn (fun vs H Q E h => ?_) (fun cdv A outer s H vs Q E hr h => ?_)
  · obtain ⟨t, xs, rfl, _⟩ := h
    rfl
  · refine ⟨_, (pss_cons (ps_expr (pe_fuX (E := WE fun cls d _ H => E cls d H) TCs hr (by rfl) (fun st => passAt (takes_of rfl rfl rfl rfl) st) (pa_cons (pv 0) pa_nil)))
      (pss_cons (ps_set (i := 1) scWn.nd rfl (by first | exact Or.inl rfl | exact Or.inr rfl) (pe_nw0 N.new hr (by rfl)))
      (pss_cons (ps_for (passes_of rfl) rfl (pi_list (pe_callB (Vst.cr_sortedSt rfl) (by rfl) mSorted boot_sorted (pa_cons (pe_callTy (Vst.cr_setS rfl) (by rfl) mSet boot_set (pa_cons (pe_op op_cat (pe_lc (own := [("word", 3)]) (g := (gName 3)) (tt := tYes) (te := (tSl rSlS (tVar 3) tNoPart (tPart (tUn (rU fun i => .int (-i)) (tC (.int 1)))))) rfl scWn.nd (pi_seqA (pv 0)) (blkOk_by (own := [("word", 3)]) (N := nWn) (sc := defScope sWn) (by decide +kernel)) (fun _ _ _ _ _ => (pg_name (i := 3) scWn.nd rfl (by first | exact Or.inl rfl | exact Or.inr rfl))) (fun _ _ _ _ _ => pts_nil) (fun _ _ _ _ _ => (pe_slice sl_str (pv 3) po_none (po_some (pe_un un_neg pe_int))))) (pe_lc (own := [("word", 3)]) (g := (gName 3)) (tt := tYes) (te := (tSl rSlS (tVar 3) (tPart (tC (.int 1))) tNoPart)) rfl scWn.nd (pi_seqA (pv 0)) (blkOk_by (own := [("word", 3)]) (N := nWn) (sc := defScope sWn) (by decide +kernel)) (fun _ _ _ _ _ => (pg_name (i := 3) scWn.nd rfl (by first | exact Or.inl rfl | exact Or.inr rfl))) (fun _ _ _ _ _ => pts_nil) (fun _ _ _ _ _ => (pe_slice sl_str (pv 3) (po_some pe_int) po_none)))) pa_nil)) pa_nil))) (pg_name (i := 2) scWn.nd rfl (by first | exact Or.inl rfl | exact Or.inr rfl)) (pss_one (ps_expr (pe_moN (pv 1) N.cls N.post hr (pa_cons (pv 2) pa_nil)))))
      (pss_cons (ps_for (passes_of rfl) rfl (pi_list (pe_callB (Vst.cr_sortedSt rfl) (by rfl) mSorted boot_sorted (pa_cons (pe_callTy (Vst.cr_setS rfl) (by rfl) mSet boot_set (pa_cons (pv 0) pa_nil)) pa_nil))) (pg_name (i := 3) scWn.nd rfl (by first | exact Or.inl rfl | exact Or.inr rfl)) (pss_one (ps_expr (pe_moN (pv 1) N.cls N.lane hr (pa_cons (pv 3) (pa_cons (pe_slice sl_str (pv 3) po_none (po_some (pe_un un_neg pe_int))) (pa_cons (pe_slice sl_str (pv 3) (po_some pe_int) po_none) pa_nil)))))))
      (pss_one (ps_ret (pv 1))))))), ?_⟩
    obtain ⟨t, xs, rfl, ht, hl, h⟩ := h
    refine s_seq ?_
    refine s_call (ea_cons (ev_var rfl) ea_nil) fun H1 e1 => ⟨t, xs, rfl, ex_a e1 ht, by omega, ?_⟩
    rcases h with ⟨ws, s, rfl, hn, hw, k⟩ | h
    · refine .inl ⟨ws, s, rfl, hn, hw, fun H2 e2 => ?_⟩
      rw [vtx_len] at hl
      have e12 := e1.trans e2
      dsimp only
      refine s_seq ?_
      intro o dx no ndx nex
      refine ⟨o, dx, H2, rfl, rfl, no, ndx, nex, fun dp de H3 e3 ndp nde hdd N3 => ⟨rfl, ?_⟩⟩
      have e13 := e12.trans e3
      have hdp : H dp = none := fresh_back e12 ndp
      have hde : H de = none := fresh_back e12 nde
      refine s_seq ?_
      have wlen : ∀ l ∈ ws, 2 ≤ l.length ∧ l.length ≤ 8 := fun l h => ok_len (hw l h).1
      refine s_forS (K := K) (xs := ends ws) (evS_new (by
        have hv : vtx (ends ws) = ws.map (fun l => V.str (tx (fst1 l))) ++ ws.map (fun l => V.str (tx (l.drop 1))) := by
          unfold vtx ends
          rw [List.map_append, List.map_map, List.map_map]
          rfl
        rw [hv]
        refine el_cat2 (el_lcSM (K := K) (σ := [some (.ref t), some (.ref o), none, none]) (H := H3) (i := 0) (j := 3) (vs := [3]) (te := tSl rSlS (tVar 3) tNoPart (tPart (tUn (rU fun i => .int (-i)) (tC (.int 1))))) (ys := ws) (g := fun l => V.str (tx l)) (fun l => V.str (tx (fst1 l))) rfl (ex_a e13 ht) (by omega) (fun _ => rfl) (fun l H4 e4 hm => ?_)) (el_lcSM (K := K) (σ := [some (.ref t), some (.ref o), none, none]) (H := H3) (i := 0) (j := 3) (vs := [3]) (te := tSl rSlS (tVar 3) (tPart (tC (.int 1))) tNoPart) (ys := ws) (g := fun l => V.str (tx l)) (fun l => V.str (tx (l.drop 1))) rfl (ex_a e13 ht) (by omega) (fun _ => rfl) (fun l H4 e4 hm => ?_)) (by rw [List.length_map, List.length_map]; omega)
        · have := wlen l hm
          exact ev_fst (ev_var rfl) (by omega) (by omega)
        · have := wlen l hm
          exact ev_lst1 (ev_var rfl) (by omega)) (by rw [ends_len]; omega)) ?_
      intro p ys H4 np e4 hp hS
      have hpd : p ≠ dp := fun z => by rw [z, N3.posts] at np; cases np
      have hpe : p ≠ de := fun z => by rw [z, N3.ends] at np; cases np
      refine ⟨fun i st H' => ∃ t2, st = [some (.ref t), some (.ref o), t2, none] ∧ Ex H H' ∧ Ex (Wo (Wo H4 dp) de) H' ∧ NetAt C H' o dx dp de (ys.take i) [], ?_, ?_, ?_, ?_⟩
      · exact ⟨none, rfl, e13.trans e4, (wo_ex _ _).trans (wo_ex _ _), by rw [List.take_zero]; exact N3.mono e4⟩
      · rintro i st H' _ ⟨_, _, _, e, _⟩
        exact sq_of (e _ _ (wo_at (wo_at hp hpd) hpe))
      · rintro i l st H6 hl0 ⟨t5, rfl, e6, eB, N6⟩
        have htk : ys.take (i + 1) = ys.take i ++ [l] := by rw [List.take_succ, hl0]; rfl
        have hm := List.mem_of_getElem? hl0
        have nm := ends_nam hw l ((hS.mem l).mp hm)
        have nin : l ∉ ys.take i := fun z => by
          have nd2 := hS.nd.sublist (List.take_sublist (i + 1) ys)
          rw [htk, List.nodup_append] at nd2
          exact nd2.2.2 _ z _ (List.mem_singleton.mpr rfl) rfl
        have ltk : (ys.take i).length ≤ 60 := by
          have := hS.len
          rw [ends_len] at this
          rw [List.length_take]
          omega
        refine ⟨_, rfl, o, dx, _, rfl, N6.at_, rfl, _, rfl, o, dx, dp, de, ys.take i, [], _, rfl, N6, by omega, .inl ⟨nm, nin, fun H7 e7 => ?_⟩⟩
        refine ⟨_, rfl, Ex.mut (e6.trans e7) hdp, Ex.mut (eB.trans e7) ?_, ?_⟩
        · rw [wo_ne hdd, wo_self]
        · rw [htk]
          exact (N6.mono e7).addP hdd l
      rintro st H6 ⟨t5, rfl, e6, eB, N6⟩
      rw [List.take_length] at N6
      refine s_seq ?_
      dsimp only
      refine s_forS (K := K) (xs := ws) (evS_at (ev_var rfl) (ex_a e6 ht) (by omega)) ?_
      intro p2 zs H7 np2 e7 hp2 hS2
      have hpd2 : p2 ≠ dp := fun z => by rw [z, N6.posts] at np2; cases np2
      have hpe2 : p2 ≠ de := fun z => by rw [z, N6.ends] at np2; cases np2
      refine ⟨fun i st H' => ∃ t2 t3 es, st = [some (.ref t), some (.ref o), t2, t3] ∧ Ex H H' ∧ Ex (Wo (Wo H7 dp) de) H' ∧ NetAt C H' o dx dp de ys es ∧ laneNames es = zs.take i ∧ Wn es, ?_, ?_, ?_, ?_⟩
      · exact ⟨_, none, [], rfl, e6.trans e7, (wo_ex _ _).trans (wo_ex _ _), N6.mono e7, by rw [List.take_zero]; rfl, fun _ h => nomatch h⟩
      · rintro i st H' _ ⟨_, _, _, _, _, e, _⟩
        exact sq_of (e _ _ (wo_at (wo_at hp2 hpd2) hpe2))
      · rintro i l st H8 hl0 ⟨t2, t3, es, rfl, e8, eB2, N8, hln, hwn⟩
        have htk : zs.take (i + 1) = zs.take i ++ [l] := by rw [List.take_succ, hl0]; rfl
        have hm := (hS2.mem l).mp (List.mem_of_getElem? hl0)
        have hll := wlen l hm
        have nm : nam l := nam_ok (hw l hm).1 (by omega) (by omega)
        have nin : l ∉ laneNames es := fun z => by
          rw [hln] at z
          have nd2 := hS2.nd.sublist (List.take_sublist (i + 1) zs)
          rw [htk, List.nodup_append] at nd2
          exact nd2.2.2 _ z _ (List.mem_singleton.mpr rfl) rfl
        have les : es.length ≤ 60 := by
          have h1 := congrArg List.length hln
          unfold laneNames at h1
          rw [List.length_map, List.length_take] at h1
          have := hS2.len
          omega
        have i1 : fst1 l ∈ ys := (hS.mem _).mpr (List.mem_append_left _ (List.mem_map_of_mem hm))
        have i2 : l.drop 1 ∈ ys := (hS.mem _).mpr (List.mem_append_right _ (List.mem_map_of_mem (f := fun w : List Nat => w.drop 1) hm))
        have args : EvA (tCons (tVar 3) (tCons (tSl rSlS (tVar 3) tNoPart (tPart (tUn (rU fun i => .int (-i)) (tC (.int 1))))) (tCons (tSl rSlS (tVar 3) (tPart (tC (.int 1))) tNoPart) tNil))) [some (.ref t), some (.ref o), t2, some (.str (tx l))] H8 [.str (tx l), .str (tx (fst1 l)), .str (tx (l.drop 1))] :=
          ea_cons (ev_var rfl) (ea_cons (ev_fst (ev_var rfl) (by omega) (by omega)) (ea_cons (ev_lst1 (ev_var rfl) (by omega)) ea_nil))
        refine ⟨_, rfl, o, dx, _, rfl, N8.at_, rfl, args H8 (Ex.refl _) _ fun H9 e9 => ⟨o, dx, dp, de, ys, es, l, fst1 l, l.drop 1, rfl, N8.mono e9, by omega, .inl ⟨nm, nin, i1, i2, fun t' H10 e10 nt ht' => ?_⟩⟩⟩
        have e8' := e9.trans e10
        refine ⟨_, _, es ++ [(t', (l, fst1 l, l.drop 1))], rfl, Ex.mut (e8.trans e8') hde, Ex.mut (eB2.trans e8') (wo_self _ _), (N8.mono e8').addE hdd _ _ _ ht', ?_, ?_⟩
        · rw [htk, ← hln]
          unfold laneNames
          rw [List.map_append]
          rfl
        · intro r hr'
          rcases List.mem_append.mp hr' with hr' | hr'
          · exact hwn r hr'
          · rw [List.mem_singleton.mp hr']
            exact ⟨rfl, rfl⟩
      · rintro st H8 ⟨t2, t3, es, rfl, e8, eB2, N8, hln, hwn⟩
        rw [List.take_length] at hln
        exact s_ret (ev_var rfl) fun H9 e9 => k o dx dp de ys es H9 (e8.trans e9) (N8.mono e9) hS (by rw [hln]; exact hS2) hwn
    · exact .inr (h.grow e1)
end
end K58

set_option Elab.async false
set_option linter.all false
set_option maxRecDepth 100000
set_option maxHeartbeats 4000000
/-! The law's windows. -/
namespace K58
open PySem PySem.Spec PyProof.Rows L2 Vl Evl Vp Vx2 Vlk Vda Vc Ve Ven Vlt Vtx
abbrev sLw : Stmt := top 44
abbrev nLw : List Str := ["_law_text_here", "_law_size", "_law_long", "_law_found", "_law_k", "_law_one"]
def spLw : Sp := fun vs H Q _ => ∃ (t : List Nat) (s : Nat), vs = [.str (tx t), .int (s : Nat)] ∧ 1 ≤ t.length ∧ t.length ≤ 40 ∧ s ≤ 8 ∧ ∀ p ys H', H p = none → Ex H H' → H' p = some (.lst (vtx ys)) → Srt ys (wns t s) → Q (.ref p) H'
theorem rp_snoc {α : Type} (t : List α) (k : Nat) : Vq.rp k t ++ t = Vq.rp (k + 1) t := by
  unfold Vq.rp
  rw [List.replicate_succ', List.flatten_append, List.flatten_cons, List.flatten_nil, List.append_nil]
theorem put_same (ks : List (List Nat)) (l : List Nat) : putK (dPosts ks) (Sum.inr (tx l) : Key) (V.bl true) = dPosts (if l ∈ ks then ks else ks ++ [l]) := by
  have hv := posts_val ks l
  by_cases h : l ∈ ks
  · rw [if_pos h]
    unfold putK
    rw [valV_any, hv, decide_eq_true h, if_pos rfl]
    unfold dPosts
    rw [List.map_map]
    refine List.map_congr_left fun x _ => ?_
    show (if (Sum.inr (tx x) : Key) = Sum.inr (tx l) then ((Sum.inr (tx x) : Key), V.bl true) else (Sum.inr (tx x), V.bl true)) = _
    split <;> rfl
  · rw [if_neg h, putK_new _ (Option.not_isSome_iff_eq_none.mp (by rw [hv, decide_eq_false h]; decide))]
    unfold dPosts
    rw [List.map_append]
    rfl
section
variable {P : Program} {w : World} {K : PySem.W.Frag} {mg : Str → Option Value} {base : Heap}
theorem scLw : FnScope nLw ["_law_text_here", "_law_size"] (defScope sLw) := ⟨rfl, rfl, rfl, by decide +kernel, rfl, by decide +kernel, by decide +kernel⟩
theorem ok_lw {f : Addr} {fd : FuncData} (F : FnP K "_law_windows" sLw f fd) (mLen : mg "len" = none) (mRange : mg "range" = none) (mSorted : mg "sorted" = none) (mStr : mg "str" = none) :
    FnOk P w K mg base L2.CX0 1 f fd ["_law_text_here", "_law_size"] spLw := by
  refine F.ok (CX := L2.CX0) scLw (fun vs H Q E h => ?_) (fun cdv A outer s H vs Q E hr h => ?_)
  · obtain ⟨t, s, rfl, _⟩ := h
    rfl
  · refine ⟨_, (pss_cons (ps_set (i := 2) scLw.nd rfl (by first | exact Or.inl rfl | exact Or.inr rfl) (pv 0))
      (pss_cons (ps_while (passes_of rfl) (pt_cmpR op_lt (pe_callB call_len (by rfl) mLen boot_len (pa_cons (pv 2) pa_nil)) (pe_op op_add (pe_callB call_len (by rfl) mLen boot_len (pa_cons (pv 0) pa_nil)) (pv 1)) (nomark _)) (pss_one (ps_set (i := 2) scLw.nd rfl (by first | exact Or.inl rfl | exact Or.inr rfl) (pe_op op_add_str (pv 2) (pv 0)))))
      (pss_cons (ps_set (i := 3) scLw.nd rfl (by first | exact Or.inl rfl | exact Or.inr rfl) pe_dnewK)
      (pss_cons (ps_for (passes_of rfl) rfl (pi_range1 (by rfl) mRange (pa_cons (pe_callB call_len (by rfl) mLen boot_len (pa_cons (pv 0) pa_nil)) pa_nil)) (pg_name (i := 4) scLw.nd rfl (by first | exact Or.inl rfl | exact Or.inr rfl)) (pss_one (ps_dput (Nat.lt_of_le_of_lt (Nat.add_le_add_left (show 1 ≤ 64 by decide) _) hr.units) (pv 3) (pe_slice sl_str (pv 2) (po_some (pv 4)) (po_some (pe_op op_add (pv 4) (pv 1)))) pe_bl rfl)))
      (pss_one (ps_ret (pe_callB cr_sortedS (by rfl) mSorted boot_sorted (pa_cons (pe_lock (pe_lc (own := [("_law_one", 5)]) (g := (gName 5)) (tt := tYes) (te := tCB (fun xs H Q => ∃ a, xs = [.str a] ∧ Q (.str a) H) (tCons (tVar 5) tNil)) rfl scLw.nd (pi_keys (pv 3)) (blkOk_by (own := [("_law_one", 5)]) (N := nLw) (sc := defScope sLw) (by decide +kernel)) (fun _ _ _ _ _ => (pg_name (i := 5) scLw.nd rfl (by first | exact Or.inl rfl | exact Or.inr rfl))) (fun _ _ _ _ _ => pts_nil) (fun _ _ _ _ _ => (pe_callTy SkE.call_str_str (by rfl) mStr boot_str (pa_cons (pv 5) pa_nil))))) pa_nil)))))))), ?_⟩
    obtain ⟨t, s, rfl, n1, n2, hs, q⟩ := h
    refine s_seq ?_
    refine s_asg (ev_var rfl) fun H1 e1 => ?_
    dsimp only
    refine s_seq ?_
    refine s_while (fun m σ' H' => ∃ k : Nat, 1 ≤ k ∧ σ' = [some (.str (tx t)), some (.int (s : Nat)), some (.str (tx (Vq.rp k t))), none, none, none] ∧ Ex H H' ∧ k * t.length ≤ 2 * t.length + s ∧ m = 2 * t.length + s + 1 - k * t.length) (t.length + s + 1) ⟨1, Nat.le_refl _, by rw [rp_one']; rfl, e1, by omega, by omega⟩ ?_
    rintro m σ' H2 ⟨k, hk, rfl, e2, hkn, rfl⟩
    have hkl : (Vq.rp k t).length = k * t.length := Vq.rp_len _ _
    refine ⟨decide (k * t.length < t.length + s), et_test (ev_is (ev_op (ev_lenS (l := Vq.rp k t) (ev_var rfl) (by omega)) (ev_op (ev_lenS (l := t) (ev_var rfl) (by omega)) (ev_var rfl) rv_I0) rv_I0) ?_), fun hb H3 e3 => ?_, fun hb H3 e3 => ?_⟩
    · rw [hkl]
      congr 1
      rw [decide_eq_decide]
      omega
    · have hlt := of_decide_eq_true hb
      refine ⟨fun σ2 H4 => σ2 = [some (.str (tx t)), some (.int (s : Nat)), some (.str (tx (Vq.rp (k + 1) t))), none, none, none] ∧ Ex H H4, ?_, ?_⟩
      · rintro σ2 H4 ⟨rfl, e4⟩
        have hsm : (k + 1) * t.length = k * t.length + t.length := Nat.succ_mul _ _
        exact ⟨_, by omega, k + 1, by omega, rfl, e4, by omega, rfl⟩
      · refine s_asg (v := .str (tx (Vq.rp (k + 1) t))) (ev_is (ev_op (ev_var rfl) (ev_var rfl) (rv_cats (by rw [hkl]; omega))) (by rw [rp_snoc])) fun H4 e4 => ⟨rfl, (e2.trans e3).trans e4⟩
    · have hge := of_decide_eq_false hb
      dsimp only
      refine s_seq ?_
      intro d nd
      have e23 := e2.trans e3
      have hd0 : H d = none := fresh_back e23 nd
      dsimp only
      refine s_seq ?_
      refine s_forR1 (n := (t.length : Int)) (ea_cons (ev_lenS (l := t) (ev_var rfl) (by omega)) ea_nil) (by omega) (fun i st H' => ∃ t4 ks, st = [some (.str (tx t)), some (.int (s : Nat)), some (.str (tx (Vq.rp k t))), some (.ref d), t4, none] ∧ Ex H H' ∧ H' d = some (.dK (dPosts ks)) ∧ ks.Nodup ∧ (∀ w, w ∈ ks ↔ ∃ j, j < i ∧ w = wn t s j) ∧ ks.length ≤ i) ?_ ?_ ?_
      · intro H4 e4
        exact ⟨none, [], rfl, (e23.trans (Ex.new nd)).trans e4, e4 _ _ upd_same, .nil, fun w => ⟨(fun h => nomatch h), fun ⟨j, hj, _⟩ => absurd hj (Nat.not_lt_zero j)⟩, Nat.le_refl _⟩
      · rintro i st H4 hi ⟨t4, ks, rfl, e4, hd4, hnd, hks, hlen⟩
        have hi : i < t.length := by omega
        have hw : Ev (tSl rSlS (tVar 2) (tPart (tVar 4)) (tPart (tOp (rI0 fun i j => .int (i + j)) (tVar 4) (tVar 1)))) [some (.str (tx t)), some (.int (s : Nat)), some (.str (tx (Vq.rp k t))), some (.ref d), some (.int (i : Nat)), none] H4 (.str (tx (wn t s i))) := by
          refine ev_is (ev_slS (l := Vq.rp k t) (lo := some (i : Int)) (hi := some ((i + s : Nat) : Int)) (ev_var rfl) (eo_some (ev_var rfl)) (eo_some (ev_is (ev_op (ev_var rfl) (ev_var rfl) rv_I0) (by rfl))) (by rw [hkl]; omega)) ?_
          rw [cut_pq, Nat.add_sub_cancel_left, rp_win (by omega)]
        show sDPut _ _ _ _ [some (.str (tx t)), some (.int (s : Nat)), some (.str (tx (Vq.rp k t))), some (.ref d), some (.int (i : Nat)), none] H4
        refine ⟨_, rfl, hw H4 (Ex.refl _) _ fun H5 e5 => ⟨d, _, rfl, DPut.k (k := (Sum.inr (tx (wn t s i)) : Key)) (e5 _ _ hd4) (sz_lt (by unfold dPosts; rw [List.length_map]; omega)), ?_⟩⟩
        rw [put_same]
        refine ⟨_, _, rfl, Ex.mut (e4.trans e5) hd0, upd_same, ?_, fun w => ?_, ?_⟩
        · by_cases h : wn t s i ∈ ks
          · rw [if_pos h]; exact hnd
          · rw [if_neg h, List.nodup_append]
            exact ⟨hnd, List.nodup_cons.mpr ⟨List.not_mem_nil, .nil⟩, fun a ha b hb z => h (by rw [← List.mem_singleton.mp hb, ← z]; exact ha)⟩
        · have hx : w ∈ (if wn t s i ∈ ks then ks else ks ++ [wn t s i]) ↔ w ∈ ks ∨ w = wn t s i := by
            by_cases h : wn t s i ∈ ks
            · rw [if_pos h]
              exact ⟨.inl, fun z => z.elim id fun z => by rw [z]; exact h⟩
            · rw [if_neg h, List.mem_append, List.mem_singleton]
          rw [hx, hks]
          constructor
          · rintro (⟨j, hj, rfl⟩ | rfl)
            · exact ⟨j, by omega, rfl⟩
            · exact ⟨i, by omega, rfl⟩
          · rintro ⟨j, hj, rfl⟩
            by_cases hji : j = i
            · exact .inr (by rw [hji])
            · exact .inl ⟨j, by omega, rfl⟩
        · by_cases h : wn t s i ∈ ks
          · rw [if_pos h]; omega
          · rw [if_neg h, List.length_append, List.length_singleton]; omega
      · rintro st H4 ⟨t4, ks, rfl, e4, hd4, hnd, hks, hlen⟩
        rw [Int.toNat_natCast] at hks hlen
        dsimp only
        have key := el_keysV (σ := [some (.str (tx t)), some (.int (s : Nat)), some (.str (tx (Vq.rp k t))), some (.ref d), t4, none]) (H := H4) (td := tVar 3) (te := tCB (fun xs H Q => ∃ a, xs = [.str a] ∧ Q (.str a) H) (tCons (tVar 5) tNil)) (j := 5) (d := d) (kvs := dPosts ks) (fun k => match k with | Sum.inr z => V.str z | _ => .non) hd4 (by unfold dPosts; rw [List.length_map]; omega) (fun _ => rfl) (fun H1 od _ => ev_var rfl) (fun H1 od kv e hm => by
          unfold dPosts at hm
          obtain ⟨l, _, rfl⟩ := List.mem_map.mp hm
          exact fun H5 e5 Q q => ⟨_, rfl, tx l, rfl, q H5 (Ex.refl _)⟩)
        have hv : (dPosts ks).map (fun kv => (match kv.1 with | Sum.inr z => V.str z | _ => V.non)) = vtx ks := by
          unfold dPosts vtx
          rw [List.map_map]
          rfl
        rw [hv] at key
        refine key H4 (Ex.refl _) _ fun p H5 np e5 hp => ?_
        refine so_of (sq_of hp) hnd (by omega) fun p2 ys H6 n6 e6 h6 hS => q p2 ys H6 (fresh_back (e4.trans e5) n6) ((e4.trans e5).trans e6) h6 (hS.of fun w => ?_)
        rw [hks, wns_mem]
end
end K58

set_option Elab.async false
set_option linter.all false
set_option maxRecDepth 100000
set_option maxHeartbeats 4000000
/-! The law's text. -/
namespace K58
open PySem PySem.Spec PyProof.Rows L2 Vl Evl Vp Vx2 Vlk Vda Vc Ve Ven Vlt Vtx
abbrev sTx : Stmt := top 45
abbrev nTx : List Str := ["_law_pool_here", "_law_most", "_law_letters", "_law_text_here", "_law_k"]
def spTx : Sp := fun vs H Q _ => ∃ (p : Addr) (most : Nat) (ls : List Nat) (Hk : Hp) (n : Nat), vs = [.ref p, .int (most : Nat), .str (tx ls)] ∧ 1 ≤ most ∧ most ≤ 30 ∧ 1 ≤ ls.length ∧ ls.length ≤ 26 ∧ (∀ c ∈ ls, c ∈ letters) ∧ Pl Hk p n H ∧ n ≤ 90000 ∧
  ∀ t H', okW t 1 most = true → Pl Hk p (n + 50) H' → Q (.str (tx t)) H'
theorem okW_of {t : List Nat} {lo hi : Nat} (h1 : lo ≤ t.length) (h2 : t.length ≤ hi) (h : ∀ c ∈ t, c ∈ letters) : okW t lo hi = true := by
  unfold okW
  rw [decide_eq_true h1, decide_eq_true h2]
  exact List.all_eq_true.mpr fun c hc => decide_eq_true (h c hc)
section
variable {P : Program} {w : World} {K : PySem.W.Frag} {mg : Str → Option Value} {base : Heap}
theorem scTx : FnScope nTx ["_law_pool_here", "_law_most", "_law_letters"] (defScope sTx) := ⟨rfl, rfl, rfl, by decide +kernel, rfl, by decide +kernel, by decide +kernel⟩
theorem ok_tx {f : Addr} {fd : FuncData} (F : FnP K "_law_text" sTx f fd) (TT : Fu P w K mg base L2.CX0 1 "_law_take" spTake) (mLen : mg "len" = none) (mRange : mg "range" = none) :
    FnOk P w K mg base L2.CX0 2 f fd ["_law_pool_here", "_law_most", "_law_letters"] spTx := by
  refine F.ok (CX := L2.CX0) scTx (fun vs H Q E h => ?_) (fun cdv A outer s H vs Q E hr h => ?_)
  · obtain ⟨p, most, ls, Hk, n, rfl, _⟩ := h
    rfl
  · refine ⟨_, (pss_cons (ps_set (i := 3) scTx.nd rfl (by first | exact Or.inl rfl | exact Or.inr rfl) pe_str)
      (pss_cons (ps_for (passes_of rfl) rfl (pi_range1 (by rfl) mRange (pa_cons (pe_op op_add pe_int (pe_fu TT hr (by rfl) (pa_cons (pv 0) (pa_cons (pv 1) pa_nil)))) pa_nil)) (pg_name (i := 4) scTx.nd rfl (by first | exact Or.inl rfl | exact Or.inr rfl)) (pss_one (ps_set (i := 3) scTx.nd rfl (by first | exact Or.inl rfl | exact Or.inr rfl) (pe_op op_add_str (pv 3) (pe_ix ix_str (pv 2) (pe_fu TT hr (by rfl) (pa_cons (pv 0) (pa_cons (pe_callB call_len (by rfl) mLen boot_len (pa_cons (pv 2) pa_nil)) pa_nil))) fun _ _ => rfl)))))
      (pss_cons (ps_if (PW.pt (pw_and (pt_cmpR op_eq (pe_fu TT hr (by rfl) (pa_cons (pv 0) (pa_cons pe_int pa_nil))) pe_int (nomark _)) (pw_and1 (pt_cmpR op_le (pe_op op_mul pe_int (pe_callB call_len (by rfl) mLen boot_len (pa_cons (pv 3) pa_nil))) (pv 1) (nomark _))))) (pss_one (ps_set (i := 3) scTx.nd rfl (by first | exact Or.inl rfl | exact Or.inr rfl) (pe_op op_add_str (pv 3) (pv 3)))) pss_nil)
      (pss_one (ps_ret (pv 3)))))), ?_⟩
    obtain ⟨p, most, ls, Hk, n, rfl, hm1, hm2, hl1, hl2, hls, hp, hn, q⟩ := h
    refine s_seq ?_
    refine s_asg ev_c fun H1 e1 => ?_
    have hp1 := hp.grow e1
    dsimp only
    refine s_seq ?_
    refine ⟨_, rfl, _, rfl, p, (most : Int), Wo H1 p, n, rfl, by omega, by omega, hp1.re, by omega, fun r H2 r0 r1 hp2' => ⟨1, r, rfl, rfl, 1 + r, rfl, by omega, by omega, ?_⟩⟩
    have hp2 := hp1.back hp2'
    refine for_range (lo := 0) (n := (1 + r).toNat) (fun i st H' => ∃ t4 t, st = [some (.ref p), some (.int (most : Nat)), some (.str (tx ls)), some (.str (tx t)), t4] ∧ t.length = i ∧ (∀ c ∈ t, c ∈ letters) ∧ Pl Hk p (n + 1 + i) H') ⟨none, [], rfl, rfl, (fun _ h => nomatch h), hp2⟩ ?_ ?_
    · rintro i st H3 hi ⟨t4, t, rfl, hti, hc, hp3⟩
      show tAsg _ _ _ [some (.ref p), some (.int (most : Nat)), some (.str (tx ls)), some (.str (tx t)), some (.int ((0 : Int) + (i : Int)))] H3
      refine ⟨_, rfl, _, rfl, _, rfl, _, rfl, V.str (tx ls), ls.length, rfl, ⟨sz_of (by rw [tx_len]; omega), rfl⟩, p, (ls.length : Int), Wo H3 p, _, rfl, by omega, by omega, hp3.re, by omega, fun r2 H4 r20 r21 hp4' => ?_⟩
      have hp4 := hp3.back hp4'
      obtain ⟨k, rfl⟩ := Int.eq_ofNat_of_zero_le r20
      have hk : k < ls.length := by omega
      refine ⟨tx ls, (k : Int), ls.getD k 0, rfl, rfl, sz_of (by rw [tx_len]; omega), text_at hk, tx t, tx [ls.getD k 0], rfl, rfl, sz_of (by rw [tx_len, tx_len, List.length_singleton]; omega), ?_⟩
      refine ⟨_, t ++ [ls.getD k 0], by rw [tx_app]; rfl, by rw [List.length_append, List.length_singleton, hti], fun c hcm => ?_, hp4⟩
      rcases List.mem_append.mp hcm with h | h
      · exact hc c h
      · rw [List.mem_singleton.mp h]
        exact hls _ (getD_mem hk)
    · rintro st H3 ⟨t4, t, rfl, hti, hc, hp3⟩
      have ht1 : t.length = (1 + r).toNat := hti
      dsimp only
      refine s_seq ?_
      refine ⟨_, rfl, p, 5, Wo H3 p, _, rfl, by omega, by omega, hp3.re, by omega, fun r2 H4 r20 r21 hp4' => ⟨rfl, _, rfl, ?_⟩⟩
      have hp4 := hp3.back hp4'
      have last : ∀ {H5 : Hp}, Ex H4 H5 → q = q := fun _ => rfl
      cases hb : decide (V.int r2 = V.int 0) with
      | false =>
        dsimp only
        rw [if_neg (by decide)]
        refine s_ret (ev_var rfl) fun H5 e5 => q t H5 (okW_of (by omega) (by omega) hc) ((hp4.grow e5).cnt (by omega))
      | true =>
        dsimp only
        rw [if_pos rfl]
        refine et_test (b := decide ((2 * (t.length : Int)) ≤ most)) (ev_op (ev_op ev_c (ev_lenS (l := t) (ev_var rfl) (by omega)) (rv_I (.inl ⟨by omega, by omega⟩))) (ev_var rfl) rv_I0) H4 (Ex.refl _) _ fun H5 e5 => ?_
        cases hb2 : decide ((2 * (t.length : Int)) ≤ most) with
        | false =>
          rw [if_neg (by decide)]
          refine s_ret (ev_var rfl) fun H6 e6 => q t H6 (okW_of (by omega) (by omega) hc) ((hp4.grow (e5.trans e6)).cnt (by omega))
        | true =>
          have h2 := of_decide_eq_true hb2
          rw [if_pos rfl]
          refine s_asg (v := .str (tx (t ++ t))) (ev_op (ev_var rfl) (ev_var rfl) (rv_cats (by omega))) fun H6 e6 => ?_
          dsimp only
          refine s_ret (v := .str (tx (t ++ t))) (ev_var rfl) fun H7 e7 => q (t ++ t) H7 (okW_of (by rw [List.length_append]; omega) (by rw [List.length_append]; omega) fun c hcm => (List.mem_append.mp hcm).elim (hc c) (hc c)) ((hp4.grow ((e5.trans e6).trans e7)).cnt (by omega))
end
end K58

set_option Elab.async false
set_option linter.all false
set_option maxRecDepth 100000
set_option maxHeartbeats 2000000
/-! Comprehensions whose items are new objects: what is known of each. -/
namespace Vlp
open PySem PySem.Spec PyProof.Rows L2 Vl Evl Vp Vr Ve
inductive All2 {α : Type} (R : α → V → Prop) : List α → List V → Prop
  | nil : All2 R [] []
  | cons {y : α} {v : V} {ys : List α} {vs : List V} (h : R y v) (r : All2 R ys vs) : All2 R (y :: ys) (v :: vs)
theorem All2.len {α : Type} {R : α → V → Prop} {ys : List α} {vs : List V} (h : All2 R ys vs) : vs.length = ys.length := by
  induction h with
  | nil => rfl
  | cons _ _ ih => rw [List.length_cons, List.length_cons, ih]
theorem All2.imp {α : Type} {R S : α → V → Prop} (hi : ∀ y v, R y v → S y v) {ys : List α} {vs : List V} (h : All2 R ys vs) : All2 S ys vs := by
  induction h with
  | nil => exact .nil
  | cons h _ ih => exact .cons (hi _ _ h) ih
theorem All2.snoc {α : Type} {R : α → V → Prop} {ys : List α} {vs : List V} {y : α} {v : V} (h : All2 R ys vs) (hy : R y v) : All2 R (ys ++ [y]) (vs ++ [v]) := by
  induction h with
  | nil => exact .cons hy .nil
  | cons h _ ih => exact .cons h ih
theorem All2.get {α : Type} {R : α → V → Prop} {ys : List α} {vs : List V} (h : All2 R ys vs) : ∀ {i : Nat} {v : V}, vs[i]? = some v → ∃ y, ys[i]? = some y ∧ R y v := by
  induction h with
  | nil => intro i v h; cases h
  | cons h _ ih =>
    intro i v hv
    cases i with
    | zero => exact ⟨_, rfl, by cases hv; exact h⟩
    | succ i => exact ih hv
theorem All2.dpa {α : Type} {K : PySem.W.Frag} {H : Hp} {d : α → PyData} {R : α → V → Prop} (hd : ∀ y v, R y v → Dp K H v (d y)) {ys : List α} {vs : List V} (h : All2 R ys vs) : DpAll K H vs (ys.map d) := by
  induction h with
  | nil => exact .nil
  | cons h _ ih => exact .cons (hd _ _ h) ih
/-- stays when the heap grows, and when a list changes -/
structure Stay (R : V → Hp → Prop) : Prop where
  ex : ∀ {v H H'}, Ex H H' → R v H → R v H'
  mu : ∀ {v H a xs ys}, H a = some (.lst xs) → R v H → R v (upd H a (.lst ys))
def EvP (te : TE) (σ : L2.St) (H : Hp) (R : V → Hp → Prop) : Prop := ∀ H1, Ex H H1 → ∀ Q : VK, (∀ v H2, Ex H1 H2 → R v H2 → Q v H2) → te σ H1 Q
def EvPL {α : Type} (te : TE) (σ : L2.St) (H : Hp) (ys : List α) (R : α → V → Hp → Prop) : Prop :=
  ∀ H1, Ex H H1 → ∀ Q : VK, (∀ p xs H2, H1 p = none → Ex H1 H2 → H2 p = some (.lst xs) → All2 (fun y v => R y v H2) ys xs → Q (.ref p) H2) → te σ H1 Q
section
variable {K : PySem.W.Frag} {α : Type} {te : TE} {tt : TT} {σ : L2.St} {H : Hp} {R : α → V → Hp → Prop}
def Cp (H : Hp) (R : α → V → Hp → Prop) (Dl : Addr) (zs : List α) (H' : Hp) : Prop := H Dl = none ∧ Ex H H' ∧ ∃ acc, H' Dl = some (.lst acc) ∧ All2 (fun y v => R y v H') zs acc
theorem cp_turn {H H' : Hp} {Dl : Addr} {zs zs' : List α} {y : α} {b : Bool} {σ2 : L2.St} (st : ∀ y, Stay (R y)) (p : Cp H R Dl zs H') (hi : zs.length < 50000) (ht : EvT tt σ2 H b) (he : b = true → EvP te σ2 H (R y)) (h1 : b = true → zs' = zs ++ [y]) (h0 : b = false → zs' = zs) :
    tt σ2 H' fun b H3 => if b = true then te σ2 H3 fun v H4 => ∃ acc, H4 Dl = some (.lst acc) ∧ acc.length < sizeLine ∧ Cp H R Dl zs' (upd H4 Dl (.lst (acc ++ [v]))) else Cp H R Dl zs' H3 := by
  obtain ⟨p1, p2, acc, p3, p4⟩ := p
  refine ht H' p2 _ fun H3 e3 => ?_
  cases b with
  | true =>
    show te σ2 H3 fun v H4 => ∃ acc, H4 Dl = some (.lst acc) ∧ acc.length < sizeLine ∧ Cp H R Dl zs' (upd H4 Dl (.lst (acc ++ [v])))
    refine he rfl H3 (p2.trans e3) _ fun v H4 e4 hv => ⟨acc, e4 Dl _ (e3 Dl _ p3), sz_lt (by rw [p4.len]; omega), p1, Ex.mut ((p2.trans e3).trans e4) p1, _, upd_same, ?_⟩
    have hD := e4 Dl _ (e3 Dl _ p3)
    rw [h1 rfl]
    exact (p4.imp fun z u hu => (st z).mu hD ((st z).ex (e3.trans e4) hu)).snoc ((st y).mu hD hv)
  | false =>
    show Cp H R Dl zs' H3
    rw [h0 rfl]
    exact ⟨p1, p2.trans e3, acc, e3 Dl _ p3, p4.imp fun z u hu => (st z).ex e3 hu⟩
theorem filt_yes {ys : List α} {c : α → Bool} {i : Nat} {y : α} (hy : ys[i]? = some y) (h : c y = true) : (ys.take (i + 1)).filter c = (ys.take i).filter c ++ [y] := by
  rw [List.take_add_one, hy, List.filter_append]
  show _ ++ List.filter c [y] = _
  rw [List.filter_cons_of_pos h]
  rfl
theorem filt_no {ys : List α} {c : α → Bool} {i : Nat} {y : α} (hy : ys[i]? = some y) (h : c y = false) : (ys.take (i + 1)).filter c = (ys.take i).filter c := by
  rw [List.take_add_one, hy, List.filter_append]
  show _ ++ List.filter c [y] = _
  rw [List.filter_cons_of_neg (by rw [h]; decide)]
  show _ ++ [] = _
  rw [List.append_nil]
theorem filt_len {ys : List α} {c : α → Bool} {i : Nat} (hz : ys.length ≤ 40000) : ((ys.take i).filter c).length < 50000 := by
  have h1 := List.length_filter_le c (ys.take i)
  rw [List.length_take] at h1
  omega
/-- over a list that stands -/
theorem ep_lcA {ys : List α} {g : α → V} {a : Addr} {tl : TE} {j : Nat} {vs : List Nat} (c : α → Bool) (st : ∀ y, Stay (R y)) (h : Ev tl σ H (.ref a)) (hx : SqL K H a (ys.map g)) (hz : ys.length ≤ 40000) (hw : ∀ x, wipe ((wipe σ vs).set j (some x)) vs = wipe σ vs)
    (ht : ∀ (y : α) (H1 : Hp), Ex H H1 → y ∈ ys → EvT tt ((wipe σ vs).set j (some (g y))) H1 (c y)) (he : ∀ (y : α) (H1 : Hp), Ex H H1 → y ∈ ys → c y = true → EvP te ((wipe σ vs).set j (some (g y))) H1 (R y)) :
    EvPL (tLc (iList K tl) (gName j) tt te vs) σ H (ys.filter c) R := fun H0 e Q q => h H0 e _ fun H1 e1 => ⟨a, rfl, ⟨ys.map g, ex_l (e.trans e1) hx⟩, fun Dl hD => by
  refine lc_list (xs := ys.map g) (fun i => Cp H1 R Dl ((ys.take i).filter c)) ⟨hD, Ex.new hD, _, upd_same, by rw [List.take_zero]; exact .nil⟩ (fun i H' _ p => ex_l ((e.trans e1).trans p.2.1) hx) (fun i x H' hi p => ⟨hw x, ?_⟩)
    (fun H' p => by
      rw [List.length_map, List.take_length] at p
      obtain ⟨p1, p2, acc, p3, p4⟩ := p
      exact q Dl acc H' (fresh_back e1 p1) (e1.trans p2) p3 p4)
  rw [List.getElem?_map] at hi
  obtain ⟨y, hy, rfl⟩ := Option.map_eq_some_iff.mp hi
  have hm := List.mem_of_getElem? hy
  exact cp_turn (te := te) (y := y) st p (filt_len hz) (ht y H1 (e.trans e1) hm) (he y H1 (e.trans e1) hm) (fun hc => filt_yes hy hc) (fun hc => filt_no hy hc)⟩
/-- over a range, each turn gives -/
theorem ep_lcR {ta : TA} {j : Nat} {vs : List Nat} {n : Int} {R : Nat → V → Hp → Prop} (st : ∀ y, Stay (R y)) (h : EvA ta σ H [.int n]) (hn : 0 ≤ n ∧ n ≤ 40000) (hw : ∀ x, wipe ((wipe σ vs).set j (some x)) vs = wipe σ vs)
    (he : ∀ (i : Nat) H1, Ex H H1 → (i : Int) < n → EvP te ((wipe σ vs).set j (some (.int (i : Int)))) H1 (R i)) :
    EvPL (tLc (iRng1 ta) (gName j) tYes te vs) σ H (List.range n.toNat) R := fun H0 e Q q => h H0 e _ fun H1 e1 => ⟨n, rfl, by omega, by omega, fun Dl hD => by
  refine lc_range (lo := 0) (n := n.toNat) (fun i => Cp H1 R Dl (List.range i)) ⟨hD, Ex.new hD, _, upd_same, .nil⟩ (fun i H' hi p => ?_) (fun H' p => by
      obtain ⟨p1, p2, acc, p3, p4⟩ := p
      exact q Dl acc H' (fresh_back e1 p1) (e1.trans p2) p3 p4)
  have e0 : (0 : Int) + (i : Int) = (i : Int) := Int.zero_add _
  show wipe ((wipe σ vs).set j (some (.int ((0 : Int) + (i : Int))))) vs = wipe σ vs ∧ tYes ((wipe σ vs).set j (some (.int ((0 : Int) + (i : Int))))) H' fun b H3 => if b = true then te ((wipe σ vs).set j (some (.int ((0 : Int) + (i : Int))))) H3 fun y H4 => ∃ acc, H4 Dl = some (.lst acc) ∧ acc.length < sizeLine ∧ Cp H1 R Dl (List.range (i + 1)) (upd H4 Dl (.lst (acc ++ [y]))) else Cp H1 R Dl (List.range (i + 1)) H3
  rw [e0]
  have key := cp_turn (te := te) (tt := tYes) (y := i) (b := true) (σ2 := (wipe σ vs).set j (some (.int (i : Int)))) st p (by rw [List.length_range]; omega) et_yes (fun _ => he i H1 (e.trans e1) (by omega)) (fun _ => List.range_succ) (fun z => by cases z)
  exact ⟨hw _, key⟩⟩
/-- a tuple -/
def IsT (K : PySem.W.Frag) (xs : List V) (v : V) (H : Hp) : Prop := ∃ p, v = .ref p ∧ SqT K H p xs
theorem stay_T {xs : List V} : Stay (IsT K xs) := ⟨fun e ⟨p, h, hp⟩ => ⟨p, h, ex_t e hp⟩, fun {v H a ys zs} ha ⟨p, h, hp⟩ => ⟨p, h, by
  rcases hp with (hp | ⟨ob, hp⟩) | hp
  · refine .inl (.inl ?_)
    rw [upd_ne (fun z => by rw [z, ha] at hp; cases hp)]
    exact hp
  · refine .inl (.inr ⟨ob, ?_⟩)
    rw [upd_ne (fun z => by rw [z, ha] at hp; cases hp)]
    exact hp
  · exact .inr hp⟩⟩
theorem ep_T {xs : List V} (h : Vt.EvT K te σ H xs) : EvP te σ H (IsT K xs) := fun H1 e Q q => h H1 e Q fun p H2 e2 hp => q _ H2 e2 ⟨p, rfl, hp⟩
theorem ep_U {xs : List V} (h : EvU te σ H xs) : EvP te σ H (IsT K xs) := fun H1 e Q q => h H1 e Q fun p H2 _ e2 hp => q _ H2 e2 ⟨p, rfl, .inl (.inl hp)⟩
end
end Vlp

set_option Elab.async false
set_option linter.all false
set_option maxRecDepth 100000
set_option maxHeartbeats 4000000
/-! The law's net of windows. -/
namespace K58
open PySem PySem.Spec PyProof.Rows L2 Vl Evl Vp Vx2 Vlk Vda Vc Ve Ven Vlt Vtx
abbrev sLn : Stmt := top 46
abbrev nLn : List Str := ["_law_words", "_law_posts", "_law_word", "_law_post"]
/-- a lane's row, told -/
def rowV (w : List Nat) : List V := [.str (tx w), .str (tx (fst1 w)), .str (tx (w.drop 1))]
def spLn (K : PySem.W.Frag) : Sp := fun vs H Q _ => ∃ (t : Addr) (ws : List (List Nat)), vs = [.ref t] ∧ H t = some (.lst (vtx ws)) ∧ ws.length ≤ 16 ∧ (∀ l ∈ ws, 1 ≤ l.length ∧ l.length ≤ 8) ∧
  ∀ q a b ps rs H', Ex H H' → H' q = some (.lst [.ref a, .ref b]) → H' a = some (.lst (vtx ps)) → Srt ps (ends ws) → H' b = some (.lst rs) → Vlp.All2 (fun w v => Vlp.IsT K (rowV w) v H') ws rs → Q (.ref q) H'
def add1 (pp : List (List Nat)) (x : List Nat) : List (List Nat) := pp ++ if decide (x ∉ pp) = true then [x] else []
theorem add1_mem {pp : List (List Nat)} {x y : List Nat} : y ∈ add1 pp x ↔ y ∈ pp ∨ y = x := by
  unfold add1
  by_cases h : x ∈ pp
  · rw [if_neg (by rw [decide_eq_true_iff]; exact fun z => z h), List.append_nil]
    exact ⟨.inl, fun z => z.elim id fun z => by rw [z]; exact h⟩
  · rw [if_pos (by rw [decide_eq_true_iff]; exact h), List.mem_append, List.mem_singleton]
theorem add1_nd {pp : List (List Nat)} {x : List Nat} (hn : pp.Nodup) : (add1 pp x).Nodup := by
  unfold add1
  by_cases h : x ∈ pp
  · rw [if_neg (by rw [decide_eq_true_iff]; exact fun z => z h), List.append_nil]
    exact hn
  · rw [if_pos (by rw [decide_eq_true_iff]; exact h), List.nodup_append]
    exact ⟨hn, List.nodup_cons.mpr ⟨List.not_mem_nil, .nil⟩, fun a ha b hb z => h (by rw [← List.mem_singleton.mp hb, ← z]; exact ha)⟩
theorem add1_len (pp : List (List Nat)) (x : List Nat) : (add1 pp x).length ≤ pp.length + 1 := by
  unfold add1
  rw [List.length_append]
  split
  · exact Nat.le_refl _
  · exact Nat.add_le_add_left (Nat.zero_le _) _
section
variable {P : Program} {w : World} {K : PySem.W.Frag} {mg : Str → Option Value} {base : Heap}
theorem scLn : FnScope nLn ["_law_words"] (defScope sLn) := ⟨rfl, rfl, rfl, by decide +kernel, rfl, by decide +kernel, by decide +kernel⟩
theorem el_add {σ : L2.St} {H : Hp} {pa : Addr} {pp : List (List Nat)} {x : List Nat} {te : TE} (h1 : σ[1]? = some (some (.ref pa))) (hp : H pa = some (.lst (vtx pp))) (hl : pp.length ≤ 100) (hw1 : (wipe σ [3]).set 3 (some (.str (tx x))) = σ.set 3 (some (.str (tx x))))
    (hw2 : ∀ y, wipe ((wipe σ [3]).set 3 (some y)) [3] = wipe σ [3]) (h3 : (σ.set 3 (some (V.str (tx x))))[3]? = some (some (.str (tx x)))) (h4 : (σ.set 3 (some (V.str (tx x))))[1]? = some (some (.ref pa))) (hx : Ev te σ H (.str (tx x))) :
    EvL (tOp rCat (tVar 1) (tLc (iList K (tLst (tCons te tNil))) (gName 3) (tTest (tOp (rIn K true) (tVar 3) (tVar 1))) (tVar 3) [3])) σ H (vtx (add1 pp x)) := by
  have key := el_lcNL (K := K) (σ := σ) (H := H) (xs := [.str (tx x)]) (tl := tLst (tCons te tNil)) (j := 3) (vs := [3]) (t := tTest (tOp (rIn K true) (tVar 3) (tVar 1))) (te := tVar 3) (fun _ => decide (x ∉ pp)) (fun _ => V.str (tx x)) (el_lst (ea_cons hx ea_nil) (by show 1 ≤ 100000; omega)) (by show 1 ≤ 40000; omega) hw2
    (fun i y H1 e1 hi => by
      have : y = .str (tx x) := by
        cases i with
        | zero => exact (Option.some.inj hi).symm
        | succ i => cases hi
      subst this
      rw [hw1]
      exact et_test (ev_is (ev_op (ev_var h3) (ev_var h4) (rv_niL (sq_of (e1 _ _ hp)) rfl (flat_vtx pp))) (by rw [inV_vtx]; congr 1; by_cases z : x ∈ pp <;> simp [z])))
    (fun i y H1 e1 hi _ => by
      have : y = .str (tx x) := by
        cases i with
        | zero => exact (Option.some.inj hi).symm
        | succ i => cases hi
      subst this
      rw [hw1]
      exact ev_var h3)
  have hv : vtx (add1 pp x) = vtx pp ++ (if decide (x ∉ pp) = true then [V.str (tx x)] else []) := by
    unfold add1
    rw [vtx_app]
    congr 1
    split <;> rfl
  rw [hv]
  refine el_catA (ev_var h1) hp ?_ ?_
  · rw [← given_one]
    exact key
  · rw [vtx_len]
    split
    · show pp.length + 1 ≤ 100000; omega
    · show pp.length + 0 ≤ 100000; omega
theorem ok_ln {f : Addr} {fd : FuncData} (F : FnP K "_law_window_net" sLn f fd) (mSorted : mg "sorted" = none) (mStr : mg "str" = none) :
    FnOk P w K mg base L2.CX0 1 f fd ["_law_words"] (spLn K) := by
  refine F.ok (CX := L2.CX0) scLn (fun vs H Q E h => ?_) (fun cdv A outer s H vs Q E hr h => ?_)
  · obtain ⟨t, ws, rfl, _⟩ := h
    rfl
  · refine ⟨_, (pss_cons (ps_set (i := 1) scLn.nd rfl (by first | exact Or.inl rfl | exact Or.inr rfl) (pe_lst pa_nil))
      (pss_cons (ps_for (passes_of rfl) rfl (pi_list (pv 0)) (pg_name (i := 2) scLn.nd rfl (by first | exact Or.inl rfl | exact Or.inr rfl)) (pss_cons (ps_set (i := 1) scLn.nd rfl (by first | exact Or.inl rfl | exact Or.inr rfl) (pe_op op_cat (pv 1) (pe_lc (own := [("_law_post", 3)]) (g := (gName 3)) (tt := (tTest (tOp (rIn K true) (tVar 3) (tVar 1)))) (te := (tVar 3)) rfl scLn.nd (pi_list (pe_lst (pa_cons (pe_slice sl_str (pv 2) po_none (po_some (pe_un un_neg pe_int))) pa_nil))) (blkOk_by (own := [("_law_post", 3)]) (N := nLn) (sc := defScope sLn) (by decide +kernel)) (fun _ _ _ _ _ => (pg_name (i := 3) scLn.nd rfl (by first | exact Or.inl rfl | exact Or.inr rfl))) (fun _ _ _ _ _ => (pts_one (pt_cmpR op_notIn_seq (pv 3) (pv 1) rfl))) (fun _ _ _ _ _ => (pv 3)))))
      (pss_one (ps_set (i := 1) scLn.nd rfl (by first | exact Or.inl rfl | exact Or.inr rfl) (pe_op op_cat (pv 1) (pe_lc (own := [("_law_post", 3)]) (g := (gName 3)) (tt := (tTest (tOp (rIn K true) (tVar 3) (tVar 1)))) (te := (tVar 3)) rfl scLn.nd (pi_list (pe_lst (pa_cons (pe_slice sl_str (pv 2) (po_some pe_int) po_none) pa_nil))) (blkOk_by (own := [("_law_post", 3)]) (N := nLn) (sc := defScope sLn) (by decide +kernel)) (fun _ _ _ _ _ => (pg_name (i := 3) scLn.nd rfl (by first | exact Or.inl rfl | exact Or.inr rfl))) (fun _ _ _ _ _ => (pts_one (pt_cmpR op_notIn_seq (pv 3) (pv 1) rfl))) (fun _ _ _ _ _ => (pv 3))))))))
      (pss_one (ps_ret (pe_lst (pa_cons (pe_callB cr_sortedS (by rfl) mSorted boot_sorted (pa_cons (pe_lc (own := [("_law_post", 3)]) (g := (gName 3)) (tt := tYes) (te := tCB (fun xs H Q => ∃ a, xs = [.str a] ∧ Q (.str a) H) (tCons (tVar 3) tNil)) rfl scLn.nd (pi_list (pv 1)) (blkOk_by (own := [("_law_post", 3)]) (N := nLn) (sc := defScope sLn) (by decide +kernel)) (fun _ _ _ _ _ => (pg_name (i := 3) scLn.nd rfl (by first | exact Or.inl rfl | exact Or.inr rfl))) (fun _ _ _ _ _ => pts_nil) (fun _ _ _ _ _ => (pe_callTy SkE.call_str_str (by rfl) mStr boot_str (pa_cons (pv 3) pa_nil)))) pa_nil)) (pa_cons (pe_lc (own := [("_law_word", 2)]) (g := (gName 2)) (tt := tYes) (te := (tTup (tCons (tVar 2) (tCons (tSl rSlS (tVar 2) tNoPart (tPart (tUn (rU fun i => .int (-i)) (tC (.int 1))))) (tCons (tSl rSlS (tVar 2) (tPart (tC (.int 1))) tNoPart) tNil))))) rfl scLn.nd (pi_list (pv 0)) (blkOk_by (own := [("_law_word", 2)]) (N := nLn) (sc := defScope sLn) (by decide +kernel)) (fun _ _ _ _ _ => (pg_name (i := 2) scLn.nd rfl (by first | exact Or.inl rfl | exact Or.inr rfl))) (fun _ _ _ _ _ => pts_nil) (fun _ _ _ _ _ => (pe_tup (pa_cons (pv 2) (pa_cons (pe_slice sl_str (pv 2) po_none (po_some (pe_un un_neg pe_int))) (pa_cons (pe_slice sl_str (pv 2) (po_some pe_int) po_none) pa_nil)))))) pa_nil))))))), ?_⟩
    obtain ⟨t, ws, rfl, ht, hl, hwl, k⟩ := h
    refine s_seq ?_
    refine s_asgL (xs := vtx []) (el_lst ea_nil (by decide)) fun pa H1 npa e1 hpa => ?_
    dsimp only
    refine s_seq ?_
    refine s_forL (a := t) (ev_var rfl) (sq_of (e1 _ _ ht)) (fun i st H' => ∃ pa pp t2, st = [some (.ref t), some (.ref pa), t2, none] ∧ Ex H H' ∧ H' pa = some (.lst (vtx pp)) ∧ pp.Nodup ∧ (∀ y, y ∈ pp ↔ y ∈ ends (ws.take i)) ∧ pp.length ≤ 2 * i)
      (fun H2 e2 => ⟨pa, [], none, rfl, e1.trans e2, e2 _ _ hpa, .nil, fun y => by rw [List.take_zero]; exact Iff.rfl, Nat.zero_le _⟩) (fun i st H' _ ⟨_, _, _, _, e, _⟩ => sq_of (e _ _ ht)) ?_ ?_
    · rintro i x st H2 hx ⟨pa, pp, t2, rfl, e2, hpa, hnd, hmem, hlen⟩
      unfold vtx at hx
      rw [List.getElem?_map] at hx
      obtain ⟨l, hl0, rfl⟩ := Option.map_eq_some_iff.mp hx
      have hi := (List.getElem?_eq_some_iff.mp hl0).1
      obtain ⟨l1, l2⟩ := hwl l (List.mem_of_getElem? hl0)
      show tSeq _ _ _ [some (.ref t), some (.ref pa), some (.str (tx l)), none] H2
      refine s_seq ?_
      refine s_asgL (xs := vtx (add1 pp (fst1 l))) (el_add (K := K) rfl hpa (by omega) rfl (fun _ => rfl) rfl rfl (ev_fst (ev_var rfl) l1 (by omega))) fun pb H3 npb e3 hpb => ?_
      dsimp only
      have hlb := add1_len pp (fst1 l)
      refine s_asgL (xs := vtx (add1 (add1 pp (fst1 l)) (l.drop 1))) (el_add (K := K) rfl hpb (by omega) rfl (fun _ => rfl) rfl rfl (ev_lst1 (ev_var rfl) (by omega))) fun pc H4 npc e4 hpc => ?_
      have hlc := add1_len (add1 pp (fst1 l)) (l.drop 1)
      refine ⟨pc, _, _, rfl, (e2.trans e3).trans e4, hpc, add1_nd (add1_nd hnd), fun y => ?_, by omega⟩
      have htk : ws.take (i + 1) = ws.take i ++ [l] := by rw [List.take_succ, hl0]; rfl
      rw [add1_mem, add1_mem, hmem, htk]
      unfold ends
      simp only [List.map_append, List.mem_append, List.map_cons, List.map_nil, List.mem_singleton, List.mem_map]
      constructor
      · rintro ((h | h) | h)
        · rcases h with h | h
          · exact .inl (.inl h)
          · exact .inr (.inl h)
        · exact .inl (.inr h)
        · exact .inr (.inr h)
      · rintro ((h | h) | (h | h))
        · exact .inl (.inl (.inl h))
        · exact .inl (.inr h)
        · exact .inl (.inl (.inr h))
        · exact .inr h
    · rintro st H2 ⟨pa, pp, t2, rfl, e2, hpa, hnd, hmem, hlen⟩
      rw [vtx_len] at hlen hmem
      rw [List.take_length] at hmem
      dsimp only
      have key := el_lcM (K := K) (σ := [some (.ref t), some (.ref pa), t2, none]) (H := H2) (ys := pp) (g := fun l => V.str (tx l)) (tl := tVar 1) (j := 3) (vs := [3]) (te := tCB (fun xs H Q => ∃ a, xs = [.str a] ∧ Q (.str a) H) (tCons (tVar 3) tNil)) (fun l => V.str (tx l)) (ev_var rfl) (sq_of hpa) (by omega) (fun _ => rfl) (fun l H1 e hm => fun H5 e5 Q q => ⟨_, rfl, tx l, rfl, q H5 (Ex.refl _)⟩)
      unfold tRet tLst
      refine s_cons (s_cb (s_cons (key H2 (Ex.refl _) _ fun p H3 np e3 hp => s_nil ?_)))
      refine so_of (sq_of hp) hnd (by omega) fun p2 ys H4 n2 e4 h2 hS => ?_
      refine s_cons ?_
      have e24 := (e2.trans e3).trans e4
      have key2 := Vlp.ep_lcA (K := K) (σ := [some (.ref t), some (.ref pa), t2, none]) (H := H4) (ys := ws) (g := fun l => V.str (tx l)) (a := t) (tl := tVar 0) (j := 2) (vs := [2]) (tt := tYes) (te := (tTup (tCons (tVar 2) (tCons (tSl rSlS (tVar 2) tNoPart (tPart (tUn (rU fun i => .int (-i)) (tC (.int 1))))) (tCons (tSl rSlS (tVar 2) (tPart (tC (.int 1))) tNoPart) tNil))))) (R := fun w v H => Vlp.IsT K (rowV w) v H) (fun _ => true) (fun _ => Vlp.stay_T) (ev_var rfl) (sq_of (e24 _ _ ht)) (by omega) (fun _ => rfl) (fun l H1 e hm => et_yes) (fun l H1 e hm _ => by
        obtain ⟨l1, l2⟩ := hwl l hm
        exact Vlp.ep_U (xs := rowV l) (eu_tup (ea_cons (ev_var rfl) (ea_cons (ev_fst (ev_var rfl) l1 (by omega)) (ea_cons (ev_lst1 (ev_var rfl) (by omega)) ea_nil))) (by show 3 ≤ 100000; omega)))
      rw [List.filter_eq_self.mpr (fun _ _ => rfl)] at key2
      refine key2 H4 (Ex.refl _) _ fun p3 rs H5 n3 e5 h3 hall => s_nil ⟨by show 2 ≤ sizeLine; decide, fun q nq => ?_⟩
      have e6 := Ex.new (H := H5) (o := .lst [.ref p2, .ref p3]) nq
      exact k q p2 p3 ys rs _ ((e24.trans e5).trans e6) upd_same (e6 _ _ (e5 _ _ h2)) (hS.of hmem) (e6 _ _ h3) (hall.imp fun w v hv => Vlp.stay_T.ex e6 hv)
end
end K58

set_option Elab.async false
set_option linter.all false
set_option maxRecDepth 100000
set_option maxHeartbeats 4000000
/-! The law looks at a net of windows. -/
namespace K58
open PySem PySem.Spec PyProof.Rows L2 Vl Evl Vp Vx2 Vlk Vda Vc Ve Ven Vlt Vtx Vr
abbrev sRn : Stmt := top 48
abbrev nRn : List Str := ["_law_net", "_law_words", "_law_posts", "_law_lanes", "_law_row"]
def spRn (C : Addr) : Sp := fun vs H Q _ => ∃ (o dx dp de t : Addr) (ps : List (List Nat)) (es : List Row) (ws : List (List Nat)) (s : Nat), vs = [.ref o, .ref t] ∧ NetAt C H o dx dp de ps es ∧ H t = some (.lst (vtx ws)) ∧ ws.length ≤ 16 ∧ Wins ws s ∧
  Srt ps (ends ws) ∧ laneNames es = ws ∧ Wn es ∧ ∀ H', Ex H H' → Q (.bl true) H'
theorem s_asgFu {sp : Sp} {E : L2.St → XK} {ta : TA} {vs : List V} {g : TG} {D : Ends} {σ : L2.St} {H : Hp} (h : EvA ta σ H vs) (k : ∀ H1, Ex H H1 → sp vs H1 (fun v H2 => g v σ H2 fun σ' H3 => D.nx σ' H3) (E σ)) : tAsg (Vc.tFu sp E ta) g D σ H := h H (Ex.refl H) _ k
theorem ed_T {K : PySem.W.Frag} {te : TE} {σ : L2.St} {H : Hp} {xs : List (List Nat)} (h : Vt.EvT K te σ H (vtx xs)) : EvD K te σ H (wd xs) := fun H1 e Q q => h H1 e Q fun p H2 e2 hp => q _ H2 e2 (.tup hp (dpa_vtx xs))
theorem given_none (v : Nat → V) : ∀ n, given n (fun _ => false) v = [] := fun n => by
  unfold given
  rw [List.filter_eq_nil_iff.mpr (fun _ _ z => by cases z)]
  rfl
theorem all_at {α : Type} {R : α → V → Prop} : ∀ {ys : List α} {vs : List V}, Vlp.All2 R ys vs → ∀ (i : Nat) (v : V), vs[i]? = some v → ∃ y, ys[i]? = some y ∧ R y v := fun h i v hv => h.get hv
section
variable {P : Program} {w : World} {K : PySem.W.Frag} {mg : Str → Option Value} {base : Heap} {C BN NT NP NL : Addr}
theorem scRn : FnScope nRn ["_law_net", "_law_words"] (defScope sRn) := ⟨rfl, rfl, rfl, by decide +kernel, rfl, by decide +kernel, by decide +kernel⟩
theorem ok_rn {f : Addr} {fd : FuncData} (F : FnP K "_law_right_net" sRn f fd) (N : ND P w K mg base C BN NT NP NL) (TLn : Fu P w K mg base L2.CX0 1 "_law_window_net" (spLn K)) (mTuple : mg "tuple" = none) :
    FnOk P w K mg base L2.CX0 5 f fd ["_law_net", "_law_words"] (spRn C) := by
  refine F.ok (CX := L2.CX0) scRn (fun vs H Q E h => ?_) (fun cdv A outer s H vs Q E hr h => ?_)
  · obtain ⟨o, dx, dp, de, t, ps, es, ws, s, rfl, _⟩ := h
    rfl
  · refine ⟨_, (pss_cons (ps_asg (pe_fu TLn hr (by rfl) (pa_cons (pv 1) pa_nil)) (pg_unl rfl (pgs_cons (pg_name (i := 2) scRn.nd rfl (by first | exact Or.inl rfl | exact Or.inr rfl)) (pgs_cons (pg_name (i := 3) scRn.nd rfl (by first | exact Or.inl rfl | exact Or.inr rfl)) pgs_nil))))
      (pss_cons (ps_if (PW.pt (pw_or (pt_cmpR (op_neD hr.units) (pe_pr (pv 0) N.cls N.posts hr) (pe_callTy call_tuple_of (by rfl) mTuple boot_tuple (pa_cons (pv 2) pa_nil)) (nomark _)) (pw_or1 (pt_cmpR (op_neD hr.units) (pe_pr (pv 0) N.cls N.lanes hr) (pe_callTy call_tuple_of (by rfl) mTuple boot_tuple (pa_cons (pe_lc (own := [("_law_row", 4)]) (g := (gName 4)) (tt := tYes) (te := (tOp (rIxT K) (tVar 4) (tC (.int 0)))) rfl scRn.nd (pi_list (pv 3)) (blkOk_by (own := [("_law_row", 4)]) (N := nRn) (sc := defScope sRn) (by decide +kernel)) (fun _ _ _ _ _ => (pg_name (i := 4) scRn.nd rfl (by first | exact Or.inl rfl | exact Or.inr rfl))) (fun _ _ _ _ _ => pts_nil) (fun _ _ _ _ _ => (pe_ix ix_tup (pv 4) pe_int fun _ _ => rfl))) pa_nil)) (nomark _))))) (pss_one (ps_ret pe_bl)) pss_nil)
      (pss_one (ps_ret (pe_cmpR (op_eqD hr.units) (pe_lc (own := [("_law_row", 4)]) (g := (gName 4)) (tt := (tTest (tOp (rNeD K) (tTup (tCons (Vtr.tMethS C "start_of" (spEndOf C NL fun r => r.2.2.1) (fun _ => nil0) (tVar 0) (tCons (tOp (rIxT K) (tVar 4) (tC (.int 0))) tNil)) (tCons (Vtr.tMethS C "end_of" (spEndOf C NL fun r => r.2.2.2) (fun _ => nil0) (tVar 0) (tCons (tOp (rIxT K) (tVar 4) (tC (.int 0))) tNil)) tNil))) (tSl (rSlA K) (tVar 4) (tPart (tC (.int 1))) tNoPart)))) (te := (tVar 4)) rfl scRn.nd (pi_list (pv 3)) (blkOk_by (own := [("_law_row", 4)]) (N := nRn) (sc := defScope sRn) (by decide +kernel)) (fun _ _ _ _ _ => (pg_name (i := 4) scRn.nd rfl (by first | exact Or.inl rfl | exact Or.inr rfl))) (fun _ _ _ _ _ => (pts_one (pt_cmpR (op_neD hr.units) (pe_tup (pa_cons (pe_moN (pv 0) N.cls N.start hr (pa_cons (pe_ix ix_tup (pv 4) pe_int fun _ _ => rfl) pa_nil)) (pa_cons (pe_moN (pv 0) N.cls N.end_ hr (pa_cons (pe_ix ix_tup (pv 4) pe_int fun _ _ => rfl) pa_nil)) pa_nil))) (pe_slice sl_tupA (pv 4) (po_some pe_int) po_none) (nomark _)))) (fun _ _ _ _ _ => (pv 4))) (pe_lst pa_nil) (nomark _)))))), ?_⟩
    obtain ⟨o, dx, dp, de, t, ps, es, ws, s, rfl, N0, ht, hl, hw, hS, hln, hwn, k⟩ := h
    have okw : Oks ws := oks_nam fun l hl => nam_ok (hw l hl).1 (by omega) (by omega)
    refine s_seq ?_
    refine s_asgFu (ea_cons (ev_var rfl) ea_nil) fun H1 e1 => ⟨t, ws, rfl, e1 _ _ ht, hl, fun l hl => by
      have := ok_len (hw l hl).1
      omega, fun q a b ps' rs H2 e2 hq ha hS' hb hall => ⟨q, _, rfl, sq_of hq, rfl, _, _, rfl, _, _, rfl, rfl, ?_⟩⟩
    have e12 := e1.trans e2
    have hps : ps' = ps := hS'.one hS fun _ => Iff.rfl
    subst hps
    have okp : Oks ps' := oks_nam fun l hl => ends_nam hw l ((hS.mem l).mp hl)
    have hrl : rs.length = ws.length := hall.len
    have hal : ∀ {H3 : Hp} (i : Nat) (v : V), Ex H2 H3 → rs[i]? = some v → ∃ w p, ws[i]? = some w ∧ v = .ref p ∧ SqT K H3 p (rowV w) := fun i v e3 hv => by
      obtain ⟨w, h1, p, h2, h3⟩ := all_at hall i v hv
      exact ⟨w, p, h1, h2, ex_t e3 h3⟩
    dsimp only
    refine s_seq ?_
    have row0 : ∀ {H3 H4 : Hp} (i : Nat) (v : V), Ex H2 H3 → Ex H3 H4 → rs[i]? = some v → Ev (tOp (rIxT K) (tVar 4) (tC (.int 0))) [some (.ref o), some (.ref t), some (.ref a), some (.ref b), some v] H4 (.str (tx (ws.getD i []))) := fun i v e3 e4 hv => by
      obtain ⟨w, p, h1, rfl, h3⟩ := hal i v (e3.trans e4) hv
      have hg : ws.getD i [] = w := by rw [List.getD_eq_getElem?_getD, h1]; rfl
      rw [hg]
      exact ev_op (ev_var rfl) ev_c (rv_ixT h3 (at_of (j := 0) rfl rfl))
    refine s_when (b := false) (et_is (et_or (et_test (ev_unlike (d := wd ps') (ed_Un (eu_pr (ev_var rfl) (e12 _ _ N0.at_) (sv_posts (N0.mono e12)))) (ed_Un (eu_tupleA (ev_var rfl) (sq_of ha))) (sh_w okp))) (fun _ => et_test (ev_unlike (d := wd ws) (ed_Un (by
        have := eu_pr (σ := [some (.ref o), some (.ref t), some (.ref a), some (.ref b), none]) (te := tVar 0) (ev_var rfl) (e12 _ _ N0.at_) (sv_lanes (N0.mono e12))
        rw [hln] at this
        exact this)) (ed_Un (eu_tupleL (by
        have key := el_lcL (K := K) (σ := [some (.ref o), some (.ref t), some (.ref a), some (.ref b), none]) (H := H2) (tl := tVar 3) (j := 4) (vs := [4]) (t := tYes) (te := tOp (rIxT K) (tVar 4) (tC (.int 0))) (fun _ => true) (fun i => V.str (tx (ws.getD i []))) (ev_var rfl) (sq_of hb) (by omega) (fun _ => rfl) (fun i x H3 e3 hi => et_yes) (fun i x H3 e3 hi _ => row0 i x (Ex.refl _) e3 hi)
        rw [given_all] at key
        have hv : (List.range rs.length).map (fun i => V.str (tx (ws.getD i []))) = vtx ws := by
          rw [hrl]
          apply List.ext_getElem?
          intro i
          unfold vtx
          rw [List.getElem?_map, List.getElem?_map]
          by_cases hi : i < ws.length
          · rw [List.getElem?_range hi, List.getElem?_eq_getElem hi, Option.map_some, Option.map_some, List.getD_eq_getElem?_getD, List.getElem?_eq_getElem hi]
            rfl
          · rw [List.getElem?_eq_none (by rw [List.length_range]; omega), List.getElem?_eq_none (by omega)]
            rfl
        rw [hv] at key
        exact key))) (sh_w okw)))) rfl) (fun z => by cases z) (fun _ H3 e3 => ?_)
    dsimp only
    refine s_ret (v := .bl true) (ev_same (d := wls []) (ed_Ln (xs := []) (by
      have key := el_lcL (K := K) (σ := [some (.ref o), some (.ref t), some (.ref a), some (.ref b), none]) (H := H3) (tl := tVar 3) (j := 4) (vs := [4]) (t := (tTest (tOp (rNeD K) (tTup (tCons (Vtr.tMethS C "start_of" (spEndOf C NL fun r => r.2.2.1) (fun _ => nil0) (tVar 0) (tCons (tOp (rIxT K) (tVar 4) (tC (.int 0))) tNil)) (tCons (Vtr.tMethS C "end_of" (spEndOf C NL fun r => r.2.2.2) (fun _ => nil0) (tVar 0) (tCons (tOp (rIxT K) (tVar 4) (tC (.int 0))) tNil)) tNil))) (tSl (rSlA K) (tVar 4) (tPart (tC (.int 1))) tNoPart)))) (te := tVar 4) (fun _ => false) (fun _ => V.non) (ev_var rfl) (sq_of (e3 _ _ hb)) (by omega) (fun _ => rfl) (fun i x H4 e4 hi => by
        obtain ⟨w, p, h1, rfl, h3⟩ := hal i x (e3.trans e4) hi
        have hg : ws.getD i [] = w := by rw [List.getD_eq_getElem?_getD, h1]; rfl
        have hm := List.mem_of_getElem? h1
        have N4 := N0.mono ((e12.trans e3).trans e4)
        obtain ⟨r, hr1⟩ := row_some (show w ∈ laneNames es by rw [hln]; exact hm)
        obtain ⟨m1, n1⟩ := rowOf_mem hr1
        have hr0 := row0 i (.ref p) e3 e4 hi
        rw [hg] at hr0
        refine et_test (ev_unlike (d := wd [fst1 w, w.drop 1]) (ed_Un (xs := [fst1 w, w.drop 1]) (eu_tup (ea_cons (ev_is (ev_me (ev_var rfl) N4.at_ rfl (ea_cons hr0 ea_nil) (sv_end N4 hr1)) ?_) (ea_cons (ev_is (ev_me (ev_var rfl) N4.at_ rfl (ea_cons hr0 ea_nil) (sv_end N4 hr1)) ?_) ea_nil)) (by show 2 ≤ 100000; omega))) (ed_T (xs := [fst1 w, w.drop 1]) (Vt.et_cut (xs := rowV w) (lo := some 1) (hi := none) (Vt.et_ref (ev_var rfl) h3) (eo_some ev_c) eo_none)) ?_)
        · rw [(hwn r m1).1, n1]
          rfl
        · rw [(hwn r m1).2, n1]
        · refine sh_w (oks_nam fun l hl => ends_nam hw l ?_)
          unfold ends
          rcases List.mem_cons.mp hl with h | h
          · rw [h]; exact List.mem_append_left _ (List.mem_map_of_mem hm)
          · rw [List.mem_singleton.mp h]; exact List.mem_append_right _ (List.mem_map_of_mem (f := fun w : List Nat => w.drop 1) hm)) (fun i x H4 e4 hi z => by cases z)
      rw [given_none] at key
      exact key)) (ed_Ln (xs := []) (el_lst ea_nil (by show 0 ≤ 100000; omega))) (sh_l oks_nil)) fun H4 e4 => k H4 ((e12.trans e3).trans e4)
end
end K58

set_option Elab.async false
set_option linter.all false
set_option maxRecDepth 100000
set_option maxHeartbeats 4000000
/-! What the law is told of what is refused. -/
namespace K58
open PySem PySem.Spec PyProof.Rows L2 Vl Evl Vp Vx2 Vlk Vda Vc Ve Ven Vlt Vtx Vr
abbrev sTo : Stmt := top 47
abbrev nTo : List Str := ["_law_kind", "_law_thing", "_law_size", "e"]
/-- told: the error nm about y -/
def Tl (H : Hp) (Q : VK) (nm : String) (y : V) : Prop := ∀ q l H', Ex H H' → H' q = some (.tup [.str (Str.ofString nm), .ref l]) → H' l = some (.lst [y]) → Q (.ref q) H'
theorem Tl.grow {H H' : Hp} {Q : VK} {nm : String} {y : V} (h : Tl H Q nm y) (e : Ex H H') : Tl H' Q nm y := fun q l H2 e2 => h q l H2 (e.trans e2)
theorem Tl.fin {H : Hp} {Q : VK} {nm : String} {y : V} (h : Tl H Q nm y) {l p : Addr} (nl : H l = none) (np : upd H l (.lst [y]) p = none) : Q (.ref p) (upd (upd H l (.lst [y])) p (.tup [.str (Str.ofString nm), .ref l])) :=
  h p l _ ((Ex.new nl).trans (Ex.new np)) upd_same ((upd_ne (fun z => by rw [← z, upd_same] at np; cases np)).trans upd_same)
def spTo (K : PySem.W.Frag) : Sp := fun vs H Q _ => ∃ (kind : Nat) (y k : V), vs = [.int (kind : Nat), y, k] ∧
  ((kind < 2 ∧ BadW K H y 1 40 ∧ Tl H Q "BadWord" y) ∨ (kind < 2 ∧ ∃ t, y = .str (tx t) ∧ okW t 1 40 = true ∧ BadN K H k ∧ Tl H Q "BadNumber" k) ∨
   (kind = 2 ∧ ∃ t xs, y = .ref t ∧ SqA K H t xs ∧ xs.length ≤ 30 ∧ ((xs = [] ∧ ∀ q H', Ex H H' → H' q = some (.tup [.str (Str.ofString "EmptyWalk"), .non]) → Q (.ref q) H') ∨
     ∃ ws s b r, xs = vtx ws ++ b :: r ∧ Wins ws s ∧ BadAt K H ws s b ∧ Tl H Q "BadWord" b)))
theorem s_told {sp : Sp} {E : L2.St → XK} {ta : TA} {vs : List V} {s : V} {D : Ends} {σ : L2.St} {H : Hp} (h : EvA ta σ H vs) (k : ∀ H1, Ex H H1 → sp vs H1 (fun v H2 => [s, v].length ≤ sizeLine ∧ ∀ p, H2 p = none → D.rt (.ref p) (upd H2 p (.tup [s, v]))) (E σ)) :
    tRet (tTup (tCons (tC s) (tCons (Vc.tFu sp E ta) tNil))) D σ H := h H (Ex.refl H) _ k
section
variable {P : Program} {w : World} {K : PySem.W.Frag} {mg : Str → Option Value} {base : Heap} {C RC BW BN EW : Addr}
theorem scTo : FnScope nTo ["_law_kind", "_law_thing", "_law_size"] (defScope sTo) := ⟨rfl, rfl, rfl, by decide +kernel, rfl, by decide +kernel, by decide +kernel⟩
theorem ok_to {f : Addr} {fd : FuncData} (F : FnP K "_law_told" sTo f fd) (TWi : Fu P w K mg base (L2.CX P w) 5 "windows" (spWi K BW BN)) (TTr : Fu P w K mg base (L2.CX P w) 6 "text_round" (spTr K RC BW BN)) (TWn : Fu P w K mg base (L2.CX P w) 6 "window_net" (spWn K C BW EW))
    (EP : Err1 P w K mg base "BadWord" "word" BW) (EN : Err1 P w K mg base "BadNumber" "value" BN) (E0 : Err0 K mg "EmptyWalk" EW)
    (xm : ∀ x y : Nat, x < 3 → y < 3 → PySem.W.exmOne K (.ref ([BW, BN, EW].getD x 0)) (.ref ([BW, BN, EW].getD y 0)) = some (decide (x = y))) :
    FnOk P w K mg base L2.CX0 7 f fd ["_law_kind", "_law_thing", "_law_size"] (spTo K) := by
  refine F.ok (CX := L2.CX0) scTo (fun vs H Q E h => ?_) (fun cdv A outer s H vs Q E hr h => ?_)
  · obtain ⟨kind, y, k, rfl, _⟩ := h
    rfl
  · refine ⟨_, (pss_one (Vtr.ps_try_cl rfl rfl scTo.nd Vtr.takes_no (tb := fun W => (tSeq (tIfS (tTest (tOp rEq (tVar 0) (tC (.int 0)))) (tRet (tTup (tCons (tC (.str (Str.ofString "told"))) (tCons (tFu (spWi K BW BN) (WE W) (tCons (tVar 1) (tCons (tVar 2) tNil))) tNil)))) tNext) (tSeq (tIfS (tTest (tOp rEq (tVar 0) (tC (.int 1)))) (tRet (tTup (tCons (tC (.str (Str.ofString "told"))) (tCons (tFu (spTr K RC BW BN) (WE W) (tCons (tVar 1) (tCons (tVar 2) tNil))) tNil)))) tNext) (tRet (tTup (tCons (tC (.str (Str.ofString "told"))) (tCons (tFu (spWn K C BW EW) (WE W) (tCons (tVar 1) tNil)) tNil))))))) (fun W pn xe tk _ => (pss_cons (ps_if (pt_cmpR op_eq (pv 0) pe_int (nomark _)) (pss_one (ps_ret (pe_tup (pa_cons pe_str (pa_cons (pe_fuX (E := WE W) TWi hr (by rfl) (fun st => passAt tk st) (pa_cons (pv 1) (pa_cons (pv 2) pa_nil))) pa_nil))))) pss_nil)
      (pss_cons (ps_if (pt_cmpR op_eq (pv 0) pe_int (nomark _)) (pss_one (ps_ret (pe_tup (pa_cons pe_str (pa_cons (pe_fuX (E := WE W) TTr hr (by rfl) (fun st => passAt tk st) (pa_cons (pv 1) (pa_cons (pv 2) pa_nil))) pa_nil))))) pss_nil)
      (pss_one (ps_ret (pe_tup (pa_cons pe_str (pa_cons (pe_fuX (E := WE W) TWn hr (by rfl) (fun st => passAt tk st) (pa_cons (pv 1) pa_nil)) pa_nil)))))))) (Vtr.ClsOk.named (i := 3) rfl rfl ⟨by rfl, by decide, .inl EP.g⟩ (fun a oe cls d pn hz hf => (pss_one (ps_ret (pe_tup (pa_cons pe_str (pa_cons (pe_lst (pa_cons (pe_xf EP.X EP.no hz hf (pv 3)) pa_nil)) pa_nil)))))) (Vtr.ClsOk.named (i := 3) rfl rfl ⟨by rfl, by decide, .inl EN.g⟩ (fun a oe cls d pn hz hf => (pss_one (ps_ret (pe_tup (pa_cons pe_str (pa_cons (pe_lst (pa_cons (pe_xf EN.X EN.no hz hf (pv 3)) pa_nil)) pa_nil)))))) (Vtr.ClsOk.plain ⟨by rfl, by decide, .inl E0.g⟩ (fun a oe cls d pn hz hf => (pss_one (ps_ret (pe_tup (pa_cons pe_str (pa_cons pe_non pa_nil)))))) Vtr.ClsOk.nil))))), ?_⟩
    obtain ⟨kind, y, k, rfl, h⟩ := h
    have x00 := xm 0 0 (by decide) (by decide)
    have x10 := xm 1 0 (by decide) (by decide)
    have x11 := xm 1 1 (by decide) (by decide)
    have x20 := xm 2 0 (by decide) (by decide)
    have x21 := xm 2 1 (by decide) (by decide)
    have x22 := xm 2 2 (by decide) (by decide)
    rcases h with ⟨hk, hb, q⟩ | ⟨hk, t, rfl, ok, hb, q⟩ | ⟨rfl, t, xs, rfl, ht, hl, h⟩
    · refine s_seq ?_
      rcases (show kind = 0 ∨ kind = 1 by omega) with rfl | rfl
      · refine s_when (b := true) (et_test (ev_is (ev_op (ev_var rfl) ev_c (rv_eq rfl)) rfl)) (fun _ H1 e1 => ?_) (fun z => by cases z)
        refine s_told (ea_cons (ev_var rfl) (ea_cons (ev_var rfl) ea_nil)) fun H2 e2 => ⟨_, _, rfl, .inr (.inl ⟨hb.mono (e1.trans e2), fun d H9 e9 hd => ⟨true, x00, fun _ a2 na => ⟨_, rfl, rfl, rfl, d, [("word", _)], _, rfl, hd, rfl, by show 1 ≤ sizeLine; decide, fun l nl => ⟨by show 2 ≤ sizeLine; decide, fun p np => (Tl.grow q ((e1.trans e2).trans e9)).fin nl np⟩⟩, (fun z => nomatch z)⟩⟩)⟩
      · refine s_when (b := false) (et_test (ev_is (ev_op (ev_var rfl) ev_c (rv_eq rfl)) rfl)) (fun z => by cases z) (fun _ H1 e1 => ?_)
        dsimp only
        refine s_seq ?_
        refine s_when (b := true) (et_test (ev_is (ev_op (ev_var rfl) ev_c (rv_eq rfl)) rfl)) (fun _ H2 e2 => ?_) (fun z => by cases z)
        refine s_told (ea_cons (ev_var rfl) (ea_cons (ev_var rfl) ea_nil)) fun H3 e3 => ⟨_, _, rfl, .inr (.inl ⟨hb.mono ((e1.trans e2).trans e3), fun d H9 e9 hd => ⟨true, x00, fun _ a2 na => ⟨_, rfl, rfl, rfl, d, [("word", _)], _, rfl, hd, rfl, by show 1 ≤ sizeLine; decide, fun l nl => ⟨by show 2 ≤ sizeLine; decide, fun p np => (Tl.grow q (((e1.trans e2).trans e3).trans e9)).fin nl np⟩⟩, (fun z => nomatch z)⟩⟩)⟩
    · refine s_seq ?_
      rcases (show kind = 0 ∨ kind = 1 by omega) with rfl | rfl
      · refine s_when (b := true) (et_test (ev_is (ev_op (ev_var rfl) ev_c (rv_eq rfl)) rfl)) (fun _ H1 e1 => ?_) (fun z => by cases z)
        refine s_told (ea_cons (ev_var rfl) (ea_cons (ev_var rfl) ea_nil)) fun H2 e2 => ⟨_, _, rfl, .inr (.inr ⟨t, rfl, ok, hb.mono (e1.trans e2), fun d H9 e9 hd => ⟨false, x10, (fun z => nomatch z), fun _ => ⟨true, x11, fun _ a2 na => ⟨_, rfl, rfl, rfl, d, [("value", _)], _, rfl, hd, rfl, by show 1 ≤ sizeLine; decide, fun l nl => ⟨by show 2 ≤ sizeLine; decide, fun p np => (Tl.grow q ((e1.trans e2).trans e9)).fin nl np⟩⟩, (fun z => nomatch z)⟩⟩⟩)⟩
      · refine s_when (b := false) (et_test (ev_is (ev_op (ev_var rfl) ev_c (rv_eq rfl)) rfl)) (fun z => by cases z) (fun _ H1 e1 => ?_)
        dsimp only
        refine s_seq ?_
        refine s_when (b := true) (et_test (ev_is (ev_op (ev_var rfl) ev_c (rv_eq rfl)) rfl)) (fun _ H2 e2 => ?_) (fun z => by cases z)
        refine s_told (ea_cons (ev_var rfl) (ea_cons (ev_var rfl) ea_nil)) fun H3 e3 => ⟨_, _, rfl, .inr (.inr ⟨t, rfl, ok, hb.mono ((e1.trans e2).trans e3), fun d H9 e9 hd => ⟨false, x10, (fun z => nomatch z), fun _ => ⟨true, x11, fun _ a2 na => ⟨_, rfl, rfl, rfl, d, [("value", _)], _, rfl, hd, rfl, by show 1 ≤ sizeLine; decide, fun l nl => ⟨by show 2 ≤ sizeLine; decide, fun p np => (Tl.grow q (((e1.trans e2).trans e3).trans e9)).fin nl np⟩⟩, (fun z => nomatch z)⟩⟩⟩)⟩
    · refine s_seq ?_
      refine s_when (b := false) (et_test (ev_is (ev_op (ev_var rfl) ev_c (rv_eq rfl)) rfl)) (fun z => by cases z) (fun _ H1 e1 => ?_)
      dsimp only
      refine s_seq ?_
      refine s_when (b := false) (et_test (ev_is (ev_op (ev_var rfl) ev_c (rv_eq rfl)) rfl)) (fun z => by cases z) (fun _ H2 e2 => ?_)
      dsimp only
      refine s_told (ea_cons (ev_var rfl) ea_nil) fun H3 e3 => ⟨t, xs, rfl, ex_a ((e1.trans e2).trans e3) ht, hl, .inr ?_⟩
      rcases h with ⟨rfl, q⟩ | ⟨ws, s, b, r, rfl, hw, hb, q⟩
      · exact .inl ⟨rfl, fun H9 e9 => ⟨false, x20, (fun z => nomatch z), fun _ => ⟨false, x21, (fun z => nomatch z), fun _ => ⟨true, x22, fun _ a2 na => ⟨by show 2 ≤ sizeLine; decide, fun p np => q p _ ((((e1.trans e2).trans e3).trans e9).trans (Ex.new np)) upd_same⟩, (fun z => nomatch z)⟩⟩⟩⟩
      · exact .inr ⟨ws, s, b, r, rfl, hw, hb.mono ((e1.trans e2).trans e3), fun d H9 e9 hd => ⟨true, x00, fun _ a2 na => ⟨_, rfl, rfl, rfl, d, [("word", _)], _, rfl, hd, rfl, by show 1 ≤ sizeLine; decide, fun l nl => ⟨by show 2 ≤ sizeLine; decide, fun p np => (Tl.grow q (((e1.trans e2).trans e3).trans e9)).fin nl np⟩⟩, (fun z => nomatch z)⟩⟩
end
end K58

set_option Elab.async false
set_option linter.all false
set_option maxRecDepth 100000
set_option maxHeartbeats 4000000
/-! What the law has refused. -/
namespace K58
open PySem PySem.Spec PyProof.Rows L2 Vl Evl Vp Vx2 Vlk Vda Vc Ve Ven Vlt Vtx Vr
abbrev sRf : Stmt := top 49
abbrev nRf : List Str := ["_law_pool_here", "_law_text_here", "_law_bad", "_law_number", "_law_kind", "_law_told_here", "_law_wrong", "_law_words", "_law_place", "_law_first"]
def spRf : Sp := fun vs H Q _ => ∃ (p : Addr) (t : List Nat) (Hk : Hp) (n : Nat), vs = [.ref p, .str (tx t)] ∧ okW t 1 40 = true ∧ Pl Hk p n H ∧ n ≤ 80000 ∧ ∀ H', Pl Hk p (n + 10) H' → Q (.bl true) H'
def errD (nm : String) (d : PyData) : PyData := .tuple [.str (Str.ofString nm), .list [d]]
theorem canStr {s : Str} (h : PyData.strOk s = true) : PyData.canLay0 (.str s) = true := h
theorem sh_err {nm : String} {d : PyData} (h : Low d) : SeqAt.shaped (errD nm d) = true := by
  refine shaped_of ?_ ?_
  · show (PyData.canLay0 (.str (Str.ofString nm)) && ((PyData.canLay0 d && true) && true)) = true
    rw [canStr (strOk_of nm), h.1]
    rfl
  · have h2 := h.2
    show max 0 (max (max d.depth 0 + 1) 0) + 1 ≤ 64
    omega
section
variable {K : PySem.W.Frag} {σ : L2.St} {H : Hp} {te : TE} {D : Ends}
theorem sd_of {Q : VK} {H1 : Hp} {nm : String} {y : V} {d : PyData} (hd : Dp K H1 y d) (e : ∀ v H', Ex H1 H' → Dp K H' v (errD nm d) → Q v H') : Tl H1 Q nm y := fun q l H' e2 hq hl => e _ H' e2 (.tup (st_of hq) (.cons (.str _) (.cons (.lst (sq_of hl) (.cons (dp_ex e2 hd) .nil)) .nil)))
theorem sp_to1 {kind : Nat} {y k : V} {d : PyData} (hk : kind < 2) (hb : BadW K H y 1 40) (hd : Dp K H y d) : SpD K (spTo K) [.int (kind : Nat), y, k] H (errD "BadWord" d) := fun H1 e Q q E => ⟨kind, y, k, rfl, .inl ⟨hk, hb.mono e, sd_of (dp_ex e hd) q⟩⟩
theorem sp_to2 {t : Addr} {xs : List V} {k : V} {d : PyData} (ht : SqA K H t xs) (hl : xs.length ≤ 30) {ws s b r} (hx : xs = vtx ws ++ b :: r) (hw : Wins ws s) (hb : BadAt K H ws s b) (hd : Dp K H b d) : SpD K (spTo K) [.int 2, .ref t, k] H (errD "BadWord" d) := fun H1 e Q q E => ⟨2, .ref t, k, rfl, .inr (.inr ⟨rfl, t, xs, rfl, ex_a e ht, hl, .inr ⟨ws, s, b, r, hx, hw, hb.mono e, sd_of (dp_ex e hd) q⟩⟩)⟩
theorem sp_to3 {t : Addr} {k : V} (ht : SqA K H t []) : SpD K (spTo K) [.int 2, .ref t, k] H (.tuple [.str (Str.ofString "EmptyWalk"), .none]) := fun H1 e Q q E => ⟨2, .ref t, k, rfl, .inr (.inr ⟨rfl, t, [], rfl, ex_a e ht, by show 0 ≤ 30; omega, .inl ⟨rfl, fun q' H' e2 hq => q _ H' e2 (.tup (st_of hq) (.cons (.str _) (.cons .non .nil)))⟩⟩)⟩
theorem ed_err {nm : String} {i : Nat} {y : V} {d : PyData} (h : σ[i]? = some (some y)) (hd : Dp K H y d) : EvD K (tTup (tCons (tC (.str (Str.ofString nm))) (tCons (tLst (tCons (tVar i) tNil)) tNil))) σ H (errD nm d) :=
  ed_tup (eda_cons (ed_ev ev_c (.str _)) (eda_cons (ed_lst (eda_cons (ed_ev (ev_var h) hd) eda_nil) (by show 1 ≤ 100000; omega)) eda_nil)) (by show 2 ≤ 100000; omega)
/-- a draw out of a list -/
theorem s_pick {p : Addr} {Hk : Hp} {n m j : Nat} {R : List V → Hp → Prop} (hσ : σ[0]? = some (some (.ref p))) (P : Pl Hk p n H) (hn : n ≤ 90000) (hm : 1 ≤ m ∧ m ≤ 1000) (hl : ∀ Q : VK, (∀ a xs H1, H a = none → Ex H H1 → H1 a = some (.lst xs) → R xs H1 → Q (.ref a) H1) → te σ H Q) (hR : ∀ xs H1, R xs H1 → xs.length = m)
    (k : ∀ xs H1 (i : Nat) v H2, Ex H H1 → R xs H1 → xs[i]? = some v → Pl (Wo H1 p) p (n + 1) H2 → D.nx (σ.set j (some v)) H2) :
    tAsg (tOp (rIxL K) te (Vc.tFu spTake (fun _ => nil0) (tCons (tVar 0) (tCons (tC (.int (m : Nat))) tNil)))) (gName j) D σ H :=
  hl _ fun a xs H1 na e ha hr => ⟨_, hσ, p, (m : Int), Wo H1 p, n, rfl, by omega, by omega, (P.grow e).re, by omega, fun r H2 r0 r1 P2 => by
    obtain ⟨i, rfl⟩ := Int.eq_ofNat_of_zero_le r0
    have hi : i < xs.length := by rw [hR xs H1 hr]; omega
    have hap : a ≠ p := P.ne na
    exact ⟨a, xs, _, xs[i], rfl, rfl, sq_of (P2.ex _ _ (wo_at ha hap)), at_of rfl (List.getElem?_eq_getElem hi), k xs H1 i _ H2 e hr (List.getElem?_eq_getElem hi) P2⟩⟩
theorem lst_of {xs : List V} (h : EvL te σ H xs) : ∀ Q : VK, (∀ a ys H1, H a = none → Ex H H1 → H1 a = some (.lst ys) → ys = xs → Q (.ref a) H1) → te σ H Q := fun Q q => h H (Ex.refl H) Q fun a H1 na e ha => q a xs H1 na e ha rfl
end
def bads (t : Addr) : List V := [.str (tx []), .str (tx [65]), .str (tx [97, 98, 32, 99]), .str (tx [97, 49]), .non, .int 7, .str (tx (Vq.rp 41 [97])), .ref t]
def nums : List V := [.int 1, .int 9, .int 0, .int (-2), .bl true, .non, .str (tx [51]), .int (10 ^ 20)]
def firsts : List V := [.str (tx [97]), .str (tx [97, 98, 99, 100, 101, 102, 103, 104, 105]), .str (tx [97, 66]), .str (tx [97, 49]), .str (tx []), .non, .int 3]
def wrongs : List V := [.str (tx [97]), .str (tx [97, 98, 99, 100, 101, 102, 103, 104, 105]), .str (tx [97, 66]), .str (tx [97, 49]), .str (tx []), .non, .int 3, .str (tx [97, 98, 99, 100])]
def W3 : List (List Nat) := [[97, 98, 99], [98, 99, 97], [97, 98, 99]]
theorem low_str {l : List Nat} (h : ∀ c ∈ l, c < 128) : Low (.str (tx l)) := by
  have : SeqAt.shaped (wd [l]) = true := sh_w fun x hx c hc => by
    rw [List.mem_singleton.mp hx] at hc
    have := h c hc
    omega
  refine ⟨?_, by show 0 ≤ 10; omega⟩
  have := sh_lay this
  have h2 : (PyData.canLay0 (.str (tx l)) && true) = true := this
  rw [Bool.and_true] at h2
  exact h2
theorem low_non : Low .none := ⟨rfl, by show 0 ≤ 10; omega⟩
theorem low_int (i : Int) : Low (.int i) := ⟨rfl, by show 0 ≤ 10; omega⟩
theorem low_b (b : Bool) : Low (.bool b) := ⟨rfl, by show 0 ≤ 10; omega⟩
section
variable {K : PySem.W.Frag} {B : Hp}
theorem bad_s {l : List Nat} {lo hi : Nat} (h : l.length ≤ 1000) (h2 : okW l lo hi = false) : BadW K B (.str (tx l)) lo hi := .inl ⟨l, rfl, h, h2⟩
theorem bad_non {lo hi : Nat} : BadW K B .non lo hi := .inr ⟨"NoneType", fun _ _ => .base .non, by decide +kernel⟩
theorem bad_int {i : Int} {lo hi : Nat} : BadW K B (.int i) lo hi := .inr ⟨"int", fun _ _ => .base (.int i), by decide +kernel⟩
theorem bads_ok {t : Addr} (ht : B t = some (.tup [.str (tx [97]), .str (tx [98])])) {i : Nat} {y : V} (h : (bads t)[i]? = some y) : BadW K B y 1 40 ∧ ∃ d, Dp K B y d ∧ Low d := by
  have hm := List.mem_of_getElem? h
  unfold bads at hm
  simp only [List.mem_cons, List.not_mem_nil, or_false] at hm
  rcases hm with rfl | rfl | rfl | rfl | rfl | rfl | rfl | rfl
  · exact ⟨bad_s (by decide) (by decide +kernel), _, .str _, low_str (by decide)⟩
  · exact ⟨bad_s (by decide) (by decide +kernel), _, .str _, low_str (by decide)⟩
  · exact ⟨bad_s (by decide) (by decide +kernel), _, .str _, low_str (by decide)⟩
  · exact ⟨bad_s (by decide) (by decide +kernel), _, .str _, low_str (by decide)⟩
  · exact ⟨bad_non, _, .non, low_non⟩
  · exact ⟨bad_int, _, .int _, low_int _⟩
  · exact ⟨bad_s (by decide +kernel) (by decide +kernel), _, .str _, low_str (by decide +kernel)⟩
  · refine ⟨.inr ⟨"tuple", fun H' e => .base (.tup (e _ _ ht)), by decide +kernel⟩, .tuple [.str (tx [97]), .str (tx [98])], .tup (st_of ht) (.cons (.str _) (.cons (.str _) .nil)), ?_, by show 1 ≤ 10; omega⟩
    have := sh_lay (sh_w (a := [[97], [98]]) (by intro x hx c hc; simp only [List.mem_cons, List.not_mem_nil, or_false] at hx; rcases hx with rfl | rfl <;> (simp only [List.mem_cons, List.not_mem_nil, or_false] at hc; omega)))
    exact this
theorem nums_ok {i : Nat} {y : V} (h : nums[i]? = some y) : (∀ B, BadN K B y) ∧ (∃ d, (∀ B, Dp K B y d) ∧ Low d) ∧ ∃ ty b, (∀ B, TyX K B y (.type ty)) ∧ kitB ty "bool" = some b := by
  have hm := List.mem_of_getElem? h
  unfold nums at hm
  simp only [List.mem_cons, List.not_mem_nil, or_false] at hm
  have ii : ∀ z : Int, ¬ (2 ≤ z ∧ z ≤ 8) → (∀ B, BadN K B (.int z)) ∧ (∃ d, (∀ B, Dp K B (.int z) d) ∧ Low d) ∧ ∃ ty b, (∀ B, TyX K B (.int z) (.type ty)) ∧ kitB ty "bool" = some b := fun z hz =>
    ⟨fun B => .inr ⟨z, rfl, hz⟩, ⟨_, fun B => .int z, low_int z⟩, "int", false, fun B => .base (.int z), by decide +kernel⟩
  rcases hm with rfl | rfl | rfl | rfl | rfl | rfl | rfl | rfl
  · exact ii _ (by decide)
  · exact ii _ (by decide)
  · exact ii _ (by decide)
  · exact ii _ (by decide)
  · exact ⟨fun B => .inl ⟨"bool", true, true, fun _ _ => .base (.bl true), by decide +kernel, by decide +kernel, rfl⟩, ⟨_, fun B => .bl true, low_b _⟩, "bool", true, fun B => .base (.bl true), by decide +kernel⟩
  · exact ⟨fun B => .inl ⟨"NoneType", false, false, fun _ _ => .base .non, by decide +kernel, by decide +kernel, rfl⟩, ⟨_, fun B => .non, low_non⟩, "NoneType", false, fun B => .base .non, by decide +kernel⟩
  · exact ⟨fun B => .inl ⟨"str", false, false, fun _ _ => .base (.str _), by decide +kernel, by decide +kernel, rfl⟩, ⟨_, fun B => .str _, low_str (by decide)⟩, "str", false, fun B => .base (.str _), by decide +kernel⟩
  · exact ii _ (by decide)
theorem firsts_ok {i : Nat} {y : V} (h : firsts[i]? = some y) : (∀ B, BadW K B y 2 8) ∧ ∃ d, (∀ B, Dp K B y d) ∧ Low d := by
  have hm := List.mem_of_getElem? h
  unfold firsts at hm
  simp only [List.mem_cons, List.not_mem_nil, or_false] at hm
  rcases hm with rfl | rfl | rfl | rfl | rfl | rfl | rfl
  · exact ⟨fun B => bad_s (by decide) (by decide +kernel), _, fun B => .str _, low_str (by decide)⟩
  · exact ⟨fun B => bad_s (by decide) (by decide +kernel), _, fun B => .str _, low_str (by decide)⟩
  · exact ⟨fun B => bad_s (by decide) (by decide +kernel), _, fun B => .str _, low_str (by decide)⟩
  · exact ⟨fun B => bad_s (by decide) (by decide +kernel), _, fun B => .str _, low_str (by decide)⟩
  · exact ⟨fun B => bad_s (by decide) (by decide +kernel), _, fun B => .str _, low_str (by decide)⟩
  · exact ⟨fun B => bad_non, _, fun B => .non, low_non⟩
  · exact ⟨fun B => bad_int, _, fun B => .int _, low_int _⟩
theorem wrongs_ok {i : Nat} {y : V} (h : wrongs[i]? = some y) : (∀ (B : Hp) (ws : List (List Nat)), 0 < ws.length → BadAt K B ws 3 y) ∧ ∃ d, (∀ B, Dp K B y d) ∧ Low d := by
  have hm := List.mem_of_getElem? h
  have he : wrongs = firsts ++ [.str (tx [97, 98, 99, 100])] := rfl
  rw [he] at hm
  rcases List.mem_append.mp hm with hm | hm
  · obtain ⟨j, hj⟩ := List.getElem?_of_mem hm
    obtain ⟨h1, h2⟩ := firsts_ok (K := K) hj
    exact ⟨fun B ws _ => .inl (h1 B), h2⟩
  · rw [List.mem_singleton.mp hm]
    exact ⟨fun B ws hw => .inr ⟨_, rfl, by decide +kernel, hw, by decide⟩, _, fun B => .str _, low_str (by decide)⟩
end
end K58

set_option Elab.async false
set_option linter.all false
set_option maxRecDepth 100000
set_option maxHeartbeats 4000000
/-! What the law has refused: the reading. -/
namespace K58
open PySem PySem.Spec PyProof.Rows L2 Vl Evl Vp Vx2 Vlk Vda Vc Ve Ven Vlt Vtx Vr
section
variable {K : PySem.W.Frag} {σ : L2.St} {H : Hp} {te : TE}
theorem evs {s : String} {l : List Nat} (h : Str.ofString s = tx l) : Ev (tC (.str (Str.ofString s))) σ H (.str (tx l)) := ev_is ev_c (congrArg V.str h)
theorem ed_fuL {sp : Sp} {E : L2.St → XK} {xs : List V} {d : PyData} {u v : V} (h : EvL te σ H xs) (hs : ∀ a H1, Ex H H1 → H1 a = some (.lst xs) → SpD K sp [u, .ref a, v] H1 d) : EvD K (Vc.tFu sp E (tCons (tC u) (tCons te (tCons (tC v) tNil)))) σ H d :=
  fun H1 e Q q => h H1 e _ fun a H2 na e2 ha => hs a H2 (e.trans e2) ha H2 (Ex.refl _) Q (fun v H3 e3 hv => q v H3 (e2.trans e3) hv) (E σ)
theorem ed_fuU {sp : Sp} {E : L2.St → XK} {xs : List V} {d : PyData} {u v : V} (h : EvU te σ H xs) (hs : ∀ a H1, Ex H H1 → H1 a = some (.tup xs) → SpD K sp [u, .ref a, v] H1 d) : EvD K (Vc.tFu sp E (tCons (tC u) (tCons te (tCons (tC v) tNil)))) σ H d :=
  fun H1 e Q q => h H1 e _ fun a H2 na e2 ha => hs a H2 (e.trans e2) ha H2 (Ex.refl _) Q (fun v H3 e3 hv => q v H3 (e2.trans e3) hv) (E σ)
end
theorem s_asgSl {r : V → Option Int → Option Int → Hp → VK → Prop} {te : TE} {tl th : TO} {g : TG} {D : Ends} {σ : L2.St} {H : Hp} (h : te σ H fun x H1 => tl σ H1 fun lo H2 => th σ H2 fun hi H3 => r x lo hi H3 fun v H4 => g v σ H4 fun σ' H5 => D.nx σ' H5) : tAsg (tSl r te tl th) g D σ H := h
theorem str_a : Str.ofString "a" = tx [97] := by decide +kernel
theorem str_b : Str.ofString "b" = tx [98] := by decide +kernel
theorem str_x : Str.ofString "x" = tx [120] := by decide +kernel
theorem str_e : Str.ofString "" = tx [] := by decide +kernel
theorem str_A : Str.ofString "A" = tx [65] := by decide +kernel
theorem str_abc : Str.ofString "abc" = tx [97, 98, 99] := by decide +kernel
theorem str_bca : Str.ofString "bca" = tx [98, 99, 97] := by decide +kernel
theorem str_abcd : Str.ofString "abcd" = tx [97, 98, 99, 100] := by decide +kernel
theorem str_ab_c : Str.ofString "ab c" = tx [97, 98, 32, 99] := by decide +kernel
theorem str_a1 : Str.ofString "a1" = tx [97, 49] := by decide +kernel
theorem str_aB : Str.ofString "aB" = tx [97, 66] := by decide +kernel
theorem str_3 : Str.ofString "3" = tx [51] := by decide +kernel
theorem str_ai : Str.ofString "abcdefghi" = tx [97, 98, 99, 100, 101, 102, 103, 104, 105] := by decide +kernel
theorem str_bia : Str.ofString "bcdefghia" = tx [98, 99, 100, 101, 102, 103, 104, 105, 97] := by decide +kernel
section
variable {P : Program} {w : World} {K : PySem.W.Frag} {mg : Str → Option Value} {base : Heap}
theorem scRf : FnScope nRf ["_law_pool_here", "_law_text_here"] (defScope sRf) := ⟨rfl, rfl, rfl, by decide +kernel, rfl, by decide +kernel, by decide +kernel⟩
theorem ok_rf {f : Addr} {fd : FuncData} (F : FnP K "_law_refuses" sRf f fd) (TT : Fu P w K mg base L2.CX0 1 "_law_take" spTake) (TTo : Fu P w K mg base L2.CX0 7 "_law_told" (spTo K)) (mLen : mg "len" = none) (mRange : mg "range" = none) (mIsi : mg "isinstance" = none) (mBool : mg "bool" = none) :
    FnOk P w K mg base L2.CX0 8 f fd ["_law_pool_here", "_law_text_here"] spRf := by
  refine F.ok (CX := L2.CX0) scRf (fun vs H Q E h => ?_) (fun cdv A outer s H vs Q E hr h => ?_)
  · obtain ⟨p, t, Hk, n, rfl, _⟩ := h
    rfl
  · refine ⟨_, (pss_cons (ps_set (i := 2) scRf.nd rfl (by first | exact Or.inl rfl | exact Or.inr rfl) (pe_ix ix_list (pe_lst (pa_cons pe_str (pa_cons pe_str (pa_cons pe_str (pa_cons pe_str (pa_cons pe_non (pa_cons pe_int (pa_cons (pe_op Vtx.op_repS pe_str pe_int) (pa_cons (pe_tup (pa_cons pe_str (pa_cons pe_str pa_nil))) pa_nil))))))))) (pe_fu TT hr (by rfl) (pa_cons (pv 0) (pa_cons pe_int pa_nil))) fun _ _ => rfl))
      (pss_cons (ps_set (i := 3) scRf.nd rfl (by first | exact Or.inl rfl | exact Or.inr rfl) (pe_ix ix_list (pe_lst (pa_cons pe_int (pa_cons pe_int (pa_cons pe_int (pa_cons (pe_un un_neg pe_int) (pa_cons pe_bl (pa_cons pe_non (pa_cons pe_str (pa_cons (pe_op op_pow pe_int pe_int) pa_nil))))))))) (pe_fu TT hr (by rfl) (pa_cons (pv 0) (pa_cons pe_int pa_nil))) fun _ _ => rfl))
      (pss_cons (ps_for (passes_of rfl) rfl (pi_range1 (by rfl) mRange (pa_cons pe_int pa_nil)) (pg_name (i := 4) scRf.nd rfl (by first | exact Or.inl rfl | exact Or.inr rfl)) (pss_cons (ps_if (PW.pt (pw_or (pt_cmpR (op_neD hr.units) (pe_fu TTo hr (by rfl) (pa_cons (pv 4) (pa_cons (pv 2) (pa_cons (pv 3) pa_nil)))) (pe_tup (pa_cons pe_str (pa_cons (pe_lst (pa_cons (pv 2) pa_nil)) pa_nil))) (nomark _)) (pw_or1 (pt_cmpR (op_neD hr.units) (pe_fu TTo hr (by rfl) (pa_cons (pv 4) (pa_cons (pv 2) (pa_cons pe_int pa_nil)))) (pe_tup (pa_cons pe_str (pa_cons (pe_lst (pa_cons (pv 2) pa_nil)) pa_nil))) (nomark _))))) (pss_one (ps_ret pe_bl)) pss_nil)
      (pss_cons (ps_set (i := 5) scRf.nd rfl (by first | exact Or.inl rfl | exact Or.inr rfl) (pe_fu TTo hr (by rfl) (pa_cons (pv 4) (pa_cons (pv 1) (pa_cons (pv 3) pa_nil)))))
      (pss_one (ps_if (PW.pt (pw_or (pt_cmpR (op_neD hr.units) (pv 5) (pe_tup (pa_cons pe_str (pa_cons (pe_lst (pa_cons (pv 3) pa_nil)) pa_nil))) (nomark _)) (pw_or1 (pt_cmpR op_ne (pe_callB call_isi (by rfl) mIsi boot_isinstance (pa_cons (pe_ix ix_list (pe_ix ix_tup (pv 5) pe_int fun _ _ => rfl) pe_int fun _ _ => rfl) (pa_cons (pe_bltn (v := V.ty "bool") (by rfl) mBool boot_bool rfl) pa_nil))) (pe_callB call_isi (by rfl) mIsi boot_isinstance (pa_cons (pv 3) (pa_cons (pe_bltn (v := V.ty "bool") (by rfl) mBool boot_bool rfl) pa_nil))) (nomark _))))) (pss_one (ps_ret pe_bl)) pss_nil)))))
      (pss_cons (ps_set (i := 6) scRf.nd rfl (by first | exact Or.inl rfl | exact Or.inr rfl) (pe_ix ix_list (pe_lst (pa_cons pe_str (pa_cons pe_str (pa_cons pe_str (pa_cons pe_str (pa_cons pe_str (pa_cons pe_non (pa_cons pe_int (pa_cons pe_str pa_nil))))))))) (pe_fu TT hr (by rfl) (pa_cons (pv 0) (pa_cons pe_int pa_nil))) fun _ _ => rfl))
      (pss_cons (ps_set (i := 7) scRf.nd rfl (by first | exact Or.inl rfl | exact Or.inr rfl) (pe_slice sl_list (pe_lst (pa_cons pe_str (pa_cons pe_str (pa_cons pe_str pa_nil)))) po_none (po_some (pe_op op_add pe_int (pe_fu TT hr (by rfl) (pa_cons (pv 0) (pa_cons pe_int pa_nil)))))))
      (pss_cons (ps_set (i := 8) scRf.nd rfl (by first | exact Or.inl rfl | exact Or.inr rfl) (pe_op op_add pe_int (pe_fu TT hr (by rfl) (pa_cons (pv 0) (pa_cons (pe_callB call_len (by rfl) mLen boot_len (pa_cons (pv 7) pa_nil)) pa_nil)))))
      (pss_cons (ps_if (pt_cmpR (op_neD hr.units) (pe_fu TTo hr (by rfl) (pa_cons pe_int (pa_cons (pe_op op_cat (pe_op op_cat (pe_slice sl_list (pv 7) po_none (po_some (pv 8))) (pe_lst (pa_cons (pv 6) (pa_cons pe_str pa_nil)))) (pe_slice sl_list (pv 7) (po_some (pv 8)) po_none)) (pa_cons pe_int pa_nil)))) (pe_tup (pa_cons pe_str (pa_cons (pe_lst (pa_cons (pv 6) pa_nil)) pa_nil))) (nomark _)) (pss_one (ps_ret pe_bl)) pss_nil)
      (pss_cons (ps_set (i := 9) scRf.nd rfl (by first | exact Or.inl rfl | exact Or.inr rfl) (pe_ix ix_list (pe_lst (pa_cons pe_str (pa_cons pe_str (pa_cons pe_str (pa_cons pe_str (pa_cons pe_str (pa_cons pe_non (pa_cons pe_int pa_nil)))))))) (pe_fu TT hr (by rfl) (pa_cons (pv 0) (pa_cons pe_int pa_nil))) fun _ _ => rfl))
      (pss_cons (ps_if (PW.pt (pw_or (pt_cmpR (op_neD hr.units) (pe_fu TTo hr (by rfl) (pa_cons pe_int (pa_cons (pe_op op_cat (pe_lst (pa_cons (pv 9) pa_nil)) (pv 7)) (pa_cons pe_int pa_nil)))) (pe_tup (pa_cons pe_str (pa_cons (pe_lst (pa_cons (pv 9) pa_nil)) pa_nil))) (nomark _)) (pw_or1 (pt_cmpR (op_neD hr.units) (pe_fu TTo hr (by rfl) (pa_cons pe_int (pa_cons (pe_tup (pa_cons (pv 9) pa_nil)) (pa_cons pe_int pa_nil)))) (pe_tup (pa_cons pe_str (pa_cons (pe_lst (pa_cons (pv 9) pa_nil)) pa_nil))) (nomark _))))) (pss_one (ps_ret pe_bl)) pss_nil)
      (pss_cons (ps_if (pt_cmpR (op_neD hr.units) (pe_fu TTo hr (by rfl) (pa_cons pe_int (pa_cons (pe_lst (pa_cons pe_str (pa_cons pe_str pa_nil))) (pa_cons pe_int pa_nil)))) (pe_tup (pa_cons pe_str (pa_cons (pe_lst (pa_cons pe_str pa_nil)) pa_nil))) (nomark _)) (pss_one (ps_ret pe_bl)) pss_nil)
      (pss_one (ps_ret (pe_and (pe_cmpR (op_eqD hr.units) (pe_fu TTo hr (by rfl) (pa_cons pe_int (pa_cons (pe_lst pa_nil) (pa_cons pe_int pa_nil)))) (pe_tup (pa_cons pe_str (pa_cons pe_non pa_nil))) (nomark _)) (pe_one (pe_cmpR (op_eqD hr.units) (pe_fu TTo hr (by rfl) (pa_cons pe_int (pa_cons (pe_tup pa_nil) (pa_cons pe_int pa_nil)))) (pe_tup (pa_cons pe_str (pa_cons pe_non pa_nil))) (nomark _)))))))))))))))), ?_⟩
    obtain ⟨p, t, Hk, n, rfl, ok, P0, hn, k⟩ := h
    refine s_seq ?_
    refine s_pick (K := K) (m := 8) (R := fun xs H1 => ∃ t0, t0 ≠ p ∧ H1 t0 = some (.tup [.str (tx [97]), .str (tx [98])]) ∧ xs = bads t0) rfl P0 (by omega) (by omega) (fun Q' q' => ?_) (by rintro xs H1 ⟨t0, _, _, rfl⟩; rfl) ?_
    · refine ⟨[97], 41, congrArg V.str str_a, rfl, by decide, by decide, ⟨by show 2 ≤ sizeLine; decide, fun t0 nt => ⟨by show 8 ≤ sizeLine; decide, fun a na => ?_⟩⟩⟩
      refine q' a (bads t0) _ (fresh_back (Ex.new nt) na) ((Ex.new nt).trans (Ex.new na)) ?_ ⟨t0, P0.ne nt, ?_, rfl⟩
      · rw [upd_same, str_e, str_A, str_ab_c, str_a1]
        rfl
      · rw [upd_ne (fun z => by rw [← z, upd_same] at na; cases na), upd_same, str_a, str_b]
    rintro xs H1 i bad H2 e1 ⟨t0, ht0p, ht0, rfl⟩ hbad P2
    have hB1 : (Wo H1 p) t0 = some (.tup [.str (tx [97]), .str (tx [98])]) := wo_at ht0 ht0p
    obtain ⟨hbw, db, hdb, lb⟩ := bads_ok (K := K) hB1 hbad
    have kk : ∀ {H' : Hp} {m : Nat}, Pl (Wo H1 p) p m H' → Pl Hk p m H' := fun z => (P0.grow e1).back z
    dsimp only
    refine s_seq ?_
    refine s_pick (K := K) (m := 8) (R := fun xs _ => xs = nums) rfl P2 (by omega) (by omega) (lst_of (xs := nums) (el_lst (ea_cons ev_c (ea_cons ev_c (ea_cons ev_c (ea_cons (ev_un ev_c ru_neg) (ea_cons ev_c (ea_cons ev_c (ea_cons (evs str_3) (ea_cons (ev_op ev_c ev_c (rv_I ⟨by omega, by omega, by decide⟩)) ea_nil)))))))) (by show 8 ≤ 100000; omega))) (by rintro xs _ rfl; rfl) ?_
    rintro xs H3 j num H4 e3 rfl hnum P4'
    have P4 : Pl (Wo H1 p) p (n + 2) H4 := (P2.grow e3).back P4'
    obtain ⟨hbn, ⟨dn, hdn, ln⟩, ty, bb, hty, hkb⟩ := nums_ok (K := K) hnum
    clear P4' hnum hbad
    dsimp only
    refine s_seq ?_
    refine s_forR1 (n := 2) (ea_cons ev_c ea_nil) (by omega) (fun i st H' => ∃ t4 t5, st = [some (.ref p), some (.str (tx t)), some bad, some num, t4, t5, none, none, none, none] ∧ Pl (Wo H1 p) p (n + 2) H') (fun H5 e5 => ⟨none, none, rfl, P4.grow e5⟩) ?_ ?_
    · rintro i st H5 hi ⟨t4, t5, rfl, P5⟩
      have hk2 : i < 2 := by omega
      show tSeq _ _ _ [some (.ref p), some (.str (tx t)), some bad, some num, some (.int (i : Nat)), t5, none, none, none, none] H5
      refine s_seq ?_
      refine s_when (b := false) (et_is (et_or (et_test (ev_unlike (ed_fu (ea_cons (ev_var rfl) (ea_cons (ev_var rfl) (ea_cons (ev_var rfl) ea_nil))) (sp_to1 hk2 (hbw.mono P5.ex) (dp_ex P5.ex hdb))) (ed_err rfl (dp_ex P5.ex hdb)) (sh_err lb))) (fun _ => et_test (ev_unlike (ed_fu (ea_cons (ev_var rfl) (ea_cons (ev_var rfl) (ea_cons ev_c ea_nil))) (sp_to1 hk2 (hbw.mono P5.ex) (dp_ex P5.ex hdb))) (ed_err rfl (dp_ex P5.ex hdb)) (sh_err lb)))) rfl) (fun z => by cases z) (fun _ H6 e6 => ?_)
      dsimp only
      refine s_seq ?_
      refine s_asgFu (ea_cons (ev_var rfl) (ea_cons (ev_var rfl) (ea_cons (ev_var rfl) ea_nil))) fun H7 e7 => ⟨i, .str (tx t), num, rfl, .inr (.inl ⟨hk2, t, rfl, ok, hbn _, fun q l H8 e8 hq hl => ?_⟩)⟩
      dsimp only
      refine s_when (b := false) (et_is (et_or (et_test (ev_unlike (d := errD "BadNumber" dn) (ed_ev (ev_var rfl) (.tup (st_of hq) (.cons (.str _) (.cons (.lst (sq_of hl) (.cons (hdn _) .nil)) .nil)))) (ed_err rfl (hdn _)) (sh_err ln))) (fun _ => et_test (ev_is (ev_op (ev_isi (ev_op (ev_op (ev_var rfl) ev_c (rv_ixT (st_of hq) (at_of (j := 1) rfl rfl))) ev_c (rv_ixL (sq_of hl) (at_of (j := 0) rfl rfl))) (hty _) (fun H _ => hty H) hkb) (ev_isi (ev_var rfl) (hty _) (fun H _ => hty H) hkb) (rv_ne rfl)) (by rw [decide_eq_true rfl]; rfl)))) rfl) (fun z => by cases z) (fun _ H9 e9 => ?_)
      exact ⟨_, _, rfl, P5.grow (((e6.trans e7).trans e8).trans e9)⟩
    rintro st H5 ⟨t4, t5, rfl, P5⟩
    dsimp only
    refine s_seq ?_
    refine s_pick (K := K) (m := 8) (R := fun xs _ => xs = wrongs) rfl P5 (by omega) (by omega) (lst_of (xs := wrongs) (el_lst (ea_cons (evs str_a) (ea_cons (evs str_ai) (ea_cons (evs str_aB) (ea_cons (evs str_a1) (ea_cons (evs str_e) (ea_cons ev_c (ea_cons ev_c (ea_cons (evs str_abcd) ea_nil)))))))) (by show 8 ≤ 100000; omega))) (by rintro xs _ rfl; rfl) ?_
    rintro xs H6 i6 wrong H7 e6 rfl hwr P7'
    have P7 : Pl (Wo H1 p) p (n + 3) H7 := (P5.grow e6).back P7'
    obtain ⟨hba, dw, hdw, lw⟩ := wrongs_ok (K := K) hwr
    clear P7' hwr
    dsimp only
    refine s_seq ?_
    have hw3 : EvL (tLst (tCons (tC (.str (Str.ofString "abc"))) (tCons (tC (.str (Str.ofString "bca"))) (tCons (tC (.str (Str.ofString "abc"))) tNil)))) [some (.ref p), some (.str (tx t)), some bad, some num, t4, t5, some wrong, none, none, none] H7 (vtx W3) := el_lst (ea_cons (evs str_abc) (ea_cons (evs str_bca) (ea_cons (evs str_abc) ea_nil))) (by show 3 ≤ 100000; omega)
    refine s_asgSl (hw3 H7 (Ex.refl _) _ fun aw H8 naw e8 haw => ?_)
    refine ⟨_, rfl, p, 3, Wo H8 p, _, rfl, by omega, by omega, (P7.grow e8).re, by omega, fun r H9 r0 r1 P9' => ⟨1, r, rfl, rfl, 1 + r, rfl, ?_⟩⟩
    have P9 : Pl (Wo H1 p) p (n + 4) H9 := (P7.grow e8).back P9'
    have hawp : aw ≠ p := P7.ne naw
    obtain ⟨r, rfl⟩ := Int.eq_ofNat_of_zero_le r0
    refine ⟨aw, vtx W3, rfl, sq_of (P9'.ex _ _ (wo_at haw hawp)), fun w2 nw2 => ?_⟩
    have hcut : cutV (vtx W3) none (some (1 + (r : Int))) = vtx (W3.take (1 + r)) := by
      have : (1 + (r : Int)) = ((1 + r : Nat) : Int) := by omega
      rw [this, cutV0, vtx_take]
    rw [hcut]
    have w2p : w2 ≠ p := P9.ne nw2
    have P10 := P9.new (o := .lst (vtx (W3.take (1 + r)))) nw2
    have hw10 : (upd H9 w2 (.lst (vtx (W3.take (1 + r))))) w2 = some (.lst (vtx (W3.take (1 + r)))) := upd_same
    generalize upd H9 w2 (.lst (vtx (W3.take (1 + r)))) = H10 at P10 hw10 ⊢
    have hwl : (W3.take (1 + r)).length = 1 + r := by
      rw [List.length_take]
      show min (1 + r) 3 = _
      omega
    have hwins : Wins (W3.take (1 + r)) 3 := fun l hl => by
      have := List.mem_of_mem_take hl
      unfold W3 at this
      simp only [List.mem_cons, List.not_mem_nil, or_false] at this
      rcases this with rfl | rfl | rfl <;> exact ⟨by decide +kernel, rfl⟩
    generalize W3.take (1 + r) = ws at hw10 hwl hwins
    clear P9' P9 nw2 hcut hw3 haw
    dsimp only
    refine s_seq ?_
    refine ⟨_, rfl, _, rfl, V.ref w2, ws.length, rfl, .inl ⟨_, sq_of hw10, (vtx_len ws).symm⟩, p, (ws.length : Int), Wo H10 p, _, rfl, by omega, by omega, P10.re, by omega, fun r2 H11 r20 r21 P11' => ⟨1, r2, rfl, rfl, ?_⟩⟩
    have P11 : Pl (Wo H1 p) p (n + 5) H11 := P10.back P11'
    have hw11 : H11 w2 = some (.lst (vtx ws)) := P11'.ex _ _ (wo_at hw10 w2p)
    obtain ⟨r2, rfl⟩ := Int.eq_ofNat_of_zero_le r20
    have hpl : (1 + (r2 : Int)) = ((1 + r2 : Nat) : Int) := by omega
    dsimp only
    show tSeq _ _ _ [some (.ref p), some (.str (tx t)), some bad, some num, t4, t5, some wrong, some (.ref w2), some (.int (1 + (r2 : Int))), none] H11
    rw [hpl]
    have hp1 : 1 + r2 ≤ ws.length := by omega
    generalize hk : 1 + r2 = pl at hp1
    have hp0 : 0 < pl := by omega
    clear P11' P10 hpl
    refine s_seq ?_
    have el1 : ∀ {H' : Hp}, H' w2 = some (.lst (vtx ws)) → EvL (tOp rCat (tOp rCat (tSl (rSlL K) (tVar 7) tNoPart (tPart (tVar 8))) (tLst (tCons (tVar 6) (tCons (tC (.str (Str.ofString "x"))) tNil)))) (tSl (rSlL K) (tVar 7) (tPart (tVar 8)) tNoPart)) [some (.ref p), some (.str (tx t)), some bad, some num, t4, t5, some wrong, some (.ref w2), some (.int (pl : Nat)), none] H' (vtx (ws.take pl) ++ wrong :: ([.str (tx [120])] ++ vtx (ws.drop pl))) := fun hw' => by
      have key := el_cat2 (el_cat2 (el_sl (K := K) (lo := none) (hi := some (pl : Int)) (te := tVar 7) (th := tPart (tVar 8)) (ev_var rfl) eo_none (eo_some (ev_var rfl)) (sq_of hw')) (el_lst (ta := tCons (tVar 6) (tCons (tC (.str (Str.ofString "x"))) tNil)) (σ := [some (.ref p), some (.str (tx t)), some bad, some num, t4, t5, some wrong, some (.ref w2), some (.int (pl : Nat)), none]) (ea_cons (ev_var rfl) (ea_cons (evs str_x) ea_nil)) (by show 2 ≤ 100000; omega)) (by
          rw [cutV0, vtx_take, vtx_len, List.length_take]
          show _ + 2 ≤ _
          omega)) (el_sl (K := K) (lo := some (pl : Int)) (hi := none) (te := tVar 7) (tl := tPart (tVar 8)) (ev_var rfl) (eo_some (ev_var rfl)) eo_none (sq_of hw')) (by
          rw [cutV0, cutV1, vtx_take, vtx_drop, List.length_append, vtx_len, vtx_len, List.length_take, List.length_drop]
          show _ + 2 + _ ≤ _
          omega)
      rw [cutV0, cutV1, vtx_take, vtx_drop, List.append_assoc] at key
      exact key
    have hb1 : (ws.take pl).length = pl := by rw [List.length_take]; omega
    refine s_when (b := false) (et_test (ev_unlike (ed_fuL (el1 hw11) fun a H' e ha => sp_to2 (.inl (sq_of ha)) (by
        rw [List.length_append, List.length_cons, List.length_append, vtx_len, vtx_len, List.length_take, List.length_drop]
        show _ + (1 + _ + 1) ≤ 30
        omega) rfl (fun l hl => hwins l (List.mem_of_mem_take hl)) (hba _ _ (by omega)) (hdw _)) (ed_err rfl (hdw _)) (sh_err lw))) (fun z => by cases z) (fun _ H12 e12 => ?_)
    have P12 := P11.grow e12
    have hw12 := e12 _ _ hw11
    dsimp only
    refine s_seq ?_
    refine s_pick (K := K) (m := 7) (R := fun xs _ => xs = firsts) rfl P12 (by omega) (by omega) (lst_of (xs := firsts) (el_lst (ea_cons (evs str_a) (ea_cons (evs str_ai) (ea_cons (evs str_aB) (ea_cons (evs str_a1) (ea_cons (evs str_e) (ea_cons ev_c (ea_cons ev_c ea_nil))))))) (by show 7 ≤ 100000; omega))) (by rintro xs _ rfl; rfl) ?_
    rintro xs H13 i7 first H14 e13 rfl hfi P14'
    have P14 : Pl (Wo H1 p) p (n + 6) H14 := (P12.grow e13).back P14'
    have hw14 : H14 w2 = some (.lst (vtx ws)) := P14'.ex _ _ (wo_at (e13 _ _ hw12) w2p)
    obtain ⟨hbf, df, hdf, lf⟩ := firsts_ok (K := K) hfi
    clear P14' hfi
    dsimp only
    refine s_seq ?_
    have hnil : Wins ([] : List (List Nat)) 3 := fun _ h => nomatch h
    have el2 : ∀ {H' : Hp}, H' w2 = some (.lst (vtx ws)) → EvL (tOp rCat (tLst (tCons (tVar 9) tNil)) (tVar 7)) [some (.ref p), some (.str (tx t)), some bad, some num, t4, t5, some wrong, some (.ref w2), some (.int (pl : Nat)), some first] H' (first :: vtx ws) := fun hw' H15 e15 Q' q' =>
      (el_lst (ta := tCons (tVar 9) tNil) (vs := [first]) (ea_cons (ev_var rfl) ea_nil) (by show 1 ≤ 100000; omega)) H15 (Ex.refl _) _ fun a H16 na e16 ha => ⟨_, rfl, a, w2, [first], vtx ws, rfl, rfl, ha, e16 _ _ (e15 _ _ hw'), by rw [vtx_len]; show 1 + ws.length ≤ sizeLine; exact sz_of (by omega), fun b nb => q' b _ (fresh_back e16 nb) (e16.trans (Ex.new nb)) upd_same⟩
    refine s_when (b := false) (et_is (et_or (et_test (ev_unlike (ed_fuL (el2 hw14) fun a H' e ha => sp_to2 (ws := []) (s := 3) (.inl (sq_of ha)) (by rw [List.length_cons, vtx_len]; omega) rfl hnil (.inl (hbf _)) (hdf _)) (ed_err rfl (hdf _)) (sh_err lf))) (fun _ => et_test (ev_unlike (ed_fuU (eu_tup (ta := tCons (tVar 9) tNil) (ea_cons (ev_var rfl) ea_nil) (by show 1 ≤ 100000; omega)) fun a H' e ha => sp_to2 (ws := []) (s := 3) (.inr (st_of ha)) (by show 1 ≤ 30; omega) rfl hnil (.inl (hbf _)) (hdf _)) (ed_err rfl (hdf _)) (sh_err lf)))) rfl) (fun z => by cases z) (fun _ H15 e15 => ?_)
    dsimp only
    refine s_seq ?_
    refine s_when (b := false) (et_test (ev_unlike (d := errD "BadWord" (.str (tx [98, 99, 100, 101, 102, 103, 104, 105, 97]))) (ed_fuL (el_lst (ta := tCons (tC (.str (Str.ofString "bcdefghia"))) (tCons (tC (.str (Str.ofString "abcdefghi"))) tNil)) (ea_cons (evs str_bia) (ea_cons (evs str_ai) ea_nil)) (by show 2 ≤ 100000; omega)) fun a H' e ha => sp_to2 (ws := []) (s := 3) (.inl (sq_of ha)) (by show 2 ≤ 30; omega) rfl hnil (.inl (bad_s (by decide) (by decide +kernel))) (.str _))
      (ed_tup (eda_cons (ed_ev ev_c (.str _)) (eda_cons (ed_lst (eda_cons (ed_ev (evs str_bia) (.str _)) eda_nil) (by show 1 ≤ 100000; omega)) eda_nil)) (by show 2 ≤ 100000; omega)) (sh_err (low_str (by decide))))) (fun z => by cases z) (fun _ H16 e16 => ?_)
    dsimp only
    have ed0 : ∀ {H' : Hp}, EvD K (tTup (tCons (tC (.str (Str.ofString "EmptyWalk"))) (tCons (tC .non) tNil))) [some (.ref p), some (.str (tx t)), some bad, some num, t4, t5, some wrong, some (.ref w2), some (.int (pl : Nat)), some first] H' (.tuple [.str (Str.ofString "EmptyWalk"), .none]) := ed_tup (eda_cons (ed_ev ev_c (.str _)) (eda_cons (ed_ev ev_c .non) eda_nil)) (by show 2 ≤ 100000; omega)
    have sh0 : SeqAt.shaped (.tuple [.str (Str.ofString "EmptyWalk"), .none]) = true := by decide +kernel
    refine s_ret (v := .bl true) (ev_is (ev_andV (ev_same (ed_fuL (el_lst ea_nil (by show 0 ≤ 100000; omega)) fun a H' e ha => sp_to3 (.inl (sq_of ha))) ed0 sh0) (fun _ => ev_same (ed_fuU (eu_tup ea_nil (by show 0 ≤ 100000; omega)) fun a H' e ha => sp_to3 (.inr (st_of ha))) ed0 sh0)) rfl) fun H17 e17 => ?_
    exact k H17 (kk ((P14.grow ((e15.trans e16).trans e17)).cnt (by omega)))
end
end K58

set_option Elab.async false
set_option linter.all false
set_option maxRecDepth 100000
set_option maxHeartbeats 4000000
/-! a tuple k times, k from 1 on (once: the same object). -/
namespace Vre
open PySem PySem.Spec PyProof.Rows L2 Vl Evl Vp Vr Vt
theorem mulOnce (p : Addr) (us : Array Value) (m : Nat) (e : Option Addr) (t1 : Array (Option Value)) (u : Tok) :
    Meets (Builtin.«tuple.__mul__» ⟨[.ref p, .int 1 u], []⟩) (fun _ R s => s.heap.get? p = some { cls := .type "tuple", dict := e, data := .seq us m, slots := t1 } ∧ R (.ok (.ret (.ref p))) s) :=
  .of_wp fun prog w A R s h => by
    obtain ⟨hh, g, d, tk, os⟩ := s
    obtain ⟨hp, h⟩ := h
    have f1 := AutoSeq1.idx_int
    have c1 : (us.isEmpty || (1 : Int) == 1) = true := by rw [Bool.or_eq_true]; exact .inr rfl
    wp_walk using wpAny_loadPart' hp
    all_goals first
      | exact ⟨_, rfl, h⟩
      | (simp at *; done)
def rRepA (K : PySem.W.Frag) : R2 := fun x y H Q => ∃ (l : Addr) (k : Nat) (xs : List V), x = .ref l ∧ y = .int (k : Nat) ∧ SqT K H l xs ∧ xs ≠ [] ∧ 1 ≤ k ∧ k ≤ 1000 ∧ xs.length ≤ 1000 ∧
  ((k = 1 → Q (.ref l) H) ∧ (2 ≤ k → ∀ p, H p = none → Q (.ref p) (upd H p (.tup (Vq.rp k xs)))))
section
variable {X : Cx}
theorem op_once {pins : List (Addr × Obj)} {σ : L2.St} {H : Hp} {s : Shared} {l : Addr} {xs : List V} {u : Value} {Q : VK} (I : Inv X pins σ H s) (hT : SqT X.K H l xs) (ry : RelV (.int 1) u) (q : Q (.ref l) H) :
    wpAny (model X.prog X.w) X.A (binaryOp .Mult (.ref l) u) (EP X pins σ Q) X.xe s := by
  obtain ⟨t, rfl⟩ := ry
  obtain ⟨its, r, ⟨⟨cls, dd, data, sl⟩, ho, hc, n, hd⟩, hs⟩ := I.tuple hT
  simp only at hc hd
  subst hc hd
  refine wpAny_binaryOp_repeat_ref (T := "tuple") (U := "int") (by decide) ⟨_, ho, rfl⟩ (fun s' => typeIs_int s' 1 t) noFill_tuple_mul F.fills_int_mul F.slot_int_rmul repeat_tuple F.slot_int_index.lookup
    (call_meets F.slot_int_rmul (typeIs_int s 1 t) F.entry_int_rmul (F.args_int_rmul_2 _ _) (int_rmul_tuple 1 t l its.toArray n dd sl)
      ⟨ho, rfl, ⟨_, ho, rfl⟩, call_meets F.slot_tuple_mul ⟨_, ho, rfl⟩ F.entry_tuple_mul (F.args_tuple_mul_2 _ _) (mulOnce l its.toArray n dd sl t) ⟨ho, ?_⟩⟩)
  exact ⟨.ref l, H, I, rfl, q⟩
theorem op_repA : OpR X (binaryOp .Mult) (rRepA X.K) := by
  intro pins s σ H x y v u Q I rx ry h
  obtain ⟨l, k, xs, rfl, rfl, hT, hne, h1, h2, hz, q1, q2⟩ := h
  by_cases hk : k = 1
  · subst hk
    cases rx
    exact op_once I hT ry (q1 rfl)
  · exact op_repT pins s σ H (.ref l) (.int (k : Nat)) v u Q I rx ry ⟨l, (k : Int), xs, rfl, rfl, hT, hne, by omega, by omega, hz, fun p hp => by
      have := q2 (by omega) p hp
      unfold Vq.rp at this
      rw [Int.toNat_natCast]
      exact this⟩
end
theorem rp_one {α : Type} (xs : List α) : Vq.rp 1 xs = xs := by
  unfold Vq.rp
  rw [List.replicate_succ, List.replicate_zero, List.flatten_cons, List.flatten_nil, List.append_nil]
theorem vtx_rp (k : Nat) (a : List (List Nat)) : Vq.rp k (vtx a) = vtx (Vq.rp k a) := vtx_rep a k
section
variable {K : PySem.W.Frag} {ta tb : TE} {σ : L2.St} {H : Hp} {xs : List V} {k : Nat}
theorem et_rep (h : Vt.EvT K ta σ H xs) (hk : Ev tb σ H (.int (k : Nat))) (hne : xs ≠ []) (h1 : 1 ≤ k) (h2 : k ≤ 1000) (hz : xs.length ≤ 1000) : Vt.EvT K (tOp (rRepA K) ta tb) σ H (Vq.rp k xs) := by
  intro H1 e Q q
  refine h H1 e _ fun p H2 e2 hp => hk H2 (e.trans e2) _ fun H3 e3 => ⟨p, k, xs, rfl, rfl, ex_t e3 hp, hne, h1, h2, hz, fun h => ?_, fun _ p2 n2 => q p2 _ ((e2.trans e3).trans (Ex.new n2)) sqt_new⟩
  refine q p H3 (e2.trans e3) ?_
  rw [h, rp_one]
  exact ex_t e3 hp
end
end Vre

set_option Elab.async false
set_option linter.all false
set_option maxRecDepth 100000
set_option maxHeartbeats 2000000
/-! x != y of two tuples whose items are equal by an own __eq__: False. -/
namespace Vne
open PySem PySem.Spec PyProof.Rows L2
open PySem.SeqAt
open AutoSeq1 (wpAny_loadPart')
section
variable {P : Program} {w : World} {B : Around} {R : Result → Shared → Prop}
theorem neBody (p q : Addr) (us vs : Array Value) (m m2 : Nat) (e1 e2 : Option Addr) (t1 t2 : Array (Option Value)) (same : us.size = vs.size) (J : Nat → Shared → Prop)
    (step : ∀ i (k1 : i < us.size) (k2 : i < vs.size) s, J i s → wpAny (model P w) B.in1 (eqBool us[i] vs[i]) (fun r s' => r = true ∧ J (i + 1) s') (fun e s' => R (.error e) s') s)
    (last : ∀ s, J us.size s → R (.ok (.ret (.bool false))) s) {s : Shared} (hp : s.heap.get? p = some { cls := .type "tuple", dict := e1, data := .seq us m, slots := t1 }) (hq : s.heap.get? q = some { cls := .type "tuple", dict := e2, data := .seq vs m2, slots := t2 }) (h : J 0 s) :
    wpAny (model P w) B.in1 (Builtin.«tuple.__ne__» ⟨[.ref p, .ref q], []⟩) (GQ.FinOf P w B R) (fun e s' => R (.error e) s') s := by
  have sub := AutoSeq1.sub_tuple_tuple
  have len : (us.toList.zip vs.toList).length = us.size := by simp [same]
  have start := h
  obtain ⟨hh, g, d, tk, os⟩ := s
  wp_walk using wpAny_loadPart' hp, wpAny_loadPart' hq, wpAny_forIn_list _ (fun rest b s' => b.1 = none ∧ ∃ i, rest = (us.toList.zip vs.toList).drop i ∧ i ≤ us.size ∧ J i s') _
  case turn =>
    rintro ⟨y, x⟩ rest b s' ⟨nb, i, er, _, hJ⟩
    have lt : i < (us.toList.zip vs.toList).length := by
      refine Nat.lt_of_not_le fun q => ?_
      rw [List.drop_of_length_le q] at er
      cases er
    have k1 : i < us.size := len ▸ lt
    have k2 : i < vs.size := same ▸ k1
    rw [List.drop_eq_getElem_cons lt] at er
    injection er with er1 er2
    obtain rfl : y = us[i] := by have z := congrArg Prod.fst er1; simpa using z
    obtain rfl : x = vs[i] := by have z := congrArg Prod.snd er1; simpa using z
    refine wpAny_bind (wpAny_mono (step i k1 k2 s' hJ) (fun r s2 z => ?_) fun _ _ z => z)
    obtain ⟨rfl, z⟩ := z
    wp_walk
    exact ⟨rfl, i + 1, er2, k1, z⟩
  case fin =>
    rintro ⟨b1, b2⟩ s' ⟨nb, i, er, hi, hJ⟩
    simp only at nb
    subst nb
    have ge : us.size ≤ i := by
      refine Nat.le_of_not_lt fun q => ?_
      rw [← len] at q
      rw [List.drop_eq_getElem_cons q] at er
      cases er
    obtain rfl : i = us.size := Nat.le_antisymm hi ge
    have z : R (.ok (.ret (.bool false))) s' := last s' hJ
    wp_walk
    simpa [Builtin.Tuple.tupleCompareSizes, same] using z
  case h =>
    exact ⟨rfl, 0, rfl, Nat.zero_le _, start⟩
theorem neTup {E : Value → Shared → Prop} {s : Shared} {p q : Addr} {us vs : Array Value} {Q : Value → Shared → Prop} (same : us.size = vs.size) (hu : B.units < cLine) (J : Nat → Shared → Prop)
    (hp : s.heap.IsTuple p us) (hq : s.heap.IsTuple q vs)
    (step : ∀ i (k1 : i < us.size) (k2 : i < vs.size) s, J i s → wpAny (model P w) B.in1 (eqBool us[i] vs[i]) (fun r s' => r = true ∧ J (i + 1) s') E s)
    (last : ∀ s, J us.size s → Q (.bool false) s) (h : J 0 s) : wpAny (model P w) B (richCompare .NotEq (.ref p) (.ref q)) Q E s := by
  obtain ⟨⟨c1, e1, d1, t1⟩, ho1, hc1, m1, hd1⟩ := id hp
  obtain ⟨⟨c2, e2, d2, t2⟩, ho2, hc2, m2, hd2⟩ := id hq
  simp only at hc1 hd1 hc2 hd2
  subst hc1 hd1 hc2 hd2
  refine wpAny_richCompare_same_room (op := .NotEq) ⟨_, ho1, rfl⟩ ⟨_, ho2, rfl⟩ F.slot_tuple_ne (GQ.call_here F.slot_tuple_ne ⟨_, ho1, rfl⟩ F.entry_tuple_ne (F.args_tuple_ne_2 _ _) ?_) hu
  exact neBody (R := wants (fun v s' => v ≠ .notImplemented ∧ Q v s') E) p q us vs m1 m2 e1 e2 t1 t2 same J step (fun s' z => ⟨(fun x => nomatch x), last s' z⟩) ho1 ho2 h
end
section
variable {X : Cx} {n : Nat} {D : Eqv}
/-- x != y, tuples with equal items -/
def rNeG (K : PySem.W.Frag) (D : Eqv) : R2 := fun x y H Q => DTup K D x y H ∧ ∀ H', Ext H H' → Q (.bl false) H'
theorem op_neG (hD : Mon D) (h : EqG X n D) (hr : Room (n + 1) X.A) : OpR X (compareOp .NotEq) (rNeG X.K D) := by
  intro pins s σ H x y u v Q I rx ry hq
  obtain ⟨⟨a, b, xs, ys, rfl, rfl, ha, hb, pr⟩, q⟩ := hq
  cases rx
  cases ry
  show wpAny (model X.prog X.w) X.A (richCompare .NotEq (.ref a) (.ref b)) (EP X pins σ Q) X.xe s
  obtain ⟨us, r, e, z⟩ := I.tuple ha
  obtain ⟨vs, r2, e2, z2⟩ := I.tuple hb
  have same : us.toArray.size = vs.toArray.size := by
    rw [List.size_toArray, List.size_toArray, ← r.length, ← r2.length]
    exact pr.1
  have sb : Sub X (n + 1) X.A := ⟨hr, rfl⟩
  refine neTup same sb.room.units0 (fun _ s' => LoopI X pins σ H s') e e2 (fun i k1 k2 s' l => turnG hD h sb pr r r2 i k1 k2 s' l) (fun s' l => ?_) ⟨H, I, Ext.rfl'⟩
  obtain ⟨H1, I1, e1⟩ := l
  exact ⟨.bl false, H1, I1, rfl, q H1 e1⟩
end
end Vne

set_option Elab.async false
set_option linter.all false
set_option maxRecDepth 100000
set_option maxHeartbeats 4000000
/-! root, least, taken, * of the class Round. -/
namespace R58
open PySem PySem.Spec PyProof.Rows L2 Vl Evl Vp Vr Vt Vc
abbrev sTaken : Stmt := mem 4
def spTkn (K : PySem.W.Frag) (C : Addr) : Sp := fun vs H Q _ => ∃ o a, vs = [.ref o] ∧ Rnd K C H o a ∧ Lns a ∧ a.length ≤ 60 ∧
  ∀ (q : Addr) (ys : List Str) H', Ex H H' → H q = none → H' q = some (.tup (ys.map V.str)) → ys.Nodup → (∀ k, k ∈ ys ↔ k ∈ a.map tx) → sortedS ys = true → ys.length < 64 → Q (.ref q) H'

section
variable {P : Program} {w : World} {K : PySem.W.Frag} {mg : Str → Option Value} {base : Heap} {C CN : Addr}
theorem ev_fld {i : Nat} {σ : L2.St} {H : Hp} {o dx : Addr} {q : V} {fs : List (Str × V)} {f : Str} (hv : σ[i]? = some (some (.ref o))) (h : H o = some (.ins C dx fs)) (c : Cls K C) (n : NoAttr K C f) (hl : fs.lookup f = some q) : Ev (tFld K (tVar i) f) σ H q := fun H1 e Q k =>
  ⟨_, hv, o, C, dx, fs, q, rfl, e _ _ h, c, n, hl, k H1 (Ex.refl H1)⟩
theorem scTk : FnScope ["self"] ["self"] (defScope sTaken) := ⟨rfl, rfl, rfl, by decide +kernel, rfl, by decide +kernel, by decide +kernel⟩
theorem ok_taken {f : Addr} {fd : FuncData} (F : FnM K "taken" "Round.taken" sTaken f fd) (c : Cls K C) (n : NoAttr K C "_lanes") (mTuple : mg "tuple" = none) (mSorted : mg "sorted" = none) (mSet : mg "set" = none) :
    FnOk P w K mg base L2.CX0 2 f fd ["self"] (spTkn K C) := by
  refine F.ok (CX := L2.CX0) scTk (fun vs H Q E h => ?_) (fun cdv A outer s H vs Q E hr h => ?_)
  · obtain ⟨o, a, rfl, _⟩ := h
    rfl
  · refine ⟨_, (pss_one (ps_ret (pe_callTy call_tuple_of (by rfl) mTuple boot_tuple (pa_cons (pe_callB (Vst.cr_sortedSt rfl) (by rfl) mSorted boot_sorted (pa_cons (pe_callTy (Vst.cr_setS rfl) (by rfl) mSet boot_set (pa_cons (pe_fld (pv 0) rfl) pa_nil)) pa_nil)) pa_nil)))), ?_⟩
    obtain ⟨o, a, rfl, ⟨dx, q0, h1, h2⟩, hL, h60, q⟩ := h
    have hv : vtx a = (a.map tx).map V.str := by unfold vtx; rw [List.map_map]; rfl
    refine ⟨_, rfl, o, C, dx, _, .ref q0, rfl, h1, c, n, rfl, q0, a.map tx, rfl, .inr (by rw [← hv]; exact h2), by rw [List.length_map]; omega, fun sa m ns hm => ?_⟩
    rw [List.length_map] at hm
    refine ⟨sa, _, m, rfl, upd_same, by omega, fun ys p nd hk hs hl np => ?_⟩
    refine ⟨p, ys.map V.str, rfl, .inl ⟨sq_of upd_same, fun t nt => ?_⟩⟩
    have e : Ex H (upd (upd (upd H sa (Vst.SetSO P w sa (fun k => decide (k ∈ a.map tx)) m)) p (.lst (ys.map V.str))) t (.tup (ys.map V.str))) := ((Ex.new ns).trans (Ex.new np)).trans (Ex.new nt)
    refine q t ys _ e (fresh_back ((Ex.new ns).trans (Ex.new np)) nt) upd_same nd (fun k => ?_) hs hl
    rw [hk k, decide_eq_true_iff]
end
end R58

set_option Elab.async false
set_option linter.all false
set_option maxRecDepth 100000
set_option maxHeartbeats 4000000
/-! The law of windows: what its words come to. -/
namespace K58
open PySem PySem.Spec PyProof.Rows L2 Vl Evl Vp Vx2 Vlk Vda Vc Ve Ven Vlt Vtx Vr
/-- the class Round in one word -/
structure RD (P : Program) (w : World) (K : PySem.W.Frag) (mg : Str → Option Value) (base : Heap) (RC BN : Addr) : Prop where
  cls : Cls K RC
  ins : C8.InsC K RC
  lan : Pr P w K mg base RC 1 "lanes" (getSp RC "_lanes")
  len : Mo P w K mg base RC L2.CX0 1 "__len__" (R58.spLen K RC)
  taken : Mo P w K mg base RC L2.CX0 2 "taken" (R58.spTkn K RC)
  shl : Vw.Ow P w K mg base RC (L2.CX P w) 6 "lshift" (R58.spShl K RC BN)
  get : Gt P w K mg base RC (L2.CX P w) 3 (R58.spGet K RC BN)
  new : Nw P w K mg base RC L2.CX0 4 "Round" (R58.spIniR K RC)
theorem ok_hi {t : List Nat} {lo hi hi' : Nat} (h : okW t lo hi = true) (hh : hi ≤ hi') : okW t lo hi' = true := by
  obtain ⟨n1, n2⟩ := ok_len h
  exact okW_of n1 (by omega) fun c hc => ok_mem h hc
theorem ok_rt' {t : List Nat} {lo hi k : Nat} (h : okW t lo hi = true) (hk : k ≤ t.length) : okW (rt t k) lo hi = true := by
  obtain ⟨n1, n2⟩ := ok_len h
  refine okW_of (by rw [rt_len hk]; exact n1) (by rw [rt_len hk]; exact n2) fun c hc => ?_
  unfold rt at hc
  rcases List.mem_append.mp hc with hc | hc
  · exact ok_mem h (List.mem_of_mem_drop hc)
  · exact ok_mem h (List.mem_of_mem_take hc)
theorem heads_wns {t : List Nat} {s : Nat} (hs : 1 ≤ s) : heads1 (wns t s) = t := heads hs
theorem perm_vtx {ms : List V} {xs : List (List Nat)} (h : ms.Perm (vtx xs)) : ∃ ys, ms = vtx ys ∧ ys.Perm xs := by
  let f : V → List Nat := fun v => match v with | .str z => z.cps.toList | _ => []
  have hf : ∀ zs : List (List Nat), (vtx zs).map f = zs := fun zs => by
    unfold vtx
    rw [List.map_map]
    exact (List.map_congr_left fun z _ => rfl).trans (List.map_id zs)
  refine ⟨ms.map f, ?_, ?_⟩
  · have hall : ∀ v ∈ ms, V.str (tx (f v)) = v := fun v hv => by
      have := h.mem_iff.mp hv
      unfold vtx at this
      obtain ⟨z, _, rfl⟩ := List.mem_map.mp this
      rfl
    unfold vtx
    rw [List.map_map]
    exact (List.map_id ms).symm.trans (List.map_congr_left fun v hv => (hall v hv).symm)
  · have := h.map f
    rw [hf] at this
    exact this
section
variable {K : PySem.W.Frag} {σ : L2.St} {H : Hp} {te ta tb : TE} {RC BW BN o dx : Addr} {a : List (List Nat)} {d : PyData}
theorem sp_wi {t t' : List Nat} {s : Nat} {due : List (List Nat)} (ok : okW t' 1 40 = true) (hs1 : 2 ≤ s) (hs2 : s ≤ 8) (hd : Srt due (wns t s)) (hm : ∀ k, k ∈ wns t' s ↔ k ∈ wns t s) : SpD K (spWi K BW BN) [.str (tx t'), .int (s : Nat)] H (wls due) := fun H1 e Q q E =>
  ⟨_, _, rfl, .inl ⟨t', s, rfl, ok, rfl, hs1, hs2, fun p ys H2 np e2 hp hS => by
    rw [hS.one hd hm] at hp
    exact q _ H2 e2 (dp_l (sq_of hp))⟩⟩
theorem ed_me0 {m : Str} {sp : Sp} {E : L2.St → XK} {fs : List (Str × V)} (h : Ev te σ H (.ref o)) (ho : H o = some (.ins RC dx fs)) (hl : fs.lookup m = none) (hs : SpD K sp [.ref o] H d) : EvD K (Vtr.tMethS RC m sp E te tNil) σ H d := fun H1 e Q q =>
  h H1 e _ fun H2 e2 => ⟨o, dx, fs, rfl, (e.trans e2) _ _ ho, hl, hs H2 (e.trans e2) Q (fun v H3 e3 hv => q v H3 (e2.trans e3) hv) _⟩
theorem sp_tkn {due : List (List Nat)} (R : R58.Rnd K RC H o a) (La : R58.Lns a) (h60 : a.length ≤ 60) (hd : Srt due a) : SpD K (R58.spTkn K RC) [.ref o] H (wd due) := fun H1 e Q q E =>
  ⟨o, a, rfl, R.mono e, La, h60, fun p ys H2 e2 np hp nd hm hs hl => by
    obtain ⟨zs, rfl⟩ := strs_of ys
    have hz : Srt zs a := ⟨of_map tx nd, fun k => by rw [← map_tx_mem (a := zs), hm, map_tx_mem], hs⟩
    rw [hz.one hd fun _ => Iff.rfl, ← vtx_map] at hp
    exact q _ H2 e2 (dp_wd (st_of hp))⟩
theorem sv_rt (R : R58.Rnd K RC H o a) (La : R58.Lns a) : SpV (spRt K RC) [.ref o] H (.str (tx (heads1 a))) := fun H1 e Q q E => ⟨o, a, rfl, R.mono e, La, fun H2 e2 => q H2 e2⟩
theorem ev_shl {E E2 : L2.St → XK} {t : List Nat} {s k i j : Nat} (h1 : σ[i]? = some (some (.ref o))) (h2 : σ[j]? = some (some (.int (k : Nat)))) (R : R58.Rnd K RC H o (wns t s)) (ok : okW t 1 40 = true) (hs1 : 2 ≤ s) (hs2 : s ≤ 8) (hk : k < t.length) :
    Ev (Vc.tFu (spRt K RC) E (tCons (Vw.tOw RC (R58.spShl K RC BN) E2 (tVar i) (tVar j)) tNil)) σ H (.str (tx (rt t k))) := fun H1 e Q q => by
  have R1 := R.mono e
  obtain ⟨dx, q0, g1, g2⟩ := id R1
  refine ⟨_, h1, _, h2, o, dx, _, "int", rfl, g1, .inr (.inl ⟨_, rfl, rfl⟩), o, .int (k : Nat), wns t s, rfl, R1, lns_wns ok hs1 hs2, .inl ⟨k, rfl, fun o2 H2 e2 ho r => ?_⟩⟩
  have hm : ((k : Int) % ((wns t s).length : Int)).toNat = k := by
    rw [wns_len, Int.emod_eq_of_lt (by omega) (by omega), Int.toNat_natCast]
  have hrot : rot (wns t s) k = wns (rt t k) s := by
    obtain ⟨n1, _⟩ := ok_len ok
    rw [wns_rt (by omega) n1]
    rfl
  rw [hm, hrot] at r
  refine ⟨o2, wns (rt t k) s, rfl, r, lns_wns (ok_rt' ok (by omega)) hs1 hs2, fun H3 e3 => ?_⟩
  rw [heads_wns (by omega)]
  exact q H3 (e2.trans e3)
theorem ev_isR (c : C8.InsC K RC) (h : Ev te σ H (.ref o)) (r : R58.Rnd K RC H o a) : Ev (tCB (rIsi K) (tCons te (tCons (tC (V.ref RC)) tNil))) σ H (.bl true) := fun H1 e Q q => h H1 e _ fun H2 e2 => by
  obtain ⟨dx, q0, h1, h2⟩ := r
  exact ⟨V.ref o, V.ref RC, .ref RC, .ref RC, true, rfl, .own RC, .base (.ins ((e.trans e2) _ _ h1) c.cl c.ha c.hn c.htk c.hm), c.me, q H2 e2⟩
theorem pl_rnd {p : Addr} {Hk : Hp} {n : Nat} (h : Pl Hk p n H) (R : R58.Rnd K RC H o a) : R58.Rnd K RC (Wo H p) o a := by
  obtain ⟨dx, q0, h1, h2⟩ := R
  obtain ⟨x, y, z, hp, _⟩ := h.at_
  refine ⟨dx, q0, wo_at h1 (fun e => by rw [e, hp] at h1; cases h1), ?_⟩
  rcases h2 with (h2 | ⟨ob, h2⟩) | h2
  · exact .inl (.inl (wo_at h2 (fun e => by rw [e, hp] at h2; cases h2)))
  · exact .inl (.inr ⟨ob, wo_at h2 (fun e => by rw [e, hp] at h2; cases h2)⟩)
  · exact .inr h2
end
end K58

set_option Elab.async false
set_option linter.all false
set_option maxRecDepth 100000
set_option maxHeartbeats 4000000
/-! The law of windows and texts. -/
namespace K58
open PySem PySem.Spec PyProof.Rows L2 Vl Evl Vp Vx2 Vlk Vda Vc Ve Ven Vlt Vtx Vr
abbrev sLaw : Stmt := top 50
abbrev nLaw : List Str := ["_law_script", "_law_turn", "_law_pool_here", "_law_text_here", "_law_size", "_law_place", "_law_due", "_law_words", "_law_net", "_law_ring"]
def spLaw (K : PySem.W.Frag) : Sp := fun vs H Q _ => ∃ (l : Addr) (ns : List Int), vs = [.ref l] ∧ SqL K H l (ns.map V.int) ∧ ∀ H', Q (.bl true) H'
theorem s_orF {t u : TT} {tu tw : TS} {D : Ends} {σ : L2.St} {H : Hp} (h1 : EvT t σ H false) (h2 : ∀ H1, Ex H H1 → u σ H1 fun b H2 => if b = true then tu D σ H2 else tw D σ H2) : tIfS (tOr t u) tu tw D σ H := h1 H (Ex.refl H) _ fun H1 e => by
  show (if false = true then _ else _)
  rw [if_neg (by decide)]
  exact h2 H1 e
section
variable {P : Program} {w : World} {K : PySem.W.Frag} {mg : Str → Option Value} {base : Heap} {C RC BW BN EW BNm NT NP NL : Addr}
theorem scLaw : FnScope nLaw ["_law_script"] (defScope sLaw) := ⟨rfl, rfl, rfl, by decide +kernel, rfl, by decide +kernel, by decide +kernel⟩
theorem ok_law {f : Addr} {fd : FuncData} (F : FnP K "law" sLaw f fd) (N : ND P w K mg base C BNm NT NP NL) (R : RD P w K mg base RC BN) (gR : mg "Round" = some (.ref RC))
    (TCe : Fu P w K mg base L2.CX0 1 "_law_cell" (spCell K)) (TPo : Fu P w K mg base L2.CX0 1 "_law_pool" spPool) (TT : Fu P w K mg base L2.CX0 1 "_law_take" spTake) (TMx : Fu P w K mg base L2.CX0 2 "_law_mixed" spMixed) (TTx : Fu P w K mg base L2.CX0 2 "_law_text" spTx) (TLw : Fu P w K mg base L2.CX0 1 "_law_windows" spLw)
    (TRn : Fu P w K mg base L2.CX0 5 "_law_right_net" (spRn C)) (TRf : Fu P w K mg base L2.CX0 8 "_law_refuses" spRf) (TWi : Fu P w K mg base (L2.CX P w) 5 "windows" (spWi K BW BN)) (TTr : Fu P w K mg base (L2.CX P w) 6 "text_round" (spTr K RC BW BN)) (TWn : Fu P w K mg base (L2.CX P w) 6 "window_net" (spWn K C BW EW))
    (TRt : Fu P w K mg base L2.CX0 3 "ring_text" (spRt K RC)) (TFt : Fu P w K mg base L2.CX0 6 "fits" (spFt K C RC)) (mRange : mg "range" = none) (mLen : mg "len" = none) (mTuple : mg "tuple" = none) (mIsi : mg "isinstance" = none) :
    FnOk P w K mg base L2.CX0 9 f fd ["_law_script"] (spLaw K) := by
  refine F.ok (CX := L2.CX0) scLaw (fun vs H Q E h => ?_) (fun cdv A outer s H vs Q E hr h => ?_)
  · obtain ⟨l, ns, rfl, _⟩ := h
    rfl
  · refine ⟨_, (pss_cons (ps_for (passes_of rfl) rfl (pi_range1 (by rfl) mRange (pa_cons pe_int pa_nil)) (pg_name (i := 1) scLaw.nd rfl (by first | exact Or.inl rfl | exact Or.inr rfl)) (pss_cons (ps_set (i := 2) scLaw.nd rfl (by first | exact Or.inl rfl | exact Or.inr rfl) (pe_fu TPo hr (by rfl) (pa_cons (pe_op op_add (pe_fu TCe hr (by rfl) (pa_cons (pv 0) (pa_cons (pv 1) pa_nil))) (pv 1)) pa_nil)))
      (pss_cons (ps_set (i := 3) scLaw.nd rfl (by first | exact Or.inl rfl | exact Or.inr rfl) (pe_fu TTx hr (by rfl) (pa_cons (pv 2) (pa_cons pe_int (pa_cons (pe_slice sl_str pe_str po_none (po_some (pe_op op_add pe_int (pe_fu TT hr (by rfl) (pa_cons (pv 2) (pa_cons pe_int pa_nil)))))) pa_nil)))))
      (pss_cons (ps_set (i := 4) scLaw.nd rfl (by first | exact Or.inl rfl | exact Or.inr rfl) (pe_op op_add pe_int (pe_fu TT hr (by rfl) (pa_cons (pv 2) (pa_cons pe_int pa_nil)))))
      (pss_cons (ps_set (i := 5) scLaw.nd rfl (by first | exact Or.inl rfl | exact Or.inr rfl) (pe_fu TT hr (by rfl) (pa_cons (pv 2) (pa_cons (pe_callB call_len (by rfl) mLen boot_len (pa_cons (pv 3) pa_nil)) pa_nil))))
      (pss_cons (ps_set (i := 6) scLaw.nd rfl (by first | exact Or.inl rfl | exact Or.inr rfl) (pe_fu TLw hr (by rfl) (pa_cons (pv 3) (pa_cons (pv 4) pa_nil))))
      (pss_cons (ps_if (PW.pt (pw_or (pt_cmpR (op_neD hr.units) (pe_fuN TWi hr (by rfl) (pa_cons (pv 3) (pa_cons (pv 4) pa_nil))) (pv 6) (nomark _)) (pw_or1 (pt_cmpR (op_neD hr.units) (pe_fuN TWi hr (by rfl) (pa_cons (pe_op op_add_str (pe_slice sl_str (pv 3) (po_some (pv 5)) po_none) (pe_slice sl_str (pv 3) po_none (po_some (pv 5)))) (pa_cons (pv 4) pa_nil))) (pv 6) (nomark _))))) (pss_one (ps_ret pe_bl)) pss_nil)
      (pss_cons (ps_set (i := 7) scLaw.nd rfl (by first | exact Or.inl rfl | exact Or.inr rfl) (pe_fu TMx hr (by rfl) (pa_cons (pv 2) (pa_cons (pe_op op_cat (pv 6) (pe_slice sl_list (pv 6) po_none (po_some (pe_fu TT hr (by rfl) (pa_cons (pv 2) (pa_cons pe_int pa_nil)))))) pa_nil))))
      (pss_cons (ps_set (i := 8) scLaw.nd rfl (by first | exact Or.inl rfl | exact Or.inr rfl) (pe_fuN TWn hr (by rfl) (pa_cons (pe_ix ix_list (pe_lst (pa_cons (pv 7) (pa_cons (pe_callTy call_tuple_of (by rfl) mTuple boot_tuple (pa_cons (pv 7) pa_nil)) pa_nil))) (pe_fu TT hr (by rfl) (pa_cons (pv 2) (pa_cons pe_int pa_nil))) fun _ _ => rfl) pa_nil)))
      (pss_cons (ps_if (pt_not (pt_val (pe_fu TRn hr (by rfl) (pa_cons (pv 8) (pa_cons (pv 6) pa_nil))))) (pss_one (ps_ret pe_bl)) pss_nil)
      (pss_cons (ps_set (i := 9) scLaw.nd rfl (by first | exact Or.inl rfl | exact Or.inr rfl) (pe_fuN TTr hr (by rfl) (pa_cons (pv 3) (pa_cons (pv 4) pa_nil))))
      (pss_cons (ps_if (PW.pt (pw_or (pt_not (pt_val (pe_callB call_isi (by rfl) mIsi boot_isinstance (pa_cons (pv 9) (pa_cons (pe_glob (v := V.ref RC) (by rfl) gR rfl) pa_nil))))) (pw_or (pt_cmpR op_ne (pe_callB (Vc.call_lenM R.len hr) (by rfl) mLen boot_len (pa_cons (pv 9) pa_nil)) (pe_callB call_len (by rfl) mLen boot_len (pa_cons (pv 3) pa_nil)) (nomark _)) (pw_or1 (pt_not (pt_val (pe_fu TFt hr (by rfl) (pa_cons (pv 8) (pa_cons (pv 9) pa_nil))))))))) (pss_one (ps_ret pe_bl)) pss_nil)
      (pss_cons (ps_if (PW.pt (pw_or (pt_cmpR (op_neD hr.units) (pe_mo0 (pv 9) R.cls R.taken hr) (pe_callTy call_tuple_of (by rfl) mTuple boot_tuple (pa_cons (pv 6) pa_nil)) (nomark _)) (pw_or1 (pt_cmpR op_ne (pe_fu TRt hr (by rfl) (pa_cons (pv 9) pa_nil)) (pv 3) (nomark _))))) (pss_one (ps_ret pe_bl)) pss_nil)
      (pss_cons (ps_if (pt_cmpR op_ne (pe_fu TRt hr (by rfl) (pa_cons (Vw.pe_owN R.shl hr (pv 9) (pv 5)) pa_nil)) (pe_op op_add_str (pe_slice sl_str (pv 3) (po_some (pv 5)) po_none) (pe_slice sl_str (pv 3) po_none (po_some (pv 5)))) (nomark _)) (pss_one (ps_ret pe_bl)) pss_nil)
      (pss_one (ps_if (PW.pt (pw_or (pt_cmpR op_ne (pe_ixN R.get hr (pv 9) pe_int) (pe_slice sl_str (pe_op Vtx.op_repS (pv 3) pe_int) po_none (po_some (pv 4))) (nomark _)) (pw_or1 (pt_not (pt_val (pe_fu TRf hr (by rfl) (pa_cons (pv 2) (pa_cons (pv 3) pa_nil)))))))) (pss_one (ps_ret pe_bl)) pss_nil))))))))))))))))
      (pss_one (ps_ret pe_bl))), ?_⟩
    obtain ⟨l, ns, rfl, hS, k⟩ := h
    refine s_seq ?_
    refine s_forR1 (n := 4) (ea_cons ev_c ea_nil) (by decide) (fun i st H' => Ex H H' ∧ ∃ t1 t2 t3 t4 t5 t6 t7 t8 t9, st = [some (.ref l), t1, t2, t3, t4, t5, t6, t7, t8, t9])
      (fun H1 e1 => ⟨e1, _, _, _, _, _, _, _, _, _, rfl⟩) ?_ ?_
    · rintro i st H0 hi ⟨e0, t1, t2, t3, t4, t5, t6, t7, t8, t9, rfl⟩
      dsimp only
      have hS0 := ex_l e0 hS
      refine s_seq ?_
      refine ⟨_, rfl, _, rfl, l, ns, (i : Nat), rfl, hS0, ?_⟩
      refine ⟨_, rfl, cellOf ns (i : Nat), (i : Int), rfl, rfl, _, rfl, fun p H1 np e1 hp => ?_⟩
      have P1 : Pl H0 p 0 H1 := ⟨np, e1, hp⟩
      dsimp only
      refine s_seq ?_
      refine ⟨_, rfl, _, rfl, p, 3, H0, 0, rfl, by omega, by omega, P1, by omega, fun r H2 r0 r1 P2 => ⟨1, r, rfl, rfl, 1 + r, rfl, Str.ofString "abc", rfl, by decide +kernel, ?_⟩⟩
      obtain ⟨r, rfl⟩ := Int.eq_ofNat_of_zero_le r0
      have habc : cutS (Str.ofString "abc") none (some (1 + (r : Int))) = tx ([97, 98, 99].take (1 + r)) := by
        have : (1 + (r : Int)) = ((1 + r : Nat) : Int) := by omega
        rw [str_abc, this, tx_cut0]
      rw [habc]
      have hla : (([97, 98, 99] : List Nat).take (1 + r)).length = 1 + r := by
        rw [List.length_take]
        show min (1 + r) 3 = _
        omega
      refine ⟨p, 14, _, H0, 1, rfl, by omega, by omega, by omega, by omega, fun c hc => ?_, P2, by omega, fun t H3 ok14 P3 => ?_⟩
      · have := List.mem_of_mem_take hc
        simp only [List.mem_cons, List.not_mem_nil, or_false] at this
        rcases this with rfl | rfl | rfl <;> decide
      clear habc hla
      obtain ⟨n1, n2⟩ := ok_len ok14
      have ok : okW t 1 40 = true := ok_hi ok14 (by omega)
      dsimp only
      refine s_seq ?_
      refine ⟨_, rfl, p, 7, H0, _, rfl, by omega, by omega, P3, by omega, fun r5 H4 r50 r51 P4 => ⟨2, r5, rfl, rfl, ?_⟩⟩
      obtain ⟨r5, rfl⟩ := Int.eq_ofNat_of_zero_le r50
      dsimp only
      show tSeq _ _ _ [some (.ref l), some (.int (i : Nat)), some (.ref p), some (.str (tx t)), some (.int (2 + (r5 : Int))), t5, t6, t7, t8, t9] H4
      have hs : (2 + (r5 : Int)) = ((2 + r5 : Nat) : Int) := by omega
      rw [hs]
      have hs1 : 2 ≤ 2 + r5 := by omega
      have hs2 : 2 + r5 ≤ 8 := by omega
      generalize 2 + r5 = s at hs1 hs2
      clear hs r51 r50
      refine s_seq ?_
      refine ⟨_, rfl, _, rfl, .str (tx t), t.length, rfl, ⟨sz_of (by rw [tx_len]; omega), (tx_len t).symm⟩, p, (t.length : Int), H0, _, rfl, by omega, by omega, P4, by omega, fun r6 H5 r60 r61 P5 => ?_⟩
      obtain ⟨pl, rfl⟩ := Int.eq_ofNat_of_zero_le r60
      have hpl : pl < t.length := by omega
      dsimp only
      refine s_seq ?_
      refine s_asgFu (ea_cons (ev_var rfl) (ea_cons (ev_var rfl) ea_nil)) fun H6 e6 => ⟨t, s, rfl, n1, by omega, hs2, fun d due H7 nd e7 hd hdue => ?_⟩
      have P7 := (P5.grow e6).grow e7
      have dp : d ≠ p := (P5.grow e6).ne nd
      have hdl : due.length ≤ 14 := by
        have := hdue.len
        rw [wns_len] at this
        omega
      have hwins : Wins due s := fun x hx => by
        obtain ⟨j, _, rfl⟩ := wns_mem.mp ((hdue.mem x).mp hx)
        exact ⟨ok_wn ok hs1 hs2, wn_len _ _ _⟩
      have okd : Oks due := oks_nam fun x hx => nam_ok (hwins x hx).1 (by omega) (by omega)
      dsimp only
      have hrt : ∀ {H' : Hp} {t7 t8 t9 : Option V}, Ev (tOp rCatS (tSl rSlS (tVar 3) (tPart (tVar 5)) tNoPart) (tSl rSlS (tVar 3) tNoPart (tPart (tVar 5)))) [some (.ref l), some (.int (i : Nat)), some (.ref p), some (.str (tx t)), some (.int (s : Nat)), some (.int (pl : Nat)), some (.ref d), t7, t8, t9] H' (.str (tx (rt t pl))) := fun {H' t7 t8 t9} => by
        refine ev_is (ev_op (ev_is (ev_slS (l := t) (lo := some (pl : Int)) (hi := none) (ev_var rfl) (eo_some (ev_var rfl)) eo_none (by omega)) (by rw [tx_cut1])) (ev_is (ev_slS (l := t) (lo := none) (hi := some (pl : Int)) (ev_var rfl) eo_none (eo_some (ev_var rfl)) (by omega)) (by rw [tx_cut0])) (rv_cats (by rw [List.length_drop, List.length_take]; omega))) rfl
      refine s_seq ?_
      refine s_when (b := false) (et_is (et_or (et_test (ev_unlike (d := wls due) (ed_fu (ea_cons (ev_var rfl) (ea_cons (ev_var rfl) ea_nil)) (sp_wi ok hs1 hs2 hdue fun _ => Iff.rfl)) (ed_ev (ev_var rfl) (dp_l (sq_of hd))) (sh_l okd))) (fun _ => et_test (ev_unlike (d := wls due) (ed_fu (ea_cons hrt (ea_cons (ev_var rfl) ea_nil)) (sp_wi (ok_rt' ok (by omega)) hs1 hs2 hdue fun k => rt_mem (by omega) n1 k)) (ed_ev (ev_var rfl) (dp_l (sq_of hd))) (sh_l okd)))) rfl) (fun z => by cases z) (fun _ H8 e8 => ?_)
      have P8 := P7.grow e8
      have hd8 := e8 _ _ hd
      clear P7 hd
      dsimp only
      refine s_seq ?_
      refine ⟨_, rfl, _, rfl, _, rfl, _, rfl, p, 3, Wo H8 p, _, rfl, by omega, by omega, P8.re, by omega, fun r9 H9 r90 r91 P9' => ?_⟩
      obtain ⟨r9, rfl⟩ := Int.eq_ofNat_of_zero_le r90
      have P9 := P8.back P9'
      have hd9 : H9 d = some (.lst (vtx due)) := P9'.ex _ _ (wo_at hd8 dp)
      refine ⟨(r9 : Int), rfl, d, vtx due, rfl, sq_of hd9, fun d2 nd2 => ?_⟩
      rw [cutV0, vtx_take]
      have hdd2 : d ≠ d2 := fun z => by rw [← z, hd9] at nd2; cases nd2
      refine ⟨d, d2, vtx due, vtx (due.take r9), rfl, rfl, (upd_ne hdd2).trans hd9, upd_same, sz_of (by rw [vtx_len, vtx_len, List.length_take]; omega), fun d3 nd3 => ?_⟩
      have Pn := (P9.new (o := .lst (vtx (due.take r9))) nd2).new (o := .lst (vtx due ++ vtx (due.take r9))) nd3
      have hdd3 : d ≠ d3 := fun z => by rw [← z, upd_ne hdd2, hd9] at nd3; cases nd3
      have hdn : (upd (upd H9 d2 (.lst (vtx (due.take r9)))) d3 (.lst (vtx due ++ vtx (due.take r9)))) d = some (.lst (vtx due)) := (upd_ne hdd3).trans ((upd_ne hdd2).trans hd9)
      have d3p : d3 ≠ p := (P9.new (o := .lst (vtx (due.take r9))) nd2).ne nd3
      have h3n : (upd (upd H9 d2 (.lst (vtx (due.take r9)))) d3 (.lst (vtx due ++ vtx (due.take r9)))) d3 = some (.lst (vtx due ++ vtx (due.take r9))) := upd_same
      generalize upd (upd H9 d2 (.lst (vtx (due.take r9)))) d3 (.lst (vtx due ++ vtx (due.take r9))) = H9n at Pn hdn h3n ⊢
      clear P9 P9' nd2 nd3 hd9 P8 hd8
      refine ⟨p, d3, _, Wo H9n p, _, rfl, Pn.re, by omega, wo_at h3n d3p, by rw [List.length_append, vtx_len, vtx_len, List.length_take]; omega, fun dw ms H10 ndw P10' hdw hperm => ?_⟩
      have P10 := Pn.back P10'
      have hd10 : H10 d = some (.lst (vtx due)) := P10'.ex _ _ (wo_at hdn dp)
      clear P10' Pn hdn h3n
      rw [← vtx_app] at hperm
      obtain ⟨ws, rfl, hws⟩ := perm_vtx hperm
      clear hperm
      have hwm : ∀ x, x ∈ ws ↔ x ∈ due := fun x => by
        rw [hws.mem_iff, List.mem_append]
        exact ⟨fun z => z.elim id List.mem_of_mem_take, .inl⟩
      have hwl : ws.length ≤ 30 := by
        rw [hws.length_eq, List.length_append, List.length_take]
        omega
      have hwn0 : ws ≠ [] := fun z => by
        have : wn t s 0 ∈ due := (hdue.mem _).mpr (wns_mem.mpr ⟨0, n1, rfl⟩)
        rw [← hwm, z] at this
        cases this
      have hwws : Wins ws s := fun x hx => hwins x ((hwm x).mp hx)
      have hdwp : dw ≠ p := by
        intro z
        obtain ⟨a1, b1, c1, hp1, _⟩ := P10.at_
        rw [z, hp1] at hdw
        have := HO.lst.inj (Option.some.inj hdw)
        have h2 := congrArg (fun xs : List V => xs.all fun v => match v with | .str _ => true | _ => false) this
        cases ws with
        | nil => exact hwn0 rfl
        | cons x r => cases congrArg List.head? this
      dsimp only
      refine s_seq ?_
      refine ⟨_, rfl, _, rfl, dw, vtx ws, rfl, .inl ⟨sq_of hdw, fun tw ntw => ⟨by show 2 ≤ sizeLine; decide, fun a na => ?_⟩⟩⟩
      have twp : tw ≠ p := P10.ne ntw
      have hadw : dw ≠ tw := fun z => by rw [← z, hdw] at ntw; cases ntw
      have ha1 : tw ≠ a := fun z => by rw [← z, upd_same] at na; cases na
      have ha2 : dw ≠ a := fun z => by rw [← z, upd_ne hadw, hdw] at na; cases na
      have hat : d ≠ tw := fun z => by rw [← z, hd10] at ntw; cases ntw
      have haa : d ≠ a := fun z => by rw [← z, upd_ne hat, hd10] at na; cases na
      have P11 := (P10.new (o := .tup (vtx ws)) ntw).new (o := .lst [.ref dw, .ref tw]) na
      have ap : a ≠ p := (P10.new (o := .tup (vtx ws)) ntw).ne na
      have h1 : (upd (upd H10 tw (.tup (vtx ws))) a (.lst [.ref dw, .ref tw])) dw = some (.lst (vtx ws)) := (upd_ne ha2).trans ((upd_ne hadw).trans hdw)
      have h2 : (upd (upd H10 tw (.tup (vtx ws))) a (.lst [.ref dw, .ref tw])) tw = some (.tup (vtx ws)) := (upd_ne ha1).trans upd_same
      have h3 : (upd (upd H10 tw (.tup (vtx ws))) a (.lst [.ref dw, .ref tw])) a = some (.lst [.ref dw, .ref tw]) := upd_same
      have h4 : (upd (upd H10 tw (.tup (vtx ws))) a (.lst [.ref dw, .ref tw])) d = some (.lst (vtx due)) := (upd_ne haa).trans ((upd_ne hat).trans hd10)
      refine ⟨_, rfl, p, 2, Wo (upd (upd H10 tw (.tup (vtx ws))) a (.lst [.ref dw, .ref tw])) p, _, rfl, by omega, by omega, P11.re, by omega, fun r11 H11 r110 r111 P11' => ?_⟩
      generalize upd (upd H10 tw (.tup (vtx ws))) a (.lst [.ref dw, .ref tw]) = H10n at P11 h1 h2 h3 h4 P11'
      obtain ⟨r11, rfl⟩ := Int.eq_ofNat_of_zero_le r110
      have hd11 : H11 d = some (.lst (vtx due)) := P11'.ex _ _ (wo_at h4 dp)
      have h111 := P11'.ex _ _ (wo_at h1 hdwp)
      have h211 := P11'.ex _ _ (wo_at h2 twp)
      have h311 := P11'.ex _ _ (wo_at h3 ap)
      have P12 := P11.back P11'
      have hv : ∃ a', ([V.ref dw, V.ref tw] : List V)[r11]? = some (.ref a') ∧ SqA K H11 a' (vtx ws) := by
        rcases (show r11 = 0 ∨ r11 = 1 by omega) with rfl | rfl
        · exact ⟨dw, rfl, .inl (sq_of h111)⟩
        · exact ⟨tw, rfl, .inr (st_of h211)⟩
      obtain ⟨a', hv1, hv2⟩ := hv
      clear P11 P11' P10 h1 h2 h3 h4 ntw na
      refine ⟨a, _, _, _, rfl, rfl, sq_of h311, at_of rfl hv1, a', vtx ws, rfl, hv2, by rw [vtx_len]; exact hwl, .inl ⟨ws, s, rfl, hwn0, hwws, fun o dx dpp de ps es H12 e12 Nt hSp hSl hWn => ?_⟩⟩
      have P13 := P12.grow e12
      have hd12 := e12 _ _ hd11
      clear P12 hd11 h111 h211 h311 hv1 hv2
      have hSpd : Srt ps (ends due) := hSp.of fun y => by
        unfold ends
        simp only [List.mem_append, List.mem_map, hwm]
      have hln : laneNames es = due := hSl.one hdue fun y => (hwm y).trans (hdue.mem y)
      dsimp only
      refine s_seq ?_
      refine s_when (b := false) (et_is (et_not (et_B (ev_fu (z := .bl true) (ea_cons (ev_var rfl) (ea_cons (ev_var rfl) ea_nil)) fun H1 e Q q E => ⟨o, dx, dpp, de, d, ps, es, due, s, rfl, Nt.mono e, e _ _ hd12, by omega, hwins, hSpd, hln, hWn, fun H' e' => q H' e'⟩))) rfl) (fun z => by cases z) (fun _ H13 e13 => ?_)
      dsimp only
      refine s_seq ?_
      refine s_asgFu (ea_cons (ev_var rfl) (ea_cons (ev_var rfl) ea_nil)) fun H14 e14 => ⟨_, _, rfl, .inl ⟨t, s, rfl, ok, rfl, hs1, hs2, fun ro H15 e15 rR => ?_⟩⟩
      have e25 := (e13.trans e14).trans e15
      have P15 := P13.grow e25
      have hd15 := e25 _ _ hd12
      have N15 := Nt.mono e25
      have La := lns_wns ok hs1 hs2
      clear P13 hd12 Nt
      dsimp only
      refine s_seq ?_
      refine s_when (b := false) (et_is (et_or (et_not (et_B (ev_isR R.ins (ev_var rfl) rR))) (fun _ => et_or (et_test (ev_is (ev_op (by
          obtain ⟨dr, q0, g1, g2⟩ := id rR
          exact ev_lenM (n := t.length) (ev_var rfl) g1 (by omega) fun H1 e Q q E => ⟨ro, wns t s, rfl, rR.mono e, La, by rw [wns_len]; exact q H1 (Ex.refl _)⟩) (ev_lenS (l := t) (ev_var rfl) (by omega)) (rv_ne rfl)) (by rw [decide_eq_true (show V.int (t.length : Nat) = V.int (t.length : Nat) from rfl)]; try rfl))) (fun _ => et_not (et_B (ev_fu (z := .bl true) (ea_cons (ev_var rfl) (ea_cons (ev_var rfl) ea_nil)) fun H1 e Q q E => ⟨o, dx, dpp, de, ro, ps, es, wns t s, rfl, N15.mono e, rR.mono e, by rw [wns_len]; omega, fun x hx => by rw [hln]; exact (hdue.mem x).mpr hx, hWn, turns_wns (by omega), fun H' e' => q H' e'⟩))))) rfl) (fun z => by cases z) (fun _ H16 e16 => ?_)
      have rR16 := rR.mono e16
      have hd16 := e16 _ _ hd15
      have P16 := P15.grow e16
      clear P15 hd15 N15
      dsimp only
      refine s_seq ?_
      refine s_when (b := false) (et_is (et_or (et_test (ev_unlike (d := wd due) (by
          obtain ⟨dr, q0, g1, g2⟩ := id rR16
          exact ed_me0 (ev_var rfl) g1 rfl (sp_tkn rR16 La (by rw [wns_len]; omega) hdue)) (ed_Un (eu_tupleA (ev_var rfl) (sq_of hd16))) (sh_w okd))) (fun _ => et_test (ev_is (ev_op (ev_fu (ea_cons (ev_var rfl) ea_nil) (sv_rt rR16 La)) (ev_var rfl) (rv_ne rfl)) (by rw [heads_wns (by omega), decide_eq_true rfl]; rfl)))) rfl) (fun z => by cases z) (fun _ H17 e17 => ?_)
      have rR17 := rR16.mono e17
      have P17 := P16.grow e17
      dsimp only
      refine s_seq ?_
      refine s_when (b := false) (et_test (ev_is (ev_op (ev_shl (i := 9) (j := 5) (k := pl) rfl rfl rR17 ok hs1 hs2 hpl) hrt (rv_ne rfl)) (by rw [decide_eq_true rfl]; rfl))) (fun z => by cases z) (fun _ H18 e18 => ?_)
      have rR18 := rR17.mono e18
      have P18 := P17.grow e18
      dsimp only
      refine s_orF (et_test (ev_is (ev_op (x := .str (tx (wn t s 0))) (y := .str (tx (wn t s 0))) (fun H1 e Q q => ?_) (ev_is (ev_slS (l := Vq.rp 8 t) (lo := none) (hi := some (s : Int)) (ev_op (ev_var rfl) ev_c (rv_repS (k := 8) (by omega) (by omega))) eo_none (eo_some (ev_var rfl)) (by rw [Vq.rp_len]; omega)) ?_) (rv_ne rfl)) (by rw [decide_eq_true rfl]; rfl))) fun H19 e19 => ?_
      · have rRe := rR18.mono e
        obtain ⟨dr, q0, g1, g2⟩ := id rRe
        refine ⟨_, rfl, ro, dr, _, rfl, g1, trivial, ro, .int 0, wns t s, rfl, rRe, La, .inl ⟨0, wn t s 0, rfl, ?_, q H1 (Ex.refl _)⟩⟩
        rw [Int.zero_emod]
        exact wns_get n1
      · rw [tx_cut0, ← rp_win (t := t) (m := 8) (s := s) (k := 0) (by omega), List.drop_zero]
      · have P19 := P18.grow e19
        refine ⟨_, rfl, _, rfl, p, t, H0, _, rfl, ok, P19, by omega, fun H20 P20 => ⟨true, rfl, ?_⟩⟩
        dsimp only
        rw [if_neg (by decide)]
        exact ⟨e0.trans P20.ex, _, _, _, _, _, _, _, _, _, rfl⟩
    · rintro st H1 ⟨_, t1, t2, t3, t4, t5, t6, t7, t8, t9, rfl⟩
      dsimp only
      exact s_ret (v := .bl true) ev_c fun H2 _ => k H2
end
end K58

set_option Elab.async false
set_option linter.all false
set_option maxRecDepth 100000
set_option maxHeartbeats 0
namespace K58
open PySem PySem.Spec PyProof.Rows L2 Vh
abbrev iniBadName : Stmt := (clB (top 3)).getD 0 (.Pass ⟨0, 0, 0, 0⟩)
abbrev iniNameTaken : Stmt := (clB (top 4)).getD 0 (.Pass ⟨0, 0, 0, 0⟩)
abbrev iniNoPost : Stmt := (clB (top 5)).getD 0 (.Pass ⟨0, 0, 0, 0⟩)
abbrev iniNoLane : Stmt := (clB (top 6)).getD 0 (.Pass ⟨0, 0, 0, 0⟩)
abbrev iniBadWord : Stmt := (clB (top 10)).getD 0 (.Pass ⟨0, 0, 0, 0⟩)
abbrev iniBadNumber : Stmt := (clB (top 9)).getD 0 (.Pass ⟨0, 0, 0, 0⟩)
def fn : List He.DefD := [gD (top 15) "is_name", gD (top 16) "is_integer", gD (top 17) "check_name", gD (top 18) "check_sequence", gD (top 22) "check_posts", gD (top 23) "check_lanes", gD (top 27) "fits", gD (top 32) "windows", gD (top 33) "window_net", gD (top 34) "ring_text", gD (top 35) "text_round", gD (top 36) "_windows_in_order", gD (top 37) "_check_words", gD (top 38) "_check_word", gD (top 40) "_law_cell", gD (top 41) "_law_pool", gD (top 42) "_law_take", gD (top 43) "_law_mixed", gD (top 44) "_law_windows", gD (top 45) "_law_text", gD (top 46) "_law_window_net", gD (top 47) "_law_told", gD (top 48) "_law_right_net", gD (top 49) "_law_refuses", gD (top 50) "law", mD (mem 0) "Net" "__init__" "Net.__init__", mD (mem 1) "Net" "post" "Net.post", mD (mem 2) "Net" "lane" "Net.lane", mD (mem 6) "Net" "start_of" "Net.start_of", mD (mem 7) "Net" "end_of" "Net.end_of", mD (mem 11) "Net" "__contains__" "Net.__contains__", mD (mem 13) "Net" "__len__" "Net.__len__", mD (R58.mem 0) "Round" "__init__" "Round.__init__", mD (R58.mem 7) "Round" "__len__" "Round.__len__", mD (R58.mem 4) "Round" "taken" "Round.taken", mD (R58.mem 6) "Round" "__getitem__" "Round.__getitem__", mD (R58.mem 12) "Round" "__lshift__" "Round.__lshift__", mD iniBadName "BadName" "__init__" "BadName.__init__", mD iniNameTaken "NameTaken" "__init__" "NameTaken.__init__", mD iniNoPost "NoPost" "__init__" "NoPost.__init__", mD iniNoLane "NoLane" "__init__" "NoLane.__init__", mD iniBadWord "BadWord" "__init__" "BadWord.__init__", mD iniBadNumber "BadNumber" "__init__" "BadNumber.__init__"]
def pr : List PrD := [(("Round", "lanes"), mD (R58.mem 1) "Round" "lanes" "Round.lanes"), (("Net", "posts"), mD (mem 4) "Net" "posts" "Net.posts"), (("Net", "lanes"), mD (mem 5) "Net" "lanes" "Net.lanes")]
def globals : List Str := ((["Net", "Round", "EmptyWalk", "BadName", "NameTaken", "NoPost", "NoLane", "BadWord", "BadNumber", "is_name", "is_integer", "check_name", "check_sequence", "check_posts", "check_lanes", "fits", "windows", "window_net", "ring_text", "text_round", "_windows_in_order", "_check_words", "_check_word", "_law_cell", "_law_pool"] : List Str) ++ (["_law_take", "_law_mixed", "_law_windows", "_law_text", "_law_window_net", "_law_told", "_law_right_net", "_law_refuses", "law"] : List Str))
def frees : List Str := ["len", "int", "str", "isinstance", "range", "tuple", "list", "all", "sorted", "set", "bool"]
def meths : List Str := ["post", "lane", "start_of", "end_of", "__contains__", "__len__"]
def errs : List Str := ["EmptyWalk"]
def emF : Fact := fun K => PySem.W.excIn K (He.ga K "EmptyWalk") He.veBase "ValueError.__new__" && (decide (PySem.W.subIn K (.ref (He.ga K "EmptyWalk")) (.type "BaseException") = some true) && (decide (PySem.W.typeIn K (.ref (He.ga K "EmptyWalk")) = some (.type "type")) && PySem.W.keepIn K (.ref (He.ga K "EmptyWalk"))))
def fs : List Fact := [glosF globals, freesF frees, strF "LETTERS" (Vp.tx Vp.letters), strF "DIGITS" (Vp.tx Vp.digits), intF "LONGEST" 8, intF "SHORTEST_WINDOW" 2, intF "LONGEST_WINDOW" 8, intF "LONGEST_TEXT" 40, clsF "Net" ["_posts", "_ends"] meths, mkF "Net", prpF "Net" "posts", prpF "Net" "lanes", takB, clsF "Round" ["_lanes"] ["__len__", "taken", "__getitem__"], mkF "Round", prpF "Round" "lanes", Vw.owF "Round" "lshift", Vw.insF "Round", fnF "Round" "__getitem__", errF "BadName" ["name"], errF "NameTaken" ["name"], errF "NoPost" ["name"], errF "NoLane" ["name"], errF "BadWord" ["word"], errF "BadNumber" ["value"], exmF ["BadWord", "BadNumber", "EmptyWalk"], emF]
abbrev Rw : PySem.W.OpenRow := PySem.W.OpenLaw.row PySem.Challenge.rw_alsoshown_k58_windows_and_texts
abbrev hk : PySem.W.Hook := hookP 5 (allF fs) fn pr
def ob (s : PySem.W.SharedT) : He.AlD := obsPG 5 (allF fs) fn pr (HandSHeadRun.getT s)
theorem ob_eq (s : PySem.W.SharedT) : ob s = hk.obs s.abs := obsPG_eq (HandSHeadRun.getT_eq s)
def loose : List Str := (((["_wall", "__name__", "ShowError", "BadName", "NameTaken", "NoPost", "NoLane", "Clash", "EmptyWalk", "BadNumber", "BadWord", "LETTERS", "DIGITS", "LONGEST", "is_name", "is_integer", "check_name", "check_sequence", "Net", "_net_of", "check_posts", "check_lanes", "Round", "least_turn", "fits"] : List Str) ++ (["SHORTEST_WINDOW", "LONGEST_WINDOW", "LONGEST_TEXT", "windows", "window_net", "ring_text", "text_round", "_windows_in_order", "_check_words", "_check_word", "_law_cell", "_law_pool", "_law_take", "_law_mixed", "_law_windows", "_law_text", "_law_window_net", "_law_told", "_law_right_net", "_law_refuses"] : List Str)) : List Str)
theorem run (w : World) : HandSHeadRun.RunEq Rw (PySem.W.view Rw.prog [50]) hk ob 20000 loose w := by
  intro os
  kernel_rfl
end K58

set_option Elab.async false
set_option linter.all false
set_option maxRecDepth 100000
set_option maxHeartbeats 4000000
namespace K58
open PySem PySem.Spec PyProof.Rows L2 Vl Evl Vh Vc Vx2 Vw
theorem facts_ok {P : Program} {w : World} {K : PySem.W.Frag} {h : Heap} {mg : Str → Option Value} {f : Addr} (X : K.In h) (G : h.Ns mainGlobals mg) (hfa : mg ("law" : Str) = some (.ref f)) (c : SaysP (allF fs) fn pr K) :
    ∃ fd : FuncData, (∀ (s : Shared) (v : Value), BindsTo s fd ⟨[v], []⟩ [("_law_script", v)]) ∧ ∀ base : Heap, K.In base → base.Ns mainGlobals mg → FnOk P w K mg base L2.CX0 9 f fd ["_law_script"] (spLaw K) := by
  have a := c.one.1
  have gg := glos_ok X G (fact_at a 0)
  have fr := frees_ok X G (fact_at a 1)
  have gL := He.str_ok X G (fact_at a 2)
  have gDg := He.str_ok X G (fact_at a 3)
  have gO := He.int_ok X G (fact_at a 4)
  have gSW := He.int_ok X G (fact_at a 5)
  have gLW := He.int_ok X G (fact_at a 6)
  have gLT := He.int_ok X G (fact_at a 7)
  have net := clsF_ok (fact_at a 8)
  have M := He.mkr_ok (fact_at a 9)
  have pP := prpF_ok (fact_at a 10)
  have pL := prpF_ok (fact_at a 11)
  have tak := fact_at a 12
  have ro := clsF_ok (fact_at a 13)
  have MR := He.mkr_ok (fact_at a 14)
  have pR := prpF_ok (fact_at a 15)
  obtain ⟨wS, zS⟩ := owF_ok (fact_at a 16)
  have rins := insF_ok ro.cls (fact_at a 17) tak
  have gfn := fact_at a 18
  have eBadName := fact_at a 19
  have eNameTaken := fact_at a 20
  have eNoPost := fact_at a 21
  have eNoLane := fact_at a 22
  have eBadWord := fact_at a 23
  have eBadNumber := fact_at a 24
  have exm := fact_at a 25
  have emf := fact_at a 26
  obtain ⟨fd_is_name, D_is_name⟩ := c.def_ 0 (d := gD (top 15) "is_name") rfl
  obtain ⟨fd_is_integer, D_is_integer⟩ := c.def_ 1 (d := gD (top 16) "is_integer") rfl
  obtain ⟨fd_check_name, D_check_name⟩ := c.def_ 2 (d := gD (top 17) "check_name") rfl
  obtain ⟨fd_check_sequence, D_check_sequence⟩ := c.def_ 3 (d := gD (top 18) "check_sequence") rfl
  obtain ⟨fd_check_posts, D_check_posts⟩ := c.def_ 4 (d := gD (top 22) "check_posts") rfl
  obtain ⟨fd_check_lanes, D_check_lanes⟩ := c.def_ 5 (d := gD (top 23) "check_lanes") rfl
  obtain ⟨fd_fits, D_fits⟩ := c.def_ 6 (d := gD (top 27) "fits") rfl
  obtain ⟨fd_windows, D_windows⟩ := c.def_ 7 (d := gD (top 32) "windows") rfl
  obtain ⟨fd_window_net, D_window_net⟩ := c.def_ 8 (d := gD (top 33) "window_net") rfl
  obtain ⟨fd_ring_text, D_ring_text⟩ := c.def_ 9 (d := gD (top 34) "ring_text") rfl
  obtain ⟨fd_text_round, D_text_round⟩ := c.def_ 10 (d := gD (top 35) "text_round") rfl
  obtain ⟨fd__windows_in_order, D__windows_in_order⟩ := c.def_ 11 (d := gD (top 36) "_windows_in_order") rfl
  obtain ⟨fd__check_words, D__check_words⟩ := c.def_ 12 (d := gD (top 37) "_check_words") rfl
  obtain ⟨fd__check_word, D__check_word⟩ := c.def_ 13 (d := gD (top 38) "_check_word") rfl
  obtain ⟨fd__law_cell, D__law_cell⟩ := c.def_ 14 (d := gD (top 40) "_law_cell") rfl
  obtain ⟨fd__law_pool, D__law_pool⟩ := c.def_ 15 (d := gD (top 41) "_law_pool") rfl
  obtain ⟨fd__law_take, D__law_take⟩ := c.def_ 16 (d := gD (top 42) "_law_take") rfl
  obtain ⟨fd__law_mixed, D__law_mixed⟩ := c.def_ 17 (d := gD (top 43) "_law_mixed") rfl
  obtain ⟨fd__law_windows, D__law_windows⟩ := c.def_ 18 (d := gD (top 44) "_law_windows") rfl
  obtain ⟨fd__law_text, D__law_text⟩ := c.def_ 19 (d := gD (top 45) "_law_text") rfl
  obtain ⟨fd__law_window_net, D__law_window_net⟩ := c.def_ 20 (d := gD (top 46) "_law_window_net") rfl
  obtain ⟨fd__law_told, D__law_told⟩ := c.def_ 21 (d := gD (top 47) "_law_told") rfl
  obtain ⟨fd__law_right_net, D__law_right_net⟩ := c.def_ 22 (d := gD (top 48) "_law_right_net") rfl
  obtain ⟨fd__law_refuses, D__law_refuses⟩ := c.def_ 23 (d := gD (top 49) "_law_refuses") rfl
  obtain ⟨fd_law, D_law⟩ := c.def_ 24 (d := gD (top 50) "law") rfl
  obtain ⟨fd_m__init__, D_m__init__⟩ := c.def_ 25 (d := mD (mem 0) "Net" "__init__" "Net.__init__") rfl
  obtain ⟨fd_mpost, D_mpost⟩ := c.def_ 26 (d := mD (mem 1) "Net" "post" "Net.post") rfl
  obtain ⟨fd_mlane, D_mlane⟩ := c.def_ 27 (d := mD (mem 2) "Net" "lane" "Net.lane") rfl
  obtain ⟨fd_mstart_of, D_mstart_of⟩ := c.def_ 28 (d := mD (mem 6) "Net" "start_of" "Net.start_of") rfl
  obtain ⟨fd_mend_of, D_mend_of⟩ := c.def_ 29 (d := mD (mem 7) "Net" "end_of" "Net.end_of") rfl
  obtain ⟨fd_m__contains__, D_m__contains__⟩ := c.def_ 30 (d := mD (mem 11) "Net" "__contains__" "Net.__contains__") rfl
  obtain ⟨fd_m__len__, D_m__len__⟩ := c.def_ 31 (d := mD (mem 13) "Net" "__len__" "Net.__len__") rfl
  obtain ⟨fd_r__init__, D_r__init__⟩ := c.def_ 32 (d := mD (R58.mem 0) "Round" "__init__" "Round.__init__") rfl
  obtain ⟨fd_r__len__, D_r__len__⟩ := c.def_ 33 (d := mD (R58.mem 7) "Round" "__len__" "Round.__len__") rfl
  obtain ⟨fd_rtaken, D_rtaken⟩ := c.def_ 34 (d := mD (R58.mem 4) "Round" "taken" "Round.taken") rfl
  obtain ⟨fd_r__getitem__, D_r__getitem__⟩ := c.def_ 35 (d := mD (R58.mem 6) "Round" "__getitem__" "Round.__getitem__") rfl
  obtain ⟨fd_r__lshift__, D_r__lshift__⟩ := c.def_ 36 (d := mD (R58.mem 12) "Round" "__lshift__" "Round.__lshift__") rfl
  obtain ⟨fd_iBadName, D_iBadName⟩ := c.def_ 37 (d := mD iniBadName "BadName" "__init__" "BadName.__init__") rfl
  obtain ⟨fd_iNameTaken, D_iNameTaken⟩ := c.def_ 38 (d := mD iniNameTaken "NameTaken" "__init__" "NameTaken.__init__") rfl
  obtain ⟨fd_iNoPost, D_iNoPost⟩ := c.def_ 39 (d := mD iniNoPost "NoPost" "__init__" "NoPost.__init__") rfl
  obtain ⟨fd_iNoLane, D_iNoLane⟩ := c.def_ 40 (d := mD iniNoLane "NoLane" "__init__" "NoLane.__init__") rfl
  obtain ⟨fd_iBadWord, D_iBadWord⟩ := c.def_ 41 (d := mD iniBadWord "BadWord" "__init__" "BadWord.__init__") rfl
  obtain ⟨fd_iBadNumber, D_iBadNumber⟩ := c.def_ 42 (d := mD iniBadNumber "BadNumber" "__init__" "BadNumber.__init__") rfl
  obtain ⟨fd_prl, D_prl⟩ := c.prp 0 (q := (("Round", "lanes"), mD (R58.mem 1) "Round" "lanes" "Round.lanes")) rfl
  obtain ⟨fd_pposts, D_pposts⟩ := c.prp 1 (q := (("Net", "posts"), mD (mem 4) "Net" "posts" "Net.posts")) rfl
  obtain ⟨fd_planes, D_planes⟩ := c.prp 2 (q := (("Net", "lanes"), mD (mem 5) "Net" "lanes" "Net.lanes")) rfl
  have e := hfa.symm.trans (gg "law" (by decide))
  cases e
  have b := FunD.bindsA (ps := ["_law_script"]) D_law fun _ _ _ _ _ _ us hl => match us, hl with | [_], _ => rfl
  have b_is_name : L2.Binds K fd_is_name ["value"] [] := FunD.bindsN D_is_name fun _ _ _ _ _ _ us hl => match us, hl with | [_], _ => rfl
  have b_is_integer : L2.Binds K fd_is_integer ["value"] [] := FunD.bindsN D_is_integer fun _ _ _ _ _ _ us hl => match us, hl with | [_], _ => rfl
  have b_check_name : L2.Binds K fd_check_name ["value"] [] := FunD.bindsN D_check_name fun _ _ _ _ _ _ us hl => match us, hl with | [_], _ => rfl
  have b_check_sequence : L2.Binds K fd_check_sequence ["names"] [] := FunD.bindsN D_check_sequence fun _ _ _ _ _ _ us hl => match us, hl with | [_], _ => rfl
  have b_check_posts : L2.Binds K fd_check_posts ["net", "names"] [] := FunD.bindsN D_check_posts fun _ _ _ _ _ _ us hl => match us, hl with | [_, _], _ => rfl
  have b_check_lanes : L2.Binds K fd_check_lanes ["net", "names"] [] := FunD.bindsN D_check_lanes fun _ _ _ _ _ _ us hl => match us, hl with | [_, _], _ => rfl
  have b_fits : L2.Binds K fd_fits ["net", "ring"] [] := FunD.bindsN D_fits fun _ _ _ _ _ _ us hl => match us, hl with | [_, _], _ => rfl
  have b_windows : L2.Binds K fd_windows ["text", "k"] [] := FunD.bindsN D_windows fun _ _ _ _ _ _ us hl => match us, hl with | [_, _], _ => rfl
  have b_window_net : L2.Binds K fd_window_net ["words"] [] := FunD.bindsN D_window_net fun _ _ _ _ _ _ us hl => match us, hl with | [_], _ => rfl
  have b_ring_text : L2.Binds K fd_ring_text ["ring"] [] := FunD.bindsN D_ring_text fun _ _ _ _ _ _ us hl => match us, hl with | [_], _ => rfl
  have b_text_round : L2.Binds K fd_text_round ["text", "k"] [] := FunD.bindsN D_text_round fun _ _ _ _ _ _ us hl => match us, hl with | [_, _], _ => rfl
  have b__windows_in_order : L2.Binds K fd__windows_in_order ["text", "k"] [] := FunD.bindsN D__windows_in_order fun _ _ _ _ _ _ us hl => match us, hl with | [_, _], _ => rfl
  have b__check_words : L2.Binds K fd__check_words ["words"] [] := FunD.bindsN D__check_words fun _ _ _ _ _ _ us hl => match us, hl with | [_], _ => rfl
  have b__check_word : L2.Binds K fd__check_word ["word", "least", "most"] [] := FunD.bindsN D__check_word fun _ _ _ _ _ _ us hl => match us, hl with | [_, _, _], _ => rfl
  have b__law_cell : L2.Binds K fd__law_cell ["_law_script", "_law_k"] [] := FunD.bindsN D__law_cell fun _ _ _ _ _ _ us hl => match us, hl with | [_, _], _ => rfl
  have b__law_pool : L2.Binds K fd__law_pool ["_law_cell_here"] [] := FunD.bindsN D__law_pool fun _ _ _ _ _ _ us hl => match us, hl with | [_], _ => rfl
  have b__law_take : L2.Binds K fd__law_take ["_law_pool_here", "_law_many"] [] := FunD.bindsN D__law_take fun _ _ _ _ _ _ us hl => match us, hl with | [_, _], _ => rfl
  have b__law_mixed : L2.Binds K fd__law_mixed ["_law_pool_here", "_law_things"] [] := FunD.bindsN D__law_mixed fun _ _ _ _ _ _ us hl => match us, hl with | [_, _], _ => rfl
  have b__law_windows : L2.Binds K fd__law_windows ["_law_text_here", "_law_size"] [] := FunD.bindsN D__law_windows fun _ _ _ _ _ _ us hl => match us, hl with | [_, _], _ => rfl
  have b__law_text : L2.Binds K fd__law_text ["_law_pool_here", "_law_most", "_law_letters"] [] := FunD.bindsN D__law_text fun _ _ _ _ _ _ us hl => match us, hl with | [_, _, _], _ => rfl
  have b__law_window_net : L2.Binds K fd__law_window_net ["_law_words"] [] := FunD.bindsN D__law_window_net fun _ _ _ _ _ _ us hl => match us, hl with | [_], _ => rfl
  have b__law_told : L2.Binds K fd__law_told ["_law_kind", "_law_thing", "_law_size"] [] := FunD.bindsN D__law_told fun _ _ _ _ _ _ us hl => match us, hl with | [_, _, _], _ => rfl
  have b__law_right_net : L2.Binds K fd__law_right_net ["_law_net", "_law_words"] [] := FunD.bindsN D__law_right_net fun _ _ _ _ _ _ us hl => match us, hl with | [_, _], _ => rfl
  have b__law_refuses : L2.Binds K fd__law_refuses ["_law_pool_here", "_law_text_here"] [] := FunD.bindsN D__law_refuses fun _ _ _ _ _ _ us hl => match us, hl with | [_, _], _ => rfl
  have b_m__init__ : L2.Binds K fd_m__init__ ["self"] [] := FunD.bindsN D_m__init__ fun _ _ _ _ _ _ us hl => match us, hl with | [_], _ => rfl
  have b_mpost : L2.Binds K fd_mpost ["self", "name"] [] := FunD.bindsN D_mpost fun _ _ _ _ _ _ us hl => match us, hl with | [_, _], _ => rfl
  have b_mlane : L2.Binds K fd_mlane ["self", "name", "start", "end"] [] := FunD.bindsN D_mlane fun _ _ _ _ _ _ us hl => match us, hl with | [_, _, _, _], _ => rfl
  have b_mstart_of : L2.Binds K fd_mstart_of ["self", "lane"] [] := FunD.bindsN D_mstart_of fun _ _ _ _ _ _ us hl => match us, hl with | [_, _], _ => rfl
  have b_mend_of : L2.Binds K fd_mend_of ["self", "lane"] [] := FunD.bindsN D_mend_of fun _ _ _ _ _ _ us hl => match us, hl with | [_, _], _ => rfl
  have b_m__contains__ : L2.Binds K fd_m__contains__ ["self", "x"] [] := FunD.bindsN D_m__contains__ fun _ _ _ _ _ _ us hl => match us, hl with | [_, _], _ => rfl
  have b_m__len__ : L2.Binds K fd_m__len__ ["self"] [] := FunD.bindsN D_m__len__ fun _ _ _ _ _ _ us hl => match us, hl with | [_], _ => rfl
  have b_r__init__ : L2.Binds K fd_r__init__ ["self", "lanes"] [] := FunD.bindsN D_r__init__ fun _ _ _ _ _ _ us hl => match us, hl with | [_, _], _ => rfl
  have b_r__len__ : L2.Binds K fd_r__len__ ["self"] [] := FunD.bindsN D_r__len__ fun _ _ _ _ _ _ us hl => match us, hl with | [_], _ => rfl
  have b_rtaken : L2.Binds K fd_rtaken ["self"] [] := FunD.bindsN D_rtaken fun _ _ _ _ _ _ us hl => match us, hl with | [_], _ => rfl
  have b_r__getitem__ : L2.Binds K fd_r__getitem__ ["self", "at"] [] := FunD.bindsN D_r__getitem__ fun _ _ _ _ _ _ us hl => match us, hl with | [_, _], _ => rfl
  have b_r__lshift__ : L2.Binds K fd_r__lshift__ ["self", "other"] [] := FunD.bindsN D_r__lshift__ fun _ _ _ _ _ _ us hl => match us, hl with | [_, _], _ => rfl
  have b_iBadName : L2.Binds K fd_iBadName ["self", "name"] [] := FunD.bindsN D_iBadName fun _ _ _ _ _ _ us hl => match us, hl with | [_, _], _ => rfl
  have b_iNameTaken : L2.Binds K fd_iNameTaken ["self", "name"] [] := FunD.bindsN D_iNameTaken fun _ _ _ _ _ _ us hl => match us, hl with | [_, _], _ => rfl
  have b_iNoPost : L2.Binds K fd_iNoPost ["self", "name"] [] := FunD.bindsN D_iNoPost fun _ _ _ _ _ _ us hl => match us, hl with | [_, _], _ => rfl
  have b_iNoLane : L2.Binds K fd_iNoLane ["self", "name"] [] := FunD.bindsN D_iNoLane fun _ _ _ _ _ _ us hl => match us, hl with | [_, _], _ => rfl
  have b_iBadWord : L2.Binds K fd_iBadWord ["self", "word"] [] := FunD.bindsN D_iBadWord fun _ _ _ _ _ _ us hl => match us, hl with | [_, _], _ => rfl
  have b_iBadNumber : L2.Binds K fd_iBadNumber ["self", "value"] [] := FunD.bindsN D_iBadNumber fun _ _ _ _ _ _ us hl => match us, hl with | [_, _], _ => rfl
  have b_pposts : L2.Binds K fd_pposts ["self"] [] := FunD.bindsN D_pposts fun _ _ _ _ _ _ us hl => match us, hl with | [_], _ => rfl
  have b_planes : L2.Binds K fd_planes ["self"] [] := FunD.bindsN D_planes fun _ _ _ _ _ _ us hl => match us, hl with | [_], _ => rfl
  have b_prl : L2.Binds K fd_prl ["self"] [] := FunD.bindsN D_prl fun _ _ _ _ _ _ us hl => match us, hl with | [_], _ => rfl
  refine ⟨fd_law, fun s v => b s [v] rfl, fun base _ _ => ?_⟩
  have E_BadName : Err1 P w K mg base "BadName" "name" (He.ga K "BadName") := err1_of eBadName tak (gg "BadName" (by decide)) (ok_ini1 (f := "name") D_iBadName ⟨rfl, rfl, rfl, by decide +kernel, rfl, by decide +kernel, by decide +kernel⟩ rfl (errB_ok (He.ba eBadName).1 tak).1 ((iniB_ok (He.ba eBadName).2).no "name" (by decide)) (by decide) (by decide)) b_iBadName
  have E_NameTaken : Err1 P w K mg base "NameTaken" "name" (He.ga K "NameTaken") := err1_of eNameTaken tak (gg "NameTaken" (by decide)) (ok_ini1 (f := "name") D_iNameTaken ⟨rfl, rfl, rfl, by decide +kernel, rfl, by decide +kernel, by decide +kernel⟩ rfl (errB_ok (He.ba eNameTaken).1 tak).1 ((iniB_ok (He.ba eNameTaken).2).no "name" (by decide)) (by decide) (by decide)) b_iNameTaken
  have E_NoPost : Err1 P w K mg base "NoPost" "name" (He.ga K "NoPost") := err1_of eNoPost tak (gg "NoPost" (by decide)) (ok_ini1 (f := "name") D_iNoPost ⟨rfl, rfl, rfl, by decide +kernel, rfl, by decide +kernel, by decide +kernel⟩ rfl (errB_ok (He.ba eNoPost).1 tak).1 ((iniB_ok (He.ba eNoPost).2).no "name" (by decide)) (by decide) (by decide)) b_iNoPost
  have E_NoLane : Err1 P w K mg base "NoLane" "name" (He.ga K "NoLane") := err1_of eNoLane tak (gg "NoLane" (by decide)) (ok_ini1 (f := "name") D_iNoLane ⟨rfl, rfl, rfl, by decide +kernel, rfl, by decide +kernel, by decide +kernel⟩ rfl (errB_ok (He.ba eNoLane).1 tak).1 ((iniB_ok (He.ba eNoLane).2).no "name" (by decide)) (by decide) (by decide)) b_iNoLane
  have E_BadWord : Err1 P w K mg base "BadWord" "word" (He.ga K "BadWord") := err1_of eBadWord tak (gg "BadWord" (by decide)) (ok_ini1 (f := "word") D_iBadWord ⟨rfl, rfl, rfl, by decide +kernel, rfl, by decide +kernel, by decide +kernel⟩ rfl (errB_ok (He.ba eBadWord).1 tak).1 ((iniB_ok (He.ba eBadWord).2).no "word" (by decide)) (by decide) (by decide)) b_iBadWord
  have E_BadNumber : Err1 P w K mg base "BadNumber" "value" (He.ga K "BadNumber") := err1_of eBadNumber tak (gg "BadNumber" (by decide)) (ok_ini1 (f := "value") D_iBadNumber ⟨rfl, rfl, rfl, by decide +kernel, rfl, by decide +kernel, by decide +kernel⟩ rfl (errB_ok (He.ba eBadNumber).1 tak).1 ((iniB_ok (He.ba eBadNumber).2).no "value" (by decide)) (by decide) (by decide)) b_iBadNumber
  have G_isname := ok_isname (P := P) (w := w) (base := base) D_is_name (fr "isinstance" (by decide)) (fr "str" (by decide)) (fr "len" (by decide)) (fr "all" (by decide)) gL gDg gO
  have G_chkn := ok_chkn D_check_name D_is_name (gg "is_name" (by decide)) G_isname E_BadName
  have G_posts := ok_posts (P := P) (w := w) (base := base) D_pposts net.cls (net.no "_posts" (by decide)) (fr "tuple" (by decide))
  have G_lanes := ok_lanes (P := P) (w := w) (base := base) D_planes net.cls (net.no "_ends" (by decide)) (fr "tuple" (by decide))
  have G_len := ok_nlen (P := P) (w := w) (base := base) D_m__len__ net.cls (net.no "_ends" (by decide)) (fr "len" (by decide))
  have G_has := ok_has (P := P) (w := w) (base := base) D_m__contains__ net.cls (net.no "_ends" (by decide)) (fr "isinstance" (by decide)) (fr "str" (by decide))
  have G_chkp := ok_chkp D_check_posts net.cls pP b_pposts G_posts E_NoPost
  have G_chkl := ok_chkl D_check_lanes net.cls (net.me "__contains__" (by decide)) b_m__contains__ G_has E_NoLane
  have G_post := ok_post D_mpost net.cls (net.no "_posts" (by decide)) D_check_name (gg "check_name" (by decide)) G_chkn E_NameTaken
  have G_lane := ok_lane D_mlane net.cls (net.no "_ends" (by decide)) D_check_name (gg "check_name" (by decide)) G_chkn E_NameTaken D_check_posts (gg "check_posts" (by decide)) G_chkp
  have G_start := ok_start D_mstart_of net.cls (net.no "_ends" (by decide)) D_check_lanes (gg "check_lanes" (by decide)) G_chkl
  have G_end := ok_end D_mend_of net.cls (net.no "_ends" (by decide)) D_check_lanes (gg "check_lanes" (by decide)) G_chkl
  have G_init := ok_nini (P := P) (w := w) (mg := mg) (base := base) D_m__init__ net.cls (net.no "_posts" (by decide)) (net.no "_ends" (by decide))
  have N : ND P w K mg base (He.ga K "Net") (He.ga K "BadName") (He.ga K "NameTaken") (He.ga K "NoPost") (He.ga K "NoLane") :=
    { cls := net.cls
      post := ⟨_, _, _, G_post, net.me "post" (by decide), b_mpost⟩
      lane := ⟨_, _, _, G_lane, net.me "lane" (by decide), b_mlane⟩
      posts := ⟨_, _, _, _, G_posts, pP, b_pposts⟩
      lanes := ⟨_, _, _, _, G_lanes, pL, b_planes⟩
      len := ⟨_, _, _, G_len, net.me "__len__" (by decide), b_m__len__⟩
      start := ⟨_, _, _, G_start, net.me "start_of" (by decide), b_mstart_of⟩
      end_ := ⟨_, _, _, G_end, net.me "end_of" (by decide), b_mend_of⟩
      has := ⟨_, _, _, G_has, net.me "__contains__" (by decide), b_m__contains__⟩
      new := ⟨_, _, _, G_init, M, b_m__init__, (gg "Net" (by decide))⟩ }
  have TCe : Fu P w K mg base L2.CX0 1 "_law_cell" (spCell K) := .of (ok_cell D__law_cell (fr "len" (by decide))) (gg "_law_cell" (by decide)) D__law_cell.kp b__law_cell
  have TPo : Fu P w K mg base L2.CX0 1 "_law_pool" Vp.spPool := .of (ok_pool D__law_pool (fr "int" (by decide))) (gg "_law_pool" (by decide)) D__law_pool.kp b__law_pool
  have TT : Fu P w K mg base L2.CX0 1 "_law_take" Vp.spTake := .of (ok_take D__law_take (fr "int" (by decide))) (gg "_law_take" (by decide)) D__law_take.kp b__law_take
  have TMx : Fu P w K mg base L2.CX0 2 "_law_mixed" spMixed := .of (ok_mixed D__law_mixed D__law_take (gg "_law_take" (by decide)) (fr "int" (by decide)) (fr "len" (by decide)) (fr "range" (by decide)) (fr "list" (by decide))) (gg "_law_mixed" (by decide)) D__law_mixed.kp b__law_mixed
  have RG_isname := R58.ok_isname (P := P) (w := w) (base := base) D_is_name (fr "isinstance" (by decide)) (fr "str" (by decide)) (fr "len" (by decide)) (fr "all" (by decide)) gL gDg gO
  have RG_chkn := R58.ok_chkn D_check_name D_is_name (gg "is_name" (by decide)) RG_isname
  have RG_chks := R58.ok_chks D_check_sequence D_check_name (gg "check_name" (by decide)) (fr "len" (by decide)) RG_chkn
  have RG_ini := R58.ok_ini D_r__init__ ro.cls (ro.no "_lanes" (by decide)) D_check_sequence (gg "check_sequence" (by decide)) (fr "tuple" (by decide)) RG_chks
  have RG_lanes := R58.ok_lanes (P := P) (w := w) (base := base) (mg := mg) D_prl ro.cls (ro.no "_lanes" (by decide))
  have newR : Nw P w K mg base (He.ga K "Round") L2.CX0 4 "Round" (R58.spIniR K (He.ga K "Round")) := ⟨_, _, _, RG_ini, MR, b_r__init__, (gg "Round" (by decide))⟩
  have lanR : Pr P w K mg base (He.ga K "Round") 1 "lanes" (getSp (He.ga K "Round") "_lanes") := ⟨_, _, _, _, RG_lanes, pR, b_prl⟩
  have E_EmptyWalk : Err0 K mg "EmptyWalk" (He.ga K "EmptyWalk") := by
    obtain ⟨h1, h2⟩ := He.ba emf
    obtain ⟨h2, h3⟩ := He.ba h2
    obtain ⟨h3, h4⟩ := He.ba h3
    exact ⟨h1, of_decide_eq_true h2, of_decide_eq_true h3, h4, (gg "EmptyWalk" (by decide))⟩
  have RG_isint := R58.ok_isint (P := P) (w := w) (base := base) D_is_integer (fr "isinstance" (by decide)) (fr "int" (by decide)) (fr "bool" (by decide))
  have RG_len := R58.ok_len (P := P) (w := w) (base := base) D_r__len__ ro.cls (ro.no "_lanes" (by decide)) (fr "len" (by decide))
  have RG_taken := R58.ok_taken (P := P) (w := w) (base := base) D_rtaken ro.cls (ro.no "_lanes" (by decide)) (fr "tuple" (by decide)) (fr "sorted" (by decide)) (fr "set" (by decide))
  obtain ⟨fE, fdE, iC, tI, bE, GE⟩ := E_BadNumber.ini
  have RG_shl := R58.ok_shl D_r__lshift__ ro.cls (ro.no "_lanes" (by decide)) (fr "len" (by decide)) D_is_integer (gg "is_integer" (by decide)) RG_isint E_BadNumber.T iC tI (gg "BadNumber" (by decide)) bE GE (gg "Round" (by decide)) MR b_r__init__ RG_ini
  have RG_get := R58.ok_get D_r__getitem__ ro.cls (ro.no "_lanes" (by decide)) (fr "len" (by decide)) D_is_integer (gg "is_integer" (by decide)) RG_isint E_BadNumber.T iC tI (gg "BadNumber" (by decide)) bE GE
  have R : RD P w K mg base (He.ga K "Round") (He.ga K "BadNumber") :=
    { cls := ro.cls
      ins := rins
      lan := lanR
      len := ⟨_, _, _, RG_len, ro.me "__len__" (by decide), b_r__len__⟩
      taken := ⟨_, _, _, RG_taken, ro.me "taken" (by decide), b_rtaken⟩
      shl := ⟨⟨_, _, _, RG_shl, wS, b_r__lshift__⟩, zS⟩
      get := ⟨_, _, _, RG_get, ro.me "__getitem__" (by decide), b_r__getitem__, gfn⟩
      new := newR }
  have TII : Fu P w K mg base L2.CX0 1 "is_integer" (R58.spIsInt K) := .of RG_isint (gg "is_integer" (by decide)) D_is_integer.kp b_is_integer
  have TCw : Fu P w K mg base (L2.CX P w) 3 "_check_word" (spCkW K (He.ga K "BadWord")) := .of (ok_cw D__check_word E_BadWord (fr "isinstance" (by decide)) (fr "str" (by decide)) (fr "len" (by decide)) (fr "all" (by decide)) gL) (gg "_check_word" (by decide)) D__check_word.kp b__check_word
  have TCs : Fu P w K mg base (L2.CX P w) 4 "_check_words" (spCkS K (He.ga K "BadWord") (He.ga K "EmptyWalk")) := .of (ok_cs D__check_words TCw E_BadWord E_EmptyWalk (fr "len" (by decide)) gSW gLW) (gg "_check_words" (by decide)) D__check_words.kp b__check_words
  have TWo : Fu P w K mg base (L2.CX P w) 4 "_windows_in_order" (spWo K (He.ga K "BadWord") (He.ga K "BadNumber")) := .of (ok_wo D__windows_in_order TCw TII E_BadNumber (fr "len" (by decide)) (fr "range" (by decide)) gSW gLW gLT) (gg "_windows_in_order" (by decide)) D__windows_in_order.kp b__windows_in_order
  have TWi : Fu P w K mg base (L2.CX P w) 5 "windows" (spWi K (He.ga K "BadWord") (He.ga K "BadNumber")) := .of (ok_wi D_windows TWo (fr "sorted" (by decide)) (fr "set" (by decide))) (gg "windows" (by decide)) D_windows.kp b_windows
  have TTr : Fu P w K mg base (L2.CX P w) 6 "text_round" (spTr K (He.ga K "Round") (He.ga K "BadWord") (He.ga K "BadNumber")) := .of (ok_tr D_text_round TWo newR) (gg "text_round" (by decide)) D_text_round.kp b_text_round
  have TRt : Fu P w K mg base L2.CX0 3 "ring_text" (spRt K (He.ga K "Round")) := .of (ok_rt D_ring_text ro.cls lanR) (gg "ring_text" (by decide)) D_ring_text.kp b_ring_text
  have TFt : Fu P w K mg base L2.CX0 6 "fits" (spFt K (He.ga K "Net") (He.ga K "Round")) := .of (ok_ft D_fits N ro.cls lanR (fr "all" (by decide)) (fr "len" (by decide)) (fr "range" (by decide))) (gg "fits" (by decide)) D_fits.kp b_fits
  have TWn : Fu P w K mg base (L2.CX P w) 6 "window_net" (spWn K (He.ga K "Net") (He.ga K "BadWord") (He.ga K "EmptyWalk")) := .of (ok_wnet D_window_net N TCs (fr "sorted" (by decide)) (fr "set" (by decide))) (gg "window_net" (by decide)) D_window_net.kp b_window_net
  have TLw : Fu P w K mg base L2.CX0 1 "_law_windows" spLw := .of (ok_lw D__law_windows (fr "len" (by decide)) (fr "range" (by decide)) (fr "sorted" (by decide)) (fr "str" (by decide))) (gg "_law_windows" (by decide)) D__law_windows.kp b__law_windows
  have TTx : Fu P w K mg base L2.CX0 2 "_law_text" spTx := .of (ok_tx D__law_text TT (fr "len" (by decide)) (fr "range" (by decide))) (gg "_law_text" (by decide)) D__law_text.kp b__law_text
  have TLn : Fu P w K mg base L2.CX0 1 "_law_window_net" (spLn K) := .of (ok_ln D__law_window_net (fr "sorted" (by decide)) (fr "str" (by decide))) (gg "_law_window_net" (by decide)) D__law_window_net.kp b__law_window_net
  have TRn : Fu P w K mg base L2.CX0 5 "_law_right_net" (spRn (He.ga K "Net")) := .of (ok_rn D__law_right_net N TLn (fr "tuple" (by decide))) (gg "_law_right_net" (by decide)) D__law_right_net.kp b__law_right_net
  have xm : ∀ x y : Nat, x < 3 → y < 3 → PySem.W.exmOne K (.ref ([He.ga K "BadWord", He.ga K "BadNumber", He.ga K "EmptyWalk"].getD x 0)) (.ref ([He.ga K "BadWord", He.ga K "BadNumber", He.ga K "EmptyWalk"].getD y 0)) = some (decide (x = y)) := fun x y hx hy => by
    match x, y, hx, hy with
    | 0, 0, _, _ => exact (exmF_ok exm (x := "BadWord") (y := "BadWord") (by decide) (by decide)).trans (congrArg some (by decide))
    | 0, 1, _, _ => exact (exmF_ok exm (x := "BadWord") (y := "BadNumber") (by decide) (by decide)).trans (congrArg some (by decide))
    | 0, 2, _, _ => exact (exmF_ok exm (x := "BadWord") (y := "EmptyWalk") (by decide) (by decide)).trans (congrArg some (by decide))
    | 1, 0, _, _ => exact (exmF_ok exm (x := "BadNumber") (y := "BadWord") (by decide) (by decide)).trans (congrArg some (by decide))
    | 1, 1, _, _ => exact (exmF_ok exm (x := "BadNumber") (y := "BadNumber") (by decide) (by decide)).trans (congrArg some (by decide))
    | 1, 2, _, _ => exact (exmF_ok exm (x := "BadNumber") (y := "EmptyWalk") (by decide) (by decide)).trans (congrArg some (by decide))
    | 2, 0, _, _ => exact (exmF_ok exm (x := "EmptyWalk") (y := "BadWord") (by decide) (by decide)).trans (congrArg some (by decide))
    | 2, 1, _, _ => exact (exmF_ok exm (x := "EmptyWalk") (y := "BadNumber") (by decide) (by decide)).trans (congrArg some (by decide))
    | 2, 2, _, _ => exact (exmF_ok exm (x := "EmptyWalk") (y := "EmptyWalk") (by decide) (by decide)).trans (congrArg some (by decide))
  have TTo : Fu P w K mg base L2.CX0 7 "_law_told" (spTo K) := .of (ok_to D__law_told TWi TTr TWn E_BadWord E_BadNumber E_EmptyWalk xm) (gg "_law_told" (by decide)) D__law_told.kp b__law_told
  have TRf : Fu P w K mg base L2.CX0 8 "_law_refuses" spRf := .of (ok_rf D__law_refuses TT TTo (fr "len" (by decide)) (fr "range" (by decide)) (fr "isinstance" (by decide)) (fr "bool" (by decide))) (gg "_law_refuses" (by decide)) D__law_refuses.kp b__law_refuses
  exact ok_law D_law N R (gg "Round" (by decide)) TCe TPo TT TMx TTx TLw TRn TRf TWi TTr TWn TRt TFt (fr "range" (by decide)) (fr "len" (by decide)) (fr "tuple" (by decide)) (fr "isinstance" (by decide))
end K58
open PySem PySem.W PySem.Calls PyProof.Rows
theorem PySem.Challenge.cw_alsoshown_k58_windows_and_texts_holds : PySem.Challenge.rw_alsoshown_k58_windows_and_texts.Holds := by
  w_on; o_law
  refine HandSHeadRun.head_any (r := OpenLaw.row PySem.Challenge.rw_alsoshown_k58_windows_and_texts) (q := view (OpenLaw.row PySem.Challenge.rw_alsoshown_k58_windows_and_texts).prog [50]) (H := K58.hk) (ob := K58.ob) (M := 20000) (loose := K58.loose)
    (d := HandSHeadRun.topDef (OpenLaw.row PySem.Challenge.rw_alsoshown_k58_windows_and_texts).prog 50) (kwd := []) K58.ob_eq
    (by kernel_rfl) (fun s => by kernel_rfl) K58.run (by kernel_rfl) (by kernel_rfl) (by kernel_rfl) (by rfl) (by first | assumption | decide +kernel) (by decide +kernel) ⟨rfl, rfl, rfl, rfl, rfl, by decide +kernel⟩ ?hw ?hc
  case hw => w_witness2
  case hc =>
    refine L2.walk_ofE (l := PySem.Challenge.rw_alsoshown_k58_windows_and_texts) (n := 63) (k := 9) (x := "_law_script") (CX := L2.CX0) rfl (by decide) (by kernel_rfl) ⟨rfl, by decide, by decide⟩ ?F (fun _ _ _ _ z => z)
    intro w mg fa h Y G hmg0
    obtain ⟨K, KX, c⟩ := Y
    have hmg : mg ("law" : PySem.Str) = some (.ref fa) := by
      have e : (HandSHeadRun.topDef (OpenLaw.row PySem.Challenge.rw_alsoshown_k58_windows_and_texts).prog 50).name = ("law" : PySem.Str) := by kernel_rfl
      rw [← e]
      exact hmg0
    obtain ⟨fd, hb, hF⟩ := K58.facts_ok (P := (PySem.Challenge.rw_alsoshown_k58_windows_and_texts).prog) (w := w) KX G hmg c
    exact ⟨K, fd, K58.spLaw K, KX, hb, fun H a ns hl _ hS => ⟨a, ns, rfl, hS, fun _ => rfl⟩, hF⟩
#print axioms PySem.Challenge.cw_alsoshown_k58_windows_and_texts_holds
