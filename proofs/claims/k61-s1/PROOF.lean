import PyProof.Rows.All
import Wide.All
import OpenK.AllK
import Wide.FinOn
import HandS.ForMost
import HandS.ForExc
import HandS.ExcInit
import HandS.IsInst
import HandS.ExcField
import HandS.HeadHook1
import KE.KExcIs
import KE.KStateDown
import KE.KIsAll
import Lean
import HandS.Defaults
import HandS.Head0
import HandS.Head1
import HandS.Head2
import HandS.HeadEnd
import HandS.HeadHook2
import HandS.EndBits
import HandS.Wide
import HandS.Evl
import PyProof.Rows.ReprOcc
import HandS.LawCells
import HandS.Property
import HandS.CallSlots
import HandS.TupAny
import KE.KOpsOwn
import PyProof.InstNe
import KE.LtData
import KE.DataCmp
import PyProof.EqAt
import PyProof.EqKinds
import PyProof.TupleCall
import HandS.Base
import HandS.Call
import HandS.Exc
import HandS.ExcOwn
import HandS.Walk
import HandS.More
import HandS.Codes
import HandS.RevTup
import KE.KDictList
import PyProof.TupleOps
import HandS.Steps
import HandS.Dict
import HandS.Small
import HandS.WordsDict
import KE.GoesEnum
import HandS.Iter
import HandS.Text
import HandS.List
import HandS.Set
import HandS.SetFor
import HandS.Strs
import HandS.RaiseMore
import HandS.NoneIn
import PyProof.StrLawsIn
import HandS.DictComp
import PySem.Challenge.RW_alsoshown_k61_known_by_windows
set_option Elab.async false
set_option linter.all false
set_option maxRecDepth 100000
set_option maxHeartbeats 2000000
/-! Exceptions of the program as values: made by a call, kept, read, asked for their class. -/
namespace Vx
open PySem PySem.Spec PyProof.Rows L2
section
variable {X : Cx} {C fI : Addr} {k : Nat} {fd : FuncData} {ps : List Str}
variable {sp : Sp} {e : Expr} {es : List Expr} {ta : TA} {te : TE} {x f : Str}
variable {p pos : Pos}
/-- C(e, ..) for a value: the exception stays tracked -/
def tMkV (C : Addr) (sp : Sp) (ta : TA) : TE := fun st H Q =>
  ta st H fun vs H1 => vs.length ≤ 1000 ∧ ∀ a, H1 a = none →
    sp (.ref a :: vs) (upd H1 a (exo a C none))
      (fun v H2 => v = .non ∧ Q (.ref a) H2) (fun _ _ _ => False)
theorem pe_mkV (T : OexC X.K C)
    (iC : PySem.W.findIn X.K (.ref C) "__init__" = some (some (.ref fI)))
    (tI : PySem.W.typeIn X.K (.ref fI) = some (.type "function"))
    (F1 : FnOk X.prog X.w X.K X.mg X.base CX0 k fI fd ps sp)
    (hr : Room (k + 1) X.A) (hb : Binds X.K fd ps []) (hg : Gl X x)
    (hm : X.mg x = some (.ref C)) (ha : PA X (e :: es) ta)
    (hdb : (x == ("__debug__" : Str)) = false := by decide)
    (he : starEach (e :: es) X.env = (false, eval e X.env) :: starEach es X.env := by rfl)
    (hpl : (backTo pos (starEach es X.env)).any (·.1) = false := by rfl) :
    PE X (.Call (.Name x p) (e :: es) [] pos) (tMkV C sp ta) := by
  refine ⟨fun pins s σ H Q I h => ?_⟩
  obtain ⟨nm, q, N, bs, bm, sn, sub, ab, col, dd, k0, k1, k2, k3, k5, hC, hbm⟩ := T.cls
  refine wpAny_Call_Name_kw (ld_glob I hg hm ?_ hdb)
  refine PySem.W.callWith_K (h₀ := X.base) I.ok.mod.kin T.kC ?_ he hpl
  refine thn (ha.run pos pins s σ H _ I h) ?_
  rintro us s1 ⟨vs, H1, I1, r1, hz, q1⟩
  refine ⟨I1.kIn, ?_⟩
  show wpAny _ _ (call (.ref C) us) _ _ _
  obtain ⟨hp, g, dr, tk, os⟩ := s1
  let h2 : Heap := (hp.push (PySem.W.kdv_tup us)).push (PySem.HandSPX.excO C hp.objs.size)
  have hsz : hp.objs.size ≤ hp.objs.size + 1 := Nat.le_succ _
  have hn : H1 (hp.objs.size + 1) = none := I1.hok.fresh hsz
  have hq := q1 (hp.objs.size + 1) hn
  have kk : ∀ b o, hp.get? b = some o → h2.get? b = some o := by
    intro b o eb
    exact Heap.get?_push_of_some _ (Heap.get?_push_of_some _ eb)
  have hget : h2.get? (hp.objs.size + 1) = some (PySem.HandSPX.excO C hp.objs.size) := by
    show ((hp.push _).push _).get? _ = _
    heap_get
  have I2 : Inv X pins σ (upd H1 (hp.objs.size + 1) (exo (hp.objs.size + 1) C none)) ⟨h2, g, dr, tk, os⟩ :=
    Inv.laid (s := ⟨hp, g, dr, tk, os⟩) (t' := tk) I1 kk hsz (exo_ok hget)
  have r2 : Vals (V.ref (hp.objs.size + 1) :: vs) (Value.ref (hp.objs.size + 1) :: us) := .cons rfl r1
  have hl : (Value.ref (hp.objs.size + 1) :: us ++ []).length = ps.length := by
    have e1 := r2.length
    rw [F1.len _ _ _ _ hq] at e1
    rw [List.append_nil]
    exact e1.symm
  have hus : us.length ≤ sizeLine := by
    have e1 := Paired.length r1
    rw [sizeLine_eq]
    omega
  have hbb := hb ⟨h2, g, dr, tk, os⟩ (Value.ref (hp.objs.size + 1) :: us) I2.kIn hl
  rw [List.append_nil] at hbb
  have run := F1.run (X.A.under (.builtin "type.__call__" ⟨.ref C :: us, []⟩)) X.stack
    ⟨h2, g, dr, tk, os⟩ _ ⟨Value.ref (hp.objs.size + 1) :: us, []⟩
    (Value.ref (hp.objs.size + 1) :: us) _ _ (fun _ _ _ => False)
    (hr.make C us []) (I2.env0.make C us []) hbb r2 hq
  refine wpAny_call ?_
  refine PySem.HandSPX.call_own F.excBase_ValueError
    (fun Y => PySem.HandSPX.refsVE_contains Y bm hbm) (I1.kIn _ _ hC)
    (PySem.W.looks_findIn I1.kIn iC) (fun self => PySem.W.bind_fn I1.kIn self tI) hus ?_
  refine codeAny_mono run ?_
  intro r s' hq'
  cases r with
  | error er => exact (hq' : False).elim
  | ok fl =>
    cases fl with
    | ret u =>
      obtain ⟨v, H2, os2, bare2, un2, hok2, rv, ev, q2⟩ := hq'
      subst ev
      have J := I2.call' (ch := []) os2 un2 hok2 bare2 (fun b z => absurd z (by simp))
      exact ⟨rv, .ref (hp.objs.size + 1), H2, J, rfl, q2⟩
    | next => exact False.elim hq'
    | brk => exact False.elim hq'
    | cont => exact False.elim hq'
/-- C() for a value, C without an own __init__ -/
def tMkP (C : Addr) : TE := fun _ H Q => ∀ a, H a = none → Q (.ref a) (upd H a (exo a C none))
theorem pe_mkP (q : PySem.W.excIn X.K C He.veBase "ValueError.__new__" = true)
    (gC : X.mg x = some (.ref C)) (kC : PySem.W.keepIn X.K (.ref C) = true) (hg : Gl X x)
    (hdb : (x == ("__debug__" : Str)) = false := by decide) :
    PE X (.Call (.Name x p) [] [] pos) (tMkP C) := by
  refine ⟨fun pins s σ H Q I h => ?_⟩
  refine wpAny_Call_Name_kw (ld_glob I hg gC ?_ hdb)
  refine PySem.W.callWith_K0 I.kIn kC ?_
  obtain ⟨bm, N, nm, qn, bs, hdct, sn, sub, ab, col, dd, k0, k1, k2, k3, k5, mN, hC, hN, hni, T⟩ := exc_obj I.kIn q
  obtain ⟨hp, g, dr, tk, os⟩ := s
  refine wpAny_call_exc_subT PySem.F.excBase_ValueError T hC hN hni (fun h' a hm => ?_) (by show 0 ≤ sizeLine; omega)
  have hn : H a = none := I.hok.gone hm.new
  obtain ⟨t, ht, _, _⟩ := hm.there
  refine ⟨.ref a, upd H a (exo a C none), ?_, rfl, h a hn⟩
  have un : Un X.fs [] H (upd H a (exo a C none)) hp h' := {
    keep := fun b u y _ _ _ => hm.keeps b u y
    slot := fun b u y _ _ _ => ⟨u.slots, hm.keeps b u y⟩
    free := fun b u y n _ => by
      rw [upd_ne (fun z => by rw [z, hm.new] at y; cases y)]
      exact n
    there := fun b u y _ => ⟨u, hm.keeps b u y⟩
    tups := fun b xs y => by rw [upd_ne (ne_of_none y hn)]; exact y
    frzs := fun b u xs y => by rw [upd_ne (ne_of_none y hn)]; exact y
    tbls := fun b ps y => ⟨#[], by rw [upd_ne (ne_of_none y hn), y]; simp⟩ }
  refine I.un (t' := tk) un ?_
  intro b u e
  by_cases hb : b = a
  · subst hb
    rw [upd_same] at e
    cases e
    exact exo_ok ht
  · rw [upd_ne hb] at e
    refine (I.hok b u e).stay (fun c v _ y => hm.keeps c v y) (fun c y => ?_) (fun c xs y => ?_)
    · rw [upd_ne (ne_of_none y hn)]; exact y
    · rw [upd_ne (ne_of_none y hn)]; exact y
/-- e.f, e an exception that is kept -/
def tXv (K : PySem.W.Frag) (f : Str) (te : TE) : TE := fun st H Q => te st H fun x H1 =>
  ∃ (a C d : Addr) (fs : List (Str × V)) (v : V), x = .ref a ∧ XfC K C ∧
    PySem.W.findIn K (.ref C) f = some none ∧ H1 a = some (exo a C (some d)) ∧
    H1 d = some (exd d fs) ∧ fs.lookup f = some v ∧ Q v H1
theorem inst_of {P : Program} {w : World} {H : Hp} {h : Heap} {a C : Addr}
    (hok : HOk P w H h) (e : H a = some (exo a C none)) :
    ∃ ob, PySem.W.InstAt h a ob C none := by
  obtain ⟨t1, ho⟩ := exo_at hok e
  exact ⟨_, ho, rfl, rfl, trivial⟩
theorem inst_of2 {P : Program} {w : World} {H : Hp} {h : Heap} {a C d : Addr} {fs : List (Str × V)}
    (hok : HOk P w H h) (e : H a = some (exo a C (some d))) (ed : H d = some (exd d fs)) :
    ∃ ob od, PySem.W.InstAt h a ob C (some od) ∧ h.get? d = some od := by
  obtain ⟨t1, ho⟩ := exo_at hok e
  obtain ⟨mA, hns, rel⟩ := exd_at hok ed
  obtain ⟨od, es, ep, hd, hr⟩ := hns
  exact ⟨_, od, ⟨ho, rfl, rfl, hd⟩, hd⟩
theorem pe_xv (he : PE X e te)
    (hb : attributeBase e f X.env (eval e X.env) = eval e X.env := by rfl) :
    PE X (.Attribute e f pos) (tXv X.K f te) := by
  refine ⟨fun pins s σ H Q I h => ?_⟩
  refine attr_of hb (thn (he.run pins s σ H _ I h) fun u s1 hh => ?_)
  obtain ⟨y, H1, I1, rx, a, C, d, fs, v, ex, T, hno, ea, ed, l, q⟩ := hh
  subst ex
  obtain rfl : u = Value.ref a := rx
  obtain ⟨t1, ho⟩ := exo_at I1.hok ea
  obtain ⟨mA, hns, rel⟩ := exd_at I1.hok ed
  obtain ⟨od, hd, hl⟩ := lookIn_ns hns
  have e1 : RelO (some v) (mA f) := by
    rw [← l]
    exact rel f
  obtain ⟨u2, hu, ru⟩ := RelO.some_of e1
  have J : PySem.W.InstAt s1.heap a _ C (some od) := ⟨ho, rfl, rfl, hd⟩
  exact HandSPX.exc_get I1.kIn J T.ga T.gg T.exC (PySem.W.findObj_own T.hdC hno rfl (by rw [hl, hu])) (handed_of ru) ⟨v, H1, I1.tok _, ru, q⟩
/-- what a class of errors must say so that isinstance is answered -/
structure IsC (K : PySem.W.Frag) (C : Addr) : Prop where
  hc : (PySem.W.clsIn K C).isSome = true
  hg : PySem.W.findIn K (.ref C) "__getattribute__" = some (some (.builtin "BaseException.__getattribute__"))
  hk : PySem.W.findIn K (.ref C) "__getattr__" = some none
  hs : PySem.W.subIn K (.ref C) (.type "BaseException") = some true
  ha : PySem.W.findIn K (.ref C) "__class__" = some (some (.builtin "object.__class__"))
  hn : PySem.W.specialIn K (.builtin "object.__class__") "__get__" = some (some (.builtin "getset_descriptor.__get__"))
  ht : PySem.W.takesIn K (.builtin "object.__class__") = some true
  hm : PySem.W.mroIn K C (.type "object") = some true
/-- at a stands an exception of the class at C -/
def ExAt (H : Hp) (a C : Addr) : Prop :=
  H a = some (exo a C none) ∨ ∃ d fs, H a = some (exo a C (some d)) ∧ H d = some (exd d fs)
def rIsV (K : PySem.W.Frag) : List V → Hp → VK → Prop := fun xs H Q =>
  ∃ (a C : Addr) (c : V) (cv : Value) (b : Bool), xs = [.ref a, c] ∧ (∀ u, RelV c u → u = cv) ∧
    ExAt H a C ∧ IsC K C ∧ PySem.W.kitOne K (.ref C) cv = some b ∧ Q (.bl b) H
theorem call_isV : CallR X (.builtin "isinstance") (rIsV X.K) := by
  intro pins s σ H xs us Q I r h
  obtain ⟨a, C, c, cv, b, rfl, hcv, ex, T, e1, q⟩ := h
  obtain ⟨u1, u2, rfl, r1, r2⟩ := vals2 r
  obtain rfl := hcv _ r2
  obtain rfl : u1 = Value.ref a := r1
  have done : ∀ tk, EP X pins σ Q (.bool b) { s with toks := tk } := fun tk => ⟨.bl b, H, I.tok tk, rfl, q⟩
  rcases ex with ex | ⟨d, fs, ex, ed⟩
  · obtain ⟨ob, J⟩ := inst_of I.hok ex
    exact PySem.W.kia_one (PySem.W.kitx_exc T.hc T.hg T.hk T.hs T.ha T.hn T.ht T.hm) I.kIn J e1 (fun z => nomatch z) done
  · obtain ⟨ob, od, J, _⟩ := inst_of2 I.hok ex ed
    exact PySem.W.kia_one (PySem.W.kitx_exc T.hc T.hg T.hk T.hs T.ha T.hn T.ht T.hm) I.kIn J e1 (fun z => nomatch z) done
end
end Vx

set_option Elab.async false
set_option linter.all false
set_option maxRecDepth 100000
set_option maxHeartbeats 2000000
/-! The head: facts by one Bool of the written part, defs by data. -/
namespace Vh
open PySem PySem.Spec PyProof.Rows L2
abbrev Fg := PySem.W.Frag
def obsB (f : Fg → Bool) (fn : List He.DefD) (K : Fg) : He.AlD :=
  (f K && fn.all fun d => d.ok K, fn.map fun d => He.fnW K d.at_)
def SaysB (f : Fg → Bool) (fn : List He.DefD) (K : Fg) : Prop := obsB f fn K = He.valD fn
def obsBG (n : Nat) (f : Fg → Bool) (fn : List He.DefD) (g : Addr → Option Obj) : He.AlD :=
  obsB f fn (He.frG g (He.asD g n))
def hookB (n : Nat) (f : Fg → Bool) (fn : List He.DefD) : PySem.W.Hook where
  α := He.AlD
  obs := fun s => obsBG n f fn s.heap.get?
  val := fun _ => He.valD fn
  says := fun _ h => ∃ K : Fg, K.In h ∧ SaysB f fn K
  of := fun _ _ e => ⟨_, He.frG_in, e⟩
  keeps := fun _ _ _ ⟨K, hK, c⟩ k => ⟨K, PySem.W.Frag.In.keeps hK k, c⟩
theorem obsBG_eq {n : Nat} {f : Fg → Bool} {fn : List He.DefD} {g : Addr → Option Obj} {s : Shared}
    (h : ∀ a, g a = s.heap.get? a) : obsBG n f fn g = (hookB n f fn).obs s := by
  have e : g = s.heap.get? := funext h
  rw [e] <;> rfl
section
variable {f : Fg → Bool} {fn : List He.DefD} {K : Fg}
theorem SaysB.fact (c : SaysB f fn K) : f K = true :=
  (He.ba (show (f K && fn.all fun d => d.ok K) = true from congrArg (fun z : He.AlD => z.1) c)).1
theorem SaysB.def_ (c : SaysB f fn K) (i : Nat) {d : He.DefD} (h : fn[i]? = some d := by rfl) :
    ∃ fd, FunD K d.name d.qual d.params d.body d.scope (d.dvs K) (d.kws K) (He.fAd K d.at_) fd := by
  have c2 := (He.ba (show (f K && fn.all fun d => d.ok K) = true from congrArg (fun z : He.AlD => z.1) c)).2
  have e : fn.map (fun d => He.fnW K d.at_) = fn.map He.DefD.val := congrArg (fun z : He.AlD => z.2) c
  have e2 : (fn.map fun d => He.fnW K d.at_)[i]? = (fn.map He.DefD.val)[i]? := by rw [e]
  rw [List.getElem?_map, List.getElem?_map, h] at e2
  exact He.DefD.funD (Option.some.inj e2) (List.all_eq_true.mp c2 d (List.mem_of_getElem? h))
end
/-- a def of the top, a method of a class of the top -/
def gD (st : Stmt) (x : Str) : He.DefD := ⟨(x, none), x, x, defArgs st, defBody st, defScope st, [], []⟩
def mD (st : Stmt) (c m q : Str) : He.DefD := ⟨(c, some m), m, q, defArgs st, defBody st, defScope st, [], []⟩
/-! the errors' classes -/
def headB (K : Fg) (C : Addr) (bm : List Value) (sl : List (Option Value)) (cd : ClassData) : Bool :=
  match sl with
  | [_, _, _, _, some (.builtin n), _] =>
    n == "ValueError.__new__" && (!cd.hasDel && (cd.hasDict && PySem.HandSPX.refsVE bm))
  | _ => false
def oexB (K : Fg) (C : Addr) : Bool :=
  match K.lookup C with
  | some ⟨.type "type", _, .cls cd, sl⟩ => (match cd.mro with
    | .ref D :: bm => D == C && headB K C bm sl.toList cd
    | _ => false)
  | _ => false
theorem oexB_ok {K : Fg} {C : Addr} (h : oexB K C = true) :
    ∃ nm q N bs bm sn sub ab col dd k0 k1 k2 k3 k5,
      K.lookup C = some (excClassObj nm q C N bs bm true sn sub ab col dd k0 k1 k2 k3 k5 "ValueError.__new__") ∧
        PySem.HandSPX.refsVE bm = true := by
  unfold oexB at h
  split at h
  · rename_i dd cd sl ho
    split at h
    · rename_i D bm hm
      obtain ⟨h1, h2⟩ := He.ba h
      unfold headB at h2
      split at h2
      · rename_i k0 k1 k2 k3 n k5 hs
        simp only [Bool.and_eq_true, beq_iff_eq, Bool.not_eq_true'] at h1 h2
        obtain ⟨h3, h4, h5, h6⟩ := h2
        subst h1 h3
        obtain ⟨nm, bs, mro, ns, qn, hd, sn, sub, ab, col, del⟩ := cd
        dsimp only at hm h4 h5
        subst hm h4 h5
        obtain ⟨l⟩ := sl
        dsimp only at hs
        subst hs
        exact ⟨nm, qn, ns, bs, bm, sn, sub, ab, col, dd, k0, k1, k2, k3, k5, ho, h6⟩
      · cases h2
    · cases h
  · cases h
/-- all that is asked of a class of errors -/
def errB (K : Fg) (C : Addr) : Bool :=
  oexB K C && (He.eqO (PySem.W.findIn K (.ref C) "__setattr__") (some (some (.builtin "object.__setattr__"))) &&
   (decide (PySem.W.subIn K (.ref C) (.type "BaseException") = some true) &&
   (decide (PySem.W.typeIn K (.ref C) = some (.type "type")) && (PySem.W.keepIn K (.ref C) && (xfB K C &&
   (He.eqO (PySem.W.findIn K (.ref C) "__class__") (some (some (.builtin "object.__class__"))) &&
    decide (PySem.W.mroIn K C (.type "object") = some true)))))))
def takB (K : Fg) : Bool :=
  He.eqO (PySem.W.specialIn K (.builtin "object.__class__") "__get__") (some (some (.builtin "getset_descriptor.__get__"))) &&
    decide (PySem.W.takesIn K (.builtin "object.__class__") = some true)
theorem errB_ok {K : Fg} {C : Addr} (h : errB K C = true) (hk : takB K = true) : OexC K C ∧ XfC K C ∧ Vx.IsC K C := by
  obtain ⟨h1, h⟩ := He.ba h
  obtain ⟨h2, h⟩ := He.ba h
  obtain ⟨h3, h⟩ := He.ba h
  obtain ⟨h4, h⟩ := He.ba h
  obtain ⟨h5, h⟩ := He.ba h
  obtain ⟨h6, h⟩ := He.ba h
  obtain ⟨h7, h8⟩ := He.ba h
  obtain ⟨k1, k2⟩ := He.ba hk
  have X := xfB_ok h6
  have c := oexB_ok h1
  refine ⟨⟨c, He.eqO_ok h2, of_decide_eq_true h3, of_decide_eq_true h4, h5⟩, X, ?_⟩
  refine ⟨?_, X.ga, X.gg, X.exC, He.eqO_ok h7, He.eqO_ok k1, of_decide_eq_true k2, of_decide_eq_true h8⟩
  obtain ⟨nm, q, N, bs, bm, sn, sub, ab, col, dd, k0, k1, k2, k3, k5, hC, hbm⟩ := c
  unfold PySem.W.clsIn
  rw [hC]
  rfl
/-- its own __init__ at f1, no field named f in the class -/
def iniB (K : Fg) (C : Addr) (fs : List Str) : Bool :=
  He.eqO (PySem.W.findIn K (.ref C) "__init__") (some (some (.ref (He.ma K C "__init__")))) &&
  (decide (PySem.W.typeIn K (.ref (He.ma K C "__init__")) = some (.type "function")) &&
   fs.all fun f => He.eqO (PySem.W.findIn K (.ref C) f) (some none))
structure Ini (K : Fg) (C : Addr) (fs : List Str) : Prop where
  iC : PySem.W.findIn K (.ref C) "__init__" = some (some (.ref (He.ma K C "__init__")))
  tI : PySem.W.typeIn K (.ref (He.ma K C "__init__")) = some (.type "function")
  no : ∀ f ∈ fs, PySem.W.findIn K (.ref C) f = some none
theorem iniB_ok {K : Fg} {C : Addr} {fs : List Str} (h : iniB K C fs = true) : Ini K C fs := by
  obtain ⟨h1, h⟩ := He.ba h
  obtain ⟨h2, h3⟩ := He.ba h
  exact ⟨He.eqO_ok h1, of_decide_eq_true h2, fun f hf => He.eqO_ok (List.all_eq_true.mp h3 f hf)⟩
end Vh

set_option Elab.async false
set_option linter.all false
set_option maxRecDepth 100000
set_option maxHeartbeats 2000000
/-! The head, with the getters of properties. -/
namespace Vh
open PySem PySem.Spec PyProof.Rows L2
/-- the getter of the property f of the class named c -/
def pgA (K : Fg) (c f : Str) : Addr := match PySem.W.recIn K (He.ma K (He.ga K c) f) "property" with
  | some (.ref g :: _) => g
  | _ => 0
def fnX (K : Fg) (a : Addr) : He.FnW := match K.lookup a with
  | some ⟨_, _, .func x, _⟩ => some (x.name, x.qualname, x.params, x.body, x.scope, x.globals, x.closure, x.builtins)
  | _ => none
def okX (K : Fg) (a : Addr) (q : Str) : Bool := PySem.W.keepIn K (.ref a) && (match K.lookup a with
  | some ⟨_, _, .func x, _⟩ => PySem.W.codeIn K x.code q && (He.dflB K x.defaults [] && He.kwdB K x.kwdefaults [])
  | _ => false)
theorem funX {K : Fg} {a : Addr} {d : He.DefD} (e : fnX K a = d.val) (c : okX K a d.qual = true) : ∃ fd, FunD K d.name d.qual d.params d.body d.scope [] [] a fd := by
  obtain ⟨kp, c2⟩ := He.ba c
  unfold fnX at e
  cases q : K.lookup a with
  | none =>
    rw [q] at c2
    cases c2
  | some o =>
    obtain ⟨w1, w2, w3, w4⟩ := o
    rw [q] at c2 e
    cases w3 with
    | func x =>
      obtain ⟨n1, n2, n3, n4, n5, n6, n7, n8, n9, n10, n11, n12, n13, n14, n15⟩ := x
      have e3 : (some (n1, n2, n3, n4, n5, n6, n7, n15) : He.FnW) = some (d.name, d.qual, d.params, .stmts d.body, d.scope, mainGlobals, [], builtinsNs) := e
      injection e3 with e3
      injection e3 with h1 e3
      injection e3 with h2 e3
      injection e3 with h3 e3
      injection e3 with h4 e3
      injection e3 with h5 e3
      injection e3 with h6 e3
      injection e3 with h7 h8
      subst h1 h2 h3 h4 h5 h6 h7 h8
      have c4 : (PySem.W.codeIn K n13 d.qual && (He.dflB K n8 [] && He.kwdB K n9 [])) = true := c2
      obtain ⟨g1, g2⟩ := He.ba c4
      obtain ⟨g3, g4⟩ := He.ba g2
      exact ⟨_, ⟨w1, w2, n8, n9, n10, n11, n12, n13, n14, w4, rfl, q, g1, He.dflB_ok g3, He.kwdB_ok g4⟩, kp⟩
    | _ => cases c2
abbrev PrD : Type := (Str × Str) × He.DefD
def obsP (f : Fg → Bool) (fn : List He.DefD) (pr : List PrD) (K : Fg) : He.AlD :=
  (f K && (fn.all (fun d => d.ok K) && pr.all fun q => okX K (pgA K q.1.1 q.1.2) q.2.qual), fn.map (fun d => He.fnW K d.at_) ++ pr.map fun q => fnX K (pgA K q.1.1 q.1.2))
def valP (fn : List He.DefD) (pr : List PrD) : He.AlD := (true, fn.map He.DefD.val ++ pr.map fun q => q.2.val)
def SaysP (f : Fg → Bool) (fn : List He.DefD) (pr : List PrD) (K : Fg) : Prop := obsP f fn pr K = valP fn pr
def obsPG (n : Nat) (f : Fg → Bool) (fn : List He.DefD) (pr : List PrD) (g : Addr → Option Obj) : He.AlD :=
  obsP f fn pr (He.frG g (He.asD g n))
def hookP (n : Nat) (f : Fg → Bool) (fn : List He.DefD) (pr : List PrD) : PySem.W.Hook where
  α := He.AlD
  obs := fun t => obsPG n f fn pr t.heap.get?
  val := fun _ => valP fn pr
  says := fun _ h => ∃ K : Fg, K.In h ∧ SaysP f fn pr K
  of := fun _ _ e => ⟨_, He.frG_in, e⟩
  keeps := fun _ _ _ ⟨K, hK, c⟩ k => ⟨K, PySem.W.Frag.In.keeps hK k, c⟩
theorem obsPG_eq {n : Nat} {f : Fg → Bool} {fn : List He.DefD} {pr : List PrD} {g : Addr → Option Obj} {t : Shared}
    (h : ∀ a, g a = t.heap.get? a) : obsPG n f fn pr g = (hookP n f fn pr).obs t := by
  have e : g = t.heap.get? := funext h
  rw [e] <;> rfl
section
variable {f : Fg → Bool} {fn : List He.DefD} {pr : List PrD} {K : Fg}
theorem SaysP.one (c : SaysP f fn pr K) : f K = true ∧ (∀ d ∈ fn, d.ok K = true) ∧ ∀ q ∈ pr, okX K (pgA K q.1.1 q.1.2) q.2.qual = true := by
  obtain ⟨h1, h2⟩ := He.ba (show (f K && (fn.all (fun d => d.ok K) && pr.all fun q => okX K (pgA K q.1.1 q.1.2) q.2.qual)) = true from congrArg (fun z : He.AlD => z.1) c)
  obtain ⟨h3, h4⟩ := He.ba h2
  exact ⟨h1, List.all_eq_true.mp h3, List.all_eq_true.mp h4⟩
theorem SaysP.two (c : SaysP f fn pr K) : fn.map (fun d => He.fnW K d.at_) = fn.map He.DefD.val ∧ pr.map (fun q => fnX K (pgA K q.1.1 q.1.2)) = pr.map fun q => q.2.val := by
  have e : fn.map (fun d => He.fnW K d.at_) ++ pr.map (fun q => fnX K (pgA K q.1.1 q.1.2)) = fn.map He.DefD.val ++ pr.map fun q => q.2.val := congrArg (fun z : He.AlD => z.2) c
  exact List.append_inj e (by rw [List.length_map, List.length_map])
theorem SaysP.def_ (c : SaysP f fn pr K) (i : Nat) {d : He.DefD} (h : fn[i]? = some d := by rfl) :
    ∃ fd, FunD K d.name d.qual d.params d.body d.scope (d.dvs K) (d.kws K) (He.fAd K d.at_) fd := by
  have e2 : (fn.map fun d => He.fnW K d.at_)[i]? = (fn.map He.DefD.val)[i]? := by rw [c.two.1]
  rw [List.getElem?_map, List.getElem?_map, h] at e2
  exact He.DefD.funD (Option.some.inj e2) (c.one.2.1 d (List.mem_of_getElem? h))
theorem SaysP.prp (c : SaysP f fn pr K) (i : Nat) {q : PrD} (h : pr[i]? = some q := by rfl) :
    ∃ fd, FunD K q.2.name q.2.qual q.2.params q.2.body q.2.scope [] [] (pgA K q.1.1 q.1.2) fd := by
  have e2 : (pr.map fun q => fnX K (pgA K q.1.1 q.1.2))[i]? = (pr.map fun q => q.2.val)[i]? := by rw [c.two.2]
  rw [List.getElem?_map, List.getElem?_map, h] at e2
  exact funX (Option.some.inj e2) (c.one.2.2 q (List.mem_of_getElem? h))
end
end Vh

set_option Elab.async false
set_option linter.all false
set_option maxRecDepth 100000
set_option maxHeartbeats 2000000
namespace Vl
open PySem PySem.Spec PyProof.Rows L2
theorem pe_weak {X : Cx} {e : Expr} {t t' : TE} (h : PE X e t) (w : ∀ s H Q, t' s H Q → t s H Q) : PE X e t' :=
  ⟨fun pins s σ H Q I q => h.run pins s σ H Q I (w σ H Q q)⟩
theorem pa_weak {X : Cx} {es : List Expr} {t t' : TA} (h : PA X es t) (w : ∀ s H Q, t' s H Q → t s H Q) : PA X es t' :=
  ⟨fun pos pins s σ H Q I q => h.run pos pins s σ H Q I (w σ H Q q)⟩
theorem s_seq {t u : TS} {D : Ends} {st : L2.St} {H : Hp} (h : t { D with nx := u D } st H) : tSeq t u D st H := h
def tMono (te : TE) : TE := fun s H Q => ∃ R : VK, te s H R ∧ ∀ v H1, R v H1 → Q v H1
theorem pe_mono {X : Cx} {e : Expr} {t : TE} (h : PE X e t) : PE X e (tMono t) :=
  ⟨fun pins s σ H Q I ⟨R, q, w⟩ => thn (h.run pins s σ H R I q) fun _ _ ⟨v, H1, I1, r, k⟩ => ⟨v, H1, I1, r, w v H1 k⟩⟩
theorem same_upd {H : Hp} {p : Addr} {o : HO} (h : H p = none) : Same H (upd H p o) := by
  intro b x e
  rw [upd_ne (ne_of_none e h)]
  exact e
theorem same_sqt {K : PySem.W.Frag} {H H' : Hp} {a : Addr} {xs : List V} (e : Same H H') (h : SqT K H a xs) : SqT K H' a xs := by
  rcases h with (h | ⟨o, h⟩) | h
  · exact .inl (.inl (e _ _ h))
  · exact .inl (.inr ⟨o, e _ _ h⟩)
  · exact .inr h
mutual
theorem dp_same {K : PySem.W.Frag} {H H' : Hp} (e : Same H H') : ∀ {v : V} {d : PyData}, Dp K H v d → Dp K H' v d
  | _, _, .non => .non
  | _, _, .bl b => .bl b
  | _, _, .int i => .int i
  | _, _, .str x => .str x
  | _, _, .lst h hs => .lst (e.seq h) (dpa_same e hs)
  | _, _, .tup h hs => .tup (same_sqt e h) (dpa_same e hs)
theorem dpa_same {K : PySem.W.Frag} {H H' : Hp} (e : Same H H') : ∀ {v : List V} {d : List PyData}, DpAll K H v d → DpAll K H' v d
  | _, _, .nil => .nil
  | _, _, .cons h hs => .cons (dp_same e h) (dpa_same e hs)
end
theorem dpa_rep {K : PySem.W.Frag} {H : Hp} {v : V} {d : PyData} (h : Dp K H v d) : ∀ n, DpAll K H (List.replicate n v) (List.replicate n d)
  | 0 => .nil
  | n + 1 => .cons h (dpa_rep h n)
theorem dpa_bl {K : PySem.W.Frag} {H : Hp} : ∀ bs : List Bool, DpAll K H (bs.map V.bl) (bs.map PyData.bool)
  | [] => .nil
  | b :: r => .cons (.bl b) (dpa_bl r)
/-- data that may be compared -/
def Low (d : PyData) : Prop := d.canLay0 = true ∧ d.depth ≤ 10
theorem low_rep {d : PyData} (h : Low d) : ∀ n, PyData.canLayAll0 (List.replicate n d) = true ∧ PyData.depthAll (List.replicate n d) ≤ 10
  | 0 => ⟨rfl, by show 0 ≤ 10; omega⟩
  | n + 1 => by
    obtain ⟨h1, h2⟩ := low_rep h n
    rw [List.replicate_succ]
    refine ⟨?_, ?_⟩
    · show (d.canLay0 && PyData.canLayAll0 (List.replicate n d)) = true
      rw [h.1, h1]
      rfl
    · show max d.depth (PyData.depthAll (List.replicate n d)) ≤ 10
      exact Nat.max_le.mpr ⟨h.2, h2⟩
theorem shaped_of {d : PyData} (h1 : d.canLay0 = true) (h2 : d.depth ≤ 64) : SeqAt.shaped d = true := by
  unfold SeqAt.shaped
  rw [h1, decide_eq_true h2]
  rfl
theorem low_bl : ∀ bs : List Bool, PyData.canLayAll0 (bs.map PyData.bool) = true ∧ PyData.depthAll (bs.map PyData.bool) = 0
  | [] => ⟨rfl, rfl⟩
  | b :: r => by
    obtain ⟨h1, h2⟩ := low_bl r
    refine ⟨?_, ?_⟩
    · show (true && PyData.canLayAll0 (r.map PyData.bool)) = true
      rw [h1]
      rfl
    · show max 0 (PyData.depthAll (r.map PyData.bool)) = 0
      rw [h2]
      rfl
theorem eqv_same {d : PyData} (h : d.canLay0 = true) : PyData.eqv d d = true := SeqAt.eqv_refl d h
theorem strOk_of (s : String) : PyData.strOk (Str.ofString s) = true := by
  unfold PyData.strOk
  rw [← Array.all_toList, PyProof.Rows.signs_ofString, List.all_eq_true]
  intro c hc
  obtain ⟨x, _, rfl⟩ := List.mem_map.mp hc
  refine decide_eq_true ?_
  have h := x.valid
  have : x.toNat = x.val.toNat := rfl
  rcases h with h | ⟨_, h⟩
  · rw [this]; exact Nat.lt_trans h (by decide)
  · rw [this]; exact h
theorem strOk_app {a b : Str} (ha : PyData.strOk a = true) (hb : PyData.strOk b = true) : PyData.strOk (a ++ b) = true := by
  unfold PyData.strOk at *
  show ((a.cps ++ b.cps).all _) = true
  rw [Array.all_append, ha, hb]
  rfl
def EvP (te : TE) (st : L2.St) (H : Hp) (P : V → Hp → Prop) : Prop :=
  ∀ H1, Evl.Ex H H1 → ∀ Q : VK, (∀ x H2, Evl.Ex H1 H2 → P x H2 → Q x H2) → te st H1 Q
def EvAP (ta : TA) (st : L2.St) (H : Hp) (P : List V → Hp → Prop) : Prop :=
  ∀ H1, Evl.Ex H H1 → ∀ Q : List V → Hp → Prop, (∀ x H2, Evl.Ex H1 H2 → P x H2 → Q x H2) → ta st H1 Q
theorem eap_nil {st : L2.St} {H : Hp} : EvAP tNil st H (fun xs _ => xs = []) :=
  fun H1 _ Q q => q [] H1 (Evl.Ex.refl H1) rfl
theorem eap_cons {te : TE} {tr : TA} {st : L2.St} {H : Hp} {P : V → Hp → Prop} {R : List V → Hp → Prop}
    (h : EvP te st H P) (hr : EvAP tr st H R) (mono : ∀ x H1 H2, Evl.Ex H1 H2 → P x H1 → P x H2) :
    EvAP (tCons te tr) st H (fun vs H1 => ∃ x xs, vs = x :: xs ∧ P x H1 ∧ R xs H1) := by
  intro H1 e Q q
  refine h H1 e _ fun x H2 e2 p => ?_
  refine hr H2 (e.trans e2) _ fun xs H3 e3 r => ?_
  exact q _ H3 (e2.trans e3) ⟨x, xs, rfl, mono x H2 H3 e3 p, r⟩
/-- an error: its class at C, its only field f holding v -/
def ErrV (H : Hp) (a C : Addr) (f : Str) (v : V) : Prop :=
  ∃ d, H a = some (exo a C (some d)) ∧ H d = some (exd d [(f, v)])
theorem ErrV.mono {H H' : Hp} {a C : Addr} {f : Str} {v : V} (e : Evl.Ex H H') (h : ErrV H a C f v) : ErrV H' a C f v := by
  obtain ⟨d, h1, h2⟩ := h
  exact ⟨d, e _ _ h1, e _ _ h2⟩
theorem ErrV.at_ {H : Hp} {a C : Addr} {f : Str} {v : V} (h : ErrV H a C f v) : Vx.ExAt H a C := by
  obtain ⟨d, h1, h2⟩ := h
  exact .inr ⟨d, _, h1, h2⟩
theorem exAt_mono {H H' : Hp} {a C : Addr} (e : Evl.Ex H H') (h : Vx.ExAt H a C) : Vx.ExAt H' a C := by
  rcases h with h | ⟨d, fs, h1, h2⟩
  · exact .inl (e _ _ h)
  · exact .inr ⟨d, fs, e _ _ h1, e _ _ h2⟩
def Errs (v : V) : List (Addr × Str) → List V → Hp → Prop
  | [], xs, _ => xs = []
  | (C, f) :: r, xs, H => ∃ a ys, xs = .ref a :: ys ∧ ErrV H a C f v ∧ Errs v r ys H
theorem Errs.mono {v : V} {H H' : Hp} (e : Evl.Ex H H') : ∀ {l : List (Addr × Str)} {xs : List V}, Errs v l xs H → Errs v l xs H'
  | [], _, h => h
  | (C, f) :: r, _, h => by
    obtain ⟨a, ys, h1, h2, h3⟩ := h
    exact ⟨a, ys, h1, h2.mono e, Errs.mono e h3⟩
theorem Errs.len {v : V} {H : Hp} : ∀ {l : List (Addr × Str)} {xs : List V}, Errs v l xs H → xs.length = l.length
  | [], _, h => by
    rw [show _ = [] from h]
    rfl
  | (C, f) :: r, _, h => by
    obtain ⟨a, ys, h1, h2, h3⟩ := h
    rw [h1, List.length_cons, List.length_cons, Errs.len h3]
theorem Errs.app {v : V} {H : Hp} : ∀ {l m : List (Addr × Str)} {xs ys : List V}, Errs v l xs H → Errs v m ys H → Errs v (l ++ m) (xs ++ ys) H
  | [], m, xs, ys, h, h' => by
    rw [show xs = [] from h]
    exact h'
  | (C, f) :: r, m, xs, ys, h, h' => by
    obtain ⟨a, zs, h1, h2, h3⟩ := h
    rw [h1]
    exact ⟨a, zs ++ ys, rfl, h2, Errs.app h3 h'⟩
theorem Errs.get {v : V} {H : Hp} : ∀ {l : List (Addr × Str)} {xs : List V} {i : Nat} {x : V}, Errs v l xs H → xs[i]? = some x →
    ∃ C f a, l[i]? = some (C, f) ∧ x = .ref a ∧ ErrV H a C f v
  | [], xs, i, x, h, hi => by
    rw [show xs = [] from h] at hi
    cases hi
  | (C, f) :: r, xs, 0, x, h, hi => by
    obtain ⟨a, ys, h1, h2, h3⟩ := h
    rw [h1] at hi
    have e : V.ref a = x := Option.some.inj hi
    exact ⟨C, f, a, rfl, e.symm, h2⟩
  | (C, f) :: r, xs, i + 1, x, h, hi => by
    obtain ⟨a, ys, h1, h2, h3⟩ := h
    rw [h1] at hi
    exact Errs.get (i := i) h3 hi
theorem given_rep (v : V) : ∀ n, Evl.given n (fun _ => true) (fun _ => v) = List.replicate n v := by
  intro n
  induction n with
  | zero => rfl
  | succ n ih =>
    rw [Evl.given_yes rfl, ih, ← List.replicate_succ']
/-- __init__(self, f): self.f = f -/
def spIni (C : Addr) (f : Str) : Sp := fun vs H Q _ => ∃ (a : Addr) (v : V), vs = [.ref a, v] ∧ H a = some (exo a C none) ∧
  ∀ dx, H dx = none → dx ≠ a → Q .non (upd (upd H dx (exd dx [(f, v)])) a (exo a C (some dx)))
section
variable {P : Program} {w : World} {K : PySem.W.Frag} {mg : Str → Option Value} {base : Heap}
theorem ok_ini1 {f qual : Str} {pa : Arguments} {bd : List Stmt} {sc : Scope} {fI C : Addr} {fd : FuncData} {p1 p2 p3 p4 : Pos}
    (F : FunD K "__init__" qual pa bd sc [] [] fI fd) (S : FnScope ["self", f] ["self", f] sc)
    (hb : bd = [.Assign [.Attribute (.Name "self" p1) f p2] (.Name f p3) p4]) (T : OexC K C)
    (no : PySem.W.findIn K (.ref C) f = some none) (hd : (f == ("__debug__" : Str)) = false)
    (hc : (f == ("__classdict__" : Str)) = false) : FnOk P w K mg base CX0 1 fI fd ["self", f] (spIni C f) := by
  refine F.ok (CX := CX0) S (fun vs H Q E h => ?_) (fun cdv A outer s H vs Q E hr h => ?_)
  · obtain ⟨a, v, rfl, _⟩ := h
    rfl
  · rw [hb]
    have v0 := vis_par S (x := "self") List.mem_cons_self
    have v1 := vis_par S (x := f) (List.mem_cons_of_mem _ List.mem_cons_self)
    refine ⟨_, (pss_one (ps_ost (pe_var (i := 0) rfl v0) (pe_var (i := 1) rfl v1 hd hc))), ?_⟩
    obtain ⟨a, v, rfl, ha, q⟩ := h
    exact ⟨v, rfl, .ref a, rfl, a, C, rfl, T, no, .inl ⟨ha, fun dx h1 h2 => q dx h1 h2⟩⟩
end
section
variable {X : Cx} {C fI : Addr} {k : Nat} {fd : FuncData} {e : Expr} {te : TE} {x f : Str} {p pos : Pos}
def tErr (C : Addr) (f : Str) (te : TE) : TE := fun st H Q => te st H fun v H1 =>
  ∀ a H2, H1 a = none → Same H1 H2 → ErrV H2 a C f v → Q (.ref a) H2
theorem pe_err (T : OexC X.K C)
    (iC : PySem.W.findIn X.K (.ref C) "__init__" = some (some (.ref fI)))
    (tI : PySem.W.typeIn X.K (.ref fI) = some (.type "function"))
    (F1 : FnOk X.prog X.w X.K X.mg X.base CX0 k fI fd ["self", f] (spIni C f))
    (hr : Room (k + 1) X.A) (hb : Binds X.K fd ["self", f] []) (hg : Gl X x)
    (hm : X.mg x = some (.ref C)) (ha : PE X e te)
    (hdb : (x == ("__debug__" : Str)) = false := by decide)
    (hs : starEach [e] X.env = (false, eval e X.env) :: starEach [] X.env := by rfl) :
    PE X (.Call (.Name x p) [e] [] pos) (tErr C f te) := by
  have ha2 : PE X e (tMono te) := pe_mono ha
  refine pe_weak (Vx.pe_mkV T iC tI F1 hr hb hg hm (pa_cons ha2 pa_nil hs) hdb hs (by rfl)) ?_
  intro st H Q h
  refine ⟨_, h, fun v H1 q => ⟨by show 1 ≤ 1000; omega, fun a na => ?_⟩⟩
  refine ⟨a, v, rfl, upd_same, fun dx n1 n2 => ⟨rfl, ?_⟩⟩
  have nd : H1 dx = none := by rw [upd_ne n2] at n1; exact n1
  refine q a _ na (fun b o hb => ?_) ⟨dx, upd_same, ?_⟩
  · rw [upd_ne (ne_of_none hb na), upd_ne (ne_of_none hb nd), upd_ne (ne_of_none hb na)]
    exact hb
  · rw [upd_ne n2, upd_same]
end
end Vl

set_option Elab.async false
set_option linter.all false
set_option maxRecDepth 100000
set_option maxHeartbeats 2000000
/-! Operators that a class of the program defines: by its methods' promises. -/
namespace Vo
open PySem PySem.Spec PyProof.Rows L2
section
variable {X : Cx} {CX : CXT} {k : Nat} {f C : Addr} {fd : FuncData} {ps : List Str} {sp : Sp}
variable {pins : List (Addr × Obj)} {σ : L2.St} {H : Hp} {s : Shared} {Q : VK} {us : List Value} {vs : List V} {E : XK}
/-- a method called one level further in -/
theorem run_in1 (F : FnOk X.prog X.w X.K X.mg X.base CX k f fd ps sp) (hr : Room (k + 1) X.A) (hb : Binds X.K fd ps [])
    (hx : PassesAt CX X σ E) (I : Inv X pins σ H s) (r : Vals vs us) (h : sp vs H Q E) :
    wpAny (model X.prog X.w) X.A.in1 (call (.ref f) us) (EP X pins σ Q) X.xe s := by
  have hl : us.length = ps.length := by
    rw [← r.length]
    exact F.len _ _ _ _ h
  have b := hb s us I.kIn (by rw [List.append_nil]; exact hl)
  rw [List.append_nil] at b
  have run := F.run X.A.in1 X.stack s H ⟨us, []⟩ us vs Q E hr.in1 I.env0.in1 b r h
  refine wpAny_call (codeAny_mono run ?_)
  intro z s' hq
  cases z with
  | error e => exact hx pins H s e s' I hq
  | ok fl =>
    cases fl with
    | ret u => exact I.after hq
    | next => exact False.elim hq
    | brk => exact False.elim hq
    | cont => exact False.elim hq
/-- the same where it stands -/
theorem run_here (F : FnOk X.prog X.w X.K X.mg X.base CX k f fd ps sp) (hr : Room k X.A) (hb : Binds X.K fd ps [])
    (hx : PassesAt CX X σ E) (I : Inv X pins σ H s) (r : Vals vs us) (h : sp vs H Q E) :
    wpAny (model X.prog X.w) X.A (call (.ref f) us) (EP X pins σ Q) X.xe s :=
  run_fnS (E := fun _ => E) F hr hb hx I r h
end
section
variable {X : Cx} {CX : CXT} {k : Nat} {f C : Addr} {fd : FuncData} {ps : List Str} {sp : Sp} {E : L2.St → XK}
variable {a b : Expr} {ta tb : TE} {pos : Pos}
/-- one operand an instance of the class at C -/
def tOwn1 (C : Addr) (sp : Sp) (E : L2.St → XK) (ta : TE) : TE := fun st H Q => ta st H fun x H1 =>
  ∃ o dx fs, x = .ref o ∧ H1 o = some (.ins C dx fs) ∧ sp [x] H1 Q (E st)
/-- the left one of two -/
def tOwn2 (C : Addr) (R : V → Prop) (sp : Sp) (E : L2.St → XK) (ta tb : TE) : TE := fun st H Q => ta st H fun x H1 => tb st H1 fun y H2 =>
  ∃ o dx fs, x = .ref o ∧ H2 o = some (.ins C dx fs) ∧ R y ∧ sp [x, y] H2 Q (E st)
theorem inst_at {pins : List (Addr × Obj)} {σ : L2.St} {H : Hp} {s : Shared} {o dx : Addr} {fs : List (Str × V)} (I : Inv X pins σ H s) (ea : H o = some (.ins C dx fs)) :
    ∃ ob od, PySem.W.InstAt s.heap o ob C (some od) := by
  obtain ⟨mA, O, _, _, _, _⟩ := ins_get I.hok ea
  obtain ⟨od, J, _⟩ := O.look
  exact ⟨_, od, J⟩
/-- o[i] -/
theorem pe_ixO (M : Meth X.K C "__getitem__" f) (hf : PySem.W.fnIn X.K f = true) (F : FnOk X.prog X.w X.K X.mg X.base CX k f fd ps sp) (hr : Room (k + 1) X.A) (hb : Binds X.K fd ps [])
    (hx : ∀ st, PassesAt CX X st (E st)) (ha : PE X a ta) (hi : PE X b tb)
    (hs : ∀ o i, subscripted b true (.ref o) i = runValue (.builtin "lifetime.subscript" ⟨[.ref o, i], []⟩)) :
    PE X (.Subscript a b pos) (tOwn2 C (fun _ => True) sp E ta tb) := by
  refine ⟨fun pins s σ H Q I h => ?_⟩
  refine Subscript_ (binT ha hi I h fun v u s2 x y H2 I2 rx ry q => ?_)
  obtain ⟨o, dx, fs, rfl, eo, _, q⟩ := q
  obtain rfl : v = Value.ref o := rx
  obtain ⟨ob, od, J⟩ := inst_at I2 eo
  obtain ⟨m, fr⟩ := I2.fr
  exact PySem.W.sub_K fr I2.ok.mod.kin J M.at_ hf M.fn (run_in1 F hr hb (hx σ) I2 (Paired.cons (show RelV (V.ref o) (Value.ref o) from rfl) (.cons ry .nil)) q) (hs o u)
/-- -o -/
theorem pe_negO (M : Meth X.K C "__neg__" f) (F : FnOk X.prog X.w X.K X.mg X.base CX k f fd ps sp) (hr : Room k X.A) (hb : Binds X.K fd ps [])
    (hx : ∀ st, PassesAt CX X st (E st)) (ha : PE X a ta) : PE X (.UnaryOp .USub a pos) (tOwn1 C sp E ta) := by
  refine ⟨fun pins s σ H Q I h => ?_⟩
  refine UnaryOp_ (thn (ha.run pins s σ H _ I h) fun v s1 ⟨x, H1, I1, r1, q1⟩ => ?_)
  obtain ⟨o, dx, fs, rfl, eo, q⟩ := q1
  obtain rfl : v = Value.ref o := r1
  obtain ⟨ob, od, J⟩ := inst_at I1 eo
  obtain ⟨m, fr⟩ := I1.fr
  exact PySem.W.ksp_neg fr I1.ok.mod.kin J M.at_ M.fn (run_here F hr hb (hx σ) I1 (Paired.cons (show RelV (V.ref o) (Value.ref o) from rfl) .nil) q)
end
section
variable {X : Cx} {CX : CXT} {k : Nat} {f C : Addr} {fd : FuncData} {ps : List Str} {sp : Sp} {E : L2.St → XK}
variable {a b : Expr} {ta tb : TE} {pos : Pos}
/-- what comes back is no NotImplemented: any V's value -/
theorem cmp_back {pins : List (Addr × Obj)} {σ : L2.St} {Q : VK} {u : Value} {s' : Shared} (h : EP X pins σ Q u s') : PySem.W.CmpBack (EP X pins σ Q) u s' := by
  obtain ⟨v, H', I, r, q⟩ := h
  have hn : u ≠ .notImplemented := by
    intro z
    subst z
    cases v with
    | non => cases r
    | bl b => cases r
    | int i => obtain ⟨t, z⟩ := r; cases z
    | str x => obtain ⟨t, z⟩ := r; cases z
    | byt x => obtain ⟨t, z⟩ := r; cases z
    | flt x => obtain ⟨t, z⟩ := r; cases z
    | ref a => cases r
    | ty n => cases r
  have k : EP X pins σ Q u s' := ⟨v, H', I, r, q⟩
  unfold PySem.W.CmpBack
  cases u with
  | notImplemented => exact absurd rfl hn
  | _ => exact k
/-- the class's own operators: what the written part must say -/
structure OwnOp (K : PySem.W.Frag) (C : Addr) (nm : String) (f : Addr) : Prop where
  fst : PySem.W.selfFirst K C = true
  at_ : PySem.W.findIn K (.ref C) (PySem.dunder nm) = some (some (.ref f))
  fn : PySem.W.isFn K (.ref f) = true
  r : PySem.W.findIn K (.ref C) (dunderR nm) = some none
/-- the right operand is of the built-in type T, which knows nothing of C -/
structure Far (K : PySem.W.Frag) (C : Addr) (nm T : String) : Prop where
  h1 : ∃ fo, PySem.W.findIn K (.type T) (PySem.dunder nm) = some fo
  h2 : ∃ ro, PySem.W.findIn K (.type T) (dunderR nm) = some ro
  sub : PySem.W.subIn K (.type T) (.ref C) = some false
theorem own_bin {prog : Program} {w : World} {A : Around} {Er : Value → Shared → Prop} {s : Shared} {K : PySem.W.Frag} {x C L f : Addr} {h0 : Heap} {m : Str → Option Value} {ox : Obj} {od : Option Obj} {T : String}
    {op : Operator} {b : Value} {Q : Value → Shared → Prop} (F : Fr h0 L s.heap m) (X0 : K.In h0) (I : PySem.W.InstAt s.heap x ox C od)
    (hb : PySem.W.Looks (model prog w) s.heap (typeOf b) (.type T)) (W : OwnOp K C op.info.2 f) (Z : Far K C op.info.2 T)
    (h : wpAny (model prog w) A (call (.ref f) [.ref x, b]) (PySem.W.CmpBack Q) Er s) : wpAny (model prog w) A (binaryOp op (.ref x) b) Q Er s := by
  have X := X0.keeps F.keep
  obtain ⟨cd, rest, hcd, hm⟩ := PySem.W.ksp_first W.fst
  obtain ⟨fo, h1⟩ := Z.h1
  obtain ⟨ro, h2⟩ := Z.h2
  have one := PySem.W.ksp_try X I W.at_ W.fn h
  rcases hi : op.info with ⟨sym, nm⟩
  have wa := W.at_
  have wr := W.r
  rw [hi] at wa wr h1 h2
  rw [hi] at one
  dsimp only at wa wr h1 h2 one
  obtain ⟨hh, g, d, tt, os⟩ := s
  have a1 : PySem.W.Looks (model prog w) hh (typeOf (.ref x)) (.ref C) := I.type
  have a2 : PySem.W.Looks (model prog w) hh (typeOf b) (.type T) := hb
  have a3 := PySem.W.fills_K (M := model prog w) X hcd hm wa
  have a4 := PySem.W.ksp_fillsT (M := model prog w) X h1 h2
  have a5 := PySem.W.looks_subIn (M := model prog w) X Z.sub
  have a6 := PySem.W.ksp_inPy (M := model prog w) X wa wr (.inl rfl)
  have a7 : PySem.W.Looks (model prog w) hh (numberSlotInPython (.type T) nm) false := PySem.W.Looks.of_pure rfl
  have a8 := PySem.W.looks_findIn (M := model prog w) X h2
  revert a4
  generalize ((fo.isSome && !isSeqSlot fo) || (ro.isSome && !isSeqSlot ro)) = rt
  intro a4
  have ne : (Value.ref C == Value.type T) = false := by
    refine Bool.eq_false_iff.mpr fun q => ?_
    cases beq_iff_eq.mp q
  simp only [binaryOp, hi]
  refine wpAny_holding (wpAny_bind ?_)
  unfold binaryOp1
  refine wpAny_bind (a1.at (wpAny_bind (a2.at (wpAny_bind (a3.at ?_)))))
  simp only [ne, Bool.false_eq_true, if_false]
  cases rt
  all_goals
    ksp_lk
    refine wpAny_mono one (fun r s' hr => ?_) fun _ _ z => z
    obtain ⟨v, rfl, hq⟩ := hr
    ksp_lk
    exact hq
/-- o op y, y of a built-in type -/
theorem pe_binO {op : Operator} {T : V → Hp → String → Prop} (W : OwnOp X.K C op.info.2 f)
    (Z : ∀ y H t, T y H t → Far X.K C op.info.2 t)
    (hT : ∀ (pins : List (Addr × Obj)) (st : L2.St) (H : Hp) (s : Shared) (y : V) (u : Value) (t : String), Inv X pins st H s → RelV y u → T y H t → PySem.W.Looks (model X.prog X.w) s.heap (typeOf u) (.type t))
    (F : FnOk X.prog X.w X.K X.mg X.base CX k f fd ps sp) (hr : Room k X.A) (hb : Binds X.K fd ps [])
    (hx : ∀ st, PassesAt CX X st (E st)) (ha : PE X a ta) (hi : PE X b tb) :
    PE X (.BinOp a op b pos) (fun st H Q => ta st H fun x H1 => tb st H1 fun y H2 => ∃ o dx fs t, x = .ref o ∧ H2 o = some (.ins C dx fs) ∧ T y H2 t ∧ sp [x, y] H2 Q (E st)) := by
  refine ⟨fun pins s σ H Q I h => ?_⟩
  refine wpAny_BinOp (binT ha hi I h fun v u s2 x y H2 I2 rx ry q => ?_)
  obtain ⟨o, dx, fs, t, rfl, eo, ht, q⟩ := q
  obtain rfl : v = Value.ref o := rx
  obtain ⟨ob, od, J⟩ := inst_at I2 eo
  obtain ⟨m, fr⟩ := I2.fr
  refine own_bin fr I2.ok.mod.kin J (hT _ _ _ _ _ _ _ I2 ry ht) W (Z _ _ _ ht) ?_
  exact wpAny_mono (run_here F hr hb (hx σ) I2 (Paired.cons (show RelV (V.ref o) (Value.ref o) from rfl) (.cons ry .nil)) q) (fun u s' z => cmp_back z) fun _ _ z => z
/-- Passes, at some slots -/
theorem passes_at {E1 : XK} (h : Passes CX X E1) (st : L2.St) : PassesAt CX X st E1 := fun pins H s e s' I c => h pins st H s e s' I c
def rOwn (C : Addr) (T : V → Hp → Value → Prop) (sp : Sp) (E1 : XK) : R2 := fun x y H Q =>
  ∃ o dx fs t, x = .ref o ∧ H o = some (.ins C dx fs) ∧ T y H t ∧ sp [x, y] H Q E1
/-- o == y -/
theorem op_eqO {E1 : XK} {T : V → Hp → Value → Prop} (M : Meth X.K C "__eq__" f) (Z : ∀ y H t, T y H t → PySem.W.notFirst X.K C t = true)
    (hT : ∀ (pins : List (Addr × Obj)) (st : L2.St) (H : Hp) (s : Shared) (y : V) (u t : Value), Inv X pins st H s → RelV y u → T y H t → PySem.W.Looks (model X.prog X.w) s.heap (typeOf u) t)
    (F : FnOk X.prog X.w X.K X.mg X.base CX k f fd ps sp) (hr : Room k X.A) (hb : Binds X.K fd ps []) (hx : Passes CX X E1) :
    OpR X (compareOp .Eq) (rOwn C T sp E1) := by
  intro pins s σ H x y v u Q I rx ry q
  obtain ⟨o, dx, fs, t, rfl, eo, ht, q⟩ := q
  obtain rfl : v = Value.ref o := rx
  obtain ⟨ob, od, J⟩ := inst_at I eo
  obtain ⟨m, fr⟩ := I.fr
  unfold compareOp
  refine PySem.W.cmp_K (hu_lt hr) fr I.ok.mod.kin J (hT _ _ _ _ _ _ _ I ry ht) (Z _ _ _ ht) M.at_ M.fn ?_
  exact wpAny_mono (run_here F hr hb (passes_at hx σ) I (Paired.cons (show RelV (V.ref o) (Value.ref o) from rfl) (.cons ry .nil)) q) (fun u s' z => cmp_back z) fun _ _ z => z
where
  hu_lt {k : Nat} {A : Around} (hr : Room k A) : A.units < cLine := by have := hr.un; omega
/-- the class has an own __eq__ and no own __ne__, no base but object -/
def neB (K : PySem.W.Frag) (C f : Addr) : Bool :=
  match K.lookup C with
  | some ⟨.type "type", _, .cls cd, sl⟩ =>
    (match cd.mro with
      | [.ref D, .type "object"] => D == C
      | _ => false) && ((match sl.toList with
      | [_, _, _, _, some (.builtin _), _] => true
      | _ => false) && (!cd.hasDel && (PySem.W.nsOkIn K cd.ns && (decide (PySem.W.nsIn K cd.ns "__eq__" = some (some (.ref f))) &&
        (decide (PySem.W.nsIn K cd.ns "__ne__" = some none) && PySem.W.isFn K (.ref f))))))
  | _ => false
theorem ns_val {K : PySem.W.Frag} {h : Heap} {N : Addr} {mg : Str → Option Value} {n : Str} {v : Value} (X : K.In h) (G : h.Ns N mg) (e : PySem.W.nsIn K N n = some (some v)) : mg n = some v := by
  obtain ⟨o, es, ep, ho, hd, _, hf⟩ := G
  unfold PySem.W.nsIn at e
  split at e
  · rename_i c d es2 n2 sl q
    obtain rfl := Option.some.inj (ho.symm.trans (X _ _ q))
    cases hd
    split at e
    · next en he =>
        obtain rfl := Option.some.inj (Option.some.inj e)
        rw [← hf]
        unfold nsFind findBy
        rw [← Array.find?_toList, he]
        rfl
    · split at e <;> cases e
  · cases e
theorem ne_at {K : PySem.W.Frag} {C f x : Addr} {h : Heap} {ob : Obj} {od : Option Obj} (X : K.In h) (I : PySem.W.InstAt h x ob C od) (q : neB K C f = true) : h.OwnEqNoNe x C f "object" [.type "object"] := by
  unfold neB at q
  split at q
  · rename_i dd cd sl ho
    obtain ⟨q1, q⟩ := Bool.and_eq_true_iff.mp q
    obtain ⟨q2, q⟩ := Bool.and_eq_true_iff.mp q
    obtain ⟨q3, q⟩ := Bool.and_eq_true_iff.mp q
    obtain ⟨q4, q⟩ := Bool.and_eq_true_iff.mp q
    obtain ⟨q5, q⟩ := Bool.and_eq_true_iff.mp q
    obtain ⟨q6, q7⟩ := Bool.and_eq_true_iff.mp q
    split at q1
    · rename_i D hm
      split at q2
      · rename_i k0 k1 k2 k3 n k5 hs
        obtain rfl : D = C := beq_iff_eq.mp q1
        obtain ⟨nm, bs, mro, ns, qn, hd, sn, sub, ab, col, del⟩ := cd
        dsimp only at hm q3 q4 q5 q6
        have e3 : del = false := by
          cases del with
          | false => rfl
          | true => cases q3
        subst hm e3
        obtain ⟨l⟩ := sl
        dsimp only at hs
        subst hs
        have G : h.Ns ns (h.nsMap ns) := .of_isNs (PySem.W.isNs_of_in X q4)
        have g1 : h.nsMap ns "__eq__" = some (.ref f) := ns_val X G (of_decide_eq_true q5)
        have g2 : h.nsMap ns "__ne__" = none := PySem.W.ns_none_of X G (of_decide_eq_true q6)
        have tf : PySem.W.typeIn K (.ref f) = some (.type "function") := beq_iff_eq.mp q7
        obtain ⟨fo, hfo, hfc⟩ := Option.map_eq_some_iff.mp (show (K.lookup f).map (·.cls) = some (.type "function") from tf)
        refine ⟨ob, fo, nm, qn, ns, bs, hd, sn, sub, ab, col, dd, k0, k1, k2, k3, k5, n, h.nsMap ns, some (.builtin "object.__eq__"), I.at_, I.cls, X _ _ ho, G, g1, X _ _ hfo, hfc, (by kernel_rfl), ?_, g2⟩
        rw [typeLookup_type, builtinLookup_eq_fast]
        kernel_rfl
      · cases q2
    · cases q1
  · cases q
def rNe (C : Addr) (sp : Sp) (E1 : XK) : R2 := fun x y H Q =>
  ∃ o dx fs o2 dx2 fs2, x = .ref o ∧ y = .ref o2 ∧ H o = some (.ins C dx fs) ∧ H o2 = some (.ins C dx2 fs2) ∧ sp [x, y] H (fun v H1 => ∃ b, v = .bl b ∧ Q (.bl (!b)) H1) E1
/-- o != y, both of the class, which has __eq__ and no __ne__ -/
theorem op_neO {E1 : XK} (q : neB X.K C f = true) (F : FnOk X.prog X.w X.K X.mg X.base CX k f fd ps sp) (hr : Room (k + 1) X.A) (hb : Binds X.K fd ps []) (hx : Passes CX X E1) :
    OpR X (compareOp .NotEq) (rNe C sp E1) := by
  intro pins s σ H x y v u Q I rx ry q1
  obtain ⟨o, dx, fs, o2, dx2, fs2, rfl, rfl, eo, eo2, qs⟩ := q1
  obtain rfl : v = Value.ref o := rx
  obtain rfl : u = Value.ref o2 := ry
  obtain ⟨ob, od, J⟩ := inst_at I eo
  obtain ⟨ob2, od2, J2⟩ := inst_at I eo2
  obtain ⟨m, fr⟩ := I.fr
  have hu : X.A.units + 1 < cLine := by have := hr.un; omega
  have X0 := I.ok.mod.kin.keeps fr.keep
  have run := run_in1 F hr hb (passes_at hx σ) I (Paired.cons (show RelV (V.ref o) (Value.ref o) from rfl) (.cons (show RelV (V.ref o2) (Value.ref o2) from rfl) .nil)) qs
  obtain ⟨hh, g, d, t, os⟩ := s
  refine compareOp_ne_ownEq PySem.F.cmp_object (ne_at X0 J q) J2.at_ J2.cls hu (wpAny_mono run (fun z s' hz => ?_) fun _ _ z => z)
  obtain ⟨v1, H1, I1, r1, b, rfl, q2⟩ := hz
  exact ⟨b, r1, .bl (!b), H1, I1, rfl, q2⟩
/-- len(o) by the class's __len__ -/
theorem call_lenO {E1 : XK} (M : Meth X.K C "__len__" f) (hf : PySem.W.isFn X.K (.ref f) = true) (F : FnOk X.prog X.w X.K X.mg X.base CX k f fd ps sp) (hr : Room (k + 1) X.A) (hb : Binds X.K fd ps []) (hx : Passes CX X E1) :
    CallR X (.builtin "len") (fun xs H Q => ∃ o dx fs, xs = [.ref o] ∧ H o = some (.ins C dx fs) ∧ sp [.ref o] H (fun v H1 => ∃ n : Nat, v = .int n ∧ n < 2 ^ 62 ∧ Q (.int n) H1) E1) := by
  intro pins s σ H xs us Q I r h
  obtain ⟨o, dx, fs, rfl, eo, qs⟩ := h
  obtain ⟨u, rfl, rx⟩ := vals1 r
  obtain rfl : u = Value.ref o := rx
  obtain ⟨ob, od, J⟩ := inst_at I eo
  obtain ⟨m, fr⟩ := I.fr
  refine PySem.W.len_K fr I.ok.mod.kin J M.at_ hf (wpAny_mono (run_in1 F hr hb (passes_at hx σ) I (Paired.cons (show RelV (V.ref o) (Value.ref o) from rfl) .nil) qs) (fun z s' hz => ?_) fun _ _ z => z)
  obtain ⟨v1, H1, I1, r1, n, rfl, hn, q2⟩ := hz
  obtain ⟨t1, rfl⟩ := r1
  exact ⟨⟨by omega, by omega⟩, .int n, H1, I1.tok _, ⟨_, rfl⟩, q2⟩
/-- a < b, of data -/
def rLtD (K : PySem.W.Frag) : R2 := fun x y H Q => ∃ d e, Dp K H x d ∧ Dp K H y e ∧ PySem.W.alike d e = true ∧ d ≠ .none ∧ min d.depth e.depth ≤ 64 ∧ Q (.bl (PySem.W.dataLt d e)) H
theorem op_ltD (hu : X.A.units + 64 < cLine) : OpR X (compareOp .Lt) (rLtD X.K) := by
  intro pins s σ H x y v u Q I rx ry q
  obtain ⟨d, e, hd, he, ha, hn, hm, q⟩ := q
  obtain ⟨as, r1⟩ := Dp.reads I d x v hd rx
  obtain ⟨bs, r2⟩ := Dp.reads I e y u he ry
  exact PySem.W.lt_data r1 r2 ha hn (by omega) ⟨.bl _, H, I, rfl, q⟩
end
end Vo

set_option Elab.async false
set_option linter.all false
set_option maxRecDepth 100000
set_option maxHeartbeats 2000000
/-! y in o, y not in o: the class's own __contains__. -/
namespace Vo
open PySem PySem.Spec PyProof.Rows L2
section
variable {X : Cx} {CX : CXT} {k : Nat} {f C : Addr} {fd : FuncData} {ps : List Str} {sp : Sp} {E1 : XK}
/-- its promise gives a bool, which neg turns about -/
def rHas (C : Addr) (neg : Bool) (sp : Sp) (E1 : XK) : R2 := fun y x H Q =>
  ∃ o dx fs, x = .ref o ∧ H o = some (.ins C dx fs) ∧ sp [x, y] H (fun v H1 => ∃ b, v = .bl b ∧ Q (.bl (if neg = true then !b else b)) H1) E1
theorem op_inO (M : Meth X.K C "__contains__" f) (F : FnOk X.prog X.w X.K X.mg X.base CX k f fd ps sp) (hr : Room k X.A) (hb : Binds X.K fd ps []) (hx : Passes CX X E1) : OpR X (compareOp .In) (rHas C false sp E1) := by
  intro pins s σ H y x u v Q I ry rx q
  obtain ⟨o, dx, fs, rfl, eo, qs⟩ := q
  obtain rfl : v = Value.ref o := rx
  obtain ⟨ob, od, J⟩ := inst_at I eo
  obtain ⟨m, fr⟩ := I.fr
  refine PySem.W.in_K fr I.ok.mod.kin J M.at_ M.fn (wpAny_mono (run_here F hr hb (passes_at hx σ) I (Paired.cons (show RelV (V.ref o) (Value.ref o) from rfl) (.cons ry .nil)) qs) (fun z s' hz => ?_) fun _ _ z => z)
  obtain ⟨v1, H1, I1, r1, b, rfl, q2⟩ := hz
  cases r1
  exact wpAny_truthy_bool ⟨.bl b, H1, I1, rfl, q2⟩
theorem op_notInO (M : Meth X.K C "__contains__" f) (F : FnOk X.prog X.w X.K X.mg X.base CX k f fd ps sp) (hr : Room k X.A) (hb : Binds X.K fd ps []) (hx : Passes CX X E1) : OpR X (compareOp .NotIn) (rHas C true sp E1) := by
  intro pins s σ H y x u v Q I ry rx q
  obtain ⟨o, dx, fs, rfl, eo, qs⟩ := q
  obtain rfl : v = Value.ref o := rx
  obtain ⟨ob, od, J⟩ := inst_at I eo
  obtain ⟨m, fr⟩ := I.fr
  refine PySem.W.notIn_K fr I.ok.mod.kin J M.at_ M.fn (wpAny_mono (run_here F hr hb (passes_at hx σ) I (Paired.cons (show RelV (V.ref o) (Value.ref o) from rfl) (.cons ry .nil)) qs) (fun z s' hz => ?_) fun _ _ z => z)
  obtain ⟨v1, H1, I1, r1, b, rfl, q2⟩ := hz
  cases r1
  exact wpAny_truthy_bool ⟨.bl (!b), H1, I1, rfl, q2⟩
end
end Vo

set_option Elab.async false
set_option linter.all false
set_option maxRecDepth 100000
/-! try with several except clauses, each with a name or without. Methods of an own class called where the wish depends on the slots. -/
namespace Vtr
open PySem PySem.Spec PyProof.Rows L2
/-- a clause: its class, the slot of its name, its suite -/
abbrev Clause : Type := Value × Option Nat × (Addr → Value → Option Addr → TS)
/-- the slots behind a suite whose name is gone -/
def goneE (D : Ends) (i : Nat) : Ends := { nx := fun σ' H' => D.nx (σ'.set i none) H', rt := D.rt, bk := fun σ' H' => D.bk (σ'.set i none) H', ct := fun σ' H' => D.ct (σ'.set i none) H' }
/-- what the clauses wish, one behind the other -/
def wCl (K : PySem.W.Frag) (Wout : WX) (D : Ends) : List Clause → WX
  | [] => Wout
  | (c, none, ts) :: r => fun cls d σ H => ∃ b, PySem.W.exmOne K cls c = some b ∧ (b = true → ∀ a, H a = none → ts a cls d D σ H) ∧ (b = false → wCl K Wout D r cls d σ H)
  | (c, some i, ts) :: r => fun cls d σ H => ∃ b, PySem.W.exmOne K cls c = some b ∧ (b = true → ∀ a, H a = none → ts a cls d (goneE D i) (σ.set i (some (.ref a))) H) ∧ (b = false → wCl K Wout D r cls d σ H)
inductive ClsOk (X : Cx) : List ExceptHandler → List Clause → Prop
  | nil : ClsOk X [] []
  | plain {x : Str} {c : Value} {ts : Addr → Value → Option Addr → TS} {b₀ : Stmt} {suite : List Stmt} {np pos' : Pos} {hds : List ExceptHandler} {l : List Clause} (hc : Names X x c)
      (hsu : ∀ (a : Addr) (oe : Obj) (cls : Value) (d : Option Addr) (pn : List (Addr × Obj)), Zc cls d oe → (∃ vs, oe.data = .fields vs) → PSs (X.suite a ((a, oe) :: pn)) (b₀ :: suite) (ts a cls d)) (r : ClsOk X hds l) :
      ClsOk X (.ExceptHandler (some (.Name x np)) none (b₀ :: suite) pos' :: hds) ((c, none, ts) :: l)
  | named {x n : Str} {i : Nat} {c : Value} {ts : Addr → Value → Option Addr → TS} {b₀ : Stmt} {suite : List Stmt} {np pos' : Pos} {hds : List ExceptHandler} {l : List Clause} (hi : X.N[i]? = some n) (hln : X.env.kindOf n = some .local) (hc : Names X x c)
      (hsu : ∀ (a : Addr) (oe : Obj) (cls : Value) (d : Option Addr) (pn : List (Addr × Obj)), Zc cls d oe → (∃ vs, oe.data = .fields vs) → PSs (X.suite a ((a, oe) :: pn)) (b₀ :: suite) (ts a cls d)) (r : ClsOk X hds l) :
      ClsOk X (.ExceptHandler (some (.Name x np)) (some n) (b₀ :: suite) pos' :: hds) ((c, some i, ts) :: l)
section
variable {X : Cx} {body : List Stmt} {h₀ : ExceptHandler} {hds : List ExceptHandler} {l : List Clause} {pos : Pos} {tb : WX → TS} {Wout : WX}
theorem ps_try_cl (hs : X.stack = X.env :: X.outer) (hf : X.env.frame = some X.env.locals) (hN : X.N.Nodup) (tk : Takes X Wout)
    (hb : ∀ (W : WX) (pn : List (Addr × Obj)) (xe : Value → Shared → Prop), Takes (X.tr pn xe) W → PassesOwn (model X.prog X.w) X.A X.env xe → PSs (X.tr pn xe) body (tb W))
    (hh : ClsOk X (h₀ :: hds) l) : PS X (.Try body (h₀ :: hds) [] [] pos) (fun D σ H => tb (wCl X.K Wout D l) D σ H) := by
  refine ⟨fun pins s σ H D I h => ?_⟩
  have ok := I.ok
  have hfr : X.A.frames = some (X.env :: X.outer) := by rw [ok.frames, hs]
  refine wpAny_Try_except ?_
  refine wpAny_mono ((hb (wCl X.K Wout D l) (X.pn ++ pins) (fun e s₁ => wpAny (model X.prog X.w) X.A (noteFrame e X.env) (fun _ s₂ => wpAny (model X.prog X.w) X.A (setFlight e none) (fun _ s₃ =>
    wpAny (model X.prog X.w) X.A (handleBy e X.env (h₀ :: hds)) (SP X pins D) X.xe s₃) X.xe s₂) X.xe s₁) (fun u s' xx => ?_) PassesOwn.looking).run [] s σ H D (I.toTry _) h) (fun f s1 hsp => ?_) (fun e s1 he => he)
  · obtain ⟨a, B, sI, pins', σ', H', cls, d, rfl, J', nb, up, sky, na, os, ag, w⟩ := xx
    have J : Inv X pins σ' H' sI := J'.ofTry ok
    have sky' : Sky B (X.env :: X.outer) a (Zc cls d) X.env.locals s'.heap := by rw [← hs]; exact sky
    show wpAny (model X.prog X.w) X.A (noteFrame (.ref a) X.env) _ _ _
    refine Sky.land Zc.steady hfr hf sky' fun h3 fl3 up3 => ?_
    have J3 : Inv X pins σ' H' { s' with heap := h3 } := J.landed nb fl3.1 (up.trans up3) os ag
    obtain ⟨oe3, vs3, he3, hz3, hd3⟩ := fl3.there
    have notFr : ∀ {h : Heap} {o : Obj} {vs : Array Value}, h.FunFrames B (X.env :: X.outer) → h.get? a = some o → o.data = .fields vs → a ∉ frs (X.env :: X.outer) := fun {h o vs} ff e dd hm => by
      obtain ⟨_, o', e', hnf⟩ := ff.mem hm
      rw [e] at e'; cases e'
      exact hnf _ dd
    have nfr := notFr fl3.2.2.1 he3 hd3
    have nL : a ≠ X.env.locals := fun z => nfr (List.mem_filterMap.mpr ⟨X.env, List.mem_cons_self, by rw [hf, z]⟩)
    have nF : a ∉ X.fs := fun hm => by
      obtain ⟨e, he, q⟩ := List.mem_filterMap.mp hm
      exact nfr (List.mem_filterMap.mpr ⟨e, List.mem_cons_of_mem _ he, q⟩)
    have S3 := J3.suite he3 hd3 na nL nF
    have LT : PySem.W.Looks (model X.prog X.w) h3 (typeOf (.ref a)) cls := fun A Q E s k q => wpAny_typeOf_ref (k _ _ he3) (by rw [hz3.1]; exact q)
    have test : ∀ {x : Str} {c : Value} {np : Pos}, Names X x c → ∀ {Q : Value → Shared → Prop} {E : Value → Shared → Prop}, Q c { s' with heap := h3 } → wpAny (model X.prog X.w) (X.A.mark (some (.ref a))) (eval (.Name x np) X.env) Q E { s' with heap := h3 } := fun {x c np} hc {Q E} q => by
      obtain ⟨hg, hdbg, hm | ⟨hm, hv, hnn⟩⟩ := hc
      · exact ld_glob (X := X.suite a ((a, oe3) :: (X.pn ++ pins))) S3 hg hm q hdbg
      · exact ld_blt (X := X.suite a ((a, oe3) :: (X.pn ++ pins))) S3 hg hm hv q hnn hdbg
    have go : ∀ {hds' : List ExceptHandler} {l' : List Clause}, ClsOk X hds' l' → wCl X.K Wout D l' cls d σ' H' →
        wpAny (model X.prog X.w) X.A (handleBy (.ref a) X.env hds') (SP X pins D) X.xe { s' with heap := h3 } := by
      intro hds' l' hk
      induction hk with
      | nil =>
        intro w
        refine wpAny_handleBy_nil ?_
        obtain ⟨k1, k2, k3, oe, vs, T, oT, ts', he, hz, hd, h1, hr⟩ := id fl3
        unfold PySem.passOn
        refine wpAny_bind (wpAny_field he hd h1 ?_)
        rw [if_neg (show ¬ ((Value.ref T == Value.none) = true) from by simp)]
        have fin : wpAny (model X.prog X.w) X.A (setFlight (.ref a) X.env.frame) (fun _ s4 => wpAny (model X.prog X.w) X.A (throw (.ref a) : Sem Flow) (SP X pins D) X.xe s4) X.xe { s' with heap := h3 } := by
          rw [hf]
          refine HandSPX.setFlight_upZ fl3 fun h4 hh4 up4 => wpAny_throw (tk _ _ ?_)
          exact ⟨a, B, sI, pins, σ', H', cls, d, rfl, J, nb, (up.trans up3).trans up4, .inr (.inr (by rw [hs]; exact hh4)), na, os, ag, w⟩
        first
          | exact wpAny_bind (wpAny_pure (wpAny_bind fin))
          | exact wpAny_bind fin
      | @plain x c ts b₀ suite np pos' hds2 l2 hc hsu r ih =>
        intro w
        obtain ⟨b, hb1, hyes, hno⟩ := w
        refine wpAny_handleBy_cons (codeAny_handlers_test ?_) (by intro q; cases q)
        have LM := PySem.W.exm_one (M := model X.prog X.w) (J3.kIn) LT hb1
        refine test hc (LM.here ?_)
        cases b with
        | true =>
          refine codeAny_handlers_suite ?_
          refine HandSPX.lands_againZ fl3 fun h4 fl4 up4 => ?_
          have J4 : Inv X pins σ' H' { s' with heap := h4 } := J.landed nb fl4.1 ((up.trans up3).trans up4) os ag
          obtain ⟨oe4, vs4, he4, hz4, hd4⟩ := fl4.there
          have S4 := J4.suite he4 hd4 na nL nF
          refine wpAny_mono ((hsu a oe4 cls d (X.pn ++ pins) hz4 ⟨_, hd4⟩).run [] _ _ H' _ S4 (hyes rfl a na)) (fun f s6 hsp => ?_) (fun _ _ z => False.elim z)
          cases f with
          | next =>
            obtain ⟨σ6, H6, S6, q6⟩ := hsp
            exact ⟨_, _, S6.unsuite ok, q6⟩
          | brk =>
            obtain ⟨σ6, H6, S6, q6⟩ := hsp
            exact ⟨_, _, S6.unsuite ok, q6⟩
          | cont =>
            obtain ⟨σ6, H6, S6, q6⟩ := hsp
            exact ⟨_, _, S6.unsuite ok, q6⟩
          | ret u =>
            obtain ⟨v6, σ6, H6, S6, r6, q6⟩ := hsp
            exact ⟨_, _, _, S6.unsuite ok, r6, q6⟩
        | false =>
          show wpAny _ X.A (handleBy (.ref a) X.env hds2) _ _ _
          exact ih (hno rfl)
      | @named x n i c ts b₀ suite np pos' hds2 l2 hi hln hc hsu r ih =>
        intro w
        have hloc : Loc X.env.scope n := .inl hln
        obtain ⟨b, hb1, hyes, hno⟩ := w
        refine wpAny_handleBy_cons (codeAny_handlers_test ?_) (by intro q; cases q)
        have LM := PySem.W.exm_one (M := model X.prog X.w) (J3.kIn) LT hb1
        refine test hc (LM.here ?_)
        cases b with
        | true =>
          refine codeAny_handlers_suite_as ?_
          refine HandSPX.lands_againZ fl3 fun h4 fl4 up4 => ?_
          have J4 : Inv X pins σ' H' { s' with heap := h4 } := J.landed nb fl4.1 ((up.trans up3).trans up4) os ag
          obtain ⟨oe4, vs4, he4, hz4, hd4⟩ := fl4.there
          have S4 := J4.suite he4 hd4 na nL nF
          refine store_ok (X := X.suite a ((a, oe4) :: (X.pn ++ pins))) (v := .ref a) S4 hN hi hloc rfl (fun s5 S5 => ?_) (.inr hln)
          refine wpAny_mono ((hsu a oe4 cls d (X.pn ++ pins) hz4 ⟨_, hd4⟩).run [] s5 _ H' _ S5 (hyes rfl a na)) (fun f s6 hsp => ?_) (fun _ _ z => False.elim z)
          have end_ : ∀ {σ6 : L2.St} {H6 : Hp} {Q : Shared → Prop}, Inv (X.suite a ((a, oe4) :: (X.pn ++ pins))) [] σ6 H6 s6 → (∀ s7, Inv X pins (σ6.set i none) H6 s7 → Q s7) →
              wpAny (model X.prog X.w) X.A (do bindName X.env n .none; unbindBehindTheSuite X.env n pos') (fun _ s7 => Q s7) X.xe s6 := fun {σ6 H6 Q} S6 hq => gone_ok (S6.unsuite ok) hN hi hln hq
          cases f with
          | next =>
            obtain ⟨σ6, H6, S6, q6⟩ := hsp
            exact end_ S6 fun s7 J7 => ⟨_, _, J7, q6⟩
          | brk =>
            obtain ⟨σ6, H6, S6, q6⟩ := hsp
            exact end_ S6 fun s7 J7 => ⟨_, _, J7, q6⟩
          | cont =>
            obtain ⟨σ6, H6, S6, q6⟩ := hsp
            exact end_ S6 fun s7 J7 => ⟨_, _, J7, q6⟩
          | ret u =>
            obtain ⟨v6, σ6, H6, S6, r6, q6⟩ := hsp
            exact end_ S6 fun s7 J7 => ⟨_, _, _, J7, r6, q6⟩
        | false =>
          show wpAny _ X.A (handleBy (.ref a) X.env hds2) _ _ _
          exact ih (hno rfl)
    exact go hh w
  · cases f with
    | next =>
      obtain ⟨σ', H', J', q⟩ := hsp
      exact wpAny_execs_nil ⟨σ', H', J'.ofTry ok, q⟩
    | brk =>
      obtain ⟨σ', H', J', q⟩ := hsp
      exact ⟨σ', H', J'.ofTry ok, q⟩
    | cont =>
      obtain ⟨σ', H', J', q⟩ := hsp
      exact ⟨σ', H', J'.ofTry ok, q⟩
    | ret u =>
      obtain ⟨v, σ', H', J', r, q⟩ := hsp
      exact ⟨v, σ', H', J'.ofTry ok, r, q⟩
end
theorem takes_no {X : Cx} : Takes X fun _ _ _ _ => False := fun u s' ⟨a, B, sI, pins, σ, H, cls, d, e, I, nb, up, sky, na, os, ag, h⟩ => h.elim
/-- nothing is raised where nothing may be -/
theorem passN {X : Cx} : Passes (L2.CX X.prog X.w) X fun _ _ _ => False := fun _ _ _ _ _ _ _ ⟨_, _, _, _, _, _, _, _, _, _, _, _, h⟩ => h.elim
theorem passNo {X : Cx} (σ : L2.St) : PassesAt (L2.CX X.prog X.w) X σ fun _ _ _ => False := fun _ _ _ _ _ _ ⟨_, _, _, _, _, _, _, _, _, _, _, _, h⟩ => h.elim
section
variable {X : Cx} {CX : CXT} {k : Nat} {f C : Addr} {fd : FuncData} {ps : List Str} {sp : Sp} {E : L2.St → XK} {x m : Str} {p pos apos : Pos} {e o : Expr} {es : List Expr} {ta : TE} {t : TA}
/-- o.m(..), the wish of what is raised by the slots -/
def tMethS (C : Addr) (m : Str) (sp : Sp) (E : L2.St → XK) (ta : TE) (t : TA) : TE := fun σ H Q => ta σ H fun x H1 => ∃ a dx fs, x = .ref a ∧ H1 a = some (.ins C dx fs) ∧ fs.lookup m = none ∧ t σ H1 fun vs H2 => sp (x :: vs) H2 Q (E σ)
theorem pe_methAt {pl : Sem Bool} (he : PE X o ta) (c : Cls X.K C) (hm : Meth X.K C m f) (F : FnOk X.prog X.w X.K X.mg X.base CX k f fd ps sp) (hr : Room k X.A) (hb : Binds X.K fd ps []) (hx : ∀ σ, PassesAt CX X σ (E σ)) (ha : PA X (e :: es) t)
    (hst : starEach (e :: es) X.env = (false, eval e X.env) :: starEach es X.env := by rfl) (hpl : (backTo pos (starEach es X.env)).any (·.1) = false := by rfl)
    (ht : eval (.Call (.Attribute o m apos) (e :: es) [] pos) X.env = (do
      let ov ← eval o X.env
      standAt apos.atName
      let (f, first) ← holding [ov] (getMethod ov m pl)
      callWith pos f first (backTo pos (starEach (e :: es) X.env)) (backToKw pos (keywordEach [] X.env))) := by rfl) :
    PE X (.Call (.Attribute o m apos) (e :: es) [] pos) (tMethS C m sp E ta t) := by
  refine ⟨fun pins s σ H Q I h => ?_⟩
  refine PySem.W.methodCall_KW (pl := pl) (thn (he.run pins s σ H _ I h) fun u s1 ⟨x, H1, I1, rx, a, dx, fs, ex, ea, l, q⟩ => ?_) ht
  subst ex
  obtain rfl : u = Value.ref a := rx
  refine getmeth_ok I1 ea c hm l ?_
  refine PySem.W.callWith_K (first := [.ref a]) (h₀ := X.base) I.ok.mod.kin hm.kp (thn (ha.run pos pins s1 σ H1 _ I1 q) fun us s2 ⟨vs, H2, I2, r, q2⟩ => ⟨I2.kIn, ?_⟩) hst hpl
  exact run_fnS (us := .ref a :: us) (vs := .ref a :: vs) F hr hb (hx σ) I2 (.cons rfl r) q2
theorem pe_methAt0 {pl : Sem Bool} (he : PE X o ta) (c : Cls X.K C) (hm : Meth X.K C m f) (F : FnOk X.prog X.w X.K X.mg X.base CX k f fd ps sp) (hr : Room k X.A) (hb : Binds X.K fd ps []) (hx : ∀ σ, PassesAt CX X σ (E σ))
    (ht : eval (.Call (.Attribute o m apos) [] [] pos) X.env = (do
      let ov ← eval o X.env
      standAt apos.atName
      let (f, first) ← holding [ov] (getMethod ov m pl)
      callWith pos f first (backTo pos (starEach [] X.env)) (backToKw pos (keywordEach [] X.env))) := by rfl) :
    PE X (.Call (.Attribute o m apos) [] [] pos) (tMethS C m sp E ta tNil) := by
  refine ⟨fun pins s σ H Q I h => ?_⟩
  refine PySem.W.methodCall_KW (pl := pl) (thn (he.run pins s σ H _ I h) fun u s1 ⟨x, H1, I1, rx, a, dx, fs, ex, ea, l, q⟩ => ?_) ht
  subst ex
  obtain rfl : u = Value.ref a := rx
  refine getmeth_ok I1 ea c hm l ?_
  exact PySem.W.callWith_K0 (first := [.ref a]) I1.kIn hm.kp (run_fnS (us := [.ref a]) (vs := [.ref a]) F hr hb (hx σ) I1 (.cons rfl .nil) q)
end
end Vtr

set_option Elab.async false
set_option linter.all false
set_option maxRecDepth 100000
set_option maxHeartbeats 2000000
/-! Who is called, in one word: a def of the module (Fu), a method (Mo), a property (Pr), an own class made (Nw). -/
namespace Vc
open PySem PySem.Spec PyProof.Rows L2 Evl Vtr Vo
abbrev nil0 : XK := fun _ _ _ => False
structure Fu (P : Program) (w : World) (K : PySem.W.Frag) (mg : Str → Option Value) (base : Heap) (CX : CXT) (k : Nat) (x : Str) (sp : Sp) : Prop where
  ex : ∃ (f : Addr) (fd : FuncData) (ps : List Str), FnOk P w K mg base CX k f fd ps sp ∧ mg x = some (.ref f) ∧ PySem.W.keepIn K (.ref f) = true ∧ L2.Binds K fd ps []
structure Mo (P : Program) (w : World) (K : PySem.W.Frag) (mg : Str → Option Value) (base : Heap) (C : Addr) (CX : CXT) (k : Nat) (m : Str) (sp : Sp) : Prop where
  ex : ∃ (f : Addr) (fd : FuncData) (ps : List Str), FnOk P w K mg base CX k f fd ps sp ∧ Meth K C m f ∧ L2.Binds K fd ps []
structure Pr (P : Program) (w : World) (K : PySem.W.Frag) (mg : Str → Option Value) (base : Heap) (C : Addr) (k : Nat) (m : Str) (sp : Sp) : Prop where
  ex : ∃ (p f : Addr) (fd : FuncData) (ps : List Str), FnOk P w K mg base L2.CX0 k f fd ps sp ∧ PropOf K C m p f ∧ L2.Binds K fd ps []
structure Nw (P : Program) (w : World) (K : PySem.W.Frag) (mg : Str → Option Value) (base : Heap) (C : Addr) (CX : CXT) (k : Nat) (x : Str) (sp : Sp) : Prop where
  ex : ∃ (f : Addr) (fd : FuncData) (ps : List Str), FnOk P w K mg base CX k f fd ps sp ∧ Mk K C f ∧ L2.Binds K fd ps [] ∧ mg x = some (.ref C)
theorem app_nil (vs : List V) : vs ++ [] = vs := List.append_nil vs
section
variable {X : Cx} {C : Addr} {j k : Nat} {x m : Str} {sp : Sp} {E : L2.St → XK} {p pos apos : Pos} {e o : Expr} {es : List Expr} {ta : TE} {t : TA}
/-- the promise, asked of the arguments -/
def tFu (sp : Sp) (E : L2.St → XK) (t : TA) : TE := fun σ H Q => t σ H fun vs H1 => sp vs H1 Q (E σ)
theorem pe_fu (T : Fu X.prog X.w X.K X.mg X.base L2.CX0 k x sp) (hr : Room j X.A) (hg : Gl X x) (ha : PA X (e :: es) t) (hk : k ≤ j := by decide) (hdb : (x == ("__debug__" : Str)) = false := by decide)
    (he : starEach (e :: es) X.env = (false, eval e X.env) :: starEach es X.env := by rfl) (hpl : (backTo pos (starEach es X.env)).any (·.1) = false := by rfl) : PE X (.Call (.Name x p) (e :: es) [] pos) (tFu sp (fun _ => nil0) t) := by
  obtain ⟨f, fd, ps, F, hm, kp, b⟩ := T.ex
  exact pe_callS (E := fun _ => nil0) F (hr.mono hk) hg hm kp b (fun _ _ _ _ _ _ _ h => h.elim) ha hdb he hpl
theorem pe_fuX (T : Fu X.prog X.w X.K X.mg X.base (L2.CX X.prog X.w) k x sp) (hr : Room j X.A) (hg : Gl X x) (hx : ∀ σ, PassesAt (L2.CX X.prog X.w) X σ (E σ)) (ha : PA X (e :: es) t) (hk : k ≤ j := by decide) (hdb : (x == ("__debug__" : Str)) = false := by decide)
    (he : starEach (e :: es) X.env = (false, eval e X.env) :: starEach es X.env := by rfl) (hpl : (backTo pos (starEach es X.env)).any (·.1) = false := by rfl) : PE X (.Call (.Name x p) (e :: es) [] pos) (tFu sp E t) := by
  obtain ⟨f, fd, ps, F, hm, kp, b⟩ := T.ex
  exact pe_callS F (hr.mono hk) hg hm kp b hx ha hdb he hpl
/-- one that may raise, where it raises nothing -/
theorem pe_fuN (T : Fu X.prog X.w X.K X.mg X.base (L2.CX X.prog X.w) k x sp) (hr : Room j X.A) (hg : Gl X x) (ha : PA X (e :: es) t) (hk : k ≤ j := by decide) (hdb : (x == ("__debug__" : Str)) = false := by decide)
    (he : starEach (e :: es) X.env = (false, eval e X.env) :: starEach es X.env := by rfl) (hpl : (backTo pos (starEach es X.env)).any (·.1) = false := by rfl) : PE X (.Call (.Name x p) (e :: es) [] pos) (tFu sp (fun _ => nil0) t) := by
  exact pe_fuX (E := fun _ => nil0) T hr hg (fun σ => passNo σ) ha hk hdb he hpl
theorem pe_mo {pl : Sem Bool} (he : PE X o ta) (c : Cls X.K C) (T : Mo X.prog X.w X.K X.mg X.base C L2.CX0 k m sp) (hr : Room j X.A) (ha : PA X (e :: es) t) (hk : k ≤ j := by decide)
    (hst : starEach (e :: es) X.env = (false, eval e X.env) :: starEach es X.env := by rfl) (hpl : (backTo pos (starEach es X.env)).any (·.1) = false := by rfl)
    (ht : eval (.Call (.Attribute o m apos) (e :: es) [] pos) X.env = (do
      let ov ← eval o X.env
      standAt apos.atName
      let (f, first) ← holding [ov] (getMethod ov m pl)
      callWith pos f first (backTo pos (starEach (e :: es) X.env)) (backToKw pos (keywordEach [] X.env))) := by rfl) :
    PE X (.Call (.Attribute o m apos) (e :: es) [] pos) (tMethS C m sp (fun _ => nil0) ta t) := by
  obtain ⟨f, fd, ps, F, hm, b⟩ := T.ex
  exact pe_methAt (pl := pl) he c hm F (hr.mono hk) b (fun _ _ _ _ _ _ _ h => h.elim) ha hst hpl ht
theorem pe_moX {pl : Sem Bool} (he : PE X o ta) (c : Cls X.K C) (T : Mo X.prog X.w X.K X.mg X.base C (L2.CX X.prog X.w) k m sp) (hr : Room j X.A) (hx : ∀ σ, PassesAt (L2.CX X.prog X.w) X σ (E σ)) (ha : PA X (e :: es) t) (hk : k ≤ j := by decide)
    (hst : starEach (e :: es) X.env = (false, eval e X.env) :: starEach es X.env := by rfl) (hpl : (backTo pos (starEach es X.env)).any (·.1) = false := by rfl)
    (ht : eval (.Call (.Attribute o m apos) (e :: es) [] pos) X.env = (do
      let ov ← eval o X.env
      standAt apos.atName
      let (f, first) ← holding [ov] (getMethod ov m pl)
      callWith pos f first (backTo pos (starEach (e :: es) X.env)) (backToKw pos (keywordEach [] X.env))) := by rfl) :
    PE X (.Call (.Attribute o m apos) (e :: es) [] pos) (tMethS C m sp E ta t) := by
  obtain ⟨f, fd, ps, F, hm, b⟩ := T.ex
  exact pe_methAt (pl := pl) he c hm F (hr.mono hk) b hx ha hst hpl ht
theorem pe_moN {pl : Sem Bool} (he : PE X o ta) (c : Cls X.K C) (T : Mo X.prog X.w X.K X.mg X.base C (L2.CX X.prog X.w) k m sp) (hr : Room j X.A) (ha : PA X (e :: es) t) (hk : k ≤ j := by decide)
    (hst : starEach (e :: es) X.env = (false, eval e X.env) :: starEach es X.env := by rfl) (hpl : (backTo pos (starEach es X.env)).any (·.1) = false := by rfl)
    (ht : eval (.Call (.Attribute o m apos) (e :: es) [] pos) X.env = (do
      let ov ← eval o X.env
      standAt apos.atName
      let (f, first) ← holding [ov] (getMethod ov m pl)
      callWith pos f first (backTo pos (starEach (e :: es) X.env)) (backToKw pos (keywordEach [] X.env))) := by rfl) :
    PE X (.Call (.Attribute o m apos) (e :: es) [] pos) (tMethS C m sp (fun _ => nil0) ta t) := pe_moX (pl := pl) (E := fun _ => nil0) he c T hr (fun σ => passNo σ) ha hk hst hpl ht
theorem pe_mo0 {pl : Sem Bool} (he : PE X o ta) (c : Cls X.K C) (T : Mo X.prog X.w X.K X.mg X.base C L2.CX0 k m sp) (hr : Room j X.A) (hk : k ≤ j := by decide)
    (ht : eval (.Call (.Attribute o m apos) [] [] pos) X.env = (do
      let ov ← eval o X.env
      standAt apos.atName
      let (f, first) ← holding [ov] (getMethod ov m pl)
      callWith pos f first (backTo pos (starEach [] X.env)) (backToKw pos (keywordEach [] X.env))) := by rfl) :
    PE X (.Call (.Attribute o m apos) [] [] pos) (tMethS C m sp (fun _ => nil0) ta tNil) := by
  obtain ⟨f, fd, ps, F, hm, b⟩ := T.ex
  exact pe_methAt0 (pl := pl) he c hm F (hr.mono hk) b (fun _ _ _ _ _ _ _ h => h.elim) ht
theorem pe_mo0X {pl : Sem Bool} (he : PE X o ta) (c : Cls X.K C) (T : Mo X.prog X.w X.K X.mg X.base C (L2.CX X.prog X.w) k m sp) (hr : Room j X.A) (hx : ∀ σ, PassesAt (L2.CX X.prog X.w) X σ (E σ)) (hk : k ≤ j := by decide)
    (ht : eval (.Call (.Attribute o m apos) [] [] pos) X.env = (do
      let ov ← eval o X.env
      standAt apos.atName
      let (f, first) ← holding [ov] (getMethod ov m pl)
      callWith pos f first (backTo pos (starEach [] X.env)) (backToKw pos (keywordEach [] X.env))) := by rfl) :
    PE X (.Call (.Attribute o m apos) [] [] pos) (tMethS C m sp E ta tNil) := by
  obtain ⟨f, fd, ps, F, hm, b⟩ := T.ex
  exact pe_methAt0 (pl := pl) he c hm F (hr.mono hk) b hx ht
/-- o.m, a property -/
def tPr (C : Addr) (sp : Sp) (ta : TE) : TE := fun σ H Q => ta σ H fun x H1 => ∃ a dx fs, x = .ref a ∧ H1 a = some (.ins C dx fs) ∧ sp [.ref a] H1 Q nil0
theorem pe_pr (he : PE X e ta) (c : Cls X.K C) (T : Pr X.prog X.w X.K X.mg X.base C k m sp) (hr : Room j X.A) (hk : k + 1 ≤ j := by decide) (hab : attributeBase e m X.env (eval e X.env) = eval e X.env := by rfl) :
    PE X (.Attribute e m pos) (tPr C sp ta) := by
  obtain ⟨p, f, fd, ps, F, hp, b⟩ := T.ex
  refine ⟨(pe_prop (E := nil0) he c hp F (hr.mono hk) b .nil (fun _ _ _ _ _ _ _ h => h.elim) hab).run⟩
/-- C(..) of an own class -/
def tNw (C : Addr) (sp : Sp) (E : L2.St → XK) (t : TA) : TE := fun σ H Q => t σ H fun vs H1 => ∀ x dx, H1 x = none → H1 dx = none → dx ≠ x → sp (.ref x :: vs) (upd (upd H1 dx (.own x)) x (.ins C dx [])) (fun v H2 => v = .non ∧ Q (.ref x) H2) (E σ)
theorem pe_nw0 (T : Nw X.prog X.w X.K X.mg X.base C L2.CX0 k x sp) (hr : Room j X.A) (hg : Gl X x) (hk : k + 1 ≤ j := by decide) (hdb : (x == ("__debug__" : Str)) = false := by decide) :
    PE X (.Call (.Name x p) [] [] pos) (tNw C sp (fun _ => nil0) tNil) := by
  obtain ⟨f, fd, ps, F, M, b, hm⟩ := T.ex
  exact ⟨(pe_make0 (E := nil0) M F (hr.mono hk) hg hm b .nil (fun _ _ _ _ _ _ _ h => h.elim) hdb).run⟩
theorem pe_nw (T : Nw X.prog X.w X.K X.mg X.base C L2.CX0 k x sp) (hr : Room j X.A) (hg : Gl X x) (ha : PA X (e :: es) t) (hk : k + 1 ≤ j := by decide) (hdb : (x == ("__debug__" : Str)) = false := by decide)
    (hs : starEach (e :: es) X.env = (false, eval e X.env) :: starEach es X.env := by rfl) (hpl : (backTo pos (starEach es X.env)).any (·.1) = false := by rfl) : PE X (.Call (.Name x p) (e :: es) [] pos) (tNw C sp (fun _ => nil0) t) := by
  obtain ⟨f, fd, ps, F, M, b, hm⟩ := T.ex
  refine Vl.pe_weak (pe_make (E := nil0) M F (hr.mono hk) hg hm b .nil (fun _ _ _ _ _ _ _ h => h.elim) ha hdb hs hpl) fun σ H Q h => ?_
  unfold tMake
  simp only [app_nil]
  exact h
/-- y in o, y not in o -/
theorem op_inM (T : Mo X.prog X.w X.K X.mg X.base C L2.CX0 k "__contains__" sp) (hr : Room j X.A) (hk : k ≤ j := by decide) : OpR X (compareOp .In) (rHas C false sp nil0) := by
  obtain ⟨f, fd, ps, F, hm, b⟩ := T.ex
  exact op_inO hm F (hr.mono hk) b (fun _ _ _ _ _ _ _ h => h.elim)
theorem op_notInM (T : Mo X.prog X.w X.K X.mg X.base C L2.CX0 k "__contains__" sp) (hr : Room j X.A) (hk : k ≤ j := by decide) : OpR X (compareOp .NotIn) (rHas C true sp nil0) := by
  obtain ⟨f, fd, ps, F, hm, b⟩ := T.ex
  exact op_notInO hm F (hr.mono hk) b (fun _ _ _ _ _ _ _ h => h.elim)
end
/-- o[i] of an own class -/
structure Gt (P : Program) (w : World) (K : PySem.W.Frag) (mg : Str → Option Value) (base : Heap) (C : Addr) (CX : CXT) (k : Nat) (sp : Sp) : Prop where
  ex : ∃ (f : Addr) (fd : FuncData) (ps : List Str), FnOk P w K mg base CX k f fd ps sp ∧ Meth K C "__getitem__" f ∧ L2.Binds K fd ps [] ∧ PySem.W.fnIn K f = true
abbrev tIxM (C : Addr) (sp : Sp) (E : L2.St → XK) (ta tb : TE) : TE := tOwn2 C (fun _ => True) sp E ta tb
section
variable {X : Cx} {C : Addr} {j k : Nat} {sp : Sp} {E : L2.St → XK} {pos : Pos} {a b : Expr} {ta tb : TE}
theorem pe_ixX (T : Gt X.prog X.w X.K X.mg X.base C (L2.CX X.prog X.w) k sp) (hr : Room j X.A) (hx : ∀ st, PassesAt (L2.CX X.prog X.w) X st (E st)) (ha : PE X a ta) (hi : PE X b tb) (hk : k + 1 ≤ j := by decide)
    (hs : ∀ o i, subscripted b true (.ref o) i = runValue (.builtin "lifetime.subscript" ⟨[.ref o, i], []⟩) := by intro _ _; rfl) : PE X (.Subscript a b pos) (tIxM C sp E ta tb) := by
  obtain ⟨f, fd, ps, F, hm, b', hf⟩ := T.ex
  exact pe_ixO hm hf F (hr.mono hk) b' hx ha hi hs
theorem pe_ixN (T : Gt X.prog X.w X.K X.mg X.base C (L2.CX X.prog X.w) k sp) (hr : Room j X.A) (ha : PE X a ta) (hi : PE X b tb) (hk : k + 1 ≤ j := by decide)
    (hs : ∀ o i, subscripted b true (.ref o) i = runValue (.builtin "lifetime.subscript" ⟨[.ref o, i], []⟩) := by intro _ _; rfl) : PE X (.Subscript a b pos) (tIxM C sp (fun _ => nil0) ta tb) := pe_ixX (E := fun _ => nil0) T hr (fun σ => passNo σ) ha hi hk hs
/-- len(o) -/
def rLenM (C : Addr) (sp : Sp) : List V → Hp → VK → Prop := fun xs H Q => ∃ o dx fs, xs = [.ref o] ∧ H o = some (.ins C dx fs) ∧ sp [.ref o] H (fun v H1 => ∃ n : Nat, v = .int n ∧ n < 2 ^ 62 ∧ Q (.int n) H1) nil0
theorem call_lenM (T : Mo X.prog X.w X.K X.mg X.base C L2.CX0 k "__len__" sp) (hr : Room j X.A) (hk : k + 1 ≤ j := by decide) : CallR X (.builtin "len") (rLenM C sp) := by
  obtain ⟨f, fd, ps, F, hm, b⟩ := T.ex
  exact call_lenO (E1 := nil0) hm hm.fn F (hr.mono hk) b (fun _ _ _ _ _ _ _ h => h.elim)
theorem pe_negM (T : Mo X.prog X.w X.K X.mg X.base C L2.CX0 k "__neg__" sp) (hr : Room j X.A) (ha : PE X a ta) (hk : k ≤ j := by decide) : PE X (.UnaryOp .USub a pos) (tOwn1 C sp (fun _ => nil0) ta) := by
  obtain ⟨f, fd, ps, F, hm, b⟩ := T.ex
  exact pe_negO (E := fun _ => nil0) hm F (hr.mono hk) b (fun _ _ _ _ _ _ _ h => h.elim) ha
end
/-! ### what they are made of -/
section
variable {P : Program} {w : World} {K : PySem.W.Frag} {mg : Str → Option Value} {base : Heap} {CX : CXT} {k : Nat} {f C : Addr} {fd : FuncData} {ps : List Str} {sp : Sp} {x m : Str}
theorem Fu.of (F : FnOk P w K mg base CX k f fd ps sp) (hm : mg x = some (.ref f)) (kp : PySem.W.keepIn K (.ref f) = true) (b : L2.Binds K fd ps []) : Fu P w K mg base CX k x sp := ⟨f, fd, ps, F, hm, kp, b⟩
theorem Mo.of (F : FnOk P w K mg base CX k f fd ps sp) (hm : Meth K C m f) (b : L2.Binds K fd ps []) : Mo P w K mg base C CX k m sp := ⟨f, fd, ps, F, hm, b⟩
theorem Fu.mono {j : Nat} (T : Fu P w K mg base CX k x sp) (h : k ≤ j) : Fu P w K mg base CX j x sp := by
  obtain ⟨f, fd, ps, F, r⟩ := T.ex
  exact ⟨f, fd, ps, F.mono h, r⟩
end
/-! ### what they come to -/
section
variable {K : PySem.W.Frag} {σ : L2.St} {H : Hp} {z : V}
theorem ev_fu {sp : Sp} {E : L2.St → XK} {vs : List V} {ta : TA} (h : EvA ta σ H vs) (hs : SpV sp vs H z) : Ev (tFu sp E ta) σ H z := fun H1 e Q q =>
  h H1 e _ fun H2 e2 => hs H2 (e.trans e2) Q (fun H3 e3 => q H3 (e2.trans e3)) (E σ)
theorem el_fu {sp : Sp} {E : L2.St → XK} {vs xs : List V} {ta : TA} (h : EvA ta σ H vs) (hs : SpL sp vs H xs) : EvL (tFu sp E ta) σ H xs := fun H1 e Q q =>
  h H1 e _ fun H2 e2 => hs H2 (e.trans e2) Q (fun p H3 hp e3 h3 => q p H3 (fresh_back e2 hp) (e2.trans e3) h3) (E σ)
def SpU (sp : Sp) (vs : List V) (H : Hp) (xs : List V) : Prop := ∀ H1, Ex H H1 → ∀ Q : VK, (∀ p H2, H1 p = none → Ex H1 H2 → H2 p = some (.tup xs) → Q (.ref p) H2) → ∀ E : XK, sp vs H1 Q E
/-- a method on an object -/
theorem ev_me {C : Addr} {m : Str} {sp : Sp} {E : L2.St → XK} {te : TE} {ta : TA} {o dx : Addr} {fs : List (Str × V)} {vs : List V} (h : Ev te σ H (.ref o)) (ho : H o = some (.ins C dx fs)) (hl : fs.lookup m = none) (ha : EvA ta σ H vs) (hs : SpV sp (.ref o :: vs) H z) :
    Ev (tMethS C m sp E te ta) σ H z := fun H1 e Q q => h H1 e _ fun H2 e2 => ⟨o, dx, fs, rfl, (e.trans e2) _ _ ho, hl, ha H2 (e.trans e2) _ fun H3 e3 => hs H3 ((e.trans e2).trans e3) Q (fun H4 e4 => q H4 ((e2.trans e3).trans e4)) (E σ)⟩
theorem eu_me {C : Addr} {m : Str} {sp : Sp} {E : L2.St → XK} {te : TE} {ta : TA} {o dx : Addr} {fs : List (Str × V)} {vs xs : List V} (h : Ev te σ H (.ref o)) (ho : H o = some (.ins C dx fs)) (hl : fs.lookup m = none) (ha : EvA ta σ H vs) (hs : SpU sp (.ref o :: vs) H xs) :
    EvU (tMethS C m sp E te ta) σ H xs := fun H1 e Q q => h H1 e _ fun H2 e2 => ⟨o, dx, fs, rfl, (e.trans e2) _ _ ho, hl, ha H2 (e.trans e2) _ fun H3 e3 => hs H3 ((e.trans e2).trans e3) Q (fun p H4 hp e4 h4 => q p H4 (fresh_back (e2.trans e3) hp) ((e2.trans e3).trans e4) h4) (E σ)⟩
theorem eu_pr {C : Addr} {sp : Sp} {te : TE} {o dx : Addr} {fs : List (Str × V)} {xs : List V} (h : Ev te σ H (.ref o)) (ho : H o = some (.ins C dx fs)) (hs : SpU sp [.ref o] H xs) : EvU (tPr C sp te) σ H xs := fun H1 e Q q =>
  h H1 e _ fun H2 e2 => ⟨o, dx, fs, rfl, (e.trans e2) _ _ ho, hs H2 (e.trans e2) Q (fun p H4 hp e4 h4 => q p H4 (fresh_back e2 hp) (e2.trans e4) h4) nil0⟩
theorem ev_has {C : Addr} {neg : Bool} {sp : Sp} {ta tb : TE} {y : V} {o dx : Addr} {fs : List (Str × V)} {b : Bool} (hy : Ev ta σ H y) (h : Ev tb σ H (.ref o)) (ho : H o = some (.ins C dx fs)) (hs : SpV sp [.ref o, y] H (.bl b)) :
    Ev (tOp (rHas C neg sp nil0) ta tb) σ H (.bl (if neg = true then !b else b)) := ev_op hy h fun H1 e Q q => ⟨o, dx, fs, rfl, e _ _ ho, hs H1 e _ (fun H2 e2 => ⟨b, rfl, q H2 e2⟩) nil0⟩
/-- o[i], i a new tuple -/
theorem eu_ixM {C : Addr} {sp : Sp} {E : L2.St → XK} {ta tb : TE} {o dx : Addr} {fs : List (Str × V)} {is xs : List V} (h : Ev ta σ H (.ref o)) (ho : H o = some (.ins C dx fs)) (hi : EvU tb σ H is) (hs : ∀ t H1, Ex H H1 → H1 t = some (.tup is) → SpU sp [.ref o, .ref t] H1 xs) :
    EvU (tIxM C sp E ta tb) σ H xs := fun H1 e Q q => h H1 e _ fun H2 e2 => hi H2 (e.trans e2) _ fun t H3 ht e3 h3 => ⟨o, dx, fs, rfl, ((e.trans e2).trans e3) _ _ ho, trivial, hs t H3 ((e.trans e2).trans e3) h3 H3 (Ex.refl _) Q (fun p H4 hp e4 h4 => q p H4 (fresh_back (e2.trans e3) hp) ((e2.trans e3).trans e4) h4) (E σ)⟩
theorem ev_lenM {C : Addr} {sp : Sp} {ta : TE} {o dx : Addr} {fs : List (Str × V)} {n : Nat} (h : Ev ta σ H (.ref o)) (ho : H o = some (.ins C dx fs)) (hn : n < 2 ^ 62) (hs : SpV sp [.ref o] H (.int n)) : Ev (tCB (rLenM C sp) (tCons ta tNil)) σ H (.int n) :=
  fun H1 e Q q => h H1 e _ fun H2 e2 => ⟨o, dx, fs, rfl, (e.trans e2) _ _ ho, hs H2 (e.trans e2) _ (fun H3 e3 => ⟨n, rfl, hn, q H3 (e2.trans e3)⟩) nil0⟩
/-- a comparison of two new tuples, of two values at addresses -/
theorem ev_opT {r : R2} {ta tb : TE} {xs ys : List V} {K : PySem.W.Frag} (h : EvU ta σ H xs) (h2 : EvU tb σ H ys) (hr : ∀ p q H1, SqT K H1 p xs → SqT K H1 q ys → Ex H H1 → RV r (.ref p) (.ref q) H1 z) : Ev (tOp r ta tb) σ H z :=
  ev_opUU h h2 fun p q H1 hp hq e => hr p q H1 (.inl (.inl hp)) (.inl (.inl hq)) e
end
end Vc

set_option Elab.async false
set_option linter.all false
set_option maxRecDepth 100000
set_option maxHeartbeats 2000000
/-! An error of the program, with one field, raised about a variable's value. -/
namespace Vx2
open PySem PySem.Spec PyProof.Rows L2 Vl Evl
/-- the error of the class at CN about y, its field called f -/
def RaisedF (CN : Addr) (f : Str) (H : Hp) (y : V) (E : XK) : Prop := ∀ d H', Ex H H' → H' d = some (.xd [(f, y)]) → E (.ref CN) (some d) H'
theorem raised_f {CN : Addr} {f : Str} {te : TE} {st : L2.St} {H : Hp} {y : V} {W : WX} (i : Nat) (h : te = tVar i) (hy : st[i]? = some (some y)) (q : RaisedF CN f H y fun cls d H' => W cls d st H') :
    tMkO CN (spIni CN f) [] (tCons te tNil) st H (fun cls d H' => W cls d st H') := by
  subst h
  refine ⟨y, hy, by show 1 ≤ 1000; omega, fun a na => ?_⟩
  refine ⟨a, y, rfl, upd_same, fun dx n1 n2 => ?_⟩
  have nd : H dx = none := by rw [upd_ne n2] at n1; exact n1
  refine ⟨rfl, dx, [(f, y)], upd_same, by rw [upd_ne n2, upd_same], nd, ?_⟩
  refine q dx _ (fun b o hb => ?_) upd_same
  rw [upd_ne (ne_of_none hb nd), del_ne (ne_of_none hb na), upd_ne (ne_of_none hb na), upd_ne (ne_of_none hb nd), upd_ne (ne_of_none hb na)]
  exact hb
/-- what is asked of such a class to be raised, and its __init__ -/
structure Err1 (P : Program) (w : World) (K : PySem.W.Frag) (mg : Str → Option Value) (base : Heap) (x f : Str) (C : Addr) : Prop where
  T : OexC K C
  X : XfC K C
  no : PySem.W.findIn K (.ref C) f = some none
  g : mg x = some (.ref C)
  ini : ∃ fI fd, PySem.W.findIn K (.ref C) "__init__" = some (some (.ref fI)) ∧ PySem.W.typeIn K (.ref fI) = some (.type "function") ∧ Binds K fd ["self", f] [] ∧ FnOk P w K mg base CX0 1 fI fd ["self", f] (spIni C f)
end Vx2

set_option Elab.async false
set_option linter.all false
set_option maxRecDepth 100000
set_option maxHeartbeats 2000000
/-! The head's facts as a list; what they say of classes, errors, properties. -/
namespace Vh
open PySem PySem.Spec PyProof.Rows L2 Vx2 Vc
abbrev Fact : Type := Fg → Bool
def allF (fs : List Fact) (K : Fg) : Bool := fs.all fun g => g K
theorem fact_at {fs : List Fact} {K : Fg} (h : allF fs K = true) (i : Nat) {g : Fact} (e : fs[i]? = some g := by rfl) : g K = true := List.all_eq_true.mp h g (List.mem_of_getElem? e)
def glosF (xs : List Str) : Fact := fun K => xs.all fun x => (He.Fa.glo x).ok K
def freesF (xs : List Str) : Fact := fun K => xs.all fun x => (He.Fa.free x).ok K
theorem glos_ok {xs : List Str} {K : Fg} {h : Heap} {mg : Str → Option Value} (X : K.In h) (G : h.Ns mainGlobals mg) (c : glosF xs K = true) : ∀ x ∈ xs, mg x = some (.ref (He.ga K x)) := fun x hx => He.glo_ok X G (List.all_eq_true.mp c x hx)
theorem frees_ok {xs : List Str} {K : Fg} {h : Heap} {mg : Str → Option Value} (X : K.In h) (G : h.Ns mainGlobals mg) (c : freesF xs K = true) : ∀ x ∈ xs, mg x = none := fun x hx => He.free_ok X G (List.all_eq_true.mp c x hx)
/-- a class of the program: its methods, its fields' names free -/
def clsF (x : Str) (fs ms : List Str) : Fact := fun K => (He.Fa.cls x).ok K && ((fs.all fun f => (He.Fa.noat x f).ok K) && ms.all fun m => (He.Fa.meth x m).ok K)
structure ClsK (K : Fg) (C : Addr) (fs ms : List Str) : Prop where
  cls : Cls K C
  no : ∀ f ∈ fs, NoAttr K C f
  me : ∀ m ∈ ms, Meth K C m (He.ma K C m)
theorem clsF_ok {x : Str} {fs ms : List Str} {K : Fg} (c : clsF x fs ms K = true) : ClsK K (He.ga K x) fs ms := by
  obtain ⟨c1, c2⟩ := He.ba c
  obtain ⟨c2, c3⟩ := He.ba c2
  exact ⟨He.cls_ok c1, fun f hf => He.noat_ok (List.all_eq_true.mp c2 f hf), fun m hm => He.meth_ok (List.all_eq_true.mp c3 m hm)⟩
/-- a property -/
def prpF (x f : Str) : Fact := fun K =>
  He.eqO (PySem.W.findIn K (.ref (He.ga K x)) f) (some (some (.ref (He.ma K (He.ga K x) f)))) && (He.eqO (PySem.W.specialIn K (.ref (He.ma K (He.ga K x) f)) "__get__") (some (some (.builtin "property.__get__"))) && (decide (PySem.W.takesIn K (.ref (He.ma K (He.ga K x) f)) = some true) &&
  (match PySem.W.recIn K (He.ma K (He.ga K x) f) "property" with
    | some (.ref _ :: _) => true
    | _ => false)))
theorem prpF_ok {x f : Str} {K : Fg} (h : prpF x f K = true) : PropOf K (He.ga K x) f (He.ma K (He.ga K x) f) (pgA K x f) := by
  obtain ⟨h1, h⟩ := He.ba h
  obtain ⟨h2, h⟩ := He.ba h
  obtain ⟨h3, h4⟩ := He.ba h
  refine ⟨He.eqO_ok h1, He.eqO_ok h2, of_decide_eq_true h3, ?_⟩
  unfold pgA
  split at h4
  · next g rest e => exact ⟨rest, by rw [e]⟩
  · cases h4
/-- a class of errors with fields -/
def errF (x : Str) (fs : List Str) : Fact := fun K => errB K (He.ga K x) && iniB K (He.ga K x) fs
/-- a class of errors without an own __init__ -/
def err0F (x : Str) : Fact := fun K => errB K (He.ga K x)
def exmF (xs : List Str) : Fact := fun K => xs.all fun x => xs.all fun y => (He.Fa.exm x y (decide (x = y))).ok K
theorem exmF_ok {xs : List Str} {K : Fg} (h : exmF xs K = true) {x y : Str} (hx : x ∈ xs) (hy : y ∈ xs) : PySem.W.exmOne K (.ref (He.ga K x)) (.ref (He.ga K y)) = some (decide (x = y)) :=
  of_decide_eq_true (List.all_eq_true.mp (List.all_eq_true.mp h x hx) y hy)
def fnF (x m : Str) : Fact := fun K => PySem.W.fnIn K (He.ma K (He.ga K x) m)
def mkF (x : Str) : Fact := fun K => (He.Fa.mkr x).ok K
def strF (x z : Str) : Fact := fun K => (He.Fa.str x z).ok K
def intF (x : Str) (i : Int) : Fact := fun K => (He.Fa.int x i).ok K
theorem err1_of {P : Program} {w : World} {K : Fg} {mg : Str → Option Value} {base : Heap} {x f : Str} {fd : FuncData} (h : errF x [f] K = true) (hk : takB K = true) (g : mg x = some (.ref (He.ga K x)))
    (G : FnOk P w K mg base L2.CX0 1 (He.ma K (He.ga K x) "__init__") fd ["self", f] (Vl.spIni (He.ga K x) f)) (b : L2.Binds K fd ["self", f] []) : Err1 P w K mg base x f (He.ga K x) := by
  obtain ⟨h1, h2⟩ := He.ba h
  obtain ⟨O, XF, IS⟩ := errB_ok h1 hk
  have I := iniB_ok h2
  exact ⟨O, XF, I.no f List.mem_cons_self, g, _, fd, I.iC, I.tI, b, G⟩
end Vh

set_option Elab.async false
set_option linter.all false
set_option maxRecDepth 100000
set_option maxHeartbeats 2000000
/-! The laws' own draws: a pool of three ints, names out of it. -/
namespace Vp
open PySem PySem.Spec PyProof.Rows L2 Vl Evl
/-- a text by its signs -/
def tx (l : List Nat) : Str := ⟨l.toArray⟩
theorem tx_list (l : List Nat) : (tx l).cps.toList = l := rfl
theorem tx_len (l : List Nat) : (tx l).length = l.length := rfl
theorem tx_app (a b : List Nat) : tx a ++ tx b = tx (a ++ b) := by
  show Str.mk (a.toArray ++ b.toArray) = Str.mk (a ++ b).toArray
  rw [List.append_toArray]
theorem tx_one (c : Nat) : (⟨#[c]⟩ : Str) = tx [c] := rfl
theorem tx_inj {a b : List Nat} (h : tx a = tx b) : a = b := by
  have := congrArg (fun z : Str => z.cps.toList) h
  exact this
theorem tx_of (z : Str) : z = tx z.cps.toList := by
  obtain ⟨a⟩ := z
  rfl
theorem tx_cut0 (l : List Nat) (k : Nat) : cutS (tx l) none (some (k : Int)) = tx (l.take k) := by
  show Str.mk _ = Str.mk _
  rw [HT.sIx_nat, HT.sIx_none, tx_len, tx_list, List.drop_zero, Nat.sub_zero, ← List.take_take, List.take_length]
theorem tx_cut1 (l : List Nat) (k : Nat) : cutS (tx l) (some (k : Int)) none = tx (l.drop k) := by
  show Str.mk _ = Str.mk _
  rw [HT.sIx_nat, HT.sIx_none, tx_len, tx_list]
  congr 2
  by_cases h : k ≤ l.length
  · rw [Nat.min_eq_left h, ← List.length_drop, List.take_length]
  · rw [List.drop_of_length_le (by omega), List.drop_of_length_le (by omega), List.take_nil]
def letters : List Nat := [97, 98, 99, 100, 101, 102, 103, 104, 105, 106, 107, 108, 109, 110, 111, 112, 113, 114, 115, 116, 117, 118, 119, 120, 121, 122]
def digits : List Nat := [48, 49, 50, 51, 52, 53, 54, 55, 56, 57]
def signs : List Nat := letters ++ digits
/-- the signs of a name: a small letter, then up to seven small letters and figures -/
def nam (l : List Nat) : Prop := ∃ c r, l = c :: r ∧ c ∈ letters ∧ (∀ x ∈ r, x ∈ signs) ∧ r.length ≤ 7
theorem nam_len {l : List Nat} (h : nam l) : 1 ≤ l.length ∧ l.length ≤ 8 := by
  obtain ⟨c, r, rfl, _, _, h4⟩ := h
  rw [List.length_cons]
  omega
theorem letters_signs {c : Nat} (h : c ∈ letters) : c ∈ signs := List.mem_append_left _ h
theorem nam_signs {l : List Nat} (h : nam l) : ∀ x ∈ l, x ∈ signs := by
  obtain ⟨c, r, rfl, h2, h3, _⟩ := h
  intro x hx
  rcases List.mem_cons.mp hx with rfl | hx
  · exact letters_signs h2
  · exact h3 x hx
theorem nam_take {l : List Nat} (h : nam l) (k : Nat) : nam (l.take (k + 1)) := by
  obtain ⟨c, r, rfl, h2, h3, h4⟩ := h
  refine ⟨c, r.take k, List.take_succ_cons, h2, fun x hx => h3 x (List.mem_of_mem_take hx), ?_⟩
  rw [List.length_take]
  omega
/-- a pool stands at p, its counter at most n -/
def PoolAt (H : Hp) (p : Addr) (n : Nat) : Prop := ∃ a b c : Int, H p = some (.lst [.int a, .int b, .int c]) ∧ 0 ≤ b ∧ b < 1000000007 ∧ 0 ≤ c ∧ c ≤ n
theorem PoolAt.mono {H : Hp} {p : Addr} {n m : Nat} (h : PoolAt H p n) (hm : n ≤ m) : PoolAt H p m := by
  obtain ⟨a, b, c, h1, h2, h3, h4, h5⟩ := h
  exact ⟨a, b, c, h1, h2, h3, h4, by omega⟩
/-- all but what stands at p -/
def Wo (H : Hp) (p : Addr) : Hp := fun b => if b = p then none else H b
theorem wo_self (H : Hp) (p : Addr) : Wo H p p = none := if_pos rfl
theorem wo_ne {H : Hp} {p b : Addr} (h : b ≠ p) : Wo H p b = H b := if_neg h
theorem wo_ex (H : Hp) (p : Addr) : Ex (Wo H p) H := fun b o e => by
  by_cases h : b = p
  · rw [h, wo_self] at e
    cases e
  · rw [wo_ne h] at e
    exact e
theorem wo_of {Hk H : Hp} {p : Addr} (h : Hk p = none) (e : Ex Hk H) : Ex Hk (Wo H p) := fun b o hb => by
  rw [wo_ne (ne_of_none hb h)]
  exact e b o hb
theorem wo_at {H : Hp} {p b : Addr} {o : HO} (h : H b = some o) (hb : b ≠ p) : Wo H p b = some o := by
  rw [wo_ne hb]
  exact h
/-- what is known is Hk, all but the pool at p; the pool stands there -/
structure Pl (Hk : Hp) (p : Addr) (n : Nat) (H : Hp) : Prop where
  no : Hk p = none
  ex : Ex Hk H
  at_ : PoolAt H p n
theorem Pl.re {Hk H : Hp} {p : Addr} {n : Nat} (h : Pl Hk p n H) : Pl (Wo H p) p n H := ⟨wo_self _ _, wo_ex _ _, h.at_⟩
theorem Pl.wo {Hk H : Hp} {p : Addr} {n : Nat} (h : Pl Hk p n H) : Ex Hk (Wo H p) := wo_of h.no h.ex
theorem Pl.grow {Hk H H' : Hp} {p : Addr} {n : Nat} (h : Pl Hk p n H) (e : Ex H H') : Pl Hk p n H' := by
  obtain ⟨a, b, c, h1, h2⟩ := h.at_
  exact ⟨h.no, h.ex.trans e, a, b, c, e _ _ h1, h2⟩
theorem Pl.cnt {Hk H : Hp} {p : Addr} {n m : Nat} (h : Pl Hk p n H) (hm : n ≤ m) : Pl Hk p m H := ⟨h.no, h.ex, h.at_.mono hm⟩
theorem Pl.sub {Hk Hj H : Hp} {p : Addr} {n : Nat} (h : Pl Hk p n H) (e : Ex Hj Hk) (hn : Hj p = none) : Pl Hj p n H := ⟨hn, e.trans h.ex, h.at_⟩
/-- a new object beside the pool -/
theorem Pl.new {Hk H : Hp} {p q : Addr} {n : Nat} {o : HO} (h : Pl Hk p n H) (hq : H q = none) : Pl Hk p n (upd H q o) := h.grow (Ex.new hq)
theorem Pl.ne {Hk H : Hp} {p q : Addr} {n : Nat} (h : Pl Hk p n H) (hq : H q = none) : q ≠ p := fun z => by
  obtain ⟨a, b, c, h1, _⟩ := h.at_
  rw [z, h1] at hq
  cases hq
/-! promises -/
def spPool : Sp := fun vs H Q _ => ∃ c : Int, vs = [.int c] ∧ ∀ p H', H p = none → Ex H H' → PoolAt H' p 0 → Q (.ref p) H'
def spTake : Sp := fun vs H Q _ => ∃ (p : Addr) (m : Int) (Hk : Hp) (n : Nat), vs = [.ref p, .int m] ∧ 1 ≤ m ∧ m ≤ 100000 ∧ Pl Hk p n H ∧ n ≤ 100000 ∧
  ∀ (r : Int) H', 0 ≤ r → r < m → Pl Hk p (n + 1) H' → Q (.int r) H'
/-- names, none of them twice -/
def Names (xs : List (List Nat)) : Prop := (∀ l ∈ xs, nam l) ∧ xs.Nodup
def vtx (xs : List (List Nat)) : List V := xs.map fun l => V.str (tx l)
theorem vtx_len (xs : List (List Nat)) : (vtx xs).length = xs.length := List.length_map _
theorem vtx_app (xs ys : List (List Nat)) : vtx (xs ++ ys) = vtx xs ++ vtx ys := List.map_append
theorem vtx_at {xs : List (List Nat)} {i : Nat} {l : List Nat} (h : xs[i]? = some l) : (vtx xs)[i]? = some (V.str (tx l)) := by
  unfold vtx
  rw [List.getElem?_map, h]
  rfl
def spNames : Sp := fun vs H Q _ => ∃ (p : Addr) (m : Nat) (Hk : Hp) (n : Nat), vs = [.ref p, .int (m : Int)] ∧ m ≤ 8 ∧ Pl Hk p n H ∧ n ≤ 90000 ∧
  ∀ q xs H', H q = none → Pl Hk p (n + 50) H' → H' q = some (.lst (vtx xs)) → xs.length = m → Names xs → Q (.ref q) H'
/-- words out of names -/
def spWord : Sp := fun vs H Q _ => ∃ (p q : Addr) (xs : List (List Nat)) (m : Nat) (Hk : Hp) (n : Nat), vs = [.ref p, .ref q, .int (m : Int)] ∧ 1 ≤ m ∧ m ≤ 30 ∧ Pl Hk p n H ∧ n ≤ 90000 ∧ Hk q = some (.lst (vtx xs)) ∧ 1 ≤ xs.length ∧ xs.length ≤ 1000 ∧
  ∀ d ys H', H d = none → Pl Hk p (n + 50) H' → H' d = some (.lst (vtx ys)) → 1 ≤ ys.length → ys.length ≤ max m 12 → (∀ y ∈ ys, y ∈ xs) → Q (.ref d) H'
theorem mod7 {s i j n : Nat} (hn : n = 26 ∨ n = 36) (hi : i < 26) (hj : j < 26) (h : (s + 7 * i) % n = (s + 7 * j) % n) : i = j := by
  rcases hn with rfl | rfl <;> omega
theorem mod3 {s i j : Nat} (hi : i < 8) (hj : j < 8) (h : (s + 3 * i) % 26 = (s + 3 * j) % 26) : i = j := by omega
theorem nodup_letters : letters.Nodup := by decide
theorem nodup_signs : signs.Nodup := by decide +kernel
theorem len_letters : letters.length = 26 := rfl
theorem len_signs : signs.length = 36 := rfl
theorem nodup_key {α : Type} {l : List α} (h : ∀ (i j : Nat) (y : α), l[i]? = some y → l[j]? = some y → i = j) : l.Nodup := by
  refine List.pairwise_iff_getElem.mpr fun i j hi hj hij e => ?_
  have := h i j l[i] (List.getElem?_eq_getElem hi) (by rw [e]; exact List.getElem?_eq_getElem hj)
  omega
theorem nodup_range {α : Type} {m : Nat} {f : Nat → α} (h : ∀ i j, i < m → j < m → f i = f j → i = j) : ((List.range m).map f).Nodup := by
  refine nodup_key fun i j y hi hj => ?_
  rw [List.getElem?_map] at hi hj
  by_cases a : i < m
  · by_cases b : j < m
    · rw [List.getElem?_range a] at hi
      rw [List.getElem?_range b] at hj
      exact h i j a b ((Option.some.inj hi).trans (Option.some.inj hj).symm)
    · rw [List.getElem?_eq_none (by rw [List.length_range]; omega)] at hj
      cases hj
  · rw [List.getElem?_eq_none (by rw [List.length_range]; omega)] at hi
    cases hi
theorem getD_at {l : List Nat} {i : Nat} (h : i < l.length) : l[i]? = some (l.getD i 0) := by
  rw [List.getElem?_eq_getElem h, List.getD_eq_getElem?_getD, List.getElem?_eq_getElem h]
  rfl
theorem getD_mem {l : List Nat} {i : Nat} (h : i < l.length) : l.getD i 0 ∈ l := List.mem_of_getElem? (getD_at h)
theorem getD_inj {l : List Nat} (hn : l.Nodup) {i j : Nat} (hi : i < l.length) (hj : j < l.length) (h : l.getD i 0 = l.getD j 0) : i = j :=
  nd_ix hn (getD_at hi) (by rw [h]; exact getD_at hj)
theorem nam_one {c : Nat} (h : c ∈ letters) : nam [c] := ⟨c, [], rfl, h, (fun _ z => nomatch z), by show 0 ≤ 7; omega⟩
theorem nam_snoc {l : List Nat} {c : Nat} (h : nam l) (hc : c ∈ signs) (hl : l.length ≤ 7) : nam (l ++ [c]) := by
  obtain ⟨a, r, rfl, h2, h3, h4⟩ := h
  refine ⟨a, r ++ [c], rfl, h2, fun x hx => ?_, ?_⟩
  · rcases List.mem_append.mp hx with hx | hx
    · exact h3 x hx
    · rw [List.mem_singleton.mp hx]
      exact hc
  · rw [List.length_append, List.length_singleton]
    rw [List.length_cons] at hl
    omega
theorem nam_cons {l : List Nat} {c : Nat} (hc : c ∈ letters) (hl : ∀ x ∈ l, x ∈ signs) (h7 : l.length ≤ 7) : nam (c :: l) := ⟨c, l, rfl, hc, hl, h7⟩
/-- a sign put into a stem -/
theorem nam_put {w : List Nat} {c t p : Nat} (hw : nam w) (ht : t ≤ 7) (hp : p ≤ (w.take t).length) (h : p = 0 → c ∈ letters) (h2 : c ∈ signs) :
    nam ((w.take t).take p ++ [c] ++ (w.take t).drop p) := by
  have hm : ∀ x ∈ w.take t, x ∈ signs := fun x hx => nam_signs hw x (List.mem_of_mem_take hx)
  have hl : (w.take t).length ≤ 7 := by rw [List.length_take]; omega
  cases p with
  | zero =>
    rw [List.take_zero, List.nil_append, List.drop_zero]
    exact nam_cons (h rfl) hm hl
  | succ p =>
    obtain ⟨a, r, hw1, ha, hr, h7⟩ := hw
    cases t with
    | zero =>
      rw [List.take_zero] at hp
      exact absurd hp (by show ¬ p + 1 ≤ 0; omega)
    | succ t =>
      rw [hw1, List.take_succ_cons] at hm hl hp ⊢
      rw [List.take_succ_cons, List.drop_succ_cons, List.append_assoc]
      rw [List.length_cons] at hl hp
      refine ⟨a, (r.take t).take p ++ ([c] ++ (r.take t).drop p), rfl, ha, fun x hx => ?_, ?_⟩
      · rcases List.mem_append.mp hx with hx | hx
        · exact hm x (List.mem_cons_of_mem _ (List.mem_of_mem_take hx))
        · rcases List.mem_append.mp hx with hx | hx
          · rw [List.mem_singleton.mp hx]
            exact h2
          · exact hm x (List.mem_cons_of_mem _ (List.mem_of_mem_drop hx))
      · rw [List.length_append, List.length_append, List.length_take, List.length_drop, List.length_singleton]
        omega
theorem put_at {w : List Nat} {c p : Nat} (hp : p ≤ w.length) : (w.take p ++ [c] ++ w.drop p)[p]? = some c := by
  rw [List.append_assoc, List.getElem?_append_right (by rw [List.length_take]; omega), List.length_take, Nat.min_eq_left hp, Nat.sub_self]
  rfl
theorem str_letters : Str.ofString "abcdefghijklmnopqrstuvwxyz" = tx letters := by decide +kernel
theorem str_digits : Str.ofString "0123456789" = tx digits := by decide +kernel
theorem rv_cats {a b : List Nat} {H : Hp} (h : a.length + b.length ≤ 100000) : RV rCatS (.str (tx a)) (.str (tx b)) H (.str (tx (a ++ b))) := by
  intro H1 _ Q q
  refine ⟨tx a, tx b, rfl, rfl, sz_of h, ?_⟩
  rw [tx_app]
  exact q H1 (Ex.refl H1)
theorem fresh_wo {H H' : Hp} {p d : Addr} {n m : Nat} {Hk : Hp} (h0 : Pl Hk p n H) (h : Pl (Wo H p) p m H') (hd : H' d = none) : H d = none := by
  cases e : H d with
  | none => rfl
  | some o =>
    have hp : d ≠ p := h.ne hd
    have := h.ex d o (wo_at e hp)
    rw [hd] at this
    cases this
theorem Pl.back {Hk H H' : Hp} {p : Addr} {n m : Nat} (h0 : Pl Hk p n H) (h : Pl (Wo H p) p m H') : Pl Hk p m H' := h.sub h0.wo h0.no
theorem cutV0 (xs : List V) (k : Nat) : cutV xs none (some (k : Int)) = xs.take k := by
  unfold cutV
  rw [HT.sIx_nat, HT.sIx_none, List.drop_zero, Nat.sub_zero, ← List.take_take, List.take_length]
theorem cutV1 (xs : List V) (k : Nat) : cutV xs (some (k : Int)) none = xs.drop k := by
  unfold cutV
  rw [HT.sIx_nat, HT.sIx_none]
  by_cases h : k ≤ xs.length
  · rw [Nat.min_eq_left h, ← List.length_drop, List.take_length]
  · rw [List.drop_of_length_le (by omega), List.drop_of_length_le (by omega), List.take_nil]
theorem vtx_take (xs : List (List Nat)) (k : Nat) : (vtx xs).take k = vtx (xs.take k) := List.map_take.symm
theorem vtx_drop (xs : List (List Nat)) (k : Nat) : (vtx xs).drop k = vtx (xs.drop k) := List.map_drop.symm
theorem vtx_rep (xs : List (List Nat)) : ∀ k, (List.replicate k (vtx xs)).flatten = vtx (List.replicate k xs).flatten
  | 0 => rfl
  | k + 1 => by
    rw [List.replicate_succ, List.flatten_cons, List.replicate_succ, List.flatten_cons, vtx_rep xs k, vtx_app]
theorem rep_len {α : Type} (xs : List α) : ∀ k, (List.replicate k xs).flatten.length = k * xs.length
  | 0 => by rw [Nat.zero_mul]; rfl
  | k + 1 => by
    rw [List.replicate_succ, List.flatten_cons, List.length_append, rep_len xs k, Nat.succ_mul]
    omega
theorem rep_mem {α : Type} {xs : List α} {y : α} {k : Nat} (h : y ∈ (List.replicate k xs).flatten) : y ∈ xs := by
  obtain ⟨l, hl, hy⟩ := List.mem_flatten.mp h
  rw [(List.mem_replicate.mp hl).2] at hy
  exact hy
end Vp

set_option Elab.async false
set_option linter.all false
set_option maxRecDepth 100000
set_option maxHeartbeats 4000000
/-! o op y by an own operator, y of a built-in type; what the head says of it. -/
namespace Vw
open PySem PySem.Spec PyProof.Rows L2 Vl Evl Vp Vo Vc Vh
/-- values of built-in types, with the type's name -/
def Wr (y : V) (H : Hp) (t : String) : Prop := (∃ b, y = .bl b ∧ t = "bool") ∨ (∃ i, y = .int i ∧ t = "int") ∨ (∃ z, y = .str z ∧ t = "str") ∨ (y = .non ∧ t = "NoneType") ∨
  (∃ a xs, y = .ref a ∧ H a = some (.tup xs) ∧ t = "tuple") ∨ (∃ a xs, y = .ref a ∧ H a = some (.lst xs) ∧ t = "list")
theorem Wr.tyx {K : PySem.W.Frag} {y : V} {H : Hp} {t : String} (h : Wr y H t) : TyX K H y (.type t) := by
  rcases h with ⟨b, rfl, rfl⟩ | ⟨b, rfl, rfl⟩ | ⟨b, rfl, rfl⟩ | ⟨rfl, rfl⟩ | ⟨a, xs, rfl, ha, rfl⟩ | ⟨a, xs, rfl, ha, rfl⟩
  · exact .base (.bl b)
  · exact .base (.int b)
  · exact .base (.str b)
  · exact .base .non
  · exact .base (.tup ha)
  · exact .base (.lst ha)
theorem Wr.mem {y : V} {H : Hp} {t : String} (h : Wr y H t) : t ∈ ["bool", "int", "str", "NoneType", "tuple", "list"] := by
  rcases h with ⟨b, rfl, rfl⟩ | ⟨b, rfl, rfl⟩ | ⟨b, rfl, rfl⟩ | ⟨rfl, rfl⟩ | ⟨a, xs, rfl, ha, rfl⟩ | ⟨a, xs, rfl, ha, rfl⟩ <;> decide
theorem looks_ty {M : Model} {s : Shared} {v : Value} {t : String} (h : s.TypeIs v t) : PySem.W.Looks M s.heap (typeOf v) (.type t) := fun A Q E s' k q => by
  refine wpAny_typeOf ?_ q
  cases v with
  | ref a =>
    obtain ⟨o, h1, h2⟩ := (show ∃ o, s.heap.get? a = some o ∧ o.cls = .type t from h)
    exact ⟨o, k _ _ h1, h2⟩
  | _ => exact h
theorem Wr.looks {X : Cx} {pins : List (Addr × Obj)} {st : L2.St} {H : Hp} {s : Shared} {y : V} {u : Value} {t : String} (I : Inv X pins st H s) (r : RelV y u) (h : Wr y H t) : PySem.W.Looks (model X.prog X.w) s.heap (typeOf u) (.type t) := by
  rcases h with ⟨b, rfl, rfl⟩ | ⟨b, rfl, rfl⟩ | ⟨b, rfl, rfl⟩ | ⟨rfl, rfl⟩ | ⟨a, xs, rfl, ha, rfl⟩ | ⟨a, xs, rfl, ha, rfl⟩
  · cases r
    exact .of_pure rfl
  · obtain ⟨t, rfl⟩ := r
    exact .of_pure rfl
  · obtain ⟨t, rfl⟩ := r
    exact .of_pure rfl
  · cases r
    exact .of_pure rfl
  · cases r
    obtain ⟨its, r', ht, hz⟩ := I.tuple (xs := xs) (.inl (.inl ha))
    exact looks_ty (IsTup.typeIs ht)
  · cases r
    obtain ⟨its, r', ht, hz⟩ := I.list (xs := xs) (sq_of ha)
    exact looks_ty ht.isList.typeIs
abbrev tyNames : List String := ["bool", "int", "str", "NoneType", "tuple", "list"]
structure Ow (P : Program) (w : World) (K : PySem.W.Frag) (mg : Str → Option Value) (base : Heap) (C : Addr) (CX : CXT) (k : Nat) (nm : String) (sp : Sp) : Prop where
  ex : ∃ (f : Addr) (fd : FuncData) (ps : List Str), FnOk P w K mg base CX k f fd ps sp ∧ OwnOp K C nm f ∧ L2.Binds K fd ps []
  far : ∀ t ∈ tyNames, Far K C nm t
def tOw (C : Addr) (sp : Sp) (E : L2.St → XK) (ta tb : TE) : TE := fun st H Q => ta st H fun x H1 => tb st H1 fun y H2 => ∃ o dx fs t, x = .ref o ∧ H2 o = some (.ins C dx fs) ∧ Wr y H2 t ∧ sp [x, y] H2 Q (E st)
section
variable {X : Cx} {C : Addr} {j k : Nat} {sp : Sp} {E : L2.St → XK} {pos : Pos} {a b : Expr} {ta tb : TE} {op : Operator}
theorem pe_owX (T : Ow X.prog X.w X.K X.mg X.base C (L2.CX X.prog X.w) k op.info.2 sp) (hr : Room j X.A) (hx : ∀ st, PassesAt (L2.CX X.prog X.w) X st (E st)) (ha : PE X a ta) (hi : PE X b tb) (hk : k ≤ j := by decide) : PE X (.BinOp a op b pos) (tOw C sp E ta tb) := by
  obtain ⟨f, fd, ps, F, W, B⟩ := T.ex
  exact pe_binO W (fun y H t h => T.far t h.mem) (fun pins st H s y u t I r h => Wr.looks I r h) F (hr.mono hk) B hx ha hi
theorem pe_owN (T : Ow X.prog X.w X.K X.mg X.base C (L2.CX X.prog X.w) k op.info.2 sp) (hr : Room j X.A) (ha : PE X a ta) (hi : PE X b tb) (hk : k ≤ j := by decide) : PE X (.BinOp a op b pos) (tOw C sp (fun _ => nil0) ta tb) :=
  pe_owX (E := fun _ => nil0) T hr (fun σ => Vtr.passNo σ) ha hi hk
end
/-! the head -/
def opB (K : Fg) (C : Addr) (nm : String) : Bool := PySem.W.selfFirst K C && (He.eqO (PySem.W.findIn K (.ref C) (PySem.dunder nm)) (some (some (.ref (He.ma K C (PySem.dunder nm))))) && (PySem.W.isFn K (.ref (He.ma K C (PySem.dunder nm))) && He.eqO (PySem.W.findIn K (.ref C) (dunderR nm)) (some none)))
def farB (K : Fg) (C : Addr) (nm t : String) : Bool := (PySem.W.findIn K (.type t) (PySem.dunder nm)).isSome && ((PySem.W.findIn K (.type t) (dunderR nm)).isSome && decide (PySem.W.subIn K (.type t) (.ref C) = some false))
def owF (x : Str) (nm : String) : Fact := fun K => opB K (He.ga K x) nm && tyNames.all fun t => farB K (He.ga K x) nm t
theorem owF_ok {x : Str} {nm : String} {K : Fg} (h : owF x nm K = true) : OwnOp K (He.ga K x) nm (He.ma K (He.ga K x) (PySem.dunder nm)) ∧ ∀ t ∈ tyNames, Far K (He.ga K x) nm t := by
  obtain ⟨h, g⟩ := He.ba h
  obtain ⟨h1, h⟩ := He.ba h
  obtain ⟨h2, h⟩ := He.ba h
  obtain ⟨h3, h4⟩ := He.ba h
  refine ⟨⟨h1, He.eqO_ok h2, h3, He.eqO_ok h4⟩, fun t ht => ?_⟩
  obtain ⟨g1, g⟩ := He.ba (List.all_eq_true.mp g t ht)
  obtain ⟨g2, g3⟩ := He.ba g
  exact ⟨Option.isSome_iff_exists.mp g1, Option.isSome_iff_exists.mp g2, of_decide_eq_true g3⟩
/-- what the class is not -/
def tyF (x : Str) : Fact := fun K => tyNames.all fun t => PySem.W.notFirst K (He.ga K x) (.type t) && decide (PySem.W.kitOne K (.type t) (.ref (He.ga K x)) = some false)
theorem tyF_ok {x : Str} {K : Fg} (h : tyF x K = true) : (∀ t ∈ tyNames, PySem.W.notFirst K (He.ga K x) (.type t) = true) ∧ ∀ t ∈ tyNames, PySem.W.kitOne K (.type t) (.ref (He.ga K x)) = some false := by
  refine ⟨fun t ht => (He.ba (List.all_eq_true.mp h t ht)).1, fun t ht => of_decide_eq_true (He.ba (List.all_eq_true.mp h t ht)).2⟩
/-- isinstance(o, C) -/
def insF (x : Str) : Fact := fun K => He.eqO (PySem.W.findIn K (.ref (He.ga K x)) "__class__") (some (some (.builtin "object.__class__"))) && (decide (PySem.W.mroIn K (He.ga K x) (.type "object") = some true) && decide (PySem.W.kitOne K (.ref (He.ga K x)) (.ref (He.ga K x)) = some true))
theorem insF_ok {x : Str} {K : Fg} (c : L2.Cls K (He.ga K x)) (h : insF x K = true) (hk : takB K = true) : C8.InsC K (He.ga K x) := by
  obtain ⟨h1, h⟩ := He.ba h
  obtain ⟨h2, h3⟩ := He.ba h
  obtain ⟨k1, k2⟩ := He.ba hk
  exact ⟨c, He.eqO_ok h1, He.eqO_ok k1, of_decide_eq_true k2, of_decide_eq_true h2, of_decide_eq_true h3⟩
def neF (x : Str) : Fact := fun K => Vo.neB K (He.ga K x) (He.ma K (He.ga K x) "__eq__")
end Vw

set_option Elab.async false
set_option linter.all false
set_option maxRecDepth 100000
set_option maxHeartbeats 2000000
/-! tuple(d) of a dict: its keys. -/
namespace Vd
open PySem PySem.Spec PyProof.Rows PySem.W
section
variable {prog : Program} {w : World} {A : Around} {E : Value → Shared → Prop} {s : Shared} {T : String} {r d : Addr} {n : Nat} {P : Nat → Value → Prop} {OK : Heap → Prop}
theorem collect_kdl {Q : List Value → Shared → Prop} (K : KdlSrc prog w T r d n P OK) (hh : A.handled = none) (hok : OK s.heap) (hn : n ≤ sizeLine)
    (hQ : ∀ (h' : Heap) (tk : Nat) (acc : Array Value), (∀ b o, s.heap.get? b = some o → h'.get? b = some o) → ItemsOf P acc n → Q acc.toList { s with heap := h', toks := tk }) :
    wpAny (model prog w) A (collect (.ref r)) Q E s := by
  have lt := K.there _ hok
  have hSr : s.heap.objs.size ≠ r := Nat.ne_of_gt lt.1
  have hSd : s.heap.objs.size ≠ d := Nat.ne_of_gt lt.2
  unfold collect
  refine wpAny_bind (wpAny_runValue (codeAny_builtin F.entry_proto_collect ?_))
  rw [Around.under_plainId F.plain_proto_collect _]
  show wpAny _ A.in1 (newList [] >>= fun l' => again (.builtin "list.__iadd__" ⟨[l', .ref r], []⟩)) _ _ s
  refine wpAny_bind (wpAny_newObj_type ?_)
  refine wpAny_pure ⟨plainId_quiet F.plain_list_iadd _, codeAny_builtin F.entry_list_iadd ?_⟩
  rw [Around.under_plainId F.plain_list_iadd _]
  have hS₁ : (s.heap.push { cls := .type "list", data := .seq ([] : List Value).toArray }).get? s.heap.objs.size = some { cls := .type "list", data := .seq ([] : List Value).toArray } := Heap.get?_push_size _ rfl
  show wpAny _ A.in1 (Builtin.List.listExtendWith (.ref s.heap.objs.size) (.ref r) (.ref s.heap.objs.size)) _ _ _
  refine kdl_extend (R := wants _ E) (A := A) (s := { s with heap := s.heap.push { cls := .type "list", data := .seq ([] : List Value).toArray } }) K hh (K.keep _ _ hok fun b _ o e => Heap.get?_push_of_some _ e) s.heap.objs.size hSr hSd (.ref s.heap.objs.size) 0 hS₁ (fun h' tk acc' c' hk hS' hacc => ?_) hn
  show wpAny _ A (load s.heap.objs.size >>= _) _ _ _
  refine wpAny_bind (wpAny_load hS' ?_)
  refine wpAny_pure ?_
  exact hQ h' tk acc' (fun b o e => hk b o (Nat.ne_of_lt (Heap.lt_size e)) (Heap.get?_push_of_some _ e)) hacc
theorem code_tuple_kdl {Q₁ : Value → Shared → Prop} (K : KdlSrc prog w T r d n P OK) (hh : A.handled = none) (hok : OK s.heap) (hn : n ≤ sizeLine)
    (h : ∀ (h' : Heap) (tk : Nat) (acc : Array Value), (∀ b o, s.heap.get? b = some o → h'.get? b = some o) → ItemsOf P acc n → Q₁ (.ref h'.objs.size) { s with heap := h'.push { cls := .type "tuple", data := .seq acc }, toks := tk }) :
    codeAny (model prog w) A (.call (.builtin "tuple.__new__") ⟨[.type "tuple", .ref r], []⟩) (wants Q₁ E) s := by
  refine codeAny_of_tree ?_
  show wpAny _ A.in1 (do checkBuiltinCall "tuple.__new__" ⟨[.type "tuple", .ref r], []⟩; again (.builtin "tuple.__new__" ⟨[.type "tuple", .ref r], []⟩)) _ _ s
  refine wpAny_bind (wpAny_of_eq (F.newCall_tuple_1 _) (wpAny_pure ⟨plainId_quiet F.plain_tuple_new _, codeAny_builtin F.entry_tuple_new ?_⟩))
  rw [Around.under_plainId F.plain_tuple_new _]
  have hsub := sub_tuple_self
  have hinit := init_tuple_lookup
  have hmh := madeHere_tuple
  have hTI : s.TypeIs (.ref r) T := K.type s hok
  have hnt := K.notTuple
  have hh1 : A.in1.handled = none := hh
  wp_walk using wpAny_typeOf hTI, collect_kdl (A := A.in1) K hh1 hok hn
  intro h' tk acc hk hacc
  show wpAny _ _ (Builtin.Tuple.tupleExact acc.toList.toArray >>= fun v => ret v) _ _ _
  unfold Builtin.Tuple.tupleExact
  refine wpAny_bind (wpAny_newObj_type ?_ (by show acc.toList.toArray.size ≤ sizeLine; simp only [Array.toArray_toList]; rw [hacc.1]; exact hn))
  refine wpAny_pure ?_
  have e : acc.toList.toArray = acc := by simp
  rw [e]
  exact h h' tk acc hk hacc
theorem call_tuple_kdl {Q : Value → Shared → Prop} (K : KdlSrc prog w T r d n P OK) (hh : A.handled = none) (hok : OK s.heap) (hn : n ≤ sizeLine)
    (hQ : ∀ (h' : Heap) (tk : Nat) (acc : Array Value), (∀ b o, s.heap.get? b = some o → h'.get? b = some o) → ItemsOf P acc n → Q (.ref h'.objs.size) { s with heap := h'.push { cls := .type "tuple", data := .seq acc }, toks := tk }) :
    wpAny (model prog w) A (call (.type "tuple") [.ref r]) Q E s := by
  refine callType_codes (Q₁ := fun obj s₁ => s₁.TypeIs obj "tuple" ∧ Q obj s₁) F.called_tuple (F.typeCall_tuple_1 _) F.entry_object_init
    (code_tuple_kdl (A := A.in1) K hh hok hn fun h' tk acc hk hacc => ⟨⟨_, Heap.get?_push_size _ rfl, rfl⟩, hQ h' tk acc hk hacc⟩) fun obj s₁ h₁ => ?_
  exact ⟨h₁.1, F.args_object_init_2 obj _, object_init_meets F.called_tuple.init.lookup F.called_tuple.made (by decide) prog w A.in1 _ s₁ ⟨h₁.1, rfl, h₁.2⟩⟩
end
section
open L2
variable {X : Cx}
/-- tuple(d): its keys -/
theorem call_tupleD (hcalm : X.calm = true) : CallR X (.type "tuple") (fun xs H Q => ∃ (a : Addr) (kvs : List (L2.Key × V)), xs = [.ref a] ∧ Rd H a (.dK kvs) ∧ ∀ p, H p = none → Q (.ref p) (upd H p (.tup (kvs.map fun kv => kV kv.1)))) := by
  intro pins s σ H xs us Q I r q
  obtain ⟨a, kvs, ex, hd, q⟩ := q
  subst ex
  obtain ⟨u, eu, rx⟩ := vals1 r
  subst eu
  cases rx
  obtain ⟨z, lo, vs, rel, dd⟩ := dk_rd I.hok hd
  obtain ⟨ep, hat⟩ := dd.dictAt
  have ek : (kvs.map fun kv => kV kv.1) = vs.map fun p => kV p.1 := by
    have e := congrArg (List.map kV) rel.keys
    rw [List.map_map, List.map_map] at e
    exact e
  refine call_tuple_kdl (PySem.W.kdl_dict (knd := mixKind X.prog X.w) (kvs := vs) (ep := ep) lo) (I.ok.hd hcalm) hat (by rw [← rel.length]; exact z) fun h' tk acc hk hacc => ?_
  have hv : Vals (vs.map fun p => kV p.1) acc.toList := keys_at (by rw [Array.length_toList]; exact hacc.1) fun j v e => hacc.2 j v (by rw [← Array.getElem?_toList]; exact e)
  have I1 : Inv X pins σ H { s with heap := h', toks := tk } := I.kept (t' := tk) hk
  refine ⟨.ref h'.objs.size, upd H h'.objs.size (.tup (kvs.map fun kv => kV kv.1)), I1.laid (t' := tk) (fun b o e => Heap.get?_push_of_some _ e) (Nat.le_refl _)
    (show ObjOk X.prog X.w _ _ _ (.tup (kvs.map fun kv => kV kv.1)) from ⟨by rw [List.length_map]; exact z, acc.toList, by rw [ek]; exact hv, by rw [Array.toArray_toList]; exact IsTup.new _ _⟩), rfl, q _ (I1.hok.fresh (Nat.le_refl _))⟩
end
end Vd

set_option maxRecDepth 100000
namespace K61
open PySem
def top (i : Nat) : Stmt := PySem.Challenge.pw_alsoshown_k61_known_by_windows.main.body.getD i (.Pass ⟨0, 0, 0, 0⟩)
end K61

set_option Elab.async false
set_option linter.all false
set_option maxRecDepth 100000
set_option maxHeartbeats 4000000
namespace K61
open PySem PySem.Spec PyProof.Rows L2 Vl Evl Vp
abbrev sCell : Stmt := top 34
abbrev sPool : Stmt := top 35
abbrev sTake : Stmt := top 36
abbrev FnP (K : PySem.W.Frag) (x : Str) (st : Stmt) (f : Addr) (fd : FuncData) : Prop := FunD K x x (defArgs st) (defBody st) (defScope st) [] [] f fd
section
variable {P : Program} {w : World} {K : PySem.W.Frag} {mg : Str → Option Value} {base : Heap}
theorem scC : FnScope ["_law_script", "_law_k"] ["_law_script", "_law_k"] (defScope sCell) := ⟨rfl, rfl, rfl, by decide +kernel, rfl, by decide +kernel, by decide +kernel⟩
theorem ok_cell {f : Addr} {fd : FuncData} (F : FnP K "_law_cell" sCell f fd) (mL : mg "len" = none) :
    FnOk P w K mg base CX0 1 f fd ["_law_script", "_law_k"] (spCell K) := by
  refine F.ok (CX := CX0) scC (fun vs H Q E h => ?_) (fun cdv A outer s H vs Q E hr h => ?_)
  · obtain ⟨l, ns, j, rfl, _⟩ := h
    rfl
  · refine ⟨_, pss_cons (ps_if (pt_cmpR op_lt (pv 1) (pe_callB call_len (by rfl) mL boot_len (pa_cons (pv 0) pa_nil)) (nomark _))
        (pss_one (ps_ret (pe_ix ix_seq (pv 0) (pv 1) fun _ _ => rfl))) pss_nil)
      (pss_one (ps_ret pe_int)), ?_⟩
    obtain ⟨l, ns, j, rfl, hs, q⟩ := h
    refine ⟨_, rfl, _, rfl, V.ref l, (ns.map V.int).length, rfl, .inl ⟨_, hs, rfl⟩, (j : Nat), ((ns.map V.int).length : Nat), rfl, rfl, _, rfl, ?_⟩
    by_cases hj : j < ns.length
    · rw [decide_eq_true (show ((j : Nat) : Int) < (((ns.map V.int).length : Nat) : Int) by rw [List.length_map]; omega)]
      refine iteT ?_
      exact ⟨_, rfl, _, rfl, .inl ⟨l, _, _, _, rfl, rfl, hs, atI_cell hj, q⟩⟩
    · rw [decide_eq_false (show ¬ ((j : Nat) : Int) < (((ns.map V.int).length : Nat) : Int) by rw [List.length_map]; omega)]
      refine iteF ?_
      rw [cell_out hj] at q
      exact q
theorem scP : FnScope ["_law_cell_here", "_law_folded"] ["_law_cell_here"] (defScope sPool) := ⟨rfl, rfl, rfl, by decide +kernel, rfl, by decide +kernel, by decide +kernel⟩
theorem ok_pool {f : Addr} {fd : FuncData} (F : FnP K "_law_pool" sPool f fd) (mI : mg "int" = none) :
    FnOk P w K mg base CX0 1 f fd ["_law_cell_here"] spPool := by
  refine F.ok (CX := CX0) scP (fun vs H Q E h => ?_) (fun cdv A outer s H vs Q E hr h => ?_)
  · obtain ⟨c, rfl, _⟩ := h
    rfl
  · refine ⟨_, pss_cons (ps_set (i := 1) scP.nd rfl (by first | exact Or.inl rfl | exact Or.inr rfl) (pe_op op_mul pe_int (pv 0)))
      (pss_cut (ps_if (pt_cmpR op_lt (pv 0) pe_int (nomark _)) (pss_one (ps_set (i := 1) scP.nd rfl (by first | exact Or.inl rfl | exact Or.inr rfl) (pe_op op_sub (pe_op op_sub pe_int (pe_op op_mul pe_int (pv 0))) pe_int))) pss_nil)
      (pss_cons (ps_if (pt_cmpR op_ge (pv 1) (pe_op op_pow pe_int pe_int) (nomark _)) (pss_one (ps_ret (pe_lst (pa_cons (pv 1) (pa_cons (pe_op op_mod (pe_callTy call_int1 (by rfl) mI (by decide +kernel) (pa_cons (pv 1) pa_nil)) pe_int) (pa_cons pe_int pa_nil)))))) pss_nil)
      (pss_one (ps_ret (pe_lst (pa_cons pe_int (pa_cons (pe_op op_mod (pe_callTy call_int1 (by rfl) mI (by decide +kernel) (pa_cons (pv 1) pa_nil)) pe_int) (pa_cons pe_int pa_nil)))))))), ?_⟩
    obtain ⟨c, rfl, q⟩ := h
    refine s_asg (v := .int (2 * c)) (ev_op ev_c (ev_var rfl) (rv_I (.inl ⟨by decide, by decide⟩))) fun H1 e1 => ?_
    refine ⟨fun st H2 => Ex H H2 ∧ ∃ g : Int, st = [some (.int c), some (.int g)], ?_, ?_⟩
    · refine s_if (b := decide (c < 0)) (et_test (ev_op (ev_var rfl) ev_c rv_I0)) (fun _ H2 e2 => ?_) (fun _ H2 e2 => ?_)
      · refine s_asg (v := .int (0 - 2 * c - 1)) (ev_op (ev_op ev_c (ev_op ev_c (ev_var rfl) (rv_I (.inl ⟨by decide, by decide⟩))) rv_I0) ev_c rv_I0) fun H3 e3 => ?_
        exact ⟨e1.trans (e2.trans e3), _, rfl⟩
      · exact ⟨e1.trans e2, _, rfl⟩
    rintro _ H2 ⟨e2, g, rfl⟩
    have fin : ∀ (a : Int) (H3 : Hp), Ex H H3 → ∀ p, H3 p = none → Q (.ref p) (upd H3 p (.lst [.int a, .int (g % 1000000007), .int 0])) := fun a H3 e3 p np =>
      q p _ (fresh_back e3 np) (e3.trans (Ex.new np)) ⟨a, _, 0, upd_same, Int.emod_nonneg _ (by decide), Int.emod_lt_of_pos _ (by decide), Int.le_refl 0, Int.le_refl 0⟩
    have ei : Ev (tOp (rI (fun _ j => 0 < j) fun i j => .int (i % j)) (tCB (fun xs H Q => (∃ i, xs = [.int i] ∧ Q (.int i) H) ∨ ∃ k, xs = [.bl k] ∧ Q (.int (if k then 1 else 0)) H) (tCons (tVar 1) tNil)) (tC (.int 1000000007)))
        [some (.int c), some (.int g)] H2 (.int (g % 1000000007)) :=
      ev_op (ev_cb (ea_cons (ev_var rfl) ea_nil) (fun H1 _ Q q => .inl ⟨_, rfl, q H1 (Ex.refl H1)⟩)) ev_c (rv_I (by show (0 : Int) < 1000000007; decide))
    refine s_seq ?_
    refine s_if (b := decide ((10 : Int) ^ (18 : Int).toNat ≤ g)) (et_test (ev_op (ev_var rfl) (ev_op ev_c ev_c (rv_I ⟨by decide, by decide, by decide⟩)) rv_I0)) (fun _ H3 e3 => ?_) (fun _ H3 e3 => ?_)
    · exact ⟨_, rfl, ei.mono e3 H3 (Ex.refl H3) _ fun H4 e4 => ⟨by show 3 ≤ sizeLine; decide, fun p np => fin g H4 (e2.trans (e3.trans e4)) p np⟩⟩
    · exact ei.mono e3 H3 (Ex.refl H3) _ fun H4 e4 => ⟨by show 3 ≤ sizeLine; decide, fun p np => fin 0 H4 (e2.trans (e3.trans e4)) p np⟩
theorem scT : FnScope ["_law_pool_here", "_law_many", "_law_draw", "_law_mixed_here"] ["_law_pool_here", "_law_many"] (defScope sTake) := ⟨rfl, rfl, rfl, by decide +kernel, rfl, by decide +kernel, by decide +kernel⟩
theorem ok_take {f : Addr} {fd : FuncData} (F : FnP K "_law_take" sTake f fd) (mI : mg "int" = none) :
    FnOk P w K mg base CX0 1 f fd ["_law_pool_here", "_law_many"] spTake := by
  refine F.ok (CX := CX0) scT (fun vs H Q E h => ?_) (fun cdv A outer s H vs Q E hr h => ?_)
  · obtain ⟨p, m, Hk, n, rfl, _⟩ := h
    rfl
  · refine ⟨_, pss_cons (ps_if (pt_cmpR op_gt (pe_ix ix_list (pv 0) pe_int fun _ _ => rfl) pe_int (nomark _))
        (pss_cons (ps_set (i := 2) scT.nd rfl (by first | exact Or.inl rfl | exact Or.inr rfl) (pe_op op_mod (pe_callTy call_int1 (by rfl) mI (by decide +kernel) (pa_cons (pe_ix ix_list (pv 0) pe_int fun _ _ => rfl) pa_nil)) (pv 1)))
        (pss_cons (ps_asg (pe_op op_fdivN (pe_ix ix_list (pv 0) pe_int fun _ _ => rfl) (pv 1)) (pg_sub (pv 0) pe_int set_list))
        (pss_one (ps_ret (pv 2))))) pss_nil)
      (pss_cons (ps_asg (pe_op op_add (pe_ix ix_list (pv 0) pe_int fun _ _ => rfl) pe_int) (pg_sub (pv 0) pe_int set_list))
      (pss_cons (ps_set (i := 3) scT.nd rfl (by first | exact Or.inl rfl | exact Or.inr rfl) (pe_op op_mod (pe_callTy call_int1 (by rfl) mI (by decide +kernel) (pa_cons (pe_op op_pow (pe_op op_add (pe_op op_add (pe_ix ix_list (pv 0) pe_int fun _ _ => rfl) (pe_op op_mul pe_int (pe_ix ix_list (pv 0) pe_int fun _ _ => rfl))) pe_int) pe_int) pa_nil)) pe_int))
      (pss_one (ps_ret (pe_op op_mod (pe_op op_mod (pe_callTy call_int1 (by rfl) mI (by decide +kernel) (pa_cons (pe_op op_mul (pe_op op_add (pv 3) (pe_ix ix_list (pv 0) pe_int fun _ _ => rfl)) pe_int) pa_nil)) pe_int) (pv 1)))))), ?_⟩
    obtain ⟨p, m, Hk, n, rfl, hm, hm2, hp, hn, q⟩ := h
    obtain ⟨a, b, c, ha, hb0, hb1, hc0, hc1⟩ := hp.at_
    have it : ∀ (j : Nat) (x : Int) (us : List V) (H1 : Hp), H1 p = some (.lst us) → us[j]? = some (.int x) → ∀ {t2 t3 : Option V}, Ev (tOp (rIxL K) (tVar 0) (tC (.int (j : Int)))) [some (.ref p), some (.int m), t2, t3] H1 (.int x) := fun j x us H1 h1 h2 t2 t3 =>
      ev_op (ev_var rfl) ev_c (rv_ixL (sq_of h1) (at_of rfl h2))
    have ti : ∀ {te : TE} {st : L2.St} {H1 : Hp} {i : Int}, Ev te st H1 (.int i) → Ev (tCB (fun xs H Q => (∃ i, xs = [.int i] ∧ Q (.int i) H) ∨ ∃ k, xs = [.bl k] ∧ Q (.int (if k then 1 else 0)) H) (tCons te tNil)) st H1 (.int i) :=
      fun h => ev_cb (ea_cons h ea_nil) (fun H1 _ Q q => .inl ⟨_, rfl, q H1 (Ex.refl H1)⟩)
    refine s_seq ?_
    refine s_if (b := decide (0 < a)) (et_test (ev_op (it 0 a _ H ha rfl) ev_c rv_I0)) (fun _ H1 e1 => ?_) (fun _ H1 e1 => ?_)
    · have h1 := e1 _ _ ha
      refine s_seq ?_
      refine s_asg (v := .int (a % m)) (ev_op (ti (it 0 a _ H1 h1 rfl)) (ev_var rfl) (rv_I (show 0 < m by omega))) fun H2 e2 => ?_
      dsimp only
      refine s_seq ?_
      refine s_setL (j := 0) (v := .int (a.fdiv m)) (e2 _ _ h1) (ev_op (it 0 a _ H2 (e2 _ _ h1) rfl) (ev_var rfl) (rv_I ⟨show m ≠ 0 by omega, show m.natAbs < 1073741824 by omega⟩)) (ev_var rfl) ev_c (by show 0 < 3; omega) fun H3 e3 => ?_
      dsimp only
      refine s_ret (v := .int (a % m)) (ev_var rfl) fun H4 e4 => ?_
      refine q _ _ (Int.emod_nonneg _ (by omega)) (Int.emod_lt_of_pos _ (by omega)) ?_
      refine ⟨hp.no, (Ex.mut (hp.ex.trans (e1.trans (e2.trans e3))) hp.no).trans e4, a.fdiv m, b, c, e4 _ _ upd_same, hb0, hb1, hc0, by omega⟩
    · have h1 := e1 _ _ ha
      dsimp only
      refine s_seq ?_
      refine s_setL (j := 2) (v := .int (c + 1)) h1 (ev_op (it 2 c _ H1 h1 rfl) ev_c rv_I0) (ev_var rfl) ev_c (by show 2 < 3; omega) fun H2 e2 => ?_
      have h2 : (upd H2 p (.lst [.int a, .int b, .int (c + 1)])) p = some (.lst [.int a, .int b, .int (c + 1)]) := upd_same
      have x2 : Ex Hk (upd H2 p (.lst [.int a, .int b, .int (c + 1)])) := Ex.mut (hp.ex.trans (e1.trans e2)) hp.no
      show tSeq _ _ _ _ (upd H2 p (.lst [.int a, .int b, .int (c + 1)]))
      generalize upd H2 p (.lst [.int a, .int b, .int (c + 1)]) = H3 at h2 x2
      refine s_seq ?_
      refine s_asg (v := .int ((b + 7919 * (c + 1) + 104729) ^ (5 : Int).toNat % 2147483647)) (ev_op (ti (ev_op (ev_op (ev_op (it 1 b _ H3 h2 rfl) (ev_op ev_c (it 2 (c + 1) _ H3 h2 rfl) (rv_I (.inl ⟨by decide, by decide⟩))) rv_I0) ev_c rv_I0) ev_c (rv_I ⟨by decide, by decide, by show (b + 7919 * (c + 1) + 104729).natAbs < 2 ^ 64; omega⟩))) ev_c (rv_I (by show (0 : Int) < 2147483647; decide))) fun H4 e4 => ?_
      dsimp only
      have hz0 : 0 ≤ (b + 7919 * (c + 1) + 104729) ^ (5 : Int).toNat % 2147483647 := Int.emod_nonneg _ (by decide)
      have hz1 : (b + 7919 * (c + 1) + 104729) ^ (5 : Int).toNat % 2147483647 < 2147483647 := Int.emod_lt_of_pos _ (by decide)
      generalize (b + 7919 * (c + 1) + 104729) ^ (5 : Int).toNat % 2147483647 = z at hz0 hz1
      have h4 := e4 _ _ h2
      refine s_ret (v := .int ((z + (c + 1)) * 40692 % 2147483629 % m)) (ev_op (ev_op (ti (ev_op (ev_op (ev_var rfl) (it 2 (c + 1) _ H4 h4 rfl) rv_I0) ev_c (rv_I (.inr ⟨by decide, by decide⟩)))) ev_c (rv_I (by show (0 : Int) < 2147483629; decide))) (ev_var rfl) (rv_I (show 0 < m by omega))) fun H5 e5 => ?_
      refine q _ _ (Int.emod_nonneg _ (by omega)) (Int.emod_lt_of_pos _ (by omega)) ?_
      exact ⟨hp.no, x2.trans (e4.trans e5), a, b, c + 1, e5 _ _ h4, hb0, hb1, by omega, by omega⟩
end
end K61

set_option Elab.async false
set_option linter.all false
set_option maxRecDepth 100000
set_option maxHeartbeats 4000000
namespace K61
open PySem PySem.Spec PyProof.Rows L2 Vl Evl Vp
theorem el_cat2 {ta tb : TE} {σ : L2.St} {H : Hp} {xs ys : List V} (h : EvL ta σ H xs) (h2 : EvL tb σ H ys) (hl : xs.length + ys.length ≤ 100000) : EvL (tOp rCat ta tb) σ H (xs ++ ys) := fun H1 e Q q =>
  h H1 e _ fun p H2 np e2 hp => h2 H2 (e.trans e2) _ fun p2 H3 np2 e3 hp2 => ⟨p, p2, xs, ys, rfl, rfl, e3 _ _ hp, hp2, sz_of hl, fun p4 n4 => q p4 _ (fresh_back (e2.trans e3) n4) ((e2.trans e3).trans (Ex.new n4)) upd_same⟩
theorem perm_out {α : Type} {ms ls : List α} {k : Nat} (h : k < ls.length) : (ms ++ [ls[k]] ++ (ls.take k ++ ls.drop (k + 1))).Perm (ms ++ ls) := by
  rw [List.append_assoc]
  refine List.Perm.append_left ms ?_
  have e : ls = ls.take k ++ ls[k] :: ls.drop (k + 1) := by
    conv => lhs; rw [← List.take_append_drop k ls, List.drop_eq_getElem_cons h]
  have p := List.perm_middle (a := ls[k]) (l₁ := ls.take k) (l₂ := ls.drop (k + 1))
  rw [← e] at p
  exact p.symm
abbrev sMixed : Stmt := top 37
abbrev nMx : List Str := ["_law_pool_here", "_law_things", "_law_left", "_law_mixed_here", "_law_k", "_law_at"]
/-- the things in a drawn order -/
def spMixed : Sp := fun vs H Q _ => ∃ (p t : Addr) (xs : List V) (Hk : Hp) (n : Nat), vs = [.ref p, .ref t] ∧ Pl Hk p n H ∧ n ≤ 90000 ∧ Hk t = some (.lst xs) ∧ xs.length ≤ 40 ∧
  ∀ d ys H', H d = none → Pl Hk p (n + 50) H' → H' d = some (.lst ys) → ys.Perm xs → Q (.ref d) H'
section
variable {P : Program} {w : World} {K : PySem.W.Frag} {mg : Str → Option Value} {base : Heap}
theorem scMx : FnScope nMx ["_law_pool_here", "_law_things"] (defScope sMixed) := ⟨rfl, rfl, rfl, by decide +kernel, rfl, by decide +kernel, by decide +kernel⟩
theorem ok_mixed {f fT : Addr} {fd fdT : FuncData} (F : FnP K "_law_mixed" sMixed f fd) (FT : FnP K "_law_take" sTake fT fdT) (gT : mg "_law_take" = some (.ref fT)) (mI : mg "int" = none) (mL : mg "len" = none) (mR : mg "range" = none) (mLi : mg "list" = none) :
    FnOk P w K mg base CX0 2 f fd ["_law_pool_here", "_law_things"] spMixed := by
  have GT : FnOk P w K mg base CX0 1 fT fdT ["_law_pool_here", "_law_many"] spTake := ok_take FT mI
  have bT : Binds K fdT ["_law_pool_here", "_law_many"] [] := FT.bindsN fun _ _ _ _ _ _ us hl => match us, hl with | [_, _], _ => rfl
  have kT := FT.kp
  refine F.ok (CX := CX0) scMx (fun vs H Q E h => ?_) (fun cdv A outer s H vs Q E hr h => ?_)
  · obtain ⟨p, t, xs, Hk, n, rfl, _⟩ := h
    rfl
  · have hr1 : Room 1 _ := hr
    refine ⟨_, (pss_cons (ps_set (i := 2) scMx.nd rfl (by first | exact Or.inl rfl | exact Or.inr rfl) (pe_callTy call_list_of (by rfl) mLi boot_list (pa_cons (pv 1) pa_nil)))
      (pss_cons (ps_set (i := 3) scMx.nd rfl (by first | exact Or.inl rfl | exact Or.inr rfl) (pe_lst pa_nil))
      (pss_cons (ps_for (passes_of rfl) rfl (pi_range1 (by rfl) mR (pa_cons (pe_callB call_len (by rfl) mL boot_len (pa_cons (pv 1) pa_nil)) pa_nil)) (pg_name (i := 4) scMx.nd rfl (by first | exact Or.inl rfl | exact Or.inr rfl))
        (pss_cons (ps_set (i := 5) scMx.nd rfl (by first | exact Or.inl rfl | exact Or.inr rfl) (pe_call GT hr1 (by rfl) gT kT bT .nil pass0 (pa_cons (pv 0) (pa_cons (pe_callB call_len (by rfl) mL boot_len (pa_cons (pv 2) pa_nil)) pa_nil))))
        (pss_cons (ps_expr (pe_bm PySem.F.plainAttrs_list PySem.F.slot_list_append PySem.F.type_list_append mt_append (pv 3) (pa_cons (pe_ix ix_list (pv 2) (pv 5) fun _ _ => rfl) pa_nil)))
        (pss_one (ps_set (i := 2) scMx.nd rfl (by first | exact Or.inl rfl | exact Or.inr rfl) (pe_op op_cat (pe_slice sl_list (pv 2) po_none (po_some (pv 5))) (pe_slice sl_list (pv 2) (po_some (pe_op op_add (pv 5) pe_int)) po_none)))))))
      (pss_one (ps_ret (pv 3)))))), ?_⟩
    obtain ⟨p, t, xs, Hk, n, rfl, hp0, hn, ht, hx, q⟩ := h
    have hp := hp0.re
    have tp : t ≠ p := fun z => by rw [z, hp0.no] at ht; cases ht
    have htk : (Wo H p) t = some (.lst xs) := wo_at (hp0.ex _ _ ht) tp
    refine s_seq ?_
    refine ⟨_, rfl, t, xs, rfl, .inl (sq_of (hp0.ex _ _ ht)), fun a na => ?_⟩
    dsimp only
    refine s_seq ?_
    refine ⟨by show 0 ≤ sizeLine; omega, fun d nd => ?_⟩
    have ha1 := (upd_same (H := H) (a := a) (o := HO.lst xs))
    have hp1 : Pl (Wo H p) p n (upd H a (.lst xs)) := hp.new na
    have hp2 : Pl (Wo H p) p n (upd (upd H a (.lst xs)) d (.lst [])) := hp1.new nd
    have ad : a ≠ d := fun z => by rw [← z, ha1] at nd; cases nd
    have ap : a ≠ p := hp.ne na
    have dp : d ≠ p := hp1.ne nd
    have dk : (Wo H p) d = none := by
      cases e : (Wo H p) d with
      | none => rfl
      | some o =>
        have := hp1.ex _ _ e
        rw [nd] at this
        cases this
    dsimp only
    refine s_seq ?_
    refine s_forR1 (n := (xs.length : Int)) (ea_cons (ev_cb (ea_cons (ev_var rfl) ea_nil) (fun H3 e3 Q q => ⟨_, xs.length, rfl, .inl ⟨xs, sq_of (e3 _ _ (hp2.ex _ _ htk)), rfl⟩, q H3 (Ex.refl H3)⟩)) ea_nil) (by omega)
      (fun i st H' => ∃ b ls ms t4 t5, st = [some (.ref p), some (.ref t), some (.ref b), some (.ref d), t4, t5] ∧ H' b = some (.lst ls) ∧ H' d = some (.lst ms) ∧ b ≠ d ∧ b ≠ p ∧ ls.length + i = xs.length ∧ (ms ++ ls).Perm xs ∧ ms.length = i ∧ Pl (Wo H p) p (n + i) H')
      (fun H3 e3 => ⟨a, xs, [], none, none, rfl, e3 _ _ ((upd_ne ad).trans ha1), e3 _ _ upd_same, ad, ap, rfl, List.Perm.refl _, rfl, hp2.grow e3⟩) ?_ ?_
    · rintro i _ H3 hi ⟨b, ls, ms, t4, t5, rfl, hb, hd, bd, bp, hlen, hperm, hml, hpl⟩
      dsimp only
      refine s_seq ?_
      refine ⟨_, rfl, _, rfl, _, ls.length, rfl, .inl ⟨ls, sq_of hb, rfl⟩, p, (ls.length : Int), Wo H3 p, _, rfl, by omega, by omega, hpl.re, by omega, fun r H4 r0 r1 hp4 => ?_⟩
      obtain ⟨k, rfl⟩ := Int.eq_ofNat_of_zero_le r0
      have hk : k < ls.length := by omega
      have hp4b := hpl.back hp4
      have hb4 : H4 b = some (.lst ls) := hp4.ex _ _ (wo_at hb bp)
      have hd4 : H4 d = some (.lst ms) := hp4.ex _ _ (wo_at hd dp)
      dsimp only
      refine s_seq ?_
      refine s_app (xs := ms) (v := ls[k]) hd4 (ev_var rfl) (ev_op (ev_var rfl) (ev_var rfl) (rv_ixL (sq_of hb4) (at_of rfl (List.getElem?_eq_getElem hk)))) (by omega) fun H5 e5 => ?_
      dsimp only
      have hb5 : (upd H5 d (.lst (ms ++ [ls[k]]))) b = some (.lst ls) := (upd_ne bd).trans (e5 _ _ hb4)
      have hp5 : Pl (Wo H p) p (n + i + 1) (upd H5 d (.lst (ms ++ [ls[k]]))) := by
        have hz := hp4b.grow e5
        refine ⟨hz.no, Ex.mut hz.ex dk, ?_⟩
        obtain ⟨a', b', c', w1, w2⟩ := hz.at_
        exact ⟨a', b', c', by rw [upd_ne dp.symm]; exact w1, w2⟩
      have key := el_cat2 (σ := [some (.ref p), some (.ref t), some (.ref b), some (.ref d), some (.int (i : Int)), some (.int (k : Int))]) (el_sl (lo := none) (hi := some (k : Int)) (K := K) (ev_var (i := 2) rfl) eo_none (eo_some (ev_var (i := 5) rfl)) (sq_of hb5))
        (el_sl (lo := some ((k + 1 : Nat) : Int)) (hi := none) (K := K) (ev_var (i := 2) rfl) (eo_some (show Ev (tOp (rI0 fun i j => .int (i + j)) (tVar 5) (tC (.int 1))) _ _ (.int ((k + 1 : Nat) : Int)) from ev_is (ev_op (ev_var rfl) ev_c rv_I0) rfl)) eo_none (sq_of hb5)) (by
          have h3 := cutV_length ls (some ((k + 1 : Nat) : Int)) none
          have h4 := cutV_length ls none (some (k : Int))
          omega)
      rw [cutV0, cutV1] at key
      refine key _ (Ex.refl _) _ fun b2 H6 nb2 e6 hb6 => ?_
      have hd6 : H6 d = some (.lst (ms ++ [ls[k]])) := e6 _ _ upd_same
      have hp6 := hp5.grow e6
      have b2d : b2 ≠ d := fun z => by
        rw [z, upd_same] at nb2
        cases nb2
      refine ⟨b2, ls.take k ++ ls.drop (k + 1), ms ++ [ls[k]], _, _, rfl, hb6, hd6, b2d, hp5.ne nb2, ?_, (perm_out hk).trans hperm, ?_, by rw [show n + (i + 1) = n + i + 1 by omega]; exact hp6⟩
      · rw [List.length_append, List.length_take, List.length_drop]
        omega
      · rw [List.length_append, List.length_singleton, hml]
    · rintro _ H3 ⟨b, ls, ms, t4, t5, rfl, hb, hd, bd, bp, hlen, hperm, hml, hpl⟩
      have hl0 : ls = [] := List.length_eq_zero_iff.mp (by have e1 : ((xs.length : Int)).toNat = xs.length := by omega
                                                           omega)
      rw [hl0, List.append_nil] at hperm
      have fd : H d = none := by
        rw [upd_ne (fun z => ad z.symm)] at nd
        exact nd
      exact ⟨_, rfl, q d ms H3 fd (hp0.back (hpl.cnt (by omega))) hd hperm⟩
end
end K61

set_option Elab.async false
set_option linter.all false
set_option maxRecDepth 100000
set_option maxHeartbeats 4000000
namespace K61
open PySem PySem.Spec PyProof.Rows L2 Vl Evl Vp Vx2
abbrev sIsName : Stmt := top 15
abbrev sChkN : Stmt := top 17
/-- is_name, of a name -/
def spIsName : Sp := fun vs H Q _ => ∃ l, vs = [.str (tx l)] ∧ ((nam l ∧ ∀ H', Ex H H' → Q (.bl true) H') ∨ (l = [65] ∧ Q (.bl false) H))
theorem ifT {c A B : Prop} [Decidable c] (h : c) (a : A) : if c then A else B := by
  rw [if_pos h]
  exact a
theorem ifF {c A B : Prop} [Decidable c] (h : ¬ c) (b : B) : if c then A else B := by
  rw [if_neg h]
  exact b
section
variable {P : Program} {w : World} {K : PySem.W.Frag} {mg : Str → Option Value} {base : Heap}
abbrev nIN : List Str := ["value", "sign"]
theorem scIN : FnScope nIN ["value"] (defScope sIsName) := ⟨rfl, rfl, rfl, by decide +kernel, rfl, by decide +kernel, by decide +kernel⟩
theorem ok_isname {f : Addr} {fd : FuncData} (F : FnP K "is_name" sIsName f fd) (mI : mg "isinstance" = none) (mS : mg "str" = none) (mL : mg "len" = none) (mA : mg "all" = none)
    (gL : ∃ t, mg "LETTERS" = some (.str (tx letters) t)) (gD : ∃ t, mg "DIGITS" = some (.str (tx digits) t)) (gO : ∃ t, mg "LONGEST" = some (.int 8 t)) :
    FnOk P w K mg base CX0 1 f fd ["value"] spIsName := by
  obtain ⟨tL, gL⟩ := gL
  obtain ⟨tD, gD⟩ := gD
  obtain ⟨tO, gO⟩ := gO
  refine F.ok (CX := CX0) scIN (fun vs H Q E h => ?_) (fun cdv A outer s H vs Q E hr h => ?_)
  · obtain ⟨l, rfl, _⟩ := h
    rfl
  · refine ⟨_, (pss_cons (ps_if (PW.pt (pw_or (pt_not (pt_val (pe_callB call_isi (by rfl) mI boot_isinstance (pa_cons (pv 0) (pa_cons (pe_bltn (v := V.ty "str") (by rfl) mS boot_str rfl) pa_nil)))))
        (pw_or1 (pt_not (pt_chain op_le op_le pe_int (pe_callB call_len (by rfl) mL boot_len (pa_cons (pv 0) pa_nil)) (pe_glob (v := V.int 8) (by rfl) gO ⟨tO, rfl⟩)))))) (pss_one (ps_ret pe_bl)) pss_nil)
      (pss_one (ps_ret (pe_and (pe_cmpR op_inS (pe_ix ix_str (pv 0) pe_int fun _ _ => rfl) (pe_glob (v := V.str (tx letters)) (by rfl) gL ⟨tL, rfl⟩) rfl)
        (pe_one (pe_callB (cr_all rfl) (by rfl) mA boot_all (pa_cons (pe_lc (own := [("sign", 1)]) (g := gName 1) (tt := tYes) (te := tOp rInS (tVar 1) (tOp rCatS (tC (.str (tx letters))) (tC (.str (tx digits))))) rfl scIN.nd (pi_str (pv 0)) (blkOk_by (own := [("sign", 1)]) (N := nIN) (sc := defScope sIsName) (by decide +kernel)) (fun _ _ _ _ _ => (pg_name (i := 1) scIN.nd rfl (by first | exact Or.inl rfl | exact Or.inr rfl))) (fun _ _ _ _ _ => pts_nil)
          (fun _ _ _ _ _ => pe_cmpR op_inS (pv 1) (pe_op op_add_str (pe_glob (v := V.str (tx letters)) (by rfl) gL ⟨tL, rfl⟩) (pe_glob (v := V.str (tx digits)) (by rfl) gD ⟨tD, rfl⟩)) rfl)) pa_nil))))))), ?_⟩
    obtain ⟨l, rfl, h⟩ := h
    rcases h with ⟨hl, q⟩ | ⟨rfl, q⟩
    · skip
      have hll := nam_len hl
      have hs : (tx l).length = l.length := tx_len l
      refine s_seq ?_
      refine ⟨_, rfl, V.str (tx l), V.ty "str", .type "str", .type "str", true, rfl, .ty _, .base (.str _), kit_ty (by decide +kernel), true, rfl, ?_⟩
      refine ifF Bool.false_ne_true ?_
      refine ⟨_, rfl, _, (tx l).length, rfl, ⟨sz_of (by omega), rfl⟩, 1, _, rfl, rfl, _, rfl, ?_⟩
      refine ifT (decide_eq_true (by omega)) ?_
      refine ⟨_, _, rfl, rfl, _, rfl, ?_⟩
      refine ifF (by rw [decide_eq_true (show ((tx l).length : Int) ≤ 8 by omega)]; decide) ?_
      obtain ⟨c0, r0, rfl, hc, hr0, h7⟩ := id hl
      refine ⟨_, rfl, tx (c0 :: r0), 0, c0, rfl, rfl, sz_of (by omega), text_at (zs := c0 :: r0) (j := 0) (Nat.succ_pos _), _, _, rfl, rfl, _, rfl, ?_⟩
      refine ifT (decide_eq_true (by exact hc)) ?_
      refine ⟨_, rfl, tx (c0 :: r0), rfl, fun Dl hD => ?_⟩
      refine lc_it walk_str (fun i H' => H' = upd H Dl (.lst ((List.replicate i true).map V.bl))) rfl (fun _ _ _ _ => trivial) ?_ ?_
      · rintro i x H2 H3 hi rfl ⟨rfl, c, hcc, rfl⟩
        have hcm : c ∈ c0 :: r0 := by
          rw [← Array.getElem?_toList] at hcc
          exact List.mem_of_getElem? hcc
        refine ⟨rfl, ?_⟩
        unfold tYes
        dsimp only
        rw [if_pos rfl]
        refine ⟨_, rfl, tx letters, tx digits, rfl, rfl, by decide +kernel, c, _, rfl, rfl, (List.replicate i true).map V.bl, upd_same, ?_, ?_⟩
        · refine sz_lt ?_
          rw [List.length_map, List.length_replicate]
          have : (tx (c0 :: r0)).cps.size = (c0 :: r0).length := rfl
          omega
        · rw [tx_app, tx_list, decide_eq_true (show c ∈ letters ++ digits from nam_signs hl c hcm), upd_upd, List.replicate_succ', List.map_append]
          rfl
      · rintro H2 rfl
        refine ⟨Dl, List.replicate _ true, rfl, sq_of upd_same, ?_⟩
        rw [show (List.replicate ((tx (c0 :: r0)).cps.size) true).all id = true from List.all_eq_true.mpr fun b hb => (List.mem_replicate.mp hb).2]
        exact q _ (Ex.new hD)
    · refine s_seq ?_
      refine ⟨_, rfl, V.str (tx [65]), V.ty "str", .type "str", .type "str", true, rfl, .ty _, .base (.str _), kit_ty (by decide +kernel), true, rfl, ?_⟩
      refine ifF Bool.false_ne_true ?_
      refine ⟨_, rfl, _, 1, rfl, ⟨by show 1 ≤ sizeLine; decide, rfl⟩, 1, _, rfl, rfl, _, rfl, ?_⟩
      refine ifT (by decide) ?_
      refine ⟨_, _, rfl, rfl, _, rfl, ?_⟩
      refine ifF (by decide) ?_
      refine ⟨_, rfl, tx [65], 0, 65, rfl, rfl, by show 1 ≤ sizeLine; decide, text_at (zs := [65]) (j := 0) (by decide), _, _, rfl, rfl, _, rfl, ?_⟩
      exact ifF (by decide +kernel) q
end
end K61

set_option Elab.async false
set_option linter.all false
set_option maxRecDepth 100000
set_option maxHeartbeats 4000000
namespace K61
open PySem PySem.Spec PyProof.Rows L2 Vl Evl Vp Vx2
/-- check_name: nothing for a name, the error for "A" -/
def spChkN (CN : Addr) : Sp := fun vs H Q E => ∃ l, vs = [.str (tx l)] ∧ ((nam l ∧ ∀ H', Ex H H' → Q .non H') ∨ (l = [65] ∧ RaisedF CN "name" H (.str (tx l)) E))
section
variable {P : Program} {w : World} {K : PySem.W.Frag} {mg : Str → Option Value} {base : Heap} {CN : Addr}
theorem scCN : FnScope ["value"] ["value"] (defScope sChkN) := ⟨rfl, rfl, rfl, by decide +kernel, rfl, by decide +kernel, by decide +kernel⟩
theorem ok_chkn {f fN : Addr} {fd fdN : FuncData} (F : FnP K "check_name" sChkN f fd) (FN : FnP K "is_name" sIsName fN fdN) (gN : mg "is_name" = some (.ref fN))
    (GN : FnOk P w K mg base CX0 1 fN fdN ["value"] spIsName) (EB : Err1 P w K mg base "BadName" "name" CN) :
    FnOk P w K mg base (L2.CX P w) 3 f fd ["value"] (spChkN CN) := by
  have bN : Binds K fdN ["value"] [] := FN.bindsN fun _ _ _ _ _ _ us hl => match us, hl with | [_], _ => rfl
  have kN := FN.kp
  obtain ⟨fE, fdE, iC, tI, bE, GE⟩ := EB.ini
  refine F.ok (CX := L2.CX P w) scCN (fun vs H Q E h => ?_) (fun cdv A outer s H vs Q E hr h => ?_)
  · obtain ⟨l, rfl, _⟩ := h
    rfl
  · have hr2 : Room 2 _ := hr
    have hr1 : Room 1 _ := hr.mono (by omega)
    refine ⟨_, (pss_one (ps_if (pt_not (pt_val (pe_call GN hr1 (by rfl) gN kN bN .nil pass0 (pa_cons (pv 0) pa_nil)))) (pss_one (ps_raise rfl (takes_of rfl rfl rfl rfl) (pmk_oex EB.T iC tI GE hr2 bE .nil pass0 (by rfl) EB.g (pa_cons (pv 0) pa_nil)))) pss_nil)), ?_⟩
    obtain ⟨l, rfl, h⟩ := h
    rcases h with ⟨hl, q⟩ | ⟨rfl, q⟩
    · exact ⟨_, rfl, l, rfl, .inl ⟨hl, fun H' e => ⟨true, rfl, ifF Bool.false_ne_true (q H' e)⟩⟩⟩
    · exact ⟨_, rfl, [65], rfl, .inr ⟨rfl, false, rfl, ifT rfl (raised_f (W := fun cls d _ H' => E cls d H') 0 rfl rfl q)⟩⟩
end
end K61

set_option Elab.async false
set_option linter.all false
set_option maxRecDepth 100000
set_option maxHeartbeats 4000000
namespace K61
open PySem PySem.Spec PyProof.Rows L2 Vl Evl Vp Vx2
theorem inV_vtx {l : List Nat} {xs : List (List Nat)} : inV (V.str (tx l)) (vtx xs) = decide (l ∈ xs) := by
  unfold inV vtx
  rw [List.any_map]
  cases e : decide (l ∈ xs) with
  | true =>
    have hm := of_decide_eq_true e
    rw [List.any_eq_true]
    exact ⟨l, hm, by show eqV (V.str (tx l)) (V.str (tx l)) = true; unfold eqV; simp⟩
  | false =>
    have hm := of_decide_eq_false e
    rw [List.any_eq_false]
    intro y hy z
    have z : eqV (V.str (tx y)) (V.str (tx l)) = true := z
    unfold eqV at z
    have : tx y = tx l := by simpa using z
    exact hm (by rw [← tx_inj this]; exact hy)
theorem flat_vtx (xs : List (List Nat)) : (vtx xs).all flatV = true := by
  rw [List.all_eq_true]
  intro v hv
  obtain ⟨l, _, rfl⟩ := List.mem_map.mp hv
  rfl
theorem if_f {c A B : Prop} [Decidable c] (h : ¬ c) (b : B) : if c then A else B := by
  rw [if_neg h]
  exact b
theorem if_t {c A B : Prop} [Decidable c] (h : c) (a : A) : if c then A else B := by
  rw [if_pos h]
  exact a
/-- a lane's row: name, start, end -/
abbrev Row : Type := Addr × (List Nat × List Nat × List Nat)
def clB : Stmt → List Stmt
  | .ClassDef (body := b) .. => b
  | _ => []
/-- the i-th member of the class Net -/
def mem (i : Nat) : Stmt := (clB (top 19)).getD i (.Pass ⟨0, 0, 0, 0⟩)
abbrev FnM (K : PySem.W.Frag) (m q : Str) (st : Stmt) (f : Addr) (fd : FuncData) : Prop := FunD K m q (defArgs st) (defBody st) (defScope st) [] [] f fd
abbrev sPost : Stmt := mem 1
/-- the posts' dict, the lanes' dict -/
def dPosts (ps : List (List Nat)) : List (Key × V) := ps.map fun l => ((Sum.inr (tx l) : Key), V.bl true)
def dEnds (es : List Row) : List (Key × V) := es.map fun e => ((Sum.inr (tx e.2.1) : Key), V.ref e.1)
/-- a lane's ends -/
def EndAt (H : Hp) (e : Row) : Prop := H e.1 = some (.tup [.str (tx e.2.2.1), .str (tx e.2.2.2)])
/-- a net at o -/
structure NetAt (C : Addr) (H : Hp) (o dx dp de : Addr) (ps : List (List Nat)) (es : List Row) : Prop where
  at_ : H o = some (.ins C dx [("_posts", .ref dp), ("_ends", .ref de)])
  posts : H dp = some (.dK (dPosts ps))
  ends : H de = some (.dK (dEnds es))
  rows : ∀ e ∈ es, EndAt H e
theorem NetAt.mono {C : Addr} {H H' : Hp} {o dx dp de : Addr} {ps : List (List Nat)} {es : List Row} (e : Ex H H') (n : NetAt C H o dx dp de ps es) : NetAt C H' o dx dp de ps es :=
  ⟨e _ _ n.at_, e _ _ n.posts, e _ _ n.ends, fun r hr => e _ _ (n.rows r hr)⟩
theorem posts_val (ps : List (List Nat)) (l : List Nat) : (valV (dPosts ps) (Sum.inr (tx l) : Key)).isSome = decide (l ∈ ps) := by
  induction ps with
  | nil => rfl
  | cons x r ih =>
    unfold dPosts at *
    rw [List.map_cons]
    by_cases h : x = l
    · rw [valV_pos (by rw [h]), decide_eq_true (by rw [h]; exact List.mem_cons_self)]
      rfl
    · have hn : ¬ (Sum.inr (tx x) : Key) = Sum.inr (tx l) := fun z => h (tx_inj (Sum.inr.inj z))
      rw [valV_neg hn, ih]
      by_cases hm : l ∈ r
      · rw [decide_eq_true hm, decide_eq_true (List.mem_cons_of_mem _ hm)]
      · rw [decide_eq_false hm, decide_eq_false (fun z => (List.mem_cons.mp z).elim (fun e => h e.symm) hm)]
/-- net.post(name) -/
def spPost (C BN NT : Addr) : Sp := fun vs H Q E => ∃ (o dx dp de : Addr) (ps : List (List Nat)) (es : List Row) (l : List Nat), vs = [.ref o, .str (tx l)] ∧ NetAt C H o dx dp de ps es ∧ ps.length ≤ 1000 ∧
  ((nam l ∧ l ∉ ps ∧ ∀ H', Ex H H' → Q .non (upd H' dp (.dK (dPosts (ps ++ [l]))))) ∨ (nam l ∧ l ∈ ps ∧ RaisedF NT "name" H (.str (tx l)) E) ∨ (l = [65] ∧ RaisedF BN "name" H (.str (tx l)) E))
theorem RaisedF.grow {CN : Addr} {f : Str} {H H' : Hp} {y : V} {E : XK} (h : RaisedF CN f H y E) (e : Ex H H') : RaisedF CN f H' y E := fun d H2 e2 hd => h d H2 (e.trans e2) hd
section
variable {P : Program} {w : World} {K : PySem.W.Frag} {mg : Str → Option Value} {base : Heap} {C BN NT : Addr}
theorem scPo : FnScope ["self", "name"] ["self", "name"] (defScope sPost) := ⟨rfl, rfl, rfl, by decide +kernel, rfl, by decide +kernel, by decide +kernel⟩
theorem ok_post {f fN : Addr} {fd fdN : FuncData} (F : FnM K "post" "Net.post" sPost f fd) (c : Cls K C) (n1 : NoAttr K C "_posts") (FN : FnP K "check_name" sChkN fN fdN) (gN : mg "check_name" = some (.ref fN))
    (GN : FnOk P w K mg base (L2.CX P w) 3 fN fdN ["value"] (spChkN BN)) (ET : Err1 P w K mg base "NameTaken" "name" NT) :
    FnOk P w K mg base (L2.CX P w) 4 f fd ["self", "name"] (spPost C BN NT) := by
  have bN : Binds K fdN ["value"] [] := FN.bindsN fun _ _ _ _ _ _ us hl => match us, hl with | [_], _ => rfl
  have kN := FN.kp
  obtain ⟨fE, fdE, iC, tI, bE, GE⟩ := ET.ini
  refine F.ok (CX := L2.CX P w) scPo (fun vs H Q E h => ?_) (fun cdv A outer s H vs Q E hr h => ?_)
  · obtain ⟨o, dx, dp, de, ps, es, l, rfl, _⟩ := h
    rfl
  · have hr3 : Room 3 _ := hr
    have hr2 : Room 2 _ := hr.mono (by omega)
    refine ⟨_, (pss_cons (ps_expr (pe_callS (E := WE fun cls d _ H => E cls d H) GN hr3 (by rfl) gN kN bN (fun st => passAt (takes_of rfl rfl rfl rfl) st) (pa_cons (pv 1) pa_nil)))
      (pss_cons (ps_if (pt_cmp (pc_din (Nat.lt_of_le_of_lt (Nat.add_le_add_left (show 1 ≤ 64 by decide) _) hr.units) (pv 1) (pe_fld (pv 0) rfl))) (pss_one (ps_raise rfl (takes_of rfl rfl rfl rfl) (pmk_oex ET.T iC tI GE hr2 bE .nil pass0 (by rfl) ET.g (pa_cons (pv 1) pa_nil)))) pss_nil)
      (pss_one (ps_asg pe_bl (pg_sub (pe_fld (pv 0) rfl) (pv 1) (set_dict (Nat.lt_of_le_of_lt (Nat.add_le_add_left (show 1 ≤ 64 by decide) _) hr.units))))))), ?_⟩
    obtain ⟨o, dx, dp, de, ps, es, l, rfl, N, h1, h⟩ := h
    refine s_seq ?_
    have body : nam l → ∀ H', Ex H H' → ((l ∉ ps ∧ ∀ H', Ex H H' → Q .non (upd H' dp (.dK (dPosts (ps ++ [l]))))) ∨ (l ∈ ps ∧ RaisedF NT "name" H (.str (tx l)) E)) →
        tSeq (tIfS (tB (tDIn (tVar 1) (tFld K (tVar 0) "_posts"))) (tSeq (fun _ σ H => tMkO NT (spIni NT "name") [] (tCons (tVar 1) tNil) σ H fun cls d H' => E cls d H') tNext) tNext)
          (tSeq (tAsg (tC (.bl true)) (gSub (tFld K (tVar 0) "_posts") (tVar 1) rSetD)) tNext) { nx := fun _ H' => Q .non H', rt := Q } [some (.ref o), some (.str (tx l))] H' := by
      intro hl H1 e1 h
      have N1 := N.mono e1
      refine s_seq ?_
      refine ⟨_, rfl, _, rfl, o, C, dx, _, .ref dp, rfl, N1.at_, c, n1, rfl, dp, _, rfl, DGet.k (k := (Sum.inr (tx l) : Key)) N1.posts, _, rfl, ?_⟩
      rw [posts_val]
      rcases h with ⟨hm, q⟩ | ⟨hm, q⟩
      · refine if_f (by rw [decide_eq_false hm]; decide) ?_
        refine ⟨_, rfl, o, C, dx, _, .ref dp, rfl, N1.at_, c, n1, rfl, _, rfl, dp, _, rfl, DPut.k (k := (Sum.inr (tx l) : Key)) N1.posts (sz_lt (by unfold dPosts; rw [List.length_map]; omega)), ?_⟩
        have hv : valV (dPosts ps) (Sum.inr (tx l) : Key) = none := by
          have := posts_val ps l
          rw [decide_eq_false hm] at this
          exact Option.not_isSome_iff_eq_none.mp (by rw [this]; decide)
        rw [putK_new _ hv]
        have := q H1 e1
        unfold dPosts at *
        rw [List.map_append] at this
        exact this
      · refine if_t (by rw [decide_eq_true hm]) ?_
        exact raised_f (W := fun cls d _ H' => E cls d H') 1 rfl rfl (RaisedF.grow q e1)
    refine ⟨_, rfl, ?_⟩
    rcases h with ⟨hl, hm, q⟩ | ⟨hl, hm, q⟩ | ⟨rfl, q⟩
    · exact ⟨l, rfl, .inl ⟨hl, fun H' e => body hl H' e (.inl ⟨hm, q⟩)⟩⟩
    · exact ⟨l, rfl, .inl ⟨hl, fun H' e => body hl H' e (.inr ⟨hm, q⟩)⟩⟩
    · exact ⟨[65], rfl, .inr ⟨rfl, q⟩⟩
end
end K61

set_option Elab.async false
set_option linter.all false
set_option maxRecDepth 100000
set_option maxHeartbeats 4000000
namespace K61
open PySem PySem.Spec PyProof.Rows L2 Vl Evl Vp Vx2
abbrev sPosts : Stmt := mem 4
abbrev sLanes : Stmt := mem 5
abbrev sHas : Stmt := mem 11
abbrev sNLen : Stmt := mem 13
theorem keys_posts (ps : List (List Nat)) : ((dPosts ps).map fun kv => kV kv.1) = vtx ps := by
  unfold dPosts vtx
  rw [List.map_map]
  rfl
theorem keys_ends (es : List Row) : ((dEnds es).map fun kv => kV kv.1) = vtx (es.map fun e => e.2.1) := by
  unfold dEnds vtx
  rw [List.map_map, List.map_map]
  rfl
/-- net.posts, net.lanes: new tuples -/
def spPosts (C : Addr) : Sp := fun vs H Q _ => ∃ (o dx dp de : Addr) (ps : List (List Nat)) (es : List Row), vs = [.ref o] ∧ NetAt C H o dx dp de ps es ∧ ∀ t, H t = none → Q (.ref t) (upd H t (.tup (vtx ps)))
def spLanes (C : Addr) : Sp := fun vs H Q _ => ∃ (o dx dp de : Addr) (ps : List (List Nat)) (es : List Row), vs = [.ref o] ∧ NetAt C H o dx dp de ps es ∧ ∀ t, H t = none → Q (.ref t) (upd H t (.tup (vtx (es.map fun e => e.2.1))))
def spNLen (C : Addr) : Sp := fun vs H Q _ => ∃ (o dx dp de : Addr) (ps : List (List Nat)) (es : List Row), vs = [.ref o] ∧ NetAt C H o dx dp de ps es ∧ Q (.int (es.length : Nat)) H
section
variable {P : Program} {w : World} {K : PySem.W.Frag} {mg : Str → Option Value} {base : Heap} {C : Addr}
theorem scPs : FnScope ["self"] ["self"] (defScope sPosts) := ⟨rfl, rfl, rfl, by decide +kernel, rfl, by decide +kernel, by decide +kernel⟩
theorem ok_posts {f : Addr} {fd : FuncData} (F : FnM K "posts" "Net.posts" sPosts f fd) (c : Cls K C) (n1 : NoAttr K C "_posts") (mT : mg "tuple" = none) : FnOk P w K mg base CX0 1 f fd ["self"] (spPosts C) := by
  refine F.ok (CX := CX0) scPs (fun vs H Q E h => ?_) (fun cdv A outer s H vs Q E hr h => ?_)
  · obtain ⟨o, dx, dp, de, ps, es, rfl, _⟩ := h
    rfl
  · refine ⟨_, pss_one (ps_ret (pe_callTy (Vd.call_tupleD rfl) (by rfl) mT boot_tuple (pa_cons (pe_fld (pv 0) rfl) pa_nil))), ?_⟩
    obtain ⟨o, dx, dp, de, ps, es, rfl, N, q⟩ := h
    refine ⟨_, rfl, o, C, dx, _, .ref dp, rfl, N.at_, c, n1, rfl, dp, dPosts ps, rfl, .inl N.posts, fun t nt => ?_⟩
    rw [keys_posts]
    exact q t nt
theorem scLs : FnScope ["self"] ["self"] (defScope sLanes) := ⟨rfl, rfl, rfl, by decide +kernel, rfl, by decide +kernel, by decide +kernel⟩
theorem ok_lanes {f : Addr} {fd : FuncData} (F : FnM K "lanes" "Net.lanes" sLanes f fd) (c : Cls K C) (n1 : NoAttr K C "_ends") (mT : mg "tuple" = none) : FnOk P w K mg base CX0 1 f fd ["self"] (spLanes C) := by
  refine F.ok (CX := CX0) scLs (fun vs H Q E h => ?_) (fun cdv A outer s H vs Q E hr h => ?_)
  · obtain ⟨o, dx, dp, de, ps, es, rfl, _⟩ := h
    rfl
  · refine ⟨_, pss_one (ps_ret (pe_callTy (Vd.call_tupleD rfl) (by rfl) mT boot_tuple (pa_cons (pe_fld (pv 0) rfl) pa_nil))), ?_⟩
    obtain ⟨o, dx, dp, de, ps, es, rfl, N, q⟩ := h
    refine ⟨_, rfl, o, C, dx, _, .ref de, rfl, N.at_, c, n1, rfl, de, dEnds es, rfl, .inl N.ends, fun t nt => ?_⟩
    rw [keys_ends]
    exact q t nt
theorem scNl : FnScope ["self"] ["self"] (defScope sNLen) := ⟨rfl, rfl, rfl, by decide +kernel, rfl, by decide +kernel, by decide +kernel⟩
theorem ok_nlen {f : Addr} {fd : FuncData} (F : FnM K "__len__" "Net.__len__" sNLen f fd) (c : Cls K C) (n1 : NoAttr K C "_ends") (mL : mg "len" = none) : FnOk P w K mg base CX0 1 f fd ["self"] (spNLen C) := by
  refine F.ok (CX := CX0) scNl (fun vs H Q E h => ?_) (fun cdv A outer s H vs Q E hr h => ?_)
  · obtain ⟨o, dx, dp, de, ps, es, rfl, _⟩ := h
    rfl
  · refine ⟨_, pss_one (ps_ret (pe_callB call_lenD (by rfl) mL boot_len (pa_cons (pe_fld (pv 0) rfl) pa_nil))), ?_⟩
    obtain ⟨o, dx, dp, de, ps, es, rfl, N, q⟩ := h
    refine ⟨_, rfl, o, C, dx, _, .ref de, rfl, N.at_, c, n1, rfl, de, dEnds es, rfl, N.ends, ?_⟩
    have : (dEnds es).length = es.length := List.length_map _
    rw [this]
    exact q
end
end K61

set_option Elab.async false
set_option linter.all false
set_option maxRecDepth 100000
set_option maxHeartbeats 4000000
namespace K61
open PySem PySem.Spec PyProof.Rows L2 Vl Evl Vp Vx2
abbrev sChkP : Stmt := top 21
/-- the first of ns that is not in ps is l -/
def FirstOut (ns ps : List (List Nat)) (l : List Nat) : Prop := ∃ i : Nat, ns[i]? = some l ∧ l ∉ ps ∧ ∀ (j : Nat) (y : List Nat), j < i → ns[j]? = some y → y ∈ ps
/-- check_posts(net, names) -/
def spChkP (K : PySem.W.Frag) (C NP : Addr) : Sp := fun vs H Q E => ∃ (o dx dp de t : Addr) (ps : List (List Nat)) (es : List Row) (ns : List (List Nat)), vs = [.ref o, .ref t] ∧ NetAt C H o dx dp de ps es ∧ SqT K H t (vtx ns) ∧
  (((∀ l ∈ ns, l ∈ ps) ∧ ∀ H', Ex H H' → Q .non H') ∨ ∃ l, FirstOut ns ps l ∧ RaisedF NP "name" H (.str (tx l)) E)
section
variable {P : Program} {w : World} {K : PySem.W.Frag} {mg : Str → Option Value} {base : Heap} {C NP pL fL : Addr}
theorem scCP : FnScope ["net", "names", "name"] ["net", "names"] (defScope sChkP) := ⟨rfl, rfl, rfl, by decide +kernel, rfl, by decide +kernel, by decide +kernel⟩
theorem ok_chkp {f : Addr} {fd fdL : FuncData} (F : FnP K "check_posts" sChkP f fd) (c : Cls K C) (hp : PropOf K C "posts" pL fL) (bL : Binds K fdL ["self"] []) (GL : FnOk P w K mg base CX0 1 fL fdL ["self"] (spPosts C)) (EP : Err1 P w K mg base "NoPost" "name" NP) :
    FnOk P w K mg base (L2.CX P w) 3 f fd ["net", "names"] (spChkP K C NP) := by
  obtain ⟨fE, fdE, iC, tI, bE, GE⟩ := EP.ini
  refine F.ok (CX := L2.CX P w) scCP (fun vs H Q E h => ?_) (fun cdv A outer s H vs Q E hr h => ?_)
  · obtain ⟨o, dx, dp, de, t, ps, es, ns, rfl, _⟩ := h
    rfl
  · have hr2 : Room 2 _ := hr
    refine ⟨_, (pss_one (ps_for (passes_of rfl) rfl (pi_tup (pv 1)) (pg_name (i := 2) scCP.nd rfl (by first | exact Or.inl rfl | exact Or.inr rfl))
      (pss_one (ps_if (pt_cmpR op_notIn_seq (pv 2) (pe_prop (E := E0) (pv 0) c hp GL hr2 bL .nil pass0 (by rfl)) rfl) (pss_one (ps_raise rfl (takes_of rfl rfl rfl rfl) (pmk_oex EP.T iC tI GE hr2 bE .nil pass0 (by rfl) EP.g (pa_cons (pv 2) pa_nil)))) pss_nil)))), ?_⟩
    obtain ⟨o, dx, dp, de, t, ps, es, ns, rfl, N, ht, h⟩ := h
    refine s_forT (a := t) (ev_var rfl) ht (fun i st H' => ∃ t2, st = [some (.ref o), some (.ref t), t2] ∧ Ex H H' ∧ ∀ (j : Nat) (y : List Nat), j < i → ns[j]? = some y → y ∈ ps)
      (fun H1 e => ⟨none, rfl, e, fun j y hj => absurd hj (Nat.not_lt_zero j)⟩) (fun i st H' _ ⟨_, _, e, _⟩ => ex_t e ht) ?_ ?_
    · rintro i x σ' H1 hx ⟨t2, rfl, e1, hall⟩
      unfold vtx at hx
      rw [List.getElem?_map] at hx
      obtain ⟨l, hl, rfl⟩ := Option.map_eq_some_iff.mp hx
      have N1 := N.mono e1
      refine ⟨_, rfl, _, rfl, o, dx, _, rfl, N1.at_, o, dx, dp, de, ps, es, rfl, N1, fun tt ntt => ?_⟩
      have e2 := e1.trans (Ex.new (o := .tup (vtx ps)) ntt)
      refine ⟨tt, vtx ps, rfl, .inr (.inl (.inl upd_same)), rfl, flat_vtx ps, _, rfl, ?_⟩
      rw [if_pos rfl, inV_vtx]
      by_cases hm : l ∈ ps
      · refine if_f (by rw [decide_eq_true hm]; decide) ?_
        refine ⟨_, rfl, e2, fun j y hj hy => ?_⟩
        by_cases hji : j < i
        · exact hall j y hji hy
        · obtain rfl : j = i := by omega
          rw [hl] at hy
          obtain rfl := Option.some.inj hy
          exact hm
      · refine if_t (by rw [decide_eq_false hm]; rfl) ?_
        rcases h with ⟨ha, _⟩ | ⟨l2, ⟨i2, g1, g2, g3⟩, q⟩
        · exact absurd (ha l (List.mem_of_getElem? hl)) hm
        · have ei : i = i2 := by
            rcases Nat.lt_trichotomy i i2 with h1 | h1 | h1
            · exact absurd (g3 i l h1 hl) hm
            · exact h1
            · exact absurd (hall i2 l2 h1 g1) g2
          rw [ei] at hl
          rw [hl] at g1
          obtain rfl := Option.some.inj g1
          exact raised_f (W := fun cls d _ H' => E cls d H') 2 rfl rfl (RaisedF.grow q e2)
    · rintro st H1 ⟨t2, rfl, e1, hall⟩
      rcases h with ⟨ha, q⟩ | ⟨l2, ⟨i2, g1, g2, g3⟩, q⟩
      · exact q H1 e1
      · exact absurd (hall i2 l2 (by rw [vtx_len]; exact (List.getElem?_eq_some_iff.mp g1).1) g1) g2
end
end K61

set_option Elab.async false
set_option linter.all false
set_option maxRecDepth 100000
set_option maxHeartbeats 4000000
namespace K61
open PySem PySem.Spec PyProof.Rows L2 Vl Evl Vp Vx2
def laneNames (es : List Row) : List (List Nat) := es.map fun e => e.2.1
theorem ends_val (es : List Row) (l : List Nat) : (valV (dEnds es) (Sum.inr (tx l) : Key)).isSome = decide (l ∈ laneNames es) := by
  induction es with
  | nil => rfl
  | cons x r ih =>
    unfold dEnds laneNames at *
    rw [List.map_cons, List.map_cons]
    by_cases h : x.2.1 = l
    · rw [valV_pos (by rw [h]), decide_eq_true (by rw [h]; exact List.mem_cons_self)]
      rfl
    · have hn : ¬ (Sum.inr (tx x.2.1) : Key) = Sum.inr (tx l) := fun z => h (tx_inj (Sum.inr.inj z))
      rw [valV_neg hn, ih]
      by_cases hm : l ∈ r.map fun e => e.2.1
      · rw [decide_eq_true hm, decide_eq_true (List.mem_cons_of_mem _ hm)]
      · rw [decide_eq_false hm, decide_eq_false (fun z => (List.mem_cons.mp z).elim (fun e => h e.symm) hm)]
/-- x in net -/
def spHas (K : PySem.W.Frag) (C : Addr) : Sp := fun vs H Q _ => ∃ (o dx dp de : Addr) (y : V) (ps : List (List Nat)) (es : List Row), vs = [.ref o, y] ∧ NetAt C H o dx dp de ps es ∧
  ((∃ l, y = .str (tx l) ∧ Q (.bl (decide (l ∈ laneNames es))) H) ∨ (∃ t : String, TyX K H y (.type t) ∧ kitB t "str" = some false ∧ Q (.bl false) H))
section
variable {P : Program} {w : World} {K : PySem.W.Frag} {mg : Str → Option Value} {base : Heap} {C : Addr}
theorem scHs : FnScope ["self", "x"] ["self", "x"] (defScope sHas) := ⟨rfl, rfl, rfl, by decide +kernel, rfl, by decide +kernel, by decide +kernel⟩
theorem ok_has {f : Addr} {fd : FuncData} (F : FnM K "__contains__" "Net.__contains__" sHas f fd) (c : Cls K C) (n1 : NoAttr K C "_ends") (mI : mg "isinstance" = none) (mS : mg "str" = none) : FnOk P w K mg base CX0 1 f fd ["self", "x"] (spHas K C) := by
  refine F.ok (CX := CX0) scHs (fun vs H Q E h => ?_) (fun cdv A outer s H vs Q E hr h => ?_)
  · obtain ⟨o, dx, dp, de, y, ps, es, rfl, _⟩ := h
    rfl
  · refine ⟨_, pss_one (ps_ret (pe_and (pe_callB call_isi (by rfl) mI boot_isinstance (pa_cons (pv 1) (pa_cons (pe_bltn (v := V.ty "str") (by rfl) mS boot_str rfl) pa_nil)))
      (pe_one (pe_cmp (pc_din (Nat.lt_of_le_of_lt (Nat.add_le_add_left (show 1 ≤ 64 by decide) _) hr.units) (pv 1) (pe_fld (pv 0) rfl)))))), ?_⟩
    obtain ⟨o, dx, dp, de, y, ps, es, rfl, N, h⟩ := h
    rcases h with ⟨l, rfl, q⟩ | ⟨t, ht, hk, q⟩
    · refine ⟨_, rfl, V.str (tx l), V.ty "str", .type "str", .type "str", true, rfl, .ty _, .base (.str _), kit_ty (by decide +kernel), true, rfl, ?_⟩
      refine if_t rfl ?_
      refine ⟨_, rfl, _, rfl, o, C, dx, _, .ref de, rfl, N.at_, c, n1, rfl, de, _, rfl, DGet.k (k := (Sum.inr (tx l) : Key)) N.ends, ?_⟩
      rw [ends_val]
      exact q
    · refine ⟨_, rfl, y, V.ty "str", .type t, .type "str", false, rfl, .ty _, ht, kit_ty hk, false, rfl, ?_⟩
      exact if_f Bool.false_ne_true q
end
end K61

set_option Elab.async false
set_option linter.all false
set_option maxRecDepth 100000
set_option maxHeartbeats 2000000
/-! Sequences that go round: the least of all turns tells them apart. -/
namespace Vr
open PySem PySem.Spec PyProof.Rows L2 Vl Vp
def dtx (a : List (List Nat)) : List PyData := a.map fun l => PyData.str (tx l)
def wd (a : List (List Nat)) : PyData := .tuple (dtx a)
def ltW (a b : List (List Nat)) : Bool := PySem.W.dataLt (wd a) (wd b)
theorem key_inj : ∀ {a b : List (List Nat)}, PySem.W.keyToksAll (dtx a) = PySem.W.keyToksAll (dtx b) → a = b
  | [], [], _ => rfl
  | [], x :: r, h => by
    unfold dtx at h
    simp only [List.map_nil, List.map_cons, PySem.W.keyToksAll] at h
    cases List.cons.inj h |>.1
  | x :: r, [], h => by
    unfold dtx at h
    simp only [List.map_nil, List.map_cons, PySem.W.keyToksAll] at h
    cases List.cons.inj h |>.1
  | x :: r, y :: t, h => by
    unfold dtx at h
    simp only [List.map_cons, PySem.W.keyToksAll, PySem.W.keyToks, List.cons_append, List.nil_append] at h
    obtain ⟨_, h⟩ := List.cons.inj h
    obtain ⟨h1, h2⟩ := List.cons.inj h
    have e1 : x = y := Sum.inr.inj h1
    have e2 : r = t := key_inj h2
    rw [e1, e2]
theorem lt_irr (a : List (List Nat)) : ltW a a = false := PyProof.Rows.lex_irrefl (O := itemOrd) _
theorem lt_trans {a b c : List (List Nat)} (h1 : ltW a b = true) (h2 : ltW b c = true) : ltW a c = true := PyProof.Rows.lex_trans (O := itemOrd) _ _ _ h1 h2
theorem lt_total {a b : List (List Nat)} (h1 : ltW a b = false) (h2 : ltW b a = false) : a = b := by
  have := PyProof.Rows.lex_total (O := itemOrd) _ _ h1 h2
  unfold wd at this
  rw [PySem.W.keyToks, PySem.W.keyToks] at this
  exact key_inj this
theorem le_trans {a b c : List (List Nat)} (h1 : ltW b a = false) (h2 : ltW c b = false) : ltW c a = false := by
  cases e : ltW c a with
  | false => rfl
  | true =>
    rcases PyProof.Rows.lex_negTrans (O := itemOrd) (PySem.W.keyToks (wd c)) (PySem.W.keyToks (wd b)) (PySem.W.keyToks (wd a)) e with h | h
    · exact absurd h2 (by rw [show ltW c b = true from h]; decide)
    · exact absurd h1 (by rw [show ltW b a = true from h]; decide)
/-- begun elsewhere -/
def rot {α : Type} (a : List α) (k : Nat) : List α := a.drop k ++ a.take k
theorem rot_zero {α : Type} (a : List α) : rot a 0 = a := by
  unfold rot
  rw [List.take_zero, List.append_nil, List.drop_zero]
theorem rot_len {α : Type} (a : List α) (k : Nat) : (rot a k).length = a.length := by
  unfold rot
  rw [List.length_append, List.length_drop, List.length_take]
  omega
theorem rot_at {α : Type} {a : List α} {k i : Nat} (hk : k ≤ a.length) (hi : i < a.length) : (rot a k)[i]? = a[(i + k) % a.length]? := by
  unfold rot
  by_cases h : i < a.length - k
  · rw [List.getElem?_append_left (by rw [List.length_drop]; exact h), List.getElem?_drop, Nat.mod_eq_of_lt (by omega), Nat.add_comm]
  · rw [List.getElem?_append_right (by rw [List.length_drop]; omega), List.length_drop, List.getElem?_take_of_lt (by omega), Nat.mod_eq_sub_mod (by omega), Nat.mod_eq_of_lt (by omega)]
    congr 1
    omega
theorem rot_rot {α : Type} {a : List α} {k j : Nat} (hk : k < a.length) (hj : j < a.length) : rot (rot a k) j = rot a ((k + j) % a.length) := by
  refine List.ext_getElem? fun i => ?_
  have hn : (k + j) % a.length < a.length := Nat.mod_lt _ (by omega)
  by_cases hi : i < a.length
  · rw [rot_at (by rw [rot_len]; omega) (by rw [rot_len]; exact hi), rot_len, rot_at (by omega) (Nat.mod_lt _ (by omega)), rot_at (by omega) hi, Nat.mod_add_mod, Nat.add_mod_mod]
    congr 2
    omega
  · rw [List.getElem?_eq_none (by rw [rot_len, rot_len]; omega), List.getElem?_eq_none (by rw [rot_len]; omega)]
theorem rot_back {α : Type} {a : List α} {k : Nat} (hk : k < a.length) : rot (rot a k) ((a.length - k) % a.length) = a := by
  rw [rot_rot hk (Nat.mod_lt _ (by omega)), Nat.add_mod_mod, show k + (a.length - k) = a.length by omega, Nat.mod_self, rot_zero]
/-- the least of the turns 0 .. k -/
def lt1 (a : List (List Nat)) : Nat → List (List Nat)
  | 0 => a
  | k + 1 => if ltW (rot a (k + 1)) (lt1 a k) = true then rot a (k + 1) else lt1 a k
theorem lt1_turn (a : List (List Nat)) : ∀ k, ∃ j, j ≤ k ∧ lt1 a k = rot a j
  | 0 => ⟨0, by omega, (rot_zero a).symm⟩
  | k + 1 => by
    obtain ⟨j, h1, h2⟩ := lt1_turn a k
    unfold lt1
    by_cases h : ltW (rot a (k + 1)) (lt1 a k) = true
    · rw [if_pos h]
      exact ⟨k + 1, by omega, rfl⟩
    · rw [if_neg h]
      exact ⟨j, by omega, h2⟩
theorem lt1_least (a : List (List Nat)) : ∀ k j, j ≤ k → ltW (rot a j) (lt1 a k) = false
  | 0, j, h => by
    obtain rfl : j = 0 := by omega
    rw [rot_zero]
    exact lt_irr a
  | k + 1, j, h => by
    unfold lt1
    by_cases g : ltW (rot a (k + 1)) (lt1 a k) = true
    · rw [if_pos g]
      by_cases e : j = k + 1
      · rw [e]
        exact lt_irr _
      · refine le_trans (b := lt1 a k) ?_ (lt1_least a k j (by omega))
        cases z : ltW (lt1 a k) (rot a (k + 1)) with
        | false => rfl
        | true =>
          have := lt_trans z g
          rw [lt_irr] at this
          cases this
    · rw [if_neg g]
      by_cases e : j = k + 1
      · rw [e]
        exact Bool.eq_false_iff.mpr g
      · exact lt1_least a k j (by omega)
def least (a : List (List Nat)) : List (List Nat) := lt1 a (a.length - 1)
theorem lt1_len (a : List (List Nat)) (k : Nat) : (lt1 a k).length = a.length := by
  obtain ⟨j, _, h⟩ := lt1_turn a k
  rw [h, rot_len]
theorem least_len (a : List (List Nat)) : (least a).length = a.length := lt1_len _ _
def Turn (a b : List (List Nat)) : Prop := ∃ k, k < a.length ∧ rot a k = b
theorem Turn.sub {a b : List (List Nat)} (h : Turn a b) : ltW (least b) (least a) = false := by
  obtain ⟨k, hk, rfl⟩ := h
  obtain ⟨j, hj, e⟩ := lt1_turn (rot a k) ((rot a k).length - 1)
  rw [rot_len] at hj
  have e2 : least (rot a k) = rot a ((k + j) % a.length) := e.trans (rot_rot hk (by omega))
  rw [e2]
  have := Nat.mod_lt (k + j) (show 0 < a.length by omega)
  exact lt1_least a _ _ (by omega)
theorem Turn.symm {a b : List (List Nat)} (h : Turn a b) : Turn b a := by
  obtain ⟨k, hk, rfl⟩ := h
  exact ⟨(a.length - k) % a.length, by rw [rot_len]; exact Nat.mod_lt _ (by omega), rot_back hk⟩
theorem least_iff {a b : List (List Nat)} (ha : 1 ≤ a.length) (hb : 1 ≤ b.length) : least a = least b ↔ Turn a b := by
  constructor
  · intro h
    obtain ⟨i, hi, e1⟩ := lt1_turn a (a.length - 1)
    obtain ⟨j, hj, e2⟩ := lt1_turn b (b.length - 1)
    have e : rot a i = rot b j := e1.symm.trans (h.trans e2)
    have hl : a.length = b.length := by
      have := congrArg List.length e
      rw [rot_len, rot_len] at this
      exact this
    have hb2 := rot_back (a := b) (k := j) (by omega)
    rw [← e, rot_rot (a := a) (by omega) (by rw [hl]; exact Nat.mod_lt _ (by omega))] at hb2
    exact ⟨_, Nat.mod_lt _ (by omega), hb2⟩
  · intro h
    exact lt_total h.symm.sub h.sub
/-- compared as data -/
theorem alike_dtx : ∀ a b : List (List Nat), PySem.W.alikeAll (dtx a) (dtx b) = true
  | [], _ => by
    unfold dtx
    rw [List.map_nil, PySem.W.alikeAll]
  | x :: r, [] => by
    unfold dtx
    rw [List.map_nil, List.map_cons, PySem.W.alikeAll]
  | x :: r, y :: t => by
    have := alike_dtx r t
    unfold dtx at *
    rw [List.map_cons, List.map_cons, PySem.W.alikeAll, this, PySem.W.alike]
    rfl
theorem alike_wd (a b : List (List Nat)) : PySem.W.alike (wd a) (wd b) = true := by
  unfold wd
  rw [PySem.W.alike]
  exact alike_dtx a b
theorem dep_dtx : ∀ a : List (List Nat), PyData.depthAll (dtx a) = 0
  | [] => rfl
  | x :: r => by
    show max 0 (PyData.depthAll (dtx r)) = 0
    rw [dep_dtx r]
    rfl
theorem dep_wd (a : List (List Nat)) : (wd a).depth ≤ 1 := by
  show PyData.depthAll (dtx a) + 1 ≤ 1
  rw [dep_dtx]
  omega
theorem dpa_vtx {K : PySem.W.Frag} {H : Hp} : ∀ a : List (List Nat), DpAll K H (vtx a) (dtx a)
  | [] => .nil
  | x :: r => .cons (.str _) (dpa_vtx r)
theorem dp_wd {K : PySem.W.Frag} {H : Hp} {p : Addr} {a : List (List Nat)} (h : SqT K H p (vtx a)) : Dp K H (.ref p) (wd a) := .tup h (dpa_vtx a)
theorem vtx_inj {a b : List (List Nat)} (h : vtx a = vtx b) : a = b := by
  have : ∀ x y : List Nat, V.str (tx x) = V.str (tx y) → x = y := fun x y e => tx_inj (V.str.inj e)
  exact List.map_inj_right this |>.mp h
theorem vtx_rot (a : List (List Nat)) (k : Nat) : vtx (rot a k) = (vtx a).drop k ++ (vtx a).take k := by
  unfold rot
  rw [vtx_app, vtx_drop, vtx_take]
theorem vtx_rev (a : List (List Nat)) : (vtx a).reverse = vtx a.reverse := List.map_reverse.symm
end Vr

set_option Elab.async false
set_option linter.all false
set_option maxRecDepth 100000
set_option maxHeartbeats 2000000
/-! Tuples and lists of texts compared. -/
namespace Vda
open PySem PySem.Spec PyProof.Rows L2 Vl Evl Vp Vr
/-- texts of true signs -/
def Oks (a : List (List Nat)) : Prop := ∀ l ∈ a, ∀ c ∈ l, c < 1114112
theorem oks_nam {a : List (List Nat)} (h : ∀ l ∈ a, nam l) : Oks a := fun l hl c hc => by
  have hs : c ∈ Vp.signs := nam_signs (h l hl) c hc
  have all : ∀ c ∈ Vp.signs, c < 128 := by decide +kernel
  have := all c hs
  omega
theorem oks_cons {l : List Nat} {a : List (List Nat)} (h : ∀ c ∈ l, c < 1114112) (ha : Oks a) : Oks (l :: a) := fun x hx => by
  rcases List.mem_cons.mp hx with rfl | hx
  · exact h
  · exact ha x hx
theorem ok_nam {l : List Nat} (h : nam l) : ∀ c ∈ l, c < 1114112 := oks_nam (a := [l]) (fun x hx => by rw [List.mem_singleton.mp hx]; exact h) l List.mem_cons_self
theorem oks_nil : Oks [] := fun _ h => nomatch h
theorem lay_ok : ∀ a : List (List Nat), Oks a → PyData.canLayAll0 (dtx a) = true
  | [], _ => rfl
  | x :: r, h => by
    have hr := lay_ok r fun l hl => h l (List.mem_cons_of_mem _ hl)
    have hx : PyData.canLay0 (PyData.str (tx x)) = true := by
      show PyData.strOk (tx x) = true
      unfold PyData.strOk
      rw [← Array.all_toList, tx_list, List.all_eq_true]
      exact fun c hc => decide_eq_true (h x List.mem_cons_self c hc)
    show (PyData.canLay0 (PyData.str (tx x)) && PyData.canLayAll0 (dtx r)) = true
    rw [hx, hr]
    rfl
theorem sh_w {a : List (List Nat)} (h : Oks a) : SeqAt.shaped (wd a) = true := shaped_of (lay_ok a h) (by have := dep_wd a; omega)
def wls (a : List (List Nat)) : PyData := .list (dtx a)
theorem sh_l {a : List (List Nat)} (h : Oks a) : SeqAt.shaped (wls a) = true := shaped_of (lay_ok a h) (by
  show PyData.depthAll (dtx a) + 1 ≤ 64
  rw [dep_dtx]
  omega)
theorem eq_w (a b : List (List Nat)) : PyData.eqv (wd a) (wd b) = decide (a = b) := by
  by_cases h : a = b
  · rw [decide_eq_true h, h]
    exact PySem.W.eqv_refl_alike _ (alike_wd b b)
  · rw [decide_eq_false h]
    cases e : PyData.eqv (wd a) (wd b) with
    | false => rfl
    | true =>
      have k := (PySem.W.toks_eqv (wd a) (wd b) (alike_wd a b)).1 e
      unfold wd at k
      rw [PySem.W.keyToks, PySem.W.keyToks] at k
      exact absurd (key_inj k) h
theorem eq_l (a b : List (List Nat)) : PyData.eqv (wls a) (wls b) = decide (a = b) := by
  rw [← eq_w]
  unfold wls wd
  rw [PyData.eqv, PyData.eqv]
theorem dp_l {K : PySem.W.Frag} {H : Hp} {p : Addr} {a : List (List Nat)} (h : SqL K H p (vtx a)) : Dp K H (.ref p) (wls a) := .lst h (dpa_vtx a)
section
variable {K : PySem.W.Frag} {H : Hp} {p q : Addr} {a b : List (List Nat)}
theorem rv_eqT (h : SqT K H p (vtx a)) (h2 : SqT K H q (vtx b)) (oa : Oks a) (ob : Oks b) : RV (rEqD K) (.ref p) (.ref q) H (.bl (decide (a = b))) := fun H1 e1 Q q1 => by
  refine ⟨wd a, wd b, dp_wd (ex_t e1 h), dp_wd (ex_t e1 h2), sh_w oa, sh_w ob, ?_⟩
  rw [eq_w]
  exact q1 H1 (Ex.refl _)
theorem rv_neT (h : SqT K H p (vtx a)) (h2 : SqT K H q (vtx b)) (oa : Oks a) (ob : Oks b) : RV (rNeD K) (.ref p) (.ref q) H (.bl (!decide (a = b))) := fun H1 e1 Q q1 => by
  refine ⟨wd a, wd b, dp_wd (ex_t e1 h), dp_wd (ex_t e1 h2), sh_w oa, sh_w ob, ?_⟩
  rw [eq_w]
  exact q1 H1 (Ex.refl _)
theorem rv_eqL (h : SqL K H p (vtx a)) (h2 : SqL K H q (vtx b)) (oa : Oks a) (ob : Oks b) : RV (rEqD K) (.ref p) (.ref q) H (.bl (decide (a = b))) := fun H1 e1 Q q1 => by
  refine ⟨wls a, wls b, dp_l (ex_l e1 h), dp_l (ex_l e1 h2), sh_l oa, sh_l ob, ?_⟩
  rw [eq_l]
  exact q1 H1 (Ex.refl _)
theorem rv_neL (h : SqL K H p (vtx a)) (h2 : SqL K H q (vtx b)) (oa : Oks a) (ob : Oks b) : RV (rNeD K) (.ref p) (.ref q) H (.bl (!decide (a = b))) := fun H1 e1 Q q1 => by
  refine ⟨wls a, wls b, dp_l (ex_l e1 h), dp_l (ex_l e1 h2), sh_l oa, sh_l ob, ?_⟩
  rw [eq_l]
  exact q1 H1 (Ex.refl _)
end
end Vda

set_option Elab.async false
set_option linter.all false
set_option maxRecDepth 100000
set_option maxHeartbeats 2000000
/-! [k for k in d if ..], a dict locked meanwhile; tuple([..]). -/
namespace Vlk
open PySem PySem.Spec PyProof.Rows L2 Evl
/-- H, the dict at d locked -/
abbrev Lk (H : Hp) (d : Addr) (od : Obj) (kvs : List (Key × V)) : Hp := upd H d (.frz od (.dK kvs))
section
variable {K : PySem.W.Frag} {σ : L2.St} {H : Hp}
theorem lk_get {d b : Addr} {od : Obj} {kvs : List (Key × V)} {o : HO} (h : H b = some o) (hn : b ≠ d) : Lk H d od kvs b = some o := by
  show upd H d _ b = _
  rw [upd_ne hn]
  exact h
theorem dget_frz {d : Addr} {od : Obj} {kvs : List (Key × V)} {k : Key} (h : H d = some (.frz od (.dK kvs))) : DGet H d (kV k) (valV kvs k) := .inl ⟨kvs, k, .inr ⟨od, h⟩, rfl, rfl⟩
/-- the keys of d for which the test says yes -/
theorem el_keys {td : TE} {tt : TT} {j : Nat} {d : Addr} {kvs : List (Key × V)} (c : Key × V → Bool) (hd : H d = some (.dK kvs)) (hz : kvs.length ≤ 40000) (hw : ∀ x, wipe ((wipe σ [j]).set j (some x)) [j] = wipe σ [j])
    (hj : ∀ x, ((wipe σ [j]).set j (some x))[j]? = some (some x))
    (htd : ∀ H1 od, Ex H H1 → Ev td σ (Lk H1 d od kvs) (.ref d))
    (ht : ∀ (H1 : Hp) (od : Obj) (i : Nat) (kv : Key × V), Ex H H1 → kvs[i]? = some kv → EvT tt ((wipe σ [j]).set j (some (kV kv.1))) (Lk H1 d od kvs) (c kv)) :
    EvL (tLockE (tLc (iKeys td) (gName j) tt (tVar j) [j])) σ H ((kvs.filter c).map fun kv => kV kv.1) := by
  intro H1 e1 Q q
  refine ⟨d, .dK kvs, e1 _ _ hd, trivial, fun od => ?_⟩
  have hlk : (Lk H1 d od kvs) d = some (.frz od (.dK kvs)) := upd_same
  refine htd H1 od e1 _ (Ex.refl _) _ fun H2 e2 => ?_
  refine ⟨d, od, rfl, .inl ⟨kvs, e2 _ _ hlk, fun D nD => ?_⟩⟩
  have ndd : D ≠ d := fun z => by rw [z, e2 _ _ hlk] at nD; cases nD
  have hn2 : (Lk H1 d od kvs) D = none := fresh_back e2 nD
  have hn1 : H1 D = none := by
    have := hn2
    rw [show (Lk H1 d od kvs) D = H1 D from upd_ne ndd] at this
    exact this
  refine lc_it walk_keys (fun i H3 => Ex (Lk H1 d od kvs) H3 ∧ H3 D = some (.lst (((kvs.take i).filter c).map fun kv => kV kv.1))) ⟨Ex.mut e2 hn2, by rw [List.take_zero]; exact upd_same⟩ (fun i H3 _ h => h.1 _ _ hlk) ?_ ?_
  · rintro i x H3 H4 hi ⟨e3, hD⟩ ⟨rfl, k, v, hk, rfl⟩
    have htk : kvs.take (i + 1) = kvs.take i ++ [(k, v)] := by rw [List.take_succ, hk]; rfl
    refine ⟨hw _, ?_⟩
    have hc := ht H1 od i (k, v) e1 hk
    refine hc H4 e3 _ fun H5 e5 => ?_
    cases hcv : c (k, v) with
    | true =>
      rw [if_pos rfl]
      refine ⟨kV k, hj _, _, e5 _ _ hD, ?_, Ex.mut (e3.trans e5) hn2, ?_⟩
      · refine sz_lt ?_
        rw [List.length_map]
        have := List.length_filter_le c (kvs.take i)
        rw [List.length_take] at this
        omega
      · rw [upd_same, htk, List.filter_append, List.map_append, List.filter_cons_of_pos hcv]
        rfl
    | false =>
      rw [if_neg (by decide)]
      refine ⟨e3.trans e5, ?_⟩
      rw [e5 _ _ hD, htk, List.filter_append, List.filter_cons_of_neg (by rw [hcv]; decide), List.filter_nil, List.append_nil]
  · rintro H3 ⟨e3, hD⟩
    rw [List.take_length] at hD
    have ne : D ≠ d := ndd
    refine ⟨e3 _ _ hlk, q D _ hn1 (fun b o hb => ?_) (by rw [upd_ne ne]; exact hD)⟩
    by_cases hbd : b = d
    · rw [hbd, upd_same]
      rw [hbd, e1 _ _ hd] at hb
      exact hb
    · rw [upd_ne hbd]
      exact e3 _ _ (lk_get hb hbd)
/-- tuple(a new list) -/
theorem eu_tupleL {te : TE} {xs : List V} (h : EvL te σ H xs) : EvU (tCB (fun vs H Q => ∃ p ys, vs = [.ref p] ∧ ((SqL K H p ys ∧ ∀ l, H l = none → Q (.ref l) (upd H l (.tup ys))) ∨ (SqT K H p ys ∧ Q (.ref p) H))) (tCons te tNil)) σ H xs := by
  intro H1 e1 Q q
  refine h H1 e1 _ fun p H2 hp e2 h2 => ?_
  exact ⟨p, xs, rfl, .inl ⟨sq_of h2, fun l hl => q l _ (fresh_back e2 hl) (e2.trans (Ex.new hl)) upd_same⟩⟩
theorem ev_fld {te : TE} {o C dx : Addr} {fs : List (Str × V)} {f : Str} {v : V} (h : Ev te σ H (.ref o)) (ho : H o = some (.ins C dx fs)) (c : Cls K C) (n : NoAttr K C f) (hl : fs.lookup f = some v) : Ev (tFld K te f) σ H v :=
  fun H1 e Q q => h H1 e _ fun H2 e2 => ⟨o, C, dx, fs, v, rfl, (e.trans e2) _ _ ho, c, n, hl, q H2 e2⟩
theorem dget_ex {H' : Hp} {a : Addr} {y : V} {r : Option V} (e : Ex H H') (h : DGet H a y r) : DGet H' a y r := by
  rcases h with ⟨kvs, k, h1, h2, h3⟩ | ⟨kvs, k, b, h1, h2, h3, h4⟩
  · exact .inl ⟨kvs, k, ex_rd e h1, h2, h3⟩
  · exact .inr ⟨kvs, k, b, ex_rd e h1, h2, e _ _ h3, h4⟩
theorem ev_dget {td ty : TE} {d : Addr} {y v : V} (h : Ev td σ H (.ref d)) (h2 : Ev ty σ H y) (hg : DGet H d y (some v)) : Ev (tDGet td ty) σ H v :=
  fun H1 e Q q => h H1 e _ fun H2 e2 => h2 H2 (e.trans e2) _ fun H3 e3 => ⟨d, v, rfl, dget_ex ((e.trans e2).trans e3) hg, q H3 (e2.trans e3)⟩
end
end Vlk

set_option Elab.async false
set_option linter.all false
set_option maxRecDepth 100000
set_option maxHeartbeats 2000000
/-! What comes to data: whatever objects hold it. -/
namespace Ve
open PySem PySem.Spec PyProof.Rows L2 Vl Evl Vp Vr Vc Vlk Vda
mutual
theorem dp_ex {K : PySem.W.Frag} {H H' : Hp} (e : Ex H H') : ∀ {v : V} {d : PyData}, Dp K H v d → Dp K H' v d
  | _, _, .non => .non
  | _, _, .bl b => .bl b
  | _, _, .int i => .int i
  | _, _, .str x => .str x
  | _, _, .lst h hs => .lst (ex_l e h) (dpa_ex e hs)
  | _, _, .tup h hs => .tup (ex_t e h) (dpa_ex e hs)
theorem dpa_ex {K : PySem.W.Frag} {H H' : Hp} (e : Ex H H') : ∀ {v : List V} {d : List PyData}, DpAll K H v d → DpAll K H' v d
  | _, _, .nil => .nil
  | _, _, .cons h hs => .cons (dp_ex e h) (dpa_ex e hs)
end
def EvD (K : PySem.W.Frag) (te : TE) (σ : L2.St) (H : Hp) (d : PyData) : Prop := ∀ H1, Ex H H1 → ∀ Q : VK, (∀ v H2, Ex H1 H2 → Dp K H2 v d → Q v H2) → te σ H1 Q
def EvDA (K : PySem.W.Frag) (ta : TA) (σ : L2.St) (H : Hp) (ds : List PyData) : Prop := ∀ H1, Ex H H1 → ∀ Q : List V → Hp → Prop, (∀ vs H2, Ex H1 H2 → DpAll K H2 vs ds → Q vs H2) → ta σ H1 Q
def SpD (K : PySem.W.Frag) (sp : Sp) (vs : List V) (H : Hp) (d : PyData) : Prop := ∀ H1, Ex H H1 → ∀ Q : VK, (∀ v H2, Ex H1 H2 → Dp K H2 v d → Q v H2) → ∀ E : XK, sp vs H1 Q E
section
variable {K : PySem.W.Frag} {σ : L2.St} {H H' : Hp} {te ta tb : TE} {t : TA} {d e : PyData} {v : V}
theorem EvD.mono (x : Ex H H') (h : EvD K te σ H d) : EvD K te σ H' d := fun H1 a Q q => h H1 (x.trans a) Q q
theorem ed_ev (h : Ev te σ H v) (hd : Dp K H v d) : EvD K te σ H d := fun H1 e Q q => h H1 e Q fun H2 e2 => q v H2 e2 (dp_ex (e.trans e2) hd)
theorem ed_str {s : List Nat} (h : Ev te σ H (.str (tx s))) : EvD K te σ H (.str (tx s)) := ed_ev h (.str _)
theorem ed_U {xs : List V} {ds : List PyData} (h : EvU te σ H xs) (hd : DpAll K H xs ds) : EvD K te σ H (.tuple ds) := fun H1 e Q q => h H1 e Q fun p H2 _ e2 hp => q _ H2 e2 (.tup (.inl (.inl hp)) (dpa_ex (e.trans e2) hd))
theorem ed_L {xs : List V} {ds : List PyData} (h : EvL te σ H xs) (hd : DpAll K H xs ds) : EvD K te σ H (.list ds) := fun H1 e Q q => h H1 e Q fun p H2 _ e2 hp => q _ H2 e2 (.lst (sq_of hp) (dpa_ex (e.trans e2) hd))
theorem ed_Un {xs : List (List Nat)} (h : EvU te σ H (vtx xs)) : EvD K te σ H (wd xs) := ed_U h (dpa_vtx xs)
theorem ed_Ln {xs : List (List Nat)} (h : EvL te σ H (vtx xs)) : EvD K te σ H (wls xs) := ed_L h (dpa_vtx xs)
theorem eda_nil : EvDA K tNil σ H [] := fun H1 _ Q q => q [] H1 (Ex.refl _) .nil
theorem eda_cons {ds : List PyData} (h : EvD K te σ H d) (hr : EvDA K t σ H ds) : EvDA K (tCons te t) σ H (d :: ds) := fun H1 e Q q =>
  h H1 e _ fun v H2 e2 h2 => hr H2 (e.trans e2) _ fun vs H3 e3 h3 => q _ H3 (e2.trans e3) (.cons (dp_ex e3 h2) h3)
theorem dpa_len : ∀ {vs : List V} {ds : List PyData}, DpAll K H vs ds → vs.length = ds.length
  | _, _, .nil => rfl
  | _, _, .cons h hs => by
    rw [List.length_cons, List.length_cons, dpa_len hs]
theorem ed_tup {ds : List PyData} (h : EvDA K t σ H ds) (hl : ds.length ≤ 100000) : EvD K (tTup t) σ H (.tuple ds) := fun H1 e Q q =>
  h H1 e _ fun vs H2 e2 h2 => ⟨by rw [dpa_len h2]; exact sz_of hl, fun p hp => q _ _ (e2.trans (Ex.new hp)) (.tup (.inl (.inl upd_same)) (dpa_ex (Ex.new hp) h2))⟩
theorem ed_lst {ds : List PyData} (h : EvDA K t σ H ds) (hl : ds.length ≤ 100000) : EvD K (tLst t) σ H (.list ds) := fun H1 e Q q =>
  h H1 e _ fun vs H2 e2 h2 => ⟨by rw [dpa_len h2]; exact sz_of hl, fun p hp => q _ _ (e2.trans (Ex.new hp)) (.lst (sq_of upd_same) (dpa_ex (Ex.new hp) h2))⟩
theorem ev_eqD (h : EvD K ta σ H d) (h2 : EvD K tb σ H e) (s1 : SeqAt.shaped d = true) (s2 : SeqAt.shaped e = true) : Ev (tOp (rEqD K) ta tb) σ H (.bl (PyData.eqv d e)) := fun H1 x Q q =>
  h H1 x _ fun v H2 e2 hv => h2 H2 (x.trans e2) _ fun u H3 e3 hu => ⟨d, e, dp_ex e3 hv, hu, s1, s2, q H3 (e2.trans e3)⟩
theorem ev_neD (h : EvD K ta σ H d) (h2 : EvD K tb σ H e) (s1 : SeqAt.shaped d = true) (s2 : SeqAt.shaped e = true) : Ev (tOp (rNeD K) ta tb) σ H (.bl (!PyData.eqv d e)) := fun H1 x Q q =>
  h H1 x _ fun v H2 e2 hv => h2 H2 (x.trans e2) _ fun u H3 e3 hu => ⟨d, e, dp_ex e3 hv, hu, s1, s2, q H3 (e2.trans e3)⟩
theorem sh_lay (h : SeqAt.shaped d = true) : d.canLay0 = true := by
  unfold SeqAt.shaped at h
  exact (Bool.and_eq_true_iff.mp h).1
/-- the same data: equal -/
theorem ev_same (h : EvD K ta σ H d) (h2 : EvD K tb σ H d) (s : SeqAt.shaped d = true) : Ev (tOp (rEqD K) ta tb) σ H (.bl true) := by
  have := ev_eqD h h2 s s
  rw [SeqAt.eqv_refl d (sh_lay s)] at this
  exact this
theorem ev_unlike (h : EvD K ta σ H d) (h2 : EvD K tb σ H d) (s : SeqAt.shaped d = true) : Ev (tOp (rNeD K) ta tb) σ H (.bl false) := by
  have := ev_neD h h2 s s
  rw [SeqAt.eqv_refl d (sh_lay s)] at this
  exact this
theorem ed_fu {sp : Sp} {E : L2.St → XK} {vs : List V} (h : EvA t σ H vs) (hs : SpD K sp vs H d) : EvD K (tFu sp E t) σ H d := fun H1 e Q q =>
  h H1 e _ fun H2 e2 => hs H2 (e.trans e2) Q (fun v H3 e3 => q v H3 (e2.trans e3)) (E σ)
theorem et_yes : EvT tYes σ H true := fun H1 _ Q q => q H1 (Ex.refl _)
/-- tuple(a list that stands) -/
theorem eu_tupleA {p : Addr} {xs : List V} (h : Ev te σ H (.ref p)) (hx : SqL K H p xs) : EvU (tCB (fun vs H Q => ∃ p ys, vs = [.ref p] ∧ ((SqL K H p ys ∧ ∀ l, H l = none → Q (.ref l) (upd H l (.tup ys))) ∨ (SqT K H p ys ∧ Q (.ref p) H))) (tCons te tNil)) σ H xs := fun H1 e Q q =>
  h H1 e _ fun H2 e2 => ⟨p, xs, rfl, .inl ⟨ex_l (e.trans e2) hx, fun l hl => q l _ (fresh_back e2 hl) (e2.trans (Ex.new hl)) upd_same⟩⟩
theorem ev_lenA {p : Addr} {xs : List V} (h : Ev te σ H (.ref p)) (hx : SqL K H p xs) : Ev (tCB (fun vs H Q => ∃ x n, vs = [x] ∧ LenV K x H n ∧ Q (.int n) H) (tCons te tNil)) σ H (.int (xs.length : Nat)) := fun H1 e Q q =>
  h H1 e _ fun H2 e2 => ⟨.ref p, xs.length, rfl, .inl ⟨xs, ex_l (e.trans e2) hx, rfl⟩, q H2 e2⟩
theorem ev_ixA {p : Addr} {xs : List V} {i : Nat} (h : Ev te σ H (.ref p)) (hx : SqL K H p xs) (hi : xs[i]? = some v) : Ev (tOp (rIxL K) te (tC (.int (i : Nat)))) σ H v := ev_op h ev_c (rv_ixL hx (at_of rfl hi))
/-! comprehensions by their items -/
theorem given_map {α : Type} {ys : List α} (c : α → Bool) (w : α → V) (f : Nat → Bool) (v : Nat → V) (h : ∀ (i : Nat) (y : α), ys[i]? = some y → f i = c y ∧ v i = w y) : ∀ n, n ≤ ys.length → given n f v = ((ys.take n).filter c).map w
  | 0, _ => by rw [List.take_zero]; rfl
  | n + 1, hn => by
    have hlt : n < ys.length := by omega
    have hy : ys[n]? = some ys[n] := List.getElem?_eq_getElem hlt
    obtain ⟨h1, h2⟩ := h n _ hy
    have ih := given_map c w f v h n (by omega)
    have ht : ys.take (n + 1) = ys.take n ++ [ys[n]] := by rw [List.take_succ, hy]; rfl
    rw [ht, List.filter_append, List.map_append]
    cases hc : c ys[n] with
    | true =>
      rw [given_yes (by rw [h1]; exact hc), ih, List.filter_cons_of_pos hc, h2]
      rfl
    | false =>
      rw [given_no (by rw [h1]; exact hc), ih, List.filter_cons_of_neg (by rw [hc]; decide)]
      show _ = _ ++ []
      rw [List.append_nil]
theorem el_lcA {α : Type} {ys : List α} {g : α → V} {a : Addr} {tl : TE} {j : Nat} {vs : List Nat} {tt : TT} (c : α → Bool) (w : α → V) (h : Ev tl σ H (.ref a)) (hx : SqL K H a (ys.map g)) (hz : ys.length ≤ 40000) (hw : ∀ x, wipe ((wipe σ vs).set j (some x)) vs = wipe σ vs)
    (ht : ∀ (y : α) (H1 : Hp), Ex H H1 → y ∈ ys → EvT tt ((wipe σ vs).set j (some (g y))) H1 (c y)) (he : ∀ (y : α) (H1 : Hp), Ex H H1 → y ∈ ys → c y = true → Ev te ((wipe σ vs).set j (some (g y))) H1 (w y)) :
    EvL (tLc (iList K tl) (gName j) tt te vs) σ H ((ys.filter c).map w) := by
  have key := el_lcL (K := K) (σ := σ) (H := H) (te := te) (t := tt) (j := j) (vs := vs) (fun i => match ys[i]? with | some y => c y | none => false) (fun i => match ys[i]? with | some y => w y | none => .non) h hx (by rw [List.length_map]; exact hz) hw
    (fun i x H1 e hi => by
      rw [List.getElem?_map] at hi
      obtain ⟨y, hy, rfl⟩ := Option.map_eq_some_iff.mp hi
      rw [hy]
      exact ht y H1 e (List.mem_of_getElem? hy))
    (fun i x H1 e hi hf => by
      rw [List.getElem?_map] at hi
      obtain ⟨y, hy, rfl⟩ := Option.map_eq_some_iff.mp hi
      rw [hy] at hf ⊢
      exact he y H1 e (List.mem_of_getElem? hy) hf)
  rw [given_map c w _ _ (fun i y hy => by rw [hy]; exact ⟨rfl, rfl⟩) _ (by rw [List.length_map]; exact Nat.le_refl _), List.length_map, List.take_length] at key
  exact key
theorem el_lcM {α : Type} {ys : List α} {g : α → V} {a : Addr} {tl : TE} {j : Nat} {vs : List Nat} (w : α → V) (h : Ev tl σ H (.ref a)) (hx : SqL K H a (ys.map g)) (hz : ys.length ≤ 40000) (hw : ∀ x, wipe ((wipe σ vs).set j (some x)) vs = wipe σ vs)
    (he : ∀ (y : α) (H1 : Hp), Ex H H1 → y ∈ ys → Ev te ((wipe σ vs).set j (some (g y))) H1 (w y)) :
    EvL (tLc (iList K tl) (gName j) tYes te vs) σ H (ys.map w) := by
  have := el_lcA (K := K) (tt := tYes) (te := te) (fun _ => true) w h hx hz hw (fun y H1 _ _ => et_yes) (fun y H1 e hy _ => he y H1 e hy)
  rw [List.filter_eq_self.mpr (fun _ _ => rfl)] at this
  exact this
theorem s_forNUn {D : Ends} {tu : TS} {xs : List V} {tl : TE} {j : Nat} (h : EvU tl σ H xs) (Pv : Addr → Nat → L2.St → Hp → Prop) (h0 : ∀ p H1, H p = none → Ex H H1 → H1 p = some (.tup xs) → Pv p 0 σ H1) (hl : ∀ p i σ' H', i ≤ xs.length → Pv p i σ' H' → SqT K H' p xs)
    (hs : ∀ p i x σ' H', xs[i]? = some x → Pv p i σ' H' → tu { D with nx := Pv p (i + 1), ct := Pv p (i + 1), bk := D.nx } (σ'.set j (some x)) H') (hd : ∀ p σ' H', Pv p xs.length σ' H' → D.nx σ' H') : tFor (iTup K tl) (gName j) tu D σ H :=
  h H (Ex.refl H) _ fun p H1 hp e h1 => ⟨p, rfl, ⟨xs, .inl (.inl h1)⟩, for_tup (Pv p) (h0 p H1 hp e h1) (hl p) (hs p) (hd p)⟩
theorem et_notin {ty td : TE} {d : Addr} {y : V} {o : Option V} (h1 : Ev ty σ H y) (h2 : Ev td σ H (.ref d)) (hg : DGet H d y o) : EvT (tB (tDNotIn ty td)) σ H (!o.isSome) := fun H1 e Q q =>
  h1 H1 e _ fun H2 e2 => h2 H2 (e.trans e2) _ fun H3 e3 => ⟨d, o, rfl, dget_ex ((e.trans e2).trans e3) hg, _, rfl, q H3 (e2.trans e3)⟩
theorem et_in {ty td : TE} {d : Addr} {y : V} {o : Option V} (h1 : Ev ty σ H y) (h2 : Ev td σ H (.ref d)) (hg : DGet H d y o) : EvT (tB (tDIn ty td)) σ H o.isSome := fun H1 e Q q =>
  h1 H1 e _ fun H2 e2 => h2 H2 (e.trans e2) _ fun H3 e3 => ⟨d, o, rfl, dget_ex ((e.trans e2).trans e3) hg, _, rfl, q H3 (e2.trans e3)⟩
theorem et_truL {p : Addr} {xs : List V} (h : Ev te σ H (.ref p)) (hx : SqL K H p xs) : EvT (fun σ H Q => te σ H fun x H' => ∃ k, TruV K x H' k ∧ Q k H') σ H (!xs.isEmpty) := fun H1 e Q q =>
  h H1 e _ fun H2 e2 => ⟨_, .inl ⟨xs, ex_l (e.trans e2) hx, rfl⟩, q H2 e2⟩
theorem q_forNUn {D : Ends} {tu tz : TS} {xs : List V} {tl : TE} {j : Nat} (h : EvU tl σ H xs) (Pv : Addr → Nat → L2.St → Hp → Prop) (h0 : ∀ p H1, H p = none → Ex H H1 → H1 p = some (.tup xs) → Pv p 0 σ H1) (hl : ∀ p i σ' H', i ≤ xs.length → Pv p i σ' H' → SqT K H' p xs)
    (hs : ∀ p i x σ' H', xs[i]? = some x → Pv p i σ' H' → tu { D with nx := Pv p (i + 1), ct := Pv p (i + 1), bk := tz D } (σ'.set j (some x)) H') (hd : ∀ p σ' H', Pv p xs.length σ' H' → tz D σ' H') : tSeq (tFor (iTup K tl) (gName j) tu) tz D σ H :=
  h H (Ex.refl H) _ fun p H1 hp e h1 => ⟨p, rfl, ⟨xs, .inl (.inl h1)⟩, for_tup (Pv p) (h0 p H1 hp e h1) (hl p) (hs p) (hd p)⟩
end
end Ve

set_option Elab.async false
set_option linter.all false
set_option maxRecDepth 100000
set_option maxHeartbeats 2000000
/-! enumerate(x), for .. in x: x a list or a tuple. -/
namespace PySem
open Sem (wp)
theorem vmeets_enumerate {v : Value} {o : Obj} {H : Heap → Prop} (B : Begins v o H) :
    Meets (Builtin.«enumerate.__new__» ⟨[.type "enumerate", v], []⟩) (fun _ R s => H s.heap ∧
      R (.ok (.ret (.ref (s.heap.push o).objs.size))) { s with heap := (s.heap.push o).push { cls := .type "enumerate", data := .fields #[.none, .bool false, .ref s.heap.objs.size, rawInt 0, .none, .none] } }) :=
  .of_wp fun prog w A R s h => by
    obtain ⟨hp, g, d, tk, os⟩ := s; obtain ⟨h1, h⟩ := h
    have hsub := sub_enumerate
    have q1 : ∀ {A' : Around} {E : Value → Shared → Prop} {Q : Value → Shared → Prop}, Q (.ref hp.objs.size) ⟨hp.push o, g, d, tk, os⟩ → wpAny (model prog w) A' (pyIter v) Q E ⟨hp, g, d, tk, os⟩ :=
      fun q => B.iter prog w _ _ ⟨hp, g, d, tk, os⟩ _ h1 q
    wp_walk using q1
    refine wpAny_stack_any fun st => wpAny_pure ?_
    split
    · rename_i c _ _ _ _ _
      cases (c == Value.type "enumerate")
      · wp_walk using q1
        exact ⟨_, rfl, h⟩
      · wp_walk using q1
        exact ⟨_, rfl, h⟩
    · wp_walk using q1
      exact ⟨_, rfl, h⟩
section
variable {prog : Program} {w : World} {A : Around} {E : Value → Shared → Prop} {s : Shared}
theorem vcall_enumerate {v : Value} {o : Obj} {H : Heap → Prop} {Q : Value → Shared → Prop} (B : Begins v o H) (h1 : H s.heap)
    (h : ∀ h', IsEnum h' (s.heap.objs.size + 1) s.heap.objs.size 0 .none → h'.get? s.heap.objs.size = some o → h'.objs.size = s.heap.objs.size + 2 →
      (∀ b o, s.heap.get? b = some o → h'.get? b = some o) → Q (.ref (s.heap.objs.size + 1)) { s with heap := h' }) :
    wpAny (model prog w) A (call (.type "enumerate") [v]) Q E s := by
  refine callType_new F.called_enumerate (by decide) (F.typeCall_enumerate_1 _) (F.newCall_enumerate_1 _) (fun obj => F.args_object_init_2 obj _) F.entry_enumerate_new
    (vmeets_enumerate B) ⟨h1, ?_⟩
  have hz : (s.heap.push o).objs.size = s.heap.objs.size + 1 := Heap.size_push ..
  show _ ∧ _
  rw [hz]
  have he : IsEnum ((s.heap.push o).push { cls := .type "enumerate", data := .fields #[.none, .bool false, .ref s.heap.objs.size, rawInt 0, .none, .none] }) (s.heap.objs.size + 1) s.heap.objs.size 0 .none := by
    have := Heap.get?_push_size (s.heap.push o) (o := { cls := .type "enumerate", data := .fields #[.none, .bool false, .ref s.heap.objs.size, rawInt 0, .none, .none] }) rfl
    rw [hz] at this; exact this
  refine ⟨⟨_, he, rfl⟩, h _ he (Heap.get?_push_of_some _ (Heap.get?_push_size _ B.free)) (by rw [Heap.size_push, hz]) fun b o x => Heap.get?_push_of_some _ (Heap.get?_push_of_some _ x)⟩
end
end PySem
namespace Ven
open PySem PySem.Spec PyProof.Rows L2 Evl Ve
/-- the tuple at a, each item in a new pair -/
def IteT (K : PySem.W.Frag) (a : Addr) : It :=
  ⟨fun i H => ∃ (xs : List V) (x : V), SqT K H a xs ∧ xs[i]? = some x, fun i H v H' => ∃ T x, v = .ref T ∧ H T = none ∧ H' = upd H T (.tup [.int (i : Nat), x]) ∧ ∀ xs, SqT K H a xs → xs[i]? = some x, fun i H => ∃ xs : List V, SqT K H a xs ∧ xs.length ≤ i⟩
theorem turn_enumT {P : Program} {w : World} {K : PySem.W.Frag} {elts : List Expr} {kk : Nat} {tpos : Pos} (a e it : Addr) :
    Turn P w K (.Tuple elts kk tpos) (IteT K a) [e, it] e (fun i h => (∃ old, IsEnum h e it ((i : Nat) : Int) old) ∧ h.IsTupleIter it a i ∧ e ≠ it) where
  mem := by simp
  obj := fun i h st b hb => by
    obtain ⟨⟨old, he⟩, ⟨o, ho, hc, hd⟩, _⟩ := st
    have e' : b = e ∨ b = it := by simpa using hb
    rcases e' with z | z
    · rw [z]; exact ⟨_, he, fun v q => nomatch q⟩
    · rw [z]; exact ⟨o, ho, fun v q => by rw [hd] at q; cases q⟩
  keep := fun i h h' st k => let ⟨⟨old, he⟩, hi, hne⟩ := st; ⟨⟨old, k e (by simp) _ he⟩, hi.at fun o q => k it (by simp) o q, hne⟩
  item := by
    intro X hP hw hK hc i pins s σ H E I hf st hg
    subst hP hw hK
    obtain ⟨⟨old, he⟩, hit, hne⟩ := st
    obtain ⟨xs, x, hq, hx⟩ := hg
    obtain ⟨its, rv, p, hz⟩ := I.tuple hq
    obtain ⟨u, hu, ru⟩ := rv.get hx
    have hel : e < s.heap.objs.size := Heap.lt_size he
    have hil : it < s.heap.objs.size := by obtain ⟨_, q, _⟩ := hit; exact Heap.lt_size q
    have pt : s.heap.IsTuple a its.toArray := p
    have hta : a ≠ it := fun z => by
      obtain ⟨o1, h1, c1, d1⟩ := hit
      obtain ⟨o2, h2, c2, _⟩ := pt
      rw [z, h1] at h2
      cases h2
      rw [c1] at c2
      exact absurd c2 (by decide)
    have hea : e ≠ a := fun z => by
      obtain ⟨o2, h2, c2, _⟩ := pt
      rw [← z] at h2
      have h3 := he
      unfold IsEnum at h3
      rw [h3] at h2
      cases h2
      have c3 : Value.type "enumerate" = Value.type "tuple" := c2
      injection c3 with c4
      exact absurd c4 (by decide)
    have hh1 : X.A.in1.handled = none := I.ok.hd hc
    refine wpAny_pyNext_enum_itemD (i := i) (Draws.tuple hh1 it a hta its.toArray) he ⟨hit, pt⟩ (by
      have := (List.getElem?_eq_some_iff.mp hu).1
      simpa using this) hne (by simp [hne, hea]) fun y h' tk hy ho hs' hT hsz hk => ?_
    have hyu : y = u := by
      have : its.toArray[i]? = some u := by simpa using hu
      rw [this] at hy
      exact (Option.some.inj hy).symm
    subst hyu
    obtain ⟨hit', _⟩ := hs'
    refine ⟨_, rfl, wpAny_letOwnedTupleGo_enum (s := { s with heap := h', toks := tk + 1 }) ho fun h'' he' sb => ?_⟩
    have hT2 : h''.get? s.heap.objs.size = some { cls := .type "tuple", data := .seq #[.int i tk, y] } := (sb.2 _ (Nat.ne_of_gt hel)).trans hT
    have new : ObjOk X.prog X.w (upd H s.heap.objs.size (.tup [.int (i : Nat), x])) h'' s.heap.objs.size (.tup [.int (i : Nat), x]) :=
      ⟨by show 2 ≤ sizeLine; decide, [.int i tk, y], .cons ⟨_, rfl⟩ (.cons ru .nil), ⟨_, hT2, rfl, _, rfl⟩⟩
    have I1 : Inv X pins σ (upd H s.heap.objs.size (.tup [.int (i : Nat), x])) { s with heap := h'', toks := tk + 1 } :=
      I.turnedNew (ch := [e, it]) (fun b ob hb q => (sb.2 b (fun z => hb (by simp [z]))).trans (hk b ob (fun z => hb (by simp [z])) (fun z => hb (by simp [z])) q)) hf (Nat.le_refl _) new
    refine ⟨.ref s.heap.objs.size, _, I1, rfl, ⟨_, x, rfl, I.hok.fresh (Nat.le_refl _), rfl, fun ys hy => by rw [I.tuple_inj hy hq]; exact hx⟩, ⟨⟨y, ?_⟩, hit'.at fun o q => (sb.2 it (Ne.symm hne)).trans q, hne⟩, fun b hb => ?_⟩
    · have e1 : ((i + 1 : Nat) : Int) = (i : Int) + 1 := by omega
      rw [e1]; exact he'
    · have hb' : b < s.heap.objs.size := by
        have e' : b = e ∨ b = it := by simpa using hb
        rcases e' with z | z
        · rw [z]; exact hel
        · rw [z]; exact hil
      rw [upd_ne (Nat.ne_of_lt hb')]
      exact (hf b hb).1
  done := by
    intro X hP hw hK hc i pins s σ H E I hf st hg
    subst hP hw hK
    obtain ⟨⟨old, he⟩, hit, hne⟩ := st
    obtain ⟨xs, hq, hx⟩ := hg
    obtain ⟨its, rv, p, hz⟩ := I.tuple hq
    obtain ⟨f0, f1, f2, f3, f4, f5⟩ := hf it (by simp)
    have hl := rv.length
    have pt : s.heap.IsTuple a its.toArray := p
    have hh1 : X.A.in1.handled = none := I.ok.hd hc
    have hT : s.TypeIs (.ref e) "enumerate" := ⟨_, he, rfl⟩
    unfold pyNext
    refine wpAny_bind (wpAny_attempt (wpAny_callSpecial?_slot (name := Str.ofString "__next__") hT F.slot_enumerate_next
      (wpAny_call_entry F.slot_enumerate_next hT F.entry_enumerate_next ?_ (F.args_enumerate_next_1 _))))
    show wpAny _ _ (field (.ref e) 2 >>= _) _ _ _
    refine wpAny_bind (wpAny_field he rfl (x := .ref it) rfl ?_)
    refine wpAny_bind (wpAny_nextOf_tuple_end hh1 hit pt (by simp; omega) fun h' x he' hx' => ?_)
    obtain ⟨o, ho, hc⟩ := hx'
    refine wpAny_bind (wpAny_isInstance (T := "StopIteration") (b := true) ⟨o, ho, hc⟩ isSubtype_stop ?_)
    exact wpAny_pure ⟨rfl, I.turned (t' := s.toks) (fun b o hb q => he' b o hb q) f0 f1 f3 f4 f5⟩
  self := fun A i s Q E st h => let ⟨⟨_, he⟩, _⟩ := st; wpAny_pyIter_enum he h
/-- a list or a tuple -/
def SqA (K : PySem.W.Frag) (H : Hp) (a : Addr) (xs : List V) : Prop := SqL K H a xs ∨ SqT K H a xs
theorem ex_a {K : PySem.W.Frag} {H H' : Hp} {a : Addr} {xs : List V} (e : Ex H H') (h : SqA K H a xs) : SqA K H' a xs := h.imp (ex_l e) (ex_t e)
def iEnumA (K : PySem.W.Frag) (ta : TA) : TI := fun σ H R => ta σ H fun vs H1 => ∃ a xs, vs = [.ref a] ∧ ((SqL K H1 a xs ∧ R (Ite K a) H1) ∨ (SqT K H1 a xs ∧ R (IteT K a) H1))
theorem pi_enumA {X : Cx} {e : Expr} {ta : TA} {p pos tpos : Pos} {elts : List Expr} {kk : Nat} (hg : Gl X "enumerate") (hm : X.mg "enumerate" = none) (ha : PA X [e] ta) (hs : starEach [e] X.env = [(false, eval e X.env)] := by rfl) :
    PI X (.Tuple elts kk tpos) (.Call (.Name "enumerate" p) [e] [] pos) (iEnumA X.K ta) := by
  refine ⟨fun pins s σ H R I h => ?_⟩
  refine Call_ (ld_blt I hg hm boot_enumerate (PyProof.Rows.callWith_type1 (thn (ha.run pos pins s σ H _ I h) fun us s1 ⟨vs, H1, I1, r1, q1⟩ => ?_) hs rfl))
  obtain ⟨a, xs, ex, q⟩ := q1
  subst ex
  cases r1 with
  | cons r rr =>
    cases rr
    cases r
    have fin : ∀ {o : Obj} {Hh : Heap → Prop} {J : It} {St : Nat → Heap → Prop}, Begins (.ref a) o Hh → Hh s1.heap → Turn X.prog X.w X.K (.Tuple elts kk tpos) J [s1.heap.objs.size + 1, s1.heap.objs.size] (s1.heap.objs.size + 1) St →
        (∀ h', IsEnum h' (s1.heap.objs.size + 1) s1.heap.objs.size 0 .none → h'.get? s1.heap.objs.size = some o → St 0 h') → R J H1 →
        wpAny (model X.prog X.w) X.A (call (.type "enumerate") [.ref a]) (fun v => wpAny (model X.prog X.w) X.A (pyIter v) (PIE X pins σ (.Tuple elts kk tpos) R) X.xe) X.xe s1 := fun B hB T hst q => by
      refine vcall_enumerate B hB fun h' he hit hsz hk => wpAny_pyIter_enum he ?_
      have I2 : Inv X pins σ H1 { s1 with heap := h' } := I1.kept (t' := s1.toks) hk
      refine ⟨s1.heap.objs.size + 1, [s1.heap.objs.size + 1, s1.heap.objs.size], _, _, H1, rfl, I2, T, hst h' he hit, fun b hb => ?_, q⟩
      have e' : b = s1.heap.objs.size + 1 ∨ b = s1.heap.objs.size := by simpa using hb
      have hle : s1.heap.objs.size ≤ b := by
        rcases e' with z | z
        · rw [z]; exact Nat.le_add_right _ _
        · rw [z]; exact Nat.le_refl _
      exact I1.fpOk hle (I1.hok.fresh hle)
    rcases q with ⟨hq, q⟩ | ⟨hq, q⟩
    · obtain ⟨its, rv, p', hz⟩ := I1.list hq
      exact fin (begins_list a its.toArray) p'.isList (turn_enum a _ _) (fun h' he hit => ⟨⟨.none, he⟩, ⟨_, hit, rfl, rfl⟩, Nat.succ_ne_self _⟩) q
    · obtain ⟨its, rv, p', hz⟩ := I1.tuple hq
      exact fin (begins_tuple a its.toArray) (show s1.heap.IsTuple a its.toArray from p') (turn_enumT a _ _) (fun h' he hit => ⟨⟨.none, he⟩, ⟨_, hit, rfl, rfl⟩, Nat.succ_ne_self _⟩) q
def iSeqA (K : PySem.W.Frag) (tl : TE) : TI := fun σ H R => tl σ H fun x H1 => ∃ a, x = .ref a ∧ (((∃ xs, SqL K H1 a xs) ∧ R (Itl K a) H1) ∨ ((∃ xs, SqT K H1 a xs) ∧ R (Itt K a) H1))
theorem pi_seqA {X : Cx} {tg l : Expr} {tl : TE} (hl : PE X l tl) : PI X tg l (iSeqA X.K tl) := by
  refine ⟨fun pins s σ H R I h => ?_⟩
  refine thn (hl.run pins s σ H _ I h) fun v s1 ⟨x, H1, I1, r1, q1⟩ => ?_
  obtain ⟨a, e, ⟨⟨xs, hq⟩, q⟩ | ⟨⟨xs, hq⟩, q⟩⟩ := q1
  · subst e
    cases r1
    obtain ⟨its, rv, p, hz⟩ := I1.list hq
    refine wpAny_pyIter_list p.isList ?_
    refine ⟨s1.heap.objs.size, [s1.heap.objs.size], _, _, H1, rfl, I1.kept (t' := s1.toks) fun b o e => Heap.get?_push_of_some _ e, turn_list a _, ⟨_, Heap.get?_push_size _ rfl, rfl, rfl⟩, fun b hb => ?_, q⟩
    have e : b = s1.heap.objs.size := by simpa using hb
    subst e
    exact I1.fpOk (Nat.le_refl _) (I1.hok.fresh (Nat.le_refl _))
  · subst e
    cases r1
    obtain ⟨its, rv, p, hz⟩ := I1.tuple hq
    refine wpAny_pyIter_tuple (show s1.heap.IsTuple a its.toArray from p) ?_
    refine ⟨s1.heap.objs.size, [s1.heap.objs.size], _, _, H1, rfl, I1.kept (t' := s1.toks) fun b o e => Heap.get?_push_of_some _ e, turn_tuple a _, ⟨_, Heap.get?_push_size _ rfl, rfl, rfl⟩, fun b hb => ?_, q⟩
    have e : b = s1.heap.objs.size := by simpa using hb
    subst e
    exact I1.fpOk (Nat.le_refl _) (I1.hok.fresh (Nat.le_refl _))
/-! their readings -/
section
variable {K : PySem.W.Frag} {σ : L2.St} {H : Hp} {D : Ends} {tu : TS} {g : TG} {a : Addr} {xs : List V}
def YEn (xs : List V) : Nat → Hp → V → Hp → Prop := fun i H v H' => ∃ T x, v = .ref T ∧ H T = none ∧ H' = upd H T (.tup [.int (i : Nat), x]) ∧ xs[i]? = some x
theorem walk_en : Walk (Ite K a) xs.length (fun H => SqL K H a xs) (YEn xs) :=
  ⟨fun i _ hi q => ⟨xs, xs[i], q, by simp [hi]⟩, fun _ q => ⟨xs, q, Nat.le_refl _⟩, fun _ _ _ _ _ q y => let ⟨T, x, h1, h2, h3, h4⟩ := y; ⟨T, x, h1, h2, h3, h4 xs q⟩⟩
theorem walk_enT : Walk (IteT K a) xs.length (fun H => SqT K H a xs) (YEn xs) :=
  ⟨fun i _ hi q => ⟨xs, xs[i], q, by simp [hi]⟩, fun _ q => ⟨xs, q, Nat.le_refl _⟩, fun _ _ _ _ _ q y => let ⟨T, x, h1, h2, h3, h4⟩ := y; ⟨T, x, h1, h2, h3, h4 xs q⟩⟩
theorem s_forEn {ta : TA} (h : EvA ta σ H [.ref a]) (hx : SqA K H a xs) (Pv : Nat → L2.St → Hp → Prop) (h0 : ∀ H1, Ex H H1 → Pv 0 σ H1) (hl : ∀ i σ' H', Pv i σ' H' → Ex H H')
    (hs : ∀ i x T σ' H', xs[i]? = some x → Pv i σ' H' → H' T = none → g (.ref T) σ' (upd H' T (.tup [.int (i : Nat), x])) fun σ2 H2 => tu { D with nx := Pv (i + 1), ct := Pv (i + 1), bk := D.nx } σ2 H2) (hd : ∀ σ' H', Pv xs.length σ' H' → D.nx σ' H') : tFor (iEnumA K ta) g tu D σ H :=
  h H (Ex.refl H) _ fun H1 e => ⟨a, xs, rfl, by
    rcases hx with hx | hx
    · exact .inl ⟨ex_l e hx, for_it walk_en Pv (h0 H1 e) (fun i σ' H' _ p => ex_l (hl i σ' H' p) hx) (fun i v σ' H' H2 _ p ⟨T, x, e1, e2, e3, e4⟩ => by subst e1 e3; exact hs i x T σ' H' e4 p e2) hd⟩
    · exact .inr ⟨ex_t e hx, for_it walk_enT Pv (h0 H1 e) (fun i σ' H' _ p => ex_t (hl i σ' H' p) hx) (fun i v σ' H' H2 _ p ⟨T, x, e1, e2, e3, e4⟩ => by subst e1 e3; exact hs i x T σ' H' e4 p e2) hd⟩⟩
theorem s_forSq {tl : TE} (h : Ev tl σ H (.ref a)) (hx : SqA K H a xs) (Pv : Nat → L2.St → Hp → Prop) (h0 : ∀ H1, Ex H H1 → Pv 0 σ H1) (hl : ∀ i σ' H', Pv i σ' H' → Ex H H')
    (hs : ∀ i x σ' H', xs[i]? = some x → Pv i σ' H' → g x σ' H' fun σ2 H2 => tu { D with nx := Pv (i + 1), ct := Pv (i + 1), bk := D.nx } σ2 H2) (hd : ∀ σ' H', Pv xs.length σ' H' → D.nx σ' H') : tFor (iSeqA K tl) g tu D σ H :=
  h H (Ex.refl H) _ fun H1 e => ⟨a, rfl, by
    rcases hx with hx | hx
    · exact .inl ⟨⟨xs, ex_l e hx⟩, for_list Pv (h0 H1 e) (fun i σ' H' _ p => ex_l (hl i σ' H' p) hx) hs hd⟩
    · exact .inr ⟨⟨xs, ex_t e hx⟩, for_tup Pv (h0 H1 e) (fun i σ' H' _ p => ex_t (hl i σ' H' p) hx) hs hd⟩⟩
theorem ev_lenQ {te : TE} (h : Ev te σ H (.ref a)) (hx : SqA K H a xs) : Ev (tCB (fun vs H Q => ∃ x n, vs = [x] ∧ LenV K x H n ∧ Q (.int n) H) (tCons te tNil)) σ H (.int (xs.length : Nat)) := fun H1 e Q q =>
  h H1 e _ fun H2 e2 => ⟨.ref a, xs.length, rfl, (ex_a (e.trans e2) hx).imp (fun h => ⟨xs, h, rfl⟩) (fun h => ⟨xs, h, rfl⟩), q H2 e2⟩
end
end Ven

set_option Elab.async false
set_option linter.all false
set_option maxRecDepth 100000
set_option maxHeartbeats 4000000
namespace K61
open PySem PySem.Spec PyProof.Rows L2 Vl Evl Vp Vx2 Ven
abbrev sChkL : Stmt := top 22
/-- check_lanes(net, names) -/
def spChkL (K : PySem.W.Frag) (C NL : Addr) : Sp := fun vs H Q E => ∃ (o dx dp de t : Addr) (ps : List (List Nat)) (es : List Row) (ns : List (List Nat)), vs = [.ref o, .ref t] ∧ NetAt C H o dx dp de ps es ∧ SqA K H t (vtx ns) ∧
  (((∀ l ∈ ns, l ∈ laneNames es) ∧ ∀ H', Ex H H' → Q .non H') ∨ ∃ l, FirstOut ns (laneNames es) l ∧ RaisedF NL "name" H (.str (tx l)) E)
section
variable {P : Program} {w : World} {K : PySem.W.Frag} {mg : Str → Option Value} {base : Heap} {C NL fH : Addr}
theorem scCL : FnScope ["net", "names", "name"] ["net", "names"] (defScope sChkL) := ⟨rfl, rfl, rfl, by decide +kernel, rfl, by decide +kernel, by decide +kernel⟩
theorem ok_chkl {f : Addr} {fd fdH : FuncData} (F : FnP K "check_lanes" sChkL f fd) (c : Cls K C) (MH : Meth K C "__contains__" fH) (bH : Binds K fdH ["self", "x"] []) (GH : FnOk P w K mg base CX0 1 fH fdH ["self", "x"] (spHas K C)) (EP : Err1 P w K mg base "NoLane" "name" NL) :
    FnOk P w K mg base (L2.CX P w) 3 f fd ["net", "names"] (spChkL K C NL) := by
  obtain ⟨fE, fdE, iC, tI, bE, GE⟩ := EP.ini
  refine F.ok (CX := L2.CX P w) scCL (fun vs H Q E h => ?_) (fun cdv A outer s H vs Q E hr h => ?_)
  · obtain ⟨o, dx, dp, de, t, ps, es, ns, rfl, _⟩ := h
    rfl
  · have hr2 : Room 2 _ := hr
    have hr1 : Room 1 _ := hr.mono (by omega)
    refine ⟨_, (pss_one (ps_for (passes_of rfl) rfl (pi_seqA (pv 1)) (pg_name (i := 2) scCL.nd rfl (by first | exact Or.inl rfl | exact Or.inr rfl))
      (pss_one (ps_if (pt_cmpR (Vo.op_notInO (E1 := E0) MH GH hr1 bH pass0) (pv 2) (pv 0) rfl) (pss_one (ps_raise rfl (takes_of rfl rfl rfl rfl) (pmk_oex EP.T iC tI GE hr2 bE .nil pass0 (by rfl) EP.g (pa_cons (pv 2) pa_nil)))) pss_nil)))), ?_⟩
    obtain ⟨o, dx, dp, de, t, ps, es, ns, rfl, N, ht, h⟩ := h
    refine s_forSq (a := t) (ev_var rfl) ht (fun i st H' => ∃ t2, st = [some (.ref o), some (.ref t), t2] ∧ Ex H H' ∧ ∀ (j : Nat) (y : List Nat), j < i → ns[j]? = some y → y ∈ laneNames es)
      (fun H1 e => ⟨none, rfl, e, fun j y hj => absurd hj (Nat.not_lt_zero j)⟩) (fun i st H' ⟨_, _, e, _⟩ => e) ?_ ?_
    · rintro i x σ' H1 hx ⟨t2, rfl, e1, hall⟩
      unfold vtx at hx
      rw [List.getElem?_map] at hx
      obtain ⟨l, hl, rfl⟩ := Option.map_eq_some_iff.mp hx
      have N1 := N.mono e1
      refine ⟨_, rfl, _, rfl, o, dx, _, rfl, N1.at_, o, dx, dp, de, _, ps, es, rfl, N1, .inl ⟨l, rfl, _, rfl, _, rfl, ?_⟩⟩
      rw [if_pos rfl]
      by_cases hm : l ∈ laneNames es
      · refine if_f (by rw [decide_eq_true hm]; decide) ?_
        refine ⟨_, rfl, e1, fun j y hj hy => ?_⟩
        by_cases hji : j < i
        · exact hall j y hji hy
        · obtain rfl : j = i := by omega
          rw [hl] at hy
          obtain rfl := Option.some.inj hy
          exact hm
      · refine if_t (by rw [decide_eq_false hm]; rfl) ?_
        rcases h with ⟨ha, _⟩ | ⟨l2, ⟨i2, g1, g2, g3⟩, q⟩
        · exact absurd (ha l (List.mem_of_getElem? hl)) hm
        · have ei : i = i2 := by
            rcases Nat.lt_trichotomy i i2 with h1 | h1 | h1
            · exact absurd (g3 i l h1 hl) hm
            · exact h1
            · exact absurd (hall i2 l2 h1 g1) g2
          rw [ei] at hl
          rw [hl] at g1
          obtain rfl := Option.some.inj g1
          exact raised_f (W := fun cls d _ H' => E cls d H') 2 rfl rfl (RaisedF.grow q e1)
    · rintro st H1 ⟨t2, rfl, e1, hall⟩
      rcases h with ⟨ha, q⟩ | ⟨l2, ⟨i2, g1, g2, g3⟩, q⟩
      · exact q H1 e1
      · exact absurd (hall i2 l2 (by rw [vtx_len]; exact (List.getElem?_eq_some_iff.mp g1).1) g1) g2
end
end K61

set_option Elab.async false
set_option linter.all false
set_option maxRecDepth 100000
set_option maxHeartbeats 4000000
namespace K61
open PySem PySem.Spec PyProof.Rows L2 Vl Evl Vp Vx2
abbrev sLane : Stmt := mem 2
/-- net.lane(name, start, end) -/
def spLane (C BN NT NP : Addr) : Sp := fun vs H Q E => ∃ (o dx dp de : Addr) (ps : List (List Nat)) (es : List Row) (l a b : List Nat), vs = [.ref o, .str (tx l), .str (tx a), .str (tx b)] ∧ NetAt C H o dx dp de ps es ∧ es.length ≤ 1000 ∧
  ((nam l ∧ l ∉ laneNames es ∧ a ∈ ps ∧ b ∈ ps ∧ ∀ t H', Ex H H' → H t = none → H' t = some (.tup [.str (tx a), .str (tx b)]) → Q .non (upd H' de (.dK (dEnds (es ++ [(t, (l, a, b))]))))) ∨
   (l = [65] ∧ RaisedF BN "name" H (.str (tx l)) E) ∨ (nam l ∧ l ∈ laneNames es ∧ RaisedF NT "name" H (.str (tx l)) E) ∨
   (nam l ∧ l ∉ laneNames es ∧ ∃ x, FirstOut [a, b] ps x ∧ RaisedF NP "name" H (.str (tx x)) E))
section
variable {P : Program} {w : World} {K : PySem.W.Frag} {mg : Str → Option Value} {base : Heap} {C BN NT NP : Addr}
theorem scLa : FnScope ["self", "name", "start", "end"] ["self", "name", "start", "end"] (defScope sLane) := ⟨rfl, rfl, rfl, by decide +kernel, rfl, by decide +kernel, by decide +kernel⟩
theorem ok_lane {f fN fP : Addr} {fd fdN fdP : FuncData} (F : FnM K "lane" "Net.lane" sLane f fd) (c : Cls K C) (n1 : NoAttr K C "_ends") (FN : FnP K "check_name" sChkN fN fdN) (gN : mg "check_name" = some (.ref fN))
    (GN : FnOk P w K mg base (L2.CX P w) 3 fN fdN ["value"] (spChkN BN)) (ET : Err1 P w K mg base "NameTaken" "name" NT) (FP : FnP K "check_posts" sChkP fP fdP) (gP : mg "check_posts" = some (.ref fP)) (GP : FnOk P w K mg base (L2.CX P w) 3 fP fdP ["net", "names"] (spChkP K C NP)) :
    FnOk P w K mg base (L2.CX P w) 4 f fd ["self", "name", "start", "end"] (spLane C BN NT NP) := by
  have bN : Binds K fdN ["value"] [] := FN.bindsN fun _ _ _ _ _ _ us hl => match us, hl with | [_], _ => rfl
  have kN := FN.kp
  have bP : Binds K fdP ["net", "names"] [] := FP.bindsN fun _ _ _ _ _ _ us hl => match us, hl with | [_, _], _ => rfl
  have kP := FP.kp
  obtain ⟨fE, fdE, iC, tI, bE, GE⟩ := ET.ini
  refine F.ok (CX := L2.CX P w) scLa (fun vs H Q E h => ?_) (fun cdv A outer s H vs Q E hr h => ?_)
  · obtain ⟨o, dx, dp, de, ps, es, l, a, b, rfl, _⟩ := h
    rfl
  · have hr3 : Room 3 _ := hr
    have hr2 : Room 2 _ := hr.mono (by omega)
    refine ⟨_, (pss_cut (ps_expr (pe_callS (E := WE fun cls d _ H => E cls d H) GN hr3 (by rfl) gN kN bN (fun st => passAt (takes_of rfl rfl rfl rfl) st) (pa_cons (pv 1) pa_nil)))
      (pss_cons (ps_if (pt_cmp (pc_din (Nat.lt_of_le_of_lt (Nat.add_le_add_left (show 1 ≤ 64 by decide) _) hr.units) (pv 1) (pe_fld (pv 0) rfl))) (pss_one (ps_raise rfl (takes_of rfl rfl rfl rfl) (pmk_oex ET.T iC tI GE hr2 bE .nil pass0 (by rfl) ET.g (pa_cons (pv 1) pa_nil)))) pss_nil)
      (pss_cons (ps_expr (pe_callS (E := WE fun cls d _ H => E cls d H) GP hr3 (by rfl) gP kP bP (fun st => passAt (takes_of rfl rfl rfl rfl) st) (pa_cons (pv 0) (pa_cons (pe_tup (pa_cons (pv 2) (pa_cons (pv 3) pa_nil))) pa_nil))))
      (pss_one (ps_asg (pe_tup (pa_cons (pv 2) (pa_cons (pv 3) pa_nil))) (pg_sub (pe_fld (pv 0) rfl) (pv 1) (set_dict (Nat.lt_of_le_of_lt (Nat.add_le_add_left (show 1 ≤ 64 by decide) _) hr.units)))))))), ?_⟩
    obtain ⟨o, dx, dp, de, ps, es, l, a, b, rfl, N, h1, h⟩ := h
    refine ⟨fun st' H' => st' = [some (.ref o), some (.str (tx l)), some (.str (tx a)), some (.str (tx b))] ∧ Ex H H' ∧ nam l, ?_, ?_⟩
    · refine ⟨_, rfl, ?_⟩
      rcases h with ⟨hl, _⟩ | ⟨rfl, q⟩ | ⟨hl, _⟩ | ⟨hl, _⟩
      · exact ⟨l, rfl, .inl ⟨hl, fun H' e => ⟨rfl, e, hl⟩⟩⟩
      · exact ⟨[65], rfl, .inr ⟨rfl, q⟩⟩
      · exact ⟨l, rfl, .inl ⟨hl, fun H' e => ⟨rfl, e, hl⟩⟩⟩
      · exact ⟨l, rfl, .inl ⟨hl, fun H' e => ⟨rfl, e, hl⟩⟩⟩
    rintro _ H1 ⟨rfl, e1, hl⟩
    have n65 : ¬ nam [65] := fun ⟨c, r, e, hc, _⟩ => by
      obtain rfl := (List.cons.inj e).1
      exact absurd hc (by decide)
    have N1 := N.mono e1
    refine s_seq ?_
    refine ⟨_, rfl, _, rfl, o, C, dx, _, .ref de, rfl, N1.at_, c, n1, rfl, de, _, rfl, DGet.k (k := (Sum.inr (tx l) : Key)) N1.ends, _, rfl, ?_⟩
    rw [ends_val]
    by_cases hm : l ∈ laneNames es
    · refine if_t (by rw [decide_eq_true hm]) ?_
      rcases h with ⟨_, hn, _⟩ | ⟨rfl, _⟩ | ⟨_, _, q⟩ | ⟨_, hn, _⟩
      · exact absurd hm hn
      · exact absurd hl n65
      · exact raised_f (W := fun cls d _ H' => E cls d H') 1 rfl rfl (RaisedF.grow q e1)
      · exact absurd hm hn
    · refine if_f (by rw [decide_eq_false hm]; decide) ?_
      dsimp only
      refine s_seq ?_
      refine ⟨_, rfl, _, rfl, _, rfl, by show 2 ≤ sizeLine; decide, fun t0 nt0 => ?_⟩
      have e2 := e1.trans (Ex.new (o := .tup [.str (tx a), .str (tx b)]) nt0)
      refine ⟨o, dx, dp, de, t0, ps, es, [a, b], rfl, N.mono e2, .inl (.inl upd_same), ?_⟩
      rcases h with ⟨_, _, ha, hb, q⟩ | ⟨rfl, _⟩ | ⟨_, hn, _⟩ | ⟨_, _, x, fo, q⟩
      · refine .inl ⟨fun y hy => ?_, fun H3 e3 => ?_⟩
        · rcases List.mem_cons.mp hy with rfl | hy
          · exact ha
          · rw [List.mem_singleton.mp hy]
            exact hb
        · refine ⟨_, rfl, _, rfl, by show 2 ≤ sizeLine; decide, fun t nt => ?_⟩
          have e4 := (e2.trans e3).trans (Ex.new (o := .tup [.str (tx a), .str (tx b)]) nt)
          have N4 := N.mono e4
          refine ⟨_, rfl, o, C, dx, _, .ref de, rfl, N4.at_, c, n1, rfl, _, rfl, de, _, rfl, DPut.k (k := (Sum.inr (tx l) : Key)) N4.ends (sz_lt (by unfold dEnds; rw [List.length_map]; omega)), ?_⟩
          have hv : valV (dEnds es) (Sum.inr (tx l) : Key) = none := by
            have := ends_val es l
            rw [decide_eq_false hm] at this
            exact Option.not_isSome_iff_eq_none.mp (by rw [this]; decide)
          rw [putK_new _ hv]
          have := q t _ e4 (fresh_back (e2.trans e3) nt) upd_same
          unfold dEnds at *
          rw [List.map_append] at this
          exact this
      · exact absurd hl n65
      · exact absurd hn hm
      · exact .inr ⟨x, fo, RaisedF.grow q e2⟩
end
end K61

set_option Elab.async false
set_option linter.all false
set_option maxRecDepth 100000
set_option maxHeartbeats 4000000
namespace K61
open PySem PySem.Spec PyProof.Rows L2 Vl Evl Vp Vx2
abbrev sNIni : Stmt := mem 0
/-- Net() -/
def spNIni (C : Addr) : Sp := fun vs H Q _ => ∃ (x dx : Addr) (H0 : Hp), vs = [.ref x] ∧ H = upd (upd H0 dx (.own x)) x (.ins C dx []) ∧ H0 x = none ∧ H0 dx = none ∧ dx ≠ x ∧
  ∀ dp de H', Ex H0 H' → H0 dp = none → H0 de = none → dp ≠ de → NetAt C H' x dx dp de [] [] → Q .non H'
section
variable {P : Program} {w : World} {K : PySem.W.Frag} {mg : Str → Option Value} {base : Heap} {C NL : Addr}
theorem scNi : FnScope ["self"] ["self"] (defScope sNIni) := ⟨rfl, rfl, rfl, by decide +kernel, rfl, by decide +kernel, by decide +kernel⟩
theorem ok_nini {f : Addr} {fd : FuncData} (F : FnM K "__init__" "Net.__init__" sNIni f fd) (c : Cls K C) (n1 : NoAttr K C "_posts") (n2 : NoAttr K C "_ends") : FnOk P w K mg base CX0 1 f fd ["self"] (spNIni C) := by
  refine F.ok (CX := CX0) scNi (fun vs H Q E h => ?_) (fun cdv A outer s H vs Q E hr h => ?_)
  · obtain ⟨x, dx, H0, rfl, _⟩ := h
    rfl
  · refine ⟨_, (pss_cons (ps_fld (pv 0) pe_dnewK (by rfl)) (pss_one (ps_fld (pv 0) pe_dnewK (by rfl)))), ?_⟩
    obtain ⟨x, dx, H0, rfl, rfl, hx, hdx, hne, q⟩ := h
    refine s_seq ?_
    refine fun dp ndp => ⟨_, rfl, x, C, dx, [], rfl, ?_, c, n1, by show 0 < 1000; omega, ?_⟩
    · have hx1 := upd_same (H := upd H0 dx (.own x)) (a := x) (o := HO.ins C dx [])
      exact (Ex.new ndp) _ _ hx1
    · have dpx : dp ≠ x := fun z => by rw [z, upd_same] at ndp; cases ndp
      have dpd : dp ≠ dx := fun z => by rw [z, upd_ne hne, upd_same] at ndp; cases ndp
      have h0p : H0 dp = none := by
        rw [upd_ne dpx, upd_ne dpd] at ndp
        exact ndp
      refine fun de nde => ⟨_, rfl, x, C, dx, [("_posts", .ref dp)], rfl, (upd_ne (fun z => by rw [← z, upd_same] at nde; cases nde)).trans upd_same, c, n2, by show 1 < 1000; omega, ?_⟩
      have dex : de ≠ x := fun z => by rw [z, upd_same] at nde; cases nde
      have dep : de ≠ dp := fun z => by rw [z, upd_ne dpx, upd_same] at nde; cases nde
      have ded : de ≠ dx := fun z => by rw [z, upd_ne hne, upd_ne dpd.symm, upd_ne hne, upd_same] at nde; cases nde
      have h0e : H0 de = none := by
        rw [upd_ne dex, upd_ne dep, upd_ne dex, upd_ne ded] at nde
        exact nde
      refine q dp de _ ?_ h0p h0e dep.symm ⟨upd_same, ?_, ?_, fun e he => nomatch he⟩
      · exact Ex.mut ((Ex.mut (((Ex.new hdx).trans (Ex.new (by rw [upd_ne hne.symm]; exact hx))).trans (Ex.new ndp)) hx).trans (Ex.new nde)) hx
      · exact (upd_ne dpx).trans ((upd_ne dep.symm).trans ((upd_ne dpx).trans upd_same))
      · exact (upd_ne dex).trans upd_same
end
end K61

set_option Elab.async false
set_option linter.all false
set_option maxRecDepth 100000
set_option maxHeartbeats 4000000
/-! The class Net in one word, and what its methods come to. -/
namespace K61
open PySem PySem.Spec PyProof.Rows L2 Vl Evl Vp Vx2 Vlk Vda Vc Ve
structure ND (P : Program) (w : World) (K : PySem.W.Frag) (mg : Str → Option Value) (base : Heap) (C BN NT NP NL : Addr) : Prop where
  cls : Cls K C
  post : Mo P w K mg base C (L2.CX P w) 4 "post" (spPost C BN NT)
  lane : Mo P w K mg base C (L2.CX P w) 4 "lane" (spLane C BN NT NP)
  posts : Pr P w K mg base C 1 "posts" (spPosts C)
  lanes : Pr P w K mg base C 1 "lanes" (spLanes C)
  new : Nw P w K mg base C L2.CX0 1 "Net" (spNIni C)
section
variable {K : PySem.W.Frag} {C BN NT NP NL : Addr} {H : Hp} {o dx dp de : Addr} {ps : List (List Nat)} {es : List Row}
theorem sv_posts (N : NetAt C H o dx dp de ps es) : SpU (spPosts C) [.ref o] H (vtx ps) := fun H1 e Q q E => ⟨o, dx, dp, de, ps, es, rfl, N.mono e, fun t nt => q t _ nt (Ex.new nt) upd_same⟩
theorem sv_lanes (N : NetAt C H o dx dp de ps es) : SpU (spLanes C) [.ref o] H (vtx (laneNames es)) := fun H1 e Q q E => ⟨o, dx, dp, de, ps, es, rfl, N.mono e, fun t nt => q t _ nt (Ex.new nt) upd_same⟩
end
end K61

set_option maxRecDepth 100000
namespace R61
open PySem
def top (i : Nat) : Stmt := PySem.Challenge.pw_alsoshown_k61_known_by_windows.main.body.getD i (.Pass ⟨0, 0, 0, 0⟩)
end R61

set_option Elab.async false
set_option linter.all false
set_option maxRecDepth 100000
set_option maxHeartbeats 4000000
namespace R61
open PySem PySem.Spec PyProof.Rows L2 Vl Evl Vp
abbrev sCell : Stmt := top 34
abbrev sPool : Stmt := top 35
abbrev sTake : Stmt := top 36
abbrev FnP (K : PySem.W.Frag) (x : Str) (st : Stmt) (f : Addr) (fd : FuncData) : Prop := FunD K x x (defArgs st) (defBody st) (defScope st) [] [] f fd
section
variable {P : Program} {w : World} {K : PySem.W.Frag} {mg : Str → Option Value} {base : Heap}
theorem scC : FnScope ["_law_script", "_law_k"] ["_law_script", "_law_k"] (defScope sCell) := ⟨rfl, rfl, rfl, by decide +kernel, rfl, by decide +kernel, by decide +kernel⟩
theorem ok_cell {f : Addr} {fd : FuncData} (F : FnP K "_law_cell" sCell f fd) (mL : mg "len" = none) :
    FnOk P w K mg base CX0 1 f fd ["_law_script", "_law_k"] (spCell K) := by
  refine F.ok (CX := CX0) scC (fun vs H Q E h => ?_) (fun cdv A outer s H vs Q E hr h => ?_)
  · obtain ⟨l, ns, j, rfl, _⟩ := h
    rfl
  · refine ⟨_, pss_cons (ps_if (pt_cmpR op_lt (pv 1) (pe_callB call_len (by rfl) mL boot_len (pa_cons (pv 0) pa_nil)) (nomark _))
        (pss_one (ps_ret (pe_ix ix_seq (pv 0) (pv 1) fun _ _ => rfl))) pss_nil)
      (pss_one (ps_ret pe_int)), ?_⟩
    obtain ⟨l, ns, j, rfl, hs, q⟩ := h
    refine ⟨_, rfl, _, rfl, V.ref l, (ns.map V.int).length, rfl, .inl ⟨_, hs, rfl⟩, (j : Nat), ((ns.map V.int).length : Nat), rfl, rfl, _, rfl, ?_⟩
    by_cases hj : j < ns.length
    · rw [decide_eq_true (show ((j : Nat) : Int) < (((ns.map V.int).length : Nat) : Int) by rw [List.length_map]; omega)]
      refine iteT ?_
      exact ⟨_, rfl, _, rfl, .inl ⟨l, _, _, _, rfl, rfl, hs, atI_cell hj, q⟩⟩
    · rw [decide_eq_false (show ¬ ((j : Nat) : Int) < (((ns.map V.int).length : Nat) : Int) by rw [List.length_map]; omega)]
      refine iteF ?_
      rw [cell_out hj] at q
      exact q
theorem scP : FnScope ["_law_cell_here", "_law_folded"] ["_law_cell_here"] (defScope sPool) := ⟨rfl, rfl, rfl, by decide +kernel, rfl, by decide +kernel, by decide +kernel⟩
theorem ok_pool {f : Addr} {fd : FuncData} (F : FnP K "_law_pool" sPool f fd) (mI : mg "int" = none) :
    FnOk P w K mg base CX0 1 f fd ["_law_cell_here"] spPool := by
  refine F.ok (CX := CX0) scP (fun vs H Q E h => ?_) (fun cdv A outer s H vs Q E hr h => ?_)
  · obtain ⟨c, rfl, _⟩ := h
    rfl
  · refine ⟨_, pss_cons (ps_set (i := 1) scP.nd rfl (by first | exact Or.inl rfl | exact Or.inr rfl) (pe_op op_mul pe_int (pv 0)))
      (pss_cut (ps_if (pt_cmpR op_lt (pv 0) pe_int (nomark _)) (pss_one (ps_set (i := 1) scP.nd rfl (by first | exact Or.inl rfl | exact Or.inr rfl) (pe_op op_sub (pe_op op_sub pe_int (pe_op op_mul pe_int (pv 0))) pe_int))) pss_nil)
      (pss_cons (ps_if (pt_cmpR op_ge (pv 1) (pe_op op_pow pe_int pe_int) (nomark _)) (pss_one (ps_ret (pe_lst (pa_cons (pv 1) (pa_cons (pe_op op_mod (pe_callTy call_int1 (by rfl) mI (by decide +kernel) (pa_cons (pv 1) pa_nil)) pe_int) (pa_cons pe_int pa_nil)))))) pss_nil)
      (pss_one (ps_ret (pe_lst (pa_cons pe_int (pa_cons (pe_op op_mod (pe_callTy call_int1 (by rfl) mI (by decide +kernel) (pa_cons (pv 1) pa_nil)) pe_int) (pa_cons pe_int pa_nil)))))))), ?_⟩
    obtain ⟨c, rfl, q⟩ := h
    refine s_asg (v := .int (2 * c)) (ev_op ev_c (ev_var rfl) (rv_I (.inl ⟨by decide, by decide⟩))) fun H1 e1 => ?_
    refine ⟨fun st H2 => Ex H H2 ∧ ∃ g : Int, st = [some (.int c), some (.int g)], ?_, ?_⟩
    · refine s_if (b := decide (c < 0)) (et_test (ev_op (ev_var rfl) ev_c rv_I0)) (fun _ H2 e2 => ?_) (fun _ H2 e2 => ?_)
      · refine s_asg (v := .int (0 - 2 * c - 1)) (ev_op (ev_op ev_c (ev_op ev_c (ev_var rfl) (rv_I (.inl ⟨by decide, by decide⟩))) rv_I0) ev_c rv_I0) fun H3 e3 => ?_
        exact ⟨e1.trans (e2.trans e3), _, rfl⟩
      · exact ⟨e1.trans e2, _, rfl⟩
    rintro _ H2 ⟨e2, g, rfl⟩
    have fin : ∀ (a : Int) (H3 : Hp), Ex H H3 → ∀ p, H3 p = none → Q (.ref p) (upd H3 p (.lst [.int a, .int (g % 1000000007), .int 0])) := fun a H3 e3 p np =>
      q p _ (fresh_back e3 np) (e3.trans (Ex.new np)) ⟨a, _, 0, upd_same, Int.emod_nonneg _ (by decide), Int.emod_lt_of_pos _ (by decide), Int.le_refl 0, Int.le_refl 0⟩
    have ei : Ev (tOp (rI (fun _ j => 0 < j) fun i j => .int (i % j)) (tCB (fun xs H Q => (∃ i, xs = [.int i] ∧ Q (.int i) H) ∨ ∃ k, xs = [.bl k] ∧ Q (.int (if k then 1 else 0)) H) (tCons (tVar 1) tNil)) (tC (.int 1000000007)))
        [some (.int c), some (.int g)] H2 (.int (g % 1000000007)) :=
      ev_op (ev_cb (ea_cons (ev_var rfl) ea_nil) (fun H1 _ Q q => .inl ⟨_, rfl, q H1 (Ex.refl H1)⟩)) ev_c (rv_I (by show (0 : Int) < 1000000007; decide))
    refine s_seq ?_
    refine s_if (b := decide ((10 : Int) ^ (18 : Int).toNat ≤ g)) (et_test (ev_op (ev_var rfl) (ev_op ev_c ev_c (rv_I ⟨by decide, by decide, by decide⟩)) rv_I0)) (fun _ H3 e3 => ?_) (fun _ H3 e3 => ?_)
    · exact ⟨_, rfl, ei.mono e3 H3 (Ex.refl H3) _ fun H4 e4 => ⟨by show 3 ≤ sizeLine; decide, fun p np => fin g H4 (e2.trans (e3.trans e4)) p np⟩⟩
    · exact ei.mono e3 H3 (Ex.refl H3) _ fun H4 e4 => ⟨by show 3 ≤ sizeLine; decide, fun p np => fin 0 H4 (e2.trans (e3.trans e4)) p np⟩
theorem scT : FnScope ["_law_pool_here", "_law_many", "_law_draw", "_law_mixed_here"] ["_law_pool_here", "_law_many"] (defScope sTake) := ⟨rfl, rfl, rfl, by decide +kernel, rfl, by decide +kernel, by decide +kernel⟩
theorem ok_take {f : Addr} {fd : FuncData} (F : FnP K "_law_take" sTake f fd) (mI : mg "int" = none) :
    FnOk P w K mg base CX0 1 f fd ["_law_pool_here", "_law_many"] spTake := by
  refine F.ok (CX := CX0) scT (fun vs H Q E h => ?_) (fun cdv A outer s H vs Q E hr h => ?_)
  · obtain ⟨p, m, Hk, n, rfl, _⟩ := h
    rfl
  · refine ⟨_, pss_cons (ps_if (pt_cmpR op_gt (pe_ix ix_list (pv 0) pe_int fun _ _ => rfl) pe_int (nomark _))
        (pss_cons (ps_set (i := 2) scT.nd rfl (by first | exact Or.inl rfl | exact Or.inr rfl) (pe_op op_mod (pe_callTy call_int1 (by rfl) mI (by decide +kernel) (pa_cons (pe_ix ix_list (pv 0) pe_int fun _ _ => rfl) pa_nil)) (pv 1)))
        (pss_cons (ps_asg (pe_op op_fdivN (pe_ix ix_list (pv 0) pe_int fun _ _ => rfl) (pv 1)) (pg_sub (pv 0) pe_int set_list))
        (pss_one (ps_ret (pv 2))))) pss_nil)
      (pss_cons (ps_asg (pe_op op_add (pe_ix ix_list (pv 0) pe_int fun _ _ => rfl) pe_int) (pg_sub (pv 0) pe_int set_list))
      (pss_cons (ps_set (i := 3) scT.nd rfl (by first | exact Or.inl rfl | exact Or.inr rfl) (pe_op op_mod (pe_callTy call_int1 (by rfl) mI (by decide +kernel) (pa_cons (pe_op op_pow (pe_op op_add (pe_op op_add (pe_ix ix_list (pv 0) pe_int fun _ _ => rfl) (pe_op op_mul pe_int (pe_ix ix_list (pv 0) pe_int fun _ _ => rfl))) pe_int) pe_int) pa_nil)) pe_int))
      (pss_one (ps_ret (pe_op op_mod (pe_op op_mod (pe_callTy call_int1 (by rfl) mI (by decide +kernel) (pa_cons (pe_op op_mul (pe_op op_add (pv 3) (pe_ix ix_list (pv 0) pe_int fun _ _ => rfl)) pe_int) pa_nil)) pe_int) (pv 1)))))), ?_⟩
    obtain ⟨p, m, Hk, n, rfl, hm, hm2, hp, hn, q⟩ := h
    obtain ⟨a, b, c, ha, hb0, hb1, hc0, hc1⟩ := hp.at_
    have it : ∀ (j : Nat) (x : Int) (us : List V) (H1 : Hp), H1 p = some (.lst us) → us[j]? = some (.int x) → ∀ {t2 t3 : Option V}, Ev (tOp (rIxL K) (tVar 0) (tC (.int (j : Int)))) [some (.ref p), some (.int m), t2, t3] H1 (.int x) := fun j x us H1 h1 h2 t2 t3 =>
      ev_op (ev_var rfl) ev_c (rv_ixL (sq_of h1) (at_of rfl h2))
    have ti : ∀ {te : TE} {st : L2.St} {H1 : Hp} {i : Int}, Ev te st H1 (.int i) → Ev (tCB (fun xs H Q => (∃ i, xs = [.int i] ∧ Q (.int i) H) ∨ ∃ k, xs = [.bl k] ∧ Q (.int (if k then 1 else 0)) H) (tCons te tNil)) st H1 (.int i) :=
      fun h => ev_cb (ea_cons h ea_nil) (fun H1 _ Q q => .inl ⟨_, rfl, q H1 (Ex.refl H1)⟩)
    refine s_seq ?_
    refine s_if (b := decide (0 < a)) (et_test (ev_op (it 0 a _ H ha rfl) ev_c rv_I0)) (fun _ H1 e1 => ?_) (fun _ H1 e1 => ?_)
    · have h1 := e1 _ _ ha
      refine s_seq ?_
      refine s_asg (v := .int (a % m)) (ev_op (ti (it 0 a _ H1 h1 rfl)) (ev_var rfl) (rv_I (show 0 < m by omega))) fun H2 e2 => ?_
      dsimp only
      refine s_seq ?_
      refine s_setL (j := 0) (v := .int (a.fdiv m)) (e2 _ _ h1) (ev_op (it 0 a _ H2 (e2 _ _ h1) rfl) (ev_var rfl) (rv_I ⟨show m ≠ 0 by omega, show m.natAbs < 1073741824 by omega⟩)) (ev_var rfl) ev_c (by show 0 < 3; omega) fun H3 e3 => ?_
      dsimp only
      refine s_ret (v := .int (a % m)) (ev_var rfl) fun H4 e4 => ?_
      refine q _ _ (Int.emod_nonneg _ (by omega)) (Int.emod_lt_of_pos _ (by omega)) ?_
      refine ⟨hp.no, (Ex.mut (hp.ex.trans (e1.trans (e2.trans e3))) hp.no).trans e4, a.fdiv m, b, c, e4 _ _ upd_same, hb0, hb1, hc0, by omega⟩
    · have h1 := e1 _ _ ha
      dsimp only
      refine s_seq ?_
      refine s_setL (j := 2) (v := .int (c + 1)) h1 (ev_op (it 2 c _ H1 h1 rfl) ev_c rv_I0) (ev_var rfl) ev_c (by show 2 < 3; omega) fun H2 e2 => ?_
      have h2 : (upd H2 p (.lst [.int a, .int b, .int (c + 1)])) p = some (.lst [.int a, .int b, .int (c + 1)]) := upd_same
      have x2 : Ex Hk (upd H2 p (.lst [.int a, .int b, .int (c + 1)])) := Ex.mut (hp.ex.trans (e1.trans e2)) hp.no
      show tSeq _ _ _ _ (upd H2 p (.lst [.int a, .int b, .int (c + 1)]))
      generalize upd H2 p (.lst [.int a, .int b, .int (c + 1)]) = H3 at h2 x2
      refine s_seq ?_
      refine s_asg (v := .int ((b + 7919 * (c + 1) + 104729) ^ (5 : Int).toNat % 2147483647)) (ev_op (ti (ev_op (ev_op (ev_op (it 1 b _ H3 h2 rfl) (ev_op ev_c (it 2 (c + 1) _ H3 h2 rfl) (rv_I (.inl ⟨by decide, by decide⟩))) rv_I0) ev_c rv_I0) ev_c (rv_I ⟨by decide, by decide, by show (b + 7919 * (c + 1) + 104729).natAbs < 2 ^ 64; omega⟩))) ev_c (rv_I (by show (0 : Int) < 2147483647; decide))) fun H4 e4 => ?_
      dsimp only
      have hz0 : 0 ≤ (b + 7919 * (c + 1) + 104729) ^ (5 : Int).toNat % 2147483647 := Int.emod_nonneg _ (by decide)
      have hz1 : (b + 7919 * (c + 1) + 104729) ^ (5 : Int).toNat % 2147483647 < 2147483647 := Int.emod_lt_of_pos _ (by decide)
      generalize (b + 7919 * (c + 1) + 104729) ^ (5 : Int).toNat % 2147483647 = z at hz0 hz1
      have h4 := e4 _ _ h2
      refine s_ret (v := .int ((z + (c + 1)) * 40692 % 2147483629 % m)) (ev_op (ev_op (ti (ev_op (ev_op (ev_var rfl) (it 2 (c + 1) _ H4 h4 rfl) rv_I0) ev_c (rv_I (.inr ⟨by decide, by decide⟩)))) ev_c (rv_I (by show (0 : Int) < 2147483629; decide))) (ev_var rfl) (rv_I (show 0 < m by omega))) fun H5 e5 => ?_
      refine q _ _ (Int.emod_nonneg _ (by omega)) (Int.emod_lt_of_pos _ (by omega)) ?_
      exact ⟨hp.no, x2.trans (e4.trans e5), a, b, c + 1, e5 _ _ h4, hb0, hb1, by omega, by omega⟩
end
end R61

set_option Elab.async false
set_option linter.all false
set_option maxRecDepth 100000
set_option maxHeartbeats 4000000
namespace R61
open PySem PySem.Spec PyProof.Rows L2 Vl Evl Vp Vr
abbrev sIsName : Stmt := top 15
abbrev sIsInt : Stmt := top 16
abbrev sChkN : Stmt := top 17
/-- is_name, of a name -/
def spIsName : Sp := fun vs H Q _ => ∃ l, vs = [.str (tx l)] ∧ nam l ∧ ∀ H', Ex H H' → Q (.bl true) H'
theorem ifT {c A B : Prop} [Decidable c] (h : c) (a : A) : if c then A else B := by
  rw [if_pos h]
  exact a
theorem ifF {c A B : Prop} [Decidable c] (h : ¬ c) (b : B) : if c then A else B := by
  rw [if_neg h]
  exact b
end R61

set_option Elab.async false
set_option linter.all false
set_option maxRecDepth 100000
set_option maxHeartbeats 4000000
namespace R61
open PySem PySem.Spec PyProof.Rows L2 Vl Evl Vp Vr
theorem pi_either {X : Cx} {tg e : Expr} {t u : TI} (h : PI X tg e t) (h2 : PI X tg e u) : PI X tg e (fun σ H R => t σ H R ∨ u σ H R) :=
  ⟨fun pins s σ H R I q => q.elim (h.run pins s σ H R I) (h2.run pins s σ H R I)⟩
/-- a list or a tuple -/
def SqE (K : PySem.W.Frag) (H : Hp) (p : Addr) (xs : List V) : Prop := SqL K H p xs ∨ SqT K H p xs
theorem sqe_mono {K : PySem.W.Frag} {H H' : Hp} {p : Addr} {xs : List V} (e : Ex H H') (h : SqE K H p xs) : SqE K H' p xs := h.imp (ex_l e) (ex_t e)
def spIsInt (K : PySem.W.Frag) : Sp := fun vs H Q _ => ∃ (x : V) (t : String) (b1 b2 : Bool), vs = [x] ∧ TyX K H x (.type t) ∧ kitB t "int" = some b1 ∧ kitB t "bool" = some b2 ∧ Q (.bl (b1 && !b2)) H
section
variable {P : Program} {w : World} {K : PySem.W.Frag} {mg : Str → Option Value} {base : Heap}
theorem scII : FnScope ["value"] ["value"] (defScope sIsInt) := ⟨rfl, rfl, rfl, by decide +kernel, rfl, by decide +kernel, by decide +kernel⟩
theorem ok_isint {f : Addr} {fd : FuncData} (F : FnP K "is_integer" sIsInt f fd) (mI : mg "isinstance" = none) (mN : mg "int" = none) (mB : mg "bool" = none) :
    FnOk P w K mg base CX0 1 f fd ["value"] (spIsInt K) := by
  refine F.ok (CX := CX0) scII (fun vs H Q E h => ?_) (fun cdv A outer s H vs Q E hr h => ?_)
  · obtain ⟨x, t, b1, b2, rfl, _⟩ := h
    rfl
  · refine ⟨_, (pss_one (ps_ret (pe_and (pe_callB call_isi (by rfl) mI boot_isinstance (pa_cons (pv 0) (pa_cons (pe_bltn (v := V.ty "int") (by rfl) mN boot_int rfl) pa_nil)))
      (pe_one (pe_not (pe_callB call_isi (by rfl) mI boot_isinstance (pa_cons (pv 0) (pa_cons (pe_bltn (v := V.ty "bool") (by rfl) mB boot_bool rfl) pa_nil)))))))), ?_⟩
    obtain ⟨x, t, b1, b2, rfl, ht, h1, h2, q⟩ := h
    refine ⟨_, rfl, x, V.ty "int", .type t, .type "int", b1, rfl, .ty _, ht, kit_ty h1, b1, rfl, ?_⟩
    cases b1 with
    | false => exact ifF Bool.false_ne_true q
    | true => exact ifT rfl ⟨_, rfl, x, V.ty "bool", .type t, .type "bool", b2, rfl, .ty _, ht, kit_ty h2, b2, rfl, q⟩
end
end R61

set_option Elab.async false
set_option linter.all false
/-! The least piece of which a sequence is a multiple; it is the same for all multiples of the sequence. -/
namespace Vq
variable {α : Type}
/-- k times the sequence -/
def rp (k : Nat) (a : List α) : List α := (List.replicate k a).flatten
theorem rp_len (a : List α) : ∀ k, (rp k a).length = k * a.length
  | 0 => by rw [Nat.zero_mul]; rfl
  | k + 1 => by
    unfold rp
    rw [List.replicate_succ, List.flatten_cons, List.length_append, Nat.succ_mul]
    have := rp_len a k
    unfold rp at this
    omega
theorem rp_at (a : List α) : ∀ k i, i < k * a.length → (rp k a)[i]? = a[i % a.length]?
  | 0, i, h => by omega
  | k + 1, i, h => by
    have ih := rp_at a k
    unfold rp at ih ⊢
    rw [List.replicate_succ, List.flatten_cons]
    by_cases hi : i < a.length
    · rw [List.getElem?_append_left hi, Nat.mod_eq_of_lt hi]
    · rw [List.getElem?_append_right (by omega), ih (i - a.length) (by rw [Nat.succ_mul] at h; omega), ← Nat.mod_eq_sub_mod (by omega)]
/-- the sequence gone without end -/
def goes (a : List α) (i : Nat) : Option α := a[i % a.length]?
def Per (f : Nat → Option α) (s : Nat) : Prop := ∀ i, f (i + s) = f i
theorem Per.mul {f : Nat → Option α} {s : Nat} (h : Per f s) : ∀ k i, f (i + s * k) = f i
  | 0, i => by rw [Nat.mul_zero, Nat.add_zero]
  | k + 1, i => by
    rw [Nat.mul_succ, ← Nat.add_assoc, h, h.mul k]
theorem Per.mod {f : Nat → Option α} {s : Nat} (h : Per f s) (i : Nat) : f (i % s) = f i := by
  have := h.mul (i / s) (i % s)
  rw [← this]
  congr 1
  exact Nat.mod_add_div i s
theorem Per.rest {f : Nat → Option α} {a b : Nat} (ha : Per f a) (hb : Per f b) : Per f (b % a) := fun i => by
  rw [← ha.mul (b / a) (i + b % a), Nat.add_assoc, Nat.mod_add_div, hb]
theorem Per.gcd {f : Nat → Option α} (a b : Nat) : Per f a → Per f b → Per f (Nat.gcd a b) := by
  refine Nat.gcd.induction (P := fun a b => Per f a → Per f b → Per f (Nat.gcd a b)) a b (fun n _ hn => ?_) (fun m n hm ih h1 h2 => ?_)
  · rw [Nat.gcd_zero_left]
    exact hn
  · rw [Nat.gcd_rec]
    exact ih (h1.rest h2) h1
theorem per_len (a : List α) : Per (goes a) a.length := fun i => by
  unfold goes
  rw [Nat.add_mod_right]
/-- s lanes, gone again and again, are the sequence -/
def Siz (a : List α) (s : Nat) : Prop := 1 ≤ s ∧ rp (a.length / s) (a.take s) = a
theorem siz_iff {a : List α} {s : Nat} (ha : 1 ≤ a.length) (hs : 1 ≤ s) : Siz a s ↔ s ∣ a.length ∧ Per (goes a) s := by
  constructor
  · rintro ⟨_, h⟩
    have hl := congrArg List.length h
    rw [rp_len, List.length_take] at hl
    have hle : s ≤ a.length := by
      rcases Nat.lt_or_ge a.length s with q | q
      · rw [Nat.div_eq_of_lt q, Nat.zero_mul] at hl
        omega
      · exact q
    rw [Nat.min_eq_left hle] at hl
    have hd : s ∣ a.length := ⟨a.length / s, by rw [Nat.mul_comm]; exact hl.symm⟩
    have at_ : ∀ i, i < a.length → a[i]? = a[i % s]? := fun i hi => by
      have q := rp_at (a.take s) (a.length / s) i (by rw [List.length_take, Nat.min_eq_left hle, hl]; exact hi)
      rw [h, List.length_take, Nat.min_eq_left hle, List.getElem?_take, if_pos (Nat.mod_lt _ hs)] at q
      exact q
    refine ⟨hd, fun i => ?_⟩
    unfold goes
    rw [at_ _ (Nat.mod_lt _ ha), at_ _ (Nat.mod_lt i ha), Nat.mod_mod_of_dvd _ hd, Nat.mod_mod_of_dvd _ hd, Nat.add_mod_right]
  · rintro ⟨hd, hp⟩
    have hle : s ≤ a.length := Nat.le_of_dvd ha hd
    have hl : (a.take s).length = s := by rw [List.length_take, Nat.min_eq_left hle]
    have hm : a.length / s * s = a.length := Nat.div_mul_cancel hd
    refine ⟨hs, List.ext_getElem? fun i => ?_⟩
    by_cases hi : i < a.length
    · rw [rp_at _ _ _ (by rw [hl, hm]; exact hi), hl, List.getElem?_take, if_pos (Nat.mod_lt _ hs)]
      have q := hp.mod i
      unfold goes at q
      rw [Nat.mod_eq_of_lt hi, Nat.mod_eq_of_lt (Nat.lt_of_lt_of_le (Nat.mod_lt _ hs) hle)] at q
      exact q
    · rw [List.getElem?_eq_none (by rw [rp_len, hl, hm]; omega), List.getElem?_eq_none (by omega)]
/-- the least such number -/
def Rt (a : List α) (s : Nat) : Prop := Siz a s ∧ ∀ t, 1 ≤ t → t < s → ¬ Siz a t
theorem Rt.one {a : List α} {s t : Nat} (h : Rt a s) (g : Rt a t) : s = t := by
  rcases Nat.lt_trichotomy s t with q | q | q
  · exact absurd h.1 (g.2 s h.1.1 q)
  · exact q
  · exact absurd g.1 (h.2 t g.1.1 q)
theorem siz_self {a : List α} (ha : 1 ≤ a.length) : Siz a a.length := (siz_iff ha ha).mpr ⟨Nat.dvd_refl _, per_len a⟩
theorem Rt.le {a : List α} {s : Nat} (ha : 1 ≤ a.length) (h : Rt a s) : s ≤ a.length := Nat.le_of_dvd ha ((siz_iff ha h.1.1).mp h.1).1
theorem goes_rp (a : List α) (k : Nat) (hk : 1 ≤ k) (ha : 1 ≤ a.length) (i : Nat) : goes (rp k a) i = goes a i := by
  unfold goes
  have h0 : 0 < k * a.length := Nat.mul_pos hk ha
  rw [rp_at _ _ _ (by rw [rp_len]; exact Nat.mod_lt _ h0), rp_len, Nat.mod_mod_of_dvd _ ⟨k, Nat.mul_comm _ _⟩]
theorem Rt.rp {a : List α} {s k : Nat} (ha : 1 ≤ a.length) (hk : 1 ≤ k) (h : Rt a s) : Rt (rp k a) s := by
  have h0 : 1 ≤ (Vq.rp k a).length := by rw [rp_len]; exact Nat.mul_pos hk ha
  have e : goes (Vq.rp k a) = goes a := funext (goes_rp a k hk ha)
  obtain ⟨hd, hp⟩ := (siz_iff ha h.1.1).mp h.1
  refine ⟨(siz_iff h0 h.1.1).mpr ⟨by rw [rp_len]; exact Nat.dvd_trans hd ⟨k, Nat.mul_comm _ _⟩, by rw [e]; exact hp⟩, fun t ht hts hz => ?_⟩
  obtain ⟨_, hpt⟩ := (siz_iff h0 ht).mp hz
  rw [e] at hpt
  have hg := Per.gcd t a.length hpt (per_len a)
  have g1 : 1 ≤ Nat.gcd t a.length := Nat.gcd_pos_of_pos_left _ ht
  have g2 : Nat.gcd t a.length ≤ t := Nat.gcd_le_left _ ht
  exact h.2 _ g1 (by omega) ((siz_iff ha g1).mpr ⟨Nat.gcd_dvd_right _ _, hg⟩)
theorem rp_take {a : List α} {s k : Nat} (hk : 1 ≤ k) (hs : s ≤ a.length) : (Vq.rp k a).take s = a.take s := by
  obtain ⟨j, rfl⟩ := Nat.exists_eq_add_of_le hk
  rw [Nat.add_comm]
  unfold Vq.rp
  rw [List.replicate_succ, List.flatten_cons, List.take_append_of_le_length hs]
theorem rp_div {a : List α} {s k : Nat} (hd : s ∣ a.length) : (Vq.rp k a).length / s = a.length / s * k := by
  rw [rp_len, Nat.mul_div_assoc _ hd, Nat.mul_comm]
end Vq

set_option Elab.async false
set_option linter.all false
set_option maxRecDepth 100000
set_option maxHeartbeats 2000000
/-! Comprehensions over a tuple that stands, over a list or a tuple; all(..) of such. -/
namespace Vlt
open PySem PySem.Spec PyProof.Rows L2 Vl Evl Vp Ve Ven
section
variable {K : PySem.W.Frag} {te tl : TE} {tt : TT} {σ : L2.St} {H : Hp}
theorem el_lcTA {α : Type} {ys : List α} {g : α → V} {a : Addr} {j : Nat} {vs : List Nat} (c : α → Bool) (w : α → V) (h : Ev tl σ H (.ref a)) (hx : SqT K H a (ys.map g)) (hz : ys.length ≤ 40000) (hw : ∀ x, wipe ((wipe σ vs).set j (some x)) vs = wipe σ vs)
    (ht : ∀ (y : α) (H1 : Hp), Ex H H1 → y ∈ ys → EvT tt ((wipe σ vs).set j (some (g y))) H1 (c y)) (he : ∀ (y : α) (H1 : Hp), Ex H H1 → y ∈ ys → c y = true → Ev te ((wipe σ vs).set j (some (g y))) H1 (w y)) :
    EvL (tLc (iTup K tl) (gName j) tt te vs) σ H ((ys.filter c).map w) := fun H0 e Q q => h H0 e _ fun H1 e1 => ⟨a, rfl, ⟨ys.map g, ex_t (e.trans e1) hx⟩, fun Dl hD => by
  have hgm := given_map c w (fun i => match ys[i]? with | some y => c y | none => false) (fun i => match ys[i]? with | some y => w y | none => .non) (fun i y hy => by rw [hy]; exact ⟨rfl, rfl⟩) ys.length (Nat.le_refl _)
  rw [List.take_length] at hgm
  refine lc_tup (xs := ys.map g) (Cw H1 (fun i => match ys[i]? with | some y => c y | none => false) (fun i => match ys[i]? with | some y => w y | none => .non) Dl) ⟨hD, Ex.new hD, upd_same⟩ (fun i H' _ p => ex_t ((e.trans e1).trans p.2.1) hx) (fun i x H' hi p => ⟨hw x, ?_⟩)
    (fun H' p => q Dl H' (fresh_back e1 p.1) (e1.trans p.2.1) (by have h2 := p.2.2; rw [List.length_map, hgm] at h2; exact h2))
  rw [List.getElem?_map] at hi
  obtain ⟨y, hy, rfl⟩ := Option.map_eq_some_iff.mp hi
  have hm := List.mem_of_getElem? hy
  refine cw_turn p (by have := (List.getElem?_eq_some_iff.mp hy).1; omega) ?_ ?_
  · rw [hy]
    exact ht y H1 (e.trans e1) hm
  · rw [hy]
    exact fun hf => he y H1 (e.trans e1) hm hf⟩
theorem el_lcTM {α : Type} {ys : List α} {g : α → V} {a : Addr} {j : Nat} {vs : List Nat} (w : α → V) (h : Ev tl σ H (.ref a)) (hx : SqT K H a (ys.map g)) (hz : ys.length ≤ 40000) (hw : ∀ x, wipe ((wipe σ vs).set j (some x)) vs = wipe σ vs)
    (he : ∀ (y : α) (H1 : Hp), Ex H H1 → y ∈ ys → Ev te ((wipe σ vs).set j (some (g y))) H1 (w y)) : EvL (tLc (iTup K tl) (gName j) tYes te vs) σ H (ys.map w) := by
  have := el_lcTA (K := K) (tt := tYes) (te := te) (fun _ => true) w h hx hz hw (fun y H1 _ _ => et_yes) (fun y H1 e hy _ => he y H1 e hy)
  rw [List.filter_eq_self.mpr (fun _ _ => rfl)] at this
  exact this
theorem ev_all {bs : List Bool} (h : EvL te σ H (bs.map V.bl)) : Ev (tCB (rAll K) (tCons te tNil)) σ H (.bl (bs.all id)) := fun H1 e Q q => h H1 e _ fun p H2 np e2 hp => ⟨p, bs, rfl, sq_of hp, q H2 e2⟩
theorem given_all {n : Nat} (v : Nat → V) : given n (fun _ => true) v = (List.range n).map v := by
  unfold given
  rw [List.filter_eq_self.mpr (fun _ _ => rfl)]
theorem lc_seqL {i : Nat} {g : TG} {vs : List Nat} {Q : VK} (h : tLc (iList K (tVar i)) g tt te vs σ H Q) : tLc (iSeqA K (tVar i)) g tt te vs σ H Q := by
  obtain ⟨v, hv, a, e, hs, r⟩ := h
  exact ⟨v, hv, a, e, .inl ⟨hs, r⟩⟩
theorem lc_seqT {i : Nat} {g : TG} {vs : List Nat} {Q : VK} (h : tLc (iTup K (tVar i)) g tt te vs σ H Q) : tLc (iSeqA K (tVar i)) g tt te vs σ H Q := by
  obtain ⟨v, hv, a, e, hs, r⟩ := h
  exact ⟨v, hv, a, e, .inr ⟨hs, r⟩⟩
/-- over a list or a tuple that a variable holds -/
theorem el_lcSM {α : Type} {ys : List α} {g : α → V} {a : Addr} {i j : Nat} {vs : List Nat} (w : α → V) (h : σ[i]? = some (some (.ref a))) (hx : SqA K H a (ys.map g)) (hz : ys.length ≤ 40000) (hw : ∀ x, wipe ((wipe σ vs).set j (some x)) vs = wipe σ vs)
    (he : ∀ (y : α) (H1 : Hp), Ex H H1 → y ∈ ys → Ev te ((wipe σ vs).set j (some (g y))) H1 (w y)) : EvL (tLc (iSeqA K (tVar i)) (gName j) tYes te vs) σ H (ys.map w) := fun H1 e Q q => by
  rcases hx with hx | hx
  · exact lc_seqL (el_lcM w (ev_var h) hx hz hw he H1 e Q q)
  · exact lc_seqT (el_lcTM w (ev_var h) hx hz hw he H1 e Q q)
end
end Vlt

set_option Elab.async false
set_option linter.all false
set_option maxRecDepth 100000
set_option maxHeartbeats 4000000
/-! Texts: repeated, cut, joined; the windows of a text that goes round. -/
namespace Vtx
open PySem PySem.Spec PyProof.Rows L2 Vl Evl Vp
theorem fold_rep (b : List Nat) : ∀ (k : Nat) (acc : Array Nat), (List.replicate k b.toArray).foldl (· ++ ·) acc = acc ++ (Vq.rp k b).toArray
  | 0, acc => by
    show acc = acc ++ ([] : List Nat).toArray
    simp
  | k + 1, acc => by
    rw [List.replicate_succ, List.foldl_cons, fold_rep b k]
    unfold Vq.rp
    rw [List.replicate_succ, List.flatten_cons, Array.append_assoc]
    congr 1
    rw [List.append_toArray]
theorem rp_one' {α : Type} (xs : List α) : Vq.rp 1 xs = xs := by
  unfold Vq.rp
  rw [List.replicate_succ, List.replicate_zero, List.flatten_cons, List.flatten_nil, List.append_nil]
theorem mul_tx (l : List Nat) (k : Nat) : Txt.mul (tx l) (k : Int) = tx (Vq.rp k l) := by
  unfold Txt.mul
  by_cases h : (k : Int) < 1
  · rw [if_pos h]
    have : k = 0 := by omega
    subst this
    rfl
  · rw [if_neg h]
    split
    · rename_i hc
      rw [Bool.or_eq_true, beq_iff_eq, beq_iff_eq] at hc
      rcases hc with hc | hc
      · have : k = 1 := by omega
        subst this
        rw [rp_one']
      · have : l = [] := List.eq_nil_of_length_eq_zero (by rw [tx_len] at hc; exact hc)
        subst this
        have : Vq.rp k ([] : List Nat) = [] := List.eq_nil_of_length_eq_zero (by rw [Vq.rp_len]; rfl)
        rw [this]
    · show Str.mk ((List.replicate k l.toArray).foldl (· ++ ·) #[]) = _
      rw [fold_rep]
      show Str.mk (#[] ++ (Vq.rp k l).toArray) = Str.mk (Vq.rp k l).toArray
      rw [Array.empty_append]
def rRepS : R2 := fun x y H Q => ∃ (l : List Nat) (k : Nat), x = .str (tx l) ∧ y = .int (k : Nat) ∧ l.length ≤ 1000 ∧ k ≤ 1000 ∧ Q (.str (tx (Vq.rp k l))) H
section
variable {X : Cx}
def rIxQ (K : PySem.W.Frag) : R2 := fun x y H Q => rIxL K x y H Q ∨ rIxT K x y H Q
theorem ix_seq : IxR X (rIxQ X.K) := by
  intro value slice pins s σ H x y v u Q I rx ry h hs
  exact h.elim (fun h => ix_list value slice pins s σ H x y v u Q I rx ry h hs) (fun h => ix_tup value slice pins s σ H x y v u Q I rx ry h hs)
theorem op_repS : OpR X (binaryOp .Mult) rRepS := by
  intro pins s σ H x y v u Q I rx ry h
  obtain ⟨l, k, rfl, rfl, hl, hk, q⟩ := h
  obtain ⟨t, rfl⟩ := rx
  obtain ⟨t', rfl⟩ := ry
  exact SB.mul (mulOk_of 1000 1000 (by rw [tx_len]; exact hl) (by omega) (by omega) (by omega) (by omega)) fun t2 tk => ⟨.str (tx (Vq.rp k l)), H, I.tok _, ⟨t2, by rw [mul_tx]⟩, q⟩
end
section
variable {K : PySem.W.Frag} {σ : L2.St} {H : Hp} {ta tb te : TE} {l : List Nat}
theorem rv_repS {k : Nat} (hl : l.length ≤ 1000) (hk : k ≤ 1000) : RV rRepS (.str (tx l)) (.int (k : Nat)) H (.str (tx (Vq.rp k l))) := rv_val fun H1 _ Q q => ⟨l, k, rfl, rfl, hl, hk, q⟩
theorem ev_slS {tl th : TO} {lo hi : Option Int} (h : Ev te σ H (.str (tx l))) (h1 : EvO tl σ H lo) (h2 : EvO th σ H hi) (hz : l.length ≤ 100000) : Ev (tSl rSlS te tl th) σ H (.str (cutS (tx l) lo hi)) := fun H1 e Q q =>
  h H1 e _ fun H2 e2 => h1 H2 (e.trans e2) _ fun H3 e3 => h2 H3 ((e.trans e2).trans e3) _ fun H4 e4 => ⟨tx l, rfl, sz_of (by rw [tx_len]; exact hz), q H4 ((e2.trans e3).trans e4)⟩
theorem cut_pq (l : List Nat) (p q : Nat) : cutS (tx l) (some (p : Int)) (some (q : Int)) = tx ((l.drop p).take (q - p)) := by
  unfold cutS
  rw [HT.sIx_nat, HT.sIx_nat]
  show Str.mk (((l.drop (min p l.length)).take (min q l.length - min p l.length)).toArray) = Str.mk _
  congr 2
  by_cases hp : p ≤ l.length
  · rw [Nat.min_eq_left hp]
    by_cases hq : q ≤ l.length
    · rw [Nat.min_eq_left hq]
    · rw [Nat.min_eq_right (by omega)]
      rw [List.take_of_length_le (by rw [List.length_drop]; omega), List.take_of_length_le (by rw [List.length_drop]; omega)]
  · rw [Nat.min_eq_right (show l.length ≤ p by omega), List.drop_eq_nil_of_le (Nat.le_refl _), List.drop_eq_nil_of_le (by omega)]
    simp
theorem cut_last (l : List Nat) (h : 1 ≤ l.length) : cutS (tx l) none (some (-1)) = tx (l.take (l.length - 1)) := by
  unfold cutS
  have e : HT.sIx (tx l).length (tx l).length (some (-1)) = l.length - 1 := by
    rw [tx_len]
    unfold HT.sIx
    simp only
    split <;> omega
  rw [e]
  rfl
theorem cut_one (l : List Nat) : cutS (tx l) (some 1) none = tx (l.drop 1) := tx_cut1 l 1
theorem join_ones (cs : List Nat) : Txt.join Str.empty (cs.map fun c => tx [c]) = tx cs := by
  have go : ∀ (r acc : List Nat), ((r.map fun c => tx [c]).foldl (fun acc p => acc ++ Str.empty.cps ++ p.cps) acc.toArray) = (acc ++ r).toArray := by
    intro r
    induction r with
    | nil => intro acc; rw [List.append_nil]; rfl
    | cons c r ih =>
      intro acc
      rw [List.map_cons, List.foldl_cons]
      have : acc.toArray ++ Str.empty.cps ++ (tx [c]).cps = (acc ++ [c]).toArray := by
        show acc.toArray ++ #[] ++ [c].toArray = _
        rw [Array.append_empty, List.append_toArray]
      rw [this, ih, List.append_assoc]
      rfl
  unfold Txt.join Builtin.Str.glued
  cases cs with
  | nil => rfl
  | cons c r =>
    show Str.mk ((r.map fun c => tx [c]).foldl (fun acc p => acc ++ Str.empty.cps ++ p.cps) [c].toArray) = _
    rw [go r [c]]
    rfl
end
section
variable {K : PySem.W.Frag} {te tl : TE} {tt : TT} {σ : L2.St} {H : Hp}
theorem ev_lenS {l : List Nat} (h : Ev te σ H (.str (tx l))) (hz : l.length ≤ 100000) : Ev (tCB (fun vs H Q => ∃ x n, vs = [x] ∧ LenV K x H n ∧ Q (.int n) H) (tCons te tNil)) σ H (.int (l.length : Nat)) := fun H1 e Q q =>
  h H1 e _ fun H2 e2 => ⟨.str (tx l), l.length, rfl, ⟨sz_of (by rw [tx_len]; exact hz), (tx_len l).symm⟩, q H2 e2⟩
theorem ev_chain {r r' : R2} {ta tb tc : TE} {x y z : V} {k b : Bool} (ha : Ev ta σ H x) (hb : Ev tb σ H y) (h1 : RV r x y H (.bl k)) (hc : k = true → Ev tc σ H z) (h2 : RV r' y z H (.bl b)) : Ev (tChain r r' ta tb tc) σ H (.bl (k && b)) := fun H1 e Q q =>
  ha H1 e _ fun H2 e2 => hb H2 (e.trans e2) _ fun H3 e3 => h1 H3 ((e.trans e2).trans e3) _ fun H4 e4 => ⟨k, rfl, by
    cases k with
    | true => exact hc rfl H4 (((e.trans e2).trans e3).trans e4) _ fun H5 e5 => h2 H5 ((((e.trans e2).trans e3).trans e4).trans e5) _ fun H6 e6 => q H6 ((((e2.trans e3).trans e4).trans e5).trans e6)
    | false => exact q H4 ((e2.trans e3).trans e4)⟩
theorem rv_inS {c : Nat} {z : List Nat} : RV rInS (.str (tx [c])) (.str (tx z)) H (.bl (decide (c ∈ z))) := rv_val fun H1 _ Q q => by
  show ∃ (d : Nat) (u : Str), V.str (tx [c]) = .str ⟨#[d]⟩ ∧ V.str (tx z) = .str u ∧ Q (.bl (decide (d ∈ u.cps.toList))) H1
  exact ⟨c, tx z, rfl, rfl, q⟩
theorem ev_isi {v : V} {n t : String} {b : Bool} (h : Ev te σ H v) (ty : TyX K H v (.type t)) (hm : ∀ H1, Ex H H1 → TyX K H1 v (.type t)) (hk : kitB t n = some b) : Ev (tCB (rIsi K) (tCons te (tCons (tC (V.ty n)) tNil))) σ H (.bl b) := fun H1 e Q q => h H1 e _ fun H2 e2 =>
  ⟨v, .ty n, .type t, .type n, b, rfl, .ty _, hm H2 (e.trans e2), kit_ty hk, q H2 e2⟩
theorem ev_ixQ {ta : TE} {a : Addr} {xs : List V} {v : V} {i : Nat} (h : Ev ta σ H (.ref a)) (hx : Ven.SqA K H a xs) (hi : xs[i]? = some v) : Ev (tOp (rIxQ K) ta (tC (.int (i : Nat)))) σ H v := fun H1 e Q q =>
  h H1 e _ fun H2 e2 => by
    have ha : atI xs (i : Int) = some v := at_of rfl hi
    rcases Ven.ex_a (e.trans e2) hx with hx | hx
    · exact .inl ⟨a, xs, _, v, rfl, rfl, hx, ha, q H2 e2⟩
    · exact .inr ⟨a, xs, _, v, rfl, rfl, hx, ha, q H2 e2⟩
theorem el_lcSt {ys : List Nat} {j : Nat} {vs : List Nat} (w : Nat → V) (h : Ev tl σ H (.str (tx ys))) (hz : ys.length ≤ 40000) (hw : ∀ x, wipe ((wipe σ vs).set j (some x)) vs = wipe σ vs)
    (he : ∀ (y : Nat) (H1 : Hp), Ex H H1 → y ∈ ys → Ev te ((wipe σ vs).set j (some (.str (tx [y])))) H1 (w y)) : EvL (tLc (iStr tl) (gName j) tYes te vs) σ H (ys.map w) := fun H0 e Q q => h H0 e _ fun H1 e1 => ⟨tx ys, rfl, fun Dl hD => by
  have hgm := Ve.given_map (ys := ys) (fun _ => true) w (fun i => match ys[i]? with | some y => true | none => false) (fun i => match ys[i]? with | some y => w y | none => .non) (fun i y hy => by rw [hy]; exact ⟨rfl, rfl⟩) ys.length (Nat.le_refl _)
  rw [List.take_length, List.filter_eq_self.mpr (fun _ _ => rfl)] at hgm
  refine lc_it walk_str (Cw H1 (fun i => match ys[i]? with | some y => true | none => false) (fun i => match ys[i]? with | some y => w y | none => .non) Dl) ⟨hD, Ex.new hD, upd_same⟩ (fun _ _ _ _ => trivial) ?_ ?_
  · rintro i x H2 H3 hi p ⟨rfl, c, hcc, rfl⟩
    have hi2 : ys[i]? = some c := by
      rw [← Array.getElem?_toList] at hcc
      exact hcc
    have hm := List.mem_of_getElem? hi2
    refine ⟨hw _, cw_turn (v := fun i => match ys[i]? with | some y => w y | none => .non) (f := fun i => match ys[i]? with | some y => true | none => false) p (by have := (List.getElem?_eq_some_iff.mp hi2).1; omega) ?_ ?_⟩
    · rw [hi2]
      exact Ve.et_yes
    · rw [hi2]
      exact fun _ => he c H1 (e.trans e1) hm
  · intro H' p
    refine q Dl H' (fresh_back e1 p.1) (e1.trans p.2.1) ?_
    have h2 := p.2.2
    have hs : (tx ys).cps.size = ys.length := rfl
    rw [hs, hgm] at h2
    exact h2⟩
end
/-! windows of a text that goes round -/
def wn (t : List Nat) (s k : Nat) : List Nat := (List.range s).map fun i => t.getD ((k + i) % t.length) 0
theorem wn_len (t : List Nat) (s k : Nat) : (wn t s k).length = s := by unfold wn; rw [List.length_map, List.length_range]
theorem wn_get {t : List Nat} {s k i : Nat} (h : i < s) : (wn t s k)[i]? = some (t.getD ((k + i) % t.length) 0) := by
  unfold wn
  rw [List.getElem?_map, List.getElem?_range h]
  rfl
theorem rp_get {t : List Nat} : ∀ (m i : Nat), i < m * t.length → (Vq.rp m t)[i]? = some (t.getD (i % t.length) 0)
  | 0, i, h => by omega
  | m + 1, i, h => by
    have e : Vq.rp (m + 1) t = t ++ Vq.rp m t := by unfold Vq.rp; rw [List.replicate_succ, List.flatten_cons]
    have ht : 0 < t.length := by
      rcases Nat.eq_zero_or_pos t.length with z | z
      · rw [z] at h; omega
      · exact z
    rw [e]
    by_cases hi : i < t.length
    · rw [List.getElem?_append_left hi, Nat.mod_eq_of_lt hi, List.getD_eq_getElem?_getD, List.getElem?_eq_getElem hi]
      rfl
    · rw [List.getElem?_append_right (by omega), rp_get m (i - t.length) (by rw [Nat.succ_mul] at h; omega)]
      congr 2
      have : i = i - t.length + t.length := by omega
      rw [this, Nat.add_mod_right, Nat.add_sub_cancel]
theorem rp_win {t : List Nat} {m s k : Nat} (h : k + s ≤ m * t.length) : ((Vq.rp m t).drop k).take s = wn t s k := by
  apply List.ext_getElem?
  intro i
  by_cases hi : i < s
  · rw [List.getElem?_take, if_pos hi, List.getElem?_drop, rp_get m (k + i) (by omega), wn_get hi]
  · rw [List.getElem?_take, if_neg hi, List.getElem?_eq_none (by rw [wn_len]; omega)]
/-- the windows in their order -/
def wns (t : List Nat) (s : Nat) : List (List Nat) := (List.range t.length).map (wn t s)
theorem wns_len (t : List Nat) (s : Nat) : (wns t s).length = t.length := by unfold wns; rw [List.length_map, List.length_range]
theorem wns_get {t : List Nat} {s k : Nat} (h : k < t.length) : (wns t s)[k]? = some (wn t s k) := by
  unfold wns
  rw [List.getElem?_map, List.getElem?_range h]
  rfl
/-- text begun elsewhere -/
def rt (t : List Nat) (k : Nat) : List Nat := t.drop k ++ t.take k
theorem rt_len {t : List Nat} {k : Nat} (h : k ≤ t.length) : (rt t k).length = t.length := by
  unfold rt
  rw [List.length_append, List.length_drop, List.length_take, Nat.min_eq_left h]
  omega
theorem rt_get {t : List Nat} {k i : Nat} (h : k ≤ t.length) (hi : i < t.length) : (rt t k).getD i 0 = t.getD ((i + k) % t.length) 0 := by
  unfold rt
  rw [List.getD_eq_getElem?_getD, List.getD_eq_getElem?_getD]
  by_cases h2 : i < t.length - k
  · rw [List.getElem?_append_left (by rw [List.length_drop]; exact h2), List.getElem?_drop, Nat.mod_eq_of_lt (by omega), Nat.add_comm]
  · rw [List.getElem?_append_right (by rw [List.length_drop]; omega), List.length_drop, List.getElem?_take, if_pos (by omega)]
    congr 2
    have : i + k = (i + k - t.length) + t.length := by omega
    rw [this, Nat.add_mod_right, Nat.mod_eq_of_lt (by omega)]
    omega
theorem wn_rt {t : List Nat} {s k j : Nat} (h : k ≤ t.length) (h1 : 1 ≤ t.length) : wn (rt t k) s j = wn t s ((j + k) % t.length) := by
  unfold wn
  rw [rt_len h]
  refine List.map_congr_left fun i _ => ?_
  rw [rt_get h (Nat.mod_lt _ h1), Nat.mod_add_mod, Nat.mod_add_mod]
  congr 2
  omega
theorem wns_mem {t : List Nat} {s : Nat} {w : List Nat} : w ∈ wns t s ↔ ∃ k, k < t.length ∧ w = wn t s k := by
  unfold wns
  rw [List.mem_map]
  constructor
  · rintro ⟨k, hk, rfl⟩
    exact ⟨k, List.mem_range.mp hk, rfl⟩
  · rintro ⟨k, hk, rfl⟩
    exact ⟨k, List.mem_range.mpr hk, rfl⟩
theorem rt_mem {t : List Nat} {s k : Nat} (h : k ≤ t.length) (h1 : 1 ≤ t.length) (w : List Nat) : w ∈ wns (rt t k) s ↔ w ∈ wns t s := by
  rw [wns_mem, wns_mem, rt_len h]
  constructor
  · rintro ⟨j, hj, rfl⟩
    exact ⟨(j + k) % t.length, Nat.mod_lt _ h1, wn_rt h h1⟩
  · rintro ⟨j, hj, rfl⟩
    refine ⟨(j + (t.length - k)) % t.length, Nat.mod_lt _ h1, ?_⟩
    rw [wn_rt h h1, Nat.mod_add_mod, show j + (t.length - k) + k = j + t.length by omega, Nat.add_mod_right, Nat.mod_eq_of_lt hj]
/-- first letters -/
theorem heads {t : List Nat} {s : Nat} (hs : 1 ≤ s) : (wns t s).map (fun w => w.getD 0 0) = t := by
  apply List.ext_getElem?
  intro i
  rw [List.getElem?_map]
  by_cases hi : i < t.length
  · rw [wns_get hi, Option.map_some, List.getD_eq_getElem?_getD, wn_get (show 0 < s by omega), Nat.add_zero, Nat.mod_eq_of_lt hi, List.getD_eq_getElem?_getD, List.getElem?_eq_getElem hi]
    rfl
  · rw [List.getElem?_eq_none (by rw [wns_len]; omega), List.getElem?_eq_none (by omega)]
    rfl
theorem wns_rt {t : List Nat} {s k : Nat} (h : k ≤ t.length) (h1 : 1 ≤ t.length) : wns (rt t k) s = (wns t s).drop k ++ (wns t s).take k := by
  apply List.ext_getElem?
  intro i
  by_cases hi : i < t.length
  · rw [wns_get (by rw [rt_len h]; exact hi), wn_rt h h1]
    by_cases h2 : i < t.length - k
    · rw [List.getElem?_append_left (by rw [List.length_drop, wns_len]; exact h2), List.getElem?_drop, wns_get (by omega), Nat.mod_eq_of_lt (by omega), Nat.add_comm]
    · rw [List.getElem?_append_right (by rw [List.length_drop, wns_len]; omega), List.length_drop, wns_len, List.getElem?_take, if_pos (by omega), wns_get (by omega)]
      congr 2
      have : i + k = (i + k - t.length) + t.length := by omega
      rw [this, Nat.add_mod_right, Nat.mod_eq_of_lt (by omega)]
      omega
  · rw [List.getElem?_eq_none (by rw [wns_len, rt_len h]; omega), List.getElem?_eq_none (by rw [List.length_append, List.length_drop, List.length_take, wns_len]; omega)]
/-- one window's end is the next one's start -/
theorem wn_next {t : List Nat} {s k : Nat} (hs : 1 ≤ s) : (wn t s k).drop 1 = (wn t s (k + 1)).take (s - 1) := by
  apply List.ext_getElem?
  intro i
  rw [List.getElem?_drop]
  by_cases hi : i < s - 1
  · rw [List.getElem?_take, if_pos hi, wn_get (by omega), wn_get (by omega)]
    congr 3
    omega
  · rw [List.getElem?_eq_none (by rw [wn_len]; omega), List.getElem?_take, if_neg hi]
theorem wn_mod {t : List Nat} {s k : Nat} : wn t s (k % t.length) = wn t s k := by
  unfold wn
  refine List.map_congr_left fun i _ => ?_
  rw [Nat.mod_add_mod]
theorem wn_mem {t : List Nat} {s k c : Nat} (h1 : 1 ≤ t.length) (h : c ∈ wn t s k) : c ∈ t := by
  unfold wn at h
  obtain ⟨i, _, rfl⟩ := List.mem_map.mp h
  exact getD_mem (Nat.mod_lt _ h1)
end Vtx

set_option Elab.async false
set_option linter.all false
set_option maxRecDepth 100000
set_option maxHeartbeats 2000000
/-! raise C(), C an own class without an own __init__. -/
namespace Vx2
open PySem PySem.Spec PyProof.Rows L2 Vl Evl
section
variable {X : Cx} {C : Addr} {bmB : List Value} {B newId initId : String} {x : Str} {p pos : Pos}
theorem pmk_own0 (F : ExcBaseFacts B newId initId bmB) (q : PySem.W.excIn X.K C bmB newId = true) (gC : X.mg x = some (.ref C)) (kC : PySem.W.keepIn X.K (.ref C) = true) (r : Raises X (.ref C)) (hg : Gl X x)
    (hdb : (x == ("__debug__" : Str)) = false := by decide) : PMk X (.Call (.Name x p) [] [] pos) (fun _ H Q => Q (.ref C) none H) := by
  intro pins s σ H Q I h
  refine wpAny_Call_Name_kw (ld_glob I hg gC ?_ hdb)
  refine PySem.W.callWith_K0 I.kIn kC ?_
  obtain ⟨bm, N, nm, qn, bs, hdct, sn, sub, ab, col, dd, k0, k1, k2, k3, k5, mN, hC, hN, hni, T⟩ := exc_obj I.kIn q
  refine wpAny_call_exc_subT F T hC hN hni (fun h' e hm => ?_) (by show 0 ≤ sizeLine; omega)
  exact mk_of I hm r h (I.hok.gone hm.new)
end
/-- what is asked of a class without an own __init__ to be raised -/
structure Err0 (K : PySem.W.Frag) (mg : Str → Option Value) (x : Str) (C : Addr) : Prop where
  q : PySem.W.excIn K C He.veBase "ValueError.__new__" = true
  exC : PySem.W.subIn K (.ref C) (.type "BaseException") = some true
  tyC : PySem.W.typeIn K (.ref C) = some (.type "type")
  kC : PySem.W.keepIn K (.ref C) = true
  g : mg x = some (.ref C)
theorem pmk_err0 {X : Cx} {C : Addr} {x : Str} {p pos : Pos} (h : Err0 X.K X.mg x C) (hg : Gl X x) (hdb : (x == ("__debug__" : Str)) = false := by decide) : PMk X (.Call (.Name x p) [] [] pos) (fun _ H Q => Q (.ref C) none H) :=
  pmk_own0 PySem.F.excBase_ValueError h.q h.g h.kC (raises_own h.exC h.tyC) hg hdb
end Vx2

set_option Elab.async false
set_option linter.all false
set_option maxRecDepth 100000
set_option maxHeartbeats 4000000
/-! Words of a size: _check_word. -/
namespace K61
open PySem PySem.Spec PyProof.Rows L2 Vl Evl Vp Vx2 Vlk Vda Vc Ve Ven Vlt Vtx
abbrev sCw : Stmt := top 32
abbrev nCw : List Str := ["word", "least", "most", "letter"]
/-- a word of so many letters -/
def okW (l : List Nat) (lo hi : Nat) : Bool := decide (lo ≤ l.length) && decide (l.length ≤ hi) && l.all fun c => decide (c ∈ letters)
/-- no text -/
def NoStr (K : PySem.W.Frag) (H : Hp) (y : V) : Prop := ∃ t : String, (∀ H', Ex H H' → TyX K H' y (.type t)) ∧ kitB t "str" = some false
theorem NoStr.mono {K : PySem.W.Frag} {H H' : Hp} {y : V} (h : NoStr K H y) (e : Ex H H') : NoStr K H' y := by
  obtain ⟨t, h1, h2⟩ := h
  exact ⟨t, fun H2 e2 => h1 H2 (e.trans e2), h2⟩
/-- no word of this size -/
def BadW (K : PySem.W.Frag) (H : Hp) (y : V) (lo hi : Nat) : Prop := (∃ l, y = .str (tx l) ∧ l.length ≤ 1000 ∧ okW l lo hi = false) ∨ NoStr K H y
theorem BadW.mono {K : PySem.W.Frag} {H H' : Hp} {y : V} {lo hi : Nat} (h : BadW K H y lo hi) (e : Ex H H') : BadW K H' y lo hi := h.imp id fun h => h.mono e
def spCkW (K : PySem.W.Frag) (BW : Addr) : Sp := fun vs H Q E => ∃ (y : V) (lo hi : Nat), vs = [y, .int (lo : Nat), .int (hi : Nat)] ∧ hi ≤ 1000 ∧
  ((∃ l, y = .str (tx l) ∧ okW l lo hi = true ∧ ∀ H', Ex H H' → Q .non H') ∨ (BadW K H y lo hi ∧ RaisedF BW "word" H y E))
section
variable {P : Program} {w : World} {K : PySem.W.Frag} {mg : Str → Option Value} {base : Heap} {BW : Addr}
theorem scCw : FnScope nCw ["word", "least", "most"] (defScope sCw) := ⟨rfl, rfl, rfl, by decide +kernel, rfl, by decide +kernel, by decide +kernel⟩
theorem ok_cw {f : Addr} {fd : FuncData} (F : FnP K "_check_word" sCw f fd) (EP : Err1 P w K mg base "BadWord" "word" BW) (mIsi : mg "isinstance" = none) (mStr : mg "str" = none) (mLen : mg "len" = none) (mAll : mg "all" = none)
    (gL : ∃ t, mg "LETTERS" = some (.str (tx letters) t)) :
    FnOk P w K mg base (L2.CX P w) 3 f fd ["word", "least", "most"] (spCkW K BW) := by
  obtain ⟨tL, gL⟩ := gL
  obtain ⟨fE, fdE, iC, tI, bE, GE⟩ := EP.ini
  refine F.ok (CX := L2.CX P w) scCw (fun vs H Q E h => ?_) (fun cdv A outer s H vs Q E hr h => ?_)
  · obtain ⟨y, lo, hi, rfl, _⟩ := h
    rfl
  · have hr2 : Room 2 _ := hr
    refine ⟨_, (pss_cons (ps_if (PW.pt (pw_or (pt_not (pt_val (pe_callB call_isi (by rfl) mIsi boot_isinstance (pa_cons (pv 0) (pa_cons (pe_bltn (v := V.ty "str") (by rfl) mStr boot_str rfl) pa_nil))))) (pw_or1 (pt_not (pt_chain op_le op_le (pv 1) (pe_callB call_len (by rfl) mLen boot_len (pa_cons (pv 0) pa_nil)) (pv 2)))))) (pss_one (ps_raise rfl (takes_of rfl rfl rfl rfl) (pmk_oex EP.T iC tI GE hr2 bE .nil pass0 (by rfl) EP.g (pa_cons (pv 0) pa_nil)))) pss_nil)
      (pss_one (ps_if (pt_not (pt_val (pe_callB (cr_all rfl) (by rfl) mAll boot_all (pa_cons (pe_lc (own := [("letter", 3)]) (g := (gName 3)) (tt := tYes) (te := (tOp rInS (tVar 3) (tC (.str (tx letters))))) rfl scCw.nd (pi_str (pv 0)) (blkOk_by (own := [("letter", 3)]) (N := nCw) (sc := defScope sCw) (by decide +kernel)) (fun _ _ _ _ _ => (pg_name (i := 3) scCw.nd rfl (by first | exact Or.inl rfl | exact Or.inr rfl))) (fun _ _ _ _ _ => pts_nil) (fun _ _ _ _ _ => (pe_cmpR op_inS (pv 3) (pe_glob (v := V.str (tx letters)) (by rfl) gL ⟨tL, rfl⟩) rfl))) pa_nil)))) (pss_one (ps_raise rfl (takes_of rfl rfl rfl rfl) (pmk_oex EP.T iC tI GE hr2 bE .nil pass0 (by rfl) EP.g (pa_cons (pv 0) pa_nil)))) pss_nil))), ?_⟩
    obtain ⟨y, lo, hi, rfl, hhi, h⟩ := h
    have h : (∃ l, y = .str (tx l) ∧ l.length ≤ 1000 ∧ ((okW l lo hi = true ∧ ∀ H', Ex H H' → Q .non H') ∨ (okW l lo hi = false ∧ RaisedF BW "word" H y E))) ∨ (NoStr K H y ∧ RaisedF BW "word" H y E) := by
      rcases h with ⟨l, rfl, hok, q⟩ | ⟨⟨l, rfl, hl, hb⟩ | hn, q⟩
      · refine .inl ⟨l, rfl, ?_, .inl ⟨hok, q⟩⟩
        unfold okW at hok
        rw [Bool.and_eq_true, Bool.and_eq_true, decide_eq_true_iff, decide_eq_true_iff] at hok
        omega
      · exact .inl ⟨l, rfl, hl, .inr ⟨hb, q⟩⟩
      · exact .inr ⟨hn, q⟩
    refine s_seq ?_
    rcases h with ⟨l, rfl, hl, h⟩ | ⟨⟨t, ht, hk⟩, q⟩
    · refine s_when (et_or (et_not (et_B (ev_isi (b := true) (ev_var rfl) (.base (.str _)) (fun _ _ => .base (.str _)) (by decide +kernel)))) (fun _ => et_not (et_test (ev_chain (ev_var rfl) (ev_lenS (ev_var rfl) (by omega)) rv_I0 (fun _ => ev_var rfl) rv_I0)))) (fun hc H1 e1 => ?_) (fun hc H1 e1 => ?_)
      · rcases h with ⟨ok, _⟩ | ⟨_, q⟩
        · exfalso
          unfold okW at ok
          rw [Bool.and_eq_true, Bool.and_eq_true, decide_eq_true_iff, decide_eq_true_iff] at ok
          rw [decide_eq_true (show (lo : Int) ≤ (l.length : Nat) by omega), decide_eq_true (show ((l.length : Nat) : Int) ≤ (hi : Nat) by omega)] at hc
          exact absurd hc (by decide)
        · exact raised_f (W := fun cls d _ H' => E cls d H') 0 rfl rfl (RaisedF.grow q e1)
      · dsimp only
        have h1 : lo ≤ l.length ∧ l.length ≤ hi := by
          simp only [Bool.not_true, Bool.false_or, Bool.not_eq_false', Bool.and_eq_true, decide_eq_true_iff] at hc
          omega
        have hok : okW l lo hi = l.all fun c => decide (c ∈ letters) := by
          unfold okW
          rw [decide_eq_true h1.1, decide_eq_true h1.2]
          rfl
        refine s_when (b := !(l.all fun c => decide (c ∈ letters))) (et_not (et_B (ev_is (ev_all (bs := l.map fun c => decide (c ∈ letters)) (by
          rw [List.map_map]
          exact el_lcSt (H := H1) (σ := [some (.str (tx l)), some (.int (lo : Nat)), some (.int (hi : Nat)), none]) (tl := tVar 0) (j := 3) (vs := [3]) (te := tOp rInS (tVar 3) (tC (.str (tx letters)))) (ys := l) (fun c => V.bl (decide (c ∈ letters))) (ev_var rfl) (by omega) (fun _ => rfl) (fun c H2 e2 hm => ev_op (ev_var rfl) ev_c rv_inS))) (by rw [List.all_map]; rfl)))) (fun hb H2 e2 => ?_) (fun hb H2 e2 => ?_)
        · rcases h with ⟨ok, _⟩ | ⟨_, q⟩
          · rw [hok] at ok
            rw [ok] at hb
            cases hb
          · exact raised_f (W := fun cls d _ H' => E cls d H') 0 rfl rfl (RaisedF.grow q (e1.trans e2))
        · rcases h with ⟨_, q⟩ | ⟨no, _⟩
          · exact q H2 (e1.trans e2)
          · rw [hok] at no
            rw [no] at hb
            cases hb
    · refine s_when (b := true) (et_is (et_or (et_not (et_B (ev_isi (b := false) (ev_var rfl) (ht _ (Ex.refl _)) (fun H1 e1 => ht H1 e1) hk))) (b := true) (fun z => by cases z)) rfl) (fun _ H1 e1 => ?_) (fun z => by cases z)
      exact raised_f (W := fun cls d _ H' => E cls d H') 0 rfl rfl (RaisedF.grow q e1)
end
end K61

set_option Elab.async false
set_option linter.all false
set_option maxRecDepth 100000
set_option maxHeartbeats 4000000
/-! Words of one size: _check_words. -/
namespace K61
open PySem PySem.Spec PyProof.Rows L2 Vl Evl Vp Vx2 Vlk Vda Vc Ve Ven Vlt Vtx
abbrev sCs : Stmt := top 31
abbrev nCs : List Str := ["words", "word"]
/-- windows of one size -/
def Wins (ws : List (List Nat)) (s : Nat) : Prop := ∀ l ∈ ws, okW l 2 8 = true ∧ l.length = s
/-- the first that is none: y, behind the windows ws -/
def BadAt (K : PySem.W.Frag) (H : Hp) (ws : List (List Nat)) (s : Nat) (y : V) : Prop := BadW K H y 2 8 ∨ ∃ l, y = .str (tx l) ∧ okW l 2 8 = true ∧ 0 < ws.length ∧ l.length ≠ s
theorem BadAt.mono {K : PySem.W.Frag} {H H' : Hp} {ws : List (List Nat)} {s : Nat} {y : V} (h : BadAt K H ws s y) (e : Ex H H') : BadAt K H' ws s y := h.imp (fun h => h.mono e) id
/-- a sequence that is refused, by E -/
def RefW (K : PySem.W.Frag) (BW EW : Addr) (H : Hp) (xs : List V) (E : XK) : Prop :=
  (xs = [] ∧ ∀ H', Ex H H' → E (.ref EW) none H') ∨ ∃ ws s y r, xs = vtx ws ++ y :: r ∧ Wins ws s ∧ BadAt K H ws s y ∧ RaisedF BW "word" H y E
def spCkS (K : PySem.W.Frag) (BW EW : Addr) : Sp := fun vs H Q E => ∃ (t : Addr) (xs : List V), vs = [.ref t] ∧ SqA K H t xs ∧ xs.length ≤ 1000 ∧
  ((∃ ws s, xs = vtx ws ∧ ws ≠ [] ∧ Wins ws s ∧ ∀ H', Ex H H' → Q .non H') ∨ RefW K BW EW H xs E)
theorem RefW.grow {K : PySem.W.Frag} {BW EW : Addr} {H H' : Hp} {xs : List V} {E : XK} (h : RefW K BW EW H xs E) (e : Ex H H') : RefW K BW EW H' xs E := by
  rcases h with ⟨h1, h2⟩ | ⟨ws, s, y, r, h1, h2, h3, h4⟩
  · exact .inl ⟨h1, fun H2 e2 => h2 H2 (e.trans e2)⟩
  · exact .inr ⟨ws, s, y, r, h1, h2, h3.mono e, RaisedF.grow h4 e⟩
theorem s_call {sp : Sp} {E : L2.St → XK} {ta : TA} {vs : List V} {D : Ends} {σ : L2.St} {H : Hp} (h : EvA ta σ H vs) (k : ∀ H1, Ex H H1 → sp vs H1 (fun _ H2 => D.nx σ H2) (E σ)) : tDrop (Vc.tFu sp E ta) D σ H := h H (Ex.refl H) _ k
section
variable {P : Program} {w : World} {K : PySem.W.Frag} {mg : Str → Option Value} {base : Heap} {BW EW : Addr}
theorem scCs : FnScope nCs ["words"] (defScope sCs) := ⟨rfl, rfl, rfl, by decide +kernel, rfl, by decide +kernel, by decide +kernel⟩
theorem ok_cs {f : Addr} {fd : FuncData} (F : FnP K "_check_words" sCs f fd) (TCw : Fu P w K mg base (L2.CX P w) 3 "_check_word" (spCkW K BW)) (EP : Err1 P w K mg base "BadWord" "word" BW) (E0 : Err0 K mg "EmptyWalk" EW) (mLen : mg "len" = none)
    (gS : ∃ t, mg "SHORTEST_WINDOW" = some (.int 2 t)) (gO : ∃ t, mg "LONGEST_WINDOW" = some (.int 8 t)) :
    FnOk P w K mg base (L2.CX P w) 4 f fd ["words"] (spCkS K BW EW) := by
  obtain ⟨tS, gS⟩ := gS
  obtain ⟨tO, gO⟩ := gO
  obtain ⟨fE, fdE, iC, tI, bE, GE⟩ := EP.ini
  refine F.ok (CX := L2.CX P w) scCs (fun vs H Q E h => ?_) (fun cdv A outer s H vs Q E hr h => ?_)
  · obtain ⟨t, xs, rfl, _⟩ := h
    rfl
  · have hr2 : Room 2 _ := hr.mono (by omega)
    refine ⟨_, (pss_cons (ps_if (pt_cmpR op_eq (pe_callB call_len (by rfl) mLen boot_len (pa_cons (pv 0) pa_nil)) pe_int (nomark _)) (pss_one (ps_raise rfl (takes_of rfl rfl rfl rfl) (pmk_err0 E0 (by rfl)))) pss_nil)
      (pss_one (ps_for (passes_of rfl) rfl (pi_seqA (pv 0)) (pg_name (i := 1) scCs.nd rfl (by first | exact Or.inl rfl | exact Or.inr rfl)) (pss_cons (ps_expr (pe_fuX (E := WE fun cls d _ H => E cls d H) TCw hr (by rfl) (fun st => passAt (takes_of rfl rfl rfl rfl) st) (pa_cons (pv 1) (pa_cons (pe_glob (v := V.int 2) (by rfl) gS ⟨tS, rfl⟩) (pa_cons (pe_glob (v := V.int 8) (by rfl) gO ⟨tO, rfl⟩) pa_nil)))))
      (pss_one (ps_if (pt_cmpR op_ne (pe_callB call_len (by rfl) mLen boot_len (pa_cons (pv 1) pa_nil)) (pe_callB call_len (by rfl) mLen boot_len (pa_cons (pe_ix Vtx.ix_seq (pv 0) pe_int fun _ _ => rfl) pa_nil)) (nomark _)) (pss_one (ps_raise rfl (takes_of rfl rfl rfl rfl) (pmk_oex EP.T iC tI GE hr2 bE .nil pass0 (by rfl) EP.g (pa_cons (pv 1) pa_nil)))) pss_nil)))))), ?_⟩
    obtain ⟨t, xs, rfl, ht, hl, h⟩ := h
    refine s_seq ?_
    by_cases h0 : xs = []
    · refine s_when (b := true) (et_test (ev_is (ev_op (ev_lenQ (ev_var rfl) ht) ev_c (rv_eq rfl)) (by rw [h0]; rfl))) (fun _ H1 e1 => ?_) (fun z => by cases z)
      rcases h with ⟨ws, s, rfl, hn, _⟩ | ⟨_, q⟩ | ⟨ws, s, y, r, rfl, _⟩
      · exact absurd (List.map_eq_nil_iff.mp h0) hn
      · exact q H1 e1
      · exact absurd h0 (by simp)
    refine s_when (b := false) (et_test (ev_is (ev_op (ev_lenQ (ev_var rfl) ht) ev_c (rv_eq rfl)) (by
        rw [decide_eq_false]
        intro z
        exact h0 (List.eq_nil_of_length_eq_zero (by have := V.int.inj z; omega))))) (fun z => by cases z) (fun _ H1 e1 => ?_)
    dsimp only
    have h : ∃ ws s r, xs = vtx ws ++ r ∧ Wins ws s ∧ ((r = [] ∧ ∀ H', Ex H H' → Q .non H') ∨ ∃ y r', r = y :: r' ∧ BadAt K H ws s y ∧ RaisedF BW "word" H y E) := by
      rcases h with ⟨ws, s, h1, hn, hw, q⟩ | ⟨h1, _⟩ | ⟨ws, s, y, r, h1, hw, hb, q⟩
      · exact ⟨ws, s, [], by rw [h1, List.append_nil], hw, .inl ⟨rfl, q⟩⟩
      · exact absurd h1 h0
      · exact ⟨ws, s, y :: r, h1, hw, .inr ⟨y, r, rfl, hb, q⟩⟩
    obtain ⟨ws, s, r, rfl, hw, h⟩ := h
    have hx0 : ∀ (H2 : Hp) (t1 : Option V), Ex H H2 → 0 < ws.length → Ev (tCB (fun xs H Q => ∃ x n, xs = [x] ∧ LenV K x H n ∧ Q (.int n) H) (tCons (tOp (rIxQ K) (tVar 0) (tC (.int 0))) tNil)) [some (.ref t), t1] H2 (.int (s : Nat)) := fun H2 t1 e2 hlen => by
      have g0 : ws[0]? = some (ws[0]) := List.getElem?_eq_getElem hlen
      obtain ⟨ok, hs⟩ := hw _ (List.mem_of_getElem? g0)
      refine ev_is (ev_lenS (l := ws[0]) (ev_ixQ (i := 0) (ev_var rfl) (ex_a e2 ht) ?_) ?_) (by rw [hs])
      · rw [List.getElem?_append_left (by rw [vtx_len]; exact hlen)]
        exact vtx_at g0
      · unfold okW at ok
        rw [Bool.and_eq_true, Bool.and_eq_true, decide_eq_true_iff, decide_eq_true_iff] at ok
        omega
    refine s_forSq (a := t) (xs := vtx ws ++ r) (ev_var rfl) (ex_a e1 ht) (fun i st H' => ∃ t1, st = [some (.ref t), t1] ∧ Ex H1 H' ∧ i ≤ ws.length) (fun H2 e2 => ⟨none, rfl, e2, Nat.zero_le _⟩) (fun i st H' ⟨_, _, e, _⟩ => e) ?_ ?_
    · rintro i x st H2 hx ⟨t1, rfl, e2, hi⟩
      have e12 := e1.trans e2
      show tSeq _ _ _ [some (.ref t), some x] H2
      refine s_seq ?_
      refine s_call (ea_cons (ev_var rfl) (ea_cons ev_c (ea_cons ev_c ea_nil))) fun H3 e3 => ⟨x, 2, 8, rfl, by omega, ?_⟩
      have e13 := e12.trans e3
      by_cases hlt : i < ws.length
      · rw [List.getElem?_append_left (by rw [vtx_len]; exact hlt)] at hx
        unfold vtx at hx
        rw [List.getElem?_map] at hx
        obtain ⟨l, hl2, rfl⟩ := Option.map_eq_some_iff.mp hx
        obtain ⟨ok, hs⟩ := hw _ (List.mem_of_getElem? hl2)
        have hll : l.length ≤ 8 := by
          unfold okW at ok
          rw [Bool.and_eq_true, Bool.and_eq_true, decide_eq_true_iff, decide_eq_true_iff] at ok
          omega
        refine .inl ⟨l, rfl, ok, fun H4 e4 => ?_⟩
        dsimp only
        refine s_when (b := false) (et_test (ev_is (ev_op (ev_lenS (l := l) (ev_var (i := 1) rfl) (by omega)) (hx0 H4 _ (e13.trans e4) (by omega)) (rv_ne rfl)) (by rw [hs]; simp))) (fun z => by cases z) (fun _ H5 e5 => ?_)
        exact ⟨_, rfl, (((e2.trans e3).trans e4).trans e5), hlt⟩
      · have hiw : i = ws.length := by omega
        subst hiw
        rw [List.getElem?_append_right (by rw [vtx_len]; exact Nat.le_refl _), vtx_len, Nat.sub_self] at hx
        rcases h with ⟨rfl, _⟩ | ⟨y, r', rfl, hb, q⟩
        · cases hx
        · obtain rfl := Option.some.inj hx
          rcases hb with hb | ⟨l, rfl, ok, h0l, hne⟩
          · exact .inr ⟨hb.mono e13, RaisedF.grow q e13⟩
          · have hll : l.length ≤ 8 := by
              unfold okW at ok
              rw [Bool.and_eq_true, Bool.and_eq_true, decide_eq_true_iff, decide_eq_true_iff] at ok
              omega
            refine .inl ⟨l, rfl, ok, fun H4 e4 => ?_⟩
            dsimp only
            refine s_when (b := true) (et_test (ev_is (ev_op (ev_lenS (l := l) (ev_var (i := 1) rfl) (by omega)) (hx0 H4 _ (e13.trans e4) h0l) (rv_ne rfl)) (by
              rw [decide_eq_false]
              · rfl
              · intro z
                exact hne (by have := V.int.inj z; omega)))) (fun _ H5 e5 => ?_) (fun z => by cases z)
            exact raised_f (W := fun cls d _ H' => E cls d H') 1 rfl rfl (RaisedF.grow q ((e13.trans e4).trans e5))
    · rintro st H2 ⟨t1, rfl, e2, hi⟩
      rw [List.length_append, vtx_len] at hi
      rcases h with ⟨rfl, q⟩ | ⟨y, r', rfl, _⟩
      · exact q H2 (e1.trans e2)
      · rw [List.length_cons] at hi
        omega
end
end K61

set_option Elab.async false
set_option linter.all false
set_option maxRecDepth 100000
set_option maxHeartbeats 2000000
/-! set(xs) and sorted(set) where the members are texts: any kind of key whose value tells it. -/
namespace Vst
open PySem PySem.Spec PyProof.Rows L2
section
variable {κ : Type} [DecidableEq κ] {P : Program} {w : World}
/-- the key that a row of the table holds -/
def kof (f : Value → κ) (e : Int × Value) : κ := f e.2
/-- a set's object, walkable: S its members, n their number -/
structure Tab (knd : PySem.KeyKind P w κ) (f : Value → κ) (a : Addr) (S : κ → Bool) (o : Obj) (es : Array (Int × Value)) (ep : Nat) (t : SetTable) : Prop where
  ex : o.ExactSet
  dat : o.data = .set es ep t
  el : ElemsOf knd es.toList
  nd : (es.toList.map (kof f)).Nodup
  mem : ∀ k, S k = true ↔ k ∈ es.toList.map (kof f)
  few : es.size < scanBound
  fits : t.fits es.size = true
  ris : Ris t.place.toList
  led : w.params.followText "set-order" = true ∨ t.led = true
def SetG (knd : PySem.KeyKind P w κ) (f : Value → κ) (h : Heap) (a : Addr) (S : κ → Bool) (n : Nat) : Prop :=
  ∃ o es ep t, h.get? a = some o ∧ Tab knd f a S o es ep t ∧ es.size = n
variable {knd : PySem.KeyKind P w κ} {f : Value → κ} {h h' : Heap} {a : Addr} {S : κ → Bool} {n : Nat}
theorem SetG.keep (R : SetG knd f h a S n) (k : ∀ o, h.get? a = some o → h'.get? a = some o) : SetG knd f h' a S n := by
  obtain ⟨o, es, ep, t, ho, r⟩ := R
  exact ⟨o, es, ep, t, k o ho, r⟩
theorem SetG.congr {S' : κ → Bool} {n' : Nat} (R : SetG knd f h a S n) (e : ∀ k, S k = S' k) (en : n = n') : SetG knd f h a S' n' := by
  have q : S = S' := funext e
  rw [← q, ← en]; exact R
theorem mem_kof (hf : ∀ k v, knd.is k v = true → f v = k) {l : List (Int × Value)} (g : ElemsOf knd l) (k : κ) : k ∈ l.map (kof f) ↔ ∃ e ∈ l, knd.is k e.2 = true := by
  rw [List.mem_map]
  constructor
  · rintro ⟨e, he, q⟩
    obtain ⟨⟨k0, h1, _⟩, _⟩ := g e he
    refine ⟨e, he, ?_⟩
    have e0 : k0 = k := (hf k0 _ h1).symm.trans q
    rw [← e0]
    exact h1
  · rintro ⟨e, he, q⟩
    exact ⟨e, he, hf k _ q⟩
end
section
variable {κ : Type} [DecidableEq κ] {P : Program} {w : World} {A : Around} {E : Value → Shared → Prop} {s : Shared} {a : Addr} {S : κ → Bool} {n : Nat} {knd : PySem.KeyKind P w κ} {f : Value → κ}
theorem put_at {h : Heap} {o : Obj} {es es1 : Array (Int × Value)} {ep : Nat} {t t1 : SetTable} (ho : h.get? a = some o) (hd : o.data = .set es ep t) :
    (h.update a (Obj.putSet es1 t1)).get? a = some { o with data := .set es1 (ep + 1) t1 } := by
  have q := Heap.get?_update_self (Obj.putSet es1 t1) ho (by rw [putSet_of es1 t1 hd]; rfl)
  rwa [putSet_of es1 t1 hd] at q
/-- the new table laid, and laid wider where it is too full -/
theorem laid_tail {g : Bool → Sem Unit} (hg : ∀ (b : Bool) (s₁ : Shared) (Q' : Unit → Shared → Prop), Q' () s₁ → wpAny (model P w) A (g b) Q' E s₁)
    {o : Obj} {es : Array (Int × Value)} {ep : Nat} {t : SetTable} (ho : s.heap.get? a = some o) (hd : o.data = .set es ep t)
    {es1 : Array (Int × Value)} {t2 : SetTable} {S' : κ → Bool} (T : ∀ o1 ep1, o1.ExactSet → o1.data = .set es1 ep1 t2 → Tab knd f a S' o1 es1 ep1 t2) (hex : o.ExactSet) {wasDummy : Bool} {R : Option Bool → Shared → Prop}
    (hR : ∀ h', Heap.SameBut a s.heap h' → SetG knd f h' a S' es1.size → R (some true) { s with heap := h' }) :
    wpAny (model P w) A (do
        storeSet a es1 t2
        if (!wasDummy && t2.tooFull) = true then do
            g (relayAll t2 es1 (SetTable.grown es1.size)).2.2
            storeSet a (relayAll t2 es1 (SetTable.grown es1.size)).1 (relayAll t2 es1 (SetTable.grown es1.size)).2.1
            pure (some true)
          else pure (some true)) R E s := by
  have T1 := T { o with data := .set es1 (ep + 1) t2 } (ep + 1) hex rfl
  refine wpAny_bind (wpAny_storeSet_of ho hd ?_ (fits_of_scanBound T1.few))
  have ho1 := put_at (es1 := es1) (t1 := t2) ho hd
  have sb1 := Heap.SameBut.update s.heap a (Obj.putSet es1 t2)
  split
  · have pm := relayAll_perm t2 es1 (SetTable.grown es1.size)
    have hf3 := relayAll_fits t2 es1 (SetTable.grown es1.size)
    have hr3 := relayAll_ris t2 es1 (SetTable.grown es1.size)
    have hl3 := relayAll_led t2 es1 (SetTable.grown es1.size)
    generalize relayAll t2 es1 (SetTable.grown es1.size) = Z at pm hf3 hr3 hl3 ⊢
    obtain ⟨es2, t3, gave⟩ := Z
    dsimp only at pm hf3 hr3 hl3 ⊢
    have hsz : es2.size = es1.size := by rw [← Array.length_toList, pm.length_eq, Array.length_toList]
    have hb2 : es2.size < scanBound := by rw [hsz]; exact T1.few
    refine wpAny_bind (hg _ _ _ ?_)
    refine wpAny_bind (wpAny_storeSet_of ho1 rfl ?_ (fits_of_scanBound hb2))
    refine wpAny_pure (hR _ (sb1.trans (Heap.SameBut.update _ a _)) ⟨_, es2, ep + 1 + 1, t3, put_at (es1 := es2) (t1 := t3) ho1 rfl, ?_, hsz⟩)
    exact { ex := hex, dat := rfl, el := fun e he => T1.el e (pm.mem_iff.mp he), nd := (pm.map (kof f)).nodup_iff.mpr T1.nd, mem := fun k => (T1.mem k).trans (pm.map (kof f)).mem_iff.symm,
            few := hb2, fits := hf3, ris := hr3, led := T1.led.imp id fun z => by rw [hl3]; exact z }
  · exact wpAny_pure (hR _ sb1 ⟨_, es1, _, t2, ho1, T1, rfl⟩)

theorem add_hashed (hf : ∀ k v, knd.is k v = true → f v = k) {k : κ} {v : Value} (hkey : knd.is k v = true) (hsc : v.scannable = true) {Q : Bool → Shared → Prop} (R : SetG knd f s.heap a S n) (room : n + 1 < scanBound)
    (hQ : ∀ h', Heap.SameBut a s.heap h' → SetG knd f h' a (fun j => S j || decide (j = k)) (if S k = true then n else n + 1) → Q (!S k) { s with heap := h' }) :
    wpAny (model P w) A (setAddHashed a v (knd.hash k)) Q E s := by
  obtain ⟨o, es, ep, t, ho, T, hn⟩ := R
  have hd := T.dat
  have hel := T.el
  have hb := T.few
  have hft := T.fits
  unfold setAddHashed setAddHashedIn
  refine wpAny_holding (wpAny_bind (wpAny_setState_of ho hd hft ?_))
  dsimp only
  rw [byScan_of hsc hb hel]
  simp only [↓reduceIte]
  unfold setAddByScan
  refine wpAny_bind ?_
  refine wpAny_bind (wpAny_rule ?_)
  refine wpAny_bind (wpAny_setScan_of hkey ho hd hft hel ?_)
  cases hfi : List.findIdx? (fun e => knd.is k e.2) es.toList with
  | some j =>
    dsimp only
    obtain ⟨hj, pj, _⟩ := List.findIdx?_eq_some_iff_getElem.mp hfi
    have hSk : S k = true := (T.mem k).2 ((mem_kof hf hel k).2 ⟨es.toList[j], List.getElem_mem hj, pj⟩)
    refine wpAny_pure (wpAny_pure ?_)
    have q := hQ s.heap (Heap.SameBut.refl a s.heap) (SetG.congr ⟨o, es, ep, t, ho, T, hn⟩ (fun i => ?_) (by rw [if_pos hSk]))
    · rw [hSk] at q
      exact q
    · by_cases hi : i = k
      · rw [hi, hSk]; rfl
      · rw [decide_eq_false hi, Bool.or_false]
  | none =>
    dsimp only
    have hnk : k ∉ es.toList.map (kof f) := fun z => by
      obtain ⟨e, he, q⟩ := (mem_kof hf hel k).1 z
      have c := List.findIdx?_eq_none_iff.mp hfi e he
      rw [q] at c
      cases c
    have hSk : S k = false := by
      cases q : S k with
      | false => rfl
      | true => exact absurd ((T.mem k).1 q) hnk
    have hgw : ∀ (b : Bool) {s₁ : Shared} {Q' : Unit → Shared → Prop}, Q' () s₁ → wpAny (model P w) A (match b with | true => rule "set.scan.the-table-gave-way" | false => pure ()) Q' E s₁ :=
      fun b s₁ Q' q => by cases b <;> first | exact wpAny_pure q | exact wpAny_rule q
    have pm := layNew_perm t es (knd.hash k) v
    have hf1 := layNew_fits t es (knd.hash k) v
    have hr1 := layNew_ris t es (knd.hash k) v T.ris
    have hl1 := layNew_led t es (knd.hash k) v
    generalize layNew t es (knd.hash k) v = Z at pm hf1 hr1 hl1 ⊢
    obtain ⟨es1, t1, wasDummy, gave⟩ := Z
    dsimp only at pm hf1 hr1 hl1 ⊢
    rw [Array.toList_push] at pm
    have pc : es1.toList.Perm ((knd.hash k, v) :: es.toList) := pm.trans (List.perm_append_singleton _ _)
    have fk : kof f (knd.hash k, v) = k := hf k v hkey
    have pk : (es1.toList.map (kof f)).Perm (k :: es.toList.map (kof f)) := by
      have q := pc.map (kof f)
      rw [List.map_cons, fk] at q
      exact q
    have hsz : es1.size = n + 1 := by rw [← Array.length_toList, pc.length_eq, List.length_cons, Array.length_toList, hn]
    have Tn : ∀ t2 : SetTable, t2.fits es1.size = true → Ris t2.place.toList → t2.led = t.led → ∀ o1 ep1, o1.ExactSet → o1.data = .set es1 ep1 t2 → Tab knd f a (fun j => S j || decide (j = k)) o1 es1 ep1 t2 := fun t2 x1 x2 x3 o1 ep1 y1 y2 =>
      { ex := y1, dat := y2
        el := fun e he => by
          rcases List.mem_cons.mp (pc.mem_iff.mp he) with z | z
          · rw [z]; exact ⟨⟨k, hkey, rfl⟩, hsc⟩
          · exact hel e z
        nd := pk.nodup_iff.mpr (List.nodup_cons.mpr ⟨hnk, T.nd⟩)
        mem := fun i => by
          rw [Bool.or_eq_true, decide_eq_true_eq, T.mem i, pk.mem_iff, List.mem_cons]
          exact Or.comm
        few := by rw [hsz]; exact room
        fits := x1, ris := x2, led := T.led.imp id fun z => by rw [x3]; exact z }
    have fin : ∀ h', Heap.SameBut a s.heap h' → SetG knd f h' a (fun j => S j || decide (j = k)) es1.size → Q true { s with heap := h' } := fun h' sb r => by
      have q := hQ h' sb
      rw [hSk] at q
      rw [hsz] at r
      exact q r
    refine wpAny_bind (hgw _ ?_)
    split
    · refine wpAny_bind ?_
      rw [hashByValue_scannable 8 hsc]
      refine wpAny_pure ?_
      refine laid_tail ?_ ho hd (Tn _ ?_ ?_ ?_) T.ex ?_
      · intro b s₁ Q' q; cases b <;> first | exact wpAny_pure q | exact wpAny_rule q
      · first | (split <;> first | exact hf1 | exact SetTable.fits_plain_off hf1) | exact hf1
      · first | (split <;> exact hr1) | exact hr1
      · first | (split <;> exact hl1) | exact hl1
      · intro h' sb r; dsimp only; exact wpAny_pure (fin h' sb r)
    · refine wpAny_bind (wpAny_pure ?_)
      simp only [↓reduceIte]
      refine laid_tail ?_ ho hd (Tn _ hf1 hr1 hl1) T.ex ?_
      · intro b s₁ Q' q; cases b <;> first | exact wpAny_pure q | exact wpAny_rule q
      · intro h' sb r; dsimp only; exact wpAny_pure (fin h' sb r)
end
/-! ### texts -/
def strV : Value → Str
  | .str x _ => x
  | _ => Str.empty
theorem strV_is {P : Program} {w : World} (k : Str) (v : Value) (h : (PySem.strKind P w).is k v = true) : strV v = k := by
  obtain ⟨t, rfl⟩ := Value.isStrOf_shape h
  rfl
abbrev SetS (P : Program) (w : World) (h : Heap) (a : Addr) (S : Str → Bool) (n : Nat) : Prop := SetG (PySem.strKind P w) strV h a S n
section
variable {P : Program} {w : World} {A : Around} {E : Value → Shared → Prop} {s : Shared}
theorem led_fresh (w : World) : w.params.followText "set-order" = true ∨ (SetTable.fresh 0 0 (!w.params.followText "set-order")).led = true := by
  show _ ∨ (!w.params.followText "set-order") = true
  cases w.params.followText "set-order"
  · exact .inr rfl
  · exact .inl rfl
theorem setS_fresh {h : Heap} {a : Addr} (ho : h.get? a = some { cls := .type "set", dict := none, data := .set #[] 0 (.fresh 0 0 (!w.params.followText "set-order")) }) : SetS P w h a (fun _ => false) 0 :=
  ⟨_, #[], 0, SetTable.fresh 0 0 (!w.params.followText "set-order"), ho, { ex := ⟨rfl, rfl, rfl⟩, dat := rfl, el := fun e he => by simp at he, nd := by simp, mem := fun k => by simp, few := by decide, fits := by rfl, ris := List.Pairwise.nil, led := led_fresh w }, rfl⟩
/-- how many different ones -/
def diff : List Str → Nat
  | [] => 0
  | x :: r => if x ∈ r then diff r else diff r + 1
theorem take_more {α : Type} {l : List α} {i : Nat} {x : α} (h : l[i]? = some x) : l.take (i + 1) = l.take i ++ [x] := by
  rw [List.take_succ, h]
  rfl
def seen (xs : List Str) (i : Nat) (k : Str) : Bool := decide (k ∈ xs.take i)
/-- set.update's loop over texts -/
theorem upd_loop {I : Addr} {fp wr : List Addr} {G : Array GenState → Array GenState → Prop} {n : Nat} {Pv : Nat → Value → Prop} {St : Nat → Shared → Prop} {R : Result → Shared → Prop}
    (W : WalksS P w A.in1 I fp wr G n Pv St) (S : Addr) (hSf : S ∉ fp) (xs : List Str) (hn : xs.length = n) (hfew : n + 1 < scanBound) (hval : ∀ i v, Pv i v → ∃ x t, xs[i]? = some x ∧ v = .str x t) :
    ∀ (k i : Nat) (s : Shared), n - i = k → i ≤ n → St i s → (∃ m, m ≤ i ∧ SetS P w s.heap S (seen xs i) m) →
      (∀ s' m, m ≤ n → Moved (S :: wr) G s s' → SetS P w s'.heap S (seen xs n) m → R (.ok (.ret .none)) s') →
      codeAny (model P w) A (.builtin "set.update.loop" ⟨[.ref S, .ref I], []⟩) R s := by
  have hSw : S ∉ wr := fun h => hSf (W.sub _ h)
  have hsub : ∀ b ∈ wr, b ∈ S :: wr := fun b hb => List.mem_cons_of_mem _ hb
  intro k
  induction k with
  | zero =>
    intro i s hk hi hst ⟨m, hm, hS⟩ hR
    have hin : i = n := by omega
    subst hin
    refine codeAny_builtin F.entry_set_update_loop ?_
    rw [Around.under_plainId F.plain_set_update_loop _]
    show wpAny _ A.in1 (pyNext (.ref I) >>= _) _ _ s
    refine wpAny_bind (W.done s _ _ hst fun s' mv => ?_)
    show wpAny _ A.in1 (ret Value.none) _ _ s'
    exact wpAny_pure (hR s' m hm (mv.mono hsub) (hS.keep fun o e => mv.heap S o hSw e))
  | succ k ih =>
    intro i s hk hi hst ⟨m, hm, hS⟩ hR
    have hlt : i < n := by omega
    refine codeAny_builtin F.entry_set_update_loop ?_
    rw [Around.under_plainId F.plain_set_update_loop _]
    show wpAny _ A.in1 (pyNext (.ref I) >>= _) _ _ s
    refine wpAny_bind (W.item i s _ _ hlt hst fun v s' hP hst' mv => ?_)
    obtain ⟨x, tk, hx, rfl⟩ := hval i v hP
    have hS' : SetS P w s'.heap S (seen xs i) m := hS.keep fun o e => mv.heap S o hSw e
    show wpAny _ A.in1 (holding [Value.str x tk] (setAdd S (.str x tk)) >>= _) _ _ s'
    refine wpAny_bind (wpAny_holding ?_)
    unfold setAdd
    refine wpAny_holding ?_
    refine wpAny_bind ((PySem.strKind P w).pyHash (k := x) (strKind_is _ _ _ _) ?_)
    refine add_hashed (knd := PySem.strKind P w) (f := strV) (s := { s' with toks := s'.toks + 1 }) strV_is (strKind_is _ _ _ _) rfl hS' (by omega) fun h' hsb hS2 => ?_
    have hS3 : SetS P w h' S (seen xs (i + 1)) (if seen xs i x = true then m else m + 1) := hS2.congr (fun j => by
      unfold seen
      rw [take_more hx]
      by_cases h1 : j ∈ xs.take i
      · rw [decide_eq_true h1, decide_eq_true (List.mem_append_left _ h1)]; rfl
      · by_cases h2 : j = x
        · have hm2 : j ∈ xs.take i ++ [x] := by rw [h2]; exact List.mem_append_right _ List.mem_cons_self
          rw [decide_eq_true hm2, decide_eq_true h2, Bool.or_true]
        · rw [decide_eq_false h1, decide_eq_false h2, decide_eq_false]
          · rfl
          · intro z
            rcases List.mem_append.mp z with z | z
            · exact h1 z
            · exact h2 (List.mem_singleton.mp z)) rfl
    refine wpAny_pure ⟨plainId_quiet F.plain_set_update_loop _, ih (i + 1) _ (by omega) hlt (W.frame _ s' _ _ hst' (Nat.le_add_right _ _) fun b hb o e => ?_) ⟨_, by split <;> omega, hS3⟩ fun s'' m'' hm'' mv'' hS'' => ?_⟩
    · rw [hsb.2 b (fun h : b = S => hSf (by rw [← h]; exact hb))]; exact e
    · refine hR s'' m'' hm'' (Moved.trans W.gtrans ((mv.mono hsub).then_heap (Nat.le_add_right _ _) fun b o hb e => ?_) mv'') hS''
      rw [hsb.2 b (fun h : b = S => hb (by rw [h]; exact List.mem_cons_self))]; exact e
abbrev blank (w : World) : Obj := { cls := .type "set", dict := none, data := .set #[] 0 (.fresh 0 0 (!w.params.followText "set-order")) }
theorem hval_of : ∀ {us : Array Value} {xs : List Str}, StrsAre us.toList xs → ∀ {i : Nat} {v : Value}, us[i]? = some v → ∃ x t, xs[i]? = some x ∧ v = .str x t := by
  intro us xs h i v hv
  have hv2 : us.toList[i]? = some v := by rw [Array.getElem?_toList]; exact hv
  revert hv2
  generalize us.toList = l at h
  clear hv
  intro hv2
  induction h generalizing i with
  | nil => simp at hv2
  | cons x t hr ih =>
    cases i with
    | zero =>
      simp at hv2
      exact ⟨x, t, rfl, hv2.symm⟩
    | succ i =>
      simp only [List.getElem?_cons_succ] at hv2
      obtain ⟨y, u, h1, h2⟩ := ih hv2
      exact ⟨y, u, h1, h2⟩
end
end Vst

set_option Elab.async false
set_option linter.all false
set_option maxRecDepth 100000
set_option maxHeartbeats 2000000
namespace Vst
open PySem PySem.Spec PyProof.Rows L2
section
variable {P : Program} {w : World} {A : Around} {E : Value → Shared → Prop} {s : Shared}
set_option maxHeartbeats 3200000 in
/-- set(xs), a list of texts -/
theorem call_set_list {l : Addr} {items : Array Value} {xs : List Str} {Q : Value → Shared → Prop} (hh : A.handled = none) (hl : s.heap.IsList l items) (hi : StrsAre items.toList xs) (hfew : xs.length + 1 < scanBound)
    (h : ∀ (h' : Heap) (tk m : Nat), m ≤ xs.length → SetS P w h' s.heap.objs.size (fun k => decide (k ∈ xs)) m → (∀ b o, b < s.heap.objs.size → s.heap.get? b = some o → h'.get? b = some o) → Q (.ref s.heap.objs.size) { s with heap := h', toks := tk }) :
    wpAny (model P w) A (call (.type "set") [.ref l]) Q E s := by
  obtain ⟨c, tl, hmro⟩ := PySem.F.called_set.mro
  have hmade := PySem.F.called_set.made
  have hsub := PySem.F.called_set.sub
  refine wpAny_call (codeAny_of_tree ?_)
  show wpAny _ _ (callAny (.type "set") _) _ _ _
  refine wpAny_pure ⟨Code.quiet_builtin _ (by decide +kernel), codeAny_builtin PySem.F.entry_type_call ?_⟩
  rw [Around.under_plain (weight_type_call_type "set" [.ref l] []) rfl]
  have h1 := PySem.F.called_set.notType
  have h2 := PySem.F.called_set.canCreate
  have hct := PySem.F.typeCall_set_1 (.ref l)
  have hsz : xs.length = items.size := by rw [← StrsAre.len_eq hi, Array.length_toList]
  have hsee : seen xs items.size = fun k => decide (k ∈ xs) := by
    unfold seen
    rw [← hsz, List.take_length]
  repeat (any_goals (first | assumption | wp_step))

  refine codeAny_mono (code_set_led1 (.ref l) (E := E) (Q₁ := fun obj s₁ => obj = .ref s.heap.objs.size ∧ s₁ = { s with heap := s.heap.push (blank w) }) ⟨rfl, rfl⟩) fun r s₁ hr => ?_
  cases r with
  | error e => exact hr
  | ok fl =>
    cases fl with
    | ret obj =>
      obtain ⟨rfl, rfl⟩ := hr
      have hS : (s.heap.push (blank w)).get? s.heap.objs.size = some (blank w) := Heap.get?_push_size _ rfl
      have hT : Shared.TypeIs { s with heap := s.heap.push (blank w) } (.ref s.heap.objs.size) "set" := ⟨_, hS, rfl⟩
      have hli := PySem.F.called_set.init.lookup
      have hbi := PySem.F.called_set.init.bind (.ref s.heap.objs.size)
      repeat (any_goals (first | assumption | wp_step))

      refine codeAny_mono (codeAny_call_builtin (R := wants (fun r s₂ => r = .none ∧ ∃ h' tk m, s₂ = { s with heap := h', toks := tk } ∧ m ≤ xs.length ∧ SetS P w h' s.heap.objs.size (fun k => decide (k ∈ xs)) m ∧
          (∀ b o, b < s.heap.objs.size → s.heap.get? b = some o → h'.get? b = some o)) E) PySem.F.called_set.init.plain PySem.F.entry_set_init (check_set_init_1 hT ?_)) fun r₂ s₂ hr₂ => ?_
      · obtain ⟨ol, hol, hcl, nl, hdl⟩ := hl
        obtain ⟨ocls, odict, odata, oslots⟩ := ol
        simp only at hcl hdl
        subst hcl; subst hdl
        have hol' : (s.heap.push (blank w)).get? l = some { cls := .type "list", dict := odict, data := .seq items nl, slots := oslots } := Heap.get?_push_of_some _ hol
        have hsls := PySem.F.sub_list_set
        have hslf := PySem.F.sub_list_frozenset
        have hne : (Value.type "list" == Value.type "dict") = false := by decide
        have hl1 : (s.heap.push (blank w)).IsList l items := ⟨_, hol', rfl, nl, rfl⟩
        unfold Builtin.«set.__init__» noKeywords Builtin.Frozenset.updateFrom
        generalize hPI : pyIter = PI
        wp_walk
        subst hPI

        refine wpAny_pyIter_list hl1 ?_
        refine wpAny_bind (wpAny_runValue ?_)
        have hlS : l < s.heap.objs.size := Heap.lt_size hol
        have hh3 : A.in1.in1.in1.handled = none := by simp [hh]
        have hneI : l ≠ (s.heap.push (blank w)).objs.size := by
          rw [Heap.size_push]; exact Nat.ne_of_lt (Nat.lt_succ_of_lt hlS)
        have hSf : s.heap.objs.size ∉ [(s.heap.push (blank w)).objs.size, l] := by
          rw [Heap.size_push]; simp only [List.mem_cons, List.mem_singleton, List.not_mem_nil, or_false, not_or]
          exact ⟨Nat.ne_of_lt (Nat.lt_succ_self _), Nat.ne_of_gt hlS⟩
        refine upd_loop ((Walks.list hh3 _ l hneI items).toS) s.heap.objs.size
          hSf xs hsz (by rw [← hsz]; exact hfew) (fun i v hv => hval_of hi hv) (items.size - 0) 0 _ (by omega) (Nat.zero_le _)
          ⟨⟨_, Heap.get?_push_size _ rfl, rfl, rfl⟩, (hl1.push _)⟩ ?hS0 ?hR
        case hS0 =>
          have hget : ((s.heap.push (blank w)).push { cls := .type "list_iterator", data := .fields #[.ref l, .int 0 0] }).get? s.heap.objs.size = some (blank w) := Heap.get?_push_of_some _ hS
          exact ⟨0, Nat.le_refl _, (setS_fresh hget).congr (fun k => by unfold seen; rw [List.take_zero]; rfl) rfl⟩
        case hR =>
          intro s' m hm mv hS'
          obtain ⟨h', g', d', tk', os'⟩ := s'
          have eg : g' = s.gens := mv.gens
          have ed : d' = s.drawn := mv.drawn
          have eo : os' = s.os := mv.os
          subst eg; subst ed; subst eo
          show wpAny _ _ _ _ _ _
          refine wpAny_pure ?_
          show wpAny _ _ (ret Value.none) _ _ _
          rw [hsee] at hS'
          refine wpAny_pure ⟨rfl, h', tk', m, rfl, by rw [hsz]; exact hm, hS', fun b o hb e => ?_⟩
          have hb1 : b ≠ s.heap.objs.size := Nat.ne_of_lt hb
          have hb2 : b ≠ (s.heap.push (blank w)).objs.size := by
            rw [Heap.size_push]; exact Nat.ne_of_lt (Nat.lt_succ_of_lt hb)
          exact mv.heap b o (by simp only [List.mem_cons, List.mem_singleton, List.not_mem_nil, or_false, not_or]; exact ⟨hb1, hb2⟩) (Heap.get?_push_of_some _ (Heap.get?_push_of_some _ e))

      · cases r₂ with
        | error e => exact hr₂
        | ok fl₂ =>
          cases fl₂ with
          | ret r =>
            obtain ⟨rfl, h', tk, m, rfl, hm, hS', hk'⟩ := hr₂
            repeat (any_goals (first | assumption | wp_step))
            exact h _ _ _ hm hS' hk'
          | _ => exact hr₂.elim
    | _ => exact hr.elim
set_option maxHeartbeats 3200000 in
/-- set(xs), a tuple of texts -/
theorem call_set_tuple {l : Addr} {items : Array Value} {xs : List Str} {Q : Value → Shared → Prop} (hh : A.handled = none) (hl : s.heap.IsTuple l items) (hi : StrsAre items.toList xs) (hfew : xs.length + 1 < scanBound)
    (h : ∀ (h' : Heap) (tk m : Nat), m ≤ xs.length → SetS P w h' s.heap.objs.size (fun k => decide (k ∈ xs)) m → (∀ b o, b < s.heap.objs.size → s.heap.get? b = some o → h'.get? b = some o) → Q (.ref s.heap.objs.size) { s with heap := h', toks := tk }) :
    wpAny (model P w) A (call (.type "set") [.ref l]) Q E s := by
  obtain ⟨c, tl, hmro⟩ := PySem.F.called_set.mro
  have hmade := PySem.F.called_set.made
  have hsub := PySem.F.called_set.sub
  refine wpAny_call (codeAny_of_tree ?_)
  show wpAny _ _ (callAny (.type "set") _) _ _ _
  refine wpAny_pure ⟨Code.quiet_builtin _ (by decide +kernel), codeAny_builtin PySem.F.entry_type_call ?_⟩
  rw [Around.under_plain (weight_type_call_type "set" [.ref l] []) rfl]
  have h1 := PySem.F.called_set.notType
  have h2 := PySem.F.called_set.canCreate
  have hct := PySem.F.typeCall_set_1 (.ref l)
  have hsz : xs.length = items.size := by rw [← StrsAre.len_eq hi, Array.length_toList]
  have hsee : seen xs items.size = fun k => decide (k ∈ xs) := by
    unfold seen
    rw [← hsz, List.take_length]
  repeat (any_goals (first | assumption | wp_step))

  refine codeAny_mono (code_set_led1 (.ref l) (E := E) (Q₁ := fun obj s₁ => obj = .ref s.heap.objs.size ∧ s₁ = { s with heap := s.heap.push (blank w) }) ⟨rfl, rfl⟩) fun r s₁ hr => ?_
  cases r with
  | error e => exact hr
  | ok fl =>
    cases fl with
    | ret obj =>
      obtain ⟨rfl, rfl⟩ := hr
      have hS : (s.heap.push (blank w)).get? s.heap.objs.size = some (blank w) := Heap.get?_push_size _ rfl
      have hT : Shared.TypeIs { s with heap := s.heap.push (blank w) } (.ref s.heap.objs.size) "set" := ⟨_, hS, rfl⟩
      have hli := PySem.F.called_set.init.lookup
      have hbi := PySem.F.called_set.init.bind (.ref s.heap.objs.size)
      repeat (any_goals (first | assumption | wp_step))

      refine codeAny_mono (codeAny_call_builtin (R := wants (fun r s₂ => r = .none ∧ ∃ h' tk m, s₂ = { s with heap := h', toks := tk } ∧ m ≤ xs.length ∧ SetS P w h' s.heap.objs.size (fun k => decide (k ∈ xs)) m ∧
          (∀ b o, b < s.heap.objs.size → s.heap.get? b = some o → h'.get? b = some o)) E) PySem.F.called_set.init.plain PySem.F.entry_set_init (check_set_init_1 hT ?_)) fun r₂ s₂ hr₂ => ?_
      · obtain ⟨ol, hol, hcl, nl, hdl⟩ := hl
        obtain ⟨ocls, odict, odata, oslots⟩ := ol
        simp only at hcl hdl
        subst hcl; subst hdl
        have hol' : (s.heap.push (blank w)).get? l = some { cls := .type "tuple", dict := odict, data := .seq items nl, slots := oslots } := Heap.get?_push_of_some _ hol
        have hsls := PySem.F.sub_tuple_set
        have hslf := PySem.F.sub_tuple_frozenset
        have hne : (Value.type "tuple" == Value.type "dict") = false := by decide
        have hl1 : (s.heap.push (blank w)).IsTuple l items := ⟨_, hol', rfl, nl, rfl⟩
        unfold Builtin.«set.__init__» noKeywords Builtin.Frozenset.updateFrom
        generalize hPI : pyIter = PI
        wp_walk
        subst hPI

        refine wpAny_pyIter_tuple hl1 ?_
        refine wpAny_bind (wpAny_runValue ?_)
        have hlS : l < s.heap.objs.size := Heap.lt_size hol
        have hh3 : A.in1.in1.in1.handled = none := by simp [hh]
        have hneI : l ≠ (s.heap.push (blank w)).objs.size := by
          rw [Heap.size_push]; exact Nat.ne_of_lt (Nat.lt_succ_of_lt hlS)
        have hSf : s.heap.objs.size ∉ [(s.heap.push (blank w)).objs.size, l] := by
          rw [Heap.size_push]; simp only [List.mem_cons, List.mem_singleton, List.not_mem_nil, or_false, not_or]
          exact ⟨Nat.ne_of_lt (Nat.lt_succ_self _), Nat.ne_of_gt hlS⟩
        refine upd_loop ((Walks.tuple hh3 _ l hneI items).toS) s.heap.objs.size
          hSf xs hsz (by rw [← hsz]; exact hfew) (fun i v hv => hval_of hi hv) (items.size - 0) 0 _ (by omega) (Nat.zero_le _)
          ⟨⟨_, Heap.get?_push_size _ rfl, rfl, rfl⟩, (hl1.push _)⟩ ?hS0 ?hR
        case hS0 =>
          have hget : ((s.heap.push (blank w)).push { cls := .type "tuple_iterator", data := .fields #[.ref l, .int 0 0] }).get? s.heap.objs.size = some (blank w) := Heap.get?_push_of_some _ hS
          exact ⟨0, Nat.le_refl _, (setS_fresh hget).congr (fun k => by unfold seen; rw [List.take_zero]; rfl) rfl⟩
        case hR =>
          intro s' m hm mv hS'
          obtain ⟨h', g', d', tk', os'⟩ := s'
          have eg : g' = s.gens := mv.gens
          have ed : d' = s.drawn := mv.drawn
          have eo : os' = s.os := mv.os
          subst eg; subst ed; subst eo
          show wpAny _ _ _ _ _ _
          refine wpAny_pure ?_
          show wpAny _ _ (ret Value.none) _ _ _
          rw [hsee] at hS'
          refine wpAny_pure ⟨rfl, h', tk', m, rfl, by rw [hsz]; exact hm, hS', fun b o hb e => ?_⟩
          have hb1 : b ≠ s.heap.objs.size := Nat.ne_of_lt hb
          have hb2 : b ≠ (s.heap.push (blank w)).objs.size := by
            rw [Heap.size_push]; exact Nat.ne_of_lt (Nat.lt_succ_of_lt hb)
          exact mv.heap b o (by simp only [List.mem_cons, List.mem_singleton, List.not_mem_nil, or_false, not_or]; exact ⟨hb1, hb2⟩) (Heap.get?_push_of_some _ (Heap.get?_push_of_some _ e))

      · cases r₂ with
        | error e => exact hr₂
        | ok fl₂ =>
          cases fl₂ with
          | ret r =>
            obtain ⟨rfl, h', tk, m, rfl, hm, hS', hk'⟩ := hr₂
            repeat (any_goals (first | assumption | wp_step))
            exact h _ _ _ hm hS' hk'
          | _ => exact hr₂.elim
    | _ => exact hr.elim
end
end Vst

set_option Elab.async false
set_option linter.all false
set_option maxRecDepth 100000
set_option maxHeartbeats 2000000
/-! sorted(set(xs)) of texts: rules. -/
namespace Vst
open PySem PySem.Spec PyProof.Rows L2
section
variable {P : Program} {w : World} {A : Around} {E : Value → Shared → Prop} {s : Shared} {a : Addr} {S : Str → Bool} {n : Nat}
theorem sorted_setS {Q : Value → Shared → Prop} (R : SetS P w s.heap a S n) (hh : A.handled = none) (h64 : n < 64)
    (hQ : ∀ s' p (out : Array Value) (c : Nat) (ys : List Str), (∀ b o, s.heap.get? b = some o → s'.heap.get? b = some o) → s'.gens = s.gens → s'.os = s.os → s.heap.objs.size ≤ p →
      s'.heap.get? p = some (seqObj "list" out c) → StrsAre out.toList ys → ys.Nodup → (∀ k, k ∈ ys ↔ S k = true) → sortedS ys = true → Q (.ref p) s') :
    wpAny (model P w) A (call (.builtin "sorted") [.ref a]) Q E s := by
  obtain ⟨o, es, ep, t, ho, T, hn⟩ := R
  refine Calls.call_function_entry kind_sorted plain_sorted entry_sorted (args_sorted1 _) ?_
  unfold Builtin.«sorted»
  refine wpAny_bind (m := checkCount "sorted" 1 1 _) (wpAny_pure ?_)
  refine wpAny_bind (collect_set (A := A.in1) hh ⟨o, ho, T.ex.1, T.dat⟩ T.fits T.few T.ris T.led fun s1 vs k1 hz g1 o1 pm => ?_)
  have hvl : vs.length = n := by rw [pm.length_eq, List.length_map, Array.length_toList]; exact hn
  have hI : StrsAre vs (vs.map strOf) := strsAre_map vs fun v hv => by
    obtain ⟨e, he, q⟩ := List.mem_map.mp (pm.mem_iff.mp hv)
    obtain ⟨⟨k, h1, _⟩, _⟩ := T.el e he
    obtain ⟨tk, h2⟩ := Value.isStrOf_shape h1
    exact ⟨k, tk, by rw [← q]; exact h2⟩
  have es2 : (es.toList.map (·.2)).map strOf = es.toList.map (kof strV) := by
    rw [List.map_map]
    refine List.map_congr_left fun e he => ?_
    obtain ⟨⟨k, h1, _⟩, _⟩ := T.el e he
    obtain ⟨tk, h2⟩ := Value.isStrOf_shape h1
    show strOf e.2 = strV e.2
    rw [h2]
    rfl
  have pk : (vs.map strOf).Perm (es.toList.map (kof strV)) := by
    have q := pm.map strOf
    rw [es2] at q
    exact q
  refine wpAny_bind (wpAny_newList ?_ (by rw [hvl, sizeLine_eq]; omega))
  have hoL : (s1.heap.push (seqObj "list" vs.toArray 0)).get? s1.heap.objs.size = some (seqObj "list" vs.toArray 0) := Heap.get?_push_size _ rfl
  refine wpAny_bind (wpAny_holding (wpAny_call_entry slot_list_sort ⟨_, hoL, rfl⟩ entry_list_sort
    (list_sort_treeK strKind_oneLt hoL hI.keysOf (fun v₁ v₂ rest e => keyKind_strs (by rw [← e]; exact hI)) (by rw [hvl]; exact h64) fun st' hp hs => ⟨_, rfl, ?_⟩) (args_list_sort _)))
  obtain ⟨ys, a1, a2, a3⟩ := sorted_out_str hI hp hs
  obtain ⟨c, hc⟩ := sortedHeap_at (vs := vs) (out := (arrOf st').map (·.2)) hoL
  have pn : ys.Perm (es.toList.map (kof strV)) := a2.trans pk
  refine wpAny_pure ⟨_, rfl, hQ _ s1.heap.objs.size _ c ys (fun b u e => ?_) g1 o1 hz hc a1 (pn.nodup_iff.mpr T.nd) (fun k => by rw [pn.mem_iff, ← T.mem k]) a3⟩
  have q := k1 b u e
  have hlt := Heap.lt_size q
  show (sortedHeap (s1.heap.push (seqObj "list" vs.toArray 0)) s1.heap.objs.size vs _).get? b = some u
  rw [sortedHeap_old (Nat.ne_of_lt hlt) (by rw [size_push']; exact Nat.lt_succ_of_lt hlt)]
  exact Heap.get?_push_of_some _ q
end
/-! ### rules -/
/-- the set of texts at a -/
def SetSO (P : Program) (w : World) (a : Addr) (S : Str → Bool) (n : Nat) : HO := .ext fun h => SetS P w h a S n
theorem setSO_new {P : Program} {w : World} {H : Hp} {h : Heap} {a : Addr} {S : Str → Bool} {n : Nat} (R : SetS P w h a S n) : ObjOk P w H h a (SetSO P w a S n) := by
  have ⟨o, _, _, _, ho, _⟩ := R
  exact ⟨R, ⟨o, ho⟩, fun h1 h2 p k => SetG.keep p k⟩
section
variable {X : Cx}
def rSetS (K : PySem.W.Frag) (P : Program) (w : World) : List V → Hp → VK → Prop := fun vs H Q => ∃ (l : Addr) (xs : List Str), vs = [V.ref l] ∧ (SqL K H l (xs.map V.str) ∨ SqT K H l (xs.map V.str)) ∧ xs.length ≤ 1000 ∧
  ∀ a m, H a = none → m ≤ xs.length → Q (.ref a) (upd H a (SetSO P w a (fun k => decide (k ∈ xs)) m))
theorem few_of {n : Nat} (h : n ≤ 1000) : n + 1 < scanBound := by unfold scanBound; omega
/-- set(xs): a list or a tuple of texts -/
theorem cr_setS (hc : X.calm = true) : CallR X (.type "set") (rSetS X.K X.prog X.w) := by
  intro pins s σ H vs us Q I r h
  obtain ⟨l, xs, rfl, hl, hf, q⟩ := h
  rw [Vals.ref1 r]
  have hn : H s.heap.objs.size = none := I.hok.fresh (Nat.le_refl _)
  rcases hl with hl | hl
  · obtain ⟨its, rv, pl, hz⟩ := I.list hl
    refine call_set_list (P := X.prog) (w := X.w) (I.ok.hd hc) pl.isList (by simpa using strsAre_of rv) (few_of hf) fun h' tk m hm R k => ?_
    exact ⟨.ref s.heap.objs.size, upd H s.heap.objs.size (SetSO X.prog X.w s.heap.objs.size _ m), I.laid (t' := tk) (fun b o e => k b o (Heap.lt_size e) e) (Nat.le_refl _) (setSO_new R), rfl, q _ m hn hm⟩
  · obtain ⟨its, rv, pl, hz⟩ := I.tuple hl
    refine call_set_tuple (P := X.prog) (w := X.w) (I.ok.hd hc) pl (by simpa using strsAre_of rv) (few_of hf) fun h' tk m hm R k => ?_
    exact ⟨.ref s.heap.objs.size, upd H s.heap.objs.size (SetSO X.prog X.w s.heap.objs.size _ m), I.laid (t' := tk) (fun b o e => k b o (Heap.lt_size e) e) (Nat.le_refl _) (setSO_new R), rfl, q _ m hn hm⟩
def rSortedSt (P : Program) (w : World) : List V → Hp → VK → Prop := fun vs H Q => ∃ (a : Addr) (S : Str → Bool) (n : Nat), vs = [V.ref a] ∧ H a = some (SetSO P w a S n) ∧ n < 64 ∧
  ∀ (ys : List Str) (p : Addr), ys.Nodup → (∀ k, k ∈ ys ↔ S k = true) → sortedS ys = true → ys.length < 64 → H p = none → Q (.ref p) (upd H p (.lst (ys.map V.str)))
/-- sorted(set of texts) -/
theorem cr_sortedSt (hc : X.calm = true) : CallR X (.builtin "sorted") (rSortedSt X.prog X.w) := by
  intro pins s σ H vs us Q I r h
  obtain ⟨a, S, n, rfl, ha, h64, q⟩ := h
  have R : SetS X.prog X.w s.heap a S n := (I.hok a _ ha).1
  rw [Vals.ref1 r]
  have hsize : ∀ ys : List Str, ys.Nodup → (∀ k, k ∈ ys ↔ S k = true) → ys.length = n := by
    intro ys nd hm
    obtain ⟨o, es, ep, t, ho, T, hn⟩ := R
    have p : ys.Perm (es.toList.map (kof strV)) := (List.perm_ext_iff_of_nodup nd T.nd).mpr fun k => (hm k).trans (T.mem k)
    rw [p.length_eq, List.length_map, Array.length_toList]
    exact hn
  refine sorted_setS R (I.ok.hd hc) h64 fun s' p out c ys k g o hp hg hout nd hm hs => ?_
  have hlen0 := hsize ys nd hm
  have hlen : (ys.map V.str).length ≤ sizeLine := by rw [List.length_map, sizeLine_eq]; omega
  have hn : H p = none := I.hok.fresh hp
  have J : Inv X pins σ (upd H p (.lst (ys.map V.str))) { s with heap := s'.heap, gens := s'.gens, drawn := s'.drawn, toks := s'.toks } :=
    I.call (ch := []) (Un.laid k hp hn) (I.hok.laid k hp ⟨hlen, out.toList, c, vals_of_strs hout, hg⟩) (by rw [g]; exact I.bare) (fun _ z => nomatch z)
  have e : s' = { s with heap := s'.heap, gens := s'.gens, drawn := s'.drawn, toks := s'.toks } := by
    cases s'
    cases s
    cases o
    rfl
  rw [e]
  exact ⟨.ref p, _, J, rfl, q ys p nd hm hs (by omega) hn⟩
end
end Vst

set_option Elab.async false
set_option linter.all false
/-! Sorted lists of texts: there is one of each lot. -/
namespace Vsr
open PySem PySem.Spec PyProof.Rows Vp
theorem lt_tri : ∀ a b : List Nat, ltCps a b = false → ltCps b a = false → a = b
  | [], [], _, _ => rfl
  | [], _ :: _, h, _ => by cases h
  | _ :: _, [], _, h => by cases h
  | a :: r, b :: t, h1, h2 => by
    unfold ltCps at h1 h2
    rw [Bool.or_eq_false_iff] at h1 h2
    have e1 := of_decide_eq_false h1.1
    have e2 := of_decide_eq_false h2.1
    have e : a = b := by omega
    subst e
    have h3 := h1.2
    have h4 := h2.2
    rw [beq_self_eq_true, Bool.true_and] at h3 h4
    rw [lt_tri r t h3 h4]
theorem le_tr : ∀ a b c : List Nat, ltCps b a = false → ltCps c b = false → ltCps c a = false
  | [], _, [], _, _ => rfl
  | [], _, _ :: _, _, _ => rfl
  | _ :: _, [], _, h, _ => by cases h
  | _ :: _, _ :: _, [], _, h => by cases h
  | a :: r, b :: t, c :: u, h1, h2 => by
    unfold ltCps at h1 h2 ⊢
    rw [Bool.or_eq_false_iff] at h1 h2 ⊢
    have e1 := of_decide_eq_false h1.1
    have e2 := of_decide_eq_false h2.1
    refine ⟨decide_eq_false (by omega), ?_⟩
    by_cases e : c = a
    · subst e
      have e3 : b = c := by omega
      subst e3
      have h3 := h1.2
      have h4 := h2.2
      rw [beq_self_eq_true, Bool.true_and] at h3 h4 ⊢
      exact le_tr r t u h3 h4
    · rw [beq_eq_false_iff_ne.mpr e, Bool.false_and]
def leS (a b : Str) : Prop := ltCps b.cps.toList a.cps.toList = false
theorem pw_of : ∀ (l : List Str) (p : Str), risingS p l = true → (p :: l).Pairwise leS
  | [], p, _ => List.pairwise_singleton _ _
  | x :: r, p, h => by
    unfold risingS at h
    obtain ⟨h1, h2⟩ := Bool.and_eq_true_iff.mp h
    have ih := pw_of r x h2
    have hx : leS p x := by
      unfold leS
      cases e : ltCps x.cps.toList p.cps.toList with
      | false => rfl
      | true => rw [e] at h1; cases h1
    refine List.pairwise_cons.mpr ⟨fun y hy => ?_, ih⟩
    rcases List.mem_cons.mp hy with rfl | hy
    · exact hx
    · exact le_tr _ _ _ hx ((List.pairwise_cons.mp ih).1 y hy)
theorem pw_sorted : ∀ l : List Str, sortedS l = true → l.Pairwise leS
  | [], _ => .nil
  | x :: r, h => pw_of r x h
theorem sorted_one {u v : List Str} (hu : sortedS u = true) (hv : sortedS v = true) (p : u.Perm v) : u = v :=
  List.Perm.eq_of_pairwise (le := leS) (fun a b _ _ h1 h2 => by
    rw [tx_of a, tx_of b, lt_tri _ _ h2 h1]) (pw_sorted u hu) (pw_sorted v hv) p
end Vsr

set_option Elab.async false
set_option linter.all false
set_option maxRecDepth 100000
set_option maxHeartbeats 4000000
/-! raise out of a loop over a dict: the dict is open again. -/
namespace Vul
open PySem PySem.Spec PyProof.Rows L2
def Open (H0 : Hp) (W : WX) : WX := fun cls x σ H => ∃ d od u, H d = some (.frz od u) ∧ (∀ o' u', H0 d ≠ some (.frz o' u')) ∧ W cls x σ (upd H d u)
theorem takes_open {X : Cx} {W : WX} (t : Takes X W) : Takes X (Open X.H_0 W) := fun u s' ⟨a, B, sI, pins, σ, H, cls, x, e, I, nb, up, sky, na, os, ag, d, od, uu, hf, hn, w⟩ =>
  t u s' ⟨a, B, sI, pins, σ, upd H d uu, cls, x, e, I.unlock hf hn, nb, up, sky, (upd_ne (fun z => by rw [z, hf] at na; cases na)).trans na, os, ag, w⟩
end Vul

set_option Elab.async false
set_option linter.all false
set_option maxRecDepth 100000
set_option maxHeartbeats 4000000
/-! Sorted texts, each once. -/
namespace Vtx
open PySem PySem.Spec PyProof.Rows L2 Vl Evl Vp Ven
/-- ys: the texts of xs in ascending order, each once -/
structure Srt (ys xs : List (List Nat)) : Prop where
  nd : ys.Nodup
  mem : ∀ k, k ∈ ys ↔ k ∈ xs
  so : sortedS (ys.map tx) = true
theorem map_tx_mem {a : List (List Nat)} {k : List Nat} : tx k ∈ a.map tx ↔ k ∈ a := by
  rw [List.mem_map]
  constructor
  · rintro ⟨b, hb, e⟩
    rw [← tx_inj e]
    exact hb
  · exact fun h => ⟨k, h, rfl⟩
theorem perm_of {α : Type} [DecidableEq α] : ∀ {xs ys : List α}, xs.Nodup → ys.Nodup → (∀ k, k ∈ xs ↔ k ∈ ys) → xs.Perm ys
  | [], ys, _, _, h => by
    have : ys = [] := List.eq_nil_iff_forall_not_mem.mpr fun k hk => nomatch (h k).mpr hk
    rw [this]
  | x :: xs, ys, n1, n2, h => by
    have hx : x ∈ ys := (h x).mp List.mem_cons_self
    refine List.Perm.trans ?_ (List.perm_cons_erase hx).symm
    refine (perm_of (List.nodup_cons.mp n1).2 (n2.erase x) fun k => ?_).cons x
    rw [n2.mem_erase_iff]
    constructor
    · intro hk
      exact ⟨fun z => (List.nodup_cons.mp n1).1 (z ▸ hk), (h k).mp (List.mem_cons_of_mem _ hk)⟩
    · rintro ⟨h1, h2⟩
      rcases List.mem_cons.mp ((h k).mpr h2) with z | z
      · exact absurd z h1
      · exact z
theorem map_tx_inj : ∀ {a b : List (List Nat)}, a.map tx = b.map tx → a = b
  | [], [], _ => rfl
  | [], _ :: _, h => by cases h
  | _ :: _, [], h => by cases h
  | x :: a, y :: b, h => by
    rw [List.map_cons, List.map_cons] at h
    injection h with h1 h2
    rw [tx_inj h1, map_tx_inj h2]
theorem Srt.one {ys xs ys' xs' : List (List Nat)} (h : Srt ys xs) (h' : Srt ys' xs') (e : ∀ k, k ∈ xs ↔ k ∈ xs') : ys = ys' := by
  have p : ys.Perm ys' := perm_of h.nd h'.nd fun k => by rw [h.mem, h'.mem, e]
  exact map_tx_inj (Vsr.sorted_one h.so h'.so (p.map tx))
theorem Srt.of {ys xs xs' : List (List Nat)} (h : Srt ys xs) (e : ∀ k, k ∈ xs ↔ k ∈ xs') : Srt ys xs' := ⟨h.nd, fun k => (h.mem k).trans (e k), h.so⟩
theorem nodup_le {α : Type} [DecidableEq α] : ∀ {ys xs : List α}, ys.Nodup → (∀ k, k ∈ ys → k ∈ xs) → ys.length ≤ xs.length
  | [], _, _, _ => Nat.zero_le _
  | y :: ys, xs, n, h => by
    have hy := h y List.mem_cons_self
    have := nodup_le (ys := ys) (xs := xs.erase y) (List.nodup_cons.mp n).2 fun k hk => (List.mem_erase_of_ne (fun z => (List.nodup_cons.mp n).1 (by rw [← z]; exact hk))).mpr (h k (List.mem_cons_of_mem _ hk))
    rw [List.length_erase_of_mem hy] at this
    have := List.length_pos_of_mem hy
    rw [List.length_cons]
    omega
theorem of_map {α β : Type} (f : α → β) {l : List α} (h : (l.map f).Nodup) : l.Nodup := by
  induction l with
  | nil => exact .nil
  | cons x l ih =>
    rw [List.map_cons, List.nodup_cons] at h
    exact List.nodup_cons.mpr ⟨fun z => h.1 (List.mem_map_of_mem z), ih h.2⟩
theorem Srt.len {ys xs : List (List Nat)} (h : Srt ys xs) : ys.length ≤ xs.length := by
  exact nodup_le h.nd fun k hk => (h.mem k).mp hk
theorem vtx_map (xs : List (List Nat)) : vtx xs = (xs.map tx).map V.str := by
  unfold vtx
  rw [List.map_map]
  rfl
theorem strs_of (ys : List Str) : ∃ zs : List (List Nat), ys = zs.map tx := ⟨ys.map fun z => z.cps.toList, by
  rw [List.map_map]
  exact (List.map_id ys).symm.trans (List.map_congr_left fun z _ => tx_of z)⟩
section
variable {P : Program} {w : World} {K : PySem.W.Frag} {H : Hp} {a : Addr} {xs : List (List Nat)} {Q : VK}
/-- sorted(set(xs)) -/
theorem ss_of (hx : SqA K H a (vtx xs)) (hz : xs.length < 64) (q : ∀ p ys H2, H p = none → Ex H H2 → H2 p = some (.lst (vtx ys)) → Srt ys xs → Q (.ref p) H2) :
    Vst.rSetS K P w [.ref a] H fun v H1 => Vst.rSortedSt P w [v] H1 Q := by
  rw [vtx_map] at hx
  refine ⟨a, xs.map tx, rfl, hx, by rw [List.length_map]; omega, fun sa m ns hm => ?_⟩
  rw [List.length_map] at hm
  refine ⟨sa, _, m, rfl, upd_same, by omega, fun ys p nd hk hs hl np => ?_⟩
  obtain ⟨zs, rfl⟩ := strs_of ys
  have e := (Ex.new (o := Vst.SetSO P w sa (fun k => decide (k ∈ xs.map tx)) m) ns)
  refine q p zs _ (fresh_back e np) (e.trans (Ex.new np)) (by rw [upd_same, vtx_map]) ⟨?_, fun k => ?_, hs⟩
  · exact of_map tx nd
  · rw [← map_tx_mem (a := zs), hk, decide_eq_true_iff, map_tx_mem]
/-- sorted(xs), each once -/
theorem so_of (hx : SqL K H a (vtx xs)) (nd : xs.Nodup) (hz : xs.length < 64) (q : ∀ p ys H2, H p = none → Ex H H2 → H2 p = some (.lst (vtx ys)) → Srt ys xs → Q (.ref p) H2) : rSortedS K [.ref a] H Q := by
  rw [vtx_map] at hx
  refine ⟨a, xs.map tx, rfl, hx, by rw [List.length_map]; omega, fun ys p hp hs np => ?_⟩
  obtain ⟨zs, rfl⟩ := strs_of ys
  have hm : ∀ k, k ∈ zs ↔ k ∈ xs := fun k => by rw [← map_tx_mem (a := zs), hp.mem_iff, map_tx_mem]
  refine q p zs _ np (Ex.new np) (by rw [upd_same, vtx_map]) ⟨?_, hm, hs⟩
  refine of_map tx (hp.nodup_iff.mpr ?_)
  exact List.Pairwise.map tx (fun a b h z => h (tx_inj z)) nd
end
section
variable {K : PySem.W.Frag} {σ : L2.St} {H : Hp}
open Vlk
theorem el_catA {σ : L2.St} {H : Hp} {ta tb : TE} {a : Addr} {xs zs : List V} (h : Ev ta σ H (.ref a)) (hx : H a = some (.lst xs)) (h2 : EvL tb σ H zs) (hz : xs.length + zs.length ≤ 100000) : EvL (tOp rCat ta tb) σ H (xs ++ zs) := fun H1 e Q q =>
  h H1 e _ fun H2 e2 => h2 H2 (e.trans e2) _ fun p H3 np e3 hp => ⟨a, p, xs, zs, rfl, rfl, ((e.trans e2).trans e3) _ _ hx, hp, sz_of hz, fun r nr => q r _ (fresh_back (e2.trans e3) nr) ((e2.trans e3).trans (Ex.new nr)) upd_same⟩
theorem s_cons {A : TE} {R : TA} {Q : List V → Hp → Prop} (h : A σ H fun x H1 => R σ H1 fun xs H2 => Q (x :: xs) H2) : tCons A R σ H Q := h
theorem s_nil {Q : List V → Hp → Prop} (h : Q [] H) : tNil σ H Q := h
theorem s_cb {r : List V → Hp → VK → Prop} {t : TA} {Q : VK} (h : t σ H fun vs H1 => r vs H1 Q) : tCB r t σ H Q := h
theorem s_retR {te : TE} {D : Ends} (h : te σ H D.rt) : tRet te D σ H := h
theorem s_lstR {t : TA} {Q : VK} (h : t σ H fun vs H1 => vs.length ≤ 100000 ∧ ∀ p, H1 p = none → Q (.ref p) (upd H1 p (.lst vs))) (hm : ∀ {R R' : List V → Hp → Prop}, (∀ vs H1, R vs H1 → R' vs H1) → t σ H R → t σ H R') : tLst t σ H Q := hm (fun vs H1 z => ⟨sz_of z.1, z.2⟩) h
theorem given_one (b : Bool) (v : V) : given 1 (fun _ => b) (fun _ => v) = if b = true then [v] else [] := by
  cases b <;> rfl
theorem ex_open {H H' : Hp} {d : Addr} {od : Obj} {kvs : List (Key × V)} (hd : H d = some (.dK kvs)) (e : Ex (Lk H d od kvs) H') : Ex H (upd H' d (.dK kvs)) := fun b o hb => by
  by_cases h : b = d
  · rw [h, upd_same]
    rw [h, hd] at hb
    exact hb
  · rw [upd_ne h]
    exact e _ _ (lk_get hb h)
/-- [e for k in d], d locked meanwhile -/
theorem el_keysV {td te : TE} {j : Nat} {d : Addr} {kvs : List (Key × V)} (wv : Key → V) (hd : H d = some (.dK kvs)) (hz : kvs.length ≤ 40000) (hw : ∀ x, wipe ((wipe σ [j]).set j (some x)) [j] = wipe σ [j])
    (htd : ∀ H1 od, Ex H H1 → Ev td σ (Lk H1 d od kvs) (.ref d))
    (he : ∀ (H1 : Hp) (od : Obj) (kv : Key × V), Ex H H1 → kv ∈ kvs → Ev te ((wipe σ [j]).set j (some (kV kv.1))) (Lk H1 d od kvs) (wv kv.1)) :
    EvL (tLockE (tLc (iKeys td) (gName j) tYes te [j])) σ H (kvs.map fun kv => wv kv.1) := fun H1 e1 Q q => by
  refine ⟨d, .dK kvs, e1 _ _ hd, trivial, fun od => ?_⟩
  have hlk : (Lk H1 d od kvs) d = some (.frz od (.dK kvs)) := upd_same
  unfold tLc iKeys
  refine htd H1 od e1 _ (Ex.refl _) _ fun H2 e2 => ?_
  refine ⟨d, od, rfl, .inl ⟨kvs, e2 _ _ hlk, fun D nD => ?_⟩⟩
  have ndd : D ≠ d := fun z => by rw [z, e2 _ _ hlk] at nD; cases nD
  have hn2 : (Lk H1 d od kvs) D = none := fresh_back e2 nD
  have hn1 : H1 D = none := by
    have := hn2
    rw [show (Lk H1 d od kvs) D = H1 D from upd_ne ndd] at this
    exact this
  refine lc_it walk_keys (fun i H3 => Ex (Lk H1 d od kvs) H3 ∧ H3 D = some (.lst ((kvs.take i).map fun kv => wv kv.1))) ⟨Ex.mut e2 hn2, by rw [List.take_zero]; exact upd_same⟩ (fun i H3 _ h => h.1 _ _ hlk) ?_ ?_
  · rintro i x H3 H4 hi ⟨e3, hD⟩ ⟨rfl, k, v, hk, rfl⟩
    have htk : kvs.take (i + 1) = kvs.take i ++ [(k, v)] := by rw [List.take_succ, hk]; rfl
    refine ⟨hw _, ?_⟩
    refine he H1 od (k, v) e1 (List.mem_of_getElem? hk) H4 e3 _ fun H5 e5 => ?_
    refine ⟨_, e5 _ _ hD, sz_lt (by rw [List.length_map, List.length_take]; omega), Ex.mut (e3.trans e5) hn2, ?_⟩
    rw [upd_same, htk, List.map_append]
    rfl
  · rintro H3 ⟨e3, hD⟩
    rw [List.take_length] at hD
    refine ⟨e3 _ _ hlk, q D _ hn1 (ex_open (e1 _ _ hd) e3) (by rw [upd_ne ndd]; exact hD)⟩
end
end Vtx

set_option Elab.async false
set_option linter.all false
set_option maxRecDepth 100000
set_option maxHeartbeats 4000000
/-! The windows of a text: _windows_in_order, windows. -/
namespace K61
open PySem PySem.Spec PyProof.Rows L2 Vl Evl Vp Vx2 Vlk Vda Vc Ve Ven Vlt Vtx
abbrev sWo : Stmt := top 30
abbrev sWi : Stmt := top 27
abbrev nWo : List Str := ["text", "k", "gone", "place"]
/-- no size of windows -/
def BadN (K : PySem.W.Frag) (H : Hp) (k : V) : Prop := (∃ (t : String) (b1 b2 : Bool), (∀ H', Ex H H' → TyX K H' k (.type t)) ∧ kitB t "int" = some b1 ∧ kitB t "bool" = some b2 ∧ (b1 && !b2) = false) ∨ ∃ i : Int, k = .int i ∧ ¬ (2 ≤ i ∧ i ≤ 8)
/-- a text or a size that is refused -/
def RefT (K : PySem.W.Frag) (BW BN : Addr) (H : Hp) (y k : V) (E : XK) : Prop :=
  (BadW K H y 1 40 ∧ RaisedF BW "word" H y E) ∨ ∃ t, y = .str (tx t) ∧ okW t 1 40 = true ∧ BadN K H k ∧ RaisedF BN "value" H k E
theorem BadN.mono {K : PySem.W.Frag} {H H' : Hp} {k : V} (h : BadN K H k) (e : Ex H H') : BadN K H' k := by
  rcases h with ⟨t, b1, b2, h1, h2, h3, h4⟩ | h
  · exact .inl ⟨t, b1, b2, fun H2 e2 => h1 H2 (e.trans e2), h2, h3, h4⟩
  · exact .inr h
theorem RefT.grow {K : PySem.W.Frag} {BW BN : Addr} {H H' : Hp} {y k : V} {E : XK} (h : RefT K BW BN H y k E) (e : Ex H H') : RefT K BW BN H' y k E := by
  rcases h with ⟨h1, h2⟩ | ⟨t, h1, h2, h3, h4⟩
  · exact .inl ⟨h1.mono e, RaisedF.grow h2 e⟩
  · exact .inr ⟨t, h1, h2, h3.mono e, RaisedF.grow h4 e⟩
def spWo (K : PySem.W.Frag) (BW BN : Addr) : Sp := fun vs H Q E => ∃ y k : V, vs = [y, k] ∧
  ((∃ (t : List Nat) (s : Nat), y = .str (tx t) ∧ okW t 1 40 = true ∧ k = .int (s : Nat) ∧ 2 ≤ s ∧ s ≤ 8 ∧ ∀ p H', H p = none → Ex H H' → H' p = some (.lst (vtx (wns t s))) → Q (.ref p) H') ∨ RefT K BW BN H y k E)
def spWi (K : PySem.W.Frag) (BW BN : Addr) : Sp := fun vs H Q E => ∃ y k : V, vs = [y, k] ∧
  ((∃ (t : List Nat) (s : Nat), y = .str (tx t) ∧ okW t 1 40 = true ∧ k = .int (s : Nat) ∧ 2 ≤ s ∧ s ≤ 8 ∧ ∀ p ys H', H p = none → Ex H H' → H' p = some (.lst (vtx ys)) → Srt ys (wns t s) → Q (.ref p) H') ∨ RefT K BW BN H y k E)
theorem ok_len {l : List Nat} {lo hi : Nat} (h : okW l lo hi = true) : lo ≤ l.length ∧ l.length ≤ hi := by
  unfold okW at h
  rw [Bool.and_eq_true, Bool.and_eq_true, decide_eq_true_iff, decide_eq_true_iff] at h
  omega
theorem ok_mem {l : List Nat} {lo hi c : Nat} (h : okW l lo hi = true) (hc : c ∈ l) : c ∈ letters := by
  unfold okW at h
  rw [Bool.and_eq_true] at h
  exact of_decide_eq_true (List.all_eq_true.mp h.2 c hc)
section
variable {P : Program} {w : World} {K : PySem.W.Frag} {mg : Str → Option Value} {base : Heap} {BW BN : Addr}
theorem sv_ii {i : Int} {H : Hp} : SpV (R61.spIsInt K) [.int i] H (.bl true) := fun H1 e Q q E => ⟨.int i, "int", true, false, rfl, .base (.int i), by decide +kernel, by decide +kernel, q H1 (Ex.refl _)⟩
theorem scWo : FnScope nWo ["text", "k"] (defScope sWo) := ⟨rfl, rfl, rfl, by decide +kernel, rfl, by decide +kernel, by decide +kernel⟩
theorem ok_wo {f : Addr} {fd : FuncData} (F : FnP K "_windows_in_order" sWo f fd) (TCw : Fu P w K mg base (L2.CX P w) 3 "_check_word" (spCkW K BW)) (TII : Fu P w K mg base L2.CX0 1 "is_integer" (R61.spIsInt K)) (EN : Err1 P w K mg base "BadNumber" "value" BN) (mLen : mg "len" = none) (mRange : mg "range" = none)
    (gS : ∃ t, mg "SHORTEST_WINDOW" = some (.int 2 t)) (gO : ∃ t, mg "LONGEST_WINDOW" = some (.int 8 t)) (gX : ∃ t, mg "LONGEST_TEXT" = some (.int 40 t)) :
    FnOk P w K mg base (L2.CX P w) 4 f fd ["text", "k"] (spWo K BW BN) := by
  obtain ⟨tS, gS⟩ := gS
  obtain ⟨tO, gO⟩ := gO
  obtain ⟨tX, gX⟩ := gX
  obtain ⟨fE, fdE, iC, tI, bE, GE⟩ := EN.ini
  refine F.ok (CX := L2.CX P w) scWo (fun vs H Q E h => ?_) (fun cdv A outer s H vs Q E hr h => ?_)
  · obtain ⟨y, k, rfl, _⟩ := h
    rfl
  · have hr2 : Room 2 _ := hr.mono (by omega)
    refine ⟨_, (pss_cons (ps_expr (pe_fuX (E := WE fun cls d _ H => E cls d H) TCw hr (by rfl) (fun st => passAt (takes_of rfl rfl rfl rfl) st) (pa_cons (pv 0) (pa_cons pe_int (pa_cons (pe_glob (v := V.int 40) (by rfl) gX ⟨tX, rfl⟩) pa_nil)))))
      (pss_cons (ps_if (PW.pt (pw_or (pt_not (pt_val (pe_fu TII hr (by rfl) (pa_cons (pv 1) pa_nil)))) (pw_or1 (pt_not (pt_chain op_le op_le (pe_glob (v := V.int 2) (by rfl) gS ⟨tS, rfl⟩) (pv 1) (pe_glob (v := V.int 8) (by rfl) gO ⟨tO, rfl⟩)))))) (pss_one (ps_raise rfl (takes_of rfl rfl rfl rfl) (pmk_oex EN.T iC tI GE hr2 bE .nil pass0 (by rfl) EN.g (pa_cons (pv 1) pa_nil)))) pss_nil)
      (pss_cons (ps_set (i := 2) scWo.nd rfl (by first | exact Or.inl rfl | exact Or.inr rfl) (pe_op Vtx.op_repS (pv 0) (pe_op op_add (pe_op op_fdiv (pv 1) (pe_callB call_len (by rfl) mLen boot_len (pa_cons (pv 0) pa_nil))) pe_int)))
      (pss_one (ps_ret (pe_lc (own := [("place", 3)]) (g := (gName 3)) (tt := tYes) (te := (tSl rSlS (tVar 2) (tPart (tVar 3)) (tPart (tOp (rI0 fun i j => .int (i + j)) (tVar 3) (tVar 1))))) rfl scWo.nd (pi_range1 (by rfl) mRange (pa_cons (pe_callB call_len (by rfl) mLen boot_len (pa_cons (pv 0) pa_nil)) pa_nil)) (blkOk_by (own := [("place", 3)]) (N := nWo) (sc := defScope sWo) (by decide +kernel)) (fun _ _ _ _ _ => (pg_name (i := 3) scWo.nd rfl (by first | exact Or.inl rfl | exact Or.inr rfl))) (fun _ _ _ _ _ => pts_nil) (fun _ _ _ _ _ => (pe_slice sl_str (pv 2) (po_some (pv 3)) (po_some (pe_op op_add (pv 3) (pv 1))))))))))), ?_⟩
    obtain ⟨y, k, rfl, h⟩ := h
    refine s_seq ?_
    refine s_call (ea_cons (ev_var rfl) (ea_cons ev_c (ea_cons ev_c ea_nil))) fun H1 e1 => ⟨y, 1, 40, rfl, by omega, ?_⟩
    rcases h with ⟨t, s, rfl, ok, rfl, hs1, hs2, q⟩ | ⟨hb, q⟩ | ⟨t, rfl, ok, hb, q⟩
    · obtain ⟨n1, n2⟩ := ok_len ok
      refine .inl ⟨t, rfl, ok, fun H2 e2 => ?_⟩
      dsimp only
      refine s_seq ?_
      refine s_when (b := false) (et_is (et_or (et_not (et_B (ev_fu (ea_cons (ev_var rfl) ea_nil) sv_ii))) (fun _ => et_not (et_test (ev_chain ev_c (ev_var rfl) rv_I0 (fun _ => ev_c) rv_I0)))) (by
        rw [decide_eq_true (show (2 : Int) ≤ (s : Nat) by omega), decide_eq_true (show ((s : Nat) : Int) ≤ 8 by omega)]
        rfl)) (fun z => by cases z) (fun _ H3 e3 => ?_)
      dsimp only
      refine s_seq ?_
      have hm : (s / t.length + 2) * t.length ≤ 100 ∧ s + t.length ≤ (s / t.length + 2) * t.length := by
        have h1 := Nat.div_mul_le_self s t.length
        have h2 := Nat.div_add_mod s t.length
        have h3 := Nat.mod_lt s (show 0 < t.length by omega)
        rw [Nat.add_mul]
        rw [Nat.mul_comm] at h2
        omega
      have hq : s / t.length ≤ 8 := Nat.le_trans (Nat.div_le_self _ _) hs2
      refine s_asg (v := .str (tx (Vq.rp (s / t.length + 2) t))) (ev_op (ev_var rfl) (ev_is (ev_op (ev_op (ev_var (i := 1) rfl) (ev_lenS (l := t) (ev_var rfl) (by omega)) (rv_I ⟨by omega, by omega⟩)) ev_c rv_I0) (by rfl)) (rv_repS (by omega) (by omega))) fun H4 e4 => ?_
      dsimp only
      have key := el_lcR1 (σ := [some (.str (tx t)), some (.int (s : Nat)), some (.str (tx (Vq.rp (s / t.length + 2) t))), none]) (H := H4) (j := 3) (vs := [3]) (n := (t.length : Int)) (t := tYes) (te := tSl rSlS (tVar 2) (tPart (tVar 3)) (tPart (tOp (rI0 fun i j => .int (i + j)) (tVar 3) (tVar 1)))) (ta := tCons (tCB (fun xs H Q => ∃ x n, xs = [x] ∧ LenV K x H n ∧ Q (.int n) H) (tCons (tVar 0) tNil)) tNil)
        (fun _ => true) (fun i => V.str (tx (wn t s i))) (ea_cons (ev_lenS (ev_var rfl) (by omega)) ea_nil) (by omega) (fun _ => rfl) (fun i H2 e2 hi => et_yes) (fun i H5 e5 hi _ => by
          refine ev_is (ev_slS (l := Vq.rp (s / t.length + 2) t) (lo := some (i : Int)) (hi := some ((i + s : Nat) : Int)) (ev_var rfl) (eo_some (ev_var rfl)) (eo_some (ev_is (ev_op (ev_var rfl) (ev_var rfl) rv_I0) (by rfl))) (by rw [Vq.rp_len]; omega)) ?_
          rw [cut_pq, Nat.add_sub_cancel_left, rp_win (by omega)])
      rw [given_all, Int.toNat_natCast] at key
      have hv : (List.range t.length).map (fun i => V.str (tx (wn t s i))) = vtx (wns t s) := by
        unfold vtx wns
        rw [List.map_map]
        rfl
      rw [hv] at key
      exact s_retL key fun p H5 np e5 hp => q p H5 (fresh_back (((e1.trans e2).trans e3).trans e4) np) ((((e1.trans e2).trans e3).trans e4).trans e5) hp
    · exact .inr ⟨hb.mono e1, RaisedF.grow q e1⟩
    · refine .inl ⟨t, rfl, ok, fun H2 e2 => ?_⟩
      dsimp only
      refine s_seq ?_
      refine s_when (b := true) ?_ (fun _ H3 e3 => ?_) (fun z => by cases z)
      · rcases hb.mono (e1.trans e2) with ⟨ty, b1, b2, h1, h2, h3, h4⟩ | ⟨i, rfl, hi⟩
        · refine et_is (et_or (b := true) (et_not (et_B (ev_fu (z := .bl (b1 && !b2)) (ea_cons (ev_var rfl) ea_nil) fun H1 e Q q E => ⟨k, ty, b1, b2, rfl, h1 H1 e, h2, h3, q H1 (Ex.refl _)⟩))) (fun z => by rw [h4] at z; cases z)) (by rw [h4]; rfl)
        · refine et_is (et_or (et_not (et_B (ev_fu (ea_cons (ev_var rfl) ea_nil) sv_ii))) (fun _ => et_not (et_test (ev_chain ev_c (ev_var rfl) rv_I0 (fun _ => ev_c) rv_I0)))) ?_
          by_cases h2 : (2 : Int) ≤ i
          · rw [decide_eq_true h2, decide_eq_false (show ¬ i ≤ 8 from fun z => hi ⟨h2, z⟩)]
            rfl
          · rw [decide_eq_false h2]
            rfl
      · exact raised_f (W := fun cls d _ H' => E cls d H') 1 rfl rfl (RaisedF.grow q ((e1.trans e2).trans e3))
theorem scWi : FnScope ["text", "k"] ["text", "k"] (defScope sWi) := ⟨rfl, rfl, rfl, by decide +kernel, rfl, by decide +kernel, by decide +kernel⟩
theorem ok_wi {f : Addr} {fd : FuncData} (F : FnP K "windows" sWi f fd) (TWo : Fu P w K mg base (L2.CX P w) 4 "_windows_in_order" (spWo K BW BN)) (mSorted : mg "sorted" = none) (mSet : mg "set" = none) :
    FnOk P w K mg base (L2.CX P w) 5 f fd ["text", "k"] (spWi K BW BN) := by
  refine F.ok (CX := L2.CX P w) scWi (fun vs H Q E h => ?_) (fun cdv A outer s H vs Q E hr h => ?_)
  · obtain ⟨y, k, rfl, _⟩ := h
    rfl
  · refine ⟨_, (pss_one (ps_ret (pe_callB (Vst.cr_sortedSt rfl) (by rfl) mSorted boot_sorted (pa_cons (pe_callTy (Vst.cr_setS rfl) (by rfl) mSet boot_set (pa_cons (pe_fuX (E := WE fun cls d _ H => E cls d H) TWo hr (by rfl) (fun st => passAt (takes_of rfl rfl rfl rfl) st) (pa_cons (pv 0) (pa_cons (pv 1) pa_nil))) pa_nil)) pa_nil)))), ?_⟩
    obtain ⟨y, k, rfl, h⟩ := h
    have ha : EvA (tCons (tVar 0) (tCons (tVar 1) tNil)) [some y, some k] H [y, k] := ea_cons (ev_var rfl) (ea_cons (ev_var rfl) ea_nil)
    show tCons (tVar 0) (tCons (tVar 1) tNil) [some y, some k] H fun vs H1 => spWo K BW BN vs H1 (fun v H1 => Vst.rSetS K P w [v] H1 fun v H1 => Vst.rSortedSt P w [v] H1 fun v H' => Q v H') fun cls d H' => E cls d H'
    refine ha H (Ex.refl H) _ fun H1 e1 => ⟨y, k, rfl, ?_⟩
    rcases h with ⟨t, s, rfl, ok, rfl, hs1, hs2, q⟩ | h
    · obtain ⟨n1, n2⟩ := ok_len ok
      refine .inl ⟨t, s, rfl, ok, rfl, hs1, hs2, fun p H2 np e2 hp => ?_⟩
      exact ss_of (.inl (sq_of hp)) (by rw [wns_len]; omega) fun p2 ys H3 n3 e3 h3 hS => q p2 ys H3 (fresh_back (e1.trans e2) n3) ((e1.trans e2).trans e3) h3 hS
    · exact .inr (h.grow e1)
end
end K61

set_option Elab.async false
set_option linter.all false
set_option maxRecDepth 100000
set_option maxHeartbeats 4000000
/-! sorted(set(texts)): few different ones out of many. -/
namespace Vst
open PySem PySem.Spec PyProof.Rows L2 Vl Evl Vp Ven Vtx
section
variable {X : Cx}
def rSortedSd (P : Program) (w : World) : List V → Hp → VK → Prop := fun vs H Q => ∃ (a : Addr) (S : Str → Bool) (n : Nat), vs = [V.ref a] ∧ H a = some (SetSO P w a S n) ∧ (∃ D : List Str, D.Nodup ∧ (∀ k, k ∈ D ↔ S k = true) ∧ D.length < 64) ∧
  ∀ (ys : List Str) (p : Addr), ys.Nodup → (∀ k, k ∈ ys ↔ S k = true) → sortedS ys = true → H p = none → Q (.ref p) (upd H p (.lst (ys.map V.str)))
theorem cr_sortedSd (hc : X.calm = true) : CallR X (.builtin "sorted") (rSortedSd X.prog X.w) := by
  intro pins s σ H vs us Q I r h
  obtain ⟨a, S, n, rfl, ha, ⟨D, d1, d2, d3⟩, q⟩ := h
  have R : SetS X.prog X.w s.heap a S n := (I.hok a _ ha).1
  have hn : n < 64 := by
    have : D.length = n := by
      obtain ⟨o, es, ep, t, ho, T, hn⟩ := id R
      have p : D.Perm (es.toList.map (kof strV)) := (List.perm_ext_iff_of_nodup d1 T.nd).mpr fun k => (d2 k).trans (T.mem k)
      rw [p.length_eq, List.length_map, Array.length_toList]
      exact hn
    omega
  exact cr_sortedSt hc pins s σ H [V.ref a] us Q I r ⟨a, S, n, rfl, ha, hn, fun ys p h1 h2 h3 _ h5 => q ys p h1 h2 h3 h5⟩
end
end Vst
namespace Vtx
open PySem PySem.Spec PyProof.Rows L2 Vl Evl Vp Ven
/-- each once -/
def dd : List (List Nat) → List (List Nat)
  | [] => []
  | x :: r => if x ∈ dd r then dd r else x :: dd r
theorem dd_mem {x : List Nat} : ∀ {xs : List (List Nat)}, x ∈ dd xs ↔ x ∈ xs
  | [] => Iff.rfl
  | y :: r => by
    unfold dd
    by_cases h : y ∈ dd r
    · rw [if_pos h, dd_mem, List.mem_cons]
      exact ⟨.inr, fun z => z.elim (fun z => by rw [z]; exact dd_mem.mp h) id⟩
    · rw [if_neg h, List.mem_cons, List.mem_cons, dd_mem]
theorem dd_nd : ∀ xs : List (List Nat), (dd xs).Nodup
  | [] => .nil
  | y :: r => by
    unfold dd
    by_cases h : y ∈ dd r
    · rw [if_pos h]
      exact dd_nd r
    · rw [if_neg h]
      exact List.nodup_cons.mpr ⟨h, dd_nd r⟩
theorem Srt.count {ys xs : List (List Nat)} (h : Srt ys xs) : ys.length = (dd xs).length := (perm_of h.nd (dd_nd xs) fun k => (h.mem k).trans dd_mem.symm).length_eq
theorem dd_same {xs ys : List (List Nat)} (h : ∀ k, k ∈ xs ↔ k ∈ ys) : (dd xs).length = (dd ys).length := (perm_of (dd_nd xs) (dd_nd ys) fun k => by rw [dd_mem, dd_mem, h]).length_eq
/-- few different ones -/
def Few (xs : List (List Nat)) : Prop := (dd xs).length ≤ 60
theorem few_of {xs D : List (List Nat)} (h : ∀ k, k ∈ xs → k ∈ D) (hl : D.length ≤ 60) : Few xs := Nat.le_trans (nodup_le (dd_nd xs) fun k hk => h k (dd_mem.mp hk)) hl
section
variable {P : Program} {w : World} {K : PySem.W.Frag} {H : Hp} {a : Addr} {xs : List (List Nat)} {Q : VK}
theorem ss_ofD (hx : SqA K H a (vtx xs)) (hz : xs.length ≤ 1000) (hd : Few xs) (q : ∀ p ys H2, H p = none → Ex H H2 → H2 p = some (.lst (vtx ys)) → Srt ys xs → Q (.ref p) H2) :
    Vst.rSetS K P w [.ref a] H fun v H1 => Vst.rSortedSd P w [v] H1 Q := by
  rw [vtx_map] at hx
  refine ⟨a, xs.map tx, rfl, hx, by rw [List.length_map]; omega, fun sa m ns hm => ?_⟩
  have hD : ((dd xs).map tx).length < 64 := by
    rw [List.length_map]
    unfold Few at hd
    omega
  refine ⟨sa, _, m, rfl, upd_same, ⟨(dd xs).map tx, List.Pairwise.map tx (fun a b h z => h (tx_inj z)) (dd_nd xs), fun k => ?_, hD⟩, fun ys p nd hk hs np => ?_⟩
  · rw [decide_eq_true_iff, List.mem_map, List.mem_map]
    exact ⟨fun ⟨x, hx, e⟩ => ⟨x, dd_mem.mp hx, e⟩, fun ⟨x, hx, e⟩ => ⟨x, dd_mem.mpr hx, e⟩⟩
  obtain ⟨zs, rfl⟩ := strs_of ys
  have e := (Ex.new (o := Vst.SetSO P w sa (fun k => decide (k ∈ xs.map tx)) m) ns)
  refine q p zs _ (fresh_back e np) (e.trans (Ex.new np)) (by rw [upd_same, vtx_map]) ⟨?_, fun k => ?_, hs⟩
  · exact of_map tx nd
  · rw [← map_tx_mem (a := zs), hk, decide_eq_true_iff, map_tx_mem]
end
end Vtx

set_option Elab.async false
set_option linter.all false
set_option maxRecDepth 100000
set_option maxHeartbeats 4000000
/-! window_net. -/
namespace K61
open PySem PySem.Spec PyProof.Rows L2 Vl Evl Vp Vx2 Vlk Vda Vc Ve Ven Vlt Vtx
abbrev sWn : Stmt := top 28
abbrev nWn : List Str := ["words", "net", "post", "word"]
theorem nam_ok {l : List Nat} {lo hi : Nat} (h : okW l lo hi = true) (h1 : 1 ≤ lo) (h2 : hi ≤ 8) : nam l := by
  obtain ⟨n1, n2⟩ := ok_len h
  cases l with
  | nil => exact absurd n1 (by show ¬ lo ≤ 0; omega)
  | cons c r =>
    rw [List.length_cons] at n2
    exact ⟨c, r, rfl, ok_mem h List.mem_cons_self, fun x hx => letters_signs (ok_mem h (List.mem_cons_of_mem _ hx)), by omega⟩
theorem ok_wn {t : List Nat} {s k : Nat} (h : okW t 1 40 = true) (h1 : 2 ≤ s) (h2 : s ≤ 8) : okW (wn t s k) 2 8 = true := by
  obtain ⟨n1, n2⟩ := ok_len h
  unfold okW
  rw [wn_len, decide_eq_true h1, decide_eq_true h2]
  exact List.all_eq_true.mpr fun c hc => decide_eq_true (ok_mem h (wn_mem n1 hc))
/-- each lane leads from its first letters to its last ones -/
def Wn (es : List Row) : Prop := ∀ r ∈ es, r.2.2.1 = r.2.1.take (r.2.1.length - 1) ∧ r.2.2.2 = r.2.1.drop 1
theorem ne_kind {H : Hp} {x y : Addr} {u v : HO} (hx : H x = some u) (hy : H y = some v) (h : u ≠ v) : x ≠ y := fun z => by
  rw [z, hy] at hx
  exact h (Option.some.inj hx).symm
theorem NetAt.addP {C : Addr} {H : Hp} {o dx dp de : Addr} {ps : List (List Nat)} (n : NetAt C H o dx dp de ps []) (hdd : dp ≠ de) (l : List Nat) : NetAt C (upd H dp (.dK (dPosts (ps ++ [l])))) o dx dp de (ps ++ [l]) [] :=
  ⟨(upd_ne (ne_kind n.at_ n.posts (by intro z; cases z))).trans n.at_, upd_same, (upd_ne hdd.symm).trans n.ends, fun _ h => nomatch h⟩
theorem NetAt.addE {C : Addr} {H : Hp} {o dx dp de t : Addr} {ps : List (List Nat)} {es : List Row} (n : NetAt C H o dx dp de ps es) (hdd : dp ≠ de) (l a b : List Nat) (ht : H t = some (.tup [.str (tx a), .str (tx b)])) : NetAt C (upd H de (.dK (dEnds (es ++ [(t, (l, a, b))])))) o dx dp de ps (es ++ [(t, (l, a, b))]) :=
  ⟨(upd_ne (ne_kind n.at_ n.ends (by intro z; cases z))).trans n.at_, (upd_ne hdd).trans n.posts, upd_same, fun e he => by
    have keep : ∀ {x : Addr} {u : List V}, H x = some (.tup u) → upd H de (.dK (dEnds (es ++ [(t, (l, a, b))]))) x = some (.tup u) := fun hx => (upd_ne (ne_kind hx n.ends (by intro z; cases z))).trans hx
    rcases List.mem_append.mp he with he | he
    · exact keep (n.rows e he)
    · rw [List.mem_singleton.mp he]
      exact keep ht⟩
def fst1 (w : List Nat) : List Nat := w.take (w.length - 1)
def ends (ws : List (List Nat)) : List (List Nat) := ws.map fst1 ++ ws.map fun w => w.drop 1
def spWn (K : PySem.W.Frag) (C BW EW : Addr) : Sp := fun vs H Q E => ∃ (t : Addr) (xs : List V), vs = [.ref t] ∧ SqA K H t xs ∧ xs.length ≤ 45 ∧
  ((∃ ws s, xs = vtx ws ∧ ws ≠ [] ∧ Wins ws s ∧ Few (ends ws) ∧ ∀ o dx dp de ps es H', Ex H H' → NetAt C H' o dx dp de ps es → Srt ps (ends ws) → Srt (laneNames es) ws → Wn es → Q (.ref o) H') ∨ RefW K BW EW H xs E)
/-- sorted texts, drawn -/
def EvS (te : TE) (σ : L2.St) (H : Hp) (xs : List (List Nat)) : Prop := ∀ Q : VK, (∀ p ys H2, H p = none → Ex H H2 → H2 p = some (.lst (vtx ys)) → Srt ys xs → Q (.ref p) H2) → te σ H Q
section
variable {P : Program} {w : World} {K : PySem.W.Frag} {σ : L2.St} {H : Hp} {te tl : TE} {xs : List (List Nat)} {D : Ends} {tu : TS} {j : Nat}
theorem s_forS (h : EvS tl σ H xs) (k : ∀ p ys H1, H p = none → Ex H H1 → H1 p = some (.lst (vtx ys)) → Srt ys xs → ∃ Pv : Nat → L2.St → Hp → Prop, Pv 0 σ H1 ∧ (∀ i σ' H', i ≤ ys.length → Pv i σ' H' → SqL K H' p (vtx ys)) ∧
    (∀ i l σ' H', ys[i]? = some l → Pv i σ' H' → tu { D with nx := Pv (i + 1), ct := Pv (i + 1), bk := D.nx } (σ'.set j (some (.str (tx l)))) H') ∧ ∀ σ' H', Pv ys.length σ' H' → D.nx σ' H') : tFor (iList K tl) (gName j) tu D σ H :=
  h _ fun p ys H1 np e hp hS => by
    obtain ⟨Pv, p0, pl, ps, pd⟩ := k p ys H1 np e hp hS
    refine ⟨p, rfl, ⟨vtx ys, sq_of hp⟩, for_list Pv p0 (fun i σ' H' hi q => pl i σ' H' (by rw [vtx_len] at hi; exact hi) q) (fun i x σ' H' hx q => ?_) (fun σ' H' q => pd σ' H' (by rw [vtx_len] at q; exact q))⟩
    unfold vtx at hx
    rw [List.getElem?_map] at hx
    obtain ⟨l, hl, rfl⟩ := Option.map_eq_some_iff.mp hx
    exact ps i l σ' H' hl q
theorem evS_new (h : EvL te σ H (vtx xs)) (hz : xs.length ≤ 1000) (hf : Few xs) : EvS (tCB (Vst.rSortedSd P w) (tCons (tCB (Vst.rSetS K P w) (tCons te tNil)) tNil)) σ H xs := fun Q q => h H (Ex.refl H) _ fun p H1 np e hp =>
  ss_ofD (.inl (sq_of hp)) hz hf fun p2 ys H2 n2 e2 h2 hS => q p2 ys H2 (fresh_back e n2) (e.trans e2) h2 hS
theorem evS_at {a : Addr} (h : Ev te σ H (.ref a)) (hx : SqA K H a (vtx xs)) (hz : xs.length ≤ 1000) (hf : Few xs) : EvS (tCB (Vst.rSortedSd P w) (tCons (tCB (Vst.rSetS K P w) (tCons te tNil)) tNil)) σ H xs := fun Q q => h H (Ex.refl H) _ fun H1 e =>
  ss_ofD (ex_a e hx) hz hf fun p2 ys H2 n2 e2 h2 hS => q p2 ys H2 (fresh_back e n2) (e.trans e2) h2 hS
theorem ev_fst {l : List Nat} (h : Ev te σ H (.str (tx l))) (h1 : 1 ≤ l.length) (h2 : l.length ≤ 100000) : Ev (tSl rSlS te tNoPart (tPart (tUn (rU fun i => .int (-i)) (tC (.int 1))))) σ H (.str (tx (fst1 l))) :=
  ev_is (ev_slS (lo := none) (hi := some (-1)) h eo_none (eo_some (ev_un ev_c ru_neg)) h2) (by rw [cut_last l h1]; rfl)
theorem ev_lst1 {l : List Nat} (h : Ev te σ H (.str (tx l))) (h2 : l.length ≤ 100000) : Ev (tSl rSlS te (tPart (tC (.int 1))) tNoPart) σ H (.str (tx (l.drop 1))) :=
  ev_is (ev_slS (lo := some 1) (hi := none) h (eo_some ev_c) eo_none h2) (by rw [cut_one])
end
theorem ends_len (ws : List (List Nat)) : (ends ws).length = 2 * ws.length := by
  unfold ends
  rw [List.length_append, List.length_map, List.length_map]
  omega
theorem ends_nam {ws : List (List Nat)} {s : Nat} (h : Wins ws s) : ∀ l ∈ ends ws, nam l := fun l hl => by
  unfold ends at hl
  have go : ∀ w ∈ ws, ∀ l : List Nat, (∀ c ∈ l, c ∈ w) → 1 ≤ l.length → l.length ≤ 8 → nam l := fun w hw l hc h1 h2 => by
    cases l with
    | nil => exact absurd h1 (by show ¬ 1 ≤ 0; omega)
    | cons c r =>
      have ok := (h w hw).1
      rw [List.length_cons] at h2
      exact ⟨c, r, rfl, ok_mem ok (hc c List.mem_cons_self), fun x hx => letters_signs (ok_mem ok (hc x (List.mem_cons_of_mem _ hx))), by omega⟩
  rcases List.mem_append.mp hl with hl | hl
  · obtain ⟨w, hw, rfl⟩ := List.mem_map.mp hl
    obtain ⟨n1, n2⟩ := ok_len (h w hw).1
    refine go w hw _ (fun c hc => List.mem_of_mem_take hc) ?_ ?_ <;> (unfold fst1; rw [List.length_take]; omega)
  · obtain ⟨w, hw, rfl⟩ := List.mem_map.mp hl
    obtain ⟨n1, n2⟩ := ok_len (h w hw).1
    refine go w hw _ (fun c hc => List.mem_of_mem_drop hc) ?_ ?_ <;> (rw [List.length_drop]; omega)
section
variable {P : Program} {w : World} {K : PySem.W.Frag} {mg : Str → Option Value} {base : Heap} {C BN NT NP NL BW EW : Addr}
theorem scWn : FnScope nWn ["words"] (defScope sWn) := ⟨rfl, rfl, rfl, by decide +kernel, rfl, by decide +kernel, by decide +kernel⟩
theorem ok_wnet {f : Addr} {fd : FuncData} (F : FnP K "window_net" sWn f fd) (N : ND P w K mg base C BN NT NP NL) (TCs : Fu P w K mg base (L2.CX P w) 4 "_check_words" (spCkS K BW EW)) (mSorted : mg "sorted" = none) (mSet : mg "set" = none) :
    FnOk P w K mg base (L2.CX P w) 6 f fd ["words"] (spWn K C BW EW) := by
  refine F.ok (CX := L2.CX P w) scWn (fun vs H Q E h => ?_) (fun cdv A outer s H vs Q E hr h => ?_)
  · obtain ⟨t, xs, rfl, _⟩ := h
    rfl
  · refine ⟨_, (pss_cons (ps_expr (pe_fuX (E := WE fun cls d _ H => E cls d H) TCs hr (by rfl) (fun st => passAt (takes_of rfl rfl rfl rfl) st) (pa_cons (pv 0) pa_nil)))
      (pss_cons (ps_set (i := 1) scWn.nd rfl (by first | exact Or.inl rfl | exact Or.inr rfl) (pe_nw0 N.new hr (by rfl)))
      (pss_cons (ps_for (passes_of rfl) rfl (pi_list (pe_callB (Vst.cr_sortedSd rfl) (by rfl) mSorted boot_sorted (pa_cons (pe_callTy (Vst.cr_setS rfl) (by rfl) mSet boot_set (pa_cons (pe_op op_cat (pe_lc (own := [("word", 3)]) (g := (gName 3)) (tt := tYes) (te := (tSl rSlS (tVar 3) tNoPart (tPart (tUn (rU fun i => .int (-i)) (tC (.int 1)))))) rfl scWn.nd (pi_seqA (pv 0)) (blkOk_by (own := [("word", 3)]) (N := nWn) (sc := defScope sWn) (by decide +kernel)) (fun _ _ _ _ _ => (pg_name (i := 3) scWn.nd rfl (by first | exact Or.inl rfl | exact Or.inr rfl))) (fun _ _ _ _ _ => pts_nil) (fun _ _ _ _ _ => (pe_slice sl_str (pv 3) po_none (po_some (pe_un un_neg pe_int))))) (pe_lc (own := [("word", 3)]) (g := (gName 3)) (tt := tYes) (te := (tSl rSlS (tVar 3) (tPart (tC (.int 1))) tNoPart)) rfl scWn.nd (pi_seqA (pv 0)) (blkOk_by (own := [("word", 3)]) (N := nWn) (sc := defScope sWn) (by decide +kernel)) (fun _ _ _ _ _ => (pg_name (i := 3) scWn.nd rfl (by first | exact Or.inl rfl | exact Or.inr rfl))) (fun _ _ _ _ _ => pts_nil) (fun _ _ _ _ _ => (pe_slice sl_str (pv 3) (po_some pe_int) po_none)))) pa_nil)) pa_nil))) (pg_name (i := 2) scWn.nd rfl (by first | exact Or.inl rfl | exact Or.inr rfl)) (pss_one (ps_expr (pe_moN (pv 1) N.cls N.post hr (pa_cons (pv 2) pa_nil)))))
      (pss_cons (ps_for (passes_of rfl) rfl (pi_list (pe_callB (Vst.cr_sortedSd rfl) (by rfl) mSorted boot_sorted (pa_cons (pe_callTy (Vst.cr_setS rfl) (by rfl) mSet boot_set (pa_cons (pv 0) pa_nil)) pa_nil))) (pg_name (i := 3) scWn.nd rfl (by first | exact Or.inl rfl | exact Or.inr rfl)) (pss_one (ps_expr (pe_moN (pv 1) N.cls N.lane hr (pa_cons (pv 3) (pa_cons (pe_slice sl_str (pv 3) po_none (po_some (pe_un un_neg pe_int))) (pa_cons (pe_slice sl_str (pv 3) (po_some pe_int) po_none) pa_nil)))))))
      (pss_one (ps_ret (pv 1))))))), ?_⟩
    obtain ⟨t, xs, rfl, ht, hl, h⟩ := h
    refine s_seq ?_
    refine s_call (ea_cons (ev_var rfl) ea_nil) fun H1 e1 => ⟨t, xs, rfl, ex_a e1 ht, by omega, ?_⟩
    rcases h with ⟨ws, s, rfl, hn, hw, hfew, k⟩ | h
    · refine .inl ⟨ws, s, rfl, hn, hw, fun H2 e2 => ?_⟩
      rw [vtx_len] at hl
      have e12 := e1.trans e2
      dsimp only
      refine s_seq ?_
      intro o dx no ndx nex
      refine ⟨o, dx, H2, rfl, rfl, no, ndx, nex, fun dp de H3 e3 ndp nde hdd N3 => ⟨rfl, ?_⟩⟩
      have e13 := e12.trans e3
      have hdp : H dp = none := fresh_back e12 ndp
      have hde : H de = none := fresh_back e12 nde
      refine s_seq ?_
      have wlen : ∀ l ∈ ws, 2 ≤ l.length ∧ l.length ≤ 8 := fun l h => ok_len (hw l h).1
      refine s_forS (K := K) (xs := ends ws) (evS_new (by
        have hv : vtx (ends ws) = ws.map (fun l => V.str (tx (fst1 l))) ++ ws.map (fun l => V.str (tx (l.drop 1))) := by
          unfold vtx ends
          rw [List.map_append, List.map_map, List.map_map]
          rfl
        rw [hv]
        refine el_cat2 (el_lcSM (K := K) (σ := [some (.ref t), some (.ref o), none, none]) (H := H3) (i := 0) (j := 3) (vs := [3]) (te := tSl rSlS (tVar 3) tNoPart (tPart (tUn (rU fun i => .int (-i)) (tC (.int 1))))) (ys := ws) (g := fun l => V.str (tx l)) (fun l => V.str (tx (fst1 l))) rfl (ex_a e13 ht) (by omega) (fun _ => rfl) (fun l H4 e4 hm => ?_)) (el_lcSM (K := K) (σ := [some (.ref t), some (.ref o), none, none]) (H := H3) (i := 0) (j := 3) (vs := [3]) (te := tSl rSlS (tVar 3) (tPart (tC (.int 1))) tNoPart) (ys := ws) (g := fun l => V.str (tx l)) (fun l => V.str (tx (l.drop 1))) rfl (ex_a e13 ht) (by omega) (fun _ => rfl) (fun l H4 e4 hm => ?_)) (by rw [List.length_map, List.length_map]; omega)
        · have := wlen l hm
          exact ev_fst (ev_var rfl) (by omega) (by omega)
        · have := wlen l hm
          exact ev_lst1 (ev_var rfl) (by omega)) (by rw [ends_len]; omega) hfew) ?_
      intro p ys H4 np e4 hp hS
      have hpd : p ≠ dp := fun z => by rw [z, N3.posts] at np; cases np
      have hpe : p ≠ de := fun z => by rw [z, N3.ends] at np; cases np
      refine ⟨fun i st H' => ∃ t2, st = [some (.ref t), some (.ref o), t2, none] ∧ Ex H H' ∧ Ex (Wo (Wo H4 dp) de) H' ∧ NetAt C H' o dx dp de (ys.take i) [], ?_, ?_, ?_, ?_⟩
      · exact ⟨none, rfl, e13.trans e4, (wo_ex _ _).trans (wo_ex _ _), by rw [List.take_zero]; exact N3.mono e4⟩
      · rintro i st H' _ ⟨_, _, _, e, _⟩
        exact sq_of (e _ _ (wo_at (wo_at hp hpd) hpe))
      · rintro i l st H6 hl0 ⟨t5, rfl, e6, eB, N6⟩
        have htk : ys.take (i + 1) = ys.take i ++ [l] := by rw [List.take_succ, hl0]; rfl
        have hm := List.mem_of_getElem? hl0
        have nm := ends_nam hw l ((hS.mem l).mp hm)
        have nin : l ∉ ys.take i := fun z => by
          have nd2 := hS.nd.sublist (List.take_sublist (i + 1) ys)
          rw [htk, List.nodup_append] at nd2
          exact nd2.2.2 _ z _ (List.mem_singleton.mpr rfl) rfl
        have ltk : (ys.take i).length ≤ 100 := by
          have := hS.len
          rw [ends_len] at this
          rw [List.length_take]
          omega
        refine ⟨_, rfl, o, dx, _, rfl, N6.at_, rfl, _, rfl, o, dx, dp, de, ys.take i, [], _, rfl, N6, by omega, .inl ⟨nm, nin, fun H7 e7 => ?_⟩⟩
        refine ⟨_, rfl, Ex.mut (e6.trans e7) hdp, Ex.mut (eB.trans e7) ?_, ?_⟩
        · rw [wo_ne hdd, wo_self]
        · rw [htk]
          exact (N6.mono e7).addP hdd l
      rintro st H6 ⟨t5, rfl, e6, eB, N6⟩
      rw [List.take_length] at N6
      refine s_seq ?_
      dsimp only
      refine s_forS (K := K) (xs := ws) (evS_at (ev_var rfl) (ex_a e6 ht) (by omega) (few_of (D := ws) (fun _ h => h) (by omega))) ?_
      intro p2 zs H7 np2 e7 hp2 hS2
      have hpd2 : p2 ≠ dp := fun z => by rw [z, N6.posts] at np2; cases np2
      have hpe2 : p2 ≠ de := fun z => by rw [z, N6.ends] at np2; cases np2
      refine ⟨fun i st H' => ∃ t2 t3 es, st = [some (.ref t), some (.ref o), t2, t3] ∧ Ex H H' ∧ Ex (Wo (Wo H7 dp) de) H' ∧ NetAt C H' o dx dp de ys es ∧ laneNames es = zs.take i ∧ Wn es, ?_, ?_, ?_, ?_⟩
      · exact ⟨_, none, [], rfl, e6.trans e7, (wo_ex _ _).trans (wo_ex _ _), N6.mono e7, by rw [List.take_zero]; rfl, fun _ h => nomatch h⟩
      · rintro i st H' _ ⟨_, _, _, _, _, e, _⟩
        exact sq_of (e _ _ (wo_at (wo_at hp2 hpd2) hpe2))
      · rintro i l st H8 hl0 ⟨t2, t3, es, rfl, e8, eB2, N8, hln, hwn⟩
        have htk : zs.take (i + 1) = zs.take i ++ [l] := by rw [List.take_succ, hl0]; rfl
        have hm := (hS2.mem l).mp (List.mem_of_getElem? hl0)
        have hll := wlen l hm
        have nm : nam l := nam_ok (hw l hm).1 (by omega) (by omega)
        have nin : l ∉ laneNames es := fun z => by
          rw [hln] at z
          have nd2 := hS2.nd.sublist (List.take_sublist (i + 1) zs)
          rw [htk, List.nodup_append] at nd2
          exact nd2.2.2 _ z _ (List.mem_singleton.mpr rfl) rfl
        have les : es.length ≤ 60 := by
          have h1 := congrArg List.length hln
          unfold laneNames at h1
          rw [List.length_map, List.length_take] at h1
          have := hS2.len
          omega
        have i1 : fst1 l ∈ ys := (hS.mem _).mpr (List.mem_append_left _ (List.mem_map_of_mem hm))
        have i2 : l.drop 1 ∈ ys := (hS.mem _).mpr (List.mem_append_right _ (List.mem_map_of_mem (f := fun w : List Nat => w.drop 1) hm))
        have args : EvA (tCons (tVar 3) (tCons (tSl rSlS (tVar 3) tNoPart (tPart (tUn (rU fun i => .int (-i)) (tC (.int 1))))) (tCons (tSl rSlS (tVar 3) (tPart (tC (.int 1))) tNoPart) tNil))) [some (.ref t), some (.ref o), t2, some (.str (tx l))] H8 [.str (tx l), .str (tx (fst1 l)), .str (tx (l.drop 1))] :=
          ea_cons (ev_var rfl) (ea_cons (ev_fst (ev_var rfl) (by omega) (by omega)) (ea_cons (ev_lst1 (ev_var rfl) (by omega)) ea_nil))
        refine ⟨_, rfl, o, dx, _, rfl, N8.at_, rfl, args H8 (Ex.refl _) _ fun H9 e9 => ⟨o, dx, dp, de, ys, es, l, fst1 l, l.drop 1, rfl, N8.mono e9, by omega, .inl ⟨nm, nin, i1, i2, fun t' H10 e10 nt ht' => ?_⟩⟩⟩
        have e8' := e9.trans e10
        refine ⟨_, _, es ++ [(t', (l, fst1 l, l.drop 1))], rfl, Ex.mut (e8.trans e8') hde, Ex.mut (eB2.trans e8') (wo_self _ _), (N8.mono e8').addE hdd _ _ _ ht', ?_, ?_⟩
        · rw [htk, ← hln]
          unfold laneNames
          rw [List.map_append]
          rfl
        · intro r hr'
          rcases List.mem_append.mp hr' with hr' | hr'
          · exact hwn r hr'
          · rw [List.mem_singleton.mp hr']
            exact ⟨rfl, rfl⟩
      · rintro st H8 ⟨t2, t3, es, rfl, e8, eB2, N8, hln, hwn⟩
        rw [List.take_length] at hln
        exact s_ret (ev_var rfl) fun H9 e9 => k o dx dp de ys es H9 (e8.trans e9) (N8.mono e9) hS (by rw [hln]; exact hS2) hwn
    · exact .inr (h.grow e1)
end
end K61

set_option Elab.async false
set_option linter.all false
set_option maxRecDepth 100000
set_option maxHeartbeats 4000000
/-! The law's windows. -/
namespace K61
open PySem PySem.Spec PyProof.Rows L2 Vl Evl Vp Vx2 Vlk Vda Vc Ve Ven Vlt Vtx
abbrev sLw : Stmt := top 41
abbrev nLw : List Str := ["_law_text_here", "_law_size", "_law_long", "_law_found", "_law_k", "_law_one"]
def spLw : Sp := fun vs H Q _ => ∃ (t : List Nat) (s : Nat), vs = [.str (tx t), .int (s : Nat)] ∧ 1 ≤ t.length ∧ t.length ≤ 40 ∧ s ≤ 8 ∧ ∀ p ys H', H p = none → Ex H H' → H' p = some (.lst (vtx ys)) → Srt ys (wns t s) → Q (.ref p) H'
theorem rp_snoc {α : Type} (t : List α) (k : Nat) : Vq.rp k t ++ t = Vq.rp (k + 1) t := by
  unfold Vq.rp
  rw [List.replicate_succ', List.flatten_append, List.flatten_cons, List.flatten_nil, List.append_nil]
theorem put_same (ks : List (List Nat)) (l : List Nat) : putK (dPosts ks) (Sum.inr (tx l) : Key) (V.bl true) = dPosts (if l ∈ ks then ks else ks ++ [l]) := by
  have hv := posts_val ks l
  by_cases h : l ∈ ks
  · rw [if_pos h]
    unfold putK
    rw [valV_any, hv, decide_eq_true h, if_pos rfl]
    unfold dPosts
    rw [List.map_map]
    refine List.map_congr_left fun x _ => ?_
    show (if (Sum.inr (tx x) : Key) = Sum.inr (tx l) then ((Sum.inr (tx x) : Key), V.bl true) else (Sum.inr (tx x), V.bl true)) = _
    split <;> rfl
  · rw [if_neg h, putK_new _ (Option.not_isSome_iff_eq_none.mp (by rw [hv, decide_eq_false h]; decide))]
    unfold dPosts
    rw [List.map_append]
    rfl
section
variable {P : Program} {w : World} {K : PySem.W.Frag} {mg : Str → Option Value} {base : Heap}
theorem scLw : FnScope nLw ["_law_text_here", "_law_size"] (defScope sLw) := ⟨rfl, rfl, rfl, by decide +kernel, rfl, by decide +kernel, by decide +kernel⟩
theorem ok_lw {f : Addr} {fd : FuncData} (F : FnP K "_law_windows" sLw f fd) (mLen : mg "len" = none) (mRange : mg "range" = none) (mSorted : mg "sorted" = none) (mStr : mg "str" = none) :
    FnOk P w K mg base L2.CX0 1 f fd ["_law_text_here", "_law_size"] spLw := by
  refine F.ok (CX := L2.CX0) scLw (fun vs H Q E h => ?_) (fun cdv A outer s H vs Q E hr h => ?_)
  · obtain ⟨t, s, rfl, _⟩ := h
    rfl
  · refine ⟨_, (pss_cons (ps_set (i := 2) scLw.nd rfl (by first | exact Or.inl rfl | exact Or.inr rfl) (pv 0))
      (pss_cons (ps_while (passes_of rfl) (pt_cmpR op_lt (pe_callB call_len (by rfl) mLen boot_len (pa_cons (pv 2) pa_nil)) (pe_op op_add (pe_callB call_len (by rfl) mLen boot_len (pa_cons (pv 0) pa_nil)) (pv 1)) (nomark _)) (pss_one (ps_set (i := 2) scLw.nd rfl (by first | exact Or.inl rfl | exact Or.inr rfl) (pe_op op_add_str (pv 2) (pv 0)))))
      (pss_cons (ps_set (i := 3) scLw.nd rfl (by first | exact Or.inl rfl | exact Or.inr rfl) pe_dnewK)
      (pss_cons (ps_for (passes_of rfl) rfl (pi_range1 (by rfl) mRange (pa_cons (pe_callB call_len (by rfl) mLen boot_len (pa_cons (pv 0) pa_nil)) pa_nil)) (pg_name (i := 4) scLw.nd rfl (by first | exact Or.inl rfl | exact Or.inr rfl)) (pss_one (ps_dput (Nat.lt_of_le_of_lt (Nat.add_le_add_left (show 1 ≤ 64 by decide) _) hr.units) (pv 3) (pe_slice sl_str (pv 2) (po_some (pv 4)) (po_some (pe_op op_add (pv 4) (pv 1)))) pe_bl rfl)))
      (pss_one (ps_ret (pe_callB cr_sortedS (by rfl) mSorted boot_sorted (pa_cons (pe_lock (pe_lc (own := [("_law_one", 5)]) (g := (gName 5)) (tt := tYes) (te := tCB (fun xs H Q => ∃ a, xs = [.str a] ∧ Q (.str a) H) (tCons (tVar 5) tNil)) rfl scLw.nd (pi_keys (pv 3)) (blkOk_by (own := [("_law_one", 5)]) (N := nLw) (sc := defScope sLw) (by decide +kernel)) (fun _ _ _ _ _ => (pg_name (i := 5) scLw.nd rfl (by first | exact Or.inl rfl | exact Or.inr rfl))) (fun _ _ _ _ _ => pts_nil) (fun _ _ _ _ _ => (pe_callTy SkE.call_str_str (by rfl) mStr boot_str (pa_cons (pv 5) pa_nil))))) pa_nil)))))))), ?_⟩
    obtain ⟨t, s, rfl, n1, n2, hs, q⟩ := h
    refine s_seq ?_
    refine s_asg (ev_var rfl) fun H1 e1 => ?_
    dsimp only
    refine s_seq ?_
    refine s_while (fun m σ' H' => ∃ k : Nat, 1 ≤ k ∧ σ' = [some (.str (tx t)), some (.int (s : Nat)), some (.str (tx (Vq.rp k t))), none, none, none] ∧ Ex H H' ∧ k * t.length ≤ 2 * t.length + s ∧ m = 2 * t.length + s + 1 - k * t.length) (t.length + s + 1) ⟨1, Nat.le_refl _, by rw [rp_one']; rfl, e1, by omega, by omega⟩ ?_
    rintro m σ' H2 ⟨k, hk, rfl, e2, hkn, rfl⟩
    have hkl : (Vq.rp k t).length = k * t.length := Vq.rp_len _ _
    refine ⟨decide (k * t.length < t.length + s), et_test (ev_is (ev_op (ev_lenS (l := Vq.rp k t) (ev_var rfl) (by omega)) (ev_op (ev_lenS (l := t) (ev_var rfl) (by omega)) (ev_var rfl) rv_I0) rv_I0) ?_), fun hb H3 e3 => ?_, fun hb H3 e3 => ?_⟩
    · rw [hkl]
      congr 1
      rw [decide_eq_decide]
      omega
    · have hlt := of_decide_eq_true hb
      refine ⟨fun σ2 H4 => σ2 = [some (.str (tx t)), some (.int (s : Nat)), some (.str (tx (Vq.rp (k + 1) t))), none, none, none] ∧ Ex H H4, ?_, ?_⟩
      · rintro σ2 H4 ⟨rfl, e4⟩
        have hsm : (k + 1) * t.length = k * t.length + t.length := Nat.succ_mul _ _
        exact ⟨_, by omega, k + 1, by omega, rfl, e4, by omega, rfl⟩
      · refine s_asg (v := .str (tx (Vq.rp (k + 1) t))) (ev_is (ev_op (ev_var rfl) (ev_var rfl) (rv_cats (by rw [hkl]; omega))) (by rw [rp_snoc])) fun H4 e4 => ⟨rfl, (e2.trans e3).trans e4⟩
    · have hge := of_decide_eq_false hb
      dsimp only
      refine s_seq ?_
      intro d nd
      have e23 := e2.trans e3
      have hd0 : H d = none := fresh_back e23 nd
      dsimp only
      refine s_seq ?_
      refine s_forR1 (n := (t.length : Int)) (ea_cons (ev_lenS (l := t) (ev_var rfl) (by omega)) ea_nil) (by omega) (fun i st H' => ∃ t4 ks, st = [some (.str (tx t)), some (.int (s : Nat)), some (.str (tx (Vq.rp k t))), some (.ref d), t4, none] ∧ Ex H H' ∧ H' d = some (.dK (dPosts ks)) ∧ ks.Nodup ∧ (∀ w, w ∈ ks ↔ ∃ j, j < i ∧ w = wn t s j) ∧ ks.length ≤ i) ?_ ?_ ?_
      · intro H4 e4
        exact ⟨none, [], rfl, (e23.trans (Ex.new nd)).trans e4, e4 _ _ upd_same, .nil, fun w => ⟨(fun h => nomatch h), fun ⟨j, hj, _⟩ => absurd hj (Nat.not_lt_zero j)⟩, Nat.le_refl _⟩
      · rintro i st H4 hi ⟨t4, ks, rfl, e4, hd4, hnd, hks, hlen⟩
        have hi : i < t.length := by omega
        have hw : Ev (tSl rSlS (tVar 2) (tPart (tVar 4)) (tPart (tOp (rI0 fun i j => .int (i + j)) (tVar 4) (tVar 1)))) [some (.str (tx t)), some (.int (s : Nat)), some (.str (tx (Vq.rp k t))), some (.ref d), some (.int (i : Nat)), none] H4 (.str (tx (wn t s i))) := by
          refine ev_is (ev_slS (l := Vq.rp k t) (lo := some (i : Int)) (hi := some ((i + s : Nat) : Int)) (ev_var rfl) (eo_some (ev_var rfl)) (eo_some (ev_is (ev_op (ev_var rfl) (ev_var rfl) rv_I0) (by rfl))) (by rw [hkl]; omega)) ?_
          rw [cut_pq, Nat.add_sub_cancel_left, rp_win (by omega)]
        show sDPut _ _ _ _ [some (.str (tx t)), some (.int (s : Nat)), some (.str (tx (Vq.rp k t))), some (.ref d), some (.int (i : Nat)), none] H4
        refine ⟨_, rfl, hw H4 (Ex.refl _) _ fun H5 e5 => ⟨d, _, rfl, DPut.k (k := (Sum.inr (tx (wn t s i)) : Key)) (e5 _ _ hd4) (sz_lt (by unfold dPosts; rw [List.length_map]; omega)), ?_⟩⟩
        rw [put_same]
        refine ⟨_, _, rfl, Ex.mut (e4.trans e5) hd0, upd_same, ?_, fun w => ?_, ?_⟩
        · by_cases h : wn t s i ∈ ks
          · rw [if_pos h]; exact hnd
          · rw [if_neg h, List.nodup_append]
            exact ⟨hnd, List.nodup_cons.mpr ⟨List.not_mem_nil, .nil⟩, fun a ha b hb z => h (by rw [← List.mem_singleton.mp hb, ← z]; exact ha)⟩
        · have hx : w ∈ (if wn t s i ∈ ks then ks else ks ++ [wn t s i]) ↔ w ∈ ks ∨ w = wn t s i := by
            by_cases h : wn t s i ∈ ks
            · rw [if_pos h]
              exact ⟨.inl, fun z => z.elim id fun z => by rw [z]; exact h⟩
            · rw [if_neg h, List.mem_append, List.mem_singleton]
          rw [hx, hks]
          constructor
          · rintro (⟨j, hj, rfl⟩ | rfl)
            · exact ⟨j, by omega, rfl⟩
            · exact ⟨i, by omega, rfl⟩
          · rintro ⟨j, hj, rfl⟩
            by_cases hji : j = i
            · exact .inr (by rw [hji])
            · exact .inl ⟨j, by omega, rfl⟩
        · by_cases h : wn t s i ∈ ks
          · rw [if_pos h]; omega
          · rw [if_neg h, List.length_append, List.length_singleton]; omega
      · rintro st H4 ⟨t4, ks, rfl, e4, hd4, hnd, hks, hlen⟩
        rw [Int.toNat_natCast] at hks hlen
        dsimp only
        have key := el_keysV (σ := [some (.str (tx t)), some (.int (s : Nat)), some (.str (tx (Vq.rp k t))), some (.ref d), t4, none]) (H := H4) (td := tVar 3) (te := tCB (fun xs H Q => ∃ a, xs = [.str a] ∧ Q (.str a) H) (tCons (tVar 5) tNil)) (j := 5) (d := d) (kvs := dPosts ks) (fun k => match k with | Sum.inr z => V.str z | _ => .non) hd4 (by unfold dPosts; rw [List.length_map]; omega) (fun _ => rfl) (fun H1 od _ => ev_var rfl) (fun H1 od kv e hm => by
          unfold dPosts at hm
          obtain ⟨l, _, rfl⟩ := List.mem_map.mp hm
          exact fun H5 e5 Q q => ⟨_, rfl, tx l, rfl, q H5 (Ex.refl _)⟩)
        have hv : (dPosts ks).map (fun kv => (match kv.1 with | Sum.inr z => V.str z | _ => V.non)) = vtx ks := by
          unfold dPosts vtx
          rw [List.map_map]
          rfl
        rw [hv] at key
        refine key H4 (Ex.refl _) _ fun p H5 np e5 hp => ?_
        refine so_of (sq_of hp) hnd (by omega) fun p2 ys H6 n6 e6 h6 hS => q p2 ys H6 (fresh_back (e4.trans e5) n6) ((e4.trans e5).trans e6) h6 (hS.of fun w => ?_)
        rw [hks, wns_mem]
end
end K61

set_option Elab.async false
set_option linter.all false
set_option maxRecDepth 100000
set_option maxHeartbeats 4000000
/-! The law's text. -/
namespace K61
open PySem PySem.Spec PyProof.Rows L2 Vl Evl Vp Vx2 Vlk Vda Vc Ve Ven Vlt Vtx
abbrev sTx : Stmt := top 42
abbrev nTx : List Str := ["_law_pool_here", "_law_most", "_law_letters", "_law_text_here", "_law_k"]
def spTx : Sp := fun vs H Q _ => ∃ (p : Addr) (most : Nat) (ls : List Nat) (Hk : Hp) (n : Nat), vs = [.ref p, .int (most : Nat), .str (tx ls)] ∧ 1 ≤ most ∧ most ≤ 30 ∧ 1 ≤ ls.length ∧ ls.length ≤ 26 ∧ (∀ c ∈ ls, c ∈ letters) ∧ Pl Hk p n H ∧ n ≤ 90000 ∧
  ∀ t H', okW t 1 most = true → Pl Hk p (n + 50) H' → Q (.str (tx t)) H'
theorem okW_of {t : List Nat} {lo hi : Nat} (h1 : lo ≤ t.length) (h2 : t.length ≤ hi) (h : ∀ c ∈ t, c ∈ letters) : okW t lo hi = true := by
  unfold okW
  rw [decide_eq_true h1, decide_eq_true h2]
  exact List.all_eq_true.mpr fun c hc => decide_eq_true (h c hc)
section
variable {P : Program} {w : World} {K : PySem.W.Frag} {mg : Str → Option Value} {base : Heap}
theorem scTx : FnScope nTx ["_law_pool_here", "_law_most", "_law_letters"] (defScope sTx) := ⟨rfl, rfl, rfl, by decide +kernel, rfl, by decide +kernel, by decide +kernel⟩
theorem ok_tx {f : Addr} {fd : FuncData} (F : FnP K "_law_text" sTx f fd) (TT : Fu P w K mg base L2.CX0 1 "_law_take" spTake) (mLen : mg "len" = none) (mRange : mg "range" = none) :
    FnOk P w K mg base L2.CX0 2 f fd ["_law_pool_here", "_law_most", "_law_letters"] spTx := by
  refine F.ok (CX := L2.CX0) scTx (fun vs H Q E h => ?_) (fun cdv A outer s H vs Q E hr h => ?_)
  · obtain ⟨p, most, ls, Hk, n, rfl, _⟩ := h
    rfl
  · refine ⟨_, (pss_cons (ps_set (i := 3) scTx.nd rfl (by first | exact Or.inl rfl | exact Or.inr rfl) pe_str)
      (pss_cons (ps_for (passes_of rfl) rfl (pi_range1 (by rfl) mRange (pa_cons (pe_op op_add pe_int (pe_fu TT hr (by rfl) (pa_cons (pv 0) (pa_cons (pv 1) pa_nil)))) pa_nil)) (pg_name (i := 4) scTx.nd rfl (by first | exact Or.inl rfl | exact Or.inr rfl)) (pss_one (ps_set (i := 3) scTx.nd rfl (by first | exact Or.inl rfl | exact Or.inr rfl) (pe_op op_add_str (pv 3) (pe_ix ix_str (pv 2) (pe_fu TT hr (by rfl) (pa_cons (pv 0) (pa_cons (pe_callB call_len (by rfl) mLen boot_len (pa_cons (pv 2) pa_nil)) pa_nil))) fun _ _ => rfl)))))
      (pss_cons (ps_if (PW.pt (pw_and (pt_cmpR op_eq (pe_fu TT hr (by rfl) (pa_cons (pv 0) (pa_cons pe_int pa_nil))) pe_int (nomark _)) (pw_and1 (pt_cmpR op_le (pe_op op_mul pe_int (pe_callB call_len (by rfl) mLen boot_len (pa_cons (pv 3) pa_nil))) (pv 1) (nomark _))))) (pss_one (ps_set (i := 3) scTx.nd rfl (by first | exact Or.inl rfl | exact Or.inr rfl) (pe_op op_add_str (pv 3) (pv 3)))) pss_nil)
      (pss_one (ps_ret (pv 3)))))), ?_⟩
    obtain ⟨p, most, ls, Hk, n, rfl, hm1, hm2, hl1, hl2, hls, hp, hn, q⟩ := h
    refine s_seq ?_
    refine s_asg ev_c fun H1 e1 => ?_
    have hp1 := hp.grow e1
    dsimp only
    refine s_seq ?_
    refine ⟨_, rfl, _, rfl, p, (most : Int), Wo H1 p, n, rfl, by omega, by omega, hp1.re, by omega, fun r H2 r0 r1 hp2' => ⟨1, r, rfl, rfl, 1 + r, rfl, by omega, by omega, ?_⟩⟩
    have hp2 := hp1.back hp2'
    refine for_range (lo := 0) (n := (1 + r).toNat) (fun i st H' => ∃ t4 t, st = [some (.ref p), some (.int (most : Nat)), some (.str (tx ls)), some (.str (tx t)), t4] ∧ t.length = i ∧ (∀ c ∈ t, c ∈ letters) ∧ Pl Hk p (n + 1 + i) H') ⟨none, [], rfl, rfl, (fun _ h => nomatch h), hp2⟩ ?_ ?_
    · rintro i st H3 hi ⟨t4, t, rfl, hti, hc, hp3⟩
      show tAsg _ _ _ [some (.ref p), some (.int (most : Nat)), some (.str (tx ls)), some (.str (tx t)), some (.int ((0 : Int) + (i : Int)))] H3
      refine ⟨_, rfl, _, rfl, _, rfl, _, rfl, V.str (tx ls), ls.length, rfl, ⟨sz_of (by rw [tx_len]; omega), rfl⟩, p, (ls.length : Int), Wo H3 p, _, rfl, by omega, by omega, hp3.re, by omega, fun r2 H4 r20 r21 hp4' => ?_⟩
      have hp4 := hp3.back hp4'
      obtain ⟨k, rfl⟩ := Int.eq_ofNat_of_zero_le r20
      have hk : k < ls.length := by omega
      refine ⟨tx ls, (k : Int), ls.getD k 0, rfl, rfl, sz_of (by rw [tx_len]; omega), text_at hk, tx t, tx [ls.getD k 0], rfl, rfl, sz_of (by rw [tx_len, tx_len, List.length_singleton]; omega), ?_⟩
      refine ⟨_, t ++ [ls.getD k 0], by rw [tx_app]; rfl, by rw [List.length_append, List.length_singleton, hti], fun c hcm => ?_, hp4⟩
      rcases List.mem_append.mp hcm with h | h
      · exact hc c h
      · rw [List.mem_singleton.mp h]
        exact hls _ (getD_mem hk)
    · rintro st H3 ⟨t4, t, rfl, hti, hc, hp3⟩
      have ht1 : t.length = (1 + r).toNat := hti
      dsimp only
      refine s_seq ?_
      refine ⟨_, rfl, p, 5, Wo H3 p, _, rfl, by omega, by omega, hp3.re, by omega, fun r2 H4 r20 r21 hp4' => ⟨rfl, _, rfl, ?_⟩⟩
      have hp4 := hp3.back hp4'
      have last : ∀ {H5 : Hp}, Ex H4 H5 → q = q := fun _ => rfl
      cases hb : decide (V.int r2 = V.int 0) with
      | false =>
        dsimp only
        rw [if_neg (by decide)]
        refine s_ret (ev_var rfl) fun H5 e5 => q t H5 (okW_of (by omega) (by omega) hc) ((hp4.grow e5).cnt (by omega))
      | true =>
        dsimp only
        rw [if_pos rfl]
        refine et_test (b := decide ((2 * (t.length : Int)) ≤ most)) (ev_op (ev_op ev_c (ev_lenS (l := t) (ev_var rfl) (by omega)) (rv_I (.inl ⟨by omega, by omega⟩))) (ev_var rfl) rv_I0) H4 (Ex.refl _) _ fun H5 e5 => ?_
        cases hb2 : decide ((2 * (t.length : Int)) ≤ most) with
        | false =>
          rw [if_neg (by decide)]
          refine s_ret (ev_var rfl) fun H6 e6 => q t H6 (okW_of (by omega) (by omega) hc) ((hp4.grow (e5.trans e6)).cnt (by omega))
        | true =>
          have h2 := of_decide_eq_true hb2
          rw [if_pos rfl]
          refine s_asg (v := .str (tx (t ++ t))) (ev_op (ev_var rfl) (ev_var rfl) (rv_cats (by omega))) fun H6 e6 => ?_
          dsimp only
          refine s_ret (v := .str (tx (t ++ t))) (ev_var rfl) fun H7 e7 => q (t ++ t) H7 (okW_of (by rw [List.length_append]; omega) (by rw [List.length_append]; omega) fun c hcm => (List.mem_append.mp hcm).elim (hc c) (hc c)) ((hp4.grow ((e5.trans e6).trans e7)).cnt (by omega))
end
end K61

set_option Elab.async false
set_option linter.all false
set_option maxRecDepth 100000
set_option maxHeartbeats 2000000
/-! Tuples that come out, new or old. -/
namespace Vt
open PySem PySem.Spec PyProof.Rows L2 Vl Evl Vp Vr
section
variable {K : PySem.W.Frag} {te ta tb : TE} {tl th : TO} {σ : L2.St} {H : Hp} {xs ys : List V} {p : Addr} {lo hi : Option Int}
def EvT (K : PySem.W.Frag) (te : TE) (σ : L2.St) (H : Hp) (xs : List V) : Prop := ∀ H1, Ex H H1 → ∀ Q : VK, (∀ p H2, Ex H1 H2 → SqT K H2 p xs → Q (.ref p) H2) → te σ H1 Q
theorem sqt_new {q : Addr} : SqT K (upd H q (.tup xs)) q xs := .inl (.inl upd_same)
theorem et_ref (h : Ev te σ H (.ref p)) (hx : SqT K H p xs) : EvT K te σ H xs := fun H1 e Q q => h H1 e Q fun H2 e2 => q p H2 e2 (ex_t (e.trans e2) hx)
theorem et_cut (h : EvT K te σ H xs) (h1 : EvO tl σ H lo) (h2 : EvO th σ H hi) : EvT K (tSl (rSlA K) te tl th) σ H (cutV xs lo hi) := by
  intro H1 e Q q
  refine h H1 e _ fun p H2 e2 hp => h1 H2 (e.trans e2) _ fun H3 e3 => h2 H3 ((e.trans e2).trans e3) _ fun H4 e4 => ?_
  refine ⟨p, xs, rfl, ex_t (e3.trans e4) hp, fun hw => ?_, fun _ p2 n2 => q p2 _ (((e2.trans e3).trans e4).trans (Ex.new n2)) sqt_new⟩
  have ec : cutV xs lo hi = xs := by
    unfold cutV
    rw [hw.1, hw.2, List.drop_zero, Nat.sub_zero, List.take_length]
  refine q p H4 ((e2.trans e3).trans e4) ?_
  rw [ec]
  exact ex_t (e3.trans e4) hp
theorem et_cat (h : EvT K ta σ H xs) (h2 : EvT K tb σ H ys) (hl : xs.length + ys.length ≤ 100000) : EvT K (tOp (rCatA K) ta tb) σ H (xs ++ ys) := by
  intro H1 e Q q
  refine h H1 e _ fun p H2 e2 hp => h2 H2 (e.trans e2) _ fun p2 H3 e3 hp2 => ?_
  refine ⟨p, p2, xs, ys, rfl, rfl, ex_t e3 hp, hp2, sz_of hl, fun hx => ?_, fun _ hy => ?_, fun _ _ p4 n4 => q p4 _ ((e2.trans e3).trans (Ex.new n4)) sqt_new⟩
  · refine q p2 H3 (e2.trans e3) ?_
    rw [hx]
    exact hp2
  · refine q p H3 (e2.trans e3) ?_
    rw [hy, List.append_nil]
    exact ex_t e3 hp
/-- a[k:] + a[:k] -/
theorem et_rot {a : List (List Nat)} {k : Nat} {t1 t2 : TE} {u1 u2 : TE} (h1 : EvT K t1 σ H (vtx a)) (h2 : EvT K t2 σ H (vtx a)) (g1 : Ev u1 σ H (.int (k : Int))) (g2 : Ev u2 σ H (.int (k : Int))) (hl : a.length ≤ 1000) :
    EvT K (tOp (rCatA K) (tSl (rSlA K) t1 (tPart u1) tNoPart) (tSl (rSlA K) t2 tNoPart (tPart u2))) σ H (vtx (rot a k)) := by
  have := et_cat (et_cut h1 (eo_some g1) eo_none) (et_cut h2 eo_none (eo_some g2)) (by
    have h3 := cutV_length (vtx a) (some (k : Int)) none
    have h4 := cutV_length (vtx a) none (some (k : Int))
    rw [vtx_len] at h3 h4
    omega)
  rw [cutV1, cutV0, ← vtx_rot] at this
  exact this
end
end Vt

set_option Elab.async false
set_option linter.all false
set_option maxRecDepth 100000
set_option maxHeartbeats 2000000
/-! Comprehensions whose items are new objects: what is known of each. -/
namespace Vlp
open PySem PySem.Spec PyProof.Rows L2 Vl Evl Vp Vr Ve
inductive All2 {α : Type} (R : α → V → Prop) : List α → List V → Prop
  | nil : All2 R [] []
  | cons {y : α} {v : V} {ys : List α} {vs : List V} (h : R y v) (r : All2 R ys vs) : All2 R (y :: ys) (v :: vs)
theorem All2.len {α : Type} {R : α → V → Prop} {ys : List α} {vs : List V} (h : All2 R ys vs) : vs.length = ys.length := by
  induction h with
  | nil => rfl
  | cons _ _ ih => rw [List.length_cons, List.length_cons, ih]
theorem All2.imp {α : Type} {R S : α → V → Prop} (hi : ∀ y v, R y v → S y v) {ys : List α} {vs : List V} (h : All2 R ys vs) : All2 S ys vs := by
  induction h with
  | nil => exact .nil
  | cons h _ ih => exact .cons (hi _ _ h) ih
theorem All2.snoc {α : Type} {R : α → V → Prop} {ys : List α} {vs : List V} {y : α} {v : V} (h : All2 R ys vs) (hy : R y v) : All2 R (ys ++ [y]) (vs ++ [v]) := by
  induction h with
  | nil => exact .cons hy .nil
  | cons h _ ih => exact .cons h ih
theorem All2.get {α : Type} {R : α → V → Prop} {ys : List α} {vs : List V} (h : All2 R ys vs) : ∀ {i : Nat} {v : V}, vs[i]? = some v → ∃ y, ys[i]? = some y ∧ R y v := by
  induction h with
  | nil => intro i v h; cases h
  | cons h _ ih =>
    intro i v hv
    cases i with
    | zero => exact ⟨_, rfl, by cases hv; exact h⟩
    | succ i => exact ih hv
theorem All2.dpa {α : Type} {K : PySem.W.Frag} {H : Hp} {d : α → PyData} {R : α → V → Prop} (hd : ∀ y v, R y v → Dp K H v (d y)) {ys : List α} {vs : List V} (h : All2 R ys vs) : DpAll K H vs (ys.map d) := by
  induction h with
  | nil => exact .nil
  | cons h _ ih => exact .cons (hd _ _ h) ih
/-- stays when the heap grows, and when a list changes -/
structure Stay (R : V → Hp → Prop) : Prop where
  ex : ∀ {v H H'}, Ex H H' → R v H → R v H'
  mu : ∀ {v H a xs ys}, H a = some (.lst xs) → R v H → R v (upd H a (.lst ys))
def EvP (te : TE) (σ : L2.St) (H : Hp) (R : V → Hp → Prop) : Prop := ∀ H1, Ex H H1 → ∀ Q : VK, (∀ v H2, Ex H1 H2 → R v H2 → Q v H2) → te σ H1 Q
def EvPL {α : Type} (te : TE) (σ : L2.St) (H : Hp) (ys : List α) (R : α → V → Hp → Prop) : Prop :=
  ∀ H1, Ex H H1 → ∀ Q : VK, (∀ p xs H2, H1 p = none → Ex H1 H2 → H2 p = some (.lst xs) → All2 (fun y v => R y v H2) ys xs → Q (.ref p) H2) → te σ H1 Q
section
variable {K : PySem.W.Frag} {α : Type} {te : TE} {tt : TT} {σ : L2.St} {H : Hp} {R : α → V → Hp → Prop}
def Cp (H : Hp) (R : α → V → Hp → Prop) (Dl : Addr) (zs : List α) (H' : Hp) : Prop := H Dl = none ∧ Ex H H' ∧ ∃ acc, H' Dl = some (.lst acc) ∧ All2 (fun y v => R y v H') zs acc
theorem cp_turn {H H' : Hp} {Dl : Addr} {zs zs' : List α} {y : α} {b : Bool} {σ2 : L2.St} (st : ∀ y, Stay (R y)) (p : Cp H R Dl zs H') (hi : zs.length < 50000) (ht : EvT tt σ2 H b) (he : b = true → EvP te σ2 H (R y)) (h1 : b = true → zs' = zs ++ [y]) (h0 : b = false → zs' = zs) :
    tt σ2 H' fun b H3 => if b = true then te σ2 H3 fun v H4 => ∃ acc, H4 Dl = some (.lst acc) ∧ acc.length < sizeLine ∧ Cp H R Dl zs' (upd H4 Dl (.lst (acc ++ [v]))) else Cp H R Dl zs' H3 := by
  obtain ⟨p1, p2, acc, p3, p4⟩ := p
  refine ht H' p2 _ fun H3 e3 => ?_
  cases b with
  | true =>
    show te σ2 H3 fun v H4 => ∃ acc, H4 Dl = some (.lst acc) ∧ acc.length < sizeLine ∧ Cp H R Dl zs' (upd H4 Dl (.lst (acc ++ [v])))
    refine he rfl H3 (p2.trans e3) _ fun v H4 e4 hv => ⟨acc, e4 Dl _ (e3 Dl _ p3), sz_lt (by rw [p4.len]; omega), p1, Ex.mut ((p2.trans e3).trans e4) p1, _, upd_same, ?_⟩
    have hD := e4 Dl _ (e3 Dl _ p3)
    rw [h1 rfl]
    exact (p4.imp fun z u hu => (st z).mu hD ((st z).ex (e3.trans e4) hu)).snoc ((st y).mu hD hv)
  | false =>
    show Cp H R Dl zs' H3
    rw [h0 rfl]
    exact ⟨p1, p2.trans e3, acc, e3 Dl _ p3, p4.imp fun z u hu => (st z).ex e3 hu⟩
theorem filt_yes {ys : List α} {c : α → Bool} {i : Nat} {y : α} (hy : ys[i]? = some y) (h : c y = true) : (ys.take (i + 1)).filter c = (ys.take i).filter c ++ [y] := by
  rw [List.take_add_one, hy, List.filter_append]
  show _ ++ List.filter c [y] = _
  rw [List.filter_cons_of_pos h]
  rfl
theorem filt_no {ys : List α} {c : α → Bool} {i : Nat} {y : α} (hy : ys[i]? = some y) (h : c y = false) : (ys.take (i + 1)).filter c = (ys.take i).filter c := by
  rw [List.take_add_one, hy, List.filter_append]
  show _ ++ List.filter c [y] = _
  rw [List.filter_cons_of_neg (by rw [h]; decide)]
  show _ ++ [] = _
  rw [List.append_nil]
theorem filt_len {ys : List α} {c : α → Bool} {i : Nat} (hz : ys.length ≤ 40000) : ((ys.take i).filter c).length < 50000 := by
  have h1 := List.length_filter_le c (ys.take i)
  rw [List.length_take] at h1
  omega
/-- over a list that stands -/
theorem ep_lcA {ys : List α} {g : α → V} {a : Addr} {tl : TE} {j : Nat} {vs : List Nat} (c : α → Bool) (st : ∀ y, Stay (R y)) (h : Ev tl σ H (.ref a)) (hx : SqL K H a (ys.map g)) (hz : ys.length ≤ 40000) (hw : ∀ x, wipe ((wipe σ vs).set j (some x)) vs = wipe σ vs)
    (ht : ∀ (y : α) (H1 : Hp), Ex H H1 → y ∈ ys → EvT tt ((wipe σ vs).set j (some (g y))) H1 (c y)) (he : ∀ (y : α) (H1 : Hp), Ex H H1 → y ∈ ys → c y = true → EvP te ((wipe σ vs).set j (some (g y))) H1 (R y)) :
    EvPL (tLc (iList K tl) (gName j) tt te vs) σ H (ys.filter c) R := fun H0 e Q q => h H0 e _ fun H1 e1 => ⟨a, rfl, ⟨ys.map g, ex_l (e.trans e1) hx⟩, fun Dl hD => by
  refine lc_list (xs := ys.map g) (fun i => Cp H1 R Dl ((ys.take i).filter c)) ⟨hD, Ex.new hD, _, upd_same, by rw [List.take_zero]; exact .nil⟩ (fun i H' _ p => ex_l ((e.trans e1).trans p.2.1) hx) (fun i x H' hi p => ⟨hw x, ?_⟩)
    (fun H' p => by
      rw [List.length_map, List.take_length] at p
      obtain ⟨p1, p2, acc, p3, p4⟩ := p
      exact q Dl acc H' (fresh_back e1 p1) (e1.trans p2) p3 p4)
  rw [List.getElem?_map] at hi
  obtain ⟨y, hy, rfl⟩ := Option.map_eq_some_iff.mp hi
  have hm := List.mem_of_getElem? hy
  exact cp_turn (te := te) (y := y) st p (filt_len hz) (ht y H1 (e.trans e1) hm) (he y H1 (e.trans e1) hm) (fun hc => filt_yes hy hc) (fun hc => filt_no hy hc)⟩
/-- over a range, each turn gives -/
theorem ep_lcR {ta : TA} {j : Nat} {vs : List Nat} {n : Int} {R : Nat → V → Hp → Prop} (st : ∀ y, Stay (R y)) (h : EvA ta σ H [.int n]) (hn : 0 ≤ n ∧ n ≤ 40000) (hw : ∀ x, wipe ((wipe σ vs).set j (some x)) vs = wipe σ vs)
    (he : ∀ (i : Nat) H1, Ex H H1 → (i : Int) < n → EvP te ((wipe σ vs).set j (some (.int (i : Int)))) H1 (R i)) :
    EvPL (tLc (iRng1 ta) (gName j) tYes te vs) σ H (List.range n.toNat) R := fun H0 e Q q => h H0 e _ fun H1 e1 => ⟨n, rfl, by omega, by omega, fun Dl hD => by
  refine lc_range (lo := 0) (n := n.toNat) (fun i => Cp H1 R Dl (List.range i)) ⟨hD, Ex.new hD, _, upd_same, .nil⟩ (fun i H' hi p => ?_) (fun H' p => by
      obtain ⟨p1, p2, acc, p3, p4⟩ := p
      exact q Dl acc H' (fresh_back e1 p1) (e1.trans p2) p3 p4)
  have e0 : (0 : Int) + (i : Int) = (i : Int) := Int.zero_add _
  show wipe ((wipe σ vs).set j (some (.int ((0 : Int) + (i : Int))))) vs = wipe σ vs ∧ tYes ((wipe σ vs).set j (some (.int ((0 : Int) + (i : Int))))) H' fun b H3 => if b = true then te ((wipe σ vs).set j (some (.int ((0 : Int) + (i : Int))))) H3 fun y H4 => ∃ acc, H4 Dl = some (.lst acc) ∧ acc.length < sizeLine ∧ Cp H1 R Dl (List.range (i + 1)) (upd H4 Dl (.lst (acc ++ [y]))) else Cp H1 R Dl (List.range (i + 1)) H3
  rw [e0]
  have key := cp_turn (te := te) (tt := tYes) (y := i) (b := true) (σ2 := (wipe σ vs).set j (some (.int (i : Int)))) st p (by rw [List.length_range]; omega) et_yes (fun _ => he i H1 (e.trans e1) (by omega)) (fun _ => List.range_succ) (fun z => by cases z)
  exact ⟨hw _, key⟩⟩
/-- a tuple -/
def IsT (K : PySem.W.Frag) (xs : List V) (v : V) (H : Hp) : Prop := ∃ p, v = .ref p ∧ SqT K H p xs
theorem stay_T {xs : List V} : Stay (IsT K xs) := ⟨fun e ⟨p, h, hp⟩ => ⟨p, h, ex_t e hp⟩, fun {v H a ys zs} ha ⟨p, h, hp⟩ => ⟨p, h, by
  rcases hp with (hp | ⟨ob, hp⟩) | hp
  · refine .inl (.inl ?_)
    rw [upd_ne (fun z => by rw [z, ha] at hp; cases hp)]
    exact hp
  · refine .inl (.inr ⟨ob, ?_⟩)
    rw [upd_ne (fun z => by rw [z, ha] at hp; cases hp)]
    exact hp
  · exact .inr hp⟩⟩
theorem ep_T {xs : List V} (h : Vt.EvT K te σ H xs) : EvP te σ H (IsT K xs) := fun H1 e Q q => h H1 e Q fun p H2 e2 hp => q _ H2 e2 ⟨p, rfl, hp⟩
theorem ep_U {xs : List V} (h : EvU te σ H xs) : EvP te σ H (IsT K xs) := fun H1 e Q q => h H1 e Q fun p H2 _ e2 hp => q _ H2 e2 ⟨p, rfl, .inl (.inl hp)⟩
end
end Vlp

set_option Elab.async false
set_option linter.all false
set_option maxRecDepth 100000
set_option maxHeartbeats 4000000
/-! The law's net of windows. -/
namespace K61
open PySem PySem.Spec PyProof.Rows L2 Vl Evl Vp Vx2 Vlk Vda Vc Ve Ven Vlt Vtx
abbrev sLn : Stmt := top 43
abbrev nLn : List Str := ["_law_words", "_law_posts", "_law_word", "_law_post"]
/-- a lane's row, told -/
def rowV (w : List Nat) : List V := [.str (tx w), .str (tx (fst1 w)), .str (tx (w.drop 1))]
/-- a tuple that stands -/
def RowP (w : List Nat) (v : V) (H : Hp) : Prop := ∃ p, v = .ref p ∧ H p = some (.tup (rowV w))
theorem stay_P {w : List Nat} : Vlp.Stay (RowP w) := ⟨fun e ⟨p, h, hp⟩ => ⟨p, h, e _ _ hp⟩, fun {v H a ys zs} ha ⟨p, h, hp⟩ => ⟨p, h, by
  rw [upd_ne (fun z => by rw [z, ha] at hp; cases hp)]
  exact hp⟩⟩
theorem ep_P {te : TE} {σ : L2.St} {H : Hp} {w : List Nat} (h : EvU te σ H (rowV w)) : Vlp.EvP te σ H (RowP w) := fun H1 e Q q => h H1 e Q fun p H2 _ e2 hp => q _ H2 e2 ⟨p, rfl, hp⟩
def spLn (K : PySem.W.Frag) : Sp := fun vs H Q _ => ∃ (t : Addr) (ws : List (List Nat)), vs = [.ref t] ∧ H t = some (.lst (vtx ws)) ∧ ws.length ≤ 45 ∧ (∀ l ∈ ws, 1 ≤ l.length ∧ l.length ≤ 8) ∧ Few (ends ws) ∧
  ∀ q a b ps rs H', Ex H H' → H' q = some (.lst [.ref a, .ref b]) → H' a = some (.lst (vtx ps)) → Srt ps (ends ws) → H' b = some (.lst rs) → Vlp.All2 (fun w v => RowP w v H') ws rs → Q (.ref q) H'
def add1 (pp : List (List Nat)) (x : List Nat) : List (List Nat) := pp ++ if decide (x ∉ pp) = true then [x] else []
theorem add1_mem {pp : List (List Nat)} {x y : List Nat} : y ∈ add1 pp x ↔ y ∈ pp ∨ y = x := by
  unfold add1
  by_cases h : x ∈ pp
  · rw [if_neg (by rw [decide_eq_true_iff]; exact fun z => z h), List.append_nil]
    exact ⟨.inl, fun z => z.elim id fun z => by rw [z]; exact h⟩
  · rw [if_pos (by rw [decide_eq_true_iff]; exact h), List.mem_append, List.mem_singleton]
theorem add1_nd {pp : List (List Nat)} {x : List Nat} (hn : pp.Nodup) : (add1 pp x).Nodup := by
  unfold add1
  by_cases h : x ∈ pp
  · rw [if_neg (by rw [decide_eq_true_iff]; exact fun z => z h), List.append_nil]
    exact hn
  · rw [if_pos (by rw [decide_eq_true_iff]; exact h), List.nodup_append]
    exact ⟨hn, List.nodup_cons.mpr ⟨List.not_mem_nil, .nil⟩, fun a ha b hb z => h (by rw [← List.mem_singleton.mp hb, ← z]; exact ha)⟩
theorem add1_len (pp : List (List Nat)) (x : List Nat) : (add1 pp x).length ≤ pp.length + 1 := by
  unfold add1
  rw [List.length_append]
  split
  · exact Nat.le_refl _
  · exact Nat.add_le_add_left (Nat.zero_le _) _
section
variable {P : Program} {w : World} {K : PySem.W.Frag} {mg : Str → Option Value} {base : Heap}
theorem scLn : FnScope nLn ["_law_words"] (defScope sLn) := ⟨rfl, rfl, rfl, by decide +kernel, rfl, by decide +kernel, by decide +kernel⟩
theorem el_add {σ : L2.St} {H : Hp} {pa : Addr} {pp : List (List Nat)} {x : List Nat} {te : TE} (h1 : σ[1]? = some (some (.ref pa))) (hp : H pa = some (.lst (vtx pp))) (hl : pp.length ≤ 100) (hw1 : (wipe σ [3]).set 3 (some (.str (tx x))) = σ.set 3 (some (.str (tx x))))
    (hw2 : ∀ y, wipe ((wipe σ [3]).set 3 (some y)) [3] = wipe σ [3]) (h3 : (σ.set 3 (some (V.str (tx x))))[3]? = some (some (.str (tx x)))) (h4 : (σ.set 3 (some (V.str (tx x))))[1]? = some (some (.ref pa))) (hx : Ev te σ H (.str (tx x))) :
    EvL (tOp rCat (tVar 1) (tLc (iList K (tLst (tCons te tNil))) (gName 3) (tTest (tOp (rIn K true) (tVar 3) (tVar 1))) (tVar 3) [3])) σ H (vtx (add1 pp x)) := by
  have key := el_lcNL (K := K) (σ := σ) (H := H) (xs := [.str (tx x)]) (tl := tLst (tCons te tNil)) (j := 3) (vs := [3]) (t := tTest (tOp (rIn K true) (tVar 3) (tVar 1))) (te := tVar 3) (fun _ => decide (x ∉ pp)) (fun _ => V.str (tx x)) (el_lst (ea_cons hx ea_nil) (by show 1 ≤ 100000; omega)) (by show 1 ≤ 40000; omega) hw2
    (fun i y H1 e1 hi => by
      have : y = .str (tx x) := by
        cases i with
        | zero => exact (Option.some.inj hi).symm
        | succ i => cases hi
      subst this
      rw [hw1]
      exact et_test (ev_is (ev_op (ev_var h3) (ev_var h4) (rv_niL (sq_of (e1 _ _ hp)) rfl (flat_vtx pp))) (by rw [inV_vtx]; congr 1; by_cases z : x ∈ pp <;> simp [z])))
    (fun i y H1 e1 hi _ => by
      have : y = .str (tx x) := by
        cases i with
        | zero => exact (Option.some.inj hi).symm
        | succ i => cases hi
      subst this
      rw [hw1]
      exact ev_var h3)
  have hv : vtx (add1 pp x) = vtx pp ++ (if decide (x ∉ pp) = true then [V.str (tx x)] else []) := by
    unfold add1
    rw [vtx_app]
    congr 1
    split <;> rfl
  rw [hv]
  refine el_catA (ev_var h1) hp ?_ ?_
  · rw [← given_one]
    exact key
  · rw [vtx_len]
    split
    · show pp.length + 1 ≤ 100000; omega
    · show pp.length + 0 ≤ 100000; omega
theorem ok_ln {f : Addr} {fd : FuncData} (F : FnP K "_law_window_net" sLn f fd) (mSorted : mg "sorted" = none) (mStr : mg "str" = none) :
    FnOk P w K mg base L2.CX0 1 f fd ["_law_words"] (spLn K) := by
  refine F.ok (CX := L2.CX0) scLn (fun vs H Q E h => ?_) (fun cdv A outer s H vs Q E hr h => ?_)
  · obtain ⟨t, ws, rfl, _⟩ := h
    rfl
  · refine ⟨_, (pss_cons (ps_set (i := 1) scLn.nd rfl (by first | exact Or.inl rfl | exact Or.inr rfl) (pe_lst pa_nil))
      (pss_cons (ps_for (passes_of rfl) rfl (pi_list (pv 0)) (pg_name (i := 2) scLn.nd rfl (by first | exact Or.inl rfl | exact Or.inr rfl)) (pss_cons (ps_set (i := 1) scLn.nd rfl (by first | exact Or.inl rfl | exact Or.inr rfl) (pe_op op_cat (pv 1) (pe_lc (own := [("_law_post", 3)]) (g := (gName 3)) (tt := (tTest (tOp (rIn K true) (tVar 3) (tVar 1)))) (te := (tVar 3)) rfl scLn.nd (pi_list (pe_lst (pa_cons (pe_slice sl_str (pv 2) po_none (po_some (pe_un un_neg pe_int))) pa_nil))) (blkOk_by (own := [("_law_post", 3)]) (N := nLn) (sc := defScope sLn) (by decide +kernel)) (fun _ _ _ _ _ => (pg_name (i := 3) scLn.nd rfl (by first | exact Or.inl rfl | exact Or.inr rfl))) (fun _ _ _ _ _ => (pts_one (pt_cmpR op_notIn_seq (pv 3) (pv 1) rfl))) (fun _ _ _ _ _ => (pv 3)))))
      (pss_one (ps_set (i := 1) scLn.nd rfl (by first | exact Or.inl rfl | exact Or.inr rfl) (pe_op op_cat (pv 1) (pe_lc (own := [("_law_post", 3)]) (g := (gName 3)) (tt := (tTest (tOp (rIn K true) (tVar 3) (tVar 1)))) (te := (tVar 3)) rfl scLn.nd (pi_list (pe_lst (pa_cons (pe_slice sl_str (pv 2) (po_some pe_int) po_none) pa_nil))) (blkOk_by (own := [("_law_post", 3)]) (N := nLn) (sc := defScope sLn) (by decide +kernel)) (fun _ _ _ _ _ => (pg_name (i := 3) scLn.nd rfl (by first | exact Or.inl rfl | exact Or.inr rfl))) (fun _ _ _ _ _ => (pts_one (pt_cmpR op_notIn_seq (pv 3) (pv 1) rfl))) (fun _ _ _ _ _ => (pv 3))))))))
      (pss_one (ps_ret (pe_lst (pa_cons (pe_callB cr_sortedS (by rfl) mSorted boot_sorted (pa_cons (pe_lc (own := [("_law_post", 3)]) (g := (gName 3)) (tt := tYes) (te := tCB (fun xs H Q => ∃ a, xs = [.str a] ∧ Q (.str a) H) (tCons (tVar 3) tNil)) rfl scLn.nd (pi_list (pv 1)) (blkOk_by (own := [("_law_post", 3)]) (N := nLn) (sc := defScope sLn) (by decide +kernel)) (fun _ _ _ _ _ => (pg_name (i := 3) scLn.nd rfl (by first | exact Or.inl rfl | exact Or.inr rfl))) (fun _ _ _ _ _ => pts_nil) (fun _ _ _ _ _ => (pe_callTy SkE.call_str_str (by rfl) mStr boot_str (pa_cons (pv 3) pa_nil)))) pa_nil)) (pa_cons (pe_lc (own := [("_law_word", 2)]) (g := (gName 2)) (tt := tYes) (te := (tTup (tCons (tVar 2) (tCons (tSl rSlS (tVar 2) tNoPart (tPart (tUn (rU fun i => .int (-i)) (tC (.int 1))))) (tCons (tSl rSlS (tVar 2) (tPart (tC (.int 1))) tNoPart) tNil))))) rfl scLn.nd (pi_list (pv 0)) (blkOk_by (own := [("_law_word", 2)]) (N := nLn) (sc := defScope sLn) (by decide +kernel)) (fun _ _ _ _ _ => (pg_name (i := 2) scLn.nd rfl (by first | exact Or.inl rfl | exact Or.inr rfl))) (fun _ _ _ _ _ => pts_nil) (fun _ _ _ _ _ => (pe_tup (pa_cons (pv 2) (pa_cons (pe_slice sl_str (pv 2) po_none (po_some (pe_un un_neg pe_int))) (pa_cons (pe_slice sl_str (pv 2) (po_some pe_int) po_none) pa_nil)))))) pa_nil))))))), ?_⟩
    obtain ⟨t, ws, rfl, ht, hl, hwl, hfew, k⟩ := h
    refine s_seq ?_
    refine s_asgL (xs := vtx []) (el_lst ea_nil (by decide)) fun pa H1 npa e1 hpa => ?_
    dsimp only
    refine s_seq ?_
    refine s_forL (a := t) (ev_var rfl) (sq_of (e1 _ _ ht)) (fun i st H' => ∃ pa pp t2, st = [some (.ref t), some (.ref pa), t2, none] ∧ Ex H H' ∧ H' pa = some (.lst (vtx pp)) ∧ pp.Nodup ∧ (∀ y, y ∈ pp ↔ y ∈ ends (ws.take i)) ∧ pp.length ≤ 2 * i)
      (fun H2 e2 => ⟨pa, [], none, rfl, e1.trans e2, e2 _ _ hpa, .nil, fun y => by rw [List.take_zero]; exact Iff.rfl, Nat.zero_le _⟩) (fun i st H' _ ⟨_, _, _, _, e, _⟩ => sq_of (e _ _ ht)) ?_ ?_
    · rintro i x st H2 hx ⟨pa, pp, t2, rfl, e2, hpa, hnd, hmem, hlen⟩
      unfold vtx at hx
      rw [List.getElem?_map] at hx
      obtain ⟨l, hl0, rfl⟩ := Option.map_eq_some_iff.mp hx
      have hi := (List.getElem?_eq_some_iff.mp hl0).1
      obtain ⟨l1, l2⟩ := hwl l (List.mem_of_getElem? hl0)
      show tSeq _ _ _ [some (.ref t), some (.ref pa), some (.str (tx l)), none] H2
      refine s_seq ?_
      refine s_asgL (xs := vtx (add1 pp (fst1 l))) (el_add (K := K) rfl hpa (by omega) rfl (fun _ => rfl) rfl rfl (ev_fst (ev_var rfl) l1 (by omega))) fun pb H3 npb e3 hpb => ?_
      dsimp only
      have hlb := add1_len pp (fst1 l)
      refine s_asgL (xs := vtx (add1 (add1 pp (fst1 l)) (l.drop 1))) (el_add (K := K) rfl hpb (by omega) rfl (fun _ => rfl) rfl rfl (ev_lst1 (ev_var rfl) (by omega))) fun pc H4 npc e4 hpc => ?_
      have hlc := add1_len (add1 pp (fst1 l)) (l.drop 1)
      refine ⟨pc, _, _, rfl, (e2.trans e3).trans e4, hpc, add1_nd (add1_nd hnd), fun y => ?_, by omega⟩
      have htk : ws.take (i + 1) = ws.take i ++ [l] := by rw [List.take_succ, hl0]; rfl
      rw [add1_mem, add1_mem, hmem, htk]
      unfold ends
      simp only [List.map_append, List.mem_append, List.map_cons, List.map_nil, List.mem_singleton, List.mem_map]
      constructor
      · rintro ((h | h) | h)
        · rcases h with h | h
          · exact .inl (.inl h)
          · exact .inr (.inl h)
        · exact .inl (.inr h)
        · exact .inr (.inr h)
      · rintro ((h | h) | (h | h))
        · exact .inl (.inl (.inl h))
        · exact .inl (.inr h)
        · exact .inl (.inl (.inr h))
        · exact .inr h
    · rintro st H2 ⟨pa, pp, t2, rfl, e2, hpa, hnd, hmem, hlen⟩
      rw [vtx_len] at hlen hmem
      rw [List.take_length] at hmem
      dsimp only
      have key := el_lcM (K := K) (σ := [some (.ref t), some (.ref pa), t2, none]) (H := H2) (ys := pp) (g := fun l => V.str (tx l)) (tl := tVar 1) (j := 3) (vs := [3]) (te := tCB (fun xs H Q => ∃ a, xs = [.str a] ∧ Q (.str a) H) (tCons (tVar 3) tNil)) (fun l => V.str (tx l)) (ev_var rfl) (sq_of hpa) (by omega) (fun _ => rfl) (fun l H1 e hm => fun H5 e5 Q q => ⟨_, rfl, tx l, rfl, q H5 (Ex.refl _)⟩)
      unfold tRet tLst
      refine s_cons (s_cb (s_cons (key H2 (Ex.refl _) _ fun p H3 np e3 hp => s_nil ?_)))
      have hpl : pp.length ≤ 60 := by
        have : pp.length = (dd (ends ws)).length := (perm_of hnd (dd_nd _) fun k => (hmem k).trans dd_mem.symm).length_eq
        unfold Few at hfew
        omega
      refine so_of (sq_of hp) hnd (by omega) fun p2 ys H4 n2 e4 h2 hS => ?_
      refine s_cons ?_
      have e24 := (e2.trans e3).trans e4
      have key2 := Vlp.ep_lcA (K := K) (σ := [some (.ref t), some (.ref pa), t2, none]) (H := H4) (ys := ws) (g := fun l => V.str (tx l)) (a := t) (tl := tVar 0) (j := 2) (vs := [2]) (tt := tYes) (te := (tTup (tCons (tVar 2) (tCons (tSl rSlS (tVar 2) tNoPart (tPart (tUn (rU fun i => .int (-i)) (tC (.int 1))))) (tCons (tSl rSlS (tVar 2) (tPart (tC (.int 1))) tNoPart) tNil))))) (R := fun w v H => RowP w v H) (fun _ => true) (fun _ => stay_P) (ev_var rfl) (sq_of (e24 _ _ ht)) (by omega) (fun _ => rfl) (fun l H1 e hm => et_yes) (fun l H1 e hm _ => by
        obtain ⟨l1, l2⟩ := hwl l hm
        exact ep_P (w := l) (eu_tup (ea_cons (ev_var rfl) (ea_cons (ev_fst (ev_var rfl) l1 (by omega)) (ea_cons (ev_lst1 (ev_var rfl) (by omega)) ea_nil))) (by show 3 ≤ 100000; omega)))
      rw [List.filter_eq_self.mpr (fun _ _ => rfl)] at key2
      refine key2 H4 (Ex.refl _) _ fun p3 rs H5 n3 e5 h3 hall => s_nil ⟨by show 2 ≤ sizeLine; decide, fun q nq => ?_⟩
      have e6 := Ex.new (H := H5) (o := .lst [.ref p2, .ref p3]) nq
      exact k q p2 p3 ys rs _ ((e24.trans e5).trans e6) upd_same (e6 _ _ (e5 _ _ h2)) (hS.of hmem) (e6 _ _ h3) (hall.imp fun w v hv => stay_P.ex e6 hv)
end
end K61

set_option Elab.async false
set_option linter.all false
set_option maxRecDepth 100000
set_option maxHeartbeats 2000000
/-! What is reached on a graph; a search that goes through its own list. -/
namespace Vrc
variable {α : Type}
inductive Reach (E : α → α → Prop) (a : α) : α → Prop
  | refl : Reach E a a
  | step {b c : α} : Reach E a b → E b c → Reach E a c
theorem Reach.trans {E : α → α → Prop} {a b c : α} (h : Reach E a b) (h2 : Reach E b c) : Reach E a c := by
  induction h2 with
  | refl => exact h
  | step _ e ih => exact .step ih e
theorem Reach.one {E : α → α → Prop} {a b : α} (e : E a b) : Reach E a b := .step .refl e
theorem Reach.mono {E F : α → α → Prop} (h : ∀ x y, E x y → F x y) {a b : α} (r : Reach E a b) : Reach F a b := by
  induction r with
  | refl => exact .refl
  | step _ e ih => exact .step ih (h _ _ e)
/-- ks is what has been found, the first j of it looked at -/
structure Bfs (E : α → α → Prop) (a : α) (ks : List α) (j : Nat) : Prop where
  nd : ks.Nodup
  src : a ∈ ks
  re : ∀ b ∈ ks, Reach E a b
  cl : ∀ (i : Nat) (b : α), i < j → ks[i]? = some b → ∀ c, E b c → c ∈ ks
theorem Bfs.start {E : α → α → Prop} (a : α) : Bfs E a [a] 0 := ⟨List.nodup_cons.mpr ⟨(fun h => nomatch h), List.nodup_nil⟩, List.mem_cons_self, fun b hb => by rw [List.mem_singleton.mp hb]; exact .refl, fun i b hi => absurd hi (Nat.not_lt_zero i)⟩
theorem Bfs.add {E : α → α → Prop} {a b c : α} {ks : List α} {j : Nat} (h : Bfs E a ks j) (hj : j ≤ ks.length) (hb : b ∈ ks) (e : E b c) (hc : c ∉ ks) : Bfs E a (ks ++ [c]) j := by
  refine ⟨?_, List.mem_append_left _ h.src, fun x hx => ?_, fun i x hi hx y hy => ?_⟩
  · rw [List.nodup_append]
    exact ⟨h.nd, List.nodup_cons.mpr ⟨(fun h => nomatch h), List.nodup_nil⟩, fun u hu v hv z => hc (by rw [← List.mem_singleton.mp hv, ← z]; exact hu)⟩
  · rcases List.mem_append.mp hx with hx | hx
    · exact h.re x hx
    · rw [List.mem_singleton.mp hx]
      exact .step (h.re b hb) e
  · rw [List.getElem?_append_left (by omega)] at hx
    exact List.mem_append_left _ (h.cl i x hi hx y hy)
theorem Bfs.next {E : α → α → Prop} {a b : α} {ks : List α} {j : Nat} (h : Bfs E a ks j) (hb : ks[j]? = some b) (hc : ∀ c, E b c → c ∈ ks) : Bfs E a ks (j + 1) :=
  ⟨h.nd, h.src, h.re, fun i x hi hx y hy => by
    by_cases hij : i < j
    · exact h.cl i x hij hx y hy
    · obtain rfl : i = j := by omega
      rw [hb] at hx
      rw [← Option.some.inj hx] at hy
      exact hc y hy⟩
theorem Bfs.done {E : α → α → Prop} {a : α} {ks : List α} {j : Nat} (h : Bfs E a ks j) (hj : ks.length ≤ j) (b : α) : b ∈ ks ↔ Reach E a b := by
  refine ⟨h.re b, fun r => ?_⟩
  induction r with
  | refl => exact h.src
  | step _ e ih =>
    obtain ⟨i, hi⟩ := List.getElem?_of_mem ih
    have := (List.getElem?_eq_some_iff.mp hi).1
    exact h.cl i _ (by omega) hi _ e
theorem few_of {ks ps : List α} (nd : ks.Nodup) (h : ∀ b ∈ ks, b ∈ ps) : ks.length ≤ ps.length := nd.length_le_of_subset h
end Vrc

set_option Elab.async false
set_option linter.all false
set_option maxRecDepth 100000
set_option maxHeartbeats 2000000
/-! Ways with their lanes: a search by width finds shortest ones. -/
namespace Vwy
variable {α β : Type}
inductive Wk (E : β → α → α → Prop) (a : α) : α → List β → Prop
  | nil : Wk E a a []
  | snoc {b c : α} {l : β} {ls : List β} : Wk E a b ls → E l b c → Wk E a c (ls ++ [l])
/-- a shortest way -/
structure Best (E : β → α → α → Prop) (a b : α) (ls : List β) : Prop where
  wk : Wk E a b ls
  le : ∀ ls', Wk E a b ls' → ls.length ≤ ls'.length
theorem Best.len {E : β → α → α → Prop} {a b : α} {ls ls' : List β} (h : Best E a b ls) (h' : Best E a b ls') : ls.length = ls'.length := Nat.le_antisymm (h.le _ h'.wk) (h'.le _ h.wk)
structure Lev (E : β → α → α → Prop) (a : α) (ws : List (α × List β)) (j : Nat) : Prop where
  mono : ∀ (i k : Nat) x y, i ≤ k → ws[i]? = some x → ws[k]? = some y → x.2.length ≤ y.2.length
  bound : ∀ x, ws[j]? = some x → ∀ y ∈ ws, y.2.length ≤ x.2.length + 1
  src : (a, ([] : List β)) ∈ ws
  wk : ∀ x ∈ ws, Wk E a x.1 x.2
  cl : ∀ (i : Nat) x, i < j → ws[i]? = some x → ∀ l c, E l x.1 c → ∃ y ∈ ws, y.1 = c ∧ y.2.length ≤ x.2.length + 1
theorem Lev.start {E : β → α → α → Prop} (a : α) : Lev E a [(a, [])] 0 :=
  ⟨fun i k x y hik hx hy => by
    have hi : i = 0 := by
      have := (List.getElem?_eq_some_iff.mp hx).1
      rw [List.length_singleton] at this
      omega
    have hk : k = 0 := by
      have := (List.getElem?_eq_some_iff.mp hy).1
      rw [List.length_singleton] at this
      omega
    rw [hi] at hx
    rw [hk, hx] at hy
    rw [Option.some.inj hy]
    exact Nat.le_refl _,
   fun x hx y hy => by rw [List.mem_singleton.mp hy]; exact Nat.zero_le _, List.mem_singleton.mpr rfl,
   fun x hx => by rw [List.mem_singleton.mp hx]; exact .nil, fun i x hi => absurd hi (Nat.not_lt_zero i)⟩
theorem Lev.add {E : β → α → α → Prop} {a b c : α} {l : β} {ls : List β} {ws : List (α × List β)} {j : Nat} (h : Lev E a ws j) (hj : ws[j]? = some (b, ls)) (e : E l b c) : Lev E a (ws ++ [(c, ls ++ [l])]) j := by
  have hjl := (List.getElem?_eq_some_iff.mp hj).1
  have hbd := h.bound _ hj
  have hlen : (ls ++ [l]).length = ls.length + 1 := by rw [List.length_append]; rfl
  refine ⟨fun i k x y hik hx hy => ?_, fun x hx y hy => ?_, List.mem_append_left _ h.src, fun x hx => ?_, fun i x hi hx l' c' he => ?_⟩
  · by_cases hk : k < ws.length
    · rw [List.getElem?_append_left (by omega)] at hx
      rw [List.getElem?_append_left hk] at hy
      exact h.mono i k x y hik hx hy
    · have hkl : k = ws.length := by
        have := (List.getElem?_eq_some_iff.mp hy).1
        rw [List.length_append, List.length_singleton] at this
        omega
      rw [hkl, List.getElem?_append_right (Nat.le_refl _), Nat.sub_self] at hy
      have hy2 : (c, ls ++ [l]) = y := Option.some.inj hy
      rw [← hy2]
      show x.2.length ≤ (ls ++ [l]).length
      rw [hlen]
      by_cases hi : i < ws.length
      · rw [List.getElem?_append_left hi] at hx
        exact hbd x (List.mem_of_getElem? hx)
      · have hil : i = ws.length := by omega
        rw [hil, List.getElem?_append_right (Nat.le_refl _), Nat.sub_self] at hx
        have hx2 : (c, ls ++ [l]) = x := Option.some.inj hx
        rw [← hx2]
        show (ls ++ [l]).length ≤ _
        omega
  · rw [List.getElem?_append_left hjl, hj] at hx
    rw [← Option.some.inj hx]
    rcases List.mem_append.mp hy with hy | hy
    · exact hbd y hy
    · rw [List.mem_singleton.mp hy]
      show (ls ++ [l]).length ≤ ls.length + 1
      omega
  · rcases List.mem_append.mp hx with hx | hx
    · exact h.wk x hx
    · rw [List.mem_singleton.mp hx]
      exact .snoc (h.wk _ (List.mem_of_getElem? hj)) e
  · rw [List.getElem?_append_left (by omega)] at hx
    obtain ⟨y, hy, h1, h2⟩ := h.cl i x hi hx l' c' he
    exact ⟨y, List.mem_append_left _ hy, h1, h2⟩
theorem Lev.next {E : β → α → α → Prop} {a b : α} {ls : List β} {ws : List (α × List β)} {j : Nat} (h : Lev E a ws j) (hj : ws[j]? = some (b, ls)) (hc : ∀ l c, E l b c → c ∈ ws.map fun w => w.1) : Lev E a ws (j + 1) := by
  refine ⟨h.mono, fun x hx y hy => ?_, h.src, h.wk, fun i x hi hx l c he => ?_⟩
  · have h1 := h.bound _ hj y hy
    have h2 := h.mono j (j + 1) _ x (Nat.le_succ j) hj hx
    omega
  · by_cases hij : i < j
    · exact h.cl i x hij hx l c he
    · obtain rfl : i = j := by omega
      rw [hj] at hx
      have hx2 : (b, ls) = x := Option.some.inj hx
      rw [← hx2] at he ⊢
      obtain ⟨y, hy, rfl⟩ := List.mem_map.mp (hc l c he)
      exact ⟨y, hy, rfl, h.bound _ hj y hy⟩
theorem Lev.done {E : β → α → α → Prop} {a : α} {ws : List (α × List β)} {j : Nat} (h : Lev E a ws j) (hj : ws.length ≤ j) (nd : (ws.map fun w => w.1).Nodup) : ∀ x ∈ ws, Best E a x.1 x.2 := by
  have own : ∀ x ∈ ws, ∀ y ∈ ws, x.1 = y.1 → x = y := fun x hx y hy e => by
    obtain ⟨i, hi⟩ := List.getElem?_of_mem hx
    obtain ⟨k, hk⟩ := List.getElem?_of_mem hy
    have h1 : (ws.map fun w => w.1)[i]? = some x.1 := by rw [List.getElem?_map, hi]; rfl
    have h2 : (ws.map fun w => w.1)[k]? = some x.1 := by rw [List.getElem?_map, hk, e]; rfl
    have l1 := (List.getElem?_eq_some_iff.mp h1)
    have l2 := (List.getElem?_eq_some_iff.mp h2)
    have : i = k := L2.nd_ix nd h1 h2
    rw [this, hk] at hi
    exact (Option.some.inj hi).symm
  have key : ∀ b ls', Wk E a b ls' → ∃ y ∈ ws, y.1 = b ∧ y.2.length ≤ ls'.length := fun b ls' w => by
    induction w with
    | nil => exact ⟨_, h.src, rfl, Nat.le_refl _⟩
    | snoc _ e ih =>
      obtain ⟨y, hy, h1, h2⟩ := ih
      obtain ⟨i, hi⟩ := List.getElem?_of_mem hy
      have hlt := (List.getElem?_eq_some_iff.mp hi).1
      obtain ⟨z, hz, h3, h4⟩ := h.cl i y (by omega) hi _ _ (by rw [h1]; exact e)
      refine ⟨z, hz, h3, ?_⟩
      rw [List.length_append, List.length_singleton]
      omega
  intro x hx
  refine ⟨h.wk x hx, fun ls' w => ?_⟩
  obtain ⟨y, hy, h1, h2⟩ := key _ _ w
  rw [own x hx y hy h1.symm]
  exact h2
end Vwy

set_option Elab.async false
set_option linter.all false
set_option maxRecDepth 100000
set_option maxHeartbeats 2000000
/-! A text that is known by its windows: as many windows as shorter ones. -/
namespace Vtx
open PySem PySem.Spec PyProof.Rows L2 Vl Evl Vp Ven Vwy Vrc
def fs1 (w : List Nat) : List Nat := w.take (w.length - 1)
theorem wn_fst {t : List Nat} {s k : Nat} : fs1 (wn t s k) = wn t (s - 1) k := by
  unfold fs1
  rw [wn_len]
  apply List.ext_getElem?
  intro i
  by_cases hi : i < s - 1
  · rw [List.getElem?_take, if_pos hi, wn_get (by omega), wn_get hi]
  · rw [List.getElem?_take, if_neg hi, List.getElem?_eq_none (by rw [wn_len]; omega)]
theorem wn_snd {t : List Nat} {s k : Nat} (hs : 1 ≤ s) : (wn t s k).drop 1 = wn t (s - 1) (k + 1) := by
  rw [wn_next hs]
  have := wn_fst (t := t) (s := s) (k := k + 1)
  unfold fs1 at this
  rw [wn_len] at this
  exact this
theorem wn_in {t : List Nat} {s k : Nat} (h : 1 ≤ t.length) : wn t s k ∈ wns t s := wns_mem.mpr ⟨k % t.length, Nat.mod_lt _ h, wn_mod.symm⟩
theorem goes_get {t : List Nat} (h : 1 ≤ t.length) (i : Nat) : Vq.goes t i = some (t.getD (i % t.length) 0) := by
  unfold Vq.goes
  have hi := Nat.mod_lt i (show 0 < t.length by omega)
  rw [List.getD_eq_getElem?_getD, List.getElem?_eq_getElem hi]
  rfl
theorem wn_head {t : List Nat} {s k : Nat} (hs : 1 ≤ s) : (wn t s k).getD 0 0 = t.getD (k % t.length) 0 := by
  rw [List.getD_eq_getElem?_getD, wn_get (show 0 < s by omega), Nat.add_zero]
  rfl
/-- as many windows of s letters as of s - 1: a window is known by its first letters -/
theorem known {t : List Nat} {s : Nat} (h1 : 1 ≤ t.length) (hc : (dd (wns t (s - 1))).length = (dd (wns t s)).length) {w w' : List Nat} (hw : w ∈ wns t s) (hw' : w' ∈ wns t s) (h : fs1 w = fs1 w') : w = w' := by
  refine Classical.byContradiction fun hne => ?_
  have m1 := dd_mem.mpr hw
  have m2 := dd_mem.mpr hw'
  have hle : (dd (wns t (s - 1))).length ≤ (((dd (wns t s)).erase w).map fs1).length := nodup_le (dd_nd _) fun y hy => by
    obtain ⟨k, hk, rfl⟩ := wns_mem.mp (dd_mem.mp hy)
    rw [← wn_fst]
    have hin : wn t s k ∈ dd (wns t s) := dd_mem.mpr (wn_in h1)
    by_cases e : wn t s k = w
    · rw [e, h]
      exact List.mem_map_of_mem ((List.mem_erase_of_ne (fun z => hne z.symm)).mpr m2)
    · exact List.mem_map_of_mem ((List.mem_erase_of_ne e).mpr hin)
  rw [List.length_map, List.length_erase_of_mem m1] at hle
  have := List.length_pos_of_mem m1
  omega
/-- a walk on the windows goes along the text -/
theorem walk_text {t : List Nat} {s k0 : Nat} {E : List Nat → List Nat → List Nat → Prop} (h1 : 1 ≤ t.length) (hs : 1 ≤ s) (hc : (dd (wns t (s - 1))).length = (dd (wns t s)).length) (hE : ∀ l a b, E l a b → l ∈ wns t s ∧ a = fs1 l ∧ b = l.drop 1)
    {b : List Nat} {ls : List (List Nat)} (h : Wk E (wn t (s - 1) k0) b ls) : b = wn t (s - 1) (k0 + ls.length) ∧ ∀ i, i < ls.length → ls[i]? = some (wn t s (k0 + i)) := by
  induction h with
  | nil => exact ⟨rfl, fun i hi => absurd hi (Nat.not_lt_zero i)⟩
  | @snoc b c l ls hw e ih =>
    obtain ⟨hb, hl⟩ := ih
    obtain ⟨e1, e2, e3⟩ := hE l b c e
    have hlw : l = wn t s (k0 + ls.length) := known h1 hc e1 (wn_in h1) (by rw [← e2, hb, wn_fst])
    refine ⟨?_, fun i hi => ?_⟩
    · rw [e3, hlw, wn_snd hs, List.length_append, List.length_singleton, Nat.add_assoc]
    · rw [List.length_append, List.length_singleton] at hi
      by_cases h : i < ls.length
      · rw [List.getElem?_append_left h]
        exact hl i h
      · have : i = ls.length := by omega
        subst this
        rw [List.getElem?_append_right (Nat.le_refl _), Nat.sub_self, hlw]
        rfl
/-- windows that are once the same go on so -/
theorem same_on {t : List Nat} {s : Nat} (h1 : 1 ≤ t.length) (hs : 2 ≤ s) (hc : (dd (wns t (s - 1))).length = (dd (wns t s)).length) {a b : Nat} (h : wn t (s - 1) a = wn t (s - 1) b) : ∀ i, wn t (s - 1) (a + i) = wn t (s - 1) (b + i)
  | 0 => h
  | i + 1 => by
    have ih := same_on h1 hs hc h i
    have : wn t s (a + i) = wn t s (b + i) := known h1 hc (wn_in h1) (wn_in h1) (by rw [wn_fst, wn_fst, ih])
    have h2 := congrArg (fun w : List Nat => w.drop 1) this
    try simp only at h2
    rw [wn_snd (by omega), wn_snd (by omega)] at h2
    exact h2
/-- the letters of a closed walk: the text's own, gone a while -/
theorem tour_per {t : List Nat} {s k0 m : Nat} (h1 : 1 ≤ t.length) (hs : 2 ≤ s) (hc : (dd (wns t (s - 1))).length = (dd (wns t s)).length) (h : wn t (s - 1) (k0 + m) = wn t (s - 1) k0) : Vq.Per (Vq.goes t) m := fun i => by
  have key : ∀ j, Vq.goes t (k0 + m + j) = Vq.goes t (k0 + j) := fun j => by
    have := congrArg (fun w : List Nat => w.getD 0 0) (same_on h1 hs hc h j)
    try simp only at this
    rw [wn_head (by omega), wn_head (by omega)] at this
    rw [goes_get h1, goes_get h1, this]
  have hp := Vq.per_len t
  have hb : k0 ≤ i + t.length * k0 := Nat.le_trans (Nat.le_mul_of_pos_left k0 (show 0 < t.length by omega)) (Nat.le_add_left _ _)
  have e1 : Vq.goes t (i + m) = Vq.goes t (i + m + t.length * k0) := (hp.mul k0 (i + m)).symm
  have e2 : Vq.goes t i = Vq.goes t (i + t.length * k0) := (hp.mul k0 i).symm
  rw [e1, e2]
  have := key (i + t.length * k0 - k0)
  rw [show k0 + m + (i + t.length * k0 - k0) = i + m + t.length * k0 by omega, show k0 + (i + t.length * k0 - k0) = i + t.length * k0 by omega] at this
  exact this
theorem goes_shift {t o : List Nat} {k0 : Nat} (h1 : 1 ≤ t.length) (hm : 1 ≤ o.length) (hp : Vq.Per (Vq.goes t) o.length) (ho : ∀ i, i < o.length → o[i]? = some (t.getD ((k0 + i) % t.length) 0)) (i : Nat) : Vq.goes o i = Vq.goes t (k0 + i) := by
  have hi := Nat.mod_lt i (show 0 < o.length by omega)
  unfold Vq.goes
  rw [ho _ hi, ← goes_get h1]
  have : Vq.goes t (k0 + i) = Vq.goes t (k0 + i % o.length) := by
    have := hp.mul (i / o.length) (k0 + i % o.length)
    rw [← this]
    congr 1
    have := Nat.mod_add_div i o.length
    omega
  show _ = Vq.goes t (k0 + i)
  rw [this]
theorem per_back {t o : List Nat} {k0 q : Nat} (h1 : 1 ≤ t.length) (hg : ∀ i, Vq.goes o i = Vq.goes t (k0 + i)) (h : Vq.Per (Vq.goes o) q) : Vq.Per (Vq.goes t) q := fun i => by
  have hp := Vq.per_len t
  have hb : k0 ≤ i + t.length * k0 := Nat.le_trans (Nat.le_mul_of_pos_left k0 (show 0 < t.length by omega)) (Nat.le_add_left _ _)
  have e1 : Vq.goes t (i + q) = Vq.goes t (i + q + t.length * k0) := (hp.mul k0 (i + q)).symm
  have e2 : Vq.goes t i = Vq.goes t (i + t.length * k0) := (hp.mul k0 i).symm
  rw [e1, e2]
  have := h (i + t.length * k0 - k0)
  rw [hg, hg, show k0 + (i + t.length * k0 - k0 + q) = i + q + t.length * k0 by omega, show k0 + (i + t.length * k0 - k0) = i + t.length * k0 by omega] at this
  exact this
/-- the same shortest text -/
theorem root_tour {t o : List Nat} {k0 r : Nat} (h1 : 1 ≤ t.length) (hm : 1 ≤ o.length) (hp : Vq.Per (Vq.goes t) o.length) (hg : ∀ i, Vq.goes o i = Vq.goes t (k0 + i)) (h : Vq.Rt t r) : Vq.Rt o r := by
  obtain ⟨hd, hpr⟩ := (Vq.siz_iff h1 h.1.1).mp h.1
  have hr1 := h.1.1
  have least : ∀ q, 1 ≤ q → Vq.Per (Vq.goes t) q → r ≤ q ∧ r ∣ q := fun q hq hpq => by
    have g := Vq.Per.gcd q r hpq hpr
    have g1 : 1 ≤ Nat.gcd q r := Nat.gcd_pos_of_pos_left _ hq
    have gr : Nat.gcd q r ∣ r := Nat.gcd_dvd_right _ _
    have gle : Nat.gcd q r ≤ r := Nat.le_of_dvd hr1 gr
    have : ¬ Nat.gcd q r < r := fun z => h.2 _ g1 z ((Vq.siz_iff h1 g1).mpr ⟨Nat.dvd_trans gr hd, g⟩)
    have he : Nat.gcd q r = r := by omega
    have hdq : r ∣ q := by rw [← he]; exact Nat.gcd_dvd_left _ _
    exact ⟨Nat.le_of_dvd hq hdq, hdq⟩
  refine ⟨(Vq.siz_iff hm hr1).mpr ⟨(least _ hm hp).2, fun i => ?_⟩, fun q hq hqr hz => ?_⟩
  · rw [hg, hg, ← Nat.add_assoc, hpr]
  · have := (Vq.siz_iff hm hq).mp hz
    have := (least q hq (per_back h1 hg this.2)).1
    omega
theorem root_rot {t o : List Nat} {k0 r : Nat} (h1 : 1 ≤ t.length) (hm : 1 ≤ o.length) (hg : ∀ i, Vq.goes o i = Vq.goes t (k0 + i)) (h : Vq.Rt t r) (h' : Vq.Rt o r) : (o.take r).length = (t.take r).length ∧ o.take r = rt (t.take r) (k0 % r) := by
  have hr1 := h.1.1
  obtain ⟨hd, hpr⟩ := (Vq.siz_iff h1 hr1).mp h.1
  have hrt := h.le h1
  have hro := h'.le hm
  have l1 : (o.take r).length = r := by rw [List.length_take]; omega
  have l2 : (t.take r).length = r := by rw [List.length_take]; omega
  have hk := Nat.mod_lt k0 (show 0 < r by omega)
  refine ⟨by rw [l1, l2], ?_⟩
  apply List.ext_getElem?
  intro i
  by_cases hi : i < r
  · have e1 : (o.take r)[i]? = Vq.goes o i := by
      unfold Vq.goes
      rw [List.getElem?_take, if_pos hi, Nat.mod_eq_of_lt (by omega)]
    have hrl : (rt (t.take r) (k0 % r)).length = r := by rw [rt_len (by rw [l2]; omega), l2]
    have e2 : (rt (t.take r) (k0 % r))[i]? = some ((rt (t.take r) (k0 % r)).getD i 0) := by
      rw [List.getD_eq_getElem?_getD, List.getElem?_eq_getElem (by rw [hrl]; exact hi)]
      rfl
    rw [e1, e2, rt_get (by rw [l2]; omega) (by rw [l2]; exact hi), l2, hg, ← hpr.mod (k0 + i)]
    have hj : (i + k0 % r) % r = (k0 + i) % r := by rw [Nat.add_mod_mod, Nat.add_comm]
    rw [hj]
    have hlt := Nat.mod_lt (k0 + i) (show 0 < r by omega)
    rw [goes_get h1, Nat.mod_eq_of_lt (show (k0 + i) % r < t.length by omega)]
    congr 1
    rw [List.getD_eq_getElem?_getD, List.getD_eq_getElem?_getD, List.getElem?_take, if_pos hlt]
  · rw [List.getElem?_eq_none (by omega), List.getElem?_eq_none (by rw [rt_len (by rw [l2]; omega), l2]; omega)]
/-! long texts, repeated; a text in a text -/
def rRepM : R2 := fun x y H Q => ∃ (l : List Nat) (k : Nat), x = .str (tx l) ∧ y = .int (k : Nat) ∧ l.length ≤ 4000 ∧ k ≤ 4000 ∧ Q (.str (tx (Vq.rp k l))) H
theorem op_repM {X : Cx} : OpR X (binaryOp .Mult) rRepM := by
  intro pins s σ H x y v u Q I rx ry h
  obtain ⟨l, k, rfl, rfl, hl, hk, q⟩ := h
  obtain ⟨t, rfl⟩ := rx
  obtain ⟨t', rfl⟩ := ry
  exact SB.mul (mulOk_of 4000 4000 (by rw [tx_len]; exact hl) (by omega) (by omega) (by omega) (by omega)) fun t2 tk => ⟨.str (tx (Vq.rp k l)), H, I.tok _, ⟨t2, by rw [mul_tx]⟩, q⟩
theorem rv_repM {H : Hp} {l : List Nat} {k : Nat} (hl : l.length ≤ 4000) (hk : k ≤ 4000) : RV rRepM (.str (tx l)) (.int (k : Nat)) H (.str (tx (Vq.rp k l))) := rv_val fun H1 _ Q q => ⟨l, k, rfl, rfl, hl, hk, q⟩
theorem in_rot {b : List Nat} {k : Nat} (hk : k ≤ b.length) : (!(Builtin.Str.occurrences (tx (b ++ b)) (tx (rt b k)) 0 (tx (b ++ b)).length 1).isEmpty) = true := by
  rw [StrLaws.found_iff]
  refine ⟨k, ?_, ?_⟩
  · rw [tx_len, tx_len, rt_len hk, List.length_append]
    omega
  · rw [StrLaws.subAt_eq, tx_len, rt_len hk, beq_iff_eq]
    show ((b ++ b).drop k).take b.length = rt b k
    rw [List.drop_append_of_le_length hk]
    unfold rt
    rw [List.take_append, List.length_drop, List.take_of_length_le (by rw [List.length_drop]; omega)]
    congr 2
    omega
theorem ev_lenU {K : PySem.W.Frag} {te : TE} {σ : L2.St} {H : Hp} {xs : List V} (h : EvU te σ H xs) : Ev (tCB (fun vs H Q => ∃ x n, vs = [x] ∧ LenV K x H n ∧ Q (.int n) H) (tCons te tNil)) σ H (.int (xs.length : Nat)) := fun H1 e Q q =>
  h H1 e _ fun p H2 np e2 hp => ⟨.ref p, xs.length, rfl, .inr ⟨xs, .inl (.inl hp), rfl⟩, q H2 e2⟩
end Vtx

set_option Elab.async false
set_option linter.all false
set_option maxRecDepth 100000
set_option maxHeartbeats 4000000
/-! known_by, and the law's own number. -/
namespace K61
open PySem PySem.Spec PyProof.Rows L2 Vl Evl Vp Vx2 Vlk Vda Vc Ve Ven Vlt Vtx
abbrev sKb : Stmt := top 29
abbrev sDu : Stmt := top 46
abbrev nKb : List Str := ["text", "k", "net"]
abbrev nDu : List Str := ["_law_text_here", "_law_size", "_law_posts", "_law_lanes"]
def cnt (t : List Nat) (s : Nat) : Nat := (dd (wns t s)).length
/-- the least size at which the windows are as many as the shorter ones, or None -/
def KB (t : List Nat) (v : V) : Prop := (∃ i : Nat, i < 7 ∧ v = .int ((i + 2 : Nat)) ∧ cnt t (i + 1) = cnt t (i + 2) ∧ ∀ j, j < i → cnt t (j + 1) ≠ cnt t (j + 2)) ∨ (v = .non ∧ ∀ j, j < 7 → cnt t (j + 1) ≠ cnt t (j + 2))
theorem KB.one {t : List Nat} {v v' : V} (h : KB t v) (h' : KB t v') : v = v' := by
  rcases h with ⟨i, i1, rfl, i2, i3⟩ | ⟨rfl, i1⟩
  · rcases h' with ⟨j, j1, rfl, j2, j3⟩ | ⟨rfl, j1⟩
    · rcases Nat.lt_trichotomy i j with q | q | q
      · exact absurd i2 (j3 i q)
      · rw [q]
      · exact absurd j2 (i3 j q)
    · exact absurd i2 (j1 i i1)
  · rcases h' with ⟨j, j1, rfl, j2, j3⟩ | ⟨rfl, j1⟩
    · exact absurd j2 (i1 j j1)
    · rfl
theorem KB.same {t t' : List Nat} {v : V} (h : KB t v) (e : ∀ s k, k ∈ wns t s ↔ k ∈ wns t' s) : KB t' v := by
  have hc : ∀ s, cnt t s = cnt t' s := fun s => dd_same (e s)
  unfold KB at h ⊢
  simp only [hc] at h
  exact h
theorem ends_mem {t : List Nat} {s : Nat} {ws : List (List Nat)} (h1 : 1 ≤ t.length) (hs : 1 ≤ s) (h : Srt ws (wns t s)) (k : List Nat) : k ∈ ends ws ↔ k ∈ wns t (s - 1) := by
  unfold ends
  rw [List.mem_append, List.mem_map, List.mem_map, wns_mem]
  constructor
  · rintro (⟨w, hw, rfl⟩ | ⟨w, hw, rfl⟩)
    · obtain ⟨j, hj, rfl⟩ := wns_mem.mp ((h.mem w).mp hw)
      exact ⟨j, hj, wn_fst⟩
    · obtain ⟨j, hj, rfl⟩ := wns_mem.mp ((h.mem w).mp hw)
      exact ⟨(j + 1) % t.length, Nat.mod_lt _ h1, by rw [wn_snd hs, wn_mod]⟩
  · rintro ⟨j, hj, rfl⟩
    exact .inl ⟨wn t s j, (h.mem _).mpr (wn_in h1), wn_fst⟩
theorem few_ends {t : List Nat} {s : Nat} {ws : List (List Nat)} (h1 : 1 ≤ t.length) (h2 : t.length ≤ 40) (hs : 1 ≤ s) (h : Srt ws (wns t s)) : Few (ends ws) := few_of (D := wns t (s - 1)) (fun k hk => (ends_mem h1 hs h k).mp hk) (by rw [wns_len]; omega)
theorem wins_of {t : List Nat} {s : Nat} {ws : List (List Nat)} (ok : okW t 1 40 = true) (h1 : 2 ≤ s) (h2 : s ≤ 8) (h : Srt ws (wns t s)) : Wins ws s := fun x hx => by
  obtain ⟨j, _, rfl⟩ := wns_mem.mp ((h.mem x).mp hx)
  exact ⟨ok_wn ok h1 h2, wn_len _ _ _⟩
theorem s_asgFu {sp : Sp} {E : L2.St → XK} {ta : TA} {vs : List V} {g : TG} {D : Ends} {σ : L2.St} {H : Hp} (h : EvA ta σ H vs) (k : ∀ H1, Ex H H1 → sp vs H1 (fun v H2 => g v σ H2 fun σ' H3 => D.nx σ' H3) (E σ)) : tAsg (Vc.tFu sp E ta) g D σ H := h H (Ex.refl H) _ k
theorem s_asgFu2 {sp sp2 : Sp} {E E2 : L2.St → XK} {ta : TA} {vs : List V} {g : TG} {D : Ends} {σ : L2.St} {H : Hp} (h : EvA ta σ H vs) (k : ∀ H1, Ex H H1 → sp2 vs H1 (fun v H2 => sp [v] H2 (fun u H3 => g u σ H3 fun σ' H4 => D.nx σ' H4) (E σ)) (E2 σ)) :
    tAsg (Vc.tFu sp E (tCons (Vc.tFu sp2 E2 ta) tNil)) g D σ H := h H (Ex.refl H) _ k
def spKb (K : PySem.W.Frag) (BW : Addr) : Sp := fun vs H Q E => ∃ y : V, vs = [y] ∧ ((∃ t, y = .str (tx t) ∧ okW t 1 40 = true ∧ ∀ v H', Ex H H' → KB t v → Q v H') ∨ (BadW K H y 1 40 ∧ RaisedF BW "word" H y E))
def spDu : Sp := fun vs H Q _ => ∃ t : List Nat, vs = [.str (tx t)] ∧ okW t 1 40 = true ∧ ∀ v H', Ex H H' → KB t v → Q v H'
section
variable {P : Program} {w : World} {K : PySem.W.Frag} {mg : Str → Option Value} {base : Heap} {C BNm NT NP NL BW BN EW : Addr}
theorem scKb : FnScope nKb ["text"] (defScope sKb) := ⟨rfl, rfl, rfl, by decide +kernel, rfl, by decide +kernel, by decide +kernel⟩
theorem ok_kb {f : Addr} {fd : FuncData} (F : FnP K "known_by" sKb f fd) (N : ND P w K mg base C BNm NT NP NL) (TWi : Fu P w K mg base (L2.CX P w) 5 "windows" (spWi K BW BN)) (TWn : Fu P w K mg base (L2.CX P w) 6 "window_net" (spWn K C BW EW)) (mRange : mg "range" = none) (mLen : mg "len" = none)
    (gS : ∃ t, mg "SHORTEST_WINDOW" = some (.int 2 t)) (gO : ∃ t, mg "LONGEST_WINDOW" = some (.int 8 t)) :
    FnOk P w K mg base (L2.CX P w) 7 f fd ["text"] (spKb K BW) := by
  obtain ⟨tS, gS⟩ := gS
  obtain ⟨tO, gO⟩ := gO
  refine F.ok (CX := L2.CX P w) scKb (fun vs H Q E h => ?_) (fun cdv A outer s H vs Q E hr h => ?_)
  · obtain ⟨y, rfl, _⟩ := h
    rfl
  · refine ⟨_, (pss_cons (ps_for (passes_of rfl) rfl (pi_range2 (by rfl) mRange (pa_cons (pe_glob (v := V.int 2) (by rfl) gS ⟨tS, rfl⟩) (pa_cons (pe_op op_add (pe_glob (v := V.int 8) (by rfl) gO ⟨tO, rfl⟩) pe_int) pa_nil))) (pg_name (i := 1) scKb.nd rfl (by first | exact Or.inl rfl | exact Or.inr rfl)) (pss_cons (ps_set (i := 2) scKb.nd rfl (by first | exact Or.inl rfl | exact Or.inr rfl) (pe_fuX (E := WE fun cls d _ H => E cls d H) TWn hr (by rfl) (fun st => passAt (takes_of rfl rfl rfl rfl) st) (pa_cons (pe_fuX (E := WE fun cls d _ H => E cls d H) TWi hr (by rfl) (fun st => passAt (takes_of rfl rfl rfl rfl) st) (pa_cons (pv 0) (pa_cons (pv 1) pa_nil))) pa_nil)))
      (pss_one (ps_if (pt_cmpR op_eq (pe_callB call_len (by rfl) mLen boot_len (pa_cons (pe_pr (pv 2) N.cls N.posts hr) pa_nil)) (pe_callB call_len (by rfl) mLen boot_len (pa_cons (pe_pr (pv 2) N.cls N.lanes hr) pa_nil)) (nomark _)) (pss_one (ps_ret (pv 1))) pss_nil))))
      (pss_one (ps_ret pe_non))), ?_⟩
    obtain ⟨y, rfl, h⟩ := h
    refine s_seq ?_
    refine s_forR2 (lo := 2) (n := 9) (ea_cons ev_c (ea_cons (ev_is (ev_op ev_c ev_c rv_I0) rfl) ea_nil)) (by omega) (fun i st H' => ∃ t1 t2, st = [some y, t1, t2] ∧ Ex H H' ∧ ((∃ t, y = .str (tx t) ∧ okW t 1 40 = true ∧ (∀ v H', Ex H H' → KB t v → Q v H') ∧ ∀ j, j < i → cnt t (j + 1) ≠ cnt t (j + 2)) ∨ (i = 0 ∧ BadW K H y 1 40 ∧ RaisedF BW "word" H y E)))
      (fun H1 e1 => ⟨none, none, rfl, e1, ?_⟩) ?_ ?_
    · rcases h with ⟨t, e, ok, q⟩ | ⟨hb, q⟩
      · exact .inl ⟨t, e, ok, q, fun j hj => absurd hj (Nat.not_lt_zero j)⟩
      · exact .inr ⟨rfl, hb, q⟩
    · rintro i st H1 hi ⟨t1, t2, rfl, e1, h⟩
      have hi7 : i < 7 := by omega
      show tSeq _ _ _ [some y, some (.int ((2 : Int) + (i : Int))), t2] H1
      have h2i : (2 : Int) + (i : Int) = ((i + 2 : Nat) : Int) := by omega
      rw [h2i]
      refine s_seq ?_
      refine s_asgFu2 (ea_cons (ev_var rfl) (ea_cons (ev_var rfl) ea_nil)) fun H2 e2 => ⟨y, _, rfl, ?_⟩
      rcases h with ⟨t, rfl, ok, q, hj⟩ | ⟨_, hb, q⟩
      · obtain ⟨n1, n2⟩ := ok_len ok
        refine .inl ⟨t, i + 2, rfl, ok, rfl, by omega, by omega, fun p ys H3 np e3 hp hS => ?_⟩
        have hyl := hS.len
        rw [wns_len] at hyl
        refine ⟨p, vtx ys, rfl, .inl (sq_of hp), by rw [vtx_len]; omega, .inl ⟨ys, i + 2, rfl, fun z => ?_, wins_of ok (by omega) (by omega) hS, few_ends n1 n2 (by omega) hS, fun o dx dp de ps es H4 e4 Nt hSp hSl hWn => ?_⟩⟩
        · have : wn t (i + 2) 0 ∈ ys := (hS.mem _).mpr (wn_in n1)
          rw [z] at this
          cases this
        have e14 := ((e1.trans e2).trans e3).trans e4
        have c1 : ps.length = cnt t (i + 1) := hSp.count.trans (dd_same (ends_mem n1 (by omega) hS))
        have c2 : (laneNames es).length = cnt t (i + 2) := hSl.count.trans (dd_same fun k => hS.mem k)
        dsimp only
        refine s_when (b := decide (cnt t (i + 1) = cnt t (i + 2))) (et_test (ev_is (ev_op (ev_lenU (eu_pr (ev_var rfl) Nt.at_ (sv_posts Nt))) (ev_lenU (eu_pr (ev_var rfl) Nt.at_ (sv_lanes Nt))) (rv_eq rfl)) (by
          rw [vtx_len, vtx_len, c1, c2]
          congr 1
          rw [decide_eq_decide]
          exact ⟨fun z => Int.ofNat.inj (V.int.inj z), fun z => by rw [z]⟩))) (fun hb H5 e5 => ?_) (fun hb H5 e5 => ?_)
        · refine s_ret (v := .int ((i + 2 : Nat))) (ev_var rfl) fun H6 e6 => ?_
          exact q _ H6 ((e14.trans e5).trans e6) (.inl ⟨i, hi7, rfl, of_decide_eq_true hb, hj⟩)
        · refine ⟨_, _, rfl, e14.trans e5, .inl ⟨t, rfl, ok, q, fun j hji => ?_⟩⟩
          by_cases z : j = i
          · rw [z]
            exact of_decide_eq_false hb
          · exact hj j (by omega)
      · exact .inr (.inl ⟨hb.mono (e1.trans e2), RaisedF.grow q (e1.trans e2)⟩)
    · rintro st H1 ⟨t1, t2, rfl, e1, h⟩
      dsimp only
      rcases h with ⟨t, rfl, ok, q, hj⟩ | ⟨h0, _⟩
      · exact s_ret (v := .non) ev_c fun H2 e2 => q .non H2 (e1.trans e2) (.inr ⟨rfl, fun j hj7 => hj j hj7⟩)
      · exact absurd h0 (by decide)
theorem scDu : FnScope nDu ["_law_text_here"] (defScope sDu) := ⟨rfl, rfl, rfl, by decide +kernel, rfl, by decide +kernel, by decide +kernel⟩
theorem ok_du {f : Addr} {fd : FuncData} (F : FnP K "_law_due" sDu f fd) (TLw : Fu P w K mg base L2.CX0 1 "_law_windows" spLw) (TLn : Fu P w K mg base L2.CX0 1 "_law_window_net" (spLn K)) (mRange : mg "range" = none) (mLen : mg "len" = none) :
    FnOk P w K mg base L2.CX0 2 f fd ["_law_text_here"] spDu := by
  refine F.ok (CX := L2.CX0) scDu (fun vs H Q E h => ?_) (fun cdv A outer s H vs Q E hr h => ?_)
  · obtain ⟨t, rfl, _⟩ := h
    rfl
  · refine ⟨_, (pss_cons (ps_for (passes_of rfl) rfl (pi_range2 (by rfl) mRange (pa_cons pe_int (pa_cons pe_int pa_nil))) (pg_name (i := 1) scDu.nd rfl (by first | exact Or.inl rfl | exact Or.inr rfl)) (pss_cons (ps_asg (pe_fu TLn hr (by rfl) (pa_cons (pe_fu TLw hr (by rfl) (pa_cons (pv 0) (pa_cons (pv 1) pa_nil))) pa_nil)) (pg_unl rfl (pgs_cons (pg_name (i := 2) scDu.nd rfl (by first | exact Or.inl rfl | exact Or.inr rfl)) (pgs_cons (pg_name (i := 3) scDu.nd rfl (by first | exact Or.inl rfl | exact Or.inr rfl)) pgs_nil))))
      (pss_one (ps_if (pt_cmpR op_eq (pe_callB call_len (by rfl) mLen boot_len (pa_cons (pv 2) pa_nil)) (pe_callB call_len (by rfl) mLen boot_len (pa_cons (pv 3) pa_nil)) (nomark _)) (pss_one (ps_ret (pv 1))) pss_nil))))
      (pss_one (ps_ret pe_non))), ?_⟩
    obtain ⟨t, rfl, ok, q⟩ := h
    obtain ⟨n1, n2⟩ := ok_len ok
    refine s_seq ?_
    refine s_forR2 (lo := 2) (n := 9) (ea_cons ev_c (ea_cons ev_c ea_nil)) (by omega) (fun i st H' => ∃ t1 t2 t3, st = [some (.str (tx t)), t1, t2, t3] ∧ Ex H H' ∧ ∀ j, j < i → cnt t (j + 1) ≠ cnt t (j + 2))
      (fun H1 e1 => ⟨none, none, none, rfl, e1, fun j hj => absurd hj (Nat.not_lt_zero j)⟩) ?_ ?_
    · rintro i st H1 hi ⟨t1, t2, t3, rfl, e1, hj⟩
      have hi7 : i < 7 := by omega
      show tSeq _ _ _ [some (.str (tx t)), some (.int ((2 : Int) + (i : Int))), t2, t3] H1
      have h2i : (2 : Int) + (i : Int) = ((i + 2 : Nat) : Int) := by omega
      rw [h2i]
      refine s_seq ?_
      refine s_asgFu2 (ea_cons (ev_var rfl) (ea_cons (ev_var rfl) ea_nil)) fun H2 e2 => ⟨t, i + 2, rfl, n1, n2, by omega, fun p ys H3 np e3 hp hS => ?_⟩
      have hyl := hS.len
      rw [wns_len] at hyl
      refine ⟨p, ys, rfl, hp, by omega, fun l hl => ?_, few_ends n1 n2 (by omega) hS, fun q' a b ps rs H4 e4 hq ha hSp hb hall => ⟨q', _, rfl, sq_of hq, rfl, _, _, rfl, _, _, rfl, rfl, ?_⟩⟩
      · have := (wins_of ok (by omega) (by omega) hS l hl).2
        omega
      have e14 := ((e1.trans e2).trans e3).trans e4
      have c1 : ps.length = cnt t (i + 1) := hSp.count.trans (dd_same (ends_mem n1 (by omega) hS))
      have c2 : rs.length = cnt t (i + 2) := hall.len.trans (hS.count)
      dsimp only
      refine s_when (b := decide (cnt t (i + 1) = cnt t (i + 2))) (et_test (ev_is (ev_op (ev_lenA (ev_var rfl) (sq_of ha)) (ev_lenA (ev_var rfl) (sq_of hb)) (rv_eq rfl)) (by
        rw [vtx_len, c1, c2]
        congr 1
        rw [decide_eq_decide]
        exact ⟨fun z => Int.ofNat.inj (V.int.inj z), fun z => by rw [z]⟩))) (fun hb H5 e5 => ?_) (fun hb H5 e5 => ?_)
      · refine s_ret (v := .int ((i + 2 : Nat))) (ev_var rfl) fun H6 e6 => ?_
        exact q _ H6 ((e14.trans e5).trans e6) (.inl ⟨i, hi7, rfl, of_decide_eq_true hb, hj⟩)
      · refine ⟨_, _, _, rfl, e14.trans e5, fun j hji => ?_⟩
        by_cases z : j = i
        · rw [z]
          exact of_decide_eq_false hb
        · exact hj j (by omega)
    · rintro st H1 ⟨t1, t2, t3, rfl, e1, hj⟩
      dsimp only
      exact s_ret (v := .non) ev_c fun H2 e2 => q .non H2 (e1.trans e2) (.inr ⟨rfl, fun j hj7 => hj j hj7⟩)
end
end K61

set_option Elab.async false
set_option linter.all false
set_option maxRecDepth 100000
set_option maxHeartbeats 4000000
/-! The law's shortest texts, texts that go round alike, what is refused. -/
namespace K61
open PySem PySem.Spec PyProof.Rows L2 Vl Evl Vp Vx2 Vlk Vda Vc Ve Ven Vlt Vtx Vr
abbrev sRo : Stmt := top 44
abbrev sSr : Stmt := top 45
abbrev sRe : Stmt := top 47
abbrev nRo : List Str := ["_law_text_here", "_law_size"]
abbrev nRe : List Str := ["_law_thing", "e"]
instance {t : List Nat} {k : Nat} : Decidable (Vq.Siz t k) := by
  unfold Vq.Siz
  exact inferInstance
def spRo : Sp := fun vs H Q _ => ∃ t : List Nat, vs = [.str (tx t)] ∧ 1 ≤ t.length ∧ t.length ≤ 4000 ∧ ∀ r H', Ex H H' → Vq.Rt t r → Q (.str (tx (t.take r))) H'
def spSr : Sp := fun vs H Q _ => ∃ (a b : List Nat) (k : Nat), vs = [.str (tx a), .str (tx b)] ∧ a.length = b.length ∧ b.length ≤ 4000 ∧ k ≤ b.length ∧ a = rt b k ∧ ∀ H', Ex H H' → Q (.bl true) H'
def spRe (K : PySem.W.Frag) : Sp := fun vs H Q _ => ∃ (y : V) (d : PyData), vs = [y] ∧ BadW K H y 1 40 ∧ Dp K H y d ∧ SeqAt.shaped d = true ∧ ∀ H', Ex H H' → Q (.bl true) H'
section
variable {P : Program} {w : World} {K : PySem.W.Frag} {mg : Str → Option Value} {base : Heap} {BW : Addr}
theorem scRo : FnScope nRo ["_law_text_here"] (defScope sRo) := ⟨rfl, rfl, rfl, by decide +kernel, rfl, by decide +kernel, by decide +kernel⟩
theorem ok_ro {f : Addr} {fd : FuncData} (F : FnP K "_law_root" sRo f fd) (mLen : mg "len" = none) : FnOk P w K mg base L2.CX0 1 f fd ["_law_text_here"] spRo := by
  refine F.ok (CX := L2.CX0) scRo (fun vs H Q E h => ?_) (fun cdv A outer s H vs Q E hr h => ?_)
  · obtain ⟨t, rfl, _⟩ := h
    rfl
  · refine ⟨_, (pss_cons (ps_set (i := 1) scRo.nd rfl (by first | exact Or.inl rfl | exact Or.inr rfl) pe_int)
      (pss_cons (ps_while (passes_of rfl) (PW.pt (pw_or (pt_cmpR op_ne (pe_op op_mod (pe_callB call_len (by rfl) mLen boot_len (pa_cons (pv 0) pa_nil)) (pv 1)) pe_int (nomark _)) (pw_or1 (pt_cmpR op_ne (pe_op Vtx.op_repM (pe_slice sl_str (pv 0) po_none (po_some (pv 1))) (pe_op op_fdiv (pe_callB call_len (by rfl) mLen boot_len (pa_cons (pv 0) pa_nil)) (pv 1))) (pv 0) (nomark _))))) (pss_one (ps_set (i := 1) scRo.nd rfl (by first | exact Or.inl rfl | exact Or.inr rfl) (pe_op op_add (pv 1) pe_int))))
      (pss_one (ps_ret (pe_slice sl_str (pv 0) po_none (po_some (pv 1))))))), ?_⟩
    obtain ⟨t, rfl, n1, n2, q⟩ := h
    refine s_seq ?_
    refine s_asg (v := .int 1) ev_c fun H1 e1 => ?_
    dsimp only
    refine s_seq ?_
    refine s_while (fun m σ' H' => ∃ k : Nat, 1 ≤ k ∧ k ≤ t.length ∧ σ' = [some (.str (tx t)), some (.int (k : Nat))] ∧ Ex H H' ∧ (∀ j, 1 ≤ j → j < k → ¬ Vq.Siz t j) ∧ m = t.length - k) (t.length - 1) ⟨1, Nat.le_refl _, n1, rfl, e1, fun j h1 h2 => absurd h2 (by omega), rfl⟩ ?_
    rintro m σ' H2 ⟨k, hk1, hk2, rfl, e2, hno, rfl⟩
    have hsl : ∀ {H3 : Hp}, Ev (tSl rSlS (tVar 0) tNoPart (tPart (tVar 1))) [some (.str (tx t)), some (.int (k : Nat))] H3 (.str (tx (t.take k))) := ev_is (ev_slS (l := t) (lo := none) (hi := some (k : Int)) (ev_var rfl) eo_none (eo_some (ev_var rfl)) (by omega)) (by rw [tx_cut0])
    have hdv : ∀ {H3 : Hp}, Ev (tOp (rI CDiv fun i j => .int (i / j)) (tCB (fun xs H Q => ∃ x n, xs = [x] ∧ LenV K x H n ∧ Q (.int n) H) (tCons (tVar 0) tNil)) (tVar 1)) [some (.str (tx t)), some (.int (k : Nat))] H3 (.int ((t.length / k : Nat))) := ev_is (ev_op (ev_lenS (l := t) (ev_var rfl) (by omega)) (ev_var rfl) (rv_I ⟨by omega, by omega⟩)) (by rfl)
    have hmd : ∀ {H3 : Hp}, Ev (tOp (rI (fun _ j => 0 < j) fun i j => .int (i % j)) (tCB (fun xs H Q => ∃ x n, xs = [x] ∧ LenV K x H n ∧ Q (.int n) H) (tCons (tVar 0) tNil)) (tVar 1)) [some (.str (tx t)), some (.int (k : Nat))] H3 (.int ((t.length % k : Nat))) := ev_is (ev_op (ev_lenS (l := t) (ev_var rfl) (by omega)) (ev_var rfl) (rv_I (by show (0 : Int) < (k : Nat); omega))) (by rfl)
    refine ⟨!decide (Vq.Siz t k), et_is (et_or (et_test (ev_is (ev_op hmd ev_c (rv_ne rfl)) (show _ = V.bl (!decide (t.length % k = 0)) by
        congr 2
        rw [decide_eq_decide]
        exact ⟨fun z => Int.ofNat.inj (V.int.inj z), fun z => by rw [z]; rfl⟩))) (fun _ => et_test (ev_is (ev_op (ev_op hsl hdv (rv_repM (by rw [List.length_take]; omega) (Nat.le_trans (Nat.div_le_self _ _) n2))) (ev_var rfl) (rv_ne rfl)) (show _ = V.bl (!decide (Vq.rp (t.length / k) (t.take k) = t)) by
        congr 2
        rw [decide_eq_decide]
        exact ⟨fun z => tx_inj (V.str.inj z), fun z => by rw [z]⟩)))) ?_, fun hb H3 e3 => ?_, fun hb H3 e3 => ?_⟩
    · by_cases z : Vq.Siz t k
      · have hd := ((Vq.siz_iff n1 hk1).mp z).1
        rw [decide_eq_true z, decide_eq_true z.2, decide_eq_true (Nat.mod_eq_zero_of_dvd hd)]
        rfl
      · rw [decide_eq_false z, decide_eq_false (show ¬ Vq.rp (t.length / k) (t.take k) = t from fun y => z ⟨hk1, y⟩)]
        cases decide (t.length % k = 0) <;> rfl
    · have hz : ¬ Vq.Siz t k := fun z => by rw [decide_eq_true z] at hb; cases hb
      have hne : k ≠ t.length := fun z => hz (by rw [z]; exact Vq.siz_self n1)
      refine ⟨fun σ2 H4 => σ2 = [some (.str (tx t)), some (.int ((k + 1 : Nat)))] ∧ Ex H H4, ?_, ?_⟩
      · rintro σ2 H4 ⟨rfl, e4⟩
        refine ⟨_, ?_, k + 1, by omega, by omega, rfl, e4, fun j h1 h2 => ?_, rfl⟩
        · omega
        · by_cases y : j = k
          · rw [y]; exact hz
          · exact hno j h1 (by omega)
      · refine s_asg (v := .int ((k + 1 : Nat))) (ev_is (ev_op (ev_var rfl) ev_c rv_I0) (by rfl)) fun H4 e4 => ⟨rfl, (e2.trans e3).trans e4⟩
    · have hz : Vq.Siz t k := Classical.byContradiction fun z => by rw [decide_eq_false z] at hb; cases hb
      dsimp only
      exact s_ret hsl fun H4 e4 => q k H4 ((e2.trans e3).trans e4) ⟨hz, hno⟩
theorem scSr : FnScope ["_law_one", "_law_two"] ["_law_one", "_law_two"] (defScope sSr) := ⟨rfl, rfl, rfl, by decide +kernel, rfl, by decide +kernel, by decide +kernel⟩
theorem ok_sr {f : Addr} {fd : FuncData} (F : FnP K "_law_same_ring" sSr f fd) (mLen : mg "len" = none) : FnOk P w K mg base L2.CX0 1 f fd ["_law_one", "_law_two"] spSr := by
  refine F.ok (CX := L2.CX0) scSr (fun vs H Q E h => ?_) (fun cdv A outer s H vs Q E hr h => ?_)
  · obtain ⟨a, b, k, rfl, _⟩ := h
    rfl
  · refine ⟨_, (pss_one (ps_ret (pe_and (pe_cmpR op_eq (pe_callB call_len (by rfl) mLen boot_len (pa_cons (pv 0) pa_nil)) (pe_callB call_len (by rfl) mLen boot_len (pa_cons (pv 1) pa_nil)) (nomark _)) (pe_one (pe_cmpR op_in_str (pv 0) (pe_op op_add_str (pv 1) (pv 1)) rfl))))), ?_⟩
    obtain ⟨a, b, k, rfl, hl, hb, hk, rfl, q⟩ := h
    refine s_ret (v := .bl true) (ev_is (ev_andV (a := true) (ev_is (ev_op (ev_lenS (l := rt b k) (ev_var rfl) (by omega)) (ev_lenS (l := b) (ev_var rfl) (by omega)) (rv_eq rfl)) (by rw [hl, decide_eq_true rfl])) (fun _ => ev_op (z := .bl true) (ev_var rfl) (ev_op (ev_var rfl) (ev_var rfl) (rv_cats (by omega))) (rv_val fun H1 _ Q q => ⟨_, _, rfl, rfl, by rw [in_rot hk]; exact q⟩))) rfl) fun H1 e1 => q H1 e1
theorem scRe : FnScope nRe ["_law_thing"] (defScope sRe) := ⟨rfl, rfl, rfl, by decide +kernel, rfl, by decide +kernel, by decide +kernel⟩
theorem ok_re {f : Addr} {fd : FuncData} (F : FnP K "_law_refused" sRe f fd) (TKb : Fu P w K mg base (L2.CX P w) 7 "known_by" (spKb K BW)) (EP : Err1 P w K mg base "BadWord" "word" BW)
    (xm : PySem.W.exmOne K (.ref BW) (.ref BW) = some true) : FnOk P w K mg base L2.CX0 8 f fd ["_law_thing"] (spRe K) := by
  refine F.ok (CX := L2.CX0) scRe (fun vs H Q E h => ?_) (fun cdv A outer s H vs Q E hr h => ?_)
  · obtain ⟨y, d, rfl, _⟩ := h
    rfl
  · refine ⟨_, (pss_one (Vtr.ps_try_cl rfl rfl scRe.nd Vtr.takes_no (tb := fun W => (tRet (tOp (rEqD K) (tFu (spKb K BW) (WE W) (tCons (tVar 0) tNil)) (tLst (tCons (tVar 0) tNil))))) (fun W pn xe tk _ => (pss_one (ps_ret (pe_cmpR (op_eqD hr.units) (pe_fuX (E := WE W) TKb hr (by rfl) (fun st => passAt tk st) (pa_cons (pv 0) pa_nil)) (pe_lst (pa_cons (pv 0) pa_nil)) (nomark _))))) (Vtr.ClsOk.named (i := 1) rfl rfl ⟨by rfl, by decide, .inl EP.g⟩ (fun a oe cls d pn hz hf => (pss_one (ps_ret (pe_cmpR (r := rEqD K) (show OpR _ (compareOp .Eq) (rEqD K) from op_eqD hr.units) (pe_xf EP.X EP.no hz hf (pv 1)) (pv 0) (nomark _))))) Vtr.ClsOk.nil))), ?_⟩
    obtain ⟨y, d, rfl, hb, hd, hs, q⟩ := h
    refine ⟨_, rfl, y, rfl, .inr ⟨hb, fun dd' H2 e2 hdd => ⟨true, xm, fun _ a2 na => ?_, (fun z => nomatch z)⟩⟩⟩
    refine ⟨_, rfl, rfl, rfl, dd', [("word", _)], _, rfl, hdd, rfl, y, rfl, d, d, dp_ex e2 hd, dp_ex e2 hd, hs, hs, ?_⟩
    rw [SeqAt.eqv_refl d (sh_lay hs)]
    exact q H2 e2
end
end K61

set_option Elab.async false
set_option linter.all false
set_option maxRecDepth 100000
set_option maxHeartbeats 4000000
namespace J61
open K61 PySem PySem.Spec PyProof.Rows L2 Vl Evl Vp Vx2 Vlk Vda Vc Ve
abbrev Row : Type := K61.Row
/-- the row of the lane l -/
def rowOf (es : List Row) (l : List Nat) : Option Row := es.find? fun e => decide (e.2.1 = l)
theorem ends_get (l : List Nat) : ∀ es : List Row, valV (dEnds es) (Sum.inr (tx l) : Key) = (rowOf es l).map fun e => V.ref e.1
  | [] => rfl
  | x :: r => by
    have ih := ends_get l r
    unfold dEnds rowOf at *
    rw [List.map_cons]
    by_cases h : x.2.1 = l
    · rw [valV_pos (by rw [h]), List.find?_cons, decide_eq_true h]
      rfl
    · have hn : ¬ (Sum.inr (tx x.2.1) : Key) = Sum.inr (tx l) := fun z => h (tx_inj (Sum.inr.inj z))
      rw [valV_neg hn, ih, List.find?_cons, decide_eq_false h]
theorem rowOf_mem {es : List Row} {l : List Nat} {r : Row} (h : rowOf es l = some r) : r ∈ es ∧ r.2.1 = l := ⟨List.mem_of_find?_eq_some h, of_decide_eq_true (List.find?_some (p := fun e : Row => decide (e.2.1 = l)) h)⟩
def RowAt (H : Hp) (r : Row) : Prop := H r.1 = some (.tup [.str (tx r.2.1), .str (tx r.2.2.1), .str (tx r.2.2.2)])
def RowsOk (ps : List (List Nat)) (rs : List Row) : Prop := Names (rs.map fun r => r.2.1) ∧ ∀ r ∈ rs, r.2.2.1 ∈ ps ∧ r.2.2.2 ∈ ps
/-! the law's own: parts told, the ends by lane -/
abbrev sEn : Stmt := top 38
abbrev nEn : List Str := ["_law_parts", "_law_ends_here", "_law_lane", "_law_start", "_law_end"]
def refs (rs : List Row) : List V := rs.map fun r => V.ref r.1
structure Told (H : Hp) (q a b : Addr) (ps : List (List Nat)) (rs : List Row) : Prop where
  at_ : H q = some (.lst [.ref a, .ref b])
  posts : H a = some (.lst (vtx ps))
  rows : H b = some (.lst (refs rs))
  row : ∀ r ∈ rs, RowAt H r
theorem Told.mono {H H' : Hp} {q a b : Addr} {ps : List (List Nat)} {rs : List Row} (e : Ex H H') (h : Told H q a b ps rs) : Told H' q a b ps rs := ⟨e _ _ h.at_, e _ _ h.posts, e _ _ h.rows, fun r hr => e _ _ (h.row r hr)⟩
def bare (rs : List Row) : List (List Nat × List Nat × List Nat) := rs.map fun r => r.2
def spEn : Sp := fun vs H Q _ => ∃ (q a b : Addr) (ps : List (List Nat)) (rs : List Row), vs = [.ref q] ∧ Told H q a b ps rs ∧ (laneNames rs).Nodup ∧ rs.length ≤ 1000 ∧
  ∀ d es H', Ex H H' → H d = none → H' d = some (.dK (dEnds es)) → bare es = bare rs → (∀ e ∈ es, EndAt H' e) → Q (.ref d) H'
theorem bare_names {es rs : List Row} (h : bare es = bare rs) : laneNames es = laneNames rs := by
  have : ∀ l : List Row, laneNames l = (bare l).map fun x => x.1 := fun l => by unfold laneNames bare; rw [List.map_map]; rfl
  rw [this, this, h]
theorem bare_take (rs : List Row) (i : Nat) : bare (rs.take i) = (bare rs).take i := by unfold bare; rw [List.map_take]
theorem bare_len {es rs : List Row} (h : bare es = bare rs) : es.length = rs.length := by
  have := congrArg List.length h
  unfold bare at this
  rwa [List.length_map, List.length_map] at this
theorem rows_bare {ps : List (List Nat)} {es rs : List Row} (h : bare es = bare rs) (RO : RowsOk ps rs) : RowsOk ps es := by
  refine ⟨?_, fun r hr => ?_⟩
  · have : (es.map fun r => r.2.1) = rs.map fun r => r.2.1 := bare_names h
    rw [this]
    exact RO.1
  · have h1 : r.2 ∈ bare rs := by
      rw [← h]
      exact List.mem_map.mpr ⟨r, hr, rfl⟩
    unfold bare at h1
    obtain ⟨r', hr', he⟩ := List.mem_map.mp h1
    rw [← he]
    exact RO.2 r' hr'
section
variable {P : Program} {w : World} {K : PySem.W.Frag} {mg : Str → Option Value} {base : Heap}
theorem scEn : FnScope nEn ["_law_parts"] (defScope sEn) := ⟨rfl, rfl, rfl, by decide +kernel, rfl, by decide +kernel, by decide +kernel⟩
theorem ok_en {f : Addr} {fd : FuncData} (F : FnP K "_law_ends" sEn f fd) : FnOk P w K mg base L2.CX0 1 f fd ["_law_parts"] spEn := by
  refine F.ok (CX := L2.CX0) scEn (fun vs H Q E h => ?_) (fun cdv A outer s H vs Q E hr h => ?_)
  · obtain ⟨q, a, b, ps, rs, rfl, _⟩ := h
    rfl
  · refine ⟨_, (pss_cons (ps_set (i := 1) scEn.nd rfl (by first | exact Or.inl rfl | exact Or.inr rfl) pe_dnewK)
      (pss_cons (ps_for (passes_of rfl) rfl (pi_list (pe_ix ix_list (pv 0) pe_int fun _ _ => rfl)) (pg_tup rfl (pgs_cons (pg_name (i := 2) scEn.nd rfl (by first | exact Or.inl rfl | exact Or.inr rfl)) (pgs_cons (pg_name (i := 3) scEn.nd rfl (by first | exact Or.inl rfl | exact Or.inr rfl)) (pgs_cons (pg_name (i := 4) scEn.nd rfl (by first | exact Or.inl rfl | exact Or.inr rfl)) pgs_nil)))) (pss_one (ps_dput (Nat.lt_of_le_of_lt (Nat.add_le_add_left (show 1 ≤ 64 by decide) _) hr.units) (pv 1) (pv 2) (pe_tup (pa_cons (pv 3) (pa_cons (pv 4) pa_nil))) rfl)))
      (pss_one (ps_ret (pv 1))))), ?_⟩
    obtain ⟨q, a, b, ps, rs, rfl, T, nd, hz, k⟩ := h
    refine s_seq ?_
    refine fun d nd0 => ?_
    have T1 := T.mono (Ex.new (o := HO.dK []) nd0)
    refine s_seq ?_
    refine s_forL (ev_ixA (i := 1) (ev_var rfl) (sq_of T1.at_) rfl) (sq_of T1.rows) (fun i st H' => ∃ t2 t3 t4 es, st = [some (.ref q), some (.ref d), t2, t3, t4] ∧ Ex H H' ∧ H' d = some (.dK (dEnds es)) ∧ bare es = bare (rs.take i) ∧ ∀ e ∈ es, EndAt H' e)
      (fun H1 e => ⟨none, none, none, [], rfl, (Ex.new nd0).trans e, e _ _ upd_same, by rw [List.take_zero], fun _ h => nomatch h⟩) (fun i st H' _ ⟨_, _, _, _, _, e, _⟩ => sq_of (e _ _ T.rows)) ?_ ?_
    · rintro i x σ' H1 hx ⟨t2, t3, t4, es, rfl, e1, hd, hb, hes⟩
      unfold refs at hx
      rw [List.getElem?_map] at hx
      obtain ⟨r, hr1, rfl⟩ := Option.map_eq_some_iff.mp hx
      have hm := List.mem_of_getElem? hr1
      have htk : rs.take (i + 1) = rs.take i ++ [r] := by rw [List.take_succ, hr1]; rfl
      refine ⟨r.1, _, rfl, .inl (.inl (e1 _ _ (T.row r hm))), rfl, ?_⟩
      refine ⟨_, _, rfl, _, _, rfl, _, _, rfl, rfl, ?_⟩
      refine ⟨_, rfl, _, rfl, by show 2 ≤ sizeLine; decide, fun t nt => ?_⟩
      have e2 := e1.trans (Ex.new (o := HO.tup [.str (tx r.2.2.1), .str (tx r.2.2.2)]) nt)
      have td : t ≠ d := fun z => by rw [z, hd] at nt; cases nt
      have hd2 : upd H1 t (.tup [.str (tx r.2.2.1), .str (tx r.2.2.2)]) d = some (.dK (dEnds es)) := (upd_ne td.symm).trans hd
      refine ⟨_, rfl, _, rfl, d, _, rfl, DPut.k (k := (Sum.inr (tx r.2.1) : Key)) hd2 (sz_lt ?_), ?_⟩
      · have h1 : (bare es).length = (bare (rs.take i)).length := by rw [hb]
        unfold bare at h1
        rw [List.length_map, List.length_map, List.length_take] at h1
        unfold dEnds
        rw [List.length_map]
        omega
      · have hnew : r.2.1 ∉ laneNames es := by
          rw [bare_names hb]
          intro z
          have nd2 : (laneNames (rs.take (i + 1))).Nodup := by
            unfold laneNames at nd ⊢
            rw [List.map_take]
            exact nd.sublist (List.take_sublist _ _)
          rw [htk] at nd2
          unfold laneNames at nd2 z
          rw [List.map_append, List.nodup_append] at nd2
          exact nd2.2.2 _ z _ (List.mem_singleton.mpr rfl) rfl
        have hv : valV (dEnds es) (Sum.inr (tx r.2.1) : Key) = none := by
          have := ends_val es r.2.1
          rw [decide_eq_false hnew] at this
          exact Option.not_isSome_iff_eq_none.mp (by rw [this]; decide)
        refine ⟨_, _, _, es ++ [(t, r.2)], rfl, Ex.mut e2 nd0, ?_, ?_, ?_⟩
        · rw [upd_same, putK_new _ hv]
          unfold dEnds
          rw [List.map_append]
          rfl
        · rw [htk]
          unfold bare at hb ⊢
          rw [List.map_append, List.map_append, hb]
          rfl
        · intro e he
          rcases List.mem_append.mp he with he | he
          · have h1 := hes e he
            unfold EndAt at h1 ⊢
            rw [upd_ne (fun z => by rw [z, hd] at h1; cases h1), upd_ne (fun z => by rw [z, nt] at h1; cases h1)]
            exact h1
          · rw [List.mem_singleton.mp he]
            show upd _ d _ t = _
            rw [upd_ne td, upd_same]
    · rintro st H1 ⟨t2, t3, t4, es, rfl, e1, hd, hb, hes⟩
      refine ⟨_, rfl, k d es H1 e1 nd0 hd ?_ hes⟩
      rw [hb]
      unfold refs
      rw [List.length_map, List.take_length]
end
end J61

set_option Elab.async false
set_option linter.all false
set_option maxRecDepth 100000
set_option maxHeartbeats 4000000
namespace J61
open K61 PySem PySem.Spec PyProof.Rows L2 Vl Evl Vp Vr Vx2 Vlk Vda Vc Ve Vrc Vwy
theorem ne_kind {H : Hp} {x y : Addr} {u v : HO} (hx : H x = some u) (hy : H y = some v) (h : u ≠ v) : x ≠ y := fun z => by
  rw [z, hy] at hx
  exact h (Option.some.inj hx).symm
/-- a lane leads from b to c -/
def Edge (bs : List (List Nat × List Nat × List Nat)) (b c : List Nat) : Prop := ∃ t ∈ bs, t.2.1 = b ∧ t.2.2 = c
def LaneB (bs : List (List Nat × List Nat × List Nat)) (l b c : List Nat) : Prop := (l, b, c) ∈ bs
/-- a way: its list's address, the post, its lanes -/
abbrev Way : Type := Addr × (List Nat × List (List Nat))
def dWays (xs : List Way) : List (Key × V) := xs.map fun x => ((Sum.inr (tx x.2.1) : Key), V.ref x.1)
def posts (xs : List Way) : List (List Nat) := xs.map fun x => x.2.1
def wp (xs : List Way) : List (List Nat × List (List Nat)) := xs.map fun x => x.2
theorem wp_posts (xs : List Way) : ((wp xs).map fun w => w.1) = posts xs := by
  unfold wp posts
  rw [List.map_map]
  rfl
theorem wp_at {xs : List Way} {j : Nat} {b0 : List Nat} (nd : (posts xs).Nodup) (hj : (posts xs)[j]? = some b0) {y : Way} (hy : y ∈ xs) (hb : y.2.1 = b0) : (wp xs)[j]? = some (b0, y.2.2) := by
  obtain ⟨k, hk⟩ := List.getElem?_of_mem hy
  have h1 : (posts xs)[k]? = some b0 := by
    unfold posts
    rw [List.getElem?_map, hk]
    exact congrArg some hb
  have hkj : k = j := nd_ix nd h1 hj
  unfold wp
  rw [← hkj, List.getElem?_map, hk, ← hb]
  rfl
theorem wp_some {xs : List Way} {j : Nat} {b0 : List Nat} (hj : (posts xs)[j]? = some b0) : ∃ ls, (wp xs)[j]? = some (b0, ls) := by
  unfold posts at hj
  rw [List.getElem?_map] at hj
  obtain ⟨z, hz, rfl⟩ := Option.map_eq_some_iff.mp hj
  exact ⟨z.2.2, by unfold wp; rw [List.getElem?_map, hz]; rfl⟩
theorem wp_app (xs : List Way) (z : Way) : wp (xs ++ [z]) = wp xs ++ [z.2] := List.map_append
theorem ways_val (xs : List Way) (l : List Nat) : (valV (dWays xs) (Sum.inr (tx l) : Key)).isSome = decide (l ∈ posts xs) := by
  induction xs with
  | nil => rfl
  | cons x r ih =>
    unfold dWays posts at *
    rw [List.map_cons, List.map_cons]
    by_cases h : x.2.1 = l
    · rw [valV_pos (by rw [h]), decide_eq_true (by rw [h]; exact List.mem_cons_self)]
      rfl
    · have hn : ¬ (Sum.inr (tx x.2.1) : Key) = Sum.inr (tx l) := fun z => h (tx_inj (Sum.inr.inj z))
      rw [valV_neg hn, ih]
      by_cases hm : l ∈ r.map fun e => e.2.1
      · rw [decide_eq_true hm, decide_eq_true (List.mem_cons_of_mem _ hm)]
      · rw [decide_eq_false hm, decide_eq_false (fun z => (List.mem_cons.mp z).elim (fun e => h e.symm) hm)]
theorem ways_get {xs : List Way} {l : List Nat} (h : l ∈ posts xs) : ∃ x ∈ xs, x.2.1 = l ∧ valV (dWays xs) (Sum.inr (tx l) : Key) = some (V.ref x.1) := by
  induction xs with
  | nil => cases h
  | cons x r ih =>
    by_cases hx : x.2.1 = l
    · refine ⟨x, List.mem_cons_self, hx, ?_⟩
      unfold dWays
      rw [List.map_cons, valV_pos (by rw [hx])]
    · have hn : ¬ (Sum.inr (tx x.2.1) : Key) = Sum.inr (tx l) := fun z => hx (tx_inj (Sum.inr.inj z))
      have hr : l ∈ posts r := by
        rcases List.mem_cons.mp h with h | h
        · exact absurd h.symm hx
        · exact h
      obtain ⟨y, hy, h1, h2⟩ := ih hr
      refine ⟨y, List.mem_cons_of_mem _ hy, h1, ?_⟩
      unfold dWays at h2 ⊢
      rw [List.map_cons, valV_neg hn]
      exact h2
theorem ways_none {xs : List Way} {l : List Nat} (h : l ∉ posts xs) : valV (dWays xs) (Sum.inr (tx l) : Key) = none := by
  have := ways_val xs l
  rw [decide_eq_false h] at this
  exact Option.not_isSome_iff_eq_none.mp (by rw [this]; decide)
/-- the search's objects: the dict, the queue from place j on -/
structure WS (H0 H : Hp) (d q : Addr) (xs : List Way) (j : Nat) : Prop where
  ex : Ex H0 H
  fd : H0 d = none
  fq : H0 q = none
  dct : H d = some (.dK (dWays xs))
  que : H q = some (.lst ((vtx (posts xs)).drop j))
  way : ∀ x ∈ xs, H x.1 = some (.lst (vtx x.2.2)) ∧ x.1 ≠ q
  short : ∀ x ∈ xs, x.2.2.length < xs.length
theorem WS.grow {H0 H H' : Hp} {d q : Addr} {xs : List Way} {j : Nat} (h : WS H0 H d q xs j) (e : Ex H H') : WS H0 H' d q xs j := ⟨h.ex.trans e, h.fd, h.fq, e _ _ h.dct, e _ _ h.que, fun x hx => ⟨e _ _ (h.way x hx).1, (h.way x hx).2⟩, h.short⟩
/-- what is told of the ways: their posts are those that are reached -/
structure WaysD (H : Hp) (d : Addr) (bs : List (List Nat × List Nat × List Nat)) (a : List Nat) (xs : List Way) : Prop where
  dct : H d = some (.dK (dWays xs))
  re : ∀ b, b ∈ posts xs ↔ Reach (Edge bs) a b
  way : ∀ x ∈ xs, H x.1 = some (.lst (vtx x.2.2))
  best : ∀ x ∈ xs, Best (LaneB bs) a x.2.1 x.2.2
  few : ∀ x ∈ xs, x.2.2.length ≤ 45
theorem WaysD.mono {H H' : Hp} {d : Addr} {bs : List (List Nat × List Nat × List Nat)} {a : List Nat} {xs : List Way} (e : Ex H H') (h : WaysD H d bs a xs) : WaysD H' d bs a xs := ⟨e _ _ h.dct, h.re, fun x hx => e _ _ (h.way x hx), h.best, h.few⟩
def rowsFrom (es : List Row) (b : List Nat) : List Row := es.filter fun e => decide (e.2.2.1 = b)
theorem way_of_get {H : Hp} {p : Addr} {xs : List V} {u : HO} {q : Addr} (h : H p = some u) (hn : H q = none) : p ≠ q := fun z => by
  rw [z, hn] at h
  cases h
end J61

set_option Elab.async false
set_option linter.all false
set_option maxRecDepth 100000
set_option maxHeartbeats 4000000
/-! The law's own ways: the same search, its queue never shortened. -/
namespace J61
open K61 PySem PySem.Spec PyProof.Rows L2 Vl Evl Vp Vr Vx2 Vlk Vda Vc Ve Vrc Vwy
theorem WS.put {H0 H8 H9 : Hp} {d q w : Addr} {xs : List Way} {j : Nat} {y : Way} {c l : List Nat} (W : WS H0 H8 d q xs j) (hj : j ≤ xs.length) (hy : y ∈ xs) (hn : c ∉ posts xs) (nw : H8 w = none)
    (e9 : Ex (upd (upd H8 w (.lst (vtx y.2.2 ++ [.str (tx l)]))) d (.dK (putK (dWays xs) (Sum.inr (tx c) : Key) (V.ref w)))) H9) :
    WS H0 (upd H9 q (.lst ((vtx (posts xs)).drop j ++ [.str (tx c)]))) d q (xs ++ [(w, c, y.2.2 ++ [l])]) j ∧ ∀ (x : Addr) (u : HO), H8 x = some u → x ≠ d → x ≠ q → upd H9 q (.lst ((vtx (posts xs)).drop j ++ [.str (tx c)])) x = some u := by
  have wd : w ≠ d := fun z => by rw [z, W.dct] at nw; cases nw
  have wq : w ≠ q := fun z => by rw [z, W.que] at nw; cases nw
  have qd : q ≠ d := (ne_kind W.dct W.que (by intro z; cases z)).symm
  have hw9 : H9 w = some (.lst (vtx (y.2.2 ++ [l]))) := by
    refine e9 _ _ ?_
    rw [upd_ne wd, upd_same]
    unfold vtx
    rw [List.map_append]
    rfl
  have old : ∀ (x : Addr) (u : HO), H8 x = some u → x ≠ d → x ≠ q → upd H9 q (.lst ((vtx (posts xs)).drop j ++ [.str (tx c)])) x = some u := fun x u hx h1 h2 => by
    rw [upd_ne h2]
    refine e9 _ _ ?_
    rw [upd_ne h1, upd_ne (fun z => by rw [z, nw] at hx; cases hx)]
    exact hx
  refine ⟨⟨Ex.mut ((Ex.mut (W.ex.trans (Ex.new nw)) W.fd).trans e9) W.fq, W.fd, W.fq, ?_, ?_, ?_, ?_⟩, old⟩
  · rw [upd_ne qd.symm]
    refine e9 _ _ ?_
    rw [upd_same, putK_new _ (ways_none hn)]
    unfold dWays
    rw [List.map_append]
    rfl
  · rw [upd_same]
    unfold posts vtx
    rw [List.map_append, List.map_append, List.drop_append_of_le_length (by rw [List.length_map, List.length_map]; omega)]
    rfl
  · intro x hx
    rcases List.mem_append.mp hx with hx | hx
    · have h1 := W.way x hx
      exact ⟨old _ _ h1.1 (ne_kind h1.1 W.dct (by intro z; cases z)) h1.2, h1.2⟩
    · rw [List.mem_singleton.mp hx]
      exact ⟨(upd_ne wq).trans hw9, wq⟩
  · intro x hx
    rw [List.length_append]
    rcases List.mem_append.mp hx with hx | hx
    · have := W.short x hx
      omega
    · rw [List.mem_singleton.mp hx]
      have := W.short y hy
      show (y.2.2 ++ [l]).length < _
      rw [List.length_append]
      show _ + 1 < _ + 1
      omega
theorem WS.len_eq (xs : List Way) : (posts xs).length = xs.length := List.length_map _
abbrev sWy : Stmt := top 39
abbrev nWy : List Str := ["_law_parts", "_law_start", "_law_ways_here", "_law_queue", "_law_at", "_law_lane", "_law_first", "_law_second"]
def spWy : Sp := fun vs H Q _ => ∃ (q pa pb : Addr) (ps : List (List Nat)) (rs : List Row) (a : List Nat), vs = [.ref q, .str (tx a)] ∧ Told H q pa pb ps rs ∧ RowsOk ps rs ∧ ps.length ≤ 45 ∧ rs.length ≤ 45 ∧ a ∈ ps ∧
  ∀ d xs H', Ex H H' → H d = none → WaysD H' d (bare rs) a xs → Q (.ref d) H'
section
variable {P : Program} {w : World} {K : PySem.W.Frag} {mg : Str → Option Value} {base : Heap}
theorem scWy : FnScope nWy ["_law_parts", "_law_start"] (defScope sWy) := ⟨rfl, rfl, rfl, by decide +kernel, rfl, by decide +kernel, by decide +kernel⟩
theorem ok_wy {f : Addr} {fd : FuncData} (F : FnP K "_law_ways" sWy f fd) (mLen : mg "len" = none) : FnOk P w K mg base L2.CX0 1 f fd ["_law_parts", "_law_start"] spWy := by
  refine F.ok (CX := L2.CX0) scWy (fun vs H Q E h => ?_) (fun cdv A outer s H vs Q E hr h => ?_)
  · obtain ⟨q, pa, pb, ps, rs, a, rfl, _⟩ := h
    rfl
  · refine ⟨_, (pss_cons (ps_set (i := 2) scWy.nd rfl (by first | exact Or.inl rfl | exact Or.inr rfl) (pe_disp (pps_cons (pv 1) (pe_lst pa_nil) pps_nil) (by rfl) (by rfl) (fun z => by cases z) (by decide)))
      (pss_cons (ps_set (i := 3) scWy.nd rfl (by first | exact Or.inl rfl | exact Or.inr rfl) (pe_lst (pa_cons (pv 1) pa_nil)))
      (pss_cons (ps_set (i := 4) scWy.nd rfl (by first | exact Or.inl rfl | exact Or.inr rfl) pe_int)
      (pss_cons (ps_while (passes_of rfl) (pt_cmpR op_lt (pv 4) (pe_callB call_len (by rfl) mLen boot_len (pa_cons (pv 3) pa_nil)) (nomark _)) (pss_cons (ps_for (passes_of rfl) rfl (pi_list (pe_ix ix_list (pv 0) pe_int fun _ _ => rfl)) (pg_tup rfl (pgs_cons (pg_name (i := 5) scWy.nd rfl (by first | exact Or.inl rfl | exact Or.inr rfl)) (pgs_cons (pg_name (i := 6) scWy.nd rfl (by first | exact Or.inl rfl | exact Or.inr rfl)) (pgs_cons (pg_name (i := 7) scWy.nd rfl (by first | exact Or.inl rfl | exact Or.inr rfl)) pgs_nil)))) (pss_one (ps_if (PW.pt (pw_and (pt_cmpR op_eq (pv 6) (pe_ix ix_list (pv 3) (pv 4) fun _ _ => rfl) (nomark _)) (pw_and1 (pt_cmp (pc_dnotin (Nat.lt_of_le_of_lt (Nat.add_le_add_left (show 1 ≤ 64 by decide) _) hr.units) (pv 7) (pv 2)))))) (pss_cons (ps_dput (Nat.lt_of_le_of_lt (Nat.add_le_add_left (show 1 ≤ 64 by decide) _) hr.units) (pv 2) (pv 7) (pe_op op_cat (pe_dget (Nat.lt_of_le_of_lt (Nat.add_le_add_left (show 1 ≤ 64 by decide) _) hr.units) (pv 2) (pv 6) (fun _ _ => rfl)) (pe_lst (pa_cons (pv 5) pa_nil))) rfl)
      (pss_one (ps_expr (pe_bm PySem.F.plainAttrs_list PySem.F.slot_list_append PySem.F.type_list_append mt_append (pv 3) (pa_cons (pv 7) pa_nil))))) pss_nil)))
      (pss_one (ps_set (i := 4) scWy.nd rfl (by first | exact Or.inl rfl | exact Or.inr rfl) (pe_op op_add (pv 4) pe_int)))))
      (pss_one (ps_ret (pv 2))))))), ?_⟩
    obtain ⟨g, pa, pb, ps, rs, a, rfl, T, RO, hp30, hr30, ha, k⟩ := h
    refine s_seq ?_
    refine fun d nd0 => ⟨_, rfl, Nat.zero_le _, fun l nl => ?_⟩
    have dl : d ≠ l := fun z => by rw [← z, upd_same] at nl; cases nl
    refine ⟨(upd_ne dl).trans upd_same, [((Sum.inr (tx a) : Key), V.ref l)], rfl, by show 1 ≤ 15; omega, ?_⟩
    refine s_seq ?_
    have hl0 : H l = none := fresh_back (Ex.new nd0) nl
    refine ⟨_, rfl, by show 1 ≤ sizeLine; decide, fun q nq => ?_⟩
    have qd : q ≠ d := fun z => by rw [z, upd_same] at nq; cases nq
    have ql : q ≠ l := fun z => by rw [z, upd_ne dl.symm, upd_same] at nq; cases nq
    have hq0 : H q = none := by
      rw [upd_ne qd, upd_ne ql, upd_ne qd] at nq
      exact nq
    have W0 : WS H (upd (upd (upd (upd H d (.dK [])) l (.lst [])) d (.dK (mergeK [] [((Sum.inr (tx a) : Key), V.ref l)]))) q (.lst [.str (tx a)])) d q [(l, a, [])] 0 :=
      { ex := (Ex.mut (Ex.mut (Ex.mut (Ex.mut (Ex.refl H) nd0) hl0) nd0) hq0)
        fd := nd0
        fq := hq0
        dct := (upd_ne qd.symm).trans upd_same
        que := upd_same
        way := fun x hx => by
          rw [List.mem_singleton.mp hx]
          exact ⟨(upd_ne ql.symm).trans ((upd_ne dl.symm).trans upd_same), ql.symm⟩
        short := fun x hx => by
          rw [List.mem_singleton.mp hx]
          exact Nat.zero_lt_one }
    refine s_seq ?_
    refine s_asg ev_c fun H0 e0 => ?_
    refine s_seq ?_
    refine s_while (fun m st H' => ∃ t5 t6 t7 xs, ∃ j : Nat, st = [some (.ref g), some (.str (tx a)), some (.ref d), some (.ref q), some (.int (j : Int)), t5, t6, t7] ∧ WS H H' d q xs 0 ∧ Bfs (Edge (bare rs)) a (posts xs) j ∧ Lev (LaneB (bare rs)) a (wp xs) j ∧ j ≤ xs.length ∧ (∀ b ∈ posts xs, b ∈ ps) ∧ m = ps.length - j) ps.length
      ⟨none, none, none, [(l, a, [])], 0, rfl, W0.grow e0, Bfs.start a, Lev.start a, Nat.zero_le _, fun b hb => by rw [List.mem_singleton.mp hb]; exact ha, by omega⟩ ?_
    rintro m st H1 ⟨t5, t6, t7, xs, j, rfl, W, B, Lv, hj, hin, hm⟩
    have hpl : (posts xs).length = xs.length := List.length_map _
    have hle : xs.length ≤ ps.length := by rw [← hpl]; exact few_of B.nd hin
    have hq1 : H1 q = some (.lst (vtx (posts xs))) := W.que
    refine ⟨_, et_test (ev_op (ev_var rfl) (ev_lenA (ev_var rfl) (sq_of hq1)) rv_I0), fun hb H2 e2 => ?_, fun hb H2 e2 => ?_⟩
    · have hlt : j < xs.length := by
        have := of_decide_eq_true hb
        rw [vtx_len, hpl] at this
        omega
      have W2 := W.grow e2
      have hjp : (posts xs)[j]? = some (posts xs)[j] := List.getElem?_eq_getElem (by rw [hpl]; exact hlt)
      generalize (posts xs)[j] = b0 at hjp
      refine ⟨fun st H' => ∃ t5 t6 t7 xs, st = [some (.ref g), some (.str (tx a)), some (.ref d), some (.ref q), some (.int ((j + 1 : Nat) : Int)), t5, t6, t7] ∧ WS H H' d q xs 0 ∧ Bfs (Edge (bare rs)) a (posts xs) (j + 1) ∧ Lev (LaneB (bare rs)) a (wp xs) (j + 1) ∧ j + 1 ≤ xs.length ∧ (∀ b ∈ posts xs, b ∈ ps), ?_, ?_⟩
      · rintro st H3 ⟨t5, t6, t7, xs, rfl, W3, B3, Lv3, hj3, hin3⟩
        exact ⟨ps.length - (j + 1), by omega, t5, t6, t7, xs, j + 1, rfl, W3, B3, Lv3, hj3, hin3, rfl⟩
      · have T2 := T.mono W2.ex
        refine s_seq ?_
        dsimp only
        refine s_forL (ev_ixA (i := 1) (ev_var rfl) (sq_of T2.at_) rfl) (sq_of T2.rows) (fun i st H' => ∃ t5 t6 t7 xs', st = [some (.ref g), some (.str (tx a)), some (.ref d), some (.ref q), some (.int (j : Int)), t5, t6, t7] ∧ WS H H' d q xs' 0 ∧ Bfs (Edge (bare rs)) a (posts xs') j ∧ Lev (LaneB (bare rs)) a (wp xs') j ∧ (posts xs')[j]? = some b0 ∧ (∀ b ∈ posts xs', b ∈ ps) ∧ ∀ r ∈ rs.take i, r.2.2.1 = b0 → r.2.2.2 ∈ posts xs')
          (fun H3 e3 => ⟨t5, t6, t7, xs, rfl, W2.grow e3, B, Lv, hjp, hin, fun r hr => by rw [List.take_zero] at hr; cases hr⟩) (fun i st H' _ ⟨_, _, _, _, _, W4, _⟩ => sq_of (W4.ex _ _ T.rows)) ?_ ?_
        · rintro i x st H4 hx ⟨t5, t6, t7, xs', rfl, W4, B4, Lv4, hj4, hin4, hr4⟩
          unfold refs at hx
          rw [List.getElem?_map] at hx
          obtain ⟨r, hri, rfl⟩ := Option.map_eq_some_iff.mp hx
          have hre := List.mem_of_getElem? hri
          have htk : rs.take (i + 1) = rs.take i ++ [r] := by rw [List.take_succ, hri]; rfl
          have hjx : j < xs'.length := by
            have := (List.getElem?_eq_some_iff.mp hj4).1
            rwa [WS.len_eq] at this
          have hle4 : xs'.length ≤ ps.length := by
            have := few_of B4.nd hin4
            rwa [WS.len_eq] at this
          have hq4 : H4 q = some (.lst (vtx (posts xs'))) := W4.que
          refine ⟨r.1, _, rfl, .inl (.inl (W4.ex _ _ (T.row r hre))), rfl, ?_⟩
          refine ⟨_, _, rfl, _, _, rfl, _, _, rfl, rfl, ?_⟩
          dsimp only
          show tIfS _ _ _ _ [some (.ref g), some (.str (tx a)), some (.ref d), some (.ref q), some (.int (j : Int)), some (.str (tx r.2.1)), some (.str (tx r.2.2.1)), some (.str (tx r.2.2.2))] H4
          refine s_if (et_and (et_test (ev_op (ev_var rfl) (ev_op (ev_var rfl) (ev_var rfl) (rv_ixL (sq_of hq4) (atI_nat (vtx_at hj4)))) (rv_eq rfl))) (fun _ => et_notin (ev_var rfl) (ev_var rfl) (DGet.k (k := (Sum.inr (tx r.2.2.2) : Key)) W4.dct))) (fun hb H6 e6 => ?_) (fun hb H6 e6 => ?_)
          · rw [Bool.and_eq_true] at hb
            have hst : r.2.2.1 = b0 := tx_inj (by have := of_decide_eq_true hb.1; injection this)
            have hnew : r.2.2.2 ∉ posts xs' := fun z => by
              have := hb.2
              rw [ways_val, decide_eq_true z] at this
              cases this
            have W6 := W4.grow e6
            have hb4 : b0 ∈ posts xs' := List.mem_of_getElem? hj4
            obtain ⟨y, hy, hyb, hyv⟩ := ways_get hb4
            refine s_seq ?_
            refine (ev_dget (ev_var rfl) (ev_var rfl) (by rw [← hyv, ← hst]; exact DGet.k (k := (Sum.inr (tx r.2.2.1) : Key)) W6.dct) : Ev (tDGet (tVar 2) (tVar 6)) _ H6 (.ref y.1)) H6 (Ex.refl _) _ fun H7 e7 => ?_
            refine (el_lst (ea_cons (ev_var rfl) ea_nil) (by show 1 ≤ 100000; decide) : EvL (tLst (tCons (tVar 5) tNil)) _ H7 [.str (tx r.2.1)]) H7 (Ex.refl _) _ fun p H8 np e8 hp => ?_
            have W8 := W6.grow (e7.trans e8)
            refine ⟨y.1, p, _, _, rfl, rfl, (W8.way y hy).1, hp, ?_, fun w nw => ?_⟩
            · have := W8.short y hy
              rw [vtx_len]
              exact sz_of (by show _ + 1 ≤ _; omega)
            have wd : w ≠ d := fun z => by rw [z, W8.dct] at nw; cases nw
            have wq : w ≠ q := fun z => by rw [z, W8.que] at nw; cases nw
            have hd9 : upd H8 w (.lst (vtx y.2.2 ++ [.str (tx r.2.1)])) d = some (.dK (dWays xs')) := (upd_ne wd.symm).trans W8.dct
            refine ⟨_, rfl, _, rfl, d, _, rfl, DPut.k (k := (Sum.inr (tx r.2.2.2) : Key)) hd9 (sz_lt ?_), ?_⟩
            · unfold dWays
              rw [List.length_map]
              omega
            dsimp only
            refine s_app (l := q) (xs := vtx (posts xs')) ?_ (ev_var rfl) (ev_var rfl) ?_ fun H9 e9 => ?_
            · rw [upd_ne (ne_kind W8.dct W8.que (by intro z; cases z)).symm, upd_ne wq.symm]
              exact W8.que
            · rw [vtx_len, WS.len_eq]
              omega
            obtain ⟨W9, old⟩ := W8.put (c := r.2.2.2) (l := r.2.1) (Nat.zero_le _) hy hnew nw e9
            refine ⟨_, _, _, xs' ++ [(w, r.2.2.2, y.2.2 ++ [r.2.1])], rfl, W9, ?_, ?_, ?_, ?_, ?_⟩
            · unfold posts at B4 ⊢
              rw [List.map_append]
              refine B4.add (by rw [List.length_map]; omega) hb4 ?_ hnew
              exact ⟨r.2, List.mem_map.mpr ⟨r, hre, rfl⟩, hst, rfl⟩
            · rw [wp_app]
              exact Lv4.add (wp_at B4.nd hj4 hy hyb) (List.mem_map.mpr ⟨r, hre, by rw [← hst]⟩)
            · unfold posts at hj4 ⊢
              rw [List.map_append, List.getElem?_append_left (by rw [List.length_map]; exact hjx)]
              exact hj4
            · intro b hb'
              unfold posts at hb'
              rw [List.map_append] at hb'
              rcases List.mem_append.mp hb' with h | h
              · exact hin4 b h
              · rw [List.mem_singleton.mp h]
                exact (RO.2 r hre).2
            · intro r' hr' hs'
              unfold posts
              rw [List.map_append]
              rw [htk] at hr'
              rcases List.mem_append.mp hr' with h | h
              · exact List.mem_append_left _ (hr4 r' h hs')
              · rw [List.mem_singleton.mp h]
                exact List.mem_append_right _ List.mem_cons_self
          · refine ⟨_, _, _, xs', rfl, W4.grow e6, B4, Lv4, hj4, hin4, fun r' hr' hs' => ?_⟩
            rw [htk] at hr'
            rcases List.mem_append.mp hr' with h | h
            · exact hr4 r' h hs'
            · have hrr := List.mem_singleton.mp h
              rw [hrr] at hs' ⊢
              refine Decidable.byContradiction fun z => ?_
              rw [ways_val, decide_eq_false z, decide_eq_true (by rw [hs'])] at hb
              cases hb
        · rintro st H4 ⟨t5, t6, t7, xs', rfl, W4, B4, Lv4, hj4, hin4, hr4⟩
          have hjx : j < xs'.length := by
            have := (List.getElem?_eq_some_iff.mp hj4).1
            rwa [WS.len_eq] at this
          refine s_asg (ev_op (ev_var rfl) ev_c rv_I0) fun H5 e5 => ⟨_, _, _, xs', rfl, W4.grow e5, B4.next hj4 (fun c hc => ?_), ?_, by omega, hin4⟩
          rotate_left
          · obtain ⟨ls, hls⟩ := wp_some hj4
            refine Lv4.next hls fun l c hl => ?_
            rw [wp_posts]
            unfold LaneB bare at hl
            obtain ⟨r, hr, hre⟩ := List.mem_map.mp hl
            have h1 : r.2.2.1 = b0 := by rw [hre]
            have h2 : r.2.2.2 = c := by rw [hre]
            rw [← h2]
            refine hr4 r ?_ h1
            rw [List.take_of_length_le (by unfold refs; rw [List.length_map]; exact Nat.le_refl _)]
            exact hr
          obtain ⟨z, hz, hz1, hz2⟩ := hc
          unfold bare at hz
          obtain ⟨r, hr, rfl⟩ := List.mem_map.mp hz
          rw [← hz2]
          refine hr4 r ?_ hz1
          rw [List.take_of_length_le (by unfold refs; rw [List.length_map]; exact Nat.le_refl _)]
          exact hr
    · have hge : ¬ j < xs.length := fun h => by
        have := of_decide_eq_false hb
        rw [vtx_len, hpl] at this
        omega
      have W2 := W.grow e2
      refine s_ret (ev_var rfl) fun H3 e3 => k d xs H3 (W2.ex.trans e3) nd0 ⟨(W2.grow e3).dct, B.done (by rw [hpl]; omega), fun x hx => ((W2.grow e3).way x hx).1, fun x hx => Lv.done (by unfold wp; rw [List.length_map]; omega) (by rw [wp_posts]; exact B.nd) x.2 (List.mem_map.mpr ⟨x, hx, rfl⟩), fun x hx => by have := W2.short x hx; omega⟩
end
end J61

set_option Elab.async false
set_option linter.all false
set_option maxRecDepth 100000
set_option maxHeartbeats 2000000
/-! Comprehensions over a new tuple; `in` of a dict that is made there. -/
namespace Ve
open PySem PySem.Spec PyProof.Rows L2 Vl Evl
section
variable {K : PySem.W.Frag} {σ : L2.St} {H : Hp} {te : TE}
theorem el_lcU {α : Type} {ys : List α} {g : α → V} {tl : TE} {j : Nat} {vs : List Nat} {tt : TT} (c : α → Bool) (w : α → V) (h : EvU tl σ H (ys.map g)) (hz : ys.length ≤ 40000) (hw : ∀ x, wipe ((wipe σ vs).set j (some x)) vs = wipe σ vs)
    (ht : ∀ (y : α) (H1 : Hp), Ex H H1 → y ∈ ys → EvT tt ((wipe σ vs).set j (some (g y))) H1 (c y)) (he : ∀ (y : α) (H1 : Hp), Ex H H1 → y ∈ ys → c y = true → Ev te ((wipe σ vs).set j (some (g y))) H1 (w y)) :
    EvL (tLc (iTup K tl) (gName j) tt te vs) σ H ((ys.filter c).map w) := fun H0 e Q q => h H0 e _ fun a H1 ha e1 hx => ⟨a, rfl, ⟨ys.map g, st_of hx⟩, fun Dl hD => by
  have hgm := given_map c w (fun i => match ys[i]? with | some y => c y | none => false) (fun i => match ys[i]? with | some y => w y | none => .non) (fun i y hy => by rw [hy]; exact ⟨rfl, rfl⟩) ys.length (Nat.le_refl _)
  rw [List.take_length] at hgm
  refine lc_tup (xs := ys.map g) (Cw H1 (fun i => match ys[i]? with | some y => c y | none => false) (fun i => match ys[i]? with | some y => w y | none => .non) Dl) ⟨hD, Ex.new hD, upd_same⟩ (fun i H' _ p => st_of (p.2.1 a _ hx)) (fun i x H' hi p => ⟨hw x, ?_⟩)
    (fun H' p => q Dl H' (fresh_back e1 p.1) (e1.trans p.2.1) (by have h2 := p.2.2; rw [List.length_map, hgm] at h2; exact h2))
  rw [List.getElem?_map] at hi
  obtain ⟨y, hy, rfl⟩ := Option.map_eq_some_iff.mp hi
  have hm := List.mem_of_getElem? hy
  refine cw_turn p (by have := (List.getElem?_eq_some_iff.mp hy).1; omega) ?_ ?_
  · rw [hy]
    exact ht y H1 (e.trans e1) hm
  · rw [hy]
    exact fun hf => he y H1 (e.trans e1) hm hf⟩
theorem ev_lenT {p : Addr} {xs : List V} (h : Ev te σ H (.ref p)) (hx : SqT K H p xs) : Ev (tCB (fun vs H Q => ∃ x n, vs = [x] ∧ LenV K x H n ∧ Q (.int n) H) (tCons te tNil)) σ H (.int (xs.length : Nat)) := fun H1 e Q q =>
  h H1 e _ fun H2 e2 => ⟨.ref p, xs.length, rfl, .inr ⟨xs, ex_t (e.trans e2) hx, rfl⟩, q H2 e2⟩
/-- x in d, d made there -/
theorem et_inN {ty td : TE} {y : V} {b : Bool} (h1 : Ev ty σ H y) (h2 : ∀ H1, Ex H H1 → ∀ Q : VK, (∀ d o H2, Ex H1 H2 → DGet H2 d y o → o.isSome = b → Q (.ref d) H2) → td σ H1 Q) : EvT (tB (tDIn ty td)) σ H b := fun H1 e Q q =>
  h1 H1 e _ fun H2 e2 => h2 H2 (e.trans e2) _ fun d o H3 e3 hg hb => ⟨d, o, rfl, hg, _, rfl, by rw [hb]; exact q H3 (e2.trans e3)⟩
end
end Ve

set_option Elab.async false
set_option linter.all false
set_option maxRecDepth 100000
set_option maxHeartbeats 4000000
/-! The part of a lane, by the law. -/
namespace J61
open K61 PySem PySem.Spec PyProof.Rows L2 Vl Evl Vp Vr Vx2 Vlk Vda Vc Ve Vrc Vwy
abbrev Bare : Type := List (List Nat × List Nat × List Nat)
def insideB (B : List (List Nat)) (t : List Nat × List Nat × List Nat) : Bool := decide (t.2.1 ∈ B) && decide (t.2.2 ∈ B)
def inner (bs : Bare) (B : List (List Nat)) : List (List Nat) := (bs.filter (insideB B)).map fun t => t.1
noncomputable def bothB (bs : Bare) (a b : List Nat) : Bool := @decide (Reach (Edge bs) a b) (Classical.propDecidable _) && @decide (Reach (Edge bs) b a) (Classical.propDecidable _)
theorem both_iff {bs : Bare} {a b : List Nat} : bothB bs a b = true ↔ Reach (Edge bs) a b ∧ Reach (Edge bs) b a := by
  unfold bothB
  rw [Bool.and_eq_true]
  exact ⟨fun h => ⟨@of_decide_eq_true _ (Classical.propDecidable _) h.1, @of_decide_eq_true _ (Classical.propDecidable _) h.2⟩, fun h => ⟨@decide_eq_true _ (Classical.propDecidable _) h.1, @decide_eq_true _ (Classical.propDecidable _) h.2⟩⟩
noncomputable def scc (bs : Bare) (ps : List (List Nat)) (a : List Nat) : List (List Nat) := ps.filter (bothB bs a)
theorem inner_rows (es : List Row) (B : List (List Nat)) : (es.filter fun r => insideB B r.2).map (fun r => V.str (tx r.2.1)) = vtx (inner (bare es) B) := by
  unfold inner bare vtx
  rw [List.filter_map, List.map_map, List.map_map]
  rfl
theorem inner_rows' (es : List Row) (B : List (List Nat)) : (es.filter fun r => insideB B r.2).map (fun r => r.2.1) = inner (bare es) B := by
  unfold inner bare
  rw [List.filter_map, List.map_map]
  rfl
theorem lanes_rows (es : List Row) : vtx (laneNames es) = es.map fun r => V.str (tx r.2.1) := by
  unfold vtx laneNames
  rw [List.map_map]
  rfl
theorem flat_tx (xs : List (List Nat)) : (vtx xs).all flatV = true := List.all_eq_true.mpr fun v hv => by
  unfold vtx at hv
  obtain ⟨l, _, rfl⟩ := List.mem_map.mp hv
  rfl
theorem eu_fu {σ : L2.St} {H : Hp} {sp : Sp} {E : L2.St → XK} {vs xs : List V} {ta : TA} (h : EvA ta σ H vs) (hs : SpU sp vs H xs) : EvU (tFu sp E ta) σ H xs := fun H1 e Q q =>
  h H1 e _ fun H2 e2 => hs H2 (e.trans e2) Q (fun p H3 hp e3 h3 => q p H3 (fresh_back e2 hp) (e2.trans e3) h3) (E σ)
noncomputable def reB (bs : Bare) (a b : List Nat) : Bool := @decide (Reach (Edge bs) a b) (Classical.propDecidable _)
theorem reB_iff {bs : Bare} {a b : List Nat} : reB bs a b = true ↔ Reach (Edge bs) a b := ⟨fun h => @of_decide_eq_true _ (Classical.propDecidable _) h, fun h => @decide_eq_true _ (Classical.propDecidable _) h⟩
theorem ways_re {H : Hp} {d : Addr} {bs : Bare} {a : List Nat} {xs : List Way} (W : WaysD H d bs a xs) (b : List Nat) : (valV (dWays xs) (Sum.inr (tx b) : Key)).isSome = reB bs a b := by
  rw [ways_val]
  refine Bool.eq_iff_iff.mpr ?_
  rw [reB_iff, decide_eq_true_iff, W.re]
theorem both_symm {bs : Bare} {a b : List Nat} : bothB bs a b = bothB bs b a := by
  unfold bothB
  rw [Bool.and_comm]
theorem both_refl {bs : Bare} {a : List Nat} : bothB bs a a = true := both_iff.mpr ⟨.refl, .refl⟩
theorem both_trans {bs : Bare} {a b c : List Nat} (h : bothB bs a b = true) (h2 : bothB bs b c = true) : bothB bs a c = true :=
  both_iff.mpr ⟨(both_iff.mp h).1.trans (both_iff.mp h2).1, (both_iff.mp h2).2.trans (both_iff.mp h).2⟩
theorem row_own {es : List Row} (nd : (laneNames es).Nodup) {i : Nat} {r : Row} (h : es[i]? = some r) : rowOf es r.2.1 = some r := by
  induction es generalizing i with
  | nil => cases h
  | cons x t ih =>
    unfold rowOf
    rw [List.find?_cons]
    cases i with
    | zero =>
      have : x = r := Option.some.inj h
      rw [this, decide_eq_true rfl]
    | succ i =>
      have h : t[i]? = some r := h
      have hm : r ∈ t := List.mem_of_getElem? h
      have hne : ¬ x.2.1 = r.2.1 := fun z => (List.nodup_cons.mp nd).1 (by show x.2.1 ∈ laneNames t; rw [z]; exact List.mem_map_of_mem hm)
      rw [decide_eq_false hne]
      exact ih (List.nodup_cons.mp nd).2 h
def rowD (r : Row) : PyData := wd [r.2.1, r.2.2.1, r.2.2.2]
theorem dpa_rows {K : PySem.W.Frag} {H : Hp} : ∀ {rs : List Row}, (∀ r ∈ rs, RowAt H r) → DpAll K H (refs rs) (rs.map rowD)
  | [], _ => .nil
  | x :: r, h => .cons (dp_wd (a := [x.2.1, x.2.2.1, x.2.2.2]) (.inl (.inl (h x List.mem_cons_self)))) (dpa_rows fun y hy => h y (List.mem_cons_of_mem _ hy))
theorem lay_rows : ∀ {rs : List Row}, (∀ r ∈ rs, nam r.2.1 ∧ nam r.2.2.1 ∧ nam r.2.2.2) → PyData.canLayAll0 (rs.map rowD) = true ∧ PyData.depthAll (rs.map rowD) ≤ 1
  | [], _ => ⟨rfl, Nat.zero_le _⟩
  | x :: r, h => by
    obtain ⟨h1, h2⟩ := lay_rows fun y hy => h y (List.mem_cons_of_mem _ hy)
    obtain ⟨a1, a2, a3⟩ := h x List.mem_cons_self
    have hx : PyData.canLay0 (rowD x) = true := lay_ok [x.2.1, x.2.2.1, x.2.2.2] (oks_cons (ok_nam a1) (oks_cons (ok_nam a2) (oks_cons (ok_nam a3) oks_nil)))
    have hd : (rowD x).depth ≤ 1 := dep_wd _
    refine ⟨?_, ?_⟩
    · show (PyData.canLay0 (rowD x) && PyData.canLayAll0 (r.map rowD)) = true
      rw [hx, h1]
      rfl
    · show max (rowD x).depth (PyData.depthAll (r.map rowD)) ≤ 1
      omega
theorem sh_rows {rs : List Row} (h : ∀ r ∈ rs, nam r.2.1 ∧ nam r.2.2.1 ∧ nam r.2.2.2) : SeqAt.shaped (.list (rs.map rowD)) = true := shaped_of (lay_rows h).1 (by
  show PyData.depthAll (rs.map rowD) + 1 ≤ 64
  have := (lay_rows h).2
  omega)
theorem eq_rows (rs : List Row) : PyData.eqv (.list (rs.map rowD)) (.list []) = decide (rs = []) := by cases rs <;> rfl
theorem nam_rows {ps : List (List Nat)} {rs : List Row} (NA : Names ps) (RO : RowsOk ps rs) : ∀ r ∈ rs, nam r.2.1 ∧ nam r.2.2.1 ∧ nam r.2.2.2 := fun r hr =>
  ⟨RO.1.1 _ (List.mem_map_of_mem (f := fun r : Row => r.2.1) hr), NA.1 _ (RO.2 r hr).1, NA.1 _ (RO.2 r hr).2⟩
theorem ends_look {es : List Row} (nd : (laneNames es).Nodup) {t} (ht : t ∈ bare es) : ∃ e ∈ es, e.2 = t ∧ valV (dEnds es) (Sum.inr (tx t.1) : Key) = some (V.ref e.1) := by
  unfold bare at ht
  obtain ⟨e, he, rfl⟩ := List.mem_map.mp ht
  obtain ⟨i, hi⟩ := List.getElem?_of_mem he
  exact ⟨e, he, rfl, by rw [ends_get, row_own nd hi]; rfl⟩
theorem Pl.mut {Hk H : Hp} {p x : Addr} {n : Nat} {o : HO} (h : Pl Hk p n H) (hx : Hk x = none) (xp : x ≠ p) : Pl Hk p n (upd H x o) := by
  refine ⟨h.no, Ex.mut h.ex hx, ?_⟩
  obtain ⟨a', b', c', w1, w2⟩ := h.at_
  exact ⟨a', b', c', by rw [upd_ne xp.symm]; exact w1, w2⟩
variable {K : PySem.W.Frag}
theorem ev_ends {σ : L2.St} {H : Hp} {d : Addr} {es : List Row} {td ti : TE} {t : List Nat × List Nat × List Nat} {j : Nat} {l : List Nat} (nd : (laneNames es).Nodup) (hd : H d = some (.dK (dEnds es))) (he : ∀ e ∈ es, EndAt H e) (ht : t ∈ bare es) (h1 : Ev td σ H (.ref d)) (h2 : Ev ti σ H (.str (tx t.1))) (hj : ([V.str (tx t.2.1), V.str (tx t.2.2)])[j]? = some (.str (tx l))) :
    Ev (tOp (rIxT K) (tDGet td ti) (tC (.int (j : Nat)))) σ H (.str (tx l)) := by
  obtain ⟨e, hm, rfl, hv⟩ := ends_look nd ht
  exact ev_op (ev_dget h1 h2 (by rw [← hv]; exact DGet.k (k := (Sum.inr (tx e.2.1) : Key)) hd)) ev_c (rv_ixT (st_of (he e hm)) (at_of rfl hj))
theorem mem_inner {bs : Bare} {B : List (List Nat)} {l : List Nat} : l ∈ inner bs B ↔ ∃ t ∈ bs, t.1 = l ∧ t.2.1 ∈ B ∧ t.2.2 ∈ B := by
  unfold inner insideB
  constructor
  · intro h
    obtain ⟨t, ht, rfl⟩ := List.mem_map.mp h
    have h1 := List.mem_filter.mp ht
    rw [Bool.and_eq_true, decide_eq_true_iff, decide_eq_true_iff] at h1
    exact ⟨t, h1.1, rfl, h1.2.1, h1.2.2⟩
  · rintro ⟨t, ht, rfl, h1, h2⟩
    exact List.mem_map.mpr ⟨t, List.mem_filter.mpr ⟨ht, by rw [decide_eq_true h1, decide_eq_true h2]; rfl⟩, rfl⟩
theorem bare_row {ps : List (List Nat)} {rs : List Row} {t} (RO : RowsOk ps rs) (ht : t ∈ bare rs) : nam t.1 ∧ t.2.1 ∈ ps ∧ t.2.2 ∈ ps := by
  unfold bare at ht
  obtain ⟨r, hr, rfl⟩ := List.mem_map.mp ht
  exact ⟨RO.1.1 _ (List.mem_map_of_mem (f := fun r : Row => r.2.1) hr), RO.2 r hr⟩
theorem bare_own {ps : List (List Nat)} {rs : List Row} {t u} (RO : RowsOk ps rs) (ht : t ∈ bare rs) (hu : u ∈ bare rs) (h : t.1 = u.1) : t = u := by
  obtain ⟨i, hi⟩ := List.getElem?_of_mem ht
  obtain ⟨j, hj⟩ := List.getElem?_of_mem hu
  have hn : ((bare rs).map fun x => x.1).Nodup := by
    have := RO.1.2
    unfold bare
    rw [List.map_map]
    exact this
  have h1 : ((bare rs).map fun x => x.1)[i]? = some t.1 := by rw [List.getElem?_map, hi]; rfl
  have h2 : ((bare rs).map fun x => x.1)[j]? = some t.1 := by rw [List.getElem?_map, hj, h]; rfl
  have := nd_ix hn h1 h2
  rw [this, hj] at hi
  exact (Option.some.inj hi).symm
def names (bs : Bare) : List (List Nat) := bs.map fun t => t.1
theorem names_rows (es : List Row) : names (bare es) = laneNames es := by
  unfold names bare laneNames
  rw [List.map_map]
  rfl
theorem et_notinN {ty td : TE} {σ : L2.St} {H : Hp} {y : V} {b : Bool} (h1 : Ev ty σ H y) (h2 : ∀ H1, Ex H H1 → ∀ Q : VK, (∀ d o H2, Ex H1 H2 → DGet H2 d y o → o.isSome = b → Q (.ref d) H2) → td σ H1 Q) : EvT (tB (tDNotIn ty td)) σ H (!b) := fun H1 e Q q =>
  h1 H1 e _ fun H2 e2 => h2 H2 (e.trans e2) _ fun d o H3 e3 hg hb => ⟨d, o, rfl, hg, _, rfl, by rw [hb]; exact q H3 (e2.trans e3)⟩
structure PartL (H : Hp) (f x y : Addr) (B L : List (List Nat)) : Prop where
  at_ : H f = some (.lst [.ref x, .ref y])
  posts : H x = some (.lst (vtx B))
  lanes : H y = some (.lst (vtx L))
theorem PartL.mono {H H' : Hp} {f x y : Addr} {B L : List (List Nat)} (e : Ex H H') (h : PartL H f x y B L) : PartL H' f x y B L := ⟨e _ _ h.at_, e _ _ h.posts, e _ _ h.lanes⟩
end J61

set_option Elab.async false
set_option linter.all false
set_option maxRecDepth 100000
set_option maxHeartbeats 4000000
/-! A drawn closed walk within a part, by the law. -/
namespace J61
open K61 PySem PySem.Spec PyProof.Rows L2 Vl Evl Vp Vr Vx2 Vlk Vda Vc Ve Vrc Vwy
theorem wk_app {α β : Type} {E : β → α → α → Prop} {a b c : α} {ls ms : List β} (h : Wk E a b ls) (g : Wk E b c ms) : Wk E a c (ls ++ ms) := by
  induction g with
  | nil => rw [List.append_nil]; exact h
  | snoc _ e ih => rw [← List.append_assoc]; exact .snoc ih e
theorem perm_mapG {α β : Type} {f : α → β} {ys zs : List β} (h : ys.Perm zs) : ∀ rs : List α, zs = rs.map f → ∃ rs' : List α, ys = rs'.map f ∧ rs'.Perm rs := by
  induction h with
  | nil => exact fun rs e => ⟨rs, e, .refl _⟩
  | cons x _ ih =>
    intro rs e
    cases rs with
    | nil => cases e
    | cons a r =>
      rw [List.map_cons] at e
      obtain ⟨e1, e2⟩ := List.cons.inj e
      obtain ⟨r', h1, h2⟩ := ih r e2
      exact ⟨a :: r', by rw [List.map_cons, h1, e1], h2.cons a⟩
  | swap x y l =>
    intro rs e
    match rs, e with
    | a :: b :: r, e =>
      rw [List.map_cons, List.map_cons] at e
      obtain ⟨e1, e2⟩ := List.cons.inj e
      obtain ⟨e2, e3⟩ := List.cons.inj e2
      exact ⟨b :: a :: r, by rw [List.map_cons, List.map_cons, e1, e2, e3], .swap a b r⟩
  | trans _ _ ih1 ih2 =>
    intro rs e
    obtain ⟨r2, h1, h2⟩ := ih2 rs e
    obtain ⟨r1, h3, h4⟩ := ih1 r2 h1
    exact ⟨r1, h3, h4.trans h2⟩
/-- lanes that lead round: each post of B reaches each other one, and a lane leads out of each -/
structure Strong (bi : Bare) (B : List (List Nat)) : Prop where
  ends : ∀ t ∈ bi, t.2.1 ∈ B ∧ t.2.2 ∈ B
  re : ∀ b ∈ B, ∀ c ∈ B, Reach (Edge bi) b c
  out : ∀ b ∈ B, ∃ t ∈ bi, t.2.1 = b
def within (bs : Bare) (L : List (List Nat)) : Bare := bs.filter fun t => decide (t.1 ∈ L)
theorem within_rows (rs : List Row) (L : List (List Nat)) : bare (rs.filter fun r => decide (r.2.1 ∈ L)) = within (bare rs) L := by
  unfold bare within
  rw [List.filter_map]
  rfl
theorem rows_sub {ps : List (List Nat)} {rs : List Row} (RO : RowsOk ps rs) (f : Row → Bool) : RowsOk ps (rs.filter f) := by
  refine ⟨⟨fun l hl => ?_, ?_⟩, fun r hr => RO.2 r (List.mem_filter.mp hr).1⟩
  · obtain ⟨r, hr, rfl⟩ := List.mem_map.mp hl
    exact RO.1.1 _ (List.mem_map_of_mem (f := fun r : Row => r.2.1) (List.mem_filter.mp hr).1)
  · exact RO.1.2.sublist (List.filter_sublist.map _)
theorem dec_tx {a b : List Nat} : V.bl (decide (V.str (tx a) = V.str (tx b))) = V.bl (decide (a = b)) := by
  by_cases h : a = b
  · rw [h, decide_eq_true rfl, decide_eq_true rfl]
  · rw [decide_eq_false h, decide_eq_false fun z => h (tx_inj (V.str.inj z))]
abbrev sHi : Stmt := top 40
abbrev nHi : List Str := ["_law_pool_here", "_law_parts", "_law_part", "_law_wanted", "_law_ends_here", "_law_inner", "_law_row", "_law_start", "_law_here", "_law_tour", "_law_lane", "_law_turn", "_law_out", "_law_step", "_law_goal"]
def spHi (K : PySem.W.Frag) : Sp := fun vs H Q _ => ∃ (p q a b f x y wl : Addr) (ps : List (List Nat)) (rs : List Row) (B L ws : List (List Nat)) (Hk : Hp) (n : Nat), vs = [.ref p, .ref q, .ref f, .ref wl] ∧ Pl Hk p n H ∧ n ≤ 80000 ∧
  Told Hk q a b ps rs ∧ Names ps ∧ RowsOk ps rs ∧ ps.length ≤ 45 ∧ rs.length ≤ 45 ∧ PartL Hk f x y B L ∧ (SqL K Hk wl (vtx ws) ∨ SqT K Hk wl (vtx ws)) ∧ ws.length ≤ 40 ∧ (∀ c ∈ B, c ∈ ps) ∧ 1 ≤ B.length ∧ B.length ≤ 45 ∧ Strong (within (bare rs) L) B ∧
  (∀ w ∈ ws, w ∈ names (within (bare rs) L)) ∧
  ∀ d ls s0 H', H d = none → Pl Hk p (n + 1000) H' → H' d = some (.lst (vtx ls)) → s0 ∈ B → Wk (LaneB (within (bare rs) L)) s0 s0 ls → (∀ w ∈ ws, w ∈ ls) → ls.length ≤ 60 * (ws.length + 1) → Q (.ref d) H'
abbrev tLn (K : PySem.W.Frag) (te : TE) : TE := tCB (fun xs H Q => ∃ x n, xs = [x] ∧ LenV K x H n ∧ Q (.int n) H) (tCons te tNil)
abbrev tI0 (K : PySem.W.Frag) (i : Nat) : TE := tOp (rIxL K) (tVar i) (tC (.int 0))
abbrev tI1 (K : PySem.W.Frag) (i : Nat) : TE := tOp (rIxL K) (tVar i) (tC (.int 1))
section
variable {P : Program} {w : World} {K : PySem.W.Frag} {mg : Str → Option Value} {base : Heap}
theorem scHi : FnScope nHi ["_law_pool_here", "_law_parts", "_law_part", "_law_wanted"] (defScope sHi) := ⟨rfl, rfl, rfl, by decide +kernel, rfl, by decide +kernel, by decide +kernel⟩
theorem ok_hi {f : Addr} {fd : FuncData} (F : FnP K "_law_hidden" sHi f fd) (TEn : Fu P w K mg base L2.CX0 1 "_law_ends" spEn) (TWy : Fu P w K mg base L2.CX0 1 "_law_ways" spWy) (TT : Fu P w K mg base L2.CX0 1 "_law_take" spTake) (TMx : Fu P w K mg base L2.CX0 2 "_law_mixed" spMixed) (mLen : mg "len" = none) (mList : mg "list" = none) (mRange : mg "range" = none) :
    FnOk P w K mg base L2.CX0 3 f fd ["_law_pool_here", "_law_parts", "_law_part", "_law_wanted"] (spHi K) := by
  refine F.ok (CX := L2.CX0) scHi (fun vs H Q E h => ?_) (fun cdv A outer s H vs Q E hr h => ?_)
  · obtain ⟨p, q, a, b, f, x, y, wl, ps, rs, B, L, ws, Hk, n, rfl, _⟩ := h
    rfl
  · refine ⟨_, (pss_cons (ps_set (i := 4) scHi.nd rfl (by first | exact Or.inl rfl | exact Or.inr rfl) (pe_fu TEn hr (by rfl) (pa_cons (pv 1) pa_nil)))
      (pss_cons (ps_set (i := 5) scHi.nd rfl (by first | exact Or.inl rfl | exact Or.inr rfl) (pe_lst (pa_cons (pe_ix ix_list (pv 1) pe_int fun _ _ => rfl) (pa_cons (pe_lc (own := [("_law_row", 6)]) (g := (gName 6)) (tt := (tTest (tOp (rIn K false) (tOp (rIxT K) (tVar 6) (tC (.int 0))) (tOp (rIxL K) (tVar 2) (tC (.int 1)))))) (te := (tVar 6)) rfl scHi.nd (pi_list (pe_ix ix_list (pv 1) pe_int fun _ _ => rfl)) (blkOk_by (own := [("_law_row", 6)]) (N := nHi) (sc := defScope sHi) (by decide +kernel)) (fun _ _ _ _ _ => (pg_name (i := 6) scHi.nd rfl (by first | exact Or.inl rfl | exact Or.inr rfl))) (fun _ _ _ _ _ => (pts_one (pt_cmpR op_in_seq (pe_ix ix_tup (pv 6) pe_int fun _ _ => rfl) (pe_ix ix_list (pv 2) pe_int fun _ _ => rfl) rfl))) (fun _ _ _ _ _ => (pv 6))) pa_nil))))
      (pss_cons (ps_set (i := 7) scHi.nd rfl (by first | exact Or.inl rfl | exact Or.inr rfl) (pe_ix ix_list (pe_ix ix_list (pv 2) pe_int fun _ _ => rfl) (pe_fu TT hr (by rfl) (pa_cons (pv 0) (pa_cons (pe_callB call_len (by rfl) mLen boot_len (pa_cons (pe_ix ix_list (pv 2) pe_int fun _ _ => rfl) pa_nil)) pa_nil))) fun _ _ => rfl))
      (pss_cons (ps_set (i := 8) scHi.nd rfl (by first | exact Or.inl rfl | exact Or.inr rfl) (pv 7))
      (pss_cons (ps_set (i := 9) scHi.nd rfl (by first | exact Or.inl rfl | exact Or.inr rfl) (pe_lst pa_nil))
      (pss_cons (ps_for (passes_of rfl) rfl (pi_list (pe_op op_cat (pe_fu TMx hr (by rfl) (pa_cons (pv 0) (pa_cons (pe_callTy call_list_of (by rfl) mList boot_list (pa_cons (pv 3) pa_nil)) pa_nil))) (pe_lst (pa_cons pe_non pa_nil)))) (pg_name (i := 10) scHi.nd rfl (by first | exact Or.inl rfl | exact Or.inr rfl)) (pss_cons (ps_for (passes_of rfl) rfl (pi_range1 (by rfl) mRange (pa_cons (pe_fu TT hr (by rfl) (pa_cons (pv 0) (pa_cons pe_int pa_nil))) pa_nil)) (pg_name (i := 11) scHi.nd rfl (by first | exact Or.inl rfl | exact Or.inr rfl)) (pss_cons (ps_setLc (i := 12) (own := [("_law_row", 6)]) (g := (gName 6)) (tt := (tTest (tOp rEq (tOp (rIxT K) (tVar 6) (tC (.int 1))) (tVar 8)))) (te := (tOp (rIxT K) (tVar 6) (tC (.int 0)))) rfl scHi.nd rfl rfl (sw_true rfl rfl rfl (by decide +kernel)) (pi_list (pe_ix ix_list (pv 5) pe_int fun _ _ => rfl)) (blkOk_by (own := [("_law_row", 6)]) (N := nHi) (sc := defScope sHi) (by decide +kernel)) (fun _ _ _ _ _ => (pg_name (i := 6) scHi.nd rfl (by first | exact Or.inl rfl | exact Or.inr rfl))) (fun _ _ _ _ _ => (pts_one (pt_cmpR op_eq (pe_ix ix_tup (pv 6) pe_int fun _ _ => rfl) (pv 8) (nomark _)))) (fun _ _ _ _ _ => (pe_ix ix_tup (pv 6) pe_int fun _ _ => rfl)))
      (pss_cons (ps_set (i := 13) scHi.nd rfl (by first | exact Or.inl rfl | exact Or.inr rfl) (pe_ix ix_list (pv 12) (pe_fu TT hr (by rfl) (pa_cons (pv 0) (pa_cons (pe_callB call_len (by rfl) mLen boot_len (pa_cons (pv 12) pa_nil)) pa_nil))) fun _ _ => rfl))
      (pss_cons (ps_expr (pe_bm PySem.F.plainAttrs_list PySem.F.slot_list_append PySem.F.type_list_append mt_append (pv 9) (pa_cons (pv 13) pa_nil)))
      (pss_one (ps_set (i := 8) scHi.nd rfl (by first | exact Or.inl rfl | exact Or.inr rfl) (pe_ix ix_tup (pe_dget (Nat.lt_of_le_of_lt (Nat.add_le_add_left (show 1 ≤ 64 by decide) _) hr.units) (pv 4) (pv 13) (fun _ _ => rfl)) pe_int fun _ _ => rfl)))))))
      (pss_cons (ps_set (i := 14) scHi.nd rfl (by first | exact Or.inl rfl | exact Or.inr rfl) (pv 7))
      (pss_cons (ps_if (pt_cmpR op_notN (pv 10) pe_non (nomark _)) (pss_one (ps_set (i := 14) scHi.nd rfl (by first | exact Or.inl rfl | exact Or.inr rfl) (pe_ix ix_tup (pe_dget (Nat.lt_of_le_of_lt (Nat.add_le_add_left (show 1 ≤ 64 by decide) _) hr.units) (pv 4) (pv 10) (fun _ _ => rfl)) pe_int fun _ _ => rfl))) pss_nil)
      (pss_cons (ps_set (i := 9) scHi.nd rfl (by first | exact Or.inl rfl | exact Or.inr rfl) (pe_op op_cat (pv 9) (pe_dget (Nat.lt_of_le_of_lt (Nat.add_le_add_left (show 1 ≤ 64 by decide) _) hr.units) (pe_fu TWy hr (by rfl) (pa_cons (pv 5) (pa_cons (pv 8) pa_nil))) (pv 14) (fun _ _ => rfl))))
      (pss_cons (ps_set (i := 8) scHi.nd rfl (by first | exact Or.inl rfl | exact Or.inr rfl) (pv 14))
      (pss_one (ps_if (pt_cmpR op_notN (pv 10) pe_non (nomark _)) (pss_cons (ps_expr (pe_bm PySem.F.plainAttrs_list PySem.F.slot_list_append PySem.F.type_list_append mt_append (pv 9) (pa_cons (pv 10) pa_nil)))
      (pss_one (ps_set (i := 8) scHi.nd rfl (by first | exact Or.inl rfl | exact Or.inr rfl) (pe_ix ix_tup (pe_dget (Nat.lt_of_le_of_lt (Nat.add_le_add_left (show 1 ≤ 64 by decide) _) hr.units) (pv 4) (pv 10) (fun _ _ => rfl)) pe_int fun _ _ => rfl)))) pss_nil))))))))
      (pss_one (ps_ret (pv 9))))))))), ?_⟩
    obtain ⟨p, q, pa, pb, f, x, y, wl, ps, rs, B, L, ws, Hk, n, rfl, P0, hn, T, NA, RO, hp30, hr30, PT, hw, hw20, hBp, hB1, hB30, SG, hws, k⟩ := h
    have hsub : (rs.filter fun r => decide (r.2.1 ∈ L)).length ≤ 45 := Nat.le_trans (List.length_filter_le _ _) hr30
    have ROi := rows_sub RO (fun r => decide (r.2.1 ∈ L))
    have hbi := within_rows rs L
    refine s_seq ?_
    refine ⟨_, rfl, q, pa, pb, ps, rs, rfl, T.mono P0.ex, RO.1.2, by omega, fun de es H1 e1 nd0 hd hbe hes => ?_⟩
    have P1 := P0.grow e1
    have T1 := T.mono P1.ex
    have PT1 := PT.mono P1.ex
    dsimp only
    refine s_seq ?_
    refine (ev_ixA (i := 0) (ev_var rfl) (sq_of T1.at_) rfl : Ev (tI0 K 1) _ H1 (.ref pa)) H1 (Ex.refl _) _ fun H2 e2 => ?_
    have hL : EvL (tLc (iList K (tI1 K 1)) (gName 6) (tTest (tOp (rIn K false) (tOp (rIxT K) (tVar 6) (tC (.int 0))) (tI1 K 2))) (tVar 6) [6]) [some (.ref p), some (.ref q), some (.ref f), some (.ref wl), some (.ref de), none, none, none, none, none, none, none, none, none, none] H2 (refs (rs.filter fun r => decide (r.2.1 ∈ L))) := by
      have T2 := T1.mono e2
      have PT2 := PT1.mono e2
      refine el_lcA (ys := rs) (g := fun r : Row => V.ref r.1) (fun r => decide (r.2.1 ∈ L)) (fun r => V.ref r.1) (ev_ixA (i := 1) (ev_var rfl) (sq_of T2.at_) rfl) (sq_of T2.rows) (by omega) (fun x => rfl) (fun r H9 e9 hr9 => ?_) (fun r H9 e9 hr9 _ => ev_var rfl)
      refine et_test (ev_is (ev_op (ev_op (ev_var rfl) ev_c (rv_ixT (st_of (K := K) (e9 _ _ (T2.row r hr9))) (at_of (j := 0) rfl rfl))) (ev_ixA (i := 1) (ev_var rfl) (sq_of (e9 _ _ PT2.at_)) rfl) (rv_isL (sq_of (e9 _ _ PT2.lanes)) rfl (flat_tx _))) (by rw [inV_vtx]))
    refine hL H2 (Ex.refl _) _ fun bI H3 nbI e3 hbI => ⟨sz_of (by show 2 ≤ 100000; decide), fun qi nqi => ?_⟩
    have e4 := e3.trans (Ex.new (o := HO.lst [.ref pa, .ref bI]) nqi)
    have P4 := (P1.grow e2).grow e4
    have T4 := T1.mono (e2.trans e4)
    have PT4 := PT1.mono (e2.trans e4)
    have TI4 : Told (upd H3 qi (.lst [.ref pa, .ref bI])) qi pa bI ps (rs.filter fun r => decide (r.2.1 ∈ L)) := ⟨upd_same, T4.posts, (Ex.new nqi) _ _ hbI, fun r hr => T4.row r (List.mem_filter.mp hr).1⟩
    have hd4 := (e2.trans e4) _ _ hd
    have hes4 : ∀ e ∈ es, EndAt (upd H3 qi (.lst [.ref pa, .ref bI])) e := fun e he => (e2.trans e4) _ _ (hes e he)
    generalize upd H3 qi (.lst [.ref pa, .ref bI]) = H4 at e4 P4 T4 PT4 TI4 hd4 hes4
    dsimp only
    refine s_seq ?_
    refine (ev_ixA (i := 0) (ev_var rfl) (sq_of PT4.at_) rfl : Ev (tI0 K 2) _ H4 (.ref x)) H4 (Ex.refl _) _ fun H5 e5 => ?_
    refine (ea_cons (ev_var rfl) (ea_cons (ev_lenA (ev_ixA (i := 0) (ev_var rfl) (sq_of (PT4.mono e5).at_) rfl) (sq_of (PT4.mono e5).posts)) ea_nil) : EvA (tCons (tVar 0) (tCons (tLn K (tI0 K 2)) tNil)) _ H5 [.ref p, .int ((vtx B).length : Nat)]) H5 (Ex.refl _) _ fun H6 e6 => ?_
    have P6 := P4.grow (e5.trans e6)
    rw [vtx_len]
    refine ⟨p, (B.length : Nat), Wo H6 p, n, rfl, by omega, by omega, P6.re, by omega, fun r H7 r0 r1 P7 => ?_⟩
    obtain ⟨k0, rfl⟩ := Int.eq_ofNat_of_zero_le r0
    have hk0 : k0 < B.length := by omega
    obtain ⟨s0, hs0⟩ : ∃ s0, B[k0]? = some s0 := ⟨_, List.getElem?_eq_getElem hk0⟩
    have hs0B := List.mem_of_getElem? hs0
    have bIp : bI ≠ p := (P1.grow e2).ne nbI
    have qip : qi ≠ p := ((P1.grow e2).grow e3).ne nqi
    obtain ⟨yp, hyp⟩ : ∃ ys, H6 p = some (.lst ys) := by
      obtain ⟨a', b', c', w1, _⟩ := P6.at_
      exact ⟨_, w1⟩
    have e46 := e5.trans e6
    have TB := T.mono P6.wo
    have PTB := PT.mono P6.wo
    have hwB : SqL K (Wo H6 p) wl (vtx ws) ∨ SqT K (Wo H6 p) wl (vtx ws) := hw.imp (ex_l P6.wo) (ex_t P6.wo)
    have TIB : Told (Wo H6 p) qi pa bI ps (rs.filter fun r => decide (r.2.1 ∈ L)) := ⟨wo_at (e46 _ _ TI4.at_) qip, TB.posts, wo_at (e46 _ _ TI4.rows) bIp, fun r hr => TB.row r (List.mem_filter.mp hr).1⟩
    have hdB : Wo H6 p de = some (.dK (dEnds es)) := wo_at (e46 _ _ hd4) (ne_kind (e46 _ _ hd4) hyp (by intro z; cases z))
    have hesB : ∀ e ∈ es, EndAt (Wo H6 p) e := fun e he => wo_at (e46 _ _ (hes4 e he)) (ne_kind (e46 _ _ (hes4 e he)) hyp (by intro z; cases z))
    have eH6 : Ex H H6 := e1.trans (e2.trans (e4.trans e46))
    have fr : ∀ d, (Wo H6 p) d = none → d ≠ p → H d = none := fun d hb dp => by
      cases z : H d with
      | none => rfl
      | some o =>
        rw [wo_at (eH6 _ _ z) dp] at hb
        cases hb
    have bk : ∀ {m : Nat} {H' : Hp}, Pl (Wo H6 p) p m H' → Pl Hk p m H' := fun h => P6.back h
    generalize Wo H6 p = B1 at P7 TB PTB hwB TIB hdB hesB fr bk
    clear P0 P1 P4 P6 T1 PT1 T4 PT4 TI4 hd4 hes4 hL hyp T PT hw hd hes hbI
    refine ⟨x, vtx B, (k0 : Int), _, rfl, rfl, sq_of (P7.ex _ _ PTB.posts), at_of rfl (vtx_at hs0), ?_⟩
    dsimp only
    refine s_seq ?_
    refine ⟨_, rfl, ?_⟩
    dsimp only
    refine s_seq ?_
    refine ⟨Nat.zero_le _, fun dt ndt => ?_⟩
    have P8 := P7.new (o := .lst []) ndt
    have dtp := P7.ne ndt
    dsimp only
    refine s_seq ?_
    refine ⟨_, rfl, _, rfl, wl, vtx ws, rfl, hwB.imp (ex_l P8.ex) (ex_t P8.ex), fun lw nlw => ?_⟩
    have P9 := P8.new (o := .lst (vtx ws)) nlw
    have lwp := P8.ne nlw
    have ltd : lw ≠ dt := fun z => by rw [z, upd_same] at nlw; cases nlw
    refine ⟨p, lw, vtx ws, _, n + 1, rfl, P9.re, by omega, wo_at upd_same lwp, by rw [vtx_len]; omega, fun ym yz H10 nym P10 hym hperm => ?_⟩
    have P10b := P9.back P10
    obtain ⟨zs, hyz, hzs⟩ := perm_mapG hperm ws rfl
    have hyz : yz = vtx zs := hyz
    subst hyz
    have hdt10 : H10 dt = some (.lst []) := P10.ex _ _ (wo_at ((upd_ne ltd.symm).trans upd_same) dtp)
    refine ⟨by show 1 ≤ sizeLine; decide, fun nl nnl => ?_⟩
    have hym2 : upd H10 nl (.lst [.non]) ym = some (.lst (vtx zs)) := (Ex.new nnl) _ _ hym
    refine ⟨ym, nl, vtx zs, [.non], rfl, rfl, hym2, upd_same, ?_, fun it nit => ?_⟩
    · rw [vtx_len]
      have := hzs.length_eq
      exact sz_of (by show zs.length + 1 ≤ 100000; omega)
    have P11 := (P10b.new (o := .lst [.non]) nnl).new (o := .lst (vtx zs ++ [.non])) nit
    have itp := (P10b.new (o := .lst [.non]) nnl).ne nit
    have hdt12 := (Ex.new (o := .lst (vtx zs ++ [.non])) nit) _ _ ((Ex.new (o := .lst [.non]) nnl) _ _ hdt10)
    have hit12 : (upd (upd H10 nl (.lst [.non])) it (.lst (vtx zs ++ [.non]))) it = some (.lst (vtx zs ++ [.non])) := upd_same
    have itd : it ≠ dt := fun z => by rw [z, (Ex.new (o := .lst [.non]) nnl) _ _ hdt10] at nit; cases nit
    generalize upd (upd H10 nl (.lst [.non])) it (.lst (vtx zs ++ [.non])) = H12 at P11 hdt12 hit12
    have hB1it : B1 it = none := by
      cases z : B1 it with
      | none => rfl
      | some o =>
        have h1 := (P10b.new (o := .lst [.non]) nnl).ex _ _ z
        rw [nit] at h1
        cases h1
    have hB1dt : B1 dt = none := by
      cases z : B1 dt with
      | none => rfl
      | some o =>
        have h1 := P7.ex _ _ z
        rw [ndt] at h1
        cases h1
    have b12 : Ex B1 (upd B1 it (.lst (vtx zs ++ [.non]))) := Ex.new hB1it
    have PL : Pl (upd B1 it (.lst (vtx zs ++ [.non]))) p (n + 1 + 50) H12 := ⟨(upd_ne itp.symm).trans P7.no, fun c o hc => by
      by_cases z : c = it
      · rw [z, upd_same] at hc
        rw [z, hit12]
        exact hc
      · rw [upd_ne z] at hc
        exact P11.ex _ _ hc, P11.at_⟩
    have nB2dt : (upd B1 it (.lst (vtx zs ++ [.non]))) dt = none := (upd_ne itd.symm).trans hB1dt
    have hitB : (upd B1 it (.lst (vtx zs ++ [.non]))) it = some (.lst (vtx zs ++ [.non])) := upd_same
    have TB2 := TB.mono b12
    have TIB2 := TIB.mono b12
    have hdB2 := b12 _ _ hdB
    have hesB2 : ∀ e ∈ es, EndAt (upd B1 it (.lst (vtx zs ++ [.non]))) e := fun e he => b12 _ _ (hesB e he)
    have fr2 : ∀ d, (upd B1 it (.lst (vtx zs ++ [.non]))) d = none → d ≠ p → H d = none := fun d hb dp => fr d (by
      by_cases z : d = it
      · rw [z]; exact hB1it
      · rw [upd_ne z] at hb; exact hb) dp
    have bk2 : ∀ {m : Nat} {H' : Hp}, Pl (upd B1 it (.lst (vtx zs ++ [.non]))) p m H' → Pl Hk p m H' := fun h => bk (h.sub b12 P7.no)
    generalize upd B1 it (.lst (vtx zs ++ [.non])) = B2 at PL nB2dt hitB TB2 TIB2 hdB2 hesB2 fr2 bk2
    clear P7 P8 P9 P10 P10b P11 TB TIB PTB hdB hesB fr bk hit12 b12 hB1it hB1dt hwB
    refine ⟨it, rfl, ⟨_, sq_of (PL.ex _ _ hitB)⟩, for_list (xs := vtx zs ++ [.non]) (fun i st H' => ∃ d ls here m, ∃ t10 t11 t12 t13 t14, st = [some (.ref p), some (.ref q), some (.ref f), some (.ref wl), some (.ref de), some (.ref qi), none, some (.str (tx s0)), some (.str (tx here)), some (.ref d), t10, t11, t12, t13, t14] ∧ Pl B2 p m H' ∧ m ≤ n + 51 + 10 * i ∧ B2 d = none ∧ d ≠ p ∧ H' d = some (.lst (vtx ls)) ∧
      Wk (LaneB (within (bare rs) L)) s0 here ls ∧ here ∈ B ∧ ls.length ≤ 60 * i ∧ (∀ j w, j < i → zs[j]? = some w → w ∈ ls) ∧ (i = zs.length + 1 → here = s0)) ?_ ?_ ?_ ?_⟩
    · exact ⟨dt, [], s0, n + 51, _, _, _, _, _, rfl, PL, by omega, nB2dt, dtp, hdt12, .nil, hs0B, Nat.zero_le _, fun j w hj => absurd hj (Nat.not_lt_zero j), fun z => by omega⟩
    · rintro i st H' _ ⟨_, _, _, _, _, _, _, _, _, _, hP, _⟩
      exact sq_of (hP.ex _ _ hitB)
    · rintro i v st H' hv ⟨d, ls, here, m, t10, t11, t12, t13, t14, rfl, hP, hm, hBd, dp, hd, hwk, hhB, hlen, hin, _⟩
      dsimp only
      refine s_seq ?_
      have hi20 : i ≤ 40 := by
        have h1 := (List.getElem?_eq_some_iff.mp hv).1
        rw [List.length_append, vtx_len] at h1
        have h2 : zs.length + 1 > i := h1
        have := hzs.length_eq
        omega
      refine ⟨_, rfl, p, 7, Wo H' p, m, rfl, by omega, by omega, hP.re, by omega, fun r H1 r0 r1 Q1 => ?_⟩
      have hd1 : H1 d = some (.lst (vtx ls)) := Q1.ex _ _ (wo_at hd dp)
      have P1 := hP.back Q1
      clear Q1
      refine ⟨r, rfl, by omega, by omega, for_range (lo := 0) (n := r.toNat) (fun i2 st H2 => ∃ ls here m', ∃ t11 t12 t13 t14, st = [some (.ref p), some (.ref q), some (.ref f), some (.ref wl), some (.ref de), some (.ref qi), none, some (.str (tx s0)), some (.str (tx here)), some (.ref d), some v, t11, t12, t13, t14] ∧ Pl B2 p m' H2 ∧ m' ≤ m + 1 + i2 ∧ H2 d = some (.lst (vtx ls)) ∧
        Wk (LaneB (within (bare rs) L)) s0 here ls ∧ here ∈ B ∧ ls.length ≤ 60 * i + i2 ∧ (∀ j w, j < i → zs[j]? = some w → w ∈ ls)) ⟨ls, here, m + 1, _, _, _, _, rfl, P1, by omega, hd1, hwk, hhB, hlen, hin⟩ ?_ ?_⟩
      · clear hd hd1 P1 hP hwk hhB hlen hin
        rintro i2 st H2 hi2 ⟨ls, here, m', t11, t12, t13, t14, rfl, hP, hm', hd, hwk, hhB, hlen, hin⟩
        dsimp only
        have TI2 := TIB2.mono hP.ex
        refine s_seq ?_
        refine s_asgL (xs := ((rs.filter fun r => decide (r.2.1 ∈ L)).filter fun r => decide (r.2.2.1 = here)).map fun r => V.str (tx r.2.1)) (el_lcA (ys := (rs.filter fun r : Row => decide (r.2.1 ∈ L) : List Row)) (g := fun r : Row => V.ref r.1) (fun r => decide (r.2.2.1 = here)) (fun r => V.str (tx r.2.1)) (ev_ixA (i := 1) (ev_var rfl) (sq_of TI2.at_) rfl) (sq_of TI2.rows) (by omega) (fun x => rfl)
          (fun r H9 e9 hr9 => et_test (ev_is (ev_op (ev_op (ev_var rfl) ev_c (rv_ixT (st_of (K := K) (e9 _ _ (TI2.row r hr9))) (at_of (j := 1) rfl rfl))) (ev_var rfl) (rv_eq rfl)) (by rw [dec_tx]))) (fun r H9 e9 hr9 _ => ev_op (ev_var rfl) ev_c (rv_ixT (st_of (K := K) (e9 _ _ (TI2.row r hr9))) (at_of (j := 0) rfl rfl)))) fun po H3 npo e3 hpo => ?_
        have P3 := hP.grow e3
        have hd3 := e3 _ _ hd
        have pop := hP.ne npo
        obtain ⟨t, ht, hts⟩ := SG.out here hhB
        have hne : ((rs.filter fun r => decide (r.2.1 ∈ L)).filter fun r => decide (r.2.2.1 = here)) ≠ [] := by
          rw [← hbi] at ht
          unfold bare at ht
          obtain ⟨r', hr', rfl⟩ := List.mem_map.mp ht
          exact List.ne_nil_of_mem (List.mem_filter.mpr ⟨hr', decide_eq_true hts⟩)
        have hpos := List.length_pos_iff.mpr hne
        have hfe : ((rs.filter fun r => decide (r.2.1 ∈ L)).filter fun r => decide (r.2.2.1 = here)).length ≤ 45 := Nat.le_trans (List.length_filter_le _ _) hsub
        have hmem : ∀ r' ∈ ((rs.filter fun r => decide (r.2.1 ∈ L)).filter fun r => decide (r.2.2.1 = here)), r'.2 ∈ within (bare rs) L ∧ r'.2.2.1 = here := fun r' hr' => by
          obtain ⟨h1, h2⟩ := List.mem_filter.mp hr'
          refine ⟨?_, of_decide_eq_true h2⟩
          rw [← hbi]
          exact List.mem_map.mpr ⟨r', h1, rfl⟩
        generalize ((rs.filter fun r => decide (r.2.1 ∈ L)).filter fun r => decide (r.2.2.1 = here)) = ro at hpo hpos hfe hmem
        dsimp only
        refine s_seq ?_
        refine ⟨_, rfl, _, rfl, _, rfl, .ref po, ro.length, rfl, .inl ⟨_, sq_of hpo, (List.length_map _).symm⟩, p, (ro.length : Nat), Wo H3 p, m', rfl, by omega, by omega, P3.re, by omega, fun r4 H4 z0 z1 Q4 => ?_⟩
        obtain ⟨k4, rfl⟩ := Int.eq_ofNat_of_zero_le z0
        have hk4 : k4 < ro.length := by omega
        obtain ⟨rr, hrr⟩ : ∃ rr, ro[k4]? = some rr := ⟨_, List.getElem?_eq_getElem hk4⟩
        obtain ⟨hrw, hrh⟩ := hmem rr (List.mem_of_getElem? hrr)
        have hpo4 : H4 po = some (.lst (ro.map fun r => V.str (tx r.2.1))) := Q4.ex _ _ (wo_at hpo pop)
        have hd4 : H4 d = some (.lst (vtx ls)) := Q4.ex _ _ (wo_at hd3 dp)
        have P4 := P3.back Q4
        refine ⟨po, _, (k4 : Int), .str (tx rr.2.1), rfl, rfl, sq_of hpo4, at_of rfl (by rw [List.getElem?_map, hrr]; rfl), ?_⟩
        dsimp only
        clear Q4 hpo hpo4 P3
        refine s_seq ?_
        refine s_app (l := d) (xs := vtx ls) hd4 (ev_var rfl) (ev_var rfl) (by rw [vtx_len]; omega) fun H5 e5 => ?_
        have P5 := Pl.mut (o := .lst (vtx ls ++ [.str (tx rr.2.1)])) (P4.grow e5) hBd dp
        have hd5 : (upd H5 d (.lst (vtx ls ++ [.str (tx rr.2.1)]))) d = some (.lst (vtx (ls ++ [rr.2.1]))) := by
          rw [upd_same, vtx_app]
          rfl
        generalize upd H5 d (.lst (vtx ls ++ [.str (tx rr.2.1)])) = H6 at P5 hd5
        dsimp only
        have nde : (laneNames es).Nodup := by rw [bare_names hbe]; exact RO.1.2
        have hrbs : rr.2 ∈ bare es := by rw [hbe]; exact (List.mem_filter.mp hrw).1
        refine s_asg (v := .str (tx rr.2.2.2)) (ev_ends (t := rr.2) (j := 1) nde (P5.ex _ _ hdB2) (fun e he => P5.ex _ _ (hesB2 e he)) hrbs (ev_var rfl) (ev_var rfl) rfl) fun H7 e7 => ?_
        exact ⟨ls ++ [rr.2.1], rr.2.2.2, m' + 1, _, _, _, _, rfl, P5.grow e7, by omega, e7 _ _ hd5, .snoc hwk (by show (rr.2.1, here, rr.2.2.2) ∈ _; rw [← hrh]; exact hrw), (SG.ends _ hrw).2, by rw [List.length_append]; show ls.length + 1 ≤ _; omega, fun j w hj hw => List.mem_append_left _ (hin j w hj hw)⟩
      · clear hd hd1 P1 hP hwk hhB hlen hin
        rintro st H2 ⟨ls, here, m', t11, t12, t13, t14, rfl, hP, hm', hd, hwk, hhB, hlen, hin⟩
        dsimp only
        have nde : (laneNames es).Nodup := by rw [bare_names hbe]; exact RO.1.2
        have hr6 : r.toNat ≤ 6 := by omega
        obtain ⟨bv, g, hgB, hv3⟩ : ∃ (bv : Bool) (g : List Nat), g ∈ B ∧ ((bv = true ∧ ∃ t ∈ within (bare rs) L, v = .str (tx t.1) ∧ g = t.2.1 ∧ zs[i]? = some t.1) ∨ (bv = false ∧ v = .non ∧ g = s0 ∧ i = zs.length)) := by
          by_cases hi : i < zs.length
          · rw [List.getElem?_append_left (by rw [vtx_len]; exact hi)] at hv
            unfold vtx at hv
            rw [List.getElem?_map] at hv
            obtain ⟨wz, hwz, rfl⟩ := Option.map_eq_some_iff.mp hv
            have h1 := hws wz (hzs.mem_iff.mp (List.mem_of_getElem? hwz))
            unfold names at h1
            obtain ⟨t, ht, rfl⟩ := List.mem_map.mp h1
            exact ⟨true, t.2.1, (SG.ends t ht).1, .inl ⟨rfl, t, ht, rfl, rfl, hwz⟩⟩
          · rw [List.getElem?_append_right (by rw [vtx_len]; omega), vtx_len] at hv
            have h0 : i - zs.length = 0 := by
              have := (List.getElem?_eq_some_iff.mp hv).1
              have h1 : i - zs.length < 1 := this
              omega
            rw [h0] at hv
            exact ⟨false, s0, hs0B, .inr ⟨rfl, (Option.some.inj hv).symm, rfl, by omega⟩⟩
        have tst : ∀ {σ : L2.St} {H' : Hp}, σ[10]? = some (some v) → EvT (tTest (tOp (fun x y H Q => y = .non ∧ Q (.bl (!decide (x = .non))) H) (tVar 10) (tC .non))) σ H' bv := fun hσ => et_test (ev_is (ev_op (ev_var hσ) ev_c (fun H1 e Q q => ⟨rfl, q H1 (Ex.refl _)⟩)) (by
          rcases hv3 with ⟨rfl, t, _, rfl, _⟩ | ⟨rfl, rfl, _⟩
          · rw [decide_eq_false (by intro z; cases z)]; rfl
          · rw [decide_eq_true rfl]; rfl))
        refine s_seq ?_
        refine ⟨_, rfl, ?_⟩
        dsimp only
        refine q_ifAsg (b := bv) (i := 14) (v := .str (tx g)) (tst rfl) (fun hb => ?_) (fun hb => ?_) fun H3 e3 => ?_
        · rcases hv3 with ⟨_, t, ht, rfl, rfl, _⟩ | ⟨hf, _⟩
          · exact ev_ends (t := t) (j := 0) nde (hP.ex _ _ hdB2) (fun e he => hP.ex _ _ (hesB2 e he)) (by rw [hbe]; exact (List.mem_filter.mp ht).1) (ev_var rfl) (ev_var rfl) rfl
          · rw [hf] at hb; cases hb
        · rcases hv3 with ⟨hf, _⟩ | ⟨_, _, rfl, _⟩
          · rw [hf] at hb; cases hb
          · rfl
        have P3 := hP.grow e3
        have hd3 := e3 _ _ hd
        refine s_seq ?_
        refine ⟨_, rfl, _, rfl, _, rfl, qi, pa, bI, ps, _, here, rfl, TIB2.mono P3.ex, ROi, hp30, hsub, hBp here hhB, fun dw xa H4 e4 ndw Wa => ?_⟩
        rw [hbi] at Wa
        obtain ⟨yw, hyw, hyg, hyv⟩ := ways_get ((Wa.re g).mpr (SG.re here hhB g hgB))
        have P4 := P3.grow e4
        have hd4 := e4 _ _ hd3
        have hyf := Wa.few yw hyw
        refine ⟨_, rfl, dw, .ref yw.1, rfl, by rw [← hyv]; exact DGet.k (k := (Sum.inr (tx g) : Key)) Wa.dct, ?_⟩
        refine ⟨d, yw.1, vtx ls, vtx yw.2.2, rfl, rfl, hd4, Wa.way yw hyw, by rw [vtx_len, vtx_len]; exact sz_of (by omega), fun d2 nd2 => ?_⟩
        have hwk2 : Wk (LaneB (within (bare rs) L)) s0 g (ls ++ yw.2.2) := wk_app hwk (by rw [← hyg]; exact (Wa.best yw hyw).wk)
        rw [← vtx_app]
        have P5 := P4.new (o := .lst (vtx (ls ++ yw.2.2))) nd2
        have d2p := P4.ne nd2
        have hBd2 : B2 d2 = none := fresh_back P4.ex nd2
        have hd5 : (upd H4 d2 (.lst (vtx (ls ++ yw.2.2)))) d2 = some (.lst (vtx (ls ++ yw.2.2))) := upd_same
        have hl5 : (ls ++ yw.2.2).length ≤ 60 * i + r.toNat + 45 := by rw [List.length_append]; omega
        have hin5 : ∀ j w, j < i → zs[j]? = some w → w ∈ ls ++ yw.2.2 := fun j w hj hw => List.mem_append_left _ (hin j w hj hw)
        generalize upd H4 d2 (.lst (vtx (ls ++ yw.2.2))) = H5 at P5 hd5
        generalize ls ++ yw.2.2 = l2 at hwk2 hd5 hl5 hin5
        dsimp only
        refine s_seq ?_
        refine ⟨_, rfl, ?_⟩
        dsimp only
        refine s_if (b := bv) (tst rfl) (fun hb H6 e6 => ?_) (fun hb H6 e6 => ?_)
        · rcases hv3 with ⟨_, t, ht, rfl, rfl, hzt⟩ | ⟨hf, _⟩
          · refine s_seq ?_
            refine s_app (l := d2) (xs := vtx l2) (e6 _ _ hd5) (ev_var rfl) (ev_var rfl) (by rw [vtx_len]; omega) fun H7 e7 => ?_
            have P7 := Pl.mut (o := .lst (vtx l2 ++ [.str (tx t.1)])) ((P5.grow e6).grow e7) hBd2 d2p
            have hd7 : (upd H7 d2 (.lst (vtx l2 ++ [.str (tx t.1)]))) d2 = some (.lst (vtx (l2 ++ [t.1]))) := by
              rw [upd_same, vtx_app]
              rfl
            generalize upd H7 d2 (.lst (vtx l2 ++ [.str (tx t.1)])) = H8 at P7 hd7
            dsimp only
            refine s_asg (v := .str (tx t.2.2)) (ev_ends (t := t) (j := 1) nde (P7.ex _ _ hdB2) (fun e he => P7.ex _ _ (hesB2 e he)) (by rw [hbe]; exact (List.mem_filter.mp ht).1) (ev_var rfl) (ev_var rfl) rfl) fun H9 e9 => ?_
            refine ⟨d2, l2 ++ [t.1], t.2.2, m', _, _, _, _, _, rfl, P7.grow e9, by omega, hBd2, d2p, e9 _ _ hd7, .snoc hwk2 (by show (t.1, t.2.1, t.2.2) ∈ _; exact ht), (SG.ends t ht).2, by rw [List.length_append]; show l2.length + 1 ≤ _; omega, fun j w hj hw => ?_, fun z => ?_⟩
            · by_cases hji : j = i
              · subst hji
                rw [hzt] at hw
                rw [← Option.some.inj hw]
                exact List.mem_append_right _ List.mem_cons_self
              · exact List.mem_append_left _ (hin5 j w (by omega) hw)
            · have := (List.getElem?_eq_some_iff.mp hzt).1
              omega
          · rw [hf] at hb; cases hb
        · rcases hv3 with ⟨hf, _⟩ | ⟨_, rfl, rfl, hiz⟩
          · rw [hf] at hb; cases hb
          · refine ⟨d2, l2, g, m', _, _, _, _, _, rfl, P5.grow e6, by omega, hBd2, d2p, e6 _ _ hd5, hwk2, hgB, by omega, fun j w hj hw => ?_, fun _ => rfl⟩
            by_cases hji : j = i
            · have := (List.getElem?_eq_some_iff.mp hw).1
              omega
            · exact hin5 j w (by omega) hw
    · rintro st H' ⟨d, ls, here, m, t10, t11, t12, t13, t14, rfl, hP, hm, hBd, dp, hd, hwk, hhB, hlen, hin, hend⟩
      rw [List.length_append, vtx_len] at hm hlen hin hend
      have hz1 : zs.length + [V.non].length = zs.length + 1 := rfl
      rw [hz1] at hm hlen hin hend
      have hh := hend rfl
      subst hh
      have hzl := hzs.length_eq
      refine s_ret (ev_var rfl) fun H9 e9 => k d ls here H9 (fr2 d hBd dp) ((bk2 (hP.grow e9)).cnt (by omega)) (e9 _ _ hd) hhB hwk (fun w hw => ?_) (by omega)
      obtain ⟨j, hj⟩ := List.getElem?_of_mem (hzs.mem_iff.mpr hw)
      exact hin j w (by have := (List.getElem?_eq_some_iff.mp hj).1; omega) hj
end
end J61

set_option Elab.async false
set_option linter.all false
set_option maxRecDepth 100000
set_option maxHeartbeats 4000000
/-! All hidden texts alike. -/
namespace K61
open PySem PySem.Spec PyProof.Rows L2 Vl Evl Vp Vx2 Vlk Vda Vc Ve Ven Vlt Vtx Vr Vrc Vwy
abbrev sAl : Stmt := top 48
abbrev nAl : List Str := ["_law_script", "_law_text_here", "_law_size", "_law_words", "_law_parts", "_law_k", "_law_tour", "_law_other", "_law_word"]
def tr3 (w : List Nat) : List Nat × List Nat × List Nat := (w, fst1 w, w.drop 1)
theorem rows_of {H : Hp} : ∀ {ws : List (List Nat)} {rs : List V}, Vlp.All2 (fun w v => RowP w v H) ws rs → ∃ rs' : List Row, rs = J61.refs rs' ∧ J61.bare rs' = ws.map tr3 ∧ ∀ r ∈ rs', J61.RowAt H r
  | _, _, .nil => ⟨[], rfl, rfl, fun _ h => nomatch h⟩
  | w :: ws, _, .cons h hr => by
    obtain ⟨rs', h1, h2, h3⟩ := rows_of hr
    obtain ⟨p, rfl, hp⟩ := h
    refine ⟨(p, tr3 w) :: rs', by rw [h1]; rfl, ?_, fun r hr' => ?_⟩
    · unfold J61.bare at h2 ⊢
      rw [List.map_cons, List.map_cons, h2]
    · rcases List.mem_cons.mp hr' with z | z
      · rw [z]
        exact hp
      · exact h3 r z
def hd1 (a : List (List Nat)) : List Nat := a.map fun w => w.getD 0 0
def spAl (K : PySem.W.Frag) : Sp := fun vs H Q _ => ∃ (l : Addr) (ns : List Int) (t : List Nat) (s : Nat), vs = [.ref l, .str (tx t), .int (s : Nat)] ∧ SqL K H l (ns.map V.int) ∧ okW t 1 40 = true ∧ 2 ≤ s ∧ s ≤ 8 ∧ cnt t (s - 1) = cnt t s ∧ ∀ H', Ex H H' → Q (.bl true) H'
theorem mem_tr {ws : List (List Nat)} {l a b : List Nat} : (l, a, b) ∈ ws.map tr3 ↔ l ∈ ws ∧ a = fst1 l ∧ b = l.drop 1 := by
  rw [List.mem_map]
  constructor
  · rintro ⟨w, hw, h⟩
    unfold tr3 at h
    cases h
    exact ⟨hw, rfl, rfl⟩
  · rintro ⟨h1, h2, h3⟩
    exact ⟨l, h1, by unfold tr3; rw [h2, h3]⟩
theorem within_all {ws : List (List Nat)} : J61.within (ws.map tr3) ws = ws.map tr3 := by
  unfold J61.within
  refine List.filter_eq_self.mpr fun x hx => ?_
  obtain ⟨w, hw, rfl⟩ := List.mem_map.mp hx
  exact decide_eq_true hw
/-- along the text each post is reached -/
theorem reach_on {t : List Nat} {s : Nat} {ws : List (List Nat)} (h1 : 1 ≤ t.length) (hs : 1 ≤ s) (h : Srt ws (wns t s)) (i : Nat) : ∀ m, Reach (J61.Edge (ws.map tr3)) (wn t (s - 1) i) (wn t (s - 1) (i + m))
  | 0 => .refl
  | m + 1 => .step (reach_on h1 hs h i m) ⟨tr3 (wn t s (i + m)), List.mem_map_of_mem ((h.mem _).mpr (wn_in h1)), wn_fst, by
      show (wn t s (i + m)).drop 1 = _
      rw [wn_snd hs]
      rfl⟩
theorem strong_text {t : List Nat} {s : Nat} {ws ps : List (List Nat)} (h1 : 1 ≤ t.length) (hs : 1 ≤ s) (h : Srt ws (wns t s)) (hp : Srt ps (ends ws)) : J61.Strong (ws.map tr3) ps := by
  have hps : ∀ k, k ∈ ps ↔ k ∈ wns t (s - 1) := fun k => (hp.mem k).trans (ends_mem h1 hs h k)
  refine ⟨fun x hx => ?_, fun b hb c hc => ?_, fun b hb => ?_⟩
  · obtain ⟨w, hw, rfl⟩ := List.mem_map.mp hx
    exact ⟨(hp.mem _).mpr (List.mem_append_left _ (List.mem_map_of_mem hw)), (hp.mem _).mpr (List.mem_append_right _ (List.mem_map_of_mem (f := fun w : List Nat => w.drop 1) hw))⟩
  · obtain ⟨i, hi, rfl⟩ := wns_mem.mp ((hps b).mp hb)
    obtain ⟨j, hj, rfl⟩ := wns_mem.mp ((hps c).mp hc)
    have := reach_on h1 hs h i (j + t.length - i)
    rw [show i + (j + t.length - i) = j + t.length by omega, ← wn_mod (k := j + t.length), Nat.add_mod_right, wn_mod] at this
    exact this
  · obtain ⟨i, hi, rfl⟩ := wns_mem.mp ((hps b).mp hb)
    exact ⟨tr3 (wn t s i), List.mem_map_of_mem ((h.mem _).mpr (wn_in h1)), wn_fst⟩
theorem lanes_in {ws ls : List (List Nat)} {a b : List Nat} (h : Wk (J61.LaneB (ws.map tr3)) a b ls) : ∀ x ∈ ls, x ∈ ws := by
  induction h with
  | nil => exact fun _ h => nomatch h
  | snoc _ e ih =>
    intro x hx
    rcases List.mem_append.mp hx with hx | hx
    · exact ih x hx
    · rw [List.mem_singleton.mp hx]
      exact (mem_tr.mp e).1
theorem lanes_len {ws ls : List (List Nat)} {a b : List Nat} {s : Nat} (hw : Wins ws s) (h : Wk (J61.LaneB (ws.map tr3)) a b ls) : ∀ x ∈ ls, 2 ≤ x.length ∧ x.length ≤ 8 := fun x hx => ok_len (hw x (lanes_in h x hx)).1
theorem lanes_cons {ws ls : List (List Nat)} {a b : List Nat} {s : Nat} (hw : Wins ws s) (h : Wk (J61.LaneB (ws.map tr3)) a b ls) : ∀ x ∈ ls, ∃ c r', x = c :: r' := fun x hx => by
  have := (lanes_len hw h x hx).1
  cases x with
  | nil => exact absurd this (by show ¬ 2 ≤ 0; omega)
  | cons c r => exact ⟨c, r, rfl⟩
/-- "".join([..]) -/
theorem s_asgJ {K : PySem.W.Frag} {tl : TE} {xs : List V} {cs : List Nat} {j : Nat} {D : Ends} {σ : L2.St} {H : Hp} (h : EvL tl σ H xs) (hx : xs = (cs.map fun c => tx [c]).map V.str) (hl : cs.length ≤ 10000) (k : ∀ H1, Ex H H1 → D.nx (σ.set j (some (.str (tx cs)))) H1) :
    tAsg (tM1 (fun x xs H Q => ∃ a p, ∃ ys : List Str, x = .str a ∧ xs = [.ref p] ∧ (SqL K H p (ys.map V.str) ∨ SqT K H p (ys.map V.str)) ∧ (ys.map (·.length)).sum + ys.length * a.length ≤ 16777216 ∧ Q (.str (Txt.join a ys)) H) (tC (.str (Str.ofString ""))) tl) (gName j) D σ H := by
  refine ⟨⟨_, rfl⟩, h H (Ex.refl H) _ fun p H1 np e hp => ⟨Str.empty, p, cs.map fun c => tx [c], rfl, rfl, .inl (sq_of (by rw [hp, hx])), ?_, ?_⟩⟩
  · have : ((cs.map fun c => tx [c]).map (·.length)).sum = cs.length := by
      clear hl hx k
      induction cs with
      | nil => rfl
      | cons x a ih =>
        rw [List.map_cons, List.map_cons, List.sum_cons, ih, List.length_cons]
        show 1 + _ = _
        omega
    rw [this, List.length_map]
    show cs.length + cs.length * 0 ≤ _
    omega
  · rw [Vtx.join_ones]
    exact k H1 e
/-- what the tour's letters are -/
theorem tour_ok {t : List Nat} {s r1 r2 : Nat} {ws ps ls : List (List Nat)} {s0 : List Nat} (h1 : 1 ≤ t.length) (hs : 2 ≤ s) (hc : cnt t (s - 1) = cnt t s) (h : Srt ws (wns t s)) (hp : Srt ps (ends ws)) (hs0 : s0 ∈ ps) (hw : Wk (J61.LaneB (ws.map tr3)) s0 s0 ls) (hall : ∀ w ∈ ws, w ∈ ls)
    (hr1 : Vq.Rt (hd1 ls) r1) (hr2 : Vq.Rt t r2) : 1 ≤ (hd1 ls).length ∧ ((hd1 ls).take r1).length = (t.take r2).length ∧ ∃ k, k ≤ (t.take r2).length ∧ (hd1 ls).take r1 = rt (t.take r2) k := by
  obtain ⟨k0, hk0, rfl⟩ := wns_mem.mp ((ends_mem h1 (by omega) h s0).mp ((hp.mem s0).mp hs0))
  obtain ⟨g1, g2⟩ := walk_text h1 (by omega) hc (fun l a b e => by
    obtain ⟨e1, e2, e3⟩ := mem_tr.mp (show (l, a, b) ∈ ws.map tr3 from e)
    exact ⟨(h.mem l).mp e1, e2, e3⟩) hw
  have hm : 1 ≤ ls.length := List.length_pos_of_mem (hall _ ((h.mem _).mpr (wn_in (t := t) (s := s) (k := 0) h1)))
  have hol : (hd1 ls).length = ls.length := by unfold hd1; rw [List.length_map]
  have ho : ∀ i, i < (hd1 ls).length → (hd1 ls)[i]? = some (t.getD ((k0 + i) % t.length) 0) := fun i hi => by
    rw [hol] at hi
    unfold hd1
    rw [List.getElem?_map, g2 i hi, Option.map_some, wn_head (by omega)]
  have hper := tour_per h1 hs hc g1.symm
  rw [← hol] at hper
  have hg := goes_shift (k0 := k0) h1 (by omega) hper ho
  have hrr := root_tour (k0 := k0) h1 (by omega) hper hg hr2
  have he := hr1.one hrr
  subst he
  obtain ⟨q1, q2⟩ := root_rot (k0 := k0) h1 (by omega) hg hr2 hr1
  have l2 : (t.take r1).length = r1 := by rw [List.length_take]; have := hr2.le h1; omega
  refine ⟨by omega, q1, k0 % r1, ?_, q2⟩
  rw [l2]
  exact Nat.le_of_lt (Nat.mod_lt _ hr2.1.1)
section
variable {P : Program} {w : World} {K : PySem.W.Frag} {mg : Str → Option Value} {base : Heap}
theorem scAl : FnScope nAl ["_law_script", "_law_text_here", "_law_size"] (defScope sAl) := ⟨rfl, rfl, rfl, by decide +kernel, rfl, by decide +kernel, by decide +kernel⟩
theorem ok_al {f : Addr} {fd : FuncData} (F : FnP K "_law_all_alike" sAl f fd) (TLw : Fu P w K mg base L2.CX0 1 "_law_windows" spLw) (TLn : Fu P w K mg base L2.CX0 1 "_law_window_net" (spLn K)) (TCe : Fu P w K mg base L2.CX0 1 "_law_cell" (spCell K)) (TPo : Fu P w K mg base L2.CX0 1 "_law_pool" spPool)
    (THi : Fu P w K mg base L2.CX0 3 "_law_hidden" (J61.spHi K)) (TRo : Fu P w K mg base L2.CX0 1 "_law_root" spRo) (TSr : Fu P w K mg base L2.CX0 1 "_law_same_ring" spSr) (mRange : mg "range" = none) :
    FnOk P w K mg base L2.CX0 4 f fd ["_law_script", "_law_text_here", "_law_size"] (spAl K) := by
  refine F.ok (CX := L2.CX0) scAl (fun vs H Q E h => ?_) (fun cdv A outer s H vs Q E hr h => ?_)
  · obtain ⟨l, ns, t, s, rfl, _⟩ := h
    rfl
  · refine ⟨_, (pss_cons (ps_set (i := 3) scAl.nd rfl (by first | exact Or.inl rfl | exact Or.inr rfl) (pe_fu TLw hr (by rfl) (pa_cons (pv 1) (pa_cons (pv 2) pa_nil))))
      (pss_cons (ps_set (i := 4) scAl.nd rfl (by first | exact Or.inl rfl | exact Or.inr rfl) (pe_fu TLn hr (by rfl) (pa_cons (pv 3) pa_nil)))
      (pss_cons (ps_for (passes_of rfl) rfl (pi_range1 (by rfl) mRange (pa_cons pe_int pa_nil)) (pg_name (i := 5) scAl.nd rfl (by first | exact Or.inl rfl | exact Or.inr rfl)) (pss_cons (ps_set (i := 6) scAl.nd rfl (by first | exact Or.inl rfl | exact Or.inr rfl) (pe_fu THi hr (by rfl) (pa_cons (pe_fu TPo hr (by rfl) (pa_cons (pe_op op_add (pe_fu TCe hr (by rfl) (pa_cons (pv 0) (pa_cons (pe_op op_add pe_int (pv 5)) pa_nil))) (pv 5)) pa_nil)) (pa_cons (pv 4) (pa_cons (pe_lst (pa_cons (pe_ix ix_list (pv 4) pe_int fun _ _ => rfl) (pa_cons (pv 3) pa_nil))) (pa_cons (pv 3) pa_nil))))))
      (pss_cons (ps_set (i := 7) scAl.nd rfl (by first | exact Or.inl rfl | exact Or.inr rfl) (pe_join pe_str (pe_lc (own := [("_law_word", 8)]) (g := (gName 8)) (tt := tYes) (te := (tOp rIxS (tVar 8) (tC (.int 0)))) rfl scAl.nd (pi_list (pv 6)) (blkOk_by (own := [("_law_word", 8)]) (N := nAl) (sc := defScope sAl) (by decide +kernel)) (fun _ _ _ _ _ => (pg_name (i := 8) scAl.nd rfl (by first | exact Or.inl rfl | exact Or.inr rfl))) (fun _ _ _ _ _ => pts_nil) (fun _ _ _ _ _ => (pe_ix ix_str (pv 8) pe_int fun _ _ => rfl)))))
      (pss_one (ps_if (pt_not (pt_val (pe_fu TSr hr (by rfl) (pa_cons (pe_fu TRo hr (by rfl) (pa_cons (pv 7) pa_nil)) (pa_cons (pe_fu TRo hr (by rfl) (pa_cons (pv 1) pa_nil)) pa_nil))))) (pss_one (ps_ret pe_bl)) pss_nil)))))
      (pss_one (ps_ret pe_bl))))), ?_⟩
    obtain ⟨l, ns, t, s, rfl, hS, ok, hs1, hs2, hc, q⟩ := h
    obtain ⟨n1, n2⟩ := ok_len ok
    refine s_seq ?_
    refine s_asgFu (ea_cons (ev_var rfl) (ea_cons (ev_var rfl) ea_nil)) fun H1 e1 => ⟨t, s, rfl, n1, n2, hs2, fun wl ws H2 nw e2 hw hS2 => ?_⟩
    have hwl := hS2.len
    rw [wns_len] at hwl
    have hwins := wins_of ok hs1 hs2 hS2
    dsimp only
    refine s_seq ?_
    refine s_asgFu (ea_cons (ev_var rfl) ea_nil) fun H3 e3 => ⟨wl, ws, rfl, e3 _ _ hw, by omega, fun l hl => by
      have := (hwins l hl).2
      omega, few_ends n1 n2 (by omega) hS2, fun qa a b ps rs H4 e4 hqa ha hSp hb hall => ?_⟩
    obtain ⟨rs', rfl, hbare, hrow⟩ := rows_of hall
    have e14 := ((e1.trans e2).trans e3).trans e4
    have hw4 := (e3.trans e4) _ _ hw
    have TD : J61.Told H4 qa a b ps rs' := ⟨hqa, ha, hb, hrow⟩
    have hlr : rs'.length = ws.length := by
      have := congrArg List.length hbare
      unfold J61.bare at this
      rw [List.length_map, List.length_map] at this
      exact this
    have hnm : (rs'.map fun r => r.2.1) = ws := by
      have := congrArg (List.map fun x : List Nat × List Nat × List Nat => x.1) hbare
      unfold J61.bare at this
      rw [List.map_map, List.map_map] at this
      exact this.trans (List.map_id ws)
    have NW : Names ws := ⟨fun x hx => nam_ok (hwins x hx).1 (by omega) (by omega), hS2.nd⟩
    have NP : Names ps := ⟨fun x hx => ends_nam hwins x ((hSp.mem x).mp hx), hSp.nd⟩
    have SG := strong_text n1 (by omega) hS2 hSp
    have RO : J61.RowsOk ps rs' := ⟨by rw [hnm]; exact NW, fun r hr' => by
      have hm : r.2 ∈ ws.map tr3 := by
        rw [← hbare]
        exact List.mem_map.mpr ⟨r, hr', rfl⟩
      exact SG.ends r.2 hm⟩
    have hpl : ps.length ≤ 45 := by
      have h1 : ps.length = cnt t (s - 1) := hSp.count.trans (dd_same (ends_mem n1 (by omega) hS2))
      have h2 : ws.length = cnt t s := hS2.count
      omega
    have hp1 : 1 ≤ ps.length := by
      have : wn t (s - 1) 0 ∈ ps := (hSp.mem _).mpr ((ends_mem n1 (by omega) hS2 _).mpr (wn_in n1))
      exact List.length_pos_of_mem this
    dsimp only
    refine s_seq ?_
    refine s_forR1 (n := 4) (ea_cons ev_c ea_nil) (by omega) (fun i st H' => ∃ t5 t6 t7, st = [some (.ref l), some (.str (tx t)), some (.int (s : Nat)), some (.ref wl), some (.ref qa), t5, t6, t7, none] ∧ Ex H4 H') (fun H5 e5 => ⟨none, none, none, rfl, e5⟩) ?_ ?_
    · rintro i st H5 hi ⟨t5, t6, t7, rfl, e5⟩
      show tSeq _ _ _ [some (.ref l), some (.str (tx t)), some (.int (s : Nat)), some (.ref wl), some (.ref qa), some (.int (i : Nat)), t6, t7, none] H5
      have hS5 := ex_l (e14.trans e5) hS
      refine s_seq ?_
      refine ⟨_, rfl, _, rfl, (4 : Int), (i : Int), rfl, rfl, l, ns, (4 + i), ?_, hS5, ?_⟩
      · rw [show ((4 + i : Nat) : Int) = (4 : Int) + (i : Int) by omega]
      refine ⟨_, rfl, cellOf ns (4 + i), (i : Int), rfl, rfl, _, rfl, fun p H6 np e6 hpo => ?_⟩
      have P6 : Pl H5 p 0 H6 := ⟨np, e6, hpo⟩
      have T6 := TD.mono (e5.trans e6)
      have hw6 := (e5.trans e6) _ _ hw4
      have wlp : wl ≠ p := fun z => by rw [← z, e5 _ _ hw4] at np; cases np
      have qp : qa ≠ p := fun z => by rw [← z, e5 _ _ hqa] at np; cases np
      have ap : a ≠ p := fun z => by rw [← z, e5 _ _ ha] at np; cases np
      have bp : b ≠ p := fun z => by rw [← z, e5 _ _ hb] at np; cases np
      refine ⟨_, rfl, _, rfl, qa, [.ref a, .ref b], 0, .ref a, rfl, rfl, sq_of T6.at_, at_of (j := 0) rfl rfl, _, rfl, by show 2 ≤ sizeLine; decide, fun fa nfa => ?_⟩
      have P7 := P6.new (o := .lst [.ref a, .ref wl]) nfa
      have e67 := Ex.new (H := H6) (o := .lst [.ref a, .ref wl]) nfa
      have T7 := T6.mono e67
      have hw7 := e67 _ _ hw6
      have fp : fa ≠ p := P6.ne nfa
      have hf7 : (upd H6 fa (.lst [.ref a, .ref wl])) fa = some (.lst [.ref a, .ref wl]) := upd_same
      generalize upd H6 fa (.lst [.ref a, .ref wl]) = H7 at P7 T7 hw7 hf7 ⊢
      have TW : J61.Told (Wo H7 p) qa a b ps rs' := ⟨wo_at T7.at_ qp, wo_at T7.posts ap, wo_at T7.rows bp, fun r hr' => wo_at (T7.row r hr') (fun z => by
        have h1 := hrow r hr'
        unfold J61.RowAt at h1
        rw [← z, e5 _ _ h1] at np
        cases np)⟩
      refine ⟨_, rfl, p, qa, a, b, fa, a, wl, wl, ps, rs', ps, ws, ws, Wo H7 p, 0, rfl, P7.re, by omega, TW, NP, RO, hpl, by omega, ⟨wo_at hf7 fp, TW.posts, wo_at hw7 wlp⟩, .inl (sq_of (wo_at hw7 wlp)), by omega, fun c hc' => hc', hp1, hpl, ?_, ?_, fun d ls s0 H8 nd P8' hd hs0 hwk hin hll => ?_⟩
      · rw [hbare, within_all]
        exact SG
      · rw [hbare, within_all]
        intro x hx
        unfold J61.names
        rw [List.map_map]
        exact List.mem_map.mpr ⟨x, hx, rfl⟩
      rw [hbare, within_all] at hwk
      have P8 := P7.back P8'
      have e48 : Ex H4 H8 := e5.trans P8.ex
      have hls : ∀ x ∈ ls, ∃ c r', x = c :: r' := fun x hx => by
        exact lanes_cons hwins hwk x hx
      dsimp only
      refine s_seq ?_
      have key := el_lcM (K := K) (σ := [some (.ref l), some (.str (tx t)), some (.int (s : Nat)), some (.ref wl), some (.ref qa), some (.int (i : Nat)), some (.ref d), t7, none]) (H := H8) (tl := tVar 6) (te := tOp rIxS (tVar 8) (tC (.int 0))) (j := 8) (vs := [8]) (ys := ls) (g := fun l => V.str (tx l)) (fun l => V.str (tx [l.getD 0 0])) (ev_var rfl) (sq_of hd) (by omega) (fun _ => rfl) (fun x H9 e9 hx => by
        have h8 := lanes_len hwins hwk x hx
        obtain ⟨c, r', rfl⟩ := hls x hx
        refine ev_is (ev_op (ev_var rfl) ev_c (rv_ixS (w := tx (c :: r')) (c := c) (by rw [tx_len]; omega) ?_)) rfl
        exact text_at (zs := c :: r') (j := 0) (Nat.succ_pos _))
      refine s_asgJ key (cs := hd1 ls) (by
        unfold hd1
        rw [List.map_map, List.map_map]
        rfl) (by unfold hd1; rw [List.length_map]; omega) fun H9 e9 => ?_
      have hol : (hd1 ls).length = ls.length := by unfold hd1; rw [List.length_map]
      have hm : 1 ≤ ls.length := List.length_pos_of_mem (hin _ ((hS2.mem _).mpr (wn_in (t := t) (s := s) (k := 0) n1)))
      dsimp only
      refine ⟨_, rfl, hd1 ls, rfl, by omega, by omega, fun r1 H10 e10 hr1 => ⟨_, rfl, t, rfl, n1, by omega, fun r2 H11 e11 hr2 => ?_⟩⟩
      obtain ⟨_, q1, k, q2, q3⟩ := tour_ok n1 hs1 hc hS2 hSp hs0 hwk hin hr1 hr2
      refine ⟨_, _, k, rfl, q1, by rw [List.length_take]; omega, q2, q3, fun H12 e12 => ⟨true, rfl, ?_⟩⟩
      dsimp only
      rw [if_neg (by decide)]
      exact ⟨_, _, _, rfl, e48.trans (((e9.trans e10).trans e11).trans e12)⟩
    · rintro st H5 ⟨t5, t6, t7, rfl, e5⟩
      dsimp only
      exact s_ret (v := .bl true) ev_c fun H6 e6 => q H6 ((e14.trans e5).trans e6)
end
end K61

set_option Elab.async false
set_option linter.all false
set_option maxRecDepth 100000
set_option maxHeartbeats 4000000
/-! The law of texts known by their windows: its words. -/
namespace K61
open PySem PySem.Spec PyProof.Rows L2 Vl Evl Vp Vx2 Vlk Vda Vc Ve Ven Vlt Vtx Vr Vrc Vwy
theorem low_str {l : List Nat} (h : ∀ c ∈ l, c < 128) : Low (.str (tx l)) := by
  have : SeqAt.shaped (wd [l]) = true := sh_w fun x hx c hc => by
    rw [List.mem_singleton.mp hx] at hc
    have := h c hc
    omega
  refine ⟨?_, by show 0 ≤ 10; omega⟩
  have := sh_lay this
  have h2 : (PyData.canLay0 (.str (tx l)) && true) = true := this
  rw [Bool.and_true] at h2
  exact h2
theorem low_non : Low .none := ⟨rfl, by show 0 ≤ 10; omega⟩
theorem low_int (i : Int) : Low (.int i) := ⟨rfl, by show 0 ≤ 10; omega⟩
theorem low_b (b : Bool) : Low (.bool b) := ⟨rfl, by show 0 ≤ 10; omega⟩
section
variable {K : PySem.W.Frag} {B : Hp}
theorem bad_s {l : List Nat} {lo hi : Nat} (h : l.length ≤ 1000) (h2 : okW l lo hi = false) : BadW K B (.str (tx l)) lo hi := .inl ⟨l, rfl, h, h2⟩
theorem bad_non {lo hi : Nat} : BadW K B .non lo hi := .inr ⟨"NoneType", fun _ _ => .base .non, by decide +kernel⟩
theorem bad_int {i : Int} {lo hi : Nat} : BadW K B (.int i) lo hi := .inr ⟨"int", fun _ _ => .base (.int i), by decide +kernel⟩
end
section
variable {K : PySem.W.Frag} {σ : L2.St} {H : Hp} {te : TE} {D : Ends}
theorem evs {s : String} {l : List Nat} (h : Str.ofString s = tx l) : Ev (tC (.str (Str.ofString s))) σ H (.str (tx l)) := ev_is ev_c (congrArg V.str h)
theorem str_a : Str.ofString "a" = tx [97] := by decide +kernel
theorem str_b : Str.ofString "b" = tx [98] := by decide +kernel
theorem str_e : Str.ofString "" = tx [] := by decide +kernel
theorem str_A : Str.ofString "A" = tx [65] := by decide +kernel
theorem str_abc : Str.ofString "abc" = tx [97, 98, 99] := by decide +kernel
theorem str_a1 : Str.ofString "a1" = tx [97, 49] := by decide +kernel
def bads6 : List V := [.str (tx []), .str (tx [65]), .non, .str (tx [97, 49]), .int 7, .str (tx (Vq.rp 41 [98]))]
theorem bads6_ok {i : Nat} {y : V} (h : bads6[i]? = some y) : (∀ B, BadW K B y 1 40) ∧ ∃ d, (∀ B, Dp K B y d) ∧ SeqAt.shaped d = true := by
  have hm := List.mem_of_getElem? h
  unfold bads6 at hm
  simp only [List.mem_cons, List.not_mem_nil, or_false] at hm
  have sh : ∀ {d : PyData}, Low d → SeqAt.shaped d = true := fun h => shaped_of h.1 (by have := h.2; omega)
  rcases hm with rfl | rfl | rfl | rfl | rfl | rfl
  · exact ⟨fun B => bad_s (by decide) (by decide +kernel), _, fun B => .str _, sh (low_str (by decide))⟩
  · exact ⟨fun B => bad_s (by decide) (by decide +kernel), _, fun B => .str _, sh (low_str (by decide))⟩
  · exact ⟨fun B => bad_non, _, fun B => .non, sh low_non⟩
  · exact ⟨fun B => bad_s (by decide) (by decide +kernel), _, fun B => .str _, sh (low_str (by decide))⟩
  · exact ⟨fun B => bad_int, _, fun B => .int _, sh (low_int _)⟩
  · exact ⟨fun B => bad_s (by decide +kernel) (by decide +kernel), _, fun B => .str _, sh (low_str (by decide +kernel))⟩
/-- a draw out of a list -/
theorem s_pickL {p : Addr} {Hk : Hp} {n m j ip : Nat} {xs : List V} (hσ : σ[ip]? = some (some (.ref p))) (P : Pl Hk p n H) (hn : n ≤ 90000) (hm : 1 ≤ m ∧ m ≤ 1000) (hl : EvL te σ H xs) (hR : xs.length = m)
    (k : ∀ (i : Nat) v H2, xs[i]? = some v → Pl Hk p (n + 1) H2 → D.nx (σ.set j (some v)) H2) :
    tAsg (tOp (rIxL K) te (Vc.tFu spTake (fun _ => nil0) (tCons (tVar ip) (tCons (tC (.int (m : Nat))) tNil)))) (gName j) D σ H :=
  hl H (Ex.refl H) _ fun a H1 na e ha => ⟨_, hσ, p, (m : Int), Wo H1 p, n, rfl, by omega, by omega, (P.grow e).re, by omega, fun r H2 r0 r1 P2 => by
    obtain ⟨i, rfl⟩ := Int.eq_ofNat_of_zero_le r0
    have hi : i < xs.length := by omega
    have hap : a ≠ p := P.ne na
    exact ⟨a, xs, _, xs[i], rfl, rfl, sq_of (P2.ex _ _ (wo_at ha hap)), at_of rfl (List.getElem?_eq_getElem hi), k i _ H2 (List.getElem?_eq_getElem hi) ((P.grow e).back P2)⟩⟩
theorem ok_hi {t : List Nat} {lo hi hi' : Nat} (h : okW t lo hi = true) (hh : hi ≤ hi') : okW t lo hi' = true := by
  obtain ⟨n1, n2⟩ := ok_len h
  exact okW_of n1 (by omega) fun c hc => ok_mem h hc
theorem ok_rt' {t : List Nat} {lo hi k : Nat} (h : okW t lo hi = true) (hk : k ≤ t.length) : okW (rt t k) lo hi = true := by
  obtain ⟨n1, n2⟩ := ok_len h
  refine okW_of (by rw [rt_len hk]; exact n1) (by rw [rt_len hk]; exact n2) fun c hc => ?_
  unfold rt at hc
  rcases List.mem_append.mp hc with hc | hc
  · exact ok_mem h (List.mem_of_mem_drop hc)
  · exact ok_mem h (List.mem_of_mem_take hc)
theorem wn_dbl {t : List Nat} {s k : Nat} (h1 : 1 ≤ t.length) : wn (t ++ t) s k = wn t s k := by
  unfold wn
  refine List.map_congr_left fun i _ => ?_
  have hl : (t ++ t).length = 2 * t.length := by rw [List.length_append]; omega
  have e : t ++ t = Vq.rp 2 t := by
    unfold Vq.rp
    rw [List.replicate_succ, List.replicate_succ, List.replicate_zero, List.flatten_cons, List.flatten_cons, List.flatten_nil, List.append_nil]
  have hi := Nat.mod_lt (k + i) (show 0 < 2 * t.length by omega)
  rw [hl, List.getD_eq_getElem?_getD, e, rp_get 2 _ hi]
  show t.getD ((k + i) % (2 * t.length) % t.length) 0 = _
  rw [Nat.mod_mod_of_dvd _ ⟨2, Nat.mul_comm _ _⟩]
theorem dbl_mem {t : List Nat} (h1 : 1 ≤ t.length) (s : Nat) (w : List Nat) : w ∈ wns (t ++ t) s ↔ w ∈ wns t s := by
  rw [wns_mem, wns_mem]
  constructor
  · rintro ⟨k, hk, rfl⟩
    exact ⟨k % t.length, Nat.mod_lt _ h1, by rw [wn_dbl h1, wn_mod]⟩
  · rintro ⟨k, hk, rfl⟩
    exact ⟨k, by rw [List.length_append]; omega, (wn_dbl h1).symm⟩
theorem KB.sc {t : List Nat} {v : V} (h : KB t v) : scal v v = true := by
  rcases h with ⟨i, _, rfl, _⟩ | ⟨rfl, _⟩ <;> rfl
theorem ev_kb {BW : Addr} {E : L2.St → XK} {t t' : List Nat} {v : V} (h : Ev te σ H (.str (tx t'))) (ok : okW t' 1 40 = true) (hv : KB t v) (e : ∀ s k, k ∈ wns t s ↔ k ∈ wns t' s) : Ev (Vc.tFu (spKb K BW) E (tCons te tNil)) σ H v := fun H1 e1 Q q =>
  h H1 e1 _ fun H2 e2 => ⟨_, rfl, .inl ⟨t', rfl, ok, fun v' H3 e3 hv' => by
    rw [hv'.one (hv.same e)]
    exact q H3 (e2.trans e3)⟩⟩
end
end K61

set_option Elab.async false
set_option linter.all false
set_option maxRecDepth 100000
set_option maxHeartbeats 4000000
/-! The law of texts known by their windows. -/
namespace K61
open PySem PySem.Spec PyProof.Rows L2 Vl Evl Vp Vx2 Vlk Vda Vc Ve Ven Vlt Vtx Vr Vrc Vwy
abbrev sLaw : Stmt := top 49
abbrev nLaw : List Str := ["_law_script", "_law_turn", "_law_pool_here", "_law_letters", "_law_text_here", "_law_k", "_law_due_here", "_law_place", "_law_one", "_law_bad"]
def spLaw (K : PySem.W.Frag) : Sp := fun vs H Q _ => ∃ (l : Addr) (ns : List Int), vs = [.ref l] ∧ SqL K H l (ns.map V.int) ∧ ∀ H', Q (.bl true) H'
section
variable {K : PySem.W.Frag} {σ : L2.St} {H : Hp}
/-- "".join([letters[take(pool, len(letters))] for k in range(29 + take(pool, 12))]) -/
theorem s_long {p : Addr} {Hk : Hp} {n : Nat} {ls : List Nat} {D : Ends} (h2 : σ[2]? = some (some (.ref p))) (h3 : σ[3]? = some (some (.str (tx ls)))) (hw : ∀ x, wipe ((wipe σ [5]).set 5 (some x)) [5] = wipe σ [5]) (h2' : ∀ x, ((wipe σ [5]).set 5 (some x))[2]? = some (some (.ref p))) (h3' : ∀ x, ((wipe σ [5]).set 5 (some x))[3]? = some (some (.str (tx ls))))
    (P : Pl Hk p n H) (hn : n ≤ 80000) (l1 : 1 ≤ ls.length) (l2 : ls.length ≤ 26) (k : ∀ cs m H', (∀ c ∈ cs, c ∈ ls) → 29 ≤ cs.length → cs.length ≤ 40 → Pl Hk p m H' → m ≤ n + 50 → D.nx (σ.set 4 (some (.str (tx cs)))) H') :
    tAsg (tM1 (fun x xs H Q => ∃ a p, ∃ ys : List Str, x = .str a ∧ xs = [.ref p] ∧ (SqL K H p (ys.map V.str) ∨ SqT K H p (ys.map V.str)) ∧ (ys.map (·.length)).sum + ys.length * a.length ≤ 16777216 ∧ Q (.str (Txt.join a ys)) H) (tC (.str (Str.ofString "")))
      (tLc (iRng1 (tCons (tOp (rI0 fun i j => .int (i + j)) (tC (.int 29)) (Vc.tFu spTake (fun _ => nil0) (tCons (tVar 2) (tCons (tC (.int 12)) tNil)))) tNil)) (gName 5) tYes (tOp rIxS (tVar 3) (Vc.tFu spTake (fun _ => nil0) (tCons (tVar 2) (tCons (tCB (fun xs H Q => ∃ x n, xs = [x] ∧ LenV K x H n ∧ Q (.int n) H) (tCons (tVar 3) tNil)) tNil)))) [5])) (gName 4) D σ H := by
  refine ⟨⟨_, rfl⟩, ?_⟩
  refine ⟨_, h2, p, 12, Wo H p, n, rfl, by omega, by omega, P.re, by omega, fun r H1 r0 r1 P1' => ⟨29, r, rfl, rfl, 29 + r, rfl, by omega, by omega, fun Dl hD => ?_⟩⟩
  have P1 := P.back P1'
  have hDk : Hk Dl = none := fresh_back P1.ex hD
  have dp : Dl ≠ p := P1.ne hD
  refine lc_range (lo := 0) (n := (29 + r).toNat) (fun i H' => ∃ cs : List Nat, H' Dl = some (.lst ((cs.map fun c => tx [c]).map V.str)) ∧ cs.length = i ∧ (∀ c ∈ cs, c ∈ ls) ∧ Pl Hk p (n + 1 + i) H') ⟨[], upd_same, rfl, (fun _ h => nomatch h), P1.new hD⟩ ?_ ?_
  · rintro i H2 hi ⟨cs, hd, hcl, hin, P2⟩
    refine ⟨hw _, ?_⟩
    unfold tYes
    dsimp only
    rw [if_pos rfl]
    refine ⟨_, h3' _, _, h2' _, _, h3' _, V.str (tx ls), ls.length, rfl, ⟨sz_of (by rw [tx_len]; omega), (tx_len ls).symm⟩, p, (ls.length : Int), Wo H2 p, _, rfl, by omega, by omega, P2.re, by omega, fun r2 H3 r20 r21 P3' => ?_⟩
    obtain ⟨j, rfl⟩ := Int.eq_ofNat_of_zero_le r20
    have hj : j < ls.length := by omega
    have P3 := P2.back P3'
    have hd3 := P3'.ex _ _ (wo_at hd dp)
    refine ⟨tx ls, (j : Int), ls.getD j 0, rfl, rfl, sz_of (by rw [tx_len]; omega), text_at hj, _, hd3, sz_lt (by rw [List.length_map, List.length_map]; omega), cs ++ [ls.getD j 0], ?_, ?_, ?_, ?_⟩
    · rw [upd_same, List.map_append, List.map_append]
      rfl
    · rw [List.length_append, List.length_singleton, hcl]
    · intro c hc
      rcases List.mem_append.mp hc with hc | hc
      · exact hin c hc
      · rw [List.mem_singleton.mp hc]
        exact getD_mem hj
    · exact (show Pl Hk p (n + 1 + i + 1) _ from J61.Pl.mut P3 hDk dp)
  · rintro H2 ⟨cs, hd, hcl, hin, P2⟩
    refine ⟨Str.empty, Dl, cs.map fun c => tx [c], rfl, rfl, .inl (sq_of hd), ?_, ?_⟩
    · have : ∀ zs : List Nat, ((zs.map fun c => tx [c]).map (·.length)).sum = zs.length := fun zs => by
        induction zs with
        | nil => rfl
        | cons x a ih =>
          rw [List.map_cons, List.map_cons, List.sum_cons, ih, List.length_cons]
          show 1 + _ = _
          omega
      rw [this, List.length_map]
      show cs.length + cs.length * 0 ≤ _
      omega
    · rw [Vtx.join_ones]
      exact k cs _ H2 hin (by omega) (by omega) P2 (by omega)
end
section
variable {P : Program} {w : World} {K : PySem.W.Frag} {mg : Str → Option Value} {base : Heap} {BW : Addr}
theorem scLaw : FnScope nLaw ["_law_script"] (defScope sLaw) := ⟨rfl, rfl, rfl, by decide +kernel, rfl, by decide +kernel, by decide +kernel⟩
theorem ok_law {f : Addr} {fd : FuncData} (F : FnP K "law" sLaw f fd) (TCe : Fu P w K mg base L2.CX0 1 "_law_cell" (spCell K)) (TPo : Fu P w K mg base L2.CX0 1 "_law_pool" spPool) (TT : Fu P w K mg base L2.CX0 1 "_law_take" spTake) (TTx : Fu P w K mg base L2.CX0 2 "_law_text" spTx)
    (TDu : Fu P w K mg base L2.CX0 2 "_law_due" spDu) (TAl : Fu P w K mg base L2.CX0 4 "_law_all_alike" (spAl K)) (TRe : Fu P w K mg base L2.CX0 8 "_law_refused" (spRe K)) (TKb : Fu P w K mg base (L2.CX P w) 7 "known_by" (spKb K BW)) (mRange : mg "range" = none) (mLen : mg "len" = none) :
    FnOk P w K mg base L2.CX0 9 f fd ["_law_script"] (spLaw K) := by
  refine F.ok (CX := L2.CX0) scLaw (fun vs H Q E h => ?_) (fun cdv A outer s H vs Q E hr h => ?_)
  · obtain ⟨l, ns, rfl, _⟩ := h
    rfl
  · refine ⟨_, (pss_cons (ps_for (passes_of rfl) rfl (pi_range1 (by rfl) mRange (pa_cons pe_int pa_nil)) (pg_name (i := 1) scLaw.nd rfl (by first | exact Or.inl rfl | exact Or.inr rfl)) (pss_cons (ps_set (i := 2) scLaw.nd rfl (by first | exact Or.inl rfl | exact Or.inr rfl) (pe_fu TPo hr (by rfl) (pa_cons (pe_op op_add (pe_fu TCe hr (by rfl) (pa_cons (pv 0) (pa_cons (pv 1) pa_nil))) (pv 1)) pa_nil)))
      (pss_cons (ps_set (i := 3) scLaw.nd rfl (by first | exact Or.inl rfl | exact Or.inr rfl) (pe_slice sl_str pe_str po_none (po_some (pe_op op_add pe_int (pe_fu TT hr (by rfl) (pa_cons (pv 2) (pa_cons pe_int pa_nil)))))))
      (pss_cons (ps_set (i := 4) scLaw.nd rfl (by first | exact Or.inl rfl | exact Or.inr rfl) (pe_fu TTx hr (by rfl) (pa_cons (pv 2) (pa_cons pe_int (pa_cons (pv 3) pa_nil)))))
      (pss_cut (ps_if (pt_cmpR op_eq (pv 1) pe_int (nomark _)) (pss_one (ps_set (i := 4) scLaw.nd rfl (by first | exact Or.inl rfl | exact Or.inr rfl) (pe_join pe_str (pe_lc (own := [("_law_k", 5)]) (g := (gName 5)) (tt := tYes) (te := (tOp rIxS (tVar 3) (Vc.tFu spTake (fun _ => nil0) (tCons (tVar 2) (tCons (tCB (fun xs H Q => ∃ x n, xs = [x] ∧ LenV K x H n ∧ Q (.int n) H) (tCons (tVar 3) tNil)) tNil))))) rfl scLaw.nd (pi_range1 (by rfl) mRange (pa_cons (pe_op op_add pe_int (pe_fu TT hr (by rfl) (pa_cons (pv 2) (pa_cons pe_int pa_nil)))) pa_nil)) (blkOk_by (own := [("_law_k", 5)]) (N := nLaw) (sc := defScope sLaw) (by decide +kernel)) (fun _ _ _ _ _ => (pg_name (i := 5) scLaw.nd rfl (by first | exact Or.inl rfl | exact Or.inr rfl))) (fun _ _ _ _ _ => pts_nil) (fun _ _ _ _ _ => (pe_ix ix_str (pv 3) (pe_fu TT hr (by rfl) (pa_cons (pv 2) (pa_cons (pe_callB call_len (by rfl) mLen boot_len (pa_cons (pv 3) pa_nil)) pa_nil))) fun _ _ => rfl)))))) pss_nil)
      (pss_cons (ps_set (i := 6) scLaw.nd rfl (by first | exact Or.inl rfl | exact Or.inr rfl) (pe_fu TDu hr (by rfl) (pa_cons (pv 4) pa_nil)))
      (pss_cons (ps_set (i := 7) scLaw.nd rfl (by first | exact Or.inl rfl | exact Or.inr rfl) (pe_fu TT hr (by rfl) (pa_cons (pv 2) (pa_cons (pe_callB call_len (by rfl) mLen boot_len (pa_cons (pv 4) pa_nil)) pa_nil))))
      (pss_cons (ps_for (passes_of rfl) rfl (pi_tup (pe_tup (pa_cons (pv 4) (pa_cons (pe_op op_add_str (pe_slice sl_str (pv 4) (po_some (pv 7)) po_none) (pe_slice sl_str (pv 4) po_none (po_some (pv 7)))) (pa_cons (pe_op op_add_str (pv 4) (pv 4)) pa_nil))))) (pg_name (i := 8) scLaw.nd rfl (by first | exact Or.inl rfl | exact Or.inr rfl)) (pss_one (ps_if (PW.pt (pw_and (pt_cmpR op_le (pe_callB call_len (by rfl) mLen boot_len (pa_cons (pv 8) pa_nil)) pe_int (nomark _)) (pw_and1 (pt_cmpR op_ne (pe_fuN TKb hr (by rfl) (pa_cons (pv 8) pa_nil)) (pv 6) (nomark _))))) (pss_one (ps_ret pe_bl)) pss_nil)))
      (pss_cons (ps_if (PW.pt (pw_and (pt_cmpR op_notN (pv 6) pe_non (nomark _)) (pw_and1 (pt_not (pt_val (pe_fu TAl hr (by rfl) (pa_cons (pv 0) (pa_cons (pv 4) (pa_cons (pv 6) pa_nil))))))))) (pss_one (ps_ret pe_bl)) pss_nil)
      (pss_cons (ps_set (i := 9) scLaw.nd rfl (by first | exact Or.inl rfl | exact Or.inr rfl) (pe_ix ix_list (pe_lst (pa_cons pe_str (pa_cons pe_str (pa_cons pe_non (pa_cons pe_str (pa_cons pe_int (pa_cons (pe_op Vtx.op_repS pe_str pe_int) pa_nil))))))) (pe_fu TT hr (by rfl) (pa_cons (pv 2) (pa_cons pe_int pa_nil))) fun _ _ => rfl))
      (pss_one (ps_if (pt_not (pt_val (pe_fu TRe hr (by rfl) (pa_cons (pv 9) pa_nil)))) (pss_one (ps_ret pe_bl)) pss_nil))))))))))))
      (pss_one (ps_ret pe_bl))), ?_⟩
    obtain ⟨l, ns, rfl, hS, k⟩ := h
    refine s_seq ?_
    refine s_forR1 (n := 4) (ea_cons ev_c ea_nil) (by decide) (fun i st H' => Ex H H' ∧ ∃ t1 t2 t3 t4 t6 t7 t8 t9, st = [some (.ref l), t1, t2, t3, t4, none, t6, t7, t8, t9])
      (fun H1 e1 => ⟨e1, _, _, _, _, _, _, _, _, rfl⟩) ?_ ?_
    · rintro i st H0 hi ⟨e0, t1, t2, t3, t4, t6, t7, t8, t9, rfl⟩
      dsimp only
      have hS0 := ex_l e0 hS
      refine s_seq ?_
      refine ⟨_, rfl, _, rfl, l, ns, (i : Nat), rfl, hS0, ?_⟩
      refine ⟨_, rfl, cellOf ns (i : Nat), (i : Int), rfl, rfl, _, rfl, fun p H1 np e1 hp => ?_⟩
      have P1 : Pl H0 p 0 H1 := ⟨np, e1, hp⟩
      dsimp only
      refine s_seq ?_
      refine ⟨_, rfl, p, 3, H0, 0, rfl, by omega, by omega, P1, by omega, fun r H2 r0 r1 P2 => ⟨1, r, rfl, rfl, 1 + r, rfl, Str.ofString "abc", rfl, by decide +kernel, ?_⟩⟩
      obtain ⟨r, rfl⟩ := Int.eq_ofNat_of_zero_le r0
      have habc : cutS (Str.ofString "abc") none (some (1 + (r : Int))) = tx ([97, 98, 99].take (1 + r)) := by
        have : (1 + (r : Int)) = ((1 + r : Nat) : Int) := by omega
        rw [str_abc, this, tx_cut0]
      have hla : (([97, 98, 99] : List Nat).take (1 + r)).length = 1 + r := by
        rw [List.length_take]
        show min (1 + r) 3 = _
        omega
      have hlc : ∀ c ∈ ([97, 98, 99] : List Nat).take (1 + r), c ∈ letters := fun c hc => by
        have := List.mem_of_mem_take hc
        simp only [List.mem_cons, List.not_mem_nil, or_false] at this
        rcases this with rfl | rfl | rfl <;> decide
      rw [habc]
      generalize ([97, 98, 99] : List Nat).take (1 + r) = ls at hla hlc
      dsimp only
      show tSeq _ _ _ [some (.ref l), some (.int (i : Nat)), some (.ref p), some (.str (tx ls)), t4, none, t6, t7, t8, t9] H2
      refine s_seq ?_
      refine s_asgFu (ea_cons (ev_var rfl) (ea_cons ev_c (ea_cons (ev_var rfl) ea_nil))) fun H3 e3 => ⟨p, 14, ls, H0, 1, rfl, by omega, by omega, by omega, by omega, hlc, P2.grow e3, by omega, fun t H4 ok14 P4 => ?_⟩
      dsimp only
      refine q_cut (M := fun σ' H' => ∃ t m, σ' = [some (.ref l), some (.int (i : Nat)), some (.ref p), some (.str (tx ls)), some (.str (tx t)), none, t6, t7, t8, t9] ∧ okW t 1 40 = true ∧ Pl H0 p m H' ∧ m ≤ 300) ?_ ?_
      · refine s_when (b := decide (V.int (i : Nat) = V.int 3)) (et_test (ev_op (ev_var rfl) ev_c (rv_eq rfl))) (fun _ H5 e5 => ?_) (fun _ H5 e5 => ⟨t, _, rfl, ok_hi ok14 (by omega), P4.grow e5, by omega⟩)
        refine s_long rfl rfl (fun _ => rfl) (fun _ => rfl) (fun _ => rfl) (P4.grow e5) (by omega) (by omega) (by omega) fun cs m H6 hcs c1 c2 P6 hm => ⟨cs, m, rfl, okW_of (by omega) c2 fun c hc => hlc c (hcs c hc), P6, by omega⟩
      rintro σ' H5 ⟨t, m, rfl, ok, P5, hm⟩
      obtain ⟨n1, n2⟩ := ok_len ok
      refine s_seq ?_
      refine s_asgFu (ea_cons (ev_var rfl) ea_nil) fun H6 e6 => ⟨t, rfl, ok, fun v H7 e7 hv => ?_⟩
      have P7 := (P5.grow e6).grow e7
      dsimp only
      refine s_seq ?_
      refine ⟨_, rfl, _, rfl, .str (tx t), t.length, rfl, ⟨sz_of (by rw [tx_len]; omega), (tx_len t).symm⟩, p, (t.length : Int), Wo H7 p, _, rfl, by omega, by omega, P7.re, by omega, fun r6 H8 r60 r61 P8' => ?_⟩
      have P8 := P7.back P8'
      obtain ⟨pl, rfl⟩ := Int.eq_ofNat_of_zero_le r60
      have hpl : pl < t.length := by omega
      dsimp only
      refine s_seq ?_
      have hrt : Ev (tOp rCatS (tSl rSlS (tVar 4) (tPart (tVar 7)) tNoPart) (tSl rSlS (tVar 4) tNoPart (tPart (tVar 7)))) [some (.ref l), some (.int (i : Nat)), some (.ref p), some (.str (tx ls)), some (.str (tx t)), none, some v, some (.int (pl : Nat)), t8, t9] H8 (.str (tx (rt t pl))) := by
        refine ev_is (ev_op (ev_is (ev_slS (l := t) (lo := some (pl : Int)) (hi := none) (ev_var rfl) (eo_some (ev_var rfl)) eo_none (by omega)) (by rw [tx_cut1])) (ev_is (ev_slS (l := t) (lo := none) (hi := some (pl : Int)) (ev_var rfl) eo_none (eo_some (ev_var rfl)) (by omega)) (by rw [tx_cut0])) (rv_cats (by rw [List.length_drop, List.length_take]; omega))) rfl
      refine s_forNUn (xs := [.str (tx t), .str (tx (rt t pl)), .str (tx (t ++ t))]) (eu_tup (ea_cons (ev_var rfl) (ea_cons hrt (ea_cons (ev_op (ev_var rfl) (ev_var rfl) (rv_cats (by omega))) ea_nil))) (by show 3 ≤ 100000; omega)) (fun q j st H' => ∃ t8, st = [some (.ref l), some (.int (i : Nat)), some (.ref p), some (.str (tx ls)), some (.str (tx t)), none, some v, some (.int (pl : Nat)), t8, t9] ∧ Ex H8 H' ∧ H' q = some (.tup [.str (tx t), .str (tx (rt t pl)), .str (tx (t ++ t))]))
        (fun q H9 nq e9 hq => ⟨t8, rfl, e9, hq⟩) (fun q j st H' _ ⟨_, _, _, hq⟩ => st_of hq) ?_ ?_
      · rintro q j x st H9 hx ⟨t8, rfl, e9, hq⟩
        have hx2 : ∃ t', x = .str (tx t') ∧ t'.length ≤ 80 ∧ (t'.length ≤ 40 → okW t' 1 40 = true) ∧ ∀ s k, k ∈ wns t s ↔ k ∈ wns t' s := by
          have hm := List.mem_of_getElem? hx
          simp only [List.mem_cons, List.not_mem_nil, or_false] at hm
          rcases hm with rfl | rfl | rfl
          · exact ⟨t, rfl, by omega, fun _ => ok, fun _ _ => Iff.rfl⟩
          · exact ⟨rt t pl, rfl, by rw [rt_len (by omega)]; omega, fun _ => ok_rt' ok (by omega), fun s k => (rt_mem (by omega) n1 k).symm⟩
          · exact ⟨t ++ t, rfl, by rw [List.length_append]; omega, fun h40 => okW_of (by rw [List.length_append]; omega) h40 fun c hc => (List.mem_append.mp hc).elim (ok_mem ok) (ok_mem ok), fun s k => (dbl_mem n1 s k).symm⟩
        obtain ⟨t', rfl, l80, ok40, hmem⟩ := hx2
        show tIfS _ _ _ _ [some (.ref l), some (.int (i : Nat)), some (.ref p), some (.str (tx ls)), some (.str (tx t)), none, some v, some (.int (pl : Nat)), some (.str (tx t')), t9] H9
        refine s_when (b := false) (et_is (et_and (a := decide ((t'.length : Int) ≤ 40)) (b := false) (et_test (ev_op (ev_lenS (l := t') (ev_var rfl) (by omega)) ev_c rv_I0)) (fun h40 => et_test (ev_is (ev_op (ev_kb (BW := BW) (ev_var rfl) (ok40 (by have := of_decide_eq_true h40; omega)) hv hmem) (ev_var rfl) (rv_ne hv.sc)) (by rw [decide_eq_true rfl]; rfl)))) (by rw [Bool.and_false])) (fun z => by cases z) (fun _ H10 e10 => ?_)
        exact ⟨_, rfl, e9.trans e10, e10 _ _ hq⟩
      rintro q st H9 ⟨t8', rfl, e9, hq⟩
      have P9 := P8.grow e9
      dsimp only
      refine s_seq ?_
      have hS9 := ex_l (e0.trans P9.ex) hS
      refine s_when (b := false) ?_ (fun z => by cases z) (fun _ H10 e10 => ?_)
      · rcases hv with ⟨i2, hi2, rfl, hc, _⟩ | ⟨rfl, _⟩
        · refine et_is (et_and (a := true) (b := false) (et_test (ev_is (ev_op (ev_var rfl) ev_c (rv_val fun H1 _ Q q => ⟨rfl, q⟩)) (by rw [decide_eq_false (by intro z; cases z)]; rfl))) (fun _ => et_is (et_not (et_B (ev_fu (z := .bl true) (ea_cons (ev_var rfl) (ea_cons (ev_var rfl) (ea_cons (ev_var rfl) ea_nil))) fun H1 e Q q E => ⟨l, ns, t, i2 + 2, rfl, ex_l e hS9, ok, by omega, by omega, hc, fun H' e' => q H' e'⟩))) rfl)) rfl
        · refine et_is (et_and (a := false) (b := false) (et_test (ev_is (ev_op (ev_var rfl) ev_c (rv_val fun H1 _ Q q => ⟨rfl, q⟩)) (by rw [decide_eq_true rfl]; rfl))) (fun z => by cases z)) rfl
      have P10 := P9.grow e10
      dsimp only
      refine s_seq ?_
      refine s_pickL (K := K) (ip := 2) (m := 6) (xs := bads6) rfl P10 (by omega) (by omega) (el_lst (ea_cons (evs str_e) (ea_cons (evs str_A) (ea_cons ev_c (ea_cons (evs str_a1) (ea_cons ev_c (ea_cons (ev_op (evs str_b) ev_c (rv_repS (k := 41) (by decide) (by decide))) ea_nil)))))) (by show 6 ≤ 100000; omega)) rfl fun i9 bad H11 hbad P11 => ?_
      obtain ⟨hbw, d, hd, hsh⟩ := bads6_ok (K := K) hbad
      dsimp only
      refine s_when (b := false) (et_is (et_not (et_B (ev_fu (z := .bl true) (ea_cons (ev_var rfl) ea_nil) fun H1 e Q q E => ⟨bad, d, rfl, hbw _, hd _, hsh, fun H' e' => q H' e'⟩))) rfl) (fun z => by cases z) (fun _ H12 e12 => ?_)
      exact ⟨e0.trans (P11.grow e12).ex, _, _, _, _, _, _, _, _, rfl⟩
    · rintro st H1 ⟨_, t1, t2, t3, t4, t6, t7, t8, t9, rfl⟩
      dsimp only
      exact s_ret (v := .bl true) ev_c fun H2 _ => k H2
end
end K61

set_option Elab.async false
set_option linter.all false
set_option maxRecDepth 100000
set_option maxHeartbeats 0
namespace K61
open PySem PySem.Spec PyProof.Rows L2 Vh
abbrev iniBadName : Stmt := (clB (top 3)).getD 0 (.Pass ⟨0, 0, 0, 0⟩)
abbrev iniNameTaken : Stmt := (clB (top 4)).getD 0 (.Pass ⟨0, 0, 0, 0⟩)
abbrev iniNoPost : Stmt := (clB (top 5)).getD 0 (.Pass ⟨0, 0, 0, 0⟩)
abbrev iniBadWord : Stmt := (clB (top 10)).getD 0 (.Pass ⟨0, 0, 0, 0⟩)
abbrev iniBadNumber : Stmt := (clB (top 9)).getD 0 (.Pass ⟨0, 0, 0, 0⟩)
def fn : List He.DefD := [gD (top 15) "is_name", gD (top 16) "is_integer", gD (top 17) "check_name", gD (top 21) "check_posts", gD (top 27) "windows", gD (top 28) "window_net", gD (top 29) "known_by", gD (top 30) "_windows_in_order", gD (top 31) "_check_words", gD (top 32) "_check_word", gD (top 34) "_law_cell", gD (top 35) "_law_pool", gD (top 36) "_law_take", gD (top 37) "_law_mixed", gD (top 38) "_law_ends", gD (top 39) "_law_ways", gD (top 40) "_law_hidden", gD (top 41) "_law_windows", gD (top 42) "_law_text", gD (top 43) "_law_window_net", gD (top 44) "_law_root", gD (top 45) "_law_same_ring", gD (top 46) "_law_due", gD (top 47) "_law_refused", gD (top 48) "_law_all_alike", gD (top 49) "law", mD (mem 0) "Net" "__init__" "Net.__init__", mD (mem 1) "Net" "post" "Net.post", mD (mem 2) "Net" "lane" "Net.lane", mD iniBadName "BadName" "__init__" "BadName.__init__", mD iniNameTaken "NameTaken" "__init__" "NameTaken.__init__", mD iniNoPost "NoPost" "__init__" "NoPost.__init__", mD iniBadWord "BadWord" "__init__" "BadWord.__init__", mD iniBadNumber "BadNumber" "__init__" "BadNumber.__init__"]
def pr : List PrD := [(("Net", "posts"), mD (mem 4) "Net" "posts" "Net.posts"), (("Net", "lanes"), mD (mem 5) "Net" "lanes" "Net.lanes")]
def globals : List Str := ((["Net", "EmptyWalk", "BadName", "NameTaken", "NoPost", "BadWord", "BadNumber", "is_name", "is_integer", "check_name", "check_posts", "windows", "window_net", "known_by", "_windows_in_order", "_check_words", "_check_word", "_law_cell", "_law_pool", "_law_take", "_law_mixed", "_law_ends", "_law_ways", "_law_hidden", "_law_windows"] : List Str) ++ (["_law_text", "_law_window_net", "_law_root", "_law_same_ring", "_law_due", "_law_refused", "_law_all_alike", "law"] : List Str))
def frees : List Str := ["len", "int", "str", "isinstance", "range", "tuple", "list", "all", "sorted", "set", "bool"]
def meths : List Str := ["post", "lane"]
def errs : List Str := ["EmptyWalk"]
def emF : Fact := fun K => PySem.W.excIn K (He.ga K "EmptyWalk") He.veBase "ValueError.__new__" && (decide (PySem.W.subIn K (.ref (He.ga K "EmptyWalk")) (.type "BaseException") = some true) && (decide (PySem.W.typeIn K (.ref (He.ga K "EmptyWalk")) = some (.type "type")) && PySem.W.keepIn K (.ref (He.ga K "EmptyWalk"))))
def fs : List Fact := [glosF globals, freesF frees, strF "LETTERS" (Vp.tx Vp.letters), strF "DIGITS" (Vp.tx Vp.digits), intF "LONGEST" 8, intF "SHORTEST_WINDOW" 2, intF "LONGEST_WINDOW" 8, intF "LONGEST_TEXT" 40, clsF "Net" ["_posts", "_ends"] meths, mkF "Net", prpF "Net" "posts", prpF "Net" "lanes", takB, errF "BadName" ["name"], errF "NameTaken" ["name"], errF "NoPost" ["name"], errF "BadWord" ["word"], errF "BadNumber" ["value"], exmF ["BadWord", "BadNumber", "EmptyWalk"], emF]
abbrev Rw : PySem.W.OpenRow := PySem.W.OpenLaw.row PySem.Challenge.rw_alsoshown_k61_known_by_windows
abbrev hk : PySem.W.Hook := hookP 5 (allF fs) fn pr
def ob (s : PySem.W.SharedT) : He.AlD := obsPG 5 (allF fs) fn pr (HandSHeadRun.getT s)
theorem ob_eq (s : PySem.W.SharedT) : ob s = hk.obs s.abs := obsPG_eq (HandSHeadRun.getT_eq s)
def loose : List Str := (((["_wall", "__name__", "ShowError", "BadName", "NameTaken", "NoPost", "NoLane", "Clash", "EmptyWalk", "BadNumber", "BadWord", "LETTERS", "DIGITS", "LONGEST", "is_name", "is_integer", "check_name", "Net", "_net_of", "check_posts", "check_lanes", "SHORTEST_WINDOW", "LONGEST_WINDOW", "LONGEST_TEXT", "windows"] : List Str) ++ (["window_net", "known_by", "_windows_in_order", "_check_words", "_check_word", "_law_cell", "_law_pool", "_law_take", "_law_mixed", "_law_ends", "_law_ways", "_law_hidden", "_law_windows", "_law_text", "_law_window_net", "_law_root", "_law_same_ring", "_law_due", "_law_refused", "_law_all_alike"] : List Str)) : List Str)
theorem run (w : World) : HandSHeadRun.RunEq Rw (PySem.W.view Rw.prog [49]) hk ob 20000 loose w := by
  intro os
  kernel_rfl
end K61

set_option Elab.async false
set_option linter.all false
set_option maxRecDepth 100000
set_option maxHeartbeats 4000000
namespace K61
open PySem PySem.Spec PyProof.Rows L2 Vl Evl Vh Vc Vx2 Vw
theorem facts_ok {P : Program} {w : World} {K : PySem.W.Frag} {h : Heap} {mg : Str → Option Value} {f : Addr} (X : K.In h) (G : h.Ns mainGlobals mg) (hfa : mg ("law" : Str) = some (.ref f)) (c : SaysP (allF fs) fn pr K) :
    ∃ fd : FuncData, (∀ (s : Shared) (v : Value), BindsTo s fd ⟨[v], []⟩ [("_law_script", v)]) ∧ ∀ base : Heap, K.In base → base.Ns mainGlobals mg → FnOk P w K mg base L2.CX0 9 f fd ["_law_script"] (spLaw K) := by
  have a := c.one.1
  have gg := glos_ok X G (fact_at a 0)
  have fr := frees_ok X G (fact_at a 1)
  have gL := He.str_ok X G (fact_at a 2)
  have gDg := He.str_ok X G (fact_at a 3)
  have gO := He.int_ok X G (fact_at a 4)
  have gSW := He.int_ok X G (fact_at a 5)
  have gLW := He.int_ok X G (fact_at a 6)
  have gLT := He.int_ok X G (fact_at a 7)
  have net := clsF_ok (fact_at a 8)
  have M := He.mkr_ok (fact_at a 9)
  have pP := prpF_ok (fact_at a 10)
  have pL := prpF_ok (fact_at a 11)
  have tak := fact_at a 12
  have eBadName := fact_at a 13
  have eNameTaken := fact_at a 14
  have eNoPost := fact_at a 15
  have eBadWord := fact_at a 16
  have eBadNumber := fact_at a 17
  have exm := fact_at a 18
  have emf := fact_at a 19
  obtain ⟨fd_is_name, D_is_name⟩ := c.def_ 0 (d := gD (top 15) "is_name") rfl
  obtain ⟨fd_is_integer, D_is_integer⟩ := c.def_ 1 (d := gD (top 16) "is_integer") rfl
  obtain ⟨fd_check_name, D_check_name⟩ := c.def_ 2 (d := gD (top 17) "check_name") rfl
  obtain ⟨fd_check_posts, D_check_posts⟩ := c.def_ 3 (d := gD (top 21) "check_posts") rfl
  obtain ⟨fd_windows, D_windows⟩ := c.def_ 4 (d := gD (top 27) "windows") rfl
  obtain ⟨fd_window_net, D_window_net⟩ := c.def_ 5 (d := gD (top 28) "window_net") rfl
  obtain ⟨fd_known_by, D_known_by⟩ := c.def_ 6 (d := gD (top 29) "known_by") rfl
  obtain ⟨fd__windows_in_order, D__windows_in_order⟩ := c.def_ 7 (d := gD (top 30) "_windows_in_order") rfl
  obtain ⟨fd__check_words, D__check_words⟩ := c.def_ 8 (d := gD (top 31) "_check_words") rfl
  obtain ⟨fd__check_word, D__check_word⟩ := c.def_ 9 (d := gD (top 32) "_check_word") rfl
  obtain ⟨fd__law_cell, D__law_cell⟩ := c.def_ 10 (d := gD (top 34) "_law_cell") rfl
  obtain ⟨fd__law_pool, D__law_pool⟩ := c.def_ 11 (d := gD (top 35) "_law_pool") rfl
  obtain ⟨fd__law_take, D__law_take⟩ := c.def_ 12 (d := gD (top 36) "_law_take") rfl
  obtain ⟨fd__law_mixed, D__law_mixed⟩ := c.def_ 13 (d := gD (top 37) "_law_mixed") rfl
  obtain ⟨fd__law_ends, D__law_ends⟩ := c.def_ 14 (d := gD (top 38) "_law_ends") rfl
  obtain ⟨fd__law_ways, D__law_ways⟩ := c.def_ 15 (d := gD (top 39) "_law_ways") rfl
  obtain ⟨fd__law_hidden, D__law_hidden⟩ := c.def_ 16 (d := gD (top 40) "_law_hidden") rfl
  obtain ⟨fd__law_windows, D__law_windows⟩ := c.def_ 17 (d := gD (top 41) "_law_windows") rfl
  obtain ⟨fd__law_text, D__law_text⟩ := c.def_ 18 (d := gD (top 42) "_law_text") rfl
  obtain ⟨fd__law_window_net, D__law_window_net⟩ := c.def_ 19 (d := gD (top 43) "_law_window_net") rfl
  obtain ⟨fd__law_root, D__law_root⟩ := c.def_ 20 (d := gD (top 44) "_law_root") rfl
  obtain ⟨fd__law_same_ring, D__law_same_ring⟩ := c.def_ 21 (d := gD (top 45) "_law_same_ring") rfl
  obtain ⟨fd__law_due, D__law_due⟩ := c.def_ 22 (d := gD (top 46) "_law_due") rfl
  obtain ⟨fd__law_refused, D__law_refused⟩ := c.def_ 23 (d := gD (top 47) "_law_refused") rfl
  obtain ⟨fd__law_all_alike, D__law_all_alike⟩ := c.def_ 24 (d := gD (top 48) "_law_all_alike") rfl
  obtain ⟨fd_law, D_law⟩ := c.def_ 25 (d := gD (top 49) "law") rfl
  obtain ⟨fd_m__init__, D_m__init__⟩ := c.def_ 26 (d := mD (mem 0) "Net" "__init__" "Net.__init__") rfl
  obtain ⟨fd_mpost, D_mpost⟩ := c.def_ 27 (d := mD (mem 1) "Net" "post" "Net.post") rfl
  obtain ⟨fd_mlane, D_mlane⟩ := c.def_ 28 (d := mD (mem 2) "Net" "lane" "Net.lane") rfl
  obtain ⟨fd_iBadName, D_iBadName⟩ := c.def_ 29 (d := mD iniBadName "BadName" "__init__" "BadName.__init__") rfl
  obtain ⟨fd_iNameTaken, D_iNameTaken⟩ := c.def_ 30 (d := mD iniNameTaken "NameTaken" "__init__" "NameTaken.__init__") rfl
  obtain ⟨fd_iNoPost, D_iNoPost⟩ := c.def_ 31 (d := mD iniNoPost "NoPost" "__init__" "NoPost.__init__") rfl
  obtain ⟨fd_iBadWord, D_iBadWord⟩ := c.def_ 32 (d := mD iniBadWord "BadWord" "__init__" "BadWord.__init__") rfl
  obtain ⟨fd_iBadNumber, D_iBadNumber⟩ := c.def_ 33 (d := mD iniBadNumber "BadNumber" "__init__" "BadNumber.__init__") rfl
  obtain ⟨fd_pposts, D_pposts⟩ := c.prp 0 (q := (("Net", "posts"), mD (mem 4) "Net" "posts" "Net.posts")) rfl
  obtain ⟨fd_planes, D_planes⟩ := c.prp 1 (q := (("Net", "lanes"), mD (mem 5) "Net" "lanes" "Net.lanes")) rfl
  have e := hfa.symm.trans (gg "law" (by decide))
  cases e
  have b := FunD.bindsA (ps := ["_law_script"]) D_law fun _ _ _ _ _ _ us hl => match us, hl with | [_], _ => rfl
  have b_is_name : L2.Binds K fd_is_name ["value"] [] := FunD.bindsN D_is_name fun _ _ _ _ _ _ us hl => match us, hl with | [_], _ => rfl
  have b_is_integer : L2.Binds K fd_is_integer ["value"] [] := FunD.bindsN D_is_integer fun _ _ _ _ _ _ us hl => match us, hl with | [_], _ => rfl
  have b_check_name : L2.Binds K fd_check_name ["value"] [] := FunD.bindsN D_check_name fun _ _ _ _ _ _ us hl => match us, hl with | [_], _ => rfl
  have b_check_posts : L2.Binds K fd_check_posts ["net", "names"] [] := FunD.bindsN D_check_posts fun _ _ _ _ _ _ us hl => match us, hl with | [_, _], _ => rfl
  have b_windows : L2.Binds K fd_windows ["text", "k"] [] := FunD.bindsN D_windows fun _ _ _ _ _ _ us hl => match us, hl with | [_, _], _ => rfl
  have b_window_net : L2.Binds K fd_window_net ["words"] [] := FunD.bindsN D_window_net fun _ _ _ _ _ _ us hl => match us, hl with | [_], _ => rfl
  have b_known_by : L2.Binds K fd_known_by ["text"] [] := FunD.bindsN D_known_by fun _ _ _ _ _ _ us hl => match us, hl with | [_], _ => rfl
  have b__windows_in_order : L2.Binds K fd__windows_in_order ["text", "k"] [] := FunD.bindsN D__windows_in_order fun _ _ _ _ _ _ us hl => match us, hl with | [_, _], _ => rfl
  have b__check_words : L2.Binds K fd__check_words ["words"] [] := FunD.bindsN D__check_words fun _ _ _ _ _ _ us hl => match us, hl with | [_], _ => rfl
  have b__check_word : L2.Binds K fd__check_word ["word", "least", "most"] [] := FunD.bindsN D__check_word fun _ _ _ _ _ _ us hl => match us, hl with | [_, _, _], _ => rfl
  have b__law_cell : L2.Binds K fd__law_cell ["_law_script", "_law_k"] [] := FunD.bindsN D__law_cell fun _ _ _ _ _ _ us hl => match us, hl with | [_, _], _ => rfl
  have b__law_pool : L2.Binds K fd__law_pool ["_law_cell_here"] [] := FunD.bindsN D__law_pool fun _ _ _ _ _ _ us hl => match us, hl with | [_], _ => rfl
  have b__law_take : L2.Binds K fd__law_take ["_law_pool_here", "_law_many"] [] := FunD.bindsN D__law_take fun _ _ _ _ _ _ us hl => match us, hl with | [_, _], _ => rfl
  have b__law_mixed : L2.Binds K fd__law_mixed ["_law_pool_here", "_law_things"] [] := FunD.bindsN D__law_mixed fun _ _ _ _ _ _ us hl => match us, hl with | [_, _], _ => rfl
  have b__law_ends : L2.Binds K fd__law_ends ["_law_parts"] [] := FunD.bindsN D__law_ends fun _ _ _ _ _ _ us hl => match us, hl with | [_], _ => rfl
  have b__law_ways : L2.Binds K fd__law_ways ["_law_parts", "_law_start"] [] := FunD.bindsN D__law_ways fun _ _ _ _ _ _ us hl => match us, hl with | [_, _], _ => rfl
  have b__law_hidden : L2.Binds K fd__law_hidden ["_law_pool_here", "_law_parts", "_law_part", "_law_wanted"] [] := FunD.bindsN D__law_hidden fun _ _ _ _ _ _ us hl => match us, hl with | [_, _, _, _], _ => rfl
  have b__law_windows : L2.Binds K fd__law_windows ["_law_text_here", "_law_size"] [] := FunD.bindsN D__law_windows fun _ _ _ _ _ _ us hl => match us, hl with | [_, _], _ => rfl
  have b__law_text : L2.Binds K fd__law_text ["_law_pool_here", "_law_most", "_law_letters"] [] := FunD.bindsN D__law_text fun _ _ _ _ _ _ us hl => match us, hl with | [_, _, _], _ => rfl
  have b__law_window_net : L2.Binds K fd__law_window_net ["_law_words"] [] := FunD.bindsN D__law_window_net fun _ _ _ _ _ _ us hl => match us, hl with | [_], _ => rfl
  have b__law_root : L2.Binds K fd__law_root ["_law_text_here"] [] := FunD.bindsN D__law_root fun _ _ _ _ _ _ us hl => match us, hl with | [_], _ => rfl
  have b__law_same_ring : L2.Binds K fd__law_same_ring ["_law_one", "_law_two"] [] := FunD.bindsN D__law_same_ring fun _ _ _ _ _ _ us hl => match us, hl with | [_, _], _ => rfl
  have b__law_due : L2.Binds K fd__law_due ["_law_text_here"] [] := FunD.bindsN D__law_due fun _ _ _ _ _ _ us hl => match us, hl with | [_], _ => rfl
  have b__law_refused : L2.Binds K fd__law_refused ["_law_thing"] [] := FunD.bindsN D__law_refused fun _ _ _ _ _ _ us hl => match us, hl with | [_], _ => rfl
  have b__law_all_alike : L2.Binds K fd__law_all_alike ["_law_script", "_law_text_here", "_law_size"] [] := FunD.bindsN D__law_all_alike fun _ _ _ _ _ _ us hl => match us, hl with | [_, _, _], _ => rfl
  have b_m__init__ : L2.Binds K fd_m__init__ ["self"] [] := FunD.bindsN D_m__init__ fun _ _ _ _ _ _ us hl => match us, hl with | [_], _ => rfl
  have b_mpost : L2.Binds K fd_mpost ["self", "name"] [] := FunD.bindsN D_mpost fun _ _ _ _ _ _ us hl => match us, hl with | [_, _], _ => rfl
  have b_mlane : L2.Binds K fd_mlane ["self", "name", "start", "end"] [] := FunD.bindsN D_mlane fun _ _ _ _ _ _ us hl => match us, hl with | [_, _, _, _], _ => rfl
  have b_iBadName : L2.Binds K fd_iBadName ["self", "name"] [] := FunD.bindsN D_iBadName fun _ _ _ _ _ _ us hl => match us, hl with | [_, _], _ => rfl
  have b_iNameTaken : L2.Binds K fd_iNameTaken ["self", "name"] [] := FunD.bindsN D_iNameTaken fun _ _ _ _ _ _ us hl => match us, hl with | [_, _], _ => rfl
  have b_iNoPost : L2.Binds K fd_iNoPost ["self", "name"] [] := FunD.bindsN D_iNoPost fun _ _ _ _ _ _ us hl => match us, hl with | [_, _], _ => rfl
  have b_iBadWord : L2.Binds K fd_iBadWord ["self", "word"] [] := FunD.bindsN D_iBadWord fun _ _ _ _ _ _ us hl => match us, hl with | [_, _], _ => rfl
  have b_iBadNumber : L2.Binds K fd_iBadNumber ["self", "value"] [] := FunD.bindsN D_iBadNumber fun _ _ _ _ _ _ us hl => match us, hl with | [_, _], _ => rfl
  have b_pposts : L2.Binds K fd_pposts ["self"] [] := FunD.bindsN D_pposts fun _ _ _ _ _ _ us hl => match us, hl with | [_], _ => rfl
  have b_planes : L2.Binds K fd_planes ["self"] [] := FunD.bindsN D_planes fun _ _ _ _ _ _ us hl => match us, hl with | [_], _ => rfl
  refine ⟨fd_law, fun s v => b s [v] rfl, fun base _ _ => ?_⟩
  have E_BadName : Err1 P w K mg base "BadName" "name" (He.ga K "BadName") := err1_of eBadName tak (gg "BadName" (by decide)) (ok_ini1 (f := "name") D_iBadName ⟨rfl, rfl, rfl, by decide +kernel, rfl, by decide +kernel, by decide +kernel⟩ rfl (errB_ok (He.ba eBadName).1 tak).1 ((iniB_ok (He.ba eBadName).2).no "name" (by decide)) (by decide) (by decide)) b_iBadName
  have E_NameTaken : Err1 P w K mg base "NameTaken" "name" (He.ga K "NameTaken") := err1_of eNameTaken tak (gg "NameTaken" (by decide)) (ok_ini1 (f := "name") D_iNameTaken ⟨rfl, rfl, rfl, by decide +kernel, rfl, by decide +kernel, by decide +kernel⟩ rfl (errB_ok (He.ba eNameTaken).1 tak).1 ((iniB_ok (He.ba eNameTaken).2).no "name" (by decide)) (by decide) (by decide)) b_iNameTaken
  have E_NoPost : Err1 P w K mg base "NoPost" "name" (He.ga K "NoPost") := err1_of eNoPost tak (gg "NoPost" (by decide)) (ok_ini1 (f := "name") D_iNoPost ⟨rfl, rfl, rfl, by decide +kernel, rfl, by decide +kernel, by decide +kernel⟩ rfl (errB_ok (He.ba eNoPost).1 tak).1 ((iniB_ok (He.ba eNoPost).2).no "name" (by decide)) (by decide) (by decide)) b_iNoPost
  have E_BadWord : Err1 P w K mg base "BadWord" "word" (He.ga K "BadWord") := err1_of eBadWord tak (gg "BadWord" (by decide)) (ok_ini1 (f := "word") D_iBadWord ⟨rfl, rfl, rfl, by decide +kernel, rfl, by decide +kernel, by decide +kernel⟩ rfl (errB_ok (He.ba eBadWord).1 tak).1 ((iniB_ok (He.ba eBadWord).2).no "word" (by decide)) (by decide) (by decide)) b_iBadWord
  have E_BadNumber : Err1 P w K mg base "BadNumber" "value" (He.ga K "BadNumber") := err1_of eBadNumber tak (gg "BadNumber" (by decide)) (ok_ini1 (f := "value") D_iBadNumber ⟨rfl, rfl, rfl, by decide +kernel, rfl, by decide +kernel, by decide +kernel⟩ rfl (errB_ok (He.ba eBadNumber).1 tak).1 ((iniB_ok (He.ba eBadNumber).2).no "value" (by decide)) (by decide) (by decide)) b_iBadNumber
  have G_isname := ok_isname (P := P) (w := w) (base := base) D_is_name (fr "isinstance" (by decide)) (fr "str" (by decide)) (fr "len" (by decide)) (fr "all" (by decide)) gL gDg gO
  have G_chkn := ok_chkn D_check_name D_is_name (gg "is_name" (by decide)) G_isname E_BadName
  have G_posts := ok_posts (P := P) (w := w) (base := base) D_pposts net.cls (net.no "_posts" (by decide)) (fr "tuple" (by decide))
  have G_lanes := ok_lanes (P := P) (w := w) (base := base) D_planes net.cls (net.no "_ends" (by decide)) (fr "tuple" (by decide))
  have G_chkp := ok_chkp D_check_posts net.cls pP b_pposts G_posts E_NoPost
  have G_post := ok_post D_mpost net.cls (net.no "_posts" (by decide)) D_check_name (gg "check_name" (by decide)) G_chkn E_NameTaken
  have G_lane := ok_lane D_mlane net.cls (net.no "_ends" (by decide)) D_check_name (gg "check_name" (by decide)) G_chkn E_NameTaken D_check_posts (gg "check_posts" (by decide)) G_chkp
  have G_init := ok_nini (P := P) (w := w) (mg := mg) (base := base) D_m__init__ net.cls (net.no "_posts" (by decide)) (net.no "_ends" (by decide))
  have N : ND P w K mg base (He.ga K "Net") (He.ga K "BadName") (He.ga K "NameTaken") (He.ga K "NoPost") (He.ga K "NoLane") :=
    { cls := net.cls
      post := ⟨_, _, _, G_post, net.me "post" (by decide), b_mpost⟩
      lane := ⟨_, _, _, G_lane, net.me "lane" (by decide), b_mlane⟩
      posts := ⟨_, _, _, _, G_posts, pP, b_pposts⟩
      lanes := ⟨_, _, _, _, G_lanes, pL, b_planes⟩
      new := ⟨_, _, _, G_init, M, b_m__init__, (gg "Net" (by decide))⟩ }
  have TCe : Fu P w K mg base L2.CX0 1 "_law_cell" (spCell K) := .of (ok_cell D__law_cell (fr "len" (by decide))) (gg "_law_cell" (by decide)) D__law_cell.kp b__law_cell
  have TPo : Fu P w K mg base L2.CX0 1 "_law_pool" Vp.spPool := .of (ok_pool D__law_pool (fr "int" (by decide))) (gg "_law_pool" (by decide)) D__law_pool.kp b__law_pool
  have TT : Fu P w K mg base L2.CX0 1 "_law_take" Vp.spTake := .of (ok_take D__law_take (fr "int" (by decide))) (gg "_law_take" (by decide)) D__law_take.kp b__law_take
  have TMx : Fu P w K mg base L2.CX0 2 "_law_mixed" spMixed := .of (ok_mixed D__law_mixed D__law_take (gg "_law_take" (by decide)) (fr "int" (by decide)) (fr "len" (by decide)) (fr "range" (by decide)) (fr "list" (by decide))) (gg "_law_mixed" (by decide)) D__law_mixed.kp b__law_mixed
  have E_EmptyWalk : Err0 K mg "EmptyWalk" (He.ga K "EmptyWalk") := by
    obtain ⟨h1, h2⟩ := He.ba emf
    obtain ⟨h2, h3⟩ := He.ba h2
    obtain ⟨h3, h4⟩ := He.ba h3
    exact ⟨h1, of_decide_eq_true h2, of_decide_eq_true h3, h4, (gg "EmptyWalk" (by decide))⟩
  have RG_isint := R61.ok_isint (P := P) (w := w) (base := base) D_is_integer (fr "isinstance" (by decide)) (fr "int" (by decide)) (fr "bool" (by decide))
  have TII : Fu P w K mg base L2.CX0 1 "is_integer" (R61.spIsInt K) := .of RG_isint (gg "is_integer" (by decide)) D_is_integer.kp b_is_integer
  have TCw : Fu P w K mg base (L2.CX P w) 3 "_check_word" (spCkW K (He.ga K "BadWord")) := .of (ok_cw D__check_word E_BadWord (fr "isinstance" (by decide)) (fr "str" (by decide)) (fr "len" (by decide)) (fr "all" (by decide)) gL) (gg "_check_word" (by decide)) D__check_word.kp b__check_word
  have TCs : Fu P w K mg base (L2.CX P w) 4 "_check_words" (spCkS K (He.ga K "BadWord") (He.ga K "EmptyWalk")) := .of (ok_cs D__check_words TCw E_BadWord E_EmptyWalk (fr "len" (by decide)) gSW gLW) (gg "_check_words" (by decide)) D__check_words.kp b__check_words
  have TWo : Fu P w K mg base (L2.CX P w) 4 "_windows_in_order" (spWo K (He.ga K "BadWord") (He.ga K "BadNumber")) := .of (ok_wo D__windows_in_order TCw TII E_BadNumber (fr "len" (by decide)) (fr "range" (by decide)) gSW gLW gLT) (gg "_windows_in_order" (by decide)) D__windows_in_order.kp b__windows_in_order
  have TWi : Fu P w K mg base (L2.CX P w) 5 "windows" (spWi K (He.ga K "BadWord") (He.ga K "BadNumber")) := .of (ok_wi D_windows TWo (fr "sorted" (by decide)) (fr "set" (by decide))) (gg "windows" (by decide)) D_windows.kp b_windows
  have TWn : Fu P w K mg base (L2.CX P w) 6 "window_net" (spWn K (He.ga K "Net") (He.ga K "BadWord") (He.ga K "EmptyWalk")) := .of (ok_wnet D_window_net N TCs (fr "sorted" (by decide)) (fr "set" (by decide))) (gg "window_net" (by decide)) D_window_net.kp b_window_net
  have TLw : Fu P w K mg base L2.CX0 1 "_law_windows" spLw := .of (ok_lw D__law_windows (fr "len" (by decide)) (fr "range" (by decide)) (fr "sorted" (by decide)) (fr "str" (by decide))) (gg "_law_windows" (by decide)) D__law_windows.kp b__law_windows
  have TTx : Fu P w K mg base L2.CX0 2 "_law_text" spTx := .of (ok_tx D__law_text TT (fr "len" (by decide)) (fr "range" (by decide))) (gg "_law_text" (by decide)) D__law_text.kp b__law_text
  have TLn : Fu P w K mg base L2.CX0 1 "_law_window_net" (spLn K) := .of (ok_ln D__law_window_net (fr "sorted" (by decide)) (fr "str" (by decide))) (gg "_law_window_net" (by decide)) D__law_window_net.kp b__law_window_net
  have TKb : Fu P w K mg base (L2.CX P w) 7 "known_by" (spKb K (He.ga K "BadWord")) := .of (ok_kb D_known_by N TWi TWn (fr "range" (by decide)) (fr "len" (by decide)) gSW gLW) (gg "known_by" (by decide)) D_known_by.kp b_known_by
  have TDu : Fu P w K mg base L2.CX0 2 "_law_due" spDu := .of (ok_du D__law_due TLw TLn (fr "range" (by decide)) (fr "len" (by decide))) (gg "_law_due" (by decide)) D__law_due.kp b__law_due
  have TRo : Fu P w K mg base L2.CX0 1 "_law_root" spRo := .of (ok_ro D__law_root (fr "len" (by decide))) (gg "_law_root" (by decide)) D__law_root.kp b__law_root
  have TSr : Fu P w K mg base L2.CX0 1 "_law_same_ring" spSr := .of (ok_sr D__law_same_ring (fr "len" (by decide))) (gg "_law_same_ring" (by decide)) D__law_same_ring.kp b__law_same_ring
  have TRe : Fu P w K mg base L2.CX0 8 "_law_refused" (spRe K) := .of (ok_re D__law_refused TKb E_BadWord (by
    have := exmF_ok exm (x := "BadWord") (y := "BadWord") (by decide) (by decide)
    rw [decide_eq_true rfl] at this
    exact this)) (gg "_law_refused" (by decide)) D__law_refused.kp b__law_refused
  have TEn : Fu P w K mg base L2.CX0 1 "_law_ends" J61.spEn := .of (J61.ok_en D__law_ends) (gg "_law_ends" (by decide)) D__law_ends.kp b__law_ends
  have TWy : Fu P w K mg base L2.CX0 1 "_law_ways" J61.spWy := .of (J61.ok_wy D__law_ways (fr "len" (by decide))) (gg "_law_ways" (by decide)) D__law_ways.kp b__law_ways
  have THi : Fu P w K mg base L2.CX0 3 "_law_hidden" (J61.spHi K) := .of (J61.ok_hi D__law_hidden TEn TWy TT TMx (fr "len" (by decide)) (fr "list" (by decide)) (fr "range" (by decide))) (gg "_law_hidden" (by decide)) D__law_hidden.kp b__law_hidden
  have TAl : Fu P w K mg base L2.CX0 4 "_law_all_alike" (spAl K) := .of (ok_al D__law_all_alike TLw TLn TCe TPo THi TRo TSr (fr "range" (by decide))) (gg "_law_all_alike" (by decide)) D__law_all_alike.kp b__law_all_alike
  exact ok_law D_law TCe TPo TT TTx TDu TAl TRe TKb (fr "range" (by decide)) (fr "len" (by decide))
end K61
open PySem PySem.W PySem.Calls PyProof.Rows
theorem PySem.Challenge.cw_alsoshown_k61_known_by_windows_holds : PySem.Challenge.rw_alsoshown_k61_known_by_windows.Holds := by
  w_on; o_law
  refine HandSHeadRun.head_any (r := OpenLaw.row PySem.Challenge.rw_alsoshown_k61_known_by_windows) (q := view (OpenLaw.row PySem.Challenge.rw_alsoshown_k61_known_by_windows).prog [49]) (H := K61.hk) (ob := K61.ob) (M := 20000) (loose := K61.loose)
    (d := HandSHeadRun.topDef (OpenLaw.row PySem.Challenge.rw_alsoshown_k61_known_by_windows).prog 49) (kwd := []) K61.ob_eq
    (by kernel_rfl) (fun s => by kernel_rfl) K61.run (by kernel_rfl) (by kernel_rfl) (by kernel_rfl) (by rfl) (by first | assumption | decide +kernel) (by decide +kernel) ⟨rfl, rfl, rfl, rfl, rfl, by decide +kernel⟩ ?hw ?hc
  case hw => w_witness2
  case hc =>
    refine L2.walk_ofE (l := PySem.Challenge.rw_alsoshown_k61_known_by_windows) (n := 63) (k := 9) (x := "_law_script") (CX := L2.CX0) rfl (by decide) (by kernel_rfl) ⟨rfl, by decide, by decide⟩ ?F (fun _ _ _ _ z => z)
    intro w mg fa h Y G hmg0
    obtain ⟨K, KX, c⟩ := Y
    have hmg : mg ("law" : PySem.Str) = some (.ref fa) := by
      have e : (HandSHeadRun.topDef (OpenLaw.row PySem.Challenge.rw_alsoshown_k61_known_by_windows).prog 49).name = ("law" : PySem.Str) := by kernel_rfl
      rw [← e]
      exact hmg0
    obtain ⟨fd, hb, hF⟩ := K61.facts_ok (P := (PySem.Challenge.rw_alsoshown_k61_known_by_windows).prog) (w := w) KX G hmg c
    exact ⟨K, fd, K61.spLaw K, KX, hb, fun H a ns hl _ hS => ⟨a, ns, rfl, hS, fun _ => rfl⟩, hF⟩
#print axioms PySem.Challenge.cw_alsoshown_k61_known_by_windows_holds
